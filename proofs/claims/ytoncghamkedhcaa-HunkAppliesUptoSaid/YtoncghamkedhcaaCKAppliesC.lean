/-
  HunkApplies: for every list of lines and every list of pieces: what the pieces make of the list, or the refusal, is the document's, at a second call too; the list that is handed in stays as it is, and its memory behind it; what the calls answer is new memory.
  It is said of the code of package hunk as it landed, for every argument of the given row's domain, in the second form: what comes in is of bulk at most 1048576. The law returns true, and writes nothing that was there. No other condition.
-/
import Derived.Test.YtoncghamkedhcaaT3
import Derived.Deep.QuietTactic
import Derived.BigQuiet
import Derived.ProofKit
import Derived.OpenShut
import Derived.ShutString
import Derived.Deep.Slices
import Derived.Deep.Fields
import Derived.ChangeSame
import Derived.Test.YtoncghamkedhcaaRows
import Derived.Deep.CondSized
import Derived.ChangeOld
import Derived.Below
import Derived.JoinedCond
namespace Go.Proofs.Ytoncghamkedhcaa.Aq
open Go.RowKit Tx
set_option linter.unusedVariables false
def MK : ByteArray := ⟨#[97, 98, 99, 100, 101, 102, 103, 104, 105, 106, 107, 108, 109, 110, 111, 112, 113, 114, 115, 116, 117, 118, 119, 120, 121, 122]⟩
def was (j : Nat) : ByteArray := ⟨#[119, 97, 115]⟩ ++ MK.extract (j % 26) (j % 26 + 1)
def new (j : Nat) : ByteArray := ⟨#[110, 101, 119]⟩ ++ MK.extract (j % 26) (j % 26 + 1)
structure Ls where
  m : Nat
  A : Nat → Option Addr
  N : Nat → Nat
  C : Nat → Nat
  bo : Nat
  B : Nat
namespace Ls
variable (L : Ls)
def val (j : Nat) : Value := .slice (L.A j) (L.N j) (L.C j)
def cells (w : World) : Prop := ∀ j, j < L.m → w.cell? ⟨L.bo, j, none⟩ = some (.slice (L.A j) (L.N j) (L.C j))
def far : Prop := (∀ i j, i < L.m → j < L.m → i ≠ j → ∀ x, L.A i = some x → L.A j ≠ some x) ∧ ∀ j, j < L.m → ∀ g, L.A j = some ⟨g, 0, none⟩ → g ≠ L.bo
def marked (w : World) (i k : Nat) : Prop := ∀ j, j < L.m → ∃ xs, w.ownsRow L.B 9 1 (.slice (L.A j) (L.N j) (L.C j)) (L.N j) xs ∧ ∀ l, l < L.N j → (j < i ∨ j = i ∧ l < k) → xs[l]? = some (.string (was j))
end Ls
theorem marked_next {L : Ls} {w : World} {i : Nat} (h : L.marked w i (L.N i)) : L.marked w (i + 1) 0 := by
  intro j hj
  obtain ⟨xs, h1, h2⟩ := h j hj
  refine ⟨xs, h1, fun l hl hh => h2 l hl ?_⟩
  rcases hh with hh | ⟨_, hh⟩
  · by_cases e : j = i
    · subst e; exact .inr ⟨rfl, hl⟩
    · exact .inl (by omega)
  · omega
theorem addr_eq {A : Option Addr} {n c : Nat} {w : World} {B : Nat} {e : TypeId} {xs : List Value} (h : w.ownsRow B e 1 (.slice A n c) n xs) (hn : 0 < n) : ∃ g, A = some ⟨g, 0, none⟩ ∧ B ≤ g := by
  obtain ⟨g, cap, hv, hg, _⟩ := h.form hn
  injection hv with ha
  exact ⟨g, ha, hg⟩
theorem marked_store {L : Ls} {w : World} {i k g : Nat} (hf : L.far) (h : L.marked w i k) (hi : i < L.m) (hk : k < L.N i) (ha : L.A i = some ⟨g, 0, none⟩) : L.marked (w.setCell ⟨g, k, none⟩ (.string (was i))) i (k + 1) := by
  intro j hj
  obtain ⟨xs, h1, h2⟩ := h j hj
  by_cases e : j = i
  · subst e
    rw [ha] at h1 ⊢
    refine ⟨xs.set k (.string (was j)), own_store h1 hk _, fun l hl hh => ?_⟩
    have hl2 : k < xs.length := by rw [h1.1]; omega
    by_cases e2 : l = k
    · subst e2
      exact List.getElem?_set_self hl2
    · rw [List.getElem?_set_ne (fun e => e2 e.symm)]
      exact h2 l hl (.inr ⟨rfl, by rcases hh with hh | ⟨_, hh⟩ <;> omega⟩)
  · refine ⟨xs, own_far h1 ?_ _, fun l hl hh => h2 l hl ?_⟩
    · intro hb
      cases hA : L.A j with
      | none => rw [hA] at hb; simp [Value.ownBlock] at hb
      | some x =>
        by_cases h0 : L.N j = 0
        · rcases h1.2 with ⟨hv, _⟩ | ⟨g', cap', cur, hv, _⟩
          · rw [hA] at hv; cases hv
          · rw [hA] at hv hb
            injection hv with hx
            injection hx with hx
            subst hx
            simp only [Value.ownBlock, Option.some.injEq] at hb
            subst hb
            exact hf.1 j i hj hi e _ hA ha
        · obtain ⟨g', ha', _⟩ := addr_eq h1 (by omega)
          rw [hA] at ha' hb
          injection ha' with hx
          subst hx
          simp only [Value.ownBlock, Option.some.injEq] at hb
          subst hb
          exact hf.1 j i hj hi e _ hA ha
    · rcases hh with hh | ⟨hh, _⟩
      · exact .inl hh
      · exact absurd hh e
theorem cells_store {L : Ls} {w : World} {i k g : Nat} (hf : L.far) (h : L.cells w) (hi : i < L.m) (ha : L.A i = some ⟨g, 0, none⟩) (u : Value) : L.cells (w.setCell ⟨g, k, none⟩ u) := by
  intro j hj
  have hne := hf.2 i hi g ha
  rw [World.cell?_setCell_other _ _ _ _ (fun e => hne (by injection e))]
  exact h j hj
def sw (j : Nat) : Value := .string (was j)
def sn (j : Nat) : Value := .string (new j)
def row (L : Ls) (j k : Nat) : List Value := List.replicate (L.N j) (sw j) ++ List.replicate k (sn j)
theorem row_was {L : Ls} {j k l : Nat} (h : l < L.N j) : (row L j k)[l]? = some (sw j) := by
  rw [row, List.getElem?_append_left (by simpa using h), List.getElem?_replicate, if_pos h]
theorem row_new {L : Ls} {j k l : Nat} (h : ¬ l < L.N j) (h2 : l < L.N j + k) : (row L j k)[l]? = some (sn j) := by
  rw [row, List.getElem?_append_right (by simp; omega), List.length_replicate, List.getElem?_replicate, if_pos (by omega)]
theorem row_zero (L : Ls) (j : Nat) : row L j 0 = List.replicate (L.N j) (sw j) := by simp [row]
theorem row_step (L : Ls) (j k : Nat) : row L j k ++ [sn j] = row L j (k + 1) := by
  rw [row, row, List.append_assoc, List.replicate_succ']
theorem own_same {w w1 : World} {base n : Nat} {e : TypeId} {v : Value} {xs : List Value} (h : w.ownsRow base e 1 v n xs) (hk : ∀ q, q < w.heap.size → v.ownBlock = some q → w1.heap[q]? = w.heap[q]?) : w1.ownsRow base e 1 v n xs := by
  refine ⟨h.1, ?_⟩
  rcases h.2 with h0 | ⟨g, cap, cur, rfl, hb, hh, r⟩
  · exact .inl h0
  · exact .inr ⟨g, cap, cur, rfl, hb, (hk g (Array.getElem?_eq_some_iff.1 hh).1 rfl).trans hh, r⟩
theorem own_lt {w : World} {base n : Nat} {e : TypeId} {v : Value} {xs : List Value} (h : w.ownsRow base e 1 v n xs) {g : Nat} (hg : v.ownBlock = some g) : base ≤ g ∧ g < w.heap.size := h.lt g hg
theorem cell_same {w w1 : World} {g k : Nat} {u : Value} (h : w.cell? ⟨g, k, none⟩ = some u) (hk : w1.heap[g]? = w.heap[g]?) : w1.cell? ⟨g, k, none⟩ = some u := (World.cell?_of_block (a := ⟨g, k, none⟩) hk).trans h
structure Inv (L : Ls) (w0 : World) (H i r : Nat) (w : World) (v6 : Value) (vs : List Value) (b c : Nat → Nat) : Prop where
  cells : L.cells w
  held : ∀ j, j < L.m → ∀ l, l < L.N j → ∃ g, L.A j = some ⟨g, 0, none⟩ ∧ w.cell? ⟨g, l, none⟩ = some (sw j)
  rows : ∀ j, r ≤ j → j < L.m → w.ownsRow L.B 9 1 (.slice (L.A j) (L.N j) (L.C j)) (L.N j) (row L j 0)
  outer : w.ownsRow L.B 22 1 v6 i vs
  high : ∀ g, v6.ownBlock = some g → H ≤ g
  long : ∀ j, j < i → vs[j]? = some (.slice (some ⟨b j, 0, none⟩) (L.N j + 20) (c j)) ∧ w.ownsRow L.B 9 1 (.slice (some ⟨b j, 0, none⟩) (L.N j + 20) (c j)) (L.N j + 20) (row L j 20) ∧ (L.A j = some ⟨b j, 0, none⟩ ∨ H ≤ b j)
  apart : ∀ j k, j < i → k < i → j ≠ k → b j ≠ b k
  low : ∀ j, j < L.m → ∀ g, L.A j = some ⟨g, 0, none⟩ → g < H
  bo : L.bo < H
  size : H ≤ w.heap.size
  below : Below L.B w0 w
  base : L.B ≤ H
structure Cur (L : Ls) (H i k : Nat) (w : World) (v : Value) (b : Nat → Nat) : Prop where
  own : w.ownsRow L.B 9 1 v (L.N i + k) (row L i k)
  at_ : ∀ g, v.ownBlock = some g → (L.A i = some ⟨g, 0, none⟩ ∨ H ≤ g) ∧ ∀ j, j < i → b j ≠ g
theorem inv_start {L : Ls} {w0 w : World} (hf : L.far) (hc : L.cells w) (hm : L.marked w L.m 0) (hbo : L.bo < w.heap.size) (hB : L.B ≤ w.heap.size) (hb : Below L.B w0 w) : Inv L w0 w.heap.size 0 0 w (.slice none 0 0) [] (fun _ => 0) (fun _ => 0) := by
  have hrow : ∀ j, j < L.m → w.ownsRow L.B 9 1 (.slice (L.A j) (L.N j) (L.C j)) (L.N j) (row L j 0) := by
    intro j hj
    obtain ⟨xs, h1, h2⟩ := hm j hj
    have e : xs = row L j 0 := by
      rw [row_zero]
      apply List.ext_getElem?
      intro l
      rw [List.getElem?_replicate]
      by_cases hl : l < L.N j
      · rw [if_pos hl]; exact h2 l hl (.inl hj)
      · rw [if_neg hl, List.getElem?_eq_none (by rw [h1.1]; omega)]
    rw [← e]
    exact h1
  refine ⟨hc, ?_, fun j _ hj => hrow j hj, World.ownsRow_nil _ _ _ _, fun g hg => by simp [Value.ownBlock] at hg, fun j hj => absurd hj (by omega), fun j k hj => absurd hj (by omega), ?_, hbo, Nat.le_refl _, hb, hB⟩
  · intro j hj l hl
    have h1 := hrow j hj
    obtain ⟨g, ha, _⟩ := addr_eq h1 (by omega)
    rw [ha] at h1
    exact ⟨g, ha, own_cell h1 (row_was hl)⟩
  · intro j hj g ha
    have h1 := hrow j hj
    rw [ha] at h1
    exact (own_lt h1 rfl).2
theorem cur_start {L : Ls} {w0 w : World} {H i r : Nat} {v6 : Value} {vs : List Value} {b c : Nat → Nat} (hf : L.far) (h : Inv L w0 H i r w v6 vs b c) (hr : r ≤ i) (hi : i < L.m) : Cur L H i 0 w (.slice (L.A i) (L.N i) (L.C i)) b := by
  have h1 := h.rows i hr hi
  refine ⟨h1, fun g hg => ?_⟩
  have ha : L.A i = some ⟨g, 0, none⟩ := by
    rcases h1.2 with ⟨hv, _⟩ | ⟨g', cap', cur, hv, _⟩
    · rw [hv] at hg; simp [Value.ownBlock] at hg
    · rw [hv] at hg
      simp only [Value.ownBlock, Option.some.injEq] at hg
      subst hg
      injection hv
  refine ⟨.inl ha, fun j hj e => ?_⟩
  rcases (h.long j hj).2.2 with h2 | h2
  · rw [e] at h2
    exact hf.1 j i (by omega) hi (by omega) _ h2 ha
  · have := h.low i hi g ha
    omega
theorem cur_step {L : Ls} {w0 w w1 : World} {H i k r : Nat} {v v1 v6 : Value} {vs : List Value} {b c : Nat → Nat} {o : Obj} (hf : L.far) (h : Inv L w0 H i r w v6 vs b c) (hi : i < L.m) (hc : Cur L H i k w v b)
    (hown : w1.ownsRow L.B 9 1 v1 (L.N i + k + 1) (row L i k ++ [sn i]))
    (hg : (v1.ownBlock = v.ownBlock ∧ (w.alloc o).grownBy w1 v.ownBlock) ∨ (v1.ownBlock = some (w.heap.size + 1) ∧ (w.alloc o).grownBy w1 none)) :
    (∀ q, q < w.heap.size → (∀ g, v.ownBlock = some g → q ≠ g) → w1.heap[q]? = w.heap[q]?) ∧ Cur L H i (k + 1) w1 v1 b ∧ w.heap.size ≤ w1.heap.size ∧ Below L.B w0 w1 ∧
      (∀ q, L.A i = some ⟨q, 0, none⟩ → ∀ l, l < L.N i → w1.cell? ⟨q, l, none⟩ = some (sw i)) := by
  have hB : L.B ≤ w.heap.size := Nat.le_trans h.base h.size
  have hal : w.heap.size + 1 = (w.alloc o).heap.size := (World.size_alloc _ _).symm
  have hk : ∀ q, q < w.heap.size → (∀ g, v.ownBlock = some g → q ≠ g) → w1.heap[q]? = w.heap[q]? := by
    intro q hq hne
    rcases hg with ⟨_, hg⟩ | ⟨_, hg⟩
    · exact (hg.block q (by omega) (fun e => hne q e.symm rfl)).trans (Below.heap_alloc w o q hq)
    · exact (hg.block q (by omega) (by simp)).trans (Below.heap_alloc w o q hq)
  have hown2 : w1.ownsRow L.B 9 1 v1 (L.N i + (k + 1)) (row L i (k + 1)) := by
    rw [← row_step]
    exact hown
  have hsz : w.heap.size ≤ w1.heap.size := by
    rcases hg with ⟨_, hg⟩ | ⟨_, hg⟩
    · have := hg.size; omega
    · have := hg.size; omega
  have hbel : Below L.B w0 w1 := by
    have h2 := h.below.alloc hB o
    rcases hg with ⟨_, hg⟩ | ⟨_, hg⟩
    · exact h2.grown hg (by omega) (fun q hq => (own_lt hc.own hq).1)
    · exact h2.grown hg (by omega) (fun q hq => by cases hq)
  refine ⟨hk, ⟨hown2, fun g hg1 => ?_⟩, hsz, hbel, fun q hq l hl => ?_⟩
  · rcases hg with ⟨he, _⟩ | ⟨he, _⟩
    · exact hc.at_ g (by rw [← he]; exact hg1)
    · rw [he] at hg1
      injection hg1 with hg1
      have hs := h.size
      refine ⟨.inr (by omega), fun j hj e => ?_⟩
      have h9 : b j < w.heap.size := (own_lt (h.long j hj).2.1 rfl).2
      omega
  · by_cases hv : v.ownBlock = some q
    · rcases hg with ⟨he, _⟩ | ⟨_, hg⟩
      · obtain ⟨g', cap', hv', _, _⟩ := hown2.form (by omega)
        rw [hv'] at he hown2
        rw [hv] at he
        simp only [Value.ownBlock, Option.some.injEq] at he
        subst he
        exact own_cell hown2 (row_was hl)
      · obtain ⟨g', hA, hcell⟩ := h.held i hi l hl
        rw [hq] at hA
        injection hA with hA
        injection hA with hA
        subst hA
        have hq' := World.block_lt_of_cell? w _ hcell
        exact cell_same hcell ((hg.block q (by have : q < w.heap.size := hq'; omega) (by simp)).trans (Below.heap_alloc w o q hq'))
    · obtain ⟨g', hA, hcell⟩ := h.held i hi l hl
      rw [hq] at hA
      injection hA with hA
      injection hA with hA
      subst hA
      exact cell_same hcell (hk q (World.block_lt_of_cell? w _ hcell) (fun g hg e => hv (by rw [hg, e])))
theorem inv_step {L : Ls} {w0 w w1 : World} {H i k r : Nat} {v v6 : Value} {vs : List Value} {b c : Nat → Nat} (hf : L.far) (h : Inv L w0 H i r w v6 vs b c) (hi : i < L.m) (hc : Cur L H i k w v b) (rowsi : ∀ j, i < j → j < L.m → w.ownsRow L.B 9 1 (.slice (L.A j) (L.N j) (L.C j)) (L.N j) (row L j 0))
    (hk : ∀ q, q < w.heap.size → (∀ g, v.ownBlock = some g → q ≠ g) → w1.heap[q]? = w.heap[q]?) (hsz : w.heap.size ≤ w1.heap.size) (hbel : Below L.B w0 w1)
    (hi1 : ∀ q, L.A i = some ⟨q, 0, none⟩ → ∀ l, l < L.N i → w1.cell? ⟨q, l, none⟩ = some (sw i)) :
    L.cells w1 ∧ (∀ j, j < L.m → ∀ l, l < L.N j → ∃ g, L.A j = some ⟨g, 0, none⟩ ∧ w1.cell? ⟨g, l, none⟩ = some (sw j)) ∧
      (∀ j, i < j → j < L.m → w1.ownsRow L.B 9 1 (.slice (L.A j) (L.N j) (L.C j)) (L.N j) (row L j 0)) ∧ w1.ownsRow L.B 22 1 v6 i vs ∧
      (∀ j, j < i → vs[j]? = some (.slice (some ⟨b j, 0, none⟩) (L.N j + 20) (c j)) ∧ w1.ownsRow L.B 9 1 (.slice (some ⟨b j, 0, none⟩) (L.N j + 20) (c j)) (L.N j + 20) (row L j 20) ∧ (L.A j = some ⟨b j, 0, none⟩ ∨ H ≤ b j)) := by
  have hs := h.size
  have hbo := h.bo
  refine ⟨fun j hj => ?_, fun j hj l hl => ?_, fun j hij hj => ?_, ?_, fun j hj => ?_⟩
  · refine cell_same (h.cells j hj) (hk L.bo (by omega) (fun g hg e => ?_))
    subst e
    rcases (hc.at_ _ hg).1 with ha | ha
    · exact hf.2 i hi _ ha rfl
    · omega
  · by_cases e : j = i
    · subst e
      obtain ⟨g, ha, _⟩ := h.held j hj l hl
      exact ⟨g, ha, hi1 g ha l hl⟩
    · obtain ⟨g, ha, hcell⟩ := h.held j hj l hl
      refine ⟨g, ha, cell_same hcell (hk g (World.block_lt_of_cell? w _ hcell) (fun q hq e2 => ?_))⟩
      subst e2
      rcases (hc.at_ _ hq).1 with h2 | h2
      · exact hf.1 j i hj hi e _ ha h2
      · have := h.low j hj _ ha
        omega
  · have h1 := rowsi j hij hj
    refine own_same h1 (fun q hq hv => hk q hq (fun g hg e => ?_))
    subst e
    have ha : L.A j = some ⟨q, 0, none⟩ := by
      rcases h1.2 with ⟨hv2, _⟩ | ⟨g', cap', cur, hv2, _⟩
      · rw [hv2] at hv; simp [Value.ownBlock] at hv
      · rw [hv2] at hv
        simp only [Value.ownBlock, Option.some.injEq] at hv
        subst hv
        injection hv2
    rcases (hc.at_ _ hg).1 with h2 | h2
    · exact hf.1 j i hj hi (by omega) _ ha h2
    · have := h.low j hj _ ha
      omega
  · exact own_same h.outer (fun q hq hv => hk q hq (fun g hg e => by
      subst e
      exact types_ne hc.own h.outer (by decide) hg hv))
  · obtain ⟨h1, h2, h3⟩ := h.long j hj
    refine ⟨h1, own_same h2 (fun q hq hv => hk q hq (fun g hg e => ?_)), h3⟩
    simp only [Value.ownBlock, Option.some.injEq] at hv
    subst hv
    exact (hc.at_ g hg).2 j hj e
theorem inv_next {L : Ls} {w0 w w1 : World} {H i bv cv r : Nat} {v6 v7 : Value} {vs : List Value} {b c : Nat → Nat} {o : Obj} (hf : L.far) (h : Inv L w0 H i r w v6 vs b c) (hi : i < L.m) (hc : Cur L H i 20 w (.slice (some ⟨bv, 0, none⟩) (L.N i + 20) cv) b)
    (rowsi : ∀ j, i < j → j < L.m → w.ownsRow L.B 9 1 (.slice (L.A j) (L.N j) (L.C j)) (L.N j) (row L j 0))
    (hown : w1.ownsRow L.B 22 1 v7 (i + 1) (vs ++ [.slice (some ⟨bv, 0, none⟩) (L.N i + 20) cv]))
    (hg : (v7.ownBlock = v6.ownBlock ∧ (w.alloc o).grownBy w1 v6.ownBlock) ∨ (v7.ownBlock = some (w.heap.size + 1) ∧ (w.alloc o).grownBy w1 none)) :
    Inv L w0 H (i + 1) (i + 1) w1 v7 (vs ++ [.slice (some ⟨bv, 0, none⟩) (L.N i + 20) cv]) (fun j => if j = i then bv else b j) (fun j => if j = i then cv else c j) := by
  have hB : L.B ≤ w.heap.size := Nat.le_trans h.base h.size
  have hal : w.heap.size + 1 = (w.alloc o).heap.size := (World.size_alloc _ _).symm
  have hs := h.size
  have hbo := h.bo
  have hvl : vs.length = i := by have := h.outer.1; omega
  have hk : ∀ q, q < w.heap.size → (∀ g, v6.ownBlock = some g → q ≠ g) → w1.heap[q]? = w.heap[q]? := by
    intro q hq hne
    rcases hg with ⟨_, hg⟩ | ⟨_, hg⟩
    · exact (hg.block q (by omega) (fun e => hne q e.symm rfl)).trans (Below.heap_alloc w o q hq)
    · exact (hg.block q (by omega) (by simp)).trans (Below.heap_alloc w o q hq)
  have hsz : w.heap.size ≤ w1.heap.size := by
    rcases hg with ⟨_, hg⟩ | ⟨_, hg⟩
    · have := hg.size; omega
    · have := hg.size; omega
  have hbel : Below L.B w0 w1 := by
    have h2 := h.below.alloc hB o
    rcases hg with ⟨_, hg⟩ | ⟨_, hg⟩
    · exact h2.grown hg (by omega) (fun q hq => (own_lt h.outer hq).1)
    · exact h2.grown hg (by omega) (fun q hq => by cases hq)
  have hrow : ∀ {n : Nat} {v : Value} {xs : List Value}, w.ownsRow L.B 9 1 v n xs → w1.ownsRow L.B 9 1 v n xs := by
    intro n v xs h1
    exact own_same h1 (fun q hq hv => hk q hq (fun g hg e => by
      subst e
      exact types_ne h1 h.outer (by decide) hv hg))
  refine ⟨fun j hj => ?_, fun j hj l hl => ?_, fun j hij hj => hrow (rowsi j (by omega) hj), hown, fun g hg7 => ?_, fun j hj => ?_, fun j k hj hk2 hne => ?_, h.low, hbo, by omega, hbel, h.base⟩
  · refine cell_same (h.cells j hj) (hk L.bo (by omega) (fun g hg e => ?_))
    have := h.high g hg
    omega
  · obtain ⟨g, ha, hcell⟩ := h.held j hj l hl
    refine ⟨g, ha, cell_same hcell (hk g (World.block_lt_of_cell? w _ hcell) (fun q hq e2 => ?_))⟩
    have h1 := h.high q hq
    have h2 := h.low j hj g ha
    omega
  · rcases hg with ⟨he, _⟩ | ⟨he, _⟩
    · exact h.high g (by rw [← he]; exact hg7)
    · rw [he] at hg7
      injection hg7 with hg7
      omega
  · by_cases e : j = i
    · subst e
      rw [if_pos rfl, if_pos rfl]
      refine ⟨?_, hrow hc.own, (hc.at_ bv rfl).1⟩
      rw [List.getElem?_append_right (by omega), hvl, Nat.sub_self]
      rfl
    · rw [if_neg e, if_neg e]
      obtain ⟨h1, h2, h3⟩ := h.long j (by omega)
      refine ⟨?_, hrow h2, h3⟩
      rw [List.getElem?_append_left (by omega)]
      exact h1
  · by_cases e : j = i
    · by_cases e2 : k = i
      · omega
      · rw [if_pos e, if_neg e2]
        exact fun hh => (hc.at_ bv rfl).2 k (by omega) hh.symm
    · by_cases e2 : k = i
      · rw [if_neg e, if_pos e2]
        exact fun hh => (hc.at_ bv rfl).2 j (by omega) hh
      · rw [if_neg e, if_neg e2]
        exact h.apart j k (by omega) (by omega) hne
theorem both_step {L : Ls} {w0 w w1 : World} {H i k r : Nat} {v v1 v6 : Value} {vs : List Value} {b c : Nat → Nat} {o : Obj} (hf : L.far) (h : Inv L w0 H i r w v6 vs b c) (hr : r ≤ i + 1) (hi : i < L.m) (hc : Cur L H i k w v b)
    (hown : w1.ownsRow L.B 9 1 v1 (L.N i + k + 1) (row L i k ++ [sn i]))
    (hg : (v1.ownBlock = v.ownBlock ∧ (w.alloc o).grownBy w1 v.ownBlock) ∨ (v1.ownBlock = some (w.heap.size + 1) ∧ (w.alloc o).grownBy w1 none)) :
    Inv L w0 H i (i + 1) w1 v6 vs b c ∧ Cur L H i (k + 1) w1 v1 b := by
  obtain ⟨hk, hc1, hsz, hbel, hi1⟩ := cur_step hf h hi hc hown hg
  have rowsi := fun j (hij : i < j) (hj : j < L.m) => h.rows j (by omega) hj
  obtain ⟨a1, a2, a3, a4, a5⟩ := inv_step hf h hi hc rowsi hk hsz hbel hi1
  exact ⟨⟨a1, a2, fun j hij hj => a3 j (by omega) hj, a4, h.high, a5, h.apart, h.low, h.bo, Nat.le_trans h.size hsz, hbel, h.base⟩, hc1⟩
theorem outer_next {L : Ls} {w0 w w1 : World} {H i bv cv r : Nat} {v6 v7 : Value} {vs : List Value} {b c : Nat → Nat} {o : Obj} (hf : L.far) (h : Inv L w0 H i r w v6 vs b c) (hr : r ≤ i + 1) (hi : i < L.m) (hc : Cur L H i 20 w (.slice (some ⟨bv, 0, none⟩) (L.N i + 20) cv) b)
    (hown : w1.ownsRow L.B 22 1 v7 (i + 1) (vs ++ [.slice (some ⟨bv, 0, none⟩) (L.N i + 20) cv]))
    (hg : (v7.ownBlock = v6.ownBlock ∧ (w.alloc o).grownBy w1 v6.ownBlock) ∨ (v7.ownBlock = some (w.heap.size + 1) ∧ (w.alloc o).grownBy w1 none)) :
    ∃ b2 c2, Inv L w0 H (i + 1) (i + 1) w1 v7 (vs ++ [.slice (some ⟨bv, 0, none⟩) (L.N i + 20) cv]) b2 c2 :=
  ⟨_, _, inv_next hf h hi hc (fun j hij hj => h.rows j (by omega) hj) hown hg⟩
theorem inv_more {L : Ls} {w0 w : World} {H i r : Nat} {v6 : Value} {vs : List Value} {b c : Nat → Nat} (h : Inv L w0 H i r w v6 vs b c) (hr : r ≤ i + 1) : Inv L w0 H i (i + 1) w v6 vs b c :=
  ⟨h.cells, h.held, fun j hij hj => h.rows j (by omega) hj, h.outer, h.high, h.long, h.apart, h.low, h.bo, h.size, h.below, h.base⟩
end Go.Proofs.Ytoncghamkedhcaa.Aq

namespace Go.Proofs.Ytoncghamkedhcaa.Aq
open Go.RowKit Tx
set_option linter.unusedVariables false
theorem info33 : (Try.prog.info? 22).map (fun i => (i.zero, i.size, i.bytes)) = some (some (.slice none 0 0), 1, 24) := by kernel_rfl
end Go.Proofs.Ytoncghamkedhcaa.Aq

namespace Go.Proofs.Ytoncghamkedhcaa.Aq
open Go.RowKit Tx
set_option linter.unusedVariables false
def two (a b : Option Addr) (n ca cb bo B : Nat) : Ls := { m := 2, A := fun j => if j = 0 then a else b, N := fun _ => n, C := fun j => if j = 0 then ca else cb, bo := bo, B := B }
end Go.Proofs.Ytoncghamkedhcaa.Aq

namespace Go.Proofs.Ytoncghamkedhcaa.Aq
open Go.RowKit Tx
set_option linter.unusedVariables false
set_option maxRecDepth 100000 in
set_option maxHeartbeats 4000000 in
theorem apart_wide (L : Ls) (co : Nat) (w : World) (hm : L.m ≤ 1048576) (hN : ∀ j, j < L.m → L.N j ≤ 8796093022187) (hB : L.B ≤ w.heap.size) (hbo : L.bo < w.heap.size) (hbB : L.B ≤ L.bo) (hf : L.far) (hc : L.cells w) (hr : L.marked w 0 0) :
    Calls Try.prog 12 #[.slice (some ⟨L.bo, 0, none⟩) L.m co] w fun e w' => e = .returned (.bool true) ∧ Below L.B w w' := by
  obtain ⟨i0, hi0, hz0, hz1, hz2⟩ := info_parts info9
  obtain ⟨i33, hi33, hy0, hy1, hy2⟩ := info_parts info33
  have HN := Lib.hid hN
  have HF := Lib.hid hf
  have HC := Lib.hid hc
  have HR := Lib.hid hr
  clear hN hf hc hr
  go_enter Try.func12, Try.ntmps12
  go_wp2
  obtain ⟨M, hM⟩ : ∃ M, M = MK := ⟨_, rfl⟩
  have hM26 : 26 ≤ M.size := by rw [hM]; decide
  rw [show ({ data := #[97, 98, 99, 100, 101, 102, 103, 104, 105, 106, 107, 108, 109, 110, 111, 112, 113, 114, 115, 116, 117, 118, 119, 120, 121, 122] } : ByteArray) = MK from rfl, ← hM]
  have HM := Lib.hid hM
  clear hM
  go_loopw [4, 5] (fun i _ wr => ∃ j : Nat, j ≤ L.m ∧ i = .int .i64 j ∧ Hid (L.cells wr) ∧ Hid (L.marked wr j 0) ∧ Below L.B w wr ∧ w.heap.size ≤ wr.heap.size) (fun i _ _ => L.m - (intOf i).toNat)
  case atStart => exact ⟨0, Nat.zero_le _, rfl, HC, HR, Below.refl _ _, Nat.le_refl _⟩
  case round =>
    obtain ⟨i, hi, rfl, hcells, hmark, hb, hsz⟩ := hrel
    by_cases hlt : i < L.m
    · have hcell := hcells.out i hlt
      have hNi := HN.out i hlt
      obtain ⟨n, hn⟩ : ∃ n, n = L.N i := ⟨_, rfl⟩
      rw [← hn] at hcell hNi
      have HNN := Lib.hid hn
      clear hn
      obtain ⟨r, hr⟩ : ∃ r, r = i % 26 := ⟨_, rfl⟩
      have hrl : r < 26 := by omega
      have hr1 : (i : Int) % 26 = (r : Int) := by omega
      have hr2 : (i : Int).tmod 26 = (r : Int) := by rw [Int.tmod_eq_emod_of_nonneg (by omega)]; exact hr1
      have hr3 : IntKind.i64.wrap ((r : Int) + 1) = (r : Int) + 1 := IntWalk.i64_in _ (by omega)
      have hr4 : ((r : Int) + 1).toNat = r + 1 := by omega
      have hW : ({ data := #[119, 97, 115] } : ByteArray) ++ M.extract r (r + 1) = was i := by rw [was, HM.out, hr]
      have hWs : (M.extract r (r + 1)).size ≤ 1 := by simp; omega
      obtain ⟨Y, hY⟩ : ∃ Y, Y = was i := ⟨_, rfl⟩
      rw [← hY] at hW
      have HY := Lib.hid hY
      clear hr hY
      go_wp2
      go_loopw [5] (fun x wx => ∃ k : Nat, k ≤ n ∧ x = .int .i64 k ∧ Hid (L.cells wx) ∧ Hid (L.marked wx i k) ∧ Below L.B w wx ∧ w.heap.size ≤ wx.heap.size) (fun x _ => n - (intOf x).toNat)
      case atStart => exact ⟨0, Nat.zero_le _, rfl, hcells, hmark, hb, hsz⟩
      case round =>
        obtain ⟨k, hk, rfl, hcells2, hmark2, hb2, hsz2⟩ := hrel
        have hcell2 := hcells2.out i hlt
        rw [← HNN.out] at hcell2
        clear hcell hcells hmark hb hsz
        by_cases hkn : k < n
        · obtain ⟨xs, hx1, hx2⟩ := hmark2.out i hlt
          rw [← HNN.out] at hx1
          obtain ⟨g, ha, hg⟩ := addr_eq hx1 (by omega)
          rw [ha] at hcell2 hx1
          have hfz := own_frozen hx1 k
          have hst := own_cell hx1 (List.getElem?_eq_getElem (show k < xs.length by rw [hx1.1]; omega))
          obtain ⟨old, hold⟩ : ∃ old, old = xs[k]'(by rw [hx1.1]; omega) := ⟨_, rfl⟩
          rw [← hold] at hst
          have hkn' : (k : Int) < (n : Int) := by omega
          have hlt' : (i : Int) < (L.m : Int) := by omega
          have HX := Lib.hid hx1
          clear hx1 hx2 hold
          go_wp2
          go_region
          all_goals
            go_wp2
            go_roundw
            case rel => exact ⟨k + 1, by omega, by go_num, cells_store HF.out hcells2.out hlt ha _, by rw [HY.out]; exact marked_store HF.out hmark2.out hlt (by rw [← HNN.out]; exact hkn) ha, (hb2.setCell (p := ⟨g, k, none⟩) hg _).drew, by simpa [World.setCell] using hsz2⟩
            case measure => simp [intOf]; omega
        · obtain rfl : k = n := by omega
          have hdone : Hid (L.marked wr (i + 1) 0) := marked_next (by rw [← HNN.out]; exact hmark2.out)
          go_wp2
          go_roundw
          case rel => exact ⟨i + 1, by omega, by go_num, hcells2, hdone, hb2, hsz2⟩
          case measure => simp [intOf]; omega
    · obtain rfl : i = L.m := by omega
      clear HC HR
      have hinv := inv_start HF.out hcells.out hmark.out (by omega) (by omega) hb
      have HI := Lib.hid hinv
      obtain ⟨H, hH⟩ : ∃ H, H = wr.heap.size := ⟨_, rfl⟩
      rw [← hH] at HI
      clear hinv hH hcells hmark hb hsz hlt
      go_wp2
      go_loopw [6, 7, 8, 9] (fun v6 i _ _ wx => ∃ (k : Nat) (vs : List Value) (b c : Nat → Nat), k ≤ L.m ∧ i = .int .i64 k ∧ Hid (Inv L w H k k wx v6 vs b c)) (fun _ i _ _ _ => L.m - (intOf i).toNat)
      case atStart => exact ⟨0, [], _, _, Nat.zero_le _, rfl, HI⟩
      case round =>
        obtain ⟨i, vs, b, c, hi, rfl, HV⟩ := hrel
        clear HI
        by_cases hlt : i < L.m
        · have hcell := HV.out.cells i hlt
          have hcur := Lib.hid (cur_start HF.out HV.out (Nat.le_refl _) hlt)
          have hmore := Lib.hid (inv_more HV.out (by omega))
          have hNi := HN.out i hlt
          have hlt' : (i : Int) < (L.m : Int) := by omega
          obtain ⟨r, hr⟩ : ∃ r, r = i % 26 := ⟨_, rfl⟩
          have hrl : r < 26 := by omega
          have hr1 : (i : Int) % 26 = (r : Int) := by omega
          have hX : ({ data := #[110, 101, 119] } : ByteArray) ++ M.extract r (r + 1) = new i := by rw [new, HM.out, hr]
          have hXs : (M.extract r (r + 1)).size ≤ 1 := by simp; omega
          obtain ⟨Y, hY⟩ : ∃ Y, Y = new i := ⟨_, rfl⟩
          rw [← hY] at hX
          have HY := Lib.hid hY
          clear hr hY
          go_wp2
          go_loopw [8, 9] (fun v x wy => ∃ k : Nat, k ≤ 20 ∧ x = .int .i64 k ∧ Hid (Inv L w H i (i + 1) wy u6 vs b c) ∧ Hid (Cur L H i k wy v b)) (fun _ x _ => 20 - (intOf x).toNat)
          case atStart => exact ⟨0, by omega, rfl, hmore, hcur⟩
          case round =>
            obtain ⟨k, hk, rfl, hI, hC⟩ := hrel
            clear HV hcell hcur hmore
            have hsz := hI.out.size
            have hbs := hI.out.base
            by_cases hk20 : k < 20
            · have hown := hC.out.own
              go_wp2_with (at_builtin; refine wpList_append_two _ rfl _ _ 22 rfl L.B 9 i0 (.string ⟨#[]⟩) 16 Try.underlying22 hi0 hz0 hz1 hz2 rfl _ _ _ rfl (hown.alloc _) ⟨wr.heap.size, 0, none⟩ 1 (.string Y) rfl ?c1 rfl ?c3 ?c4 ?c5 ?_)
              case c1 => go_simp
              case c3 => omega
              case c4 => omega
              case c5 => simp; omega
              intro v1 w1 hown1 hg1
              have hst := both_step HF.out hI.out (Nat.le_refl _) hlt hC.out (by rw [HY.out] at hown1; exact hown1) hg1
              have h1 := Lib.hid hst.1
              have h2 := Lib.hid hst.2
              clear hst hown hown1 hg1
              go_wp2
              go_roundw
              case rel => exact ⟨k + 1, by omega, by go_num, h1, h2⟩
              case measure => simp [intOf]; omega
            · obtain rfl : k = 20 := by omega
              obtain ⟨bv, cv, hv, _, _⟩ := hC.out.own.form (by omega)
              rw [hv] at hC ⊢
              clear hv
              have hout := hI.out.outer
              go_wp2_with (at_builtin; refine wpList_append_two _ rfl _ _ 31 rfl L.B 22 i33 (.slice none 0 0) 24 Try.underlying31 hi33 hy0 hy1 hy2 rfl _ _ _ rfl (hout.alloc _) ⟨wr.heap.size, 0, none⟩ 1 (.slice (some ⟨bv, 0, none⟩) (L.N i + 20) cv) rfl ?c1 rfl ?c3 ?c4 ?c5 ?_)
              case c1 => go_simp
              case c3 => omega
              case c4 => omega
              case c5 => simp; omega
              intro v7 w1 hown1 hg1
              obtain ⟨b2, c2, hst⟩ := outer_next HF.out hI.out (Nat.le_refl _) hlt hC.out hown1 hg1
              have h1 := Lib.hid hst
              clear hst hout hown1 hg1
              go_wp2
              go_roundw
              case rel => exact ⟨i + 1, _, b2, c2, by omega, by go_num, h1⟩
              case measure => simp [intOf]; omega
        · obtain rfl : i = L.m := by omega
          have hbelow := HV.out.below
          by_cases hm0 : L.m = 0
          · have hm0' : (L.m : Int) ≤ 0 := by omega
            go_wp2
            go_loop [10] (fun i => i = .int .i64 0) (fun _ => 0)
            case atStart => exact rfl
            case round =>
              obtain rfl := hrel
              go_wp2
              go_ret
              exact ⟨rfl, hbelow⟩
          · obtain ⟨g6, c6, hv6, _, _⟩ := HV.out.outer.form (by omega)
            rw [hv6] at HV ⊢
            clear hv6 hm0
            go_wp2
            go_loop [10, 11, 12] (fun i _ _ => ∃ j : Nat, j ≤ L.m ∧ i = .int .i64 j) (fun i _ _ => L.m - (intOf i).toNat)
            case atStart => exact ⟨0, Nat.zero_le _, rfl⟩
            case round =>
              obtain ⟨j, hj, rfl⟩ := hrel
              by_cases hjm : j < L.m
              · obtain ⟨hlv, hlo, _⟩ := HV.out.long j hjm
                have hcl := own_cell HV.out.outer hlv
                have hcj := HV.out.cells j hjm
                have HLO := Lib.hid hlo
                have HH := Lib.hid (HV.out.held j hjm)
                have hNj := HN.out j hjm
                have hjm' : (j : Int) < (L.m : Int) := by omega
                obtain ⟨n, hn⟩ : ∃ n, n = L.N j := ⟨_, rfl⟩
                obtain ⟨bj, hbj⟩ : ∃ x, x = b j := ⟨_, rfl⟩
                obtain ⟨cj, hcj2⟩ : ∃ x, x = c j := ⟨_, rfl⟩
                rw [← hn, ← hbj, ← hcj2] at hcl HLO
                rw [← hn] at hcj hNj HH
                have HNN := Lib.hid hn
                clear hn hbj hcj2 hlo hlv
                obtain ⟨r, hr⟩ : ∃ r, r = j % 26 := ⟨_, rfl⟩
                have hrl : r < 26 := by omega
                have hr1 : (j : Int) % 26 = (r : Int) := by omega
                have hXs : (M.extract r (r + 1)).size ≤ 1 := by simp; omega
                have hW : ({ data := #[119, 97, 115] } : ByteArray) ++ M.extract r (r + 1) = was j := by rw [was, HM.out, hr]
                have hX : ({ data := #[110, 101, 119] } : ByteArray) ++ M.extract r (r + 1) = new j := by rw [new, HM.out, hr]
                obtain ⟨Wj, hWj⟩ : ∃ x, x = was j := ⟨_, rfl⟩
                obtain ⟨Xj, hXj⟩ : ∃ x, x = new j := ⟨_, rfl⟩
                rw [← hWj] at hW
                rw [← hXj] at hX
                have HWJ := Lib.hid hWj
                have HXJ := Lib.hid hXj
                clear hr hWj hXj
                go_wp2
                go_loop [11, 12] (fun x _ => ∃ l : Nat, l ≤ n + 20 ∧ x = .int .i64 l) (fun x _ => n + 20 - (intOf x).toNat)
                case atStart => exact ⟨0, Nat.zero_le _, rfl⟩
                case round =>
                  obtain ⟨l, hl, rfl⟩ := hrel
                  by_cases hln : l < n
                  · obtain ⟨g, ha, hcg⟩ := HH.out l hln
                    have hcb := own_cell HLO.out (row_was (L := L) (j := j) (k := 20) (l := l) (by rw [← HNN.out]; exact hln))
                    rw [sw, ← HWJ.out] at hcg hcb
                    rw [ha] at hcj
                    have hln1 : (l : Int) < (n : Int) := by omega
                    have hln2 : (l : Int) < (n : Int) + 20 := by omega
                    go_wp2
                    go_round
                    case rel => exact ⟨l + 1, by omega, by go_num⟩
                    case measure => simp [intOf]; omega
                  · by_cases hl20 : l < n + 20
                    · have hcb := own_cell HLO.out (row_new (L := L) (j := j) (k := 20) (l := l) (by rw [← HNN.out]; exact hln) (by rw [← HNN.out]; exact hl20))
                      rw [sn, ← HXJ.out] at hcb
                      have hln1 : (n : Int) ≤ (l : Int) := by omega
                      have hln2 : (l : Int) < (n : Int) + 20 := by omega
                      go_wp2
                      go_round
                      case rel => exact ⟨l + 1, by omega, by go_num⟩
                      case measure => simp [intOf]; omega
                    · obtain rfl : l = n + 20 := by omega
                      go_wp2
                      go_round
                      case rel => exact ⟨j + 1, by omega, by go_num⟩
                      case measure => simp [intOf]; omega
              · go_wp2
                go_ret
                exact ⟨rfl, hbelow⟩
end Go.Proofs.Ytoncghamkedhcaa.Aq

namespace Go.Proofs.Ytoncghamkedhcaa.Kd
open Go.RowKit Tx Um Ud Aq Km
set_option linter.unusedVariables false
def Fr (u v : Value) : Prop := ∀ g, u.ownBlock = some g → v.ownBlock ≠ some g
theorem Fr.symm {u v : Value} (h : Fr u v) : Fr v u := fun g h1 h2 => h g h2 h1
def adr (v : Value) : Option Addr := match v with
  | .slice A _ _ => A
  | _ => none
def cnt (v : Value) : Nat := match v with
  | .slice _ n _ => n
  | _ => 0
def capa (v : Value) : Nat := match v with
  | .slice _ _ c => c
  | _ => 0
def Lone (w : World) (B bo : Nat) (v : Value) : Prop := ∃ n xs, n ≤ 8796093022187 ∧ w.ownsRow B 9 1 v n xs ∧ v.ownBlock ≠ some bo
theorem Lone.form {w : World} {B bo : Nat} {v : Value} (h : Lone w B bo v) : v = .slice (adr v) (cnt v) (capa v) ∧ cnt v ≤ 8796093022187 ∧ (∃ xs, w.ownsRow B 9 1 v (cnt v) xs) ∧ (∀ x, adr v = some x → x = ⟨x.block, 0, none⟩ ∧ v.ownBlock = some x.block) := by
  obtain ⟨n, xs, hn, ho, hb⟩ := h
  have ho2 := ho
  rcases ho.2 with ⟨rfl, h0⟩ | ⟨g, cap, cur, rfl, _⟩
  · exact ⟨rfl, Nat.zero_le _, ⟨xs, by subst h0; exact ho2⟩, fun x hx => by cases hx⟩
  · exact ⟨rfl, hn, ⟨xs, ho2⟩, fun x hx => by injection hx with hx; subst hx; exact ⟨rfl, rfl⟩⟩
theorem lists_apart (vs : List Value) (bo co B : Nat) (w : World) (hl : ∀ v, v ∈ vs → Lone w B bo v) (hf : vs.Pairwise Fr) (hc : ∀ (j : Nat) v, vs[j]? = some v → w.cell? ⟨bo, j, none⟩ = some v) (hm : vs.length ≤ 1048576) (hB : B ≤ w.heap.size) (hbo : bo < w.heap.size) (hbB : B ≤ bo) :
    Calls Try.prog 12 #[.slice (some ⟨bo, 0, none⟩) vs.length co] w fun e w' => e = .returned (.bool true) ∧ Below B w w' := by
  let L : Ls := { m := vs.length, A := fun j => adr (vs.getD j undef), N := fun j => cnt (vs.getD j undef), C := fun j => capa (vs.getD j undef), bo := bo, B := B }
  have hget : ∀ j, (hj : j < vs.length) → vs.getD j undef = vs[j] := fun j hj => by rw [List.getD_eq_getElem?_getD, List.getElem?_eq_getElem hj]; rfl
  have hmem : ∀ j, (hj : j < vs.length) → Lone w B bo vs[j] := fun j hj => hl _ (List.getElem_mem hj)
  have hval : ∀ j, (hj : j < vs.length) → vs[j] = .slice (L.A j) (L.N j) (L.C j) := fun j hj => by
    show vs[j] = .slice (adr (vs.getD j undef)) (cnt (vs.getD j undef)) (capa (vs.getD j undef))
    rw [hget j hj]
    exact (hmem j hj).form.1
  refine apart_wide L co w hm (fun j hj => ?_) hB hbo hbB ⟨fun i j hi hj hne x hx hx2 => ?_, fun j hj g hg e => ?_⟩ (fun j hj => ?_) (fun j hj => ?_)
  · show cnt (vs.getD j undef) ≤ _
    rw [hget j hj]
    exact (hmem j hj).form.2.1
  · have hx : adr (vs.getD i undef) = some x := hx
    have hx2 : adr (vs.getD j undef) = some x := hx2
    rw [hget i hi] at hx
    rw [hget j hj] at hx2
    have e1 := ((hmem i hi).form.2.2.2 x hx).2
    have e2 := ((hmem j hj).form.2.2.2 x hx2).2
    have hp := List.pairwise_iff_getElem.1 hf
    rcases Nat.lt_or_gt_of_ne hne with h | h
    · exact hp i j hi hj h x.block e1 e2
    · exact hp j i hj hi h x.block e2 e1
  · have hg : adr (vs.getD j undef) = some ⟨g, 0, none⟩ := hg
    rw [hget j hj] at hg
    have e1 := ((hmem j hj).form.2.2.2 _ hg).2
    obtain ⟨_, _, _, _, hb⟩ := hmem j hj
    exact hb (by rw [e1]; exact congrArg some e)
  · rw [hc j vs[j] (List.getElem?_eq_getElem hj)]
    exact congrArg some (hval j hj)
  · obtain ⟨xs, ho⟩ := (hmem j hj).form.2.2.1
    refine ⟨xs, ?_, fun l hl h => ?_⟩
    · rw [← hval j hj]
      have e : L.N j = cnt vs[j] := by show cnt (vs.getD j undef) = _; rw [hget j hj]
      rw [e]
      exact ho
    · rcases h with h | ⟨h1, h2⟩
      · exact absurd h (Nat.not_lt_zero _)
      · exact absurd h2 (Nat.not_lt_zero _)
end Go.Proofs.Ytoncghamkedhcaa.Kd

namespace Go.Proofs.Ytoncghamkedhcaa.Kd
open Go.RowKit Tx
set_option linter.unusedVariables false
def Lst4 (bh oh bk ok k : Nat) (u1 u2 u3 u4 : Value) (W : World) : Prop := W.cell? ⟨bh, oh + k * 3 + 1, none⟩ = some u1 ∧ W.cell? ⟨bh, oh + k * 3 + 2, none⟩ = some u2 ∧ W.cell? ⟨bk, ok + k * 3 + 1, none⟩ = some u3 ∧ W.cell? ⟨bk, ok + k * 3 + 2, none⟩ = some u4
set_option maxRecDepth 100000 in
set_option maxHeartbeats 4000000 in
theorem piecesReg (ops : Array Oper) (hops : ops = (Rg.opsOf Try.f3 12)) (id : Nat) (bh oh hc bk ok kc k L n1 n2 n3 n4 c1 c2 c3 c4 : Nat) (A1 A2 A3 A4 : Option Addr) (vL : Value) {u0 u1 u2 u3 u4 u5 u6 u7 u8 u10 u11 u12 u14 u17 u18 u19 u20 u21 u22 u23 u24 u25 u26 u27 u28 u29 u30 u31 u32 u33 u34 u35 u36 u37 u38 u39 u40 u41 u42 u43 u44 u45 u46 u47 u48 u49 u50 u51 u52 u53 u54 u55 u56 u57 u58 u59 u60 u61 u62 u63 u64 u65 u66 u67 u68 u69 u70 u71 u72 u73 u74 u75 u76 u77 u78 u79 u80 u81 u82 u83 u84 u85 u86 u87 u88 u89 u90 u91 u92 u93 u94 u95 u96 u97 u98 u99 u100 u101 u102 u103 u104 u105 u106 u107 u108 u109 u110 u111 u112 u113 u114 u115 u116 u117 u118 u119 : Value} (w : World) (hk : (k : Int) < (L : Int)) (X0 : World → Prop) (Z : Value → World → Prop)
    (hX : ∀ W, X0 W → Lst4 bh oh bk ok k (.slice A1 n1 c1) (.slice A2 n2 c2) (.slice A3 n3 c3) (.slice A4 n4 c4) W) (hw : X0 w.drew) (hX2 : X0 (w.drew.alloc (.cells #[.slice A1 n1 c1, .slice A2 n2 c2, .slice A3 n3 c3, .slice A4 n4 c4] 22)))
    (hE : ∀ ty, ∃ v8 w8, (Builtin.append_ #[31, 31] ty #[vL, .slice (some ⟨w.heap.size, 0, none⟩) 4 4]).run Try.prog (w.drew.alloc (.cells #[.slice A1 n1 c1, .slice A2 n2 c2, .slice A3 n3 c3, .slice A4 n4 c4] 22)) = .ok v8 w8 ∧ X0 w8 ∧ Z v8 w8) :
    (Code.region id ops true).wp Try.prog (Rg.Only fun a' w' => ∃ v8 : Value, a' = ⟨#[u0, u1, u2, u3, u4, u5, u6, u7, u8, (.slice (some ⟨bh, oh, none⟩) L hc), u10, u11, u12, (.slice (some ⟨bk, ok, none⟩) L kc), u14, v8, (.int .i64 (k : Int)), u17, u18, u19, u20, u21, u22, u23, u24, u25, u26, u27, u28, u29, u30, u31, u32, u33, u34, u35, u36, u37, u38, u39, u40, u41, u42, u43, u44, u45, u46, u47, u48, u49, u50, u51, u52, u53, u54, u55, u56, u57, u58, u59, u60, u61, u62, u63, u64, u65, u66, u67, u68, u69, u70, u71, u72, u73, u74, u75, u76, u77, u78, u79, vL, (.slice (some ⟨bh, oh, none⟩) L hc), (.int .i64 (k : Int)), (.pointer (some ⟨bh, oh + k * 3, none⟩)), (.pointer (some ⟨bh, oh + k * 3 + 1, none⟩)), (.slice A1 n1 c1), (.slice (some ⟨bh, oh, none⟩) L hc), (.int .i64 (k : Int)), (.pointer (some ⟨bh, oh + k * 3, none⟩)), (.pointer (some ⟨bh, oh + k * 3 + 2, none⟩)), (.slice A2 n2 c2), (.slice (some ⟨bk, ok, none⟩) L kc), (.int .i64 (k : Int)), (.pointer (some ⟨bk, ok + k * 3, none⟩)), (.pointer (some ⟨bk, ok + k * 3 + 1, none⟩)), (.slice A3 n3 c3), (.slice (some ⟨bk, ok, none⟩) L kc), (.int .i64 (k : Int)), (.pointer (some ⟨bk, ok + k * 3, none⟩)), (.pointer (some ⟨bk, ok + k * 3 + 2, none⟩)), (.slice A4 n4 c4), (.slice (some ⟨w.heap.size, 0, none⟩) 4 4), v8, u103, u104, u105, u106, u107, u108, u109, u110, u111, u112, u113, u114, u115, u116, u117, u118, u119], []⟩ ∧ Z v8 w') ⟨#[u0, u1, u2, u3, u4, u5, u6, u7, u8, (.slice (some ⟨bh, oh, none⟩) L hc), u10, u11, u12, (.slice (some ⟨bk, ok, none⟩) L kc), u14, vL, (.int .i64 (k : Int)), u17, u18, u19, u20, u21, u22, u23, u24, u25, u26, u27, u28, u29, u30, u31, u32, u33, u34, u35, u36, u37, u38, u39, u40, u41, u42, u43, u44, u45, u46, u47, u48, u49, u50, u51, u52, u53, u54, u55, u56, u57, u58, u59, u60, u61, u62, u63, u64, u65, u66, u67, u68, u69, u70, u71, u72, u73, u74, u75, u76, u77, u78, u79, u80, u81, u82, u83, u84, u85, u86, u87, u88, u89, u90, u91, u92, u93, u94, u95, u96, u97, u98, u99, u100, u101, u102, u103, u104, u105, u106, u107, u108, u109, u110, u111, u112, u113, u114, u115, u116, u117, u118, u119], []⟩ w := by
  subst hops
  have hNS : Region.noSelect (Rg.opsOf Try.f3 12) = true := by kernel_rfl
  refine wp_region_held_drew (S := X0) (by kernel_rfl) hw (fun hHeld => ?_)
  rw [show (Rg.opsOf Try.f3 12).size = 24 by kernel_rfl]
  refine Rg.take (ops := (Rg.opsOf Try.f3 12)) 0 (some 80) (vL) hNS (by kernel_rfl) (by kernel_rfl) (by kernel_rfl) (by kernel_rfl) (by kernel_rfl) hHeld (Rg.y_move (x := (Operand.tmp 15)) (Or.inl (by kernel_rfl)) (by kernel_rfl)) ?_
  refine Rg.take (ops := (Rg.opsOf Try.f3 12)) 1 (some 81) ((.slice (some ⟨bh, oh, none⟩) L hc)) hNS (by kernel_rfl) (by kernel_rfl) (by kernel_rfl) (by kernel_rfl) (by kernel_rfl) hHeld (Rg.y_move (x := (Operand.tmp 9)) (Or.inl (by kernel_rfl)) (by kernel_rfl)) ?_
  refine Rg.take (ops := (Rg.opsOf Try.f3 12)) 2 (some 82) ((.int .i64 (k : Int))) hNS (by kernel_rfl) (by kernel_rfl) (by kernel_rfl) (by kernel_rfl) (by kernel_rfl) hHeld (Rg.y_move (x := (Operand.tmp 16)) (Or.inl (by kernel_rfl)) (by kernel_rfl)) ?_
  refine Rg.take (ops := (Rg.opsOf Try.f3 12)) 3 (some 83) ((.pointer (some ⟨bh, oh + k * 3, none⟩))) hNS (by kernel_rfl) (by kernel_rfl) (by kernel_rfl) (by kernel_rfl) (by kernel_rfl) hHeld (Rg.y_at (T := 23) (x := (Operand.tmp 81)) (y := (Operand.tmp 82)) (vx := (.slice (some ⟨bh, oh, none⟩) L hc)) (vy := (.int .i64 (k : Int))) (by kernel_rfl) (by kernel_rfl) (by kernel_rfl) ?_) ?_
  · (intro W hSw; clear hSw hHeld; go_simp)
  refine Rg.take (ops := (Rg.opsOf Try.f3 12)) 4 (some 84) ((.pointer (some ⟨bh, oh + k * 3 + 1, none⟩))) hNS (by kernel_rfl) (by kernel_rfl) (by kernel_rfl) (by kernel_rfl) (by kernel_rfl) hHeld (Rg.y_field (T := 33) (k := 1) (x := (Operand.tmp 83)) (vx := (.pointer (some ⟨bh, oh + k * 3, none⟩))) (by kernel_rfl) (by kernel_rfl) ?_) ?_
  · (intro W hSw; clear hSw hHeld; go_simp)
  refine Rg.take (ops := (Rg.opsOf Try.f3 12)) 5 (some 85) ((.slice A1 n1 c1)) hNS (by kernel_rfl) (by kernel_rfl) (by kernel_rfl) (by kernel_rfl) (by kernel_rfl) hHeld (Rg.y_load (T := 22) (x := (Operand.tmp 84)) (vx := (.pointer (some ⟨bh, oh + k * 3 + 1, none⟩))) (by kernel_rfl) (by kernel_rfl) ?_) ?_
  · (intro W hSw; obtain ⟨s0, s1, s2, s3⟩ := hX _ hSw; clear hSw hHeld; go_simp)
  refine Rg.take (ops := (Rg.opsOf Try.f3 12)) 6 (some 86) ((.slice (some ⟨bh, oh, none⟩) L hc)) hNS (by kernel_rfl) (by kernel_rfl) (by kernel_rfl) (by kernel_rfl) (by kernel_rfl) hHeld (Rg.y_move (x := (Operand.tmp 9)) (Or.inl (by kernel_rfl)) (by kernel_rfl)) ?_
  refine Rg.take (ops := (Rg.opsOf Try.f3 12)) 7 (some 87) ((.int .i64 (k : Int))) hNS (by kernel_rfl) (by kernel_rfl) (by kernel_rfl) (by kernel_rfl) (by kernel_rfl) hHeld (Rg.y_move (x := (Operand.tmp 16)) (Or.inl (by kernel_rfl)) (by kernel_rfl)) ?_
  refine Rg.take (ops := (Rg.opsOf Try.f3 12)) 8 (some 88) ((.pointer (some ⟨bh, oh + k * 3, none⟩))) hNS (by kernel_rfl) (by kernel_rfl) (by kernel_rfl) (by kernel_rfl) (by kernel_rfl) hHeld (Rg.y_at (T := 23) (x := (Operand.tmp 86)) (y := (Operand.tmp 87)) (vx := (.slice (some ⟨bh, oh, none⟩) L hc)) (vy := (.int .i64 (k : Int))) (by kernel_rfl) (by kernel_rfl) (by kernel_rfl) ?_) ?_
  · (intro W hSw; clear hSw hHeld; go_simp)
  refine Rg.take (ops := (Rg.opsOf Try.f3 12)) 9 (some 89) ((.pointer (some ⟨bh, oh + k * 3 + 2, none⟩))) hNS (by kernel_rfl) (by kernel_rfl) (by kernel_rfl) (by kernel_rfl) (by kernel_rfl) hHeld (Rg.y_field (T := 33) (k := 2) (x := (Operand.tmp 88)) (vx := (.pointer (some ⟨bh, oh + k * 3, none⟩))) (by kernel_rfl) (by kernel_rfl) ?_) ?_
  · (intro W hSw; clear hSw hHeld; go_simp)
  refine Rg.take (ops := (Rg.opsOf Try.f3 12)) 10 (some 90) ((.slice A2 n2 c2)) hNS (by kernel_rfl) (by kernel_rfl) (by kernel_rfl) (by kernel_rfl) (by kernel_rfl) hHeld (Rg.y_load (T := 22) (x := (Operand.tmp 89)) (vx := (.pointer (some ⟨bh, oh + k * 3 + 2, none⟩))) (by kernel_rfl) (by kernel_rfl) ?_) ?_
  · (intro W hSw; obtain ⟨s0, s1, s2, s3⟩ := hX _ hSw; clear hSw hHeld; go_simp)
  refine Rg.take (ops := (Rg.opsOf Try.f3 12)) 11 (some 91) ((.slice (some ⟨bk, ok, none⟩) L kc)) hNS (by kernel_rfl) (by kernel_rfl) (by kernel_rfl) (by kernel_rfl) (by kernel_rfl) hHeld (Rg.y_move (x := (Operand.tmp 13)) (Or.inl (by kernel_rfl)) (by kernel_rfl)) ?_
  refine Rg.take (ops := (Rg.opsOf Try.f3 12)) 12 (some 92) ((.int .i64 (k : Int))) hNS (by kernel_rfl) (by kernel_rfl) (by kernel_rfl) (by kernel_rfl) (by kernel_rfl) hHeld (Rg.y_move (x := (Operand.tmp 16)) (Or.inl (by kernel_rfl)) (by kernel_rfl)) ?_
  refine Rg.take (ops := (Rg.opsOf Try.f3 12)) 13 (some 93) ((.pointer (some ⟨bk, ok + k * 3, none⟩))) hNS (by kernel_rfl) (by kernel_rfl) (by kernel_rfl) (by kernel_rfl) (by kernel_rfl) hHeld (Rg.y_at (T := 23) (x := (Operand.tmp 91)) (y := (Operand.tmp 92)) (vx := (.slice (some ⟨bk, ok, none⟩) L kc)) (vy := (.int .i64 (k : Int))) (by kernel_rfl) (by kernel_rfl) (by kernel_rfl) ?_) ?_
  · (intro W hSw; clear hSw hHeld; go_simp)
  refine Rg.take (ops := (Rg.opsOf Try.f3 12)) 14 (some 94) ((.pointer (some ⟨bk, ok + k * 3 + 1, none⟩))) hNS (by kernel_rfl) (by kernel_rfl) (by kernel_rfl) (by kernel_rfl) (by kernel_rfl) hHeld (Rg.y_field (T := 33) (k := 1) (x := (Operand.tmp 93)) (vx := (.pointer (some ⟨bk, ok + k * 3, none⟩))) (by kernel_rfl) (by kernel_rfl) ?_) ?_
  · (intro W hSw; clear hSw hHeld; go_simp)
  refine Rg.take (ops := (Rg.opsOf Try.f3 12)) 15 (some 95) ((.slice A3 n3 c3)) hNS (by kernel_rfl) (by kernel_rfl) (by kernel_rfl) (by kernel_rfl) (by kernel_rfl) hHeld (Rg.y_load (T := 22) (x := (Operand.tmp 94)) (vx := (.pointer (some ⟨bk, ok + k * 3 + 1, none⟩))) (by kernel_rfl) (by kernel_rfl) ?_) ?_
  · (intro W hSw; obtain ⟨s0, s1, s2, s3⟩ := hX _ hSw; clear hSw hHeld; go_simp)
  refine Rg.take (ops := (Rg.opsOf Try.f3 12)) 16 (some 96) ((.slice (some ⟨bk, ok, none⟩) L kc)) hNS (by kernel_rfl) (by kernel_rfl) (by kernel_rfl) (by kernel_rfl) (by kernel_rfl) hHeld (Rg.y_move (x := (Operand.tmp 13)) (Or.inl (by kernel_rfl)) (by kernel_rfl)) ?_
  refine Rg.take (ops := (Rg.opsOf Try.f3 12)) 17 (some 97) ((.int .i64 (k : Int))) hNS (by kernel_rfl) (by kernel_rfl) (by kernel_rfl) (by kernel_rfl) (by kernel_rfl) hHeld (Rg.y_move (x := (Operand.tmp 16)) (Or.inl (by kernel_rfl)) (by kernel_rfl)) ?_
  refine Rg.take (ops := (Rg.opsOf Try.f3 12)) 18 (some 98) ((.pointer (some ⟨bk, ok + k * 3, none⟩))) hNS (by kernel_rfl) (by kernel_rfl) (by kernel_rfl) (by kernel_rfl) (by kernel_rfl) hHeld (Rg.y_at (T := 23) (x := (Operand.tmp 96)) (y := (Operand.tmp 97)) (vx := (.slice (some ⟨bk, ok, none⟩) L kc)) (vy := (.int .i64 (k : Int))) (by kernel_rfl) (by kernel_rfl) (by kernel_rfl) ?_) ?_
  · (intro W hSw; clear hSw hHeld; go_simp)
  refine Rg.take (ops := (Rg.opsOf Try.f3 12)) 19 (some 99) ((.pointer (some ⟨bk, ok + k * 3 + 2, none⟩))) hNS (by kernel_rfl) (by kernel_rfl) (by kernel_rfl) (by kernel_rfl) (by kernel_rfl) hHeld (Rg.y_field (T := 33) (k := 2) (x := (Operand.tmp 98)) (vx := (.pointer (some ⟨bk, ok + k * 3, none⟩))) (by kernel_rfl) (by kernel_rfl) ?_) ?_
  · (intro W hSw; clear hSw hHeld; go_simp)
  refine Rg.take (ops := (Rg.opsOf Try.f3 12)) 20 (some 100) ((.slice A4 n4 c4)) hNS (by kernel_rfl) (by kernel_rfl) (by kernel_rfl) (by kernel_rfl) (by kernel_rfl) hHeld (Rg.y_load (T := 22) (x := (Operand.tmp 99)) (vx := (.pointer (some ⟨bk, ok + k * 3 + 2, none⟩))) (by kernel_rfl) (by kernel_rfl) ?_) ?_
  · (intro W hSw; obtain ⟨s0, s1, s2, s3⟩ := hX _ hSw; clear hSw hHeld; go_simp)
  refine Rg.bld (ops := (Rg.opsOf Try.f3 12)) 21 (some 101) (T := 31) (len := 4) (parts := #[(0, Operand.tmp 85), (1, Operand.tmp 90), (2, Operand.tmp 95), (3, Operand.tmp 100)]) (vs := #[(0, (.slice A1 n1 c1)), (1, (.slice A2 n2 c2)), (2, (.slice A3 n3 c3)), (3, (.slice A4 n4 c4))]) (v := (.slice (some ⟨w.heap.size, 0, none⟩) 4 4)) (w1 := w.drew.alloc (.cells #[.slice A1 n1 c1, .slice A2 n2 c2, .slice A3 n3 c3, .slice A4 n4 c4] 22)) (by kernel_rfl) (by kernel_rfl) (by kernel_rfl) (by kernel_rfl) (by kernel_rfl) (by kernel_rfl) ?_ (hX2) (fun hHeld => ?_)
  · (clear hHeld hE; go_simp)
  refine Rg.app1 (ops := (Rg.opsOf Try.f3 12)) 22 (some 102) (T := 31) (x := (Operand.tmp 80)) (y := (Operand.tmp 101)) (vx := vL) (vy := (.slice (some ⟨w.heap.size, 0, none⟩) 4 4)) (by kernel_rfl) (by kernel_rfl) (by kernel_rfl) (by kernel_rfl) (by kernel_rfl) (by kernel_rfl) (by kernel_rfl) ?_
  intro ty
  obtain ⟨v8, w8, e8, h8, h9⟩ := hE ty
  refine ⟨v8, w8, e8, h8, fun hHeld => ?_⟩
  refine Rg.take (ops := (Rg.opsOf Try.f3 12)) 23 (some 15) (v8) hNS (by kernel_rfl) (by kernel_rfl) (by kernel_rfl) (by kernel_rfl) (by kernel_rfl) hHeld (Rg.y_move (x := (Operand.tmp 102)) (Or.inr (by kernel_rfl)) (by kernel_rfl)) ?_
  refine Rg.done (ops := (Rg.opsOf Try.f3 12)) (by kernel_rfl) ?_
  exact ⟨v8, by kernel_rfl, h9⟩
end Go.Proofs.Ytoncghamkedhcaa.Kd

namespace Go.Proofs.Ytoncghamkedhcaa.Kd
open Tx Um Ud Aq Km
set_option linter.unusedVariables false
theorem cut_small {p : Nat} {ra rb : List ByteArray} {H : List (Hk ByteArray)} (h : Cut p ra rb H) : ∀ x, x ∈ H → x.at_ + x.old.length ≤ p + ra.length ∧ x.new.length ≤ rb.length := by
  induction h with
  | nil p l => intro x hx; cases hx
  | cons p c o n h ih =>
    intro x hx
    rcases List.mem_cons.1 hx with rfl | hx
    · simp only [List.length_append]
      omega
    · obtain ⟨h1, h2⟩ := ih x hx
      simp only [List.length_append]
      omega
theorem bk_len (hs : List (Hz ByteArray)) : ∀ s, (bk s hs).length = hs.length := by
  induction hs with
  | nil => intro s; rfl
  | cons h hs ih => intro s; rw [bk, List.length_cons, List.length_cons, ih]
theorem news_le_mul (hs : List (Hz ByteArray)) (N : Nat) (h : ∀ x, x ∈ hs → x.new.length ≤ N) : news hs ≤ hs.length * N := by
  unfold news
  induction hs with
  | nil => exact Nat.zero_le _
  | cons x hs ih =>
    have h1 := h x (by simp)
    have h2 := ih (fun y hy => h y (by simp [hy]))
    rw [List.map_cons, List.sum_cons, List.length_cons, Nat.add_mul]
    omega
structure Facts (a b : List ByteArray) (H : List (Hk ByteArray)) : Prop where
  make : ap a 0 (H.map Hk.z) = (b, 0)
  back : ap b 0 (bk 0 (H.map Hk.z)) = (a, 0)
  twice : bk 0 (bk 0 (H.map Hk.z)) = H.map Hk.z
  none : H.length = 0 ↔ a = b
  small : ∀ x, x ∈ H.map Hk.z → x.old.length ≤ 400 ∧ x.new.length ≤ 400 ∧ 0 ≤ x.at_ ∧ x.at_ ≤ 400
  smallB : ∀ x, x ∈ bk 0 (H.map Hk.z) → x.old.length ≤ 400 ∧ x.new.length ≤ 400 ∧ 0 ≤ x.at_ ∧ x.at_ ≤ 400
  count : H.length ≤ 401
  changed : ∀ (i : Nat) (x : ByteArray) (hi : i < a.length), x ≠ a[i] → (within H i = true → ap (a.set i x) 0 (H.map Hk.z) = ([], 11)) ∧ (within H i = false → (ap (a.set i x) 0 (H.map Hk.z)).2 = 0 ∧ (ap (a.set i x) 0 (H.map Hk.z)).1.length = b.length)
theorem facts (a b : List ByteArray) (ar : Nat) (ha : a.length ≤ 400) (hb : b.length ≤ 400) : Facts a b (btw a b ar (pairs 0 0 (steps a b))) := by
  have hc := pieces_cut a b ar
  have hn := pieces_none a b ar
  have hk : (btw a b ar (pairs 0 0 (steps a b))).length ≤ 401 := by
    have h : (btw a b ar (pairs 0 0 (steps a b))).length ≤ a.length + 1 := by
      unfold btw
      rw [hks_map, List.length_map, List.length_reverse]
      have h1 := rs_len (pairs 0 0 (steps a b) ++ [(a.length, b.length)]) (2 * ar) 0 0 []
      have h2 := pairs_len (steps a b) 0 0
      have h3 := kept a b
      have h4 := lcs_le_left a b
      rw [List.length_append] at h1
      simp at h1
      omega
    omega
  obtain ⟨H, hH⟩ : ∃ H, H = btw a b ar (pairs 0 0 (steps a b)) := ⟨_, rfl⟩
  rw [← hH] at hc hn hk ⊢
  obtain ⟨H', hc', he'⟩ := cut_back hc 0 0 rfl
  refine ⟨cut_ap hc a rfl (Nat.zero_le _), ?_, ?_, ?_, fun x hx => ?_, fun x hx => ?_, hk, fun i x hi hx => cut_changed hc a i x rfl (Nat.zero_le _) hi hx⟩
  · rw [← he']
    exact cut_ap hc' b rfl (Nat.zero_le _)
  · exact bk_back (H.map Hk.z) 0
  · rw [List.length_eq_zero_iff]
    exact hn
  · obtain ⟨y, hy, rfl⟩ := List.mem_map.1 hx
    obtain ⟨h1, h2⟩ := cut_small hc y hy
    show y.old.length ≤ 400 ∧ y.new.length ≤ 400 ∧ 0 ≤ ((y.at_ : Nat) : Int) ∧ ((y.at_ : Nat) : Int) ≤ 400
    omega
  · rw [← he'] at hx
    obtain ⟨y, hy, rfl⟩ := List.mem_map.1 hx
    obtain ⟨h1, h2⟩ := cut_small hc' y hy
    show y.old.length ≤ 400 ∧ y.new.length ≤ 400 ∧ 0 ≤ ((y.at_ : Nat) : Int) ∧ ((y.at_ : Nat) : Int) ≤ 400
    omega
theorem within_take {H : List (Hk ByteArray)} {k i : Nat} {h : Hk ByteArray} (hh : H[k]? = some h) : within (H.take (k + 1)) i = (within (H.take k) i || (decide (h.at_ ≤ i) && decide (i < h.at_ + h.old.length))) := by
  unfold within
  rw [List.take_add_one, hh, List.any_append]
  simp
end Go.Proofs.Ytoncghamkedhcaa.Kd

namespace Go.Proofs.Ytoncghamkedhcaa.Kd
open Go.RowKit Tx Um Ud Aq Km
set_option linter.unusedVariables false
def both : List (Int × Value × Value) → List (Int × Value × Value) → List Value
  | c :: cs, d :: ds => c.2.1 :: c.2.2 :: d.2.1 :: d.2.2 :: both cs ds
  | _, _ => []
theorem both_perm : ∀ {cs ds : List (Int × Value × Value)}, cs.length = ds.length → (both cs ds).Perm (vals cs ++ vals ds)
  | [], [], _ => List.Perm.refl _
  | c :: cs, d :: ds, h => by
    have ih := both_perm (cs := cs) (ds := ds) (by simpa using h)
    have e1 : vals (c :: cs) = c.2.1 :: c.2.2 :: vals cs := rfl
    have e2 : vals (d :: ds) = d.2.1 :: d.2.2 :: vals ds := rfl
    have e3 : both (c :: cs) (d :: ds) = c.2.1 :: c.2.2 :: d.2.1 :: d.2.2 :: both cs ds := rfl
    rw [e1, e2, e3, List.cons_append, List.cons_append]
    refine List.Perm.cons _ (List.Perm.cons _ ?_)
    refine List.Perm.trans ?_ List.perm_middle.symm
    refine List.Perm.cons _ ?_
    refine List.Perm.trans ?_ List.perm_middle.symm
    exact List.Perm.cons _ ih
theorem both_len : ∀ (cs ds : List (Int × Value × Value)), cs.length = ds.length → (both cs ds).length = cs.length * 4
  | [], [], _ => rfl
  | c :: cs, d :: ds, h => by
    show (both cs ds).length + 1 + 1 + 1 + 1 = (cs.length + 1) * 4
    rw [both_len cs ds (by simpa using h)]
    omega
theorem both_snoc : ∀ {cs ds : List (Int × Value × Value)} {c d : Int × Value × Value}, cs.length = ds.length → both (cs ++ [c]) (ds ++ [d]) = both cs ds ++ [c.2.1, c.2.2, d.2.1, d.2.2]
  | [], [], _, _, _ => rfl
  | x :: cs, y :: ds, c, d, h => by
    show x.2.1 :: x.2.2 :: y.2.1 :: y.2.2 :: both (cs ++ [c]) (ds ++ [d]) = _
    rw [both_snoc (by simpa using h)]
    rfl
theorem vals_mem {cs : List (Int × Value × Value)} {u : Value} (h : u ∈ vals cs) : ∃ c, c ∈ cs ∧ (u = c.2.1 ∨ u = c.2.2) := by
  unfold vals at h
  obtain ⟨c, hc, hu⟩ := List.mem_flatMap.1 h
  simp only [List.mem_cons, List.not_mem_nil, or_false] at hu
  exact ⟨c, hc, hu⟩
theorem Own3.pair {w : World} {B : Nat} {cs : List (Int × Value × Value)} {hs : List (Hz ByteArray)} (h : Own3 w B cs hs) : (vals cs).Pairwise Fr := by
  rw [List.pairwise_iff_getElem]
  intro i j hi hj hij g h1 h2
  exact h.far i j _ _ g (List.getElem?_eq_getElem hi) (List.getElem?_eq_getElem hj) (by omega) h1 h2
theorem Own3.mem {w : World} {B : Nat} {cs : List (Int × Value × Value)} {hs : List (Hz ByteArray)} (h : Own3 w B cs hs) (hl : cs.length = hs.length) {u : Value} (hu : u ∈ vals cs) : ∃ l, (∃ x, x ∈ hs ∧ (l = x.old ∨ l = x.new)) ∧ Lo w B u l := by
  obtain ⟨c, hc, hu⟩ := vals_mem hu
  obtain ⟨k, hk⟩ := List.mem_iff_getElem?.1 hc
  have hk2 := (List.getElem?_eq_some_iff.1 hk).1
  obtain ⟨h1, h2⟩ := h.each k c hs[k] hk (List.getElem?_eq_getElem (by omega))
  rcases hu with rfl | rfl
  · exact ⟨_, ⟨_, List.getElem_mem _, .inl rfl⟩, h1⟩
  · exact ⟨_, ⟨_, List.getElem_mem _, .inr rfl⟩, h2⟩
theorem Own3.take {w : World} {B : Nat} {cs : List (Int × Value × Value)} {hs : List (Hz ByteArray)} (h : Own3 w B cs hs) (k : Nat) : Own3 w B (cs.take k) (hs.take k) := by
  have hv : ∀ (i : Nat) u, (vals (cs.take k))[i]? = some u → (vals cs)[i]? = some u := fun i u hu => by
    have e : vals cs = vals (cs.take k) ++ vals (cs.drop k) := by unfold vals; rw [← List.flatMap_append, List.take_append_drop]
    rw [e, List.getElem?_append_left (List.getElem?_eq_some_iff.1 hu).1]
    exact hu
  refine ⟨fun i c x hc hx => ?_, fun i j u v g hu hv' hne => h.far i j u v g (hv i u hu) (hv j v hv') hne⟩
  have h1 := (List.getElem?_eq_some_iff.1 hc).1
  rw [List.length_take] at h1
  rw [List.getElem?_take_of_lt (by omega)] at hc hx
  exact h.each i c x hc hx
theorem lone_of {w w1 : World} {B B0 bo : Nat} {u : Value} {l : List ByteArray} (h : Lo w B u l) (hl : l.length ≤ 8796093022187) (hb : Below w.heap.size w w1) (hB : B0 ≤ B) (hbo : w.heap.size ≤ bo) : Lone w1 B0 bo u :=
  ⟨l.length, _, hl, own_base (h.below hb) hB, fun e => by have := (World.ownsRow.lt h bo e).2; omega⟩
theorem list_form {w : World} {B n : Nat} {v : Value} {xs : List Value} (h : w.ownsRow B 22 1 v n xs) (hn : 0 < n) : ∃ g c, v = .slice (some ⟨g, 0, none⟩) n c ∧ B ≤ g ∧ g < w.heap.size ∧ ∀ (j : Nat) u, xs[j]? = some u → w.cell? ⟨g, j, none⟩ = some u := by
  have hh := h
  rcases h.2 with ⟨_, h0⟩ | ⟨g, cap, cur, rfl, hg, hb, _⟩
  · omega
  · exact ⟨g, cap, rfl, hg, (Array.getElem?_eq_some_iff.1 hb).1, fun j u hu => own_cell hh hu⟩
theorem own_prefix {w : World} {B g n cp : Nat} {xs : List Value} (h : w.ownsRow B 9 1 (.slice (some ⟨g, 0, none⟩) (n + 1) cp) (n + 1) xs) : w.ownsRow B 9 1 (.slice (some ⟨g, 0, none⟩) n cp) n (xs.take n) := by
  have hl := h.1
  refine ⟨by rw [List.length_take]; omega, ?_⟩
  rcases h.2 with ⟨h0, _⟩ | ⟨g', cap, cur, hv, hg, hh, hn, hc, hs, ht⟩
  · cases h0
  · injection hv with h1 h2 h3
    injection h1 with h1
    injection h1 with h1
    subst h1
    subst h3
    refine .inr ⟨g, cp, cur, rfl, hg, hh, by omega, hc, hs, ?_⟩
    rw [← ht, List.take_take, Nat.min_eq_left (by omega), Nat.mul_one]
theorem pcs_small (a b : List ByteArray) (ar : Int) : (pcs a b ar).length ≤ 401 ∧ ∀ x, x ∈ pcs a b ar → x.old.length ≤ 400 ∧ x.new.length ≤ 400 := by
  unfold pcs
  by_cases h : ar < 0
  · rw [if_pos h]
    exact ⟨Nat.zero_le _, fun x hx => by cases hx⟩
  · rw [if_neg h]
    cases hl : lng a b
    · obtain ⟨h1, h2⟩ := lng_small hl
      have hf := facts a b (min ar.toNat 400) h1 h2
      refine ⟨by rw [if_neg (by simp), List.length_map]; exact hf.count, fun x hx => ?_⟩
      rw [if_neg (by simp)] at hx
      have := hf.small x hx
      exact ⟨this.1, this.2.1⟩
    · rw [if_pos rfl]
      exact ⟨Nat.zero_le _, fun x hx => by cases hx⟩
theorem hu_cells {w : World} {B n c : Nat} {a : Option Addr} {cs : List (Int × Value × Value)} (h : Hu w B (.slice a n c) cs) {k : Nat} {x : Int × Value × Value} (hx : cs[k]? = some x) : ∃ b, a = some ⟨b, 0, none⟩ ∧ b < w.heap.size ∧ w.cell? ⟨b, 0 + k * 3 + 1, none⟩ = some x.2.1 ∧ w.cell? ⟨b, 0 + k * 3 + 2, none⟩ = some x.2.2 := by
  have hk := (List.getElem?_eq_some_iff.1 hx).1
  rcases h.2 with ⟨_, h0⟩ | ⟨g, cap, cur, hv, hg, hh, hn, hc, _⟩
  · omega
  · injection hv with h1 h2 h3'
    subst h1
    obtain ⟨_, e2, e3⟩ := flat3_get cs k x hx
    have d2 := World.ownsRow.cells h (g := g) rfl _ _ e2
    have d3 := World.ownsRow.cells h (g := g) rfl _ _ e3
    rw [WideShapes.add_plain, ← Nat.add_assoc] at d2 d3
    exact ⟨g, rfl, (Array.getElem?_eq_some_iff.1 hh).1, d2, d3⟩
theorem all_apart {X Y : Value} {gx gy B1 B2 : Nat} {w1 w2 : World} {cs ds : List (Int × Value × Value)} {hs : List (Hz ByteArray)} (hX : X.ownBlock = some gx) (hY : Y.ownBlock = some gy) (hxy : gx ≠ gy) (hxB : gx < B1) (hyB : gy < B1) (h1 : Own3 w1 B1 cs hs) (h2 : Own3 w2 B2 ds hs) (hs1 : w1.heap.size ≤ B2) (hB : B1 ≤ B2) (hc : cs.length = hs.length) (hd : ds.length = hs.length) :
    (X :: Y :: both cs ds).Pairwise Fr := by
  have hp := both_perm (cs := cs) (ds := ds) (by omega)
  have hbl : ∀ u, u ∈ both cs ds → ∀ g, u.ownBlock = some g → B1 ≤ g := fun u hu g hg => by
    rcases List.mem_append.1 (hp.mem_iff.1 hu) with h | h
    · obtain ⟨l, _, hl⟩ := h1.mem hc h
      exact (World.ownsRow.lt hl g hg).1
    · obtain ⟨l, _, hl⟩ := h2.mem hd h
      have := (World.ownsRow.lt hl g hg).1
      omega
  have hmid : (both cs ds).Pairwise Fr := by
    rw [hp.pairwise_iff (fun {x y} h => Fr.symm h)]
    refine List.pairwise_append.2 ⟨h1.pair, h2.pair, fun u hu v hv g hg hg2 => ?_⟩
    obtain ⟨l, _, hl⟩ := h1.mem hc hu
    obtain ⟨l', _, hl'⟩ := h2.mem hd hv
    have e1 := (World.ownsRow.lt hl g hg).2
    have e2 := (World.ownsRow.lt hl' g hg2).1
    omega
  refine List.pairwise_cons.2 ⟨fun u hu g hg hg2 => ?_, List.pairwise_cons.2 ⟨fun u hu g hg hg2 => ?_, hmid⟩⟩
  · rw [hX] at hg
    injection hg with hg
    rcases List.mem_cons.1 hu with rfl | hu
    · rw [hY] at hg2
      injection hg2 with hg2
      omega
    · have := hbl u hu g hg2
      omega
  · rw [hY] at hg
    injection hg with hg
    have := hbl u hu g hg2
    omega
end Go.Proofs.Ytoncghamkedhcaa.Kd

namespace Go.Proofs.Ytoncghamkedhcaa.Kd
open Go.ChangeMaps (open_string shut_string)
open Go.ChangeShapes Go.WideShapes Go.ChangeAt Go.RowKit Tx Um Ud Aq Km
set_option linter.unusedVariables false
set_option linter.unusedSimpArgs false
set_option linter.unnecessarySimpa false
theorem cells3k : Try.prog.cellsOf 3 = 1 := by kernel_rfl
theorem cells22 : Try.prog.cellsOf 22 = 1 := by kernel_rfl
theorem cellsHk : Try.prog.cellsOf 33 = 3 := by kernel_rfl
theorem wf_int64 {k : Int} (h : (Lit.int .i64 k).wf = true) : int64 k := by
  unfold int64
  simpa [Lit.wf, IntKind.min, IntKind.max, IntKind.signed, IntKind.bits] using h
theorem bulk_strs {H : Type} : ∀ l : List ByteArray, l.length ≤ Rows.uptoBulkAll (strs (H := H) l)
  | [] => Nat.zero_le _
  | y :: l => by
    have h1 := bulk_strs (H := H) l
    have e : Rows.uptoBulkAll (strs (H := H) (y :: l)) = (y.data.toList.length + 1) + Rows.uptoBulkAll (strs (H := H) l) := rfl
    rw [e, List.length_cons]
    omega
theorem strs_open {H : Type} {enc : TypeId × Value → H} {w : World} {base : Nat} {spare : Nat → Bool} {held : Bool} {m : Nat} {c : Value} {y : DataW H × List MemPlace} (h : DataW.trod enc Try.prog w base spare held m 22 [c] = some y) :
    ∃ l, Rd w c l ∧ l.length ≤ Rows.uptoBulk y.1 := by
  rcases open_strings Try.underlying22 Try.underlying9 (by kernel_rfl) h with ⟨hcs, _⟩ | ⟨x, len, cap, ss, hcs, _, hl, hm, hz, hx, hcell, _⟩
  · injection hcs with hcs _
    subst hcs
    exact ⟨[], ⟨none, 0, rfl, ⟨rfl, .inl rfl⟩, fun _ => rfl⟩, Nat.zero_le _⟩
  · injection hcs with hcs _
    subst hcs
    have hz' : len ≤ ss.length := by rw [hz]; split <;> omega
    have hd : y.1 = .slice (strs (ss.take len)) (strs (ss.drop len)) := congrArg Prod.fst hx
    have hlen : (ss.take len).length = len := by rw [List.length_take]; omega
    refine ⟨ss.take len, ⟨some x, cap, by rw [hlen], ⟨rfl, ?_⟩, fun e => by cases e⟩, ?_⟩
    · rw [hlen]
      by_cases h0 : len = 0
      · exact .inl h0
      · right
        obtain ⟨b, off, spot⟩ := x
        have hc0 := hcell 0 (by omega)
        have hspot : spot = none := by simpa [Addr.add] using World.cell?_spot hc0
        subst hspot
        refine ⟨b, off, rfl, ?_, fun k y hk => ?_⟩
        · have := World.block_lt_of_cell? w _ hc0
          rwa [WideShapes.add_plain] at this
        · have hk2 := (List.getElem?_eq_some_iff.1 hk).1
          rw [hlen] at hk2
          have hk3 := hcell k (by omega)
          rw [WideShapes.add_plain] at hk3
          rw [hk3]
          rw [List.getElem?_take_of_lt hk2] at hk
          rw [List.getD_eq_getElem?_getD, hk]
          rfl
    · rw [hd]
      have e : Rows.uptoBulk (DataW.slice (strs (H := H) (ss.take len)) (strs (ss.drop len))) = Rows.uptoBulkAll (strs (H := H) (ss.take len)) + Rows.uptoBulkAll (strs (H := H) (ss.drop len)) + 1 := rfl
      have := bulk_strs (H := H) (ss.take len)
      omega
theorem hz_open {H : Type} {enc : TypeId × Value → H} {w : World} {base : Nat} {spare : Nat → Bool} {held : Bool} {m : Nat} {c0 c1 c2 : Value} {y : DataW H × List MemPlace} (h : DataW.trod enc Try.prog w base spare held m 33 [c0, c1, c2] = some y) :
    ∃ x : Hz ByteArray, c0 = .int .i64 x.at_ ∧ Rd w c1 x.old ∧ Rd w c2 x.new ∧ int64 x.at_ ∧ x.old.length + x.new.length + 1 ≤ Rows.uptoBulk y.1 := by
  obtain ⟨ys, m2, _, hy, _, hyl, hf⟩ := DataW.trod_struct Try.underlying33 h
  have h0 := hf 0 _ rfl
  have h1 := hf 1 _ rfl
  have h2 := hf 2 _ rfl
  match ys, hyl with
  | [y0, y1, y2], _ =>
    have h0 : DataW.trod enc Try.prog w base spare held m2 3 (([c0, c1, c2].drop 0).take (Try.prog.cellsOf 3)) = some y0 := h0
    have h1 : DataW.trod enc Try.prog w base spare held m2 22 (([c0, c1, c2].drop 1).take (Try.prog.cellsOf 22)) = some y1 := h1
    have h2 : DataW.trod enc Try.prog w base spare held m2 22 (([c0, c1, c2].drop 2).take (Try.prog.cellsOf 22)) = some y2 := h2
    rw [cells3k] at h0
    rw [cells22] at h1 h2
    obtain ⟨k, hk, hx0, hw⟩ := DataW.trod_int Try.underlying3 h0
    obtain ⟨lo, r1, b1⟩ := strs_open (c := c1) h1
    obtain ⟨ln, r2, b2⟩ := strs_open (c := c2) h2
    simp at hk
    refine ⟨⟨k, lo, ln⟩, hk, r1, r2, wf_int64 hw, ?_⟩
    rw [hy]
    have e : ∀ d0 d1 d2 : DataW H, Rows.uptoBulk (.agg [d0, d1, d2]) = (Rows.uptoBulk d0 + (Rows.uptoBulk d1 + (Rows.uptoBulk d2 + 0))) + 1 := fun _ _ _ => rfl
    show lo.length + ln.length + 1 ≤ Rows.uptoBulk (.agg [y0.1, y1.1, y2.1])
    rw [e]
    omega
theorem hz_at {H : Type} {enc : TypeId × Value → H} {w : World} {base : Nat} {spare : Nat → Bool} {held : Bool} {m : Nat} {a : Addr} {cs' : List Value} {y : DataW H × List MemPlace} (hc : w.cells? base a 3 = some cs') (h : DataW.trod enc Try.prog w base spare held m 33 cs' = some y) :
    ∃ (x : Hz ByteArray) (uo un : Value), w.cell? a = some (.int .i64 x.at_) ∧ w.cell? (a.add 1) = some uo ∧ w.cell? (a.add 2) = some un ∧ Rd w uo x.old ∧ Rd w un x.new ∧ int64 x.at_ ∧ x.old.length + x.new.length + 1 ≤ Rows.uptoBulk y.1 := by
  obtain ⟨_, hcl, hat⟩ := World.cells?_some hc
  match cs', hcl with
  | [c0, c1, c2], _ =>
    obtain ⟨x, h0, h1, h2, h3, h4⟩ := hz_open h
    have a0 := hat 0 (by omega)
    have a1 := hat 1 (by omega)
    have a2 := hat 2 (by omega)
    refine ⟨x, c1, c2, ?_, a1, a2, h1, h2, h3, h4⟩
    have e : a.add 0 = a := by simp [Addr.add]
    rw [e] at a0
    rw [a0, ← h0]
    rfl
theorem bulk_sum {H : Type} (X : Nat → Hz ByteArray) (D : Nat → DataW H) : ∀ l : List Nat, (∀ i, i ∈ l → (X i).old.length + (X i).new.length + 1 ≤ Rows.uptoBulk (D i)) → l.length + news (l.map X) ≤ Rows.uptoBulkAll (l.map D)
  | [], _ => Nat.zero_le _
  | i :: l, h => by
    have h1 := bulk_sum X D l (fun j hj => h j (by simp [hj]))
    have h2 := h i (by simp)
    have e : Rows.uptoBulkAll ((i :: l).map D) = Rows.uptoBulk (D i) + Rows.uptoBulkAll (l.map D) := rfl
    have e2 : news ((i :: l).map X) = (X i).new.length + news (l.map X) := by unfold news; rw [List.map_cons, List.map_cons, List.sum_cons]
    rw [e, e2, List.length_cons]
    omega
theorem bulk_mem {H : Type} (D : Nat → DataW H) : ∀ (l : List Nat) (i : Nat), i ∈ l → Rows.uptoBulk (D i) ≤ Rows.uptoBulkAll (l.map D)
  | [], _, h => by cases h
  | j :: l, i, h => by
    have e : Rows.uptoBulkAll ((j :: l).map D) = Rows.uptoBulk (D j) + Rows.uptoBulkAll (l.map D) := rfl
    rw [e]
    rcases List.mem_cons.1 h with rfl | h
    · omega
    · have := bulk_mem D l i h
      omega
theorem arg_bulk {H : Type} {enc : TypeId × Value → H} {w : World} {base : Nat} {spare : Nat → Bool} {held : Bool} {A : Option Addr} {n c : Nat} {d : DataW H} {p : List MemPlace} (h : DataW.Trod enc Try.prog w base spare held 22 (.slice A n c) d p) : n ≤ Rows.uptoBulk d := by
  obtain ⟨fuel, hf⟩ := h
  obtain ⟨l, ⟨A', c', e, _⟩, h2⟩ := strs_open (c := .slice A n c) hf
  injection e with _ e _
  rw [e]
  exact h2
theorem arg_hunks {H : Type} {enc : TypeId × Value → H} {w : World} {base : Nat} {spare : Nat → Bool} {held : Bool} {a : Option Addr} {n c : Nat} {d : DataW H} {p : List MemPlace} (h : DataW.Trod enc Try.prog w base spare held 23 (.slice a n c) d p) :
    ∃ l : List (Hz ByteArray), HzR w a n l ∧ n + news l ≤ Rows.uptoBulk d ∧ ∀ x, x ∈ l → int64 x.at_ ∧ x.old.length ≤ Rows.uptoBulk d := by
  obtain ⟨fuel, hf⟩ := h
  rcases Go.Deep.open_slice Try.underlying23 hf with ⟨hcs, _⟩ | ⟨ad, len, cap, m, n', D, Pl, hcs, hb, hl, hm, hmm, hx, hi⟩
  · simp [Value.cells] at hcs
    obtain ⟨rfl, rfl, rfl⟩ := hcs
    exact ⟨[], ⟨rfl, .inl rfl⟩, Nat.zero_le _, fun x hx => by cases hx⟩
  · simp [Value.cells] at hcs
    obtain ⟨rfl, rfl, rfl⟩ := hcs
    have hlm : n ≤ m := by
      rw [hmm]
      split
      · exact hl
      · exact Nat.le_refl _
    have hex : ∀ i, i < n → ∃ e : Hz ByteArray, (∃ uo un : Value, w.cell? (ad.add (i * 3)) = some (.int .i64 e.at_) ∧ w.cell? ((ad.add (i * 3)).add 1) = some uo ∧ w.cell? ((ad.add (i * 3)).add 2) = some un ∧ Rd w uo e.old ∧ Rd w un e.new) ∧ int64 e.at_ ∧ e.old.length + e.new.length + 1 ≤ Rows.uptoBulk (D i) := by
      intro i him
      obtain ⟨cs', hc, ht⟩ := hi i (by omega)
      rw [cellsHk] at hc
      obtain ⟨e, uo, un, h1, h2, h3, h4, h5, h6, h7⟩ := hz_at hc ht
      exact ⟨e, ⟨uo, un, h1, h2, h3, h4, h5⟩, h6, h7⟩
    have : Inhabited (Hz ByteArray) := ⟨⟨0, [], []⟩⟩
    obtain ⟨X, hX⟩ := Go.Deep.choose_lt hex
    have hget : ∀ k y, ((List.range n).map X)[k]? = some y → k < n ∧ y = X k := by
      intro k y hk
      have hk2 := (List.getElem?_eq_some_iff.1 hk).1
      simp at hk2
      rw [List.getElem?_map, List.getElem?_range hk2] at hk
      injection hk with hk
      exact ⟨hk2, hk.symm⟩
    have hd : d = .slice ((List.range n).map D) ((List.range (m - n)).map fun j => D (n + j)) := congrArg Prod.fst hx
    have hbk : Rows.uptoBulkAll ((List.range n).map D) ≤ Rows.uptoBulk d := by
      rw [hd]
      have e : ∀ (u v : List (DataW H)), Rows.uptoBulk (.slice u v) = Rows.uptoBulkAll u + Rows.uptoBulkAll v + 1 := fun _ _ => rfl
      rw [e]
      omega
    have hs := bulk_sum X D (List.range n) (fun i hi => (hX i (List.mem_range.1 hi)).2.2)
    rw [List.length_range] at hs
    refine ⟨(List.range n).map X, ⟨by simp, ?_⟩, by omega, fun x hx => ?_⟩
    · by_cases h0 : n = 0
      · exact .inl h0
      · right
        obtain ⟨b, off, spot⟩ := ad
        obtain ⟨uo0, un0, hc0, _⟩ := (hX 0 (by omega)).1
        rw [Nat.zero_mul] at hc0
        have hspot : spot = none := by simpa [Addr.add] using World.cell?_spot hc0
        subst hspot
        refine ⟨b, off, rfl, ?_, fun k y hk => ?_⟩
        · have := World.block_lt_of_cell? w _ hc0
          simpa [Addr.add] using this
        · obtain ⟨hk2, rfl⟩ := hget k y hk
          obtain ⟨⟨uo, un, h1, h2, h3, h4, h5⟩, _⟩ := hX k hk2
          rw [add_plain] at h1 h2 h3
          rw [add_plain] at h2 h3
          exact ⟨uo, un, h1, h2, h3, h4, h5⟩
    · obtain ⟨i, hi, rfl⟩ := List.mem_map.1 hx
      have h1 := (hX i (List.mem_range.1 hi)).2
      have h2 := bulk_mem D _ i hi
      exact ⟨h1.1, by omega⟩
end Go.Proofs.Ytoncghamkedhcaa.Kd

namespace Go.Proofs.Ytoncghamkedhcaa.hunkApplies
open Go.ChangeShapes Go.WideShapes Go.ChangeAt Go.RowKit Tx Um Ud Aq Km Kd
set_option linter.unusedVariables false
theorem grown_below {B : Nat} {W w w1 : World} {e : TypeId} {s n : Nat} {v : Value} {xs : List Value} (hb : Below B W w) (hB : B ≤ w.heap.size) (hown : w.ownsRow B e s v n xs) (hg : w.grownBy w1 v.ownBlock) : Below B W w1 := hb.grown hg hB (fun k hk => (hown.lt k hk).1)
theorem none_made (w : World) : (w.alloc (.cells #[] 9)).ownsRow w.heap.size 9 1 (.slice (some ⟨w.heap.size, 0, none⟩) 0 0) ([] : List ByteArray).length (([] : List ByteArray).map sv) := made0 w
theorem none_below (w : World) : Below w.heap.size w (w.alloc (.cells #[] 9)) := (Below.refl _ w).alloc (Nat.le_refl _) _
theorem own_form1 {w : World} {B n : Nat} {v : Value} {xs : List Value} (h : w.ownsRow B 9 1 v n xs) (hn : 0 < n) : ∃ g c', v = .slice (some ⟨g, 0, none⟩) n c' ∧ B ≤ g ∧ g < w.heap.size := by
  rcases h.2 with ⟨h0, h1⟩ | ⟨g, cap, cur, hv, hg, hh, _⟩
  · omega
  · exact ⟨g, cap, hv, hg, (Array.getElem?_eq_some_iff.1 hh).1⟩
theorem cop_form {w : World} {B : Nat} {v : Value} {l : List ByteArray} (h : w.ownsRow B 9 1 v (l.length + 1) (l.map sv ++ [sv SP])) : ∃ g cp, v = .slice (some ⟨g, 0, none⟩) (l.length + 1) cp ∧ Cop w B g cp l := by
  obtain ⟨g, cp, hv, _, _⟩ := own_form1 h (by omega)
  subst hv
  refine ⟨g, cp, rfl, ⟨?_⟩⟩
  rw [List.map_append]
  exact h
theorem lo_strs {w : World} {B : Nat} {A : Option Addr} {n c : Nat} {l : List ByteArray} (h : Lo w B (.slice A n c) l) : n = l.length ∧ Strs w A l.length l ∧ l.length ≤ c ∧ (A = none → c = 0) := by
  rcases h.2 with ⟨h0, h1⟩ | ⟨g, cap, cur, hv, hg, hh, hn, hc, hs, ht⟩
  · injection h0 with h2 h3 h4
    subst h2 h3 h4
    refine ⟨by omega, ⟨rfl, .inl (by omega)⟩, by omega, fun _ => rfl⟩
  · injection hv with h2 h3 h4
    subst h2 h3 h4
    refine ⟨rfl, ⟨rfl, .inr ⟨g, 0, rfl, (Array.getElem?_eq_some_iff.1 hh).1, fun k x hx => ?_⟩⟩, hn, fun h => by cases h⟩
    rw [Nat.zero_add]
    exact own_cell h (by rw [List.getElem?_map, hx]; rfl)
theorem ap_len (a : List ByteArray) : ∀ (H : List (Hz ByteArray)) (p : Nat), p ≤ a.length → (ap a p H).1.length ≤ (a.length - p) + news H
  | [], p, _ => by rw [ap, List.length_drop]; omega
  | h :: H, p, hp => by
    have en : news (h :: H) = h.new.length + news H := by unfold news; rw [List.map_cons, List.sum_cons]
    rw [ap]
    by_cases h1 : h.at_ < p ∨ (a.length : Int) < h.at_
    · rw [if_pos h1]; exact Nat.zero_le _
    · rw [if_neg h1]
      cases hs : stands a h.at_.toNat h.old
      · rw [if_pos rfl]; exact Nat.zero_le _
      · rw [if_neg (by simp)]
        have hl := stands_len hs
        have ih := ap_len a H (h.at_.toNat + h.old.length) (by omega)
        by_cases h0 : (ap a (h.at_.toNat + h.old.length) H).2 = 0
        · rw [if_pos h0]
          simp only [List.length_append, List.length_drop, List.length_take]
          omega
        · rw [if_neg h0]; exact Nat.zero_le _
set_option maxRecDepth 100000 in
set_option maxHeartbeats 2000000 in
theorem walk (hM : Impl) (A C : Option Addr) (ca cc : Nat) (a : List ByteArray) (hs : List (Hz ByteArray)) (w : World) (hA : In0 w A ca a) (hC : HzR w C hs.length hs) (hT : a.length + news hs ≤ 4194304) (hl : hs.length ≤ 4194304) (hh : ∀ h, h ∈ hs → h.old.length ≤ 4611686018427387903 ∧ int64 h.at_) :
    Calls Try.prog 4 #[.slice A a.length ca, .slice C hs.length cc] w fun e w' => e = .returned (.bool true) ∧ Below w.heap.size w w' := by
  obtain ⟨i0, hi, hz0, hz1, hz2⟩ := info_parts info9
  have hxl := ap_len a hs 0 (Nat.zero_le _)
  obtain ⟨X, hX⟩ : ∃ X, X = (ap a 0 hs).1 := ⟨_, rfl⟩
  obtain ⟨er, her⟩ : ∃ er, er = (ap a 0 hs).2 := ⟨_, rfl⟩
  have cH := fun Z cx w1 h1 h2 => hM.apply Z C cx cc a hs w1 h1 h2 (by omega) hh (by omega)
  have cR := fun w1 h1 h2 => refApply_any A C ca cc a hs w1 h1 h2 (by omega) (fun h hm => (hh h hm).1) (by omega)
  unfold ApTo at cH cR
  rw [← hX, ← her] at cH cR
  rw [← hX] at hxl
  obtain ⟨L, hLL⟩ : ∃ L, L = hs.length := ⟨_, rfl⟩
  rw [← hLL] at cH cR hC ⊢
  have cE := fun (Y Z : Option Addr) (cx cy : Nat) (l : List ByteArray) (w1 : World) (h1 : Strs w1 Y l.length l) (h2 : Strs w1 Z l.length l) (h3 : l.length ≤ 9223372036854775806) => same_any Y Z cx cy l l w1 h1 h2 h3 h3
  unfold SameT at cE
  obtain ⟨m, hm⟩ : ∃ m, m = a.length := ⟨_, rfl⟩
  obtain ⟨lx, hlx⟩ : ∃ lx, lx = X.length := ⟨_, rfl⟩
  rw [← hm] at hT cH cR hxl ⊢
  rw [← hlx] at hxl
  have HM := Lib.hid hm
  have HLX := Lib.hid hlx
  have HA : Hid (Strs w A m a) := by show Strs w A m a; rw [HM.out]; exact hA.1
  have HA2 := Lib.hid hA.2.2
  have HC := Lib.hid hC
  have CH := Lib.hid cH
  have CR := Lib.hid cR
  have CE := Lib.hid cE
  have f0 : ((er : Int) == (er : Int)) = true := beq_self_eq_true _
  have f1 : (er == er) = true := beq_self_eq_true _
  have wm : IntKind.i64.wrap ((m : Int) + 1) = (m : Int) + 1 := IntWalk.i64_in _ (by omega)
  clear hA hC cH cR cE hm hLL hX her hlx hh hl
  go_enter Try.func4, Try.ntmps4
  have hlit := none_made w
  have hlb := none_below w
  have hls : w.heap.size ≤ (w.alloc (.cells #[] 9)).heap.size := hlb.size
  go_wp2_with (at_builtin; refine wp_append_list rfl (.tmp 12) (.tmp 13) rfl w.heap.size rfl hlit rfl ((HA.out).below hlb) HA2.out (by show (0 + _) * 16 ≤ _; omega) hls (fun e => by cases e) ?_)
  intro v1 w1 ho1 hv1 hg1
  have hb1 := grown_below hlb hls hlit hg1
  have hs1 : w.heap.size ≤ w1.heap.size := hb1.size
  try rw [List.nil_append] at ho1
  clear hlit hlb hls hg1
  go_wp2_with (at_builtin; refine wpList_append_own _ rfl (.tmp 14) (.tmp 15) 22 rfl w.heap.size 9 i0 (.string ⟨#[]⟩) 1 16 Try.underlying22 hi hz0 hz1 hz2 rfl (by decide) _ _ _ rfl (ho1.alloc _) ⟨w1.heap.size, 0, none⟩ 1 1 [sv SP] rfl rfl ?d1 ?d2 ?d3 ?d4 ?d5 ?_)
  case d1 => exact cell_one_new _ _ _
  case d2 => exact sv_one [SP]
  case d3 => have k1 := HM.out; unfold maxLen; omega
  case d4 => have k1 := HM.out; omega
  case d5 => simp; omega
  intro v2 gxw ho2 hg2 _
  have gxb := below_step hb1 ho1 hg2
  obtain ⟨gx, gxp, rfl, gxc⟩ := cop_form ho2
  obtain ⟨gx1, gx2, gx3⟩ := gxc.cap
  clear ho1 hv1 hs1 hb1 ho2 hg2
  have hxm : (m : Int) ≤ (gxp : Int) := by have := HM.out; omega
  have hxm2 : (m : Int) + 1 ≤ (gxp : Int) := by have := HM.out; omega
  have hsx := gxb.size
  have ix : In0 gxw (some ⟨gx, 0, none⟩) gxp a := ⟨gxc.strs, by omega, (fun h => by cases h)⟩
  have GXB := Lib.hid gxb
  go_wp2_with fail
  go_at_call 13
  refine (CH.out _ _ _ ix (HC.out.below GXB.out)).mono ?_
  rintro e w1 ⟨v1, rfl, ho1, hb1⟩
  obtain ⟨va, vc, rfl⟩ := ho1.form
  have HO1 := Lib.hid ho1
  have HB1 := Lib.hid (below_call GXB.out hb1)
  have hsw1 := hb1.size
  have x1 := gxc.below hb1
  clear ho1 hb1 ix gxc gxb
  go_wp2_with fail
  go_at_call 14
  refine (CR.out _ (HA.out.below HB1.out) (HC.out.below HB1.out)).mono ?_
  rintro e w2 ⟨v2, rfl, ho2, hb2⟩
  obtain ⟨ra, rc, rfl⟩ := ho2.form
  have HO2 := Lib.hid ho2
  have HB2 := Lib.hid (below_call HB1.out hb2)
  have HO12 := Lib.hid (HO1.out.below hb2)
  have hsw2 := hb2.size
  have x2 := x1.below hb2
  clear ho2 hb2 x1
  have ix : In0 w2 (some ⟨gx, 0, none⟩) gxp a := ⟨x2.strs, by omega, (fun h => by cases h)⟩
  go_wp2_with fail
  go_at_call 13
  refine (CH.out _ _ _ ix (HC.out.below HB2.out)).mono ?_
  rintro e w3 ⟨v3, rfl, ho3, hb3⟩
  obtain ⟨na, nc, rfl⟩ := ho3.form
  have HO3 := Lib.hid ho3
  have HB3 := Lib.hid (below_call HB2.out hb3)
  have HO13 := Lib.hid (HO12.out.below hb3)
  have HO23 := Lib.hid (HO2.out.below hb3)
  have hsw3 := hb3.size
  have x3 := x2.below hb3
  clear ho3 hb3 x2 ix HB1 HB2 HO12
  go_wp2_with fail
  go_at_call 9
  refine (awake_any13 hM _).mono ?_
  rintro e w4 ⟨rfl, hb4⟩
  have HR4 := Lib.hid hb4
  have HB4 := Lib.hid (below_call HB3.out hb4)
  have x4 := x3.below hb4
  obtain ⟨_, s1, k1, n1⟩ := lo_strs (HO13.out.below hb4)
  obtain ⟨_, s2, k2, n2⟩ := lo_strs (HO23.out.below hb4)
  clear hb4 x3
  have j1 := CE.out va ra vc rc X w4 s1 s2 (by have := HLX.out; omega)
  have J1 := Lib.hid j1
  clear s1 s2 j1 k1 n1 k2 n2
  go_wp2_with fail
  go_at_call 11
  refine J1.out.mono ?_
  rintro e w5 ⟨b5, h5, rfl, hb5⟩
  obtain rfl : b5 = true := h5.2 (by trivial)
  have HR5 := Lib.hid (below_call HR4.out hb5)
  have HB5 := Lib.hid (below_call HB4.out hb5)
  have x5 := x4.below hb5
  obtain ⟨_, s1, k1, n1⟩ := lo_strs (HO3.out.below HR5.out)
  obtain ⟨_, s2, k2, n2⟩ := lo_strs (HO23.out.below HR5.out)
  clear hb5 h5 x4 J1
  have j1 := CE.out na ra nc rc X w5 s1 s2 (by have := HLX.out; omega)
  have J1 := Lib.hid j1
  clear s1 s2 j1 k1 n1 k2 n2
  go_wp2_with fail
  go_at_call 11
  refine J1.out.mono ?_
  rintro e w6 ⟨b6, h6, rfl, hb6⟩
  obtain rfl : b6 = true := h6.2 (by trivial)
  have HR6 := Lib.hid (below_call HR5.out hb6)
  have HB6 := Lib.hid (below_call HB5.out hb6)
  have x6 := x5.below hb6
  clear hb6 h6 x5 J1
  have j1 := CE.out (some ⟨gx, 0, none⟩) A gxp ca a w6 x6.strs (by rw [← HM.out]; exact HA.out.below HB6.out) (by have := HM.out; omega)
  rw [← HM.out] at j1
  have J1 := Lib.hid j1
  clear j1
  go_wp2_with fail
  go_at_call 11
  refine J1.out.mono ?_
  rintro e w7 ⟨b7, h7, rfl, hb7⟩
  obtain rfl : b7 = true := h7.2 (by trivial)
  have HR7 := Lib.hid (below_call HR6.out hb7)
  have HB7 := Lib.hid (below_call HB6.out hb7)
  have x7 := x6.below hb7
  have hsp := x7.spare
  rw [← HM.out] at hsp
  clear hb7 h7 x6 J1
  have hxm3 : (m : Int) < (m : Int) + 1 := by omega
  have hxm4 : 0 ≤ (m : Int) + 1 := by omega
  have hxm5 : ((m : Int) + 1).toNat = m + 1 := by omega
  go_wp2_with fail
  have hal : Below w7.heap.size w7 (w7.alloc (.cells #[.slice va X.length vc, .slice na X.length nc, .slice (some ⟨gx, 0, none⟩) m gxp] 22)) := (Below.refl _ w7).alloc (Nat.le_refl _) _
  have hsz8 : (w7.alloc (.cells #[.slice va X.length vc, .slice na X.length nc, .slice (some ⟨gx, 0, none⟩) m gxp] 22)).heap.size = w7.heap.size + 1 := by simp
  have hc8 := cell_three_new w7 (.slice va X.length vc) (.slice na X.length nc) (.slice (some ⟨gx, 0, none⟩) m gxp) 22
  have hs37 := HR7.out.size
  have hs07 := HB7.out.size
  obtain ⟨w8, hw8⟩ : ∃ w8, w8 = w7.alloc (.cells #[.slice va X.length vc, .slice na X.length nc, .slice (some ⟨gx, 0, none⟩) m gxp] 22) := ⟨_, rfl⟩
  rw [← hw8] at hal hsz8 hc8 ⊢
  have HB8 : Hid (Below w.heap.size w w8) := HB7.out.trans (hal.mono hs07)
  have hlx := HLX.out
  have hownx := own_prefix ((x7.below hal).own)
  have hml := HM.out
  have ap := lists_apart [.slice va X.length vc, .slice na X.length nc, .slice (some ⟨gx, 0, none⟩) m gxp] w7.heap.size 3 w.heap.size w8 (fun v hv => by
      rcases List.mem_cons.1 hv with rfl | hv
      · exact lone_of HO13.out (by omega) (HR7.out.trans (hal.mono hs37)) hsx hs37
      · rcases List.mem_cons.1 hv with rfl | hv
        · exact lone_of HO3.out (by omega) (HR7.out.trans (hal.mono hs37)) (by omega) hs37
        · obtain rfl := List.mem_singleton.1 hv
          exact ⟨m, _, by omega, own_base (by rw [HM.out]; exact hownx) (Nat.le_refl _), fun e => by injection e with e; have e2 : gx = w7.heap.size := e; omega⟩)
    (by
      refine List.pairwise_cons.2 ⟨fun u hu g h1 h2 => ?_, List.pairwise_cons.2 ⟨fun u hu g h1 h2 => ?_, List.pairwise_singleton _ _⟩⟩
      · have x1 := World.ownsRow.lt HO1.out g h1
        rcases List.mem_cons.1 hu with rfl | hu
        · have x2 := World.ownsRow.lt HO3.out g h2
          omega
        · obtain rfl := List.mem_singleton.1 hu
          injection h2 with h2
          have e2 : gx = g := h2
          omega
      · obtain rfl := List.mem_singleton.1 hu
        have x1 := World.ownsRow.lt HO3.out g h1
        injection h2 with h2
        have e2 : gx = g := h2
        omega)
    (fun j v hj => by have h := hc8 j v hj; rwa [WideShapes.add_plain, Nat.zero_add] at h) (by simp) (by omega) (by omega) (by omega)
  have AP := Lib.hid ap
  clear ap hal hc8 hownx hw8 hsp
  go_at_call 12
  refine AP.out.mono ?_
  rintro e w9 ⟨rfl, hb9⟩
  have hE := HB8.out.trans hb9
  clear hb9
  go_wp2_with fail
  go_ret
  exact ⟨rfl, hE⟩
theorem own : ownKnob Try.prog.godebug = none := by kernel_rfl
theorem laidOut : laidOutB Try.prog = true := by kernel_rfl
set_option maxRecDepth 100000 in
theorem contract (hM : Impl) (H : Type) (enc : TypeId × Value → H) (W : World) (base : Nat) (args : Array Value) (ds gs : List (DataW H)) (before : List MemPlace)
    (hval0 : ∀ (j : Nat) t v, Try.f4.params[j]? = some t → args[j]? = some v → Value.okWide Try.prog W .any base t v)
    (hW : DataW.Whole enc Try.prog Try.f4.params.toList Rows.hunkAppliesSpec.vars false W args.toList ds gs before)
    (hk : Rows.uptoSmall H (ds ++ gs) = true)
    (hsz0 : (DataW.weightsEach Try.prog (Try.f4.params.toList ++ Rows.hunkAppliesSpec.plain.varTypes Try.prog) (ds ++ gs)).all (· ≤ reachBytes) = true) :
    Calls Try.prog 4 args W fun e W' => ∃ v, e = .returned v ∧ Rows.hunkAppliesSpec.post enc Try.prog Try.f4 false true false false W args v W' := by
  have hval : ∀ (j : Nat) t v, Try.f4.params[j]? = some t → args[j]? = some v → Value.okWide Try.prog W .any base t v := hval0
  have hsz := hsz0
  clear hsz0
  have hW' := hW
  obtain ⟨p, q, hA0, hV, rfl, hfz, hnd⟩ := hW
  have hA : DataW.TrodAll enc Try.prog W 0 (fun _ => true) true Try.f4.params.toList args.toList ds p := hA0
  rw [Try.params4] at hA hval hsz
  obtain ⟨v0, vs0, d0, ds0, p0, q0, hargs, rfl, rfl, h0, r0⟩ := trodAll_cons hA
  obtain ⟨v1, vs1, d1, ds1, p1, q1, rfl, rfl, rfl, h1, r1⟩ := trodAll_cons r0
  obtain ⟨rfl, rfl, rfl⟩ := trodAll_nil r1
  obtain rfl : args = #[v0, v1] := by cases args; simp_all
  obtain ⟨rfl, rfl⟩ := trodVars_none hV
  obtain ⟨A0, n0, c0, rfl⟩ := okWide_slice Try.underlying22 (hval 0 22 v0 rfl rfl)
  have k0 := h0
  have lt0 : ∀ x ∈ p0, x.block < W.heap.size := by obtain ⟨m, hm⟩ := k0; exact DataW.trod_lt m _ _ _ hm
  obtain ⟨A1, n1, c1, rfl⟩ := okWide_slice Try.underlying23 (hval 1 23 v1 rfl rfl)
  have k1 := h1
  have lt1 : ∀ x ∈ p1, x.block < W.heap.size := by obtain ⟨m, hm⟩ := k1; exact DataW.trod_lt m _ _ _ hm
  clear hA0 hval0
  obtain ⟨l0, hl0⟩ := arg_in h0 (j := 0) hsz rfl rfl
  obtain rfl := hl0.2.1
  obtain ⟨l1, hl1, hn1, hm1⟩ := arg_hunks h1
  obtain rfl := hl1.1
  have hb0 : l0.length ≤ Rows.uptoBulk d0 := arg_bulk h0
  have hbulk : Rows.uptoBulk d0 + Rows.uptoBulk d1 ≤ 1048576 := by
    have h := of_decide_eq_true hk
    rw [List.append_nil] at h
    have e : Rows.uptoBulkAll [d0, d1] = Rows.uptoBulk d0 + (Rows.uptoBulk d1 + 0) := rfl
    rw [e] at h
    omega
  refine (walk hM A0 A1 c0 c1 l0 l1 W hl0.1.in0 hl1 (by omega) (by omega) (fun h hh => ⟨by have := (hm1 h hh).2; omega, (hm1 h hh).1⟩)).mono fun e W' ⟨he, bel⟩ => ?_
  subst he
  exact ⟨_, rfl, _, _, _, [], _, [], hW', trodAll_mk1 (shut_bool Try.underlying4 _), (trodAll_cons_mk (Below.trod laidOut (by kernel_rfl) (of_decide_eq_true (by kernel_rfl)) k0 bel lt0) (trodAll_cons_mk (Below.trod laidOut (by kernel_rfl) (of_decide_eq_true (by kernel_rfl)) k1 bel lt1) trodAll_mk0)), rfl, bel.frame _, fun h => by cases h⟩
set_option maxRecDepth 100000 in
theorem lifted (hM : Impl) (os : Os) (started : os.Started) (H : Type) (enc : TypeId × Value → H) (F : Stop.Interp) :
    ReturnsInHanded {} Try.checked os 4 .any ((Rows.OpenSpec.upto Rows.hunkAppliesSpec).pre6 enc Try.prog Try.f4 Rows.hunkAppliesUptoRow.domain false) (((Rows.OpenSpec.upto Rows.hunkAppliesSpec).at F).post enc Try.prog Try.f4 false true false false) := by
  refine returnsInHanded_of_cond_sized (C := Try.checked) (s := Rows.OpenSpec.upto Rows.hunkAppliesSpec) (k := Rows.uptoSmall) rfl own started (by kernel_rfl) Try.func4
    (OpenSpec.witness (enc := enc) (C := Try.checked) (s := Rows.OpenSpec.upto Rows.hunkAppliesSpec) (k := Rows.uptoSmall) rfl false ⟨#[], #[.slice none 0 0, .slice none 0 0], []⟩ 8 (by kernel_rfl) (by kernel_rfl) (by kernel_rfl)
      (x := ([.nil, .nil], [], [])) (by kernel_rfl) rfl (by kernel_rfl)) ?_
  intro W base args ds gs before hval hW _ hk hsz0 _
  exact contract hM H enc W base args ds gs before hval hW hk hsz0
theorem over (hM : Impl) : Rows.hunkAppliesUptoRow.holds Try.pinned (Rows.OpenSpec.upto Rows.hunkAppliesSpec) :=
  OpenClaim.holds_of_cond 4 Try.f4 rfl rfl rfl rfl rfl rfl rfl ⟨rfl, rfl, rfl, rfl, rfl⟩ rfl rfl rfl rfl rfl (by kernel_rfl) Try.func4 (by kernel_rfl)
    (of_decide_eq_true (by kernel_rfl)) (by unfold Func.isWrapper; first | (rw [if_pos (by decide +kernel)]; kernel_rfl) | (rw [if_neg (by decide +kernel)]; exact ⟨rfl, rfl⟩))
    (fun os started H enc _ F => lifted hM os started H enc F)
end Go.Proofs.Ytoncghamkedhcaa.hunkApplies

namespace Go.Proofs.Ytoncghamkedhcaa
theorem hunkAppliesUpto_holds : Rows.HunkAppliesUptoSaid := hunkApplies.over Kd.impl
#print axioms hunkAppliesUpto_holds
end Go.Proofs.Ytoncghamkedhcaa
