/-
  HunkPieces: for every two lists of lines and every number of lines around: the pieces between the lists, or the refusal, are the document's, at a second call too; the lists that are handed in stay as they are, and their memory behind them; what the calls answer is new memory, each list apart from all others.
  It is said of the code of package hunk as it landed, for every argument of the given row's domain, in the first form; the law returns true, and writes nothing that was there. No other condition.
-/
import Derived.Test.YtoncghamkedhcaaT3
import Derived.Deep.QuietTactic
import Derived.BigQuiet
import Derived.ProofKit
import Derived.OpenShut
import Derived.ChangeOld
import Derived.Below
import Derived.JoinedCond
namespace Go.Proofs.Ytoncghamkedhcaa.Aq
open Go.RowKit Tx
set_option linter.unusedVariables false
def MK : ByteArray := ⟨#[97, 98, 99, 100, 101, 102, 103, 104, 105, 106, 107, 108, 109, 110, 111, 112, 113, 114, 115, 116, 117, 118, 119, 120, 121, 122]⟩
def was (j : Nat) : ByteArray := ⟨#[119, 97, 115]⟩ ++ MK.extract (j % 26) (j % 26 + 1)
def new (j : Nat) : ByteArray := ⟨#[110, 101, 119]⟩ ++ MK.extract (j % 26) (j % 26 + 1)
structure Ls where
  m : Nat
  A : Nat → Option Addr
  N : Nat → Nat
  C : Nat → Nat
  bo : Nat
  B : Nat
namespace Ls
variable (L : Ls)
def val (j : Nat) : Value := .slice (L.A j) (L.N j) (L.C j)
def cells (w : World) : Prop := ∀ j, j < L.m → w.cell? ⟨L.bo, j, none⟩ = some (.slice (L.A j) (L.N j) (L.C j))
def far : Prop := (∀ i j, i < L.m → j < L.m → i ≠ j → ∀ x, L.A i = some x → L.A j ≠ some x) ∧ ∀ j, j < L.m → ∀ g, L.A j = some ⟨g, 0, none⟩ → g ≠ L.bo
def marked (w : World) (i k : Nat) : Prop := ∀ j, j < L.m → ∃ xs, w.ownsRow L.B 9 1 (.slice (L.A j) (L.N j) (L.C j)) (L.N j) xs ∧ ∀ l, l < L.N j → (j < i ∨ j = i ∧ l < k) → xs[l]? = some (.string (was j))
end Ls
theorem marked_next {L : Ls} {w : World} {i : Nat} (h : L.marked w i (L.N i)) : L.marked w (i + 1) 0 := by
  intro j hj
  obtain ⟨xs, h1, h2⟩ := h j hj
  refine ⟨xs, h1, fun l hl hh => h2 l hl ?_⟩
  rcases hh with hh | ⟨_, hh⟩
  · by_cases e : j = i
    · subst e; exact .inr ⟨rfl, hl⟩
    · exact .inl (by omega)
  · omega
theorem addr_eq {A : Option Addr} {n c : Nat} {w : World} {B : Nat} {e : TypeId} {xs : List Value} (h : w.ownsRow B e 1 (.slice A n c) n xs) (hn : 0 < n) : ∃ g, A = some ⟨g, 0, none⟩ ∧ B ≤ g := by
  obtain ⟨g, cap, hv, hg, _⟩ := h.form hn
  injection hv with ha
  exact ⟨g, ha, hg⟩
theorem marked_store {L : Ls} {w : World} {i k g : Nat} (hf : L.far) (h : L.marked w i k) (hi : i < L.m) (hk : k < L.N i) (ha : L.A i = some ⟨g, 0, none⟩) : L.marked (w.setCell ⟨g, k, none⟩ (.string (was i))) i (k + 1) := by
  intro j hj
  obtain ⟨xs, h1, h2⟩ := h j hj
  by_cases e : j = i
  · subst e
    rw [ha] at h1 ⊢
    refine ⟨xs.set k (.string (was j)), own_store h1 hk _, fun l hl hh => ?_⟩
    have hl2 : k < xs.length := by rw [h1.1]; omega
    by_cases e2 : l = k
    · subst e2
      exact List.getElem?_set_self hl2
    · rw [List.getElem?_set_ne (fun e => e2 e.symm)]
      exact h2 l hl (.inr ⟨rfl, by rcases hh with hh | ⟨_, hh⟩ <;> omega⟩)
  · refine ⟨xs, own_far h1 ?_ _, fun l hl hh => h2 l hl ?_⟩
    · intro hb
      cases hA : L.A j with
      | none => rw [hA] at hb; simp [Value.ownBlock] at hb
      | some x =>
        by_cases h0 : L.N j = 0
        · rcases h1.2 with ⟨hv, _⟩ | ⟨g', cap', cur, hv, _⟩
          · rw [hA] at hv; cases hv
          · rw [hA] at hv hb
            injection hv with hx
            injection hx with hx
            subst hx
            simp only [Value.ownBlock, Option.some.injEq] at hb
            subst hb
            exact hf.1 j i hj hi e _ hA ha
        · obtain ⟨g', ha', _⟩ := addr_eq h1 (by omega)
          rw [hA] at ha' hb
          injection ha' with hx
          subst hx
          simp only [Value.ownBlock, Option.some.injEq] at hb
          subst hb
          exact hf.1 j i hj hi e _ hA ha
    · rcases hh with hh | ⟨hh, _⟩
      · exact .inl hh
      · exact absurd hh e
theorem cells_store {L : Ls} {w : World} {i k g : Nat} (hf : L.far) (h : L.cells w) (hi : i < L.m) (ha : L.A i = some ⟨g, 0, none⟩) (u : Value) : L.cells (w.setCell ⟨g, k, none⟩ u) := by
  intro j hj
  have hne := hf.2 i hi g ha
  rw [World.cell?_setCell_other _ _ _ _ (fun e => hne (by injection e))]
  exact h j hj
def sw (j : Nat) : Value := .string (was j)
def sn (j : Nat) : Value := .string (new j)
def row (L : Ls) (j k : Nat) : List Value := List.replicate (L.N j) (sw j) ++ List.replicate k (sn j)
theorem row_was {L : Ls} {j k l : Nat} (h : l < L.N j) : (row L j k)[l]? = some (sw j) := by
  rw [row, List.getElem?_append_left (by simpa using h), List.getElem?_replicate, if_pos h]
theorem row_new {L : Ls} {j k l : Nat} (h : ¬ l < L.N j) (h2 : l < L.N j + k) : (row L j k)[l]? = some (sn j) := by
  rw [row, List.getElem?_append_right (by simp; omega), List.length_replicate, List.getElem?_replicate, if_pos (by omega)]
theorem row_zero (L : Ls) (j : Nat) : row L j 0 = List.replicate (L.N j) (sw j) := by simp [row]
theorem row_step (L : Ls) (j k : Nat) : row L j k ++ [sn j] = row L j (k + 1) := by
  rw [row, row, List.append_assoc, List.replicate_succ']
theorem own_same {w w1 : World} {base n : Nat} {e : TypeId} {v : Value} {xs : List Value} (h : w.ownsRow base e 1 v n xs) (hk : ∀ q, q < w.heap.size → v.ownBlock = some q → w1.heap[q]? = w.heap[q]?) : w1.ownsRow base e 1 v n xs := by
  refine ⟨h.1, ?_⟩
  rcases h.2 with h0 | ⟨g, cap, cur, rfl, hb, hh, r⟩
  · exact .inl h0
  · exact .inr ⟨g, cap, cur, rfl, hb, (hk g (Array.getElem?_eq_some_iff.1 hh).1 rfl).trans hh, r⟩
theorem own_lt {w : World} {base n : Nat} {e : TypeId} {v : Value} {xs : List Value} (h : w.ownsRow base e 1 v n xs) {g : Nat} (hg : v.ownBlock = some g) : base ≤ g ∧ g < w.heap.size := h.lt g hg
theorem cell_same {w w1 : World} {g k : Nat} {u : Value} (h : w.cell? ⟨g, k, none⟩ = some u) (hk : w1.heap[g]? = w.heap[g]?) : w1.cell? ⟨g, k, none⟩ = some u := (World.cell?_of_block (a := ⟨g, k, none⟩) hk).trans h
structure Inv (L : Ls) (w0 : World) (H i r : Nat) (w : World) (v6 : Value) (vs : List Value) (b c : Nat → Nat) : Prop where
  cells : L.cells w
  held : ∀ j, j < L.m → ∀ l, l < L.N j → ∃ g, L.A j = some ⟨g, 0, none⟩ ∧ w.cell? ⟨g, l, none⟩ = some (sw j)
  rows : ∀ j, r ≤ j → j < L.m → w.ownsRow L.B 9 1 (.slice (L.A j) (L.N j) (L.C j)) (L.N j) (row L j 0)
  outer : w.ownsRow L.B 22 1 v6 i vs
  high : ∀ g, v6.ownBlock = some g → H ≤ g
  long : ∀ j, j < i → vs[j]? = some (.slice (some ⟨b j, 0, none⟩) (L.N j + 20) (c j)) ∧ w.ownsRow L.B 9 1 (.slice (some ⟨b j, 0, none⟩) (L.N j + 20) (c j)) (L.N j + 20) (row L j 20) ∧ (L.A j = some ⟨b j, 0, none⟩ ∨ H ≤ b j)
  apart : ∀ j k, j < i → k < i → j ≠ k → b j ≠ b k
  low : ∀ j, j < L.m → ∀ g, L.A j = some ⟨g, 0, none⟩ → g < H
  bo : L.bo < H
  size : H ≤ w.heap.size
  below : Below L.B w0 w
  base : L.B ≤ H
structure Cur (L : Ls) (H i k : Nat) (w : World) (v : Value) (b : Nat → Nat) : Prop where
  own : w.ownsRow L.B 9 1 v (L.N i + k) (row L i k)
  at_ : ∀ g, v.ownBlock = some g → (L.A i = some ⟨g, 0, none⟩ ∨ H ≤ g) ∧ ∀ j, j < i → b j ≠ g
theorem inv_start {L : Ls} {w0 w : World} (hf : L.far) (hc : L.cells w) (hm : L.marked w L.m 0) (hbo : L.bo < w.heap.size) (hB : L.B ≤ w.heap.size) (hb : Below L.B w0 w) : Inv L w0 w.heap.size 0 0 w (.slice none 0 0) [] (fun _ => 0) (fun _ => 0) := by
  have hrow : ∀ j, j < L.m → w.ownsRow L.B 9 1 (.slice (L.A j) (L.N j) (L.C j)) (L.N j) (row L j 0) := by
    intro j hj
    obtain ⟨xs, h1, h2⟩ := hm j hj
    have e : xs = row L j 0 := by
      rw [row_zero]
      apply List.ext_getElem?
      intro l
      rw [List.getElem?_replicate]
      by_cases hl : l < L.N j
      · rw [if_pos hl]; exact h2 l hl (.inl hj)
      · rw [if_neg hl, List.getElem?_eq_none (by rw [h1.1]; omega)]
    rw [← e]
    exact h1
  refine ⟨hc, ?_, fun j _ hj => hrow j hj, World.ownsRow_nil _ _ _ _, fun g hg => by simp [Value.ownBlock] at hg, fun j hj => absurd hj (by omega), fun j k hj => absurd hj (by omega), ?_, hbo, Nat.le_refl _, hb, hB⟩
  · intro j hj l hl
    have h1 := hrow j hj
    obtain ⟨g, ha, _⟩ := addr_eq h1 (by omega)
    rw [ha] at h1
    exact ⟨g, ha, own_cell h1 (row_was hl)⟩
  · intro j hj g ha
    have h1 := hrow j hj
    rw [ha] at h1
    exact (own_lt h1 rfl).2
theorem cur_start {L : Ls} {w0 w : World} {H i r : Nat} {v6 : Value} {vs : List Value} {b c : Nat → Nat} (hf : L.far) (h : Inv L w0 H i r w v6 vs b c) (hr : r ≤ i) (hi : i < L.m) : Cur L H i 0 w (.slice (L.A i) (L.N i) (L.C i)) b := by
  have h1 := h.rows i hr hi
  refine ⟨h1, fun g hg => ?_⟩
  have ha : L.A i = some ⟨g, 0, none⟩ := by
    rcases h1.2 with ⟨hv, _⟩ | ⟨g', cap', cur, hv, _⟩
    · rw [hv] at hg; simp [Value.ownBlock] at hg
    · rw [hv] at hg
      simp only [Value.ownBlock, Option.some.injEq] at hg
      subst hg
      injection hv
  refine ⟨.inl ha, fun j hj e => ?_⟩
  rcases (h.long j hj).2.2 with h2 | h2
  · rw [e] at h2
    exact hf.1 j i (by omega) hi (by omega) _ h2 ha
  · have := h.low i hi g ha
    omega
theorem cur_step {L : Ls} {w0 w w1 : World} {H i k r : Nat} {v v1 v6 : Value} {vs : List Value} {b c : Nat → Nat} {o : Obj} (hf : L.far) (h : Inv L w0 H i r w v6 vs b c) (hi : i < L.m) (hc : Cur L H i k w v b)
    (hown : w1.ownsRow L.B 9 1 v1 (L.N i + k + 1) (row L i k ++ [sn i]))
    (hg : (v1.ownBlock = v.ownBlock ∧ (w.alloc o).grownBy w1 v.ownBlock) ∨ (v1.ownBlock = some (w.heap.size + 1) ∧ (w.alloc o).grownBy w1 none)) :
    (∀ q, q < w.heap.size → (∀ g, v.ownBlock = some g → q ≠ g) → w1.heap[q]? = w.heap[q]?) ∧ Cur L H i (k + 1) w1 v1 b ∧ w.heap.size ≤ w1.heap.size ∧ Below L.B w0 w1 ∧
      (∀ q, L.A i = some ⟨q, 0, none⟩ → ∀ l, l < L.N i → w1.cell? ⟨q, l, none⟩ = some (sw i)) := by
  have hB : L.B ≤ w.heap.size := Nat.le_trans h.base h.size
  have hal : w.heap.size + 1 = (w.alloc o).heap.size := (World.size_alloc _ _).symm
  have hk : ∀ q, q < w.heap.size → (∀ g, v.ownBlock = some g → q ≠ g) → w1.heap[q]? = w.heap[q]? := by
    intro q hq hne
    rcases hg with ⟨_, hg⟩ | ⟨_, hg⟩
    · exact (hg.block q (by omega) (fun e => hne q e.symm rfl)).trans (Below.heap_alloc w o q hq)
    · exact (hg.block q (by omega) (by simp)).trans (Below.heap_alloc w o q hq)
  have hown2 : w1.ownsRow L.B 9 1 v1 (L.N i + (k + 1)) (row L i (k + 1)) := by
    rw [← row_step]
    exact hown
  have hsz : w.heap.size ≤ w1.heap.size := by
    rcases hg with ⟨_, hg⟩ | ⟨_, hg⟩
    · have := hg.size; omega
    · have := hg.size; omega
  have hbel : Below L.B w0 w1 := by
    have h2 := h.below.alloc hB o
    rcases hg with ⟨_, hg⟩ | ⟨_, hg⟩
    · exact h2.grown hg (by omega) (fun q hq => (own_lt hc.own hq).1)
    · exact h2.grown hg (by omega) (fun q hq => by cases hq)
  refine ⟨hk, ⟨hown2, fun g hg1 => ?_⟩, hsz, hbel, fun q hq l hl => ?_⟩
  · rcases hg with ⟨he, _⟩ | ⟨he, _⟩
    · exact hc.at_ g (by rw [← he]; exact hg1)
    · rw [he] at hg1
      injection hg1 with hg1
      have hs := h.size
      refine ⟨.inr (by omega), fun j hj e => ?_⟩
      have h9 : b j < w.heap.size := (own_lt (h.long j hj).2.1 rfl).2
      omega
  · by_cases hv : v.ownBlock = some q
    · rcases hg with ⟨he, _⟩ | ⟨_, hg⟩
      · obtain ⟨g', cap', hv', _, _⟩ := hown2.form (by omega)
        rw [hv'] at he hown2
        rw [hv] at he
        simp only [Value.ownBlock, Option.some.injEq] at he
        subst he
        exact own_cell hown2 (row_was hl)
      · obtain ⟨g', hA, hcell⟩ := h.held i hi l hl
        rw [hq] at hA
        injection hA with hA
        injection hA with hA
        subst hA
        have hq' := World.block_lt_of_cell? w _ hcell
        exact cell_same hcell ((hg.block q (by have : q < w.heap.size := hq'; omega) (by simp)).trans (Below.heap_alloc w o q hq'))
    · obtain ⟨g', hA, hcell⟩ := h.held i hi l hl
      rw [hq] at hA
      injection hA with hA
      injection hA with hA
      subst hA
      exact cell_same hcell (hk q (World.block_lt_of_cell? w _ hcell) (fun g hg e => hv (by rw [hg, e])))
theorem inv_step {L : Ls} {w0 w w1 : World} {H i k r : Nat} {v v6 : Value} {vs : List Value} {b c : Nat → Nat} (hf : L.far) (h : Inv L w0 H i r w v6 vs b c) (hi : i < L.m) (hc : Cur L H i k w v b) (rowsi : ∀ j, i < j → j < L.m → w.ownsRow L.B 9 1 (.slice (L.A j) (L.N j) (L.C j)) (L.N j) (row L j 0))
    (hk : ∀ q, q < w.heap.size → (∀ g, v.ownBlock = some g → q ≠ g) → w1.heap[q]? = w.heap[q]?) (hsz : w.heap.size ≤ w1.heap.size) (hbel : Below L.B w0 w1)
    (hi1 : ∀ q, L.A i = some ⟨q, 0, none⟩ → ∀ l, l < L.N i → w1.cell? ⟨q, l, none⟩ = some (sw i)) :
    L.cells w1 ∧ (∀ j, j < L.m → ∀ l, l < L.N j → ∃ g, L.A j = some ⟨g, 0, none⟩ ∧ w1.cell? ⟨g, l, none⟩ = some (sw j)) ∧
      (∀ j, i < j → j < L.m → w1.ownsRow L.B 9 1 (.slice (L.A j) (L.N j) (L.C j)) (L.N j) (row L j 0)) ∧ w1.ownsRow L.B 22 1 v6 i vs ∧
      (∀ j, j < i → vs[j]? = some (.slice (some ⟨b j, 0, none⟩) (L.N j + 20) (c j)) ∧ w1.ownsRow L.B 9 1 (.slice (some ⟨b j, 0, none⟩) (L.N j + 20) (c j)) (L.N j + 20) (row L j 20) ∧ (L.A j = some ⟨b j, 0, none⟩ ∨ H ≤ b j)) := by
  have hs := h.size
  have hbo := h.bo
  refine ⟨fun j hj => ?_, fun j hj l hl => ?_, fun j hij hj => ?_, ?_, fun j hj => ?_⟩
  · refine cell_same (h.cells j hj) (hk L.bo (by omega) (fun g hg e => ?_))
    subst e
    rcases (hc.at_ _ hg).1 with ha | ha
    · exact hf.2 i hi _ ha rfl
    · omega
  · by_cases e : j = i
    · subst e
      obtain ⟨g, ha, _⟩ := h.held j hj l hl
      exact ⟨g, ha, hi1 g ha l hl⟩
    · obtain ⟨g, ha, hcell⟩ := h.held j hj l hl
      refine ⟨g, ha, cell_same hcell (hk g (World.block_lt_of_cell? w _ hcell) (fun q hq e2 => ?_))⟩
      subst e2
      rcases (hc.at_ _ hq).1 with h2 | h2
      · exact hf.1 j i hj hi e _ ha h2
      · have := h.low j hj _ ha
        omega
  · have h1 := rowsi j hij hj
    refine own_same h1 (fun q hq hv => hk q hq (fun g hg e => ?_))
    subst e
    have ha : L.A j = some ⟨q, 0, none⟩ := by
      rcases h1.2 with ⟨hv2, _⟩ | ⟨g', cap', cur, hv2, _⟩
      · rw [hv2] at hv; simp [Value.ownBlock] at hv
      · rw [hv2] at hv
        simp only [Value.ownBlock, Option.some.injEq] at hv
        subst hv
        injection hv2
    rcases (hc.at_ _ hg).1 with h2 | h2
    · exact hf.1 j i hj hi (by omega) _ ha h2
    · have := h.low j hj _ ha
      omega
  · exact own_same h.outer (fun q hq hv => hk q hq (fun g hg e => by
      subst e
      exact types_ne hc.own h.outer (by decide) hg hv))
  · obtain ⟨h1, h2, h3⟩ := h.long j hj
    refine ⟨h1, own_same h2 (fun q hq hv => hk q hq (fun g hg e => ?_)), h3⟩
    simp only [Value.ownBlock, Option.some.injEq] at hv
    subst hv
    exact (hc.at_ g hg).2 j hj e
theorem inv_next {L : Ls} {w0 w w1 : World} {H i bv cv r : Nat} {v6 v7 : Value} {vs : List Value} {b c : Nat → Nat} {o : Obj} (hf : L.far) (h : Inv L w0 H i r w v6 vs b c) (hi : i < L.m) (hc : Cur L H i 20 w (.slice (some ⟨bv, 0, none⟩) (L.N i + 20) cv) b)
    (rowsi : ∀ j, i < j → j < L.m → w.ownsRow L.B 9 1 (.slice (L.A j) (L.N j) (L.C j)) (L.N j) (row L j 0))
    (hown : w1.ownsRow L.B 22 1 v7 (i + 1) (vs ++ [.slice (some ⟨bv, 0, none⟩) (L.N i + 20) cv]))
    (hg : (v7.ownBlock = v6.ownBlock ∧ (w.alloc o).grownBy w1 v6.ownBlock) ∨ (v7.ownBlock = some (w.heap.size + 1) ∧ (w.alloc o).grownBy w1 none)) :
    Inv L w0 H (i + 1) (i + 1) w1 v7 (vs ++ [.slice (some ⟨bv, 0, none⟩) (L.N i + 20) cv]) (fun j => if j = i then bv else b j) (fun j => if j = i then cv else c j) := by
  have hB : L.B ≤ w.heap.size := Nat.le_trans h.base h.size
  have hal : w.heap.size + 1 = (w.alloc o).heap.size := (World.size_alloc _ _).symm
  have hs := h.size
  have hbo := h.bo
  have hvl : vs.length = i := by have := h.outer.1; omega
  have hk : ∀ q, q < w.heap.size → (∀ g, v6.ownBlock = some g → q ≠ g) → w1.heap[q]? = w.heap[q]? := by
    intro q hq hne
    rcases hg with ⟨_, hg⟩ | ⟨_, hg⟩
    · exact (hg.block q (by omega) (fun e => hne q e.symm rfl)).trans (Below.heap_alloc w o q hq)
    · exact (hg.block q (by omega) (by simp)).trans (Below.heap_alloc w o q hq)
  have hsz : w.heap.size ≤ w1.heap.size := by
    rcases hg with ⟨_, hg⟩ | ⟨_, hg⟩
    · have := hg.size; omega
    · have := hg.size; omega
  have hbel : Below L.B w0 w1 := by
    have h2 := h.below.alloc hB o
    rcases hg with ⟨_, hg⟩ | ⟨_, hg⟩
    · exact h2.grown hg (by omega) (fun q hq => (own_lt h.outer hq).1)
    · exact h2.grown hg (by omega) (fun q hq => by cases hq)
  have hrow : ∀ {n : Nat} {v : Value} {xs : List Value}, w.ownsRow L.B 9 1 v n xs → w1.ownsRow L.B 9 1 v n xs := by
    intro n v xs h1
    exact own_same h1 (fun q hq hv => hk q hq (fun g hg e => by
      subst e
      exact types_ne h1 h.outer (by decide) hv hg))
  refine ⟨fun j hj => ?_, fun j hj l hl => ?_, fun j hij hj => hrow (rowsi j (by omega) hj), hown, fun g hg7 => ?_, fun j hj => ?_, fun j k hj hk2 hne => ?_, h.low, hbo, by omega, hbel, h.base⟩
  · refine cell_same (h.cells j hj) (hk L.bo (by omega) (fun g hg e => ?_))
    have := h.high g hg
    omega
  · obtain ⟨g, ha, hcell⟩ := h.held j hj l hl
    refine ⟨g, ha, cell_same hcell (hk g (World.block_lt_of_cell? w _ hcell) (fun q hq e2 => ?_))⟩
    have h1 := h.high q hq
    have h2 := h.low j hj g ha
    omega
  · rcases hg with ⟨he, _⟩ | ⟨he, _⟩
    · exact h.high g (by rw [← he]; exact hg7)
    · rw [he] at hg7
      injection hg7 with hg7
      omega
  · by_cases e : j = i
    · subst e
      rw [if_pos rfl, if_pos rfl]
      refine ⟨?_, hrow hc.own, (hc.at_ bv rfl).1⟩
      rw [List.getElem?_append_right (by omega), hvl, Nat.sub_self]
      rfl
    · rw [if_neg e, if_neg e]
      obtain ⟨h1, h2, h3⟩ := h.long j (by omega)
      refine ⟨?_, hrow h2, h3⟩
      rw [List.getElem?_append_left (by omega)]
      exact h1
  · by_cases e : j = i
    · by_cases e2 : k = i
      · omega
      · rw [if_pos e, if_neg e2]
        exact fun hh => (hc.at_ bv rfl).2 k (by omega) hh.symm
    · by_cases e2 : k = i
      · rw [if_neg e, if_pos e2]
        exact fun hh => (hc.at_ bv rfl).2 j (by omega) hh
      · rw [if_neg e, if_neg e2]
        exact h.apart j k (by omega) (by omega) hne
theorem both_step {L : Ls} {w0 w w1 : World} {H i k r : Nat} {v v1 v6 : Value} {vs : List Value} {b c : Nat → Nat} {o : Obj} (hf : L.far) (h : Inv L w0 H i r w v6 vs b c) (hr : r ≤ i + 1) (hi : i < L.m) (hc : Cur L H i k w v b)
    (hown : w1.ownsRow L.B 9 1 v1 (L.N i + k + 1) (row L i k ++ [sn i]))
    (hg : (v1.ownBlock = v.ownBlock ∧ (w.alloc o).grownBy w1 v.ownBlock) ∨ (v1.ownBlock = some (w.heap.size + 1) ∧ (w.alloc o).grownBy w1 none)) :
    Inv L w0 H i (i + 1) w1 v6 vs b c ∧ Cur L H i (k + 1) w1 v1 b := by
  obtain ⟨hk, hc1, hsz, hbel, hi1⟩ := cur_step hf h hi hc hown hg
  have rowsi := fun j (hij : i < j) (hj : j < L.m) => h.rows j (by omega) hj
  obtain ⟨a1, a2, a3, a4, a5⟩ := inv_step hf h hi hc rowsi hk hsz hbel hi1
  exact ⟨⟨a1, a2, fun j hij hj => a3 j (by omega) hj, a4, h.high, a5, h.apart, h.low, h.bo, Nat.le_trans h.size hsz, hbel, h.base⟩, hc1⟩
theorem outer_next {L : Ls} {w0 w w1 : World} {H i bv cv r : Nat} {v6 v7 : Value} {vs : List Value} {b c : Nat → Nat} {o : Obj} (hf : L.far) (h : Inv L w0 H i r w v6 vs b c) (hr : r ≤ i + 1) (hi : i < L.m) (hc : Cur L H i 20 w (.slice (some ⟨bv, 0, none⟩) (L.N i + 20) cv) b)
    (hown : w1.ownsRow L.B 22 1 v7 (i + 1) (vs ++ [.slice (some ⟨bv, 0, none⟩) (L.N i + 20) cv]))
    (hg : (v7.ownBlock = v6.ownBlock ∧ (w.alloc o).grownBy w1 v6.ownBlock) ∨ (v7.ownBlock = some (w.heap.size + 1) ∧ (w.alloc o).grownBy w1 none)) :
    ∃ b2 c2, Inv L w0 H (i + 1) (i + 1) w1 v7 (vs ++ [.slice (some ⟨bv, 0, none⟩) (L.N i + 20) cv]) b2 c2 :=
  ⟨_, _, inv_next hf h hi hc (fun j hij hj => h.rows j (by omega) hj) hown hg⟩
theorem inv_more {L : Ls} {w0 w : World} {H i r : Nat} {v6 : Value} {vs : List Value} {b c : Nat → Nat} (h : Inv L w0 H i r w v6 vs b c) (hr : r ≤ i + 1) : Inv L w0 H i (i + 1) w v6 vs b c :=
  ⟨h.cells, h.held, fun j hij hj => h.rows j (by omega) hj, h.outer, h.high, h.long, h.apart, h.low, h.bo, h.size, h.below, h.base⟩
end Go.Proofs.Ytoncghamkedhcaa.Aq

namespace Go.Proofs.Ytoncghamkedhcaa.Aq
open Go.RowKit Tx
set_option linter.unusedVariables false
theorem info33 : (Try.prog.info? 22).map (fun i => (i.zero, i.size, i.bytes)) = some (some (.slice none 0 0), 1, 24) := by kernel_rfl
end Go.Proofs.Ytoncghamkedhcaa.Aq

namespace Go.Proofs.Ytoncghamkedhcaa.Aq
open Go.RowKit Tx
set_option linter.unusedVariables false
def two (a b : Option Addr) (n ca cb bo B : Nat) : Ls := { m := 2, A := fun j => if j = 0 then a else b, N := fun _ => n, C := fun j => if j = 0 then ca else cb, bo := bo, B := B }
end Go.Proofs.Ytoncghamkedhcaa.Aq

namespace Go.Proofs.Ytoncghamkedhcaa.Aq
open Go.RowKit Tx
set_option linter.unusedVariables false
set_option maxRecDepth 100000 in
set_option maxHeartbeats 4000000 in
theorem apart_wide (L : Ls) (co : Nat) (w : World) (hm : L.m ≤ 1048576) (hN : ∀ j, j < L.m → L.N j ≤ 8796093022187) (hB : L.B ≤ w.heap.size) (hbo : L.bo < w.heap.size) (hbB : L.B ≤ L.bo) (hf : L.far) (hc : L.cells w) (hr : L.marked w 0 0) :
    Calls Try.prog 12 #[.slice (some ⟨L.bo, 0, none⟩) L.m co] w fun e w' => e = .returned (.bool true) ∧ Below L.B w w' := by
  obtain ⟨i0, hi0, hz0, hz1, hz2⟩ := info_parts info9
  obtain ⟨i33, hi33, hy0, hy1, hy2⟩ := info_parts info33
  have HN := Lib.hid hN
  have HF := Lib.hid hf
  have HC := Lib.hid hc
  have HR := Lib.hid hr
  clear hN hf hc hr
  go_enter Try.func12, Try.ntmps12
  go_wp2
  obtain ⟨M, hM⟩ : ∃ M, M = MK := ⟨_, rfl⟩
  have hM26 : 26 ≤ M.size := by rw [hM]; decide
  rw [show ({ data := #[97, 98, 99, 100, 101, 102, 103, 104, 105, 106, 107, 108, 109, 110, 111, 112, 113, 114, 115, 116, 117, 118, 119, 120, 121, 122] } : ByteArray) = MK from rfl, ← hM]
  have HM := Lib.hid hM
  clear hM
  go_loopw [4, 5] (fun i _ wr => ∃ j : Nat, j ≤ L.m ∧ i = .int .i64 j ∧ Hid (L.cells wr) ∧ Hid (L.marked wr j 0) ∧ Below L.B w wr ∧ w.heap.size ≤ wr.heap.size) (fun i _ _ => L.m - (intOf i).toNat)
  case atStart => exact ⟨0, Nat.zero_le _, rfl, HC, HR, Below.refl _ _, Nat.le_refl _⟩
  case round =>
    obtain ⟨i, hi, rfl, hcells, hmark, hb, hsz⟩ := hrel
    by_cases hlt : i < L.m
    · have hcell := hcells.out i hlt
      have hNi := HN.out i hlt
      obtain ⟨n, hn⟩ : ∃ n, n = L.N i := ⟨_, rfl⟩
      rw [← hn] at hcell hNi
      have HNN := Lib.hid hn
      clear hn
      obtain ⟨r, hr⟩ : ∃ r, r = i % 26 := ⟨_, rfl⟩
      have hrl : r < 26 := by omega
      have hr1 : (i : Int) % 26 = (r : Int) := by omega
      have hr2 : (i : Int).tmod 26 = (r : Int) := by rw [Int.tmod_eq_emod_of_nonneg (by omega)]; exact hr1
      have hr3 : IntKind.i64.wrap ((r : Int) + 1) = (r : Int) + 1 := IntWalk.i64_in _ (by omega)
      have hr4 : ((r : Int) + 1).toNat = r + 1 := by omega
      have hW : ({ data := #[119, 97, 115] } : ByteArray) ++ M.extract r (r + 1) = was i := by rw [was, HM.out, hr]
      have hWs : (M.extract r (r + 1)).size ≤ 1 := by simp; omega
      obtain ⟨Y, hY⟩ : ∃ Y, Y = was i := ⟨_, rfl⟩
      rw [← hY] at hW
      have HY := Lib.hid hY
      clear hr hY
      go_wp2
      go_loopw [5] (fun x wx => ∃ k : Nat, k ≤ n ∧ x = .int .i64 k ∧ Hid (L.cells wx) ∧ Hid (L.marked wx i k) ∧ Below L.B w wx ∧ w.heap.size ≤ wx.heap.size) (fun x _ => n - (intOf x).toNat)
      case atStart => exact ⟨0, Nat.zero_le _, rfl, hcells, hmark, hb, hsz⟩
      case round =>
        obtain ⟨k, hk, rfl, hcells2, hmark2, hb2, hsz2⟩ := hrel
        have hcell2 := hcells2.out i hlt
        rw [← HNN.out] at hcell2
        clear hcell hcells hmark hb hsz
        by_cases hkn : k < n
        · obtain ⟨xs, hx1, hx2⟩ := hmark2.out i hlt
          rw [← HNN.out] at hx1
          obtain ⟨g, ha, hg⟩ := addr_eq hx1 (by omega)
          rw [ha] at hcell2 hx1
          have hfz := own_frozen hx1 k
          have hst := own_cell hx1 (List.getElem?_eq_getElem (show k < xs.length by rw [hx1.1]; omega))
          obtain ⟨old, hold⟩ : ∃ old, old = xs[k]'(by rw [hx1.1]; omega) := ⟨_, rfl⟩
          rw [← hold] at hst
          have hkn' : (k : Int) < (n : Int) := by omega
          have hlt' : (i : Int) < (L.m : Int) := by omega
          have HX := Lib.hid hx1
          clear hx1 hx2 hold
          go_wp2
          go_region
          all_goals
            go_wp2
            go_roundw
            case rel => exact ⟨k + 1, by omega, by go_num, cells_store HF.out hcells2.out hlt ha _, by rw [HY.out]; exact marked_store HF.out hmark2.out hlt (by rw [← HNN.out]; exact hkn) ha, (hb2.setCell (p := ⟨g, k, none⟩) hg _).drew, by simpa [World.setCell] using hsz2⟩
            case measure => simp [intOf]; omega
        · obtain rfl : k = n := by omega
          have hdone : Hid (L.marked wr (i + 1) 0) := marked_next (by rw [← HNN.out]; exact hmark2.out)
          go_wp2
          go_roundw
          case rel => exact ⟨i + 1, by omega, by go_num, hcells2, hdone, hb2, hsz2⟩
          case measure => simp [intOf]; omega
    · obtain rfl : i = L.m := by omega
      clear HC HR
      have hinv := inv_start HF.out hcells.out hmark.out (by omega) (by omega) hb
      have HI := Lib.hid hinv
      obtain ⟨H, hH⟩ : ∃ H, H = wr.heap.size := ⟨_, rfl⟩
      rw [← hH] at HI
      clear hinv hH hcells hmark hb hsz hlt
      go_wp2
      go_loopw [6, 7, 8, 9] (fun v6 i _ _ wx => ∃ (k : Nat) (vs : List Value) (b c : Nat → Nat), k ≤ L.m ∧ i = .int .i64 k ∧ Hid (Inv L w H k k wx v6 vs b c)) (fun _ i _ _ _ => L.m - (intOf i).toNat)
      case atStart => exact ⟨0, [], _, _, Nat.zero_le _, rfl, HI⟩
      case round =>
        obtain ⟨i, vs, b, c, hi, rfl, HV⟩ := hrel
        clear HI
        by_cases hlt : i < L.m
        · have hcell := HV.out.cells i hlt
          have hcur := Lib.hid (cur_start HF.out HV.out (Nat.le_refl _) hlt)
          have hmore := Lib.hid (inv_more HV.out (by omega))
          have hNi := HN.out i hlt
          have hlt' : (i : Int) < (L.m : Int) := by omega
          obtain ⟨r, hr⟩ : ∃ r, r = i % 26 := ⟨_, rfl⟩
          have hrl : r < 26 := by omega
          have hr1 : (i : Int) % 26 = (r : Int) := by omega
          have hX : ({ data := #[110, 101, 119] } : ByteArray) ++ M.extract r (r + 1) = new i := by rw [new, HM.out, hr]
          have hXs : (M.extract r (r + 1)).size ≤ 1 := by simp; omega
          obtain ⟨Y, hY⟩ : ∃ Y, Y = new i := ⟨_, rfl⟩
          rw [← hY] at hX
          have HY := Lib.hid hY
          clear hr hY
          go_wp2
          go_loopw [8, 9] (fun v x wy => ∃ k : Nat, k ≤ 20 ∧ x = .int .i64 k ∧ Hid (Inv L w H i (i + 1) wy u6 vs b c) ∧ Hid (Cur L H i k wy v b)) (fun _ x _ => 20 - (intOf x).toNat)
          case atStart => exact ⟨0, by omega, rfl, hmore, hcur⟩
          case round =>
            obtain ⟨k, hk, rfl, hI, hC⟩ := hrel
            clear HV hcell hcur hmore
            have hsz := hI.out.size
            have hbs := hI.out.base
            by_cases hk20 : k < 20
            · have hown := hC.out.own
              go_wp2_with (at_builtin; refine wpList_append_two _ rfl _ _ 22 rfl L.B 9 i0 (.string ⟨#[]⟩) 16 Try.underlying22 hi0 hz0 hz1 hz2 rfl _ _ _ rfl (hown.alloc _) ⟨wr.heap.size, 0, none⟩ 1 (.string Y) rfl ?c1 rfl ?c3 ?c4 ?c5 ?_)
              case c1 => go_simp
              case c3 => omega
              case c4 => omega
              case c5 => simp; omega
              intro v1 w1 hown1 hg1
              have hst := both_step HF.out hI.out (Nat.le_refl _) hlt hC.out (by rw [HY.out] at hown1; exact hown1) hg1
              have h1 := Lib.hid hst.1
              have h2 := Lib.hid hst.2
              clear hst hown hown1 hg1
              go_wp2
              go_roundw
              case rel => exact ⟨k + 1, by omega, by go_num, h1, h2⟩
              case measure => simp [intOf]; omega
            · obtain rfl : k = 20 := by omega
              obtain ⟨bv, cv, hv, _, _⟩ := hC.out.own.form (by omega)
              rw [hv] at hC ⊢
              clear hv
              have hout := hI.out.outer
              go_wp2_with (at_builtin; refine wpList_append_two _ rfl _ _ 31 rfl L.B 22 i33 (.slice none 0 0) 24 Try.underlying31 hi33 hy0 hy1 hy2 rfl _ _ _ rfl (hout.alloc _) ⟨wr.heap.size, 0, none⟩ 1 (.slice (some ⟨bv, 0, none⟩) (L.N i + 20) cv) rfl ?c1 rfl ?c3 ?c4 ?c5 ?_)
              case c1 => go_simp
              case c3 => omega
              case c4 => omega
              case c5 => simp; omega
              intro v7 w1 hown1 hg1
              obtain ⟨b2, c2, hst⟩ := outer_next HF.out hI.out (Nat.le_refl _) hlt hC.out hown1 hg1
              have h1 := Lib.hid hst
              clear hst hout hown1 hg1
              go_wp2
              go_roundw
              case rel => exact ⟨i + 1, _, b2, c2, by omega, by go_num, h1⟩
              case measure => simp [intOf]; omega
        · obtain rfl : i = L.m := by omega
          have hbelow := HV.out.below
          by_cases hm0 : L.m = 0
          · have hm0' : (L.m : Int) ≤ 0 := by omega
            go_wp2
            go_loop [10] (fun i => i = .int .i64 0) (fun _ => 0)
            case atStart => exact rfl
            case round =>
              obtain rfl := hrel
              go_wp2
              go_ret
              exact ⟨rfl, hbelow⟩
          · obtain ⟨g6, c6, hv6, _, _⟩ := HV.out.outer.form (by omega)
            rw [hv6] at HV ⊢
            clear hv6 hm0
            go_wp2
            go_loop [10, 11, 12] (fun i _ _ => ∃ j : Nat, j ≤ L.m ∧ i = .int .i64 j) (fun i _ _ => L.m - (intOf i).toNat)
            case atStart => exact ⟨0, Nat.zero_le _, rfl⟩
            case round =>
              obtain ⟨j, hj, rfl⟩ := hrel
              by_cases hjm : j < L.m
              · obtain ⟨hlv, hlo, _⟩ := HV.out.long j hjm
                have hcl := own_cell HV.out.outer hlv
                have hcj := HV.out.cells j hjm
                have HLO := Lib.hid hlo
                have HH := Lib.hid (HV.out.held j hjm)
                have hNj := HN.out j hjm
                have hjm' : (j : Int) < (L.m : Int) := by omega
                obtain ⟨n, hn⟩ : ∃ n, n = L.N j := ⟨_, rfl⟩
                obtain ⟨bj, hbj⟩ : ∃ x, x = b j := ⟨_, rfl⟩
                obtain ⟨cj, hcj2⟩ : ∃ x, x = c j := ⟨_, rfl⟩
                rw [← hn, ← hbj, ← hcj2] at hcl HLO
                rw [← hn] at hcj hNj HH
                have HNN := Lib.hid hn
                clear hn hbj hcj2 hlo hlv
                obtain ⟨r, hr⟩ : ∃ r, r = j % 26 := ⟨_, rfl⟩
                have hrl : r < 26 := by omega
                have hr1 : (j : Int) % 26 = (r : Int) := by omega
                have hXs : (M.extract r (r + 1)).size ≤ 1 := by simp; omega
                have hW : ({ data := #[119, 97, 115] } : ByteArray) ++ M.extract r (r + 1) = was j := by rw [was, HM.out, hr]
                have hX : ({ data := #[110, 101, 119] } : ByteArray) ++ M.extract r (r + 1) = new j := by rw [new, HM.out, hr]
                obtain ⟨Wj, hWj⟩ : ∃ x, x = was j := ⟨_, rfl⟩
                obtain ⟨Xj, hXj⟩ : ∃ x, x = new j := ⟨_, rfl⟩
                rw [← hWj] at hW
                rw [← hXj] at hX
                have HWJ := Lib.hid hWj
                have HXJ := Lib.hid hXj
                clear hr hWj hXj
                go_wp2
                go_loop [11, 12] (fun x _ => ∃ l : Nat, l ≤ n + 20 ∧ x = .int .i64 l) (fun x _ => n + 20 - (intOf x).toNat)
                case atStart => exact ⟨0, Nat.zero_le _, rfl⟩
                case round =>
                  obtain ⟨l, hl, rfl⟩ := hrel
                  by_cases hln : l < n
                  · obtain ⟨g, ha, hcg⟩ := HH.out l hln
                    have hcb := own_cell HLO.out (row_was (L := L) (j := j) (k := 20) (l := l) (by rw [← HNN.out]; exact hln))
                    rw [sw, ← HWJ.out] at hcg hcb
                    rw [ha] at hcj
                    have hln1 : (l : Int) < (n : Int) := by omega
                    have hln2 : (l : Int) < (n : Int) + 20 := by omega
                    go_wp2
                    go_round
                    case rel => exact ⟨l + 1, by omega, by go_num⟩
                    case measure => simp [intOf]; omega
                  · by_cases hl20 : l < n + 20
                    · have hcb := own_cell HLO.out (row_new (L := L) (j := j) (k := 20) (l := l) (by rw [← HNN.out]; exact hln) (by rw [← HNN.out]; exact hl20))
                      rw [sn, ← HXJ.out] at hcb
                      have hln1 : (n : Int) ≤ (l : Int) := by omega
                      have hln2 : (l : Int) < (n : Int) + 20 := by omega
                      go_wp2
                      go_round
                      case rel => exact ⟨l + 1, by omega, by go_num⟩
                      case measure => simp [intOf]; omega
                    · obtain rfl : l = n + 20 := by omega
                      go_wp2
                      go_round
                      case rel => exact ⟨j + 1, by omega, by go_num⟩
                      case measure => simp [intOf]; omega
              · go_wp2
                go_ret
                exact ⟨rfl, hbelow⟩
end Go.Proofs.Ytoncghamkedhcaa.Aq

namespace Go.Proofs.Ytoncghamkedhcaa.Kd
open Go.RowKit Tx Um Ud Aq Km
set_option linter.unusedVariables false
def Fr (u v : Value) : Prop := ∀ g, u.ownBlock = some g → v.ownBlock ≠ some g
theorem Fr.symm {u v : Value} (h : Fr u v) : Fr v u := fun g h1 h2 => h g h2 h1
def adr (v : Value) : Option Addr := match v with
  | .slice A _ _ => A
  | _ => none
def cnt (v : Value) : Nat := match v with
  | .slice _ n _ => n
  | _ => 0
def capa (v : Value) : Nat := match v with
  | .slice _ _ c => c
  | _ => 0
def Lone (w : World) (B bo : Nat) (v : Value) : Prop := ∃ n xs, n ≤ 8796093022187 ∧ w.ownsRow B 9 1 v n xs ∧ v.ownBlock ≠ some bo
theorem Lone.form {w : World} {B bo : Nat} {v : Value} (h : Lone w B bo v) : v = .slice (adr v) (cnt v) (capa v) ∧ cnt v ≤ 8796093022187 ∧ (∃ xs, w.ownsRow B 9 1 v (cnt v) xs) ∧ (∀ x, adr v = some x → x = ⟨x.block, 0, none⟩ ∧ v.ownBlock = some x.block) := by
  obtain ⟨n, xs, hn, ho, hb⟩ := h
  have ho2 := ho
  rcases ho.2 with ⟨rfl, h0⟩ | ⟨g, cap, cur, rfl, _⟩
  · exact ⟨rfl, Nat.zero_le _, ⟨xs, by subst h0; exact ho2⟩, fun x hx => by cases hx⟩
  · exact ⟨rfl, hn, ⟨xs, ho2⟩, fun x hx => by injection hx with hx; subst hx; exact ⟨rfl, rfl⟩⟩
theorem lists_apart (vs : List Value) (bo co B : Nat) (w : World) (hl : ∀ v, v ∈ vs → Lone w B bo v) (hf : vs.Pairwise Fr) (hc : ∀ (j : Nat) v, vs[j]? = some v → w.cell? ⟨bo, j, none⟩ = some v) (hm : vs.length ≤ 1048576) (hB : B ≤ w.heap.size) (hbo : bo < w.heap.size) (hbB : B ≤ bo) :
    Calls Try.prog 12 #[.slice (some ⟨bo, 0, none⟩) vs.length co] w fun e w' => e = .returned (.bool true) ∧ Below B w w' := by
  let L : Ls := { m := vs.length, A := fun j => adr (vs.getD j undef), N := fun j => cnt (vs.getD j undef), C := fun j => capa (vs.getD j undef), bo := bo, B := B }
  have hget : ∀ j, (hj : j < vs.length) → vs.getD j undef = vs[j] := fun j hj => by rw [List.getD_eq_getElem?_getD, List.getElem?_eq_getElem hj]; rfl
  have hmem : ∀ j, (hj : j < vs.length) → Lone w B bo vs[j] := fun j hj => hl _ (List.getElem_mem hj)
  have hval : ∀ j, (hj : j < vs.length) → vs[j] = .slice (L.A j) (L.N j) (L.C j) := fun j hj => by
    show vs[j] = .slice (adr (vs.getD j undef)) (cnt (vs.getD j undef)) (capa (vs.getD j undef))
    rw [hget j hj]
    exact (hmem j hj).form.1
  refine apart_wide L co w hm (fun j hj => ?_) hB hbo hbB ⟨fun i j hi hj hne x hx hx2 => ?_, fun j hj g hg e => ?_⟩ (fun j hj => ?_) (fun j hj => ?_)
  · show cnt (vs.getD j undef) ≤ _
    rw [hget j hj]
    exact (hmem j hj).form.2.1
  · have hx : adr (vs.getD i undef) = some x := hx
    have hx2 : adr (vs.getD j undef) = some x := hx2
    rw [hget i hi] at hx
    rw [hget j hj] at hx2
    have e1 := ((hmem i hi).form.2.2.2 x hx).2
    have e2 := ((hmem j hj).form.2.2.2 x hx2).2
    have hp := List.pairwise_iff_getElem.1 hf
    rcases Nat.lt_or_gt_of_ne hne with h | h
    · exact hp i j hi hj h x.block e1 e2
    · exact hp j i hj hi h x.block e2 e1
  · have hg : adr (vs.getD j undef) = some ⟨g, 0, none⟩ := hg
    rw [hget j hj] at hg
    have e1 := ((hmem j hj).form.2.2.2 _ hg).2
    obtain ⟨_, _, _, _, hb⟩ := hmem j hj
    exact hb (by rw [e1]; exact congrArg some e)
  · rw [hc j vs[j] (List.getElem?_eq_getElem hj)]
    exact congrArg some (hval j hj)
  · obtain ⟨xs, ho⟩ := (hmem j hj).form.2.2.1
    refine ⟨xs, ?_, fun l hl h => ?_⟩
    · rw [← hval j hj]
      have e : L.N j = cnt vs[j] := by show cnt (vs.getD j undef) = _; rw [hget j hj]
      rw [e]
      exact ho
    · rcases h with h | ⟨h1, h2⟩
      · exact absurd h (Nat.not_lt_zero _)
      · exact absurd h2 (Nat.not_lt_zero _)
end Go.Proofs.Ytoncghamkedhcaa.Kd

namespace Go.Proofs.Ytoncghamkedhcaa.Kd
open Go.RowKit Tx
set_option linter.unusedVariables false
def Lst4 (bh oh bk ok k : Nat) (u1 u2 u3 u4 : Value) (W : World) : Prop := W.cell? ⟨bh, oh + k * 3 + 1, none⟩ = some u1 ∧ W.cell? ⟨bh, oh + k * 3 + 2, none⟩ = some u2 ∧ W.cell? ⟨bk, ok + k * 3 + 1, none⟩ = some u3 ∧ W.cell? ⟨bk, ok + k * 3 + 2, none⟩ = some u4
set_option maxRecDepth 100000 in
set_option maxHeartbeats 4000000 in
theorem piecesReg (ops : Array Oper) (hops : ops = (Rg.opsOf Try.f3 12)) (id : Nat) (bh oh hc bk ok kc k L n1 n2 n3 n4 c1 c2 c3 c4 : Nat) (A1 A2 A3 A4 : Option Addr) (vL : Value) {u0 u1 u2 u3 u4 u5 u6 u7 u8 u10 u11 u12 u14 u17 u18 u19 u20 u21 u22 u23 u24 u25 u26 u27 u28 u29 u30 u31 u32 u33 u34 u35 u36 u37 u38 u39 u40 u41 u42 u43 u44 u45 u46 u47 u48 u49 u50 u51 u52 u53 u54 u55 u56 u57 u58 u59 u60 u61 u62 u63 u64 u65 u66 u67 u68 u69 u70 u71 u72 u73 u74 u75 u76 u77 u78 u79 u80 u81 u82 u83 u84 u85 u86 u87 u88 u89 u90 u91 u92 u93 u94 u95 u96 u97 u98 u99 u100 u101 u102 u103 u104 u105 u106 u107 u108 u109 u110 u111 u112 u113 u114 u115 u116 u117 u118 u119 : Value} (w : World) (hk : (k : Int) < (L : Int)) (X0 : World → Prop) (Z : Value → World → Prop)
    (hX : ∀ W, X0 W → Lst4 bh oh bk ok k (.slice A1 n1 c1) (.slice A2 n2 c2) (.slice A3 n3 c3) (.slice A4 n4 c4) W) (hw : X0 w.drew) (hX2 : X0 (w.drew.alloc (.cells #[.slice A1 n1 c1, .slice A2 n2 c2, .slice A3 n3 c3, .slice A4 n4 c4] 22)))
    (hE : ∀ ty, ∃ v8 w8, (Builtin.append_ #[31, 31] ty #[vL, .slice (some ⟨w.heap.size, 0, none⟩) 4 4]).run Try.prog (w.drew.alloc (.cells #[.slice A1 n1 c1, .slice A2 n2 c2, .slice A3 n3 c3, .slice A4 n4 c4] 22)) = .ok v8 w8 ∧ X0 w8 ∧ Z v8 w8) :
    (Code.region id ops true).wp Try.prog (Rg.Only fun a' w' => ∃ v8 : Value, a' = ⟨#[u0, u1, u2, u3, u4, u5, u6, u7, u8, (.slice (some ⟨bh, oh, none⟩) L hc), u10, u11, u12, (.slice (some ⟨bk, ok, none⟩) L kc), u14, v8, (.int .i64 (k : Int)), u17, u18, u19, u20, u21, u22, u23, u24, u25, u26, u27, u28, u29, u30, u31, u32, u33, u34, u35, u36, u37, u38, u39, u40, u41, u42, u43, u44, u45, u46, u47, u48, u49, u50, u51, u52, u53, u54, u55, u56, u57, u58, u59, u60, u61, u62, u63, u64, u65, u66, u67, u68, u69, u70, u71, u72, u73, u74, u75, u76, u77, u78, u79, vL, (.slice (some ⟨bh, oh, none⟩) L hc), (.int .i64 (k : Int)), (.pointer (some ⟨bh, oh + k * 3, none⟩)), (.pointer (some ⟨bh, oh + k * 3 + 1, none⟩)), (.slice A1 n1 c1), (.slice (some ⟨bh, oh, none⟩) L hc), (.int .i64 (k : Int)), (.pointer (some ⟨bh, oh + k * 3, none⟩)), (.pointer (some ⟨bh, oh + k * 3 + 2, none⟩)), (.slice A2 n2 c2), (.slice (some ⟨bk, ok, none⟩) L kc), (.int .i64 (k : Int)), (.pointer (some ⟨bk, ok + k * 3, none⟩)), (.pointer (some ⟨bk, ok + k * 3 + 1, none⟩)), (.slice A3 n3 c3), (.slice (some ⟨bk, ok, none⟩) L kc), (.int .i64 (k : Int)), (.pointer (some ⟨bk, ok + k * 3, none⟩)), (.pointer (some ⟨bk, ok + k * 3 + 2, none⟩)), (.slice A4 n4 c4), (.slice (some ⟨w.heap.size, 0, none⟩) 4 4), v8, u103, u104, u105, u106, u107, u108, u109, u110, u111, u112, u113, u114, u115, u116, u117, u118, u119], []⟩ ∧ Z v8 w') ⟨#[u0, u1, u2, u3, u4, u5, u6, u7, u8, (.slice (some ⟨bh, oh, none⟩) L hc), u10, u11, u12, (.slice (some ⟨bk, ok, none⟩) L kc), u14, vL, (.int .i64 (k : Int)), u17, u18, u19, u20, u21, u22, u23, u24, u25, u26, u27, u28, u29, u30, u31, u32, u33, u34, u35, u36, u37, u38, u39, u40, u41, u42, u43, u44, u45, u46, u47, u48, u49, u50, u51, u52, u53, u54, u55, u56, u57, u58, u59, u60, u61, u62, u63, u64, u65, u66, u67, u68, u69, u70, u71, u72, u73, u74, u75, u76, u77, u78, u79, u80, u81, u82, u83, u84, u85, u86, u87, u88, u89, u90, u91, u92, u93, u94, u95, u96, u97, u98, u99, u100, u101, u102, u103, u104, u105, u106, u107, u108, u109, u110, u111, u112, u113, u114, u115, u116, u117, u118, u119], []⟩ w := by
  subst hops
  have hNS : Region.noSelect (Rg.opsOf Try.f3 12) = true := by kernel_rfl
  refine wp_region_held_drew (S := X0) (by kernel_rfl) hw (fun hHeld => ?_)
  rw [show (Rg.opsOf Try.f3 12).size = 24 by kernel_rfl]
  refine Rg.take (ops := (Rg.opsOf Try.f3 12)) 0 (some 80) (vL) hNS (by kernel_rfl) (by kernel_rfl) (by kernel_rfl) (by kernel_rfl) (by kernel_rfl) hHeld (Rg.y_move (x := (Operand.tmp 15)) (Or.inl (by kernel_rfl)) (by kernel_rfl)) ?_
  refine Rg.take (ops := (Rg.opsOf Try.f3 12)) 1 (some 81) ((.slice (some ⟨bh, oh, none⟩) L hc)) hNS (by kernel_rfl) (by kernel_rfl) (by kernel_rfl) (by kernel_rfl) (by kernel_rfl) hHeld (Rg.y_move (x := (Operand.tmp 9)) (Or.inl (by kernel_rfl)) (by kernel_rfl)) ?_
  refine Rg.take (ops := (Rg.opsOf Try.f3 12)) 2 (some 82) ((.int .i64 (k : Int))) hNS (by kernel_rfl) (by kernel_rfl) (by kernel_rfl) (by kernel_rfl) (by kernel_rfl) hHeld (Rg.y_move (x := (Operand.tmp 16)) (Or.inl (by kernel_rfl)) (by kernel_rfl)) ?_
  refine Rg.take (ops := (Rg.opsOf Try.f3 12)) 3 (some 83) ((.pointer (some ⟨bh, oh + k * 3, none⟩))) hNS (by kernel_rfl) (by kernel_rfl) (by kernel_rfl) (by kernel_rfl) (by kernel_rfl) hHeld (Rg.y_at (T := 23) (x := (Operand.tmp 81)) (y := (Operand.tmp 82)) (vx := (.slice (some ⟨bh, oh, none⟩) L hc)) (vy := (.int .i64 (k : Int))) (by kernel_rfl) (by kernel_rfl) (by kernel_rfl) ?_) ?_
  · (intro W hSw; clear hSw hHeld; go_simp)
  refine Rg.take (ops := (Rg.opsOf Try.f3 12)) 4 (some 84) ((.pointer (some ⟨bh, oh + k * 3 + 1, none⟩))) hNS (by kernel_rfl) (by kernel_rfl) (by kernel_rfl) (by kernel_rfl) (by kernel_rfl) hHeld (Rg.y_field (T := 33) (k := 1) (x := (Operand.tmp 83)) (vx := (.pointer (some ⟨bh, oh + k * 3, none⟩))) (by kernel_rfl) (by kernel_rfl) ?_) ?_
  · (intro W hSw; clear hSw hHeld; go_simp)
  refine Rg.take (ops := (Rg.opsOf Try.f3 12)) 5 (some 85) ((.slice A1 n1 c1)) hNS (by kernel_rfl) (by kernel_rfl) (by kernel_rfl) (by kernel_rfl) (by kernel_rfl) hHeld (Rg.y_load (T := 22) (x := (Operand.tmp 84)) (vx := (.pointer (some ⟨bh, oh + k * 3 + 1, none⟩))) (by kernel_rfl) (by kernel_rfl) ?_) ?_
  · (intro W hSw; obtain ⟨s0, s1, s2, s3⟩ := hX _ hSw; clear hSw hHeld; go_simp)
  refine Rg.take (ops := (Rg.opsOf Try.f3 12)) 6 (some 86) ((.slice (some ⟨bh, oh, none⟩) L hc)) hNS (by kernel_rfl) (by kernel_rfl) (by kernel_rfl) (by kernel_rfl) (by kernel_rfl) hHeld (Rg.y_move (x := (Operand.tmp 9)) (Or.inl (by kernel_rfl)) (by kernel_rfl)) ?_
  refine Rg.take (ops := (Rg.opsOf Try.f3 12)) 7 (some 87) ((.int .i64 (k : Int))) hNS (by kernel_rfl) (by kernel_rfl) (by kernel_rfl) (by kernel_rfl) (by kernel_rfl) hHeld (Rg.y_move (x := (Operand.tmp 16)) (Or.inl (by kernel_rfl)) (by kernel_rfl)) ?_
  refine Rg.take (ops := (Rg.opsOf Try.f3 12)) 8 (some 88) ((.pointer (some ⟨bh, oh + k * 3, none⟩))) hNS (by kernel_rfl) (by kernel_rfl) (by kernel_rfl) (by kernel_rfl) (by kernel_rfl) hHeld (Rg.y_at (T := 23) (x := (Operand.tmp 86)) (y := (Operand.tmp 87)) (vx := (.slice (some ⟨bh, oh, none⟩) L hc)) (vy := (.int .i64 (k : Int))) (by kernel_rfl) (by kernel_rfl) (by kernel_rfl) ?_) ?_
  · (intro W hSw; clear hSw hHeld; go_simp)
  refine Rg.take (ops := (Rg.opsOf Try.f3 12)) 9 (some 89) ((.pointer (some ⟨bh, oh + k * 3 + 2, none⟩))) hNS (by kernel_rfl) (by kernel_rfl) (by kernel_rfl) (by kernel_rfl) (by kernel_rfl) hHeld (Rg.y_field (T := 33) (k := 2) (x := (Operand.tmp 88)) (vx := (.pointer (some ⟨bh, oh + k * 3, none⟩))) (by kernel_rfl) (by kernel_rfl) ?_) ?_
  · (intro W hSw; clear hSw hHeld; go_simp)
  refine Rg.take (ops := (Rg.opsOf Try.f3 12)) 10 (some 90) ((.slice A2 n2 c2)) hNS (by kernel_rfl) (by kernel_rfl) (by kernel_rfl) (by kernel_rfl) (by kernel_rfl) hHeld (Rg.y_load (T := 22) (x := (Operand.tmp 89)) (vx := (.pointer (some ⟨bh, oh + k * 3 + 2, none⟩))) (by kernel_rfl) (by kernel_rfl) ?_) ?_
  · (intro W hSw; obtain ⟨s0, s1, s2, s3⟩ := hX _ hSw; clear hSw hHeld; go_simp)
  refine Rg.take (ops := (Rg.opsOf Try.f3 12)) 11 (some 91) ((.slice (some ⟨bk, ok, none⟩) L kc)) hNS (by kernel_rfl) (by kernel_rfl) (by kernel_rfl) (by kernel_rfl) (by kernel_rfl) hHeld (Rg.y_move (x := (Operand.tmp 13)) (Or.inl (by kernel_rfl)) (by kernel_rfl)) ?_
  refine Rg.take (ops := (Rg.opsOf Try.f3 12)) 12 (some 92) ((.int .i64 (k : Int))) hNS (by kernel_rfl) (by kernel_rfl) (by kernel_rfl) (by kernel_rfl) (by kernel_rfl) hHeld (Rg.y_move (x := (Operand.tmp 16)) (Or.inl (by kernel_rfl)) (by kernel_rfl)) ?_
  refine Rg.take (ops := (Rg.opsOf Try.f3 12)) 13 (some 93) ((.pointer (some ⟨bk, ok + k * 3, none⟩))) hNS (by kernel_rfl) (by kernel_rfl) (by kernel_rfl) (by kernel_rfl) (by kernel_rfl) hHeld (Rg.y_at (T := 23) (x := (Operand.tmp 91)) (y := (Operand.tmp 92)) (vx := (.slice (some ⟨bk, ok, none⟩) L kc)) (vy := (.int .i64 (k : Int))) (by kernel_rfl) (by kernel_rfl) (by kernel_rfl) ?_) ?_
  · (intro W hSw; clear hSw hHeld; go_simp)
  refine Rg.take (ops := (Rg.opsOf Try.f3 12)) 14 (some 94) ((.pointer (some ⟨bk, ok + k * 3 + 1, none⟩))) hNS (by kernel_rfl) (by kernel_rfl) (by kernel_rfl) (by kernel_rfl) (by kernel_rfl) hHeld (Rg.y_field (T := 33) (k := 1) (x := (Operand.tmp 93)) (vx := (.pointer (some ⟨bk, ok + k * 3, none⟩))) (by kernel_rfl) (by kernel_rfl) ?_) ?_
  · (intro W hSw; clear hSw hHeld; go_simp)
  refine Rg.take (ops := (Rg.opsOf Try.f3 12)) 15 (some 95) ((.slice A3 n3 c3)) hNS (by kernel_rfl) (by kernel_rfl) (by kernel_rfl) (by kernel_rfl) (by kernel_rfl) hHeld (Rg.y_load (T := 22) (x := (Operand.tmp 94)) (vx := (.pointer (some ⟨bk, ok + k * 3 + 1, none⟩))) (by kernel_rfl) (by kernel_rfl) ?_) ?_
  · (intro W hSw; obtain ⟨s0, s1, s2, s3⟩ := hX _ hSw; clear hSw hHeld; go_simp)
  refine Rg.take (ops := (Rg.opsOf Try.f3 12)) 16 (some 96) ((.slice (some ⟨bk, ok, none⟩) L kc)) hNS (by kernel_rfl) (by kernel_rfl) (by kernel_rfl) (by kernel_rfl) (by kernel_rfl) hHeld (Rg.y_move (x := (Operand.tmp 13)) (Or.inl (by kernel_rfl)) (by kernel_rfl)) ?_
  refine Rg.take (ops := (Rg.opsOf Try.f3 12)) 17 (some 97) ((.int .i64 (k : Int))) hNS (by kernel_rfl) (by kernel_rfl) (by kernel_rfl) (by kernel_rfl) (by kernel_rfl) hHeld (Rg.y_move (x := (Operand.tmp 16)) (Or.inl (by kernel_rfl)) (by kernel_rfl)) ?_
  refine Rg.take (ops := (Rg.opsOf Try.f3 12)) 18 (some 98) ((.pointer (some ⟨bk, ok + k * 3, none⟩))) hNS (by kernel_rfl) (by kernel_rfl) (by kernel_rfl) (by kernel_rfl) (by kernel_rfl) hHeld (Rg.y_at (T := 23) (x := (Operand.tmp 96)) (y := (Operand.tmp 97)) (vx := (.slice (some ⟨bk, ok, none⟩) L kc)) (vy := (.int .i64 (k : Int))) (by kernel_rfl) (by kernel_rfl) (by kernel_rfl) ?_) ?_
  · (intro W hSw; clear hSw hHeld; go_simp)
  refine Rg.take (ops := (Rg.opsOf Try.f3 12)) 19 (some 99) ((.pointer (some ⟨bk, ok + k * 3 + 2, none⟩))) hNS (by kernel_rfl) (by kernel_rfl) (by kernel_rfl) (by kernel_rfl) (by kernel_rfl) hHeld (Rg.y_field (T := 33) (k := 2) (x := (Operand.tmp 98)) (vx := (.pointer (some ⟨bk, ok + k * 3, none⟩))) (by kernel_rfl) (by kernel_rfl) ?_) ?_
  · (intro W hSw; clear hSw hHeld; go_simp)
  refine Rg.take (ops := (Rg.opsOf Try.f3 12)) 20 (some 100) ((.slice A4 n4 c4)) hNS (by kernel_rfl) (by kernel_rfl) (by kernel_rfl) (by kernel_rfl) (by kernel_rfl) hHeld (Rg.y_load (T := 22) (x := (Operand.tmp 99)) (vx := (.pointer (some ⟨bk, ok + k * 3 + 2, none⟩))) (by kernel_rfl) (by kernel_rfl) ?_) ?_
  · (intro W hSw; obtain ⟨s0, s1, s2, s3⟩ := hX _ hSw; clear hSw hHeld; go_simp)
  refine Rg.bld (ops := (Rg.opsOf Try.f3 12)) 21 (some 101) (T := 31) (len := 4) (parts := #[(0, Operand.tmp 85), (1, Operand.tmp 90), (2, Operand.tmp 95), (3, Operand.tmp 100)]) (vs := #[(0, (.slice A1 n1 c1)), (1, (.slice A2 n2 c2)), (2, (.slice A3 n3 c3)), (3, (.slice A4 n4 c4))]) (v := (.slice (some ⟨w.heap.size, 0, none⟩) 4 4)) (w1 := w.drew.alloc (.cells #[.slice A1 n1 c1, .slice A2 n2 c2, .slice A3 n3 c3, .slice A4 n4 c4] 22)) (by kernel_rfl) (by kernel_rfl) (by kernel_rfl) (by kernel_rfl) (by kernel_rfl) (by kernel_rfl) ?_ (hX2) (fun hHeld => ?_)
  · (clear hHeld hE; go_simp)
  refine Rg.app1 (ops := (Rg.opsOf Try.f3 12)) 22 (some 102) (T := 31) (x := (Operand.tmp 80)) (y := (Operand.tmp 101)) (vx := vL) (vy := (.slice (some ⟨w.heap.size, 0, none⟩) 4 4)) (by kernel_rfl) (by kernel_rfl) (by kernel_rfl) (by kernel_rfl) (by kernel_rfl) (by kernel_rfl) (by kernel_rfl) ?_
  intro ty
  obtain ⟨v8, w8, e8, h8, h9⟩ := hE ty
  refine ⟨v8, w8, e8, h8, fun hHeld => ?_⟩
  refine Rg.take (ops := (Rg.opsOf Try.f3 12)) 23 (some 15) (v8) hNS (by kernel_rfl) (by kernel_rfl) (by kernel_rfl) (by kernel_rfl) (by kernel_rfl) hHeld (Rg.y_move (x := (Operand.tmp 102)) (Or.inr (by kernel_rfl)) (by kernel_rfl)) ?_
  refine Rg.done (ops := (Rg.opsOf Try.f3 12)) (by kernel_rfl) ?_
  exact ⟨v8, by kernel_rfl, h9⟩
end Go.Proofs.Ytoncghamkedhcaa.Kd

namespace Go.Proofs.Ytoncghamkedhcaa.Kd
open Tx Um Ud Aq Km
set_option linter.unusedVariables false
theorem cut_small {p : Nat} {ra rb : List ByteArray} {H : List (Hk ByteArray)} (h : Cut p ra rb H) : ∀ x, x ∈ H → x.at_ + x.old.length ≤ p + ra.length ∧ x.new.length ≤ rb.length := by
  induction h with
  | nil p l => intro x hx; cases hx
  | cons p c o n h ih =>
    intro x hx
    rcases List.mem_cons.1 hx with rfl | hx
    · simp only [List.length_append]
      omega
    · obtain ⟨h1, h2⟩ := ih x hx
      simp only [List.length_append]
      omega
theorem bk_len (hs : List (Hz ByteArray)) : ∀ s, (bk s hs).length = hs.length := by
  induction hs with
  | nil => intro s; rfl
  | cons h hs ih => intro s; rw [bk, List.length_cons, List.length_cons, ih]
theorem news_le_mul (hs : List (Hz ByteArray)) (N : Nat) (h : ∀ x, x ∈ hs → x.new.length ≤ N) : news hs ≤ hs.length * N := by
  unfold news
  induction hs with
  | nil => exact Nat.zero_le _
  | cons x hs ih =>
    have h1 := h x (by simp)
    have h2 := ih (fun y hy => h y (by simp [hy]))
    rw [List.map_cons, List.sum_cons, List.length_cons, Nat.add_mul]
    omega
structure Facts (a b : List ByteArray) (H : List (Hk ByteArray)) : Prop where
  make : ap a 0 (H.map Hk.z) = (b, 0)
  back : ap b 0 (bk 0 (H.map Hk.z)) = (a, 0)
  twice : bk 0 (bk 0 (H.map Hk.z)) = H.map Hk.z
  none : H.length = 0 ↔ a = b
  small : ∀ x, x ∈ H.map Hk.z → x.old.length ≤ 400 ∧ x.new.length ≤ 400 ∧ 0 ≤ x.at_ ∧ x.at_ ≤ 400
  smallB : ∀ x, x ∈ bk 0 (H.map Hk.z) → x.old.length ≤ 400 ∧ x.new.length ≤ 400 ∧ 0 ≤ x.at_ ∧ x.at_ ≤ 400
  count : H.length ≤ 401
  changed : ∀ (i : Nat) (x : ByteArray) (hi : i < a.length), x ≠ a[i] → (within H i = true → ap (a.set i x) 0 (H.map Hk.z) = ([], 11)) ∧ (within H i = false → (ap (a.set i x) 0 (H.map Hk.z)).2 = 0 ∧ (ap (a.set i x) 0 (H.map Hk.z)).1.length = b.length)
theorem facts (a b : List ByteArray) (ar : Nat) (ha : a.length ≤ 400) (hb : b.length ≤ 400) : Facts a b (btw a b ar (pairs 0 0 (steps a b))) := by
  have hc := pieces_cut a b ar
  have hn := pieces_none a b ar
  have hk : (btw a b ar (pairs 0 0 (steps a b))).length ≤ 401 := by
    have h : (btw a b ar (pairs 0 0 (steps a b))).length ≤ a.length + 1 := by
      unfold btw
      rw [hks_map, List.length_map, List.length_reverse]
      have h1 := rs_len (pairs 0 0 (steps a b) ++ [(a.length, b.length)]) (2 * ar) 0 0 []
      have h2 := pairs_len (steps a b) 0 0
      have h3 := kept a b
      have h4 := lcs_le_left a b
      rw [List.length_append] at h1
      simp at h1
      omega
    omega
  obtain ⟨H, hH⟩ : ∃ H, H = btw a b ar (pairs 0 0 (steps a b)) := ⟨_, rfl⟩
  rw [← hH] at hc hn hk ⊢
  obtain ⟨H', hc', he'⟩ := cut_back hc 0 0 rfl
  refine ⟨cut_ap hc a rfl (Nat.zero_le _), ?_, ?_, ?_, fun x hx => ?_, fun x hx => ?_, hk, fun i x hi hx => cut_changed hc a i x rfl (Nat.zero_le _) hi hx⟩
  · rw [← he']
    exact cut_ap hc' b rfl (Nat.zero_le _)
  · exact bk_back (H.map Hk.z) 0
  · rw [List.length_eq_zero_iff]
    exact hn
  · obtain ⟨y, hy, rfl⟩ := List.mem_map.1 hx
    obtain ⟨h1, h2⟩ := cut_small hc y hy
    show y.old.length ≤ 400 ∧ y.new.length ≤ 400 ∧ 0 ≤ ((y.at_ : Nat) : Int) ∧ ((y.at_ : Nat) : Int) ≤ 400
    omega
  · rw [← he'] at hx
    obtain ⟨y, hy, rfl⟩ := List.mem_map.1 hx
    obtain ⟨h1, h2⟩ := cut_small hc' y hy
    show y.old.length ≤ 400 ∧ y.new.length ≤ 400 ∧ 0 ≤ ((y.at_ : Nat) : Int) ∧ ((y.at_ : Nat) : Int) ≤ 400
    omega
theorem within_take {H : List (Hk ByteArray)} {k i : Nat} {h : Hk ByteArray} (hh : H[k]? = some h) : within (H.take (k + 1)) i = (within (H.take k) i || (decide (h.at_ ≤ i) && decide (i < h.at_ + h.old.length))) := by
  unfold within
  rw [List.take_add_one, hh, List.any_append]
  simp
end Go.Proofs.Ytoncghamkedhcaa.Kd

namespace Go.Proofs.Ytoncghamkedhcaa.Kd
open Go.RowKit Tx Um Ud Aq Km
set_option linter.unusedVariables false
def both : List (Int × Value × Value) → List (Int × Value × Value) → List Value
  | c :: cs, d :: ds => c.2.1 :: c.2.2 :: d.2.1 :: d.2.2 :: both cs ds
  | _, _ => []
theorem both_perm : ∀ {cs ds : List (Int × Value × Value)}, cs.length = ds.length → (both cs ds).Perm (vals cs ++ vals ds)
  | [], [], _ => List.Perm.refl _
  | c :: cs, d :: ds, h => by
    have ih := both_perm (cs := cs) (ds := ds) (by simpa using h)
    have e1 : vals (c :: cs) = c.2.1 :: c.2.2 :: vals cs := rfl
    have e2 : vals (d :: ds) = d.2.1 :: d.2.2 :: vals ds := rfl
    have e3 : both (c :: cs) (d :: ds) = c.2.1 :: c.2.2 :: d.2.1 :: d.2.2 :: both cs ds := rfl
    rw [e1, e2, e3, List.cons_append, List.cons_append]
    refine List.Perm.cons _ (List.Perm.cons _ ?_)
    refine List.Perm.trans ?_ List.perm_middle.symm
    refine List.Perm.cons _ ?_
    refine List.Perm.trans ?_ List.perm_middle.symm
    exact List.Perm.cons _ ih
theorem both_len : ∀ (cs ds : List (Int × Value × Value)), cs.length = ds.length → (both cs ds).length = cs.length * 4
  | [], [], _ => rfl
  | c :: cs, d :: ds, h => by
    show (both cs ds).length + 1 + 1 + 1 + 1 = (cs.length + 1) * 4
    rw [both_len cs ds (by simpa using h)]
    omega
theorem both_snoc : ∀ {cs ds : List (Int × Value × Value)} {c d : Int × Value × Value}, cs.length = ds.length → both (cs ++ [c]) (ds ++ [d]) = both cs ds ++ [c.2.1, c.2.2, d.2.1, d.2.2]
  | [], [], _, _, _ => rfl
  | x :: cs, y :: ds, c, d, h => by
    show x.2.1 :: x.2.2 :: y.2.1 :: y.2.2 :: both (cs ++ [c]) (ds ++ [d]) = _
    rw [both_snoc (by simpa using h)]
    rfl
theorem vals_mem {cs : List (Int × Value × Value)} {u : Value} (h : u ∈ vals cs) : ∃ c, c ∈ cs ∧ (u = c.2.1 ∨ u = c.2.2) := by
  unfold vals at h
  obtain ⟨c, hc, hu⟩ := List.mem_flatMap.1 h
  simp only [List.mem_cons, List.not_mem_nil, or_false] at hu
  exact ⟨c, hc, hu⟩
theorem Own3.pair {w : World} {B : Nat} {cs : List (Int × Value × Value)} {hs : List (Hz ByteArray)} (h : Own3 w B cs hs) : (vals cs).Pairwise Fr := by
  rw [List.pairwise_iff_getElem]
  intro i j hi hj hij g h1 h2
  exact h.far i j _ _ g (List.getElem?_eq_getElem hi) (List.getElem?_eq_getElem hj) (by omega) h1 h2
theorem Own3.mem {w : World} {B : Nat} {cs : List (Int × Value × Value)} {hs : List (Hz ByteArray)} (h : Own3 w B cs hs) (hl : cs.length = hs.length) {u : Value} (hu : u ∈ vals cs) : ∃ l, (∃ x, x ∈ hs ∧ (l = x.old ∨ l = x.new)) ∧ Lo w B u l := by
  obtain ⟨c, hc, hu⟩ := vals_mem hu
  obtain ⟨k, hk⟩ := List.mem_iff_getElem?.1 hc
  have hk2 := (List.getElem?_eq_some_iff.1 hk).1
  obtain ⟨h1, h2⟩ := h.each k c hs[k] hk (List.getElem?_eq_getElem (by omega))
  rcases hu with rfl | rfl
  · exact ⟨_, ⟨_, List.getElem_mem _, .inl rfl⟩, h1⟩
  · exact ⟨_, ⟨_, List.getElem_mem _, .inr rfl⟩, h2⟩
theorem Own3.take {w : World} {B : Nat} {cs : List (Int × Value × Value)} {hs : List (Hz ByteArray)} (h : Own3 w B cs hs) (k : Nat) : Own3 w B (cs.take k) (hs.take k) := by
  have hv : ∀ (i : Nat) u, (vals (cs.take k))[i]? = some u → (vals cs)[i]? = some u := fun i u hu => by
    have e : vals cs = vals (cs.take k) ++ vals (cs.drop k) := by unfold vals; rw [← List.flatMap_append, List.take_append_drop]
    rw [e, List.getElem?_append_left (List.getElem?_eq_some_iff.1 hu).1]
    exact hu
  refine ⟨fun i c x hc hx => ?_, fun i j u v g hu hv' hne => h.far i j u v g (hv i u hu) (hv j v hv') hne⟩
  have h1 := (List.getElem?_eq_some_iff.1 hc).1
  rw [List.length_take] at h1
  rw [List.getElem?_take_of_lt (by omega)] at hc hx
  exact h.each i c x hc hx
theorem lone_of {w w1 : World} {B B0 bo : Nat} {u : Value} {l : List ByteArray} (h : Lo w B u l) (hl : l.length ≤ 8796093022187) (hb : Below w.heap.size w w1) (hB : B0 ≤ B) (hbo : w.heap.size ≤ bo) : Lone w1 B0 bo u :=
  ⟨l.length, _, hl, own_base (h.below hb) hB, fun e => by have := (World.ownsRow.lt h bo e).2; omega⟩
theorem list_form {w : World} {B n : Nat} {v : Value} {xs : List Value} (h : w.ownsRow B 22 1 v n xs) (hn : 0 < n) : ∃ g c, v = .slice (some ⟨g, 0, none⟩) n c ∧ B ≤ g ∧ g < w.heap.size ∧ ∀ (j : Nat) u, xs[j]? = some u → w.cell? ⟨g, j, none⟩ = some u := by
  have hh := h
  rcases h.2 with ⟨_, h0⟩ | ⟨g, cap, cur, rfl, hg, hb, _⟩
  · omega
  · exact ⟨g, cap, rfl, hg, (Array.getElem?_eq_some_iff.1 hb).1, fun j u hu => own_cell hh hu⟩
theorem own_prefix {w : World} {B g n cp : Nat} {xs : List Value} (h : w.ownsRow B 9 1 (.slice (some ⟨g, 0, none⟩) (n + 1) cp) (n + 1) xs) : w.ownsRow B 9 1 (.slice (some ⟨g, 0, none⟩) n cp) n (xs.take n) := by
  have hl := h.1
  refine ⟨by rw [List.length_take]; omega, ?_⟩
  rcases h.2 with ⟨h0, _⟩ | ⟨g', cap, cur, hv, hg, hh, hn, hc, hs, ht⟩
  · cases h0
  · injection hv with h1 h2 h3
    injection h1 with h1
    injection h1 with h1
    subst h1
    subst h3
    refine .inr ⟨g, cp, cur, rfl, hg, hh, by omega, hc, hs, ?_⟩
    rw [← ht, List.take_take, Nat.min_eq_left (by omega), Nat.mul_one]
theorem pcs_small (a b : List ByteArray) (ar : Int) : (pcs a b ar).length ≤ 401 ∧ ∀ x, x ∈ pcs a b ar → x.old.length ≤ 400 ∧ x.new.length ≤ 400 := by
  unfold pcs
  by_cases h : ar < 0
  · rw [if_pos h]
    exact ⟨Nat.zero_le _, fun x hx => by cases hx⟩
  · rw [if_neg h]
    cases hl : lng a b
    · obtain ⟨h1, h2⟩ := lng_small hl
      have hf := facts a b (min ar.toNat 400) h1 h2
      refine ⟨by rw [if_neg (by simp), List.length_map]; exact hf.count, fun x hx => ?_⟩
      rw [if_neg (by simp)] at hx
      have := hf.small x hx
      exact ⟨this.1, this.2.1⟩
    · rw [if_pos rfl]
      exact ⟨Nat.zero_le _, fun x hx => by cases hx⟩
theorem hu_cells {w : World} {B n c : Nat} {a : Option Addr} {cs : List (Int × Value × Value)} (h : Hu w B (.slice a n c) cs) {k : Nat} {x : Int × Value × Value} (hx : cs[k]? = some x) : ∃ b, a = some ⟨b, 0, none⟩ ∧ b < w.heap.size ∧ w.cell? ⟨b, 0 + k * 3 + 1, none⟩ = some x.2.1 ∧ w.cell? ⟨b, 0 + k * 3 + 2, none⟩ = some x.2.2 := by
  have hk := (List.getElem?_eq_some_iff.1 hx).1
  rcases h.2 with ⟨_, h0⟩ | ⟨g, cap, cur, hv, hg, hh, hn, hc, _⟩
  · omega
  · injection hv with h1 h2 h3'
    subst h1
    obtain ⟨_, e2, e3⟩ := flat3_get cs k x hx
    have d2 := World.ownsRow.cells h (g := g) rfl _ _ e2
    have d3 := World.ownsRow.cells h (g := g) rfl _ _ e3
    rw [WideShapes.add_plain, ← Nat.add_assoc] at d2 d3
    exact ⟨g, rfl, (Array.getElem?_eq_some_iff.1 hh).1, d2, d3⟩
theorem all_apart {X Y : Value} {gx gy B1 B2 : Nat} {w1 w2 : World} {cs ds : List (Int × Value × Value)} {hs : List (Hz ByteArray)} (hX : X.ownBlock = some gx) (hY : Y.ownBlock = some gy) (hxy : gx ≠ gy) (hxB : gx < B1) (hyB : gy < B1) (h1 : Own3 w1 B1 cs hs) (h2 : Own3 w2 B2 ds hs) (hs1 : w1.heap.size ≤ B2) (hB : B1 ≤ B2) (hc : cs.length = hs.length) (hd : ds.length = hs.length) :
    (X :: Y :: both cs ds).Pairwise Fr := by
  have hp := both_perm (cs := cs) (ds := ds) (by omega)
  have hbl : ∀ u, u ∈ both cs ds → ∀ g, u.ownBlock = some g → B1 ≤ g := fun u hu g hg => by
    rcases List.mem_append.1 (hp.mem_iff.1 hu) with h | h
    · obtain ⟨l, _, hl⟩ := h1.mem hc h
      exact (World.ownsRow.lt hl g hg).1
    · obtain ⟨l, _, hl⟩ := h2.mem hd h
      have := (World.ownsRow.lt hl g hg).1
      omega
  have hmid : (both cs ds).Pairwise Fr := by
    rw [hp.pairwise_iff (fun {x y} h => Fr.symm h)]
    refine List.pairwise_append.2 ⟨h1.pair, h2.pair, fun u hu v hv g hg hg2 => ?_⟩
    obtain ⟨l, _, hl⟩ := h1.mem hc hu
    obtain ⟨l', _, hl'⟩ := h2.mem hd hv
    have e1 := (World.ownsRow.lt hl g hg).2
    have e2 := (World.ownsRow.lt hl' g hg2).1
    omega
  refine List.pairwise_cons.2 ⟨fun u hu g hg hg2 => ?_, List.pairwise_cons.2 ⟨fun u hu g hg hg2 => ?_, hmid⟩⟩
  · rw [hX] at hg
    injection hg with hg
    rcases List.mem_cons.1 hu with rfl | hu
    · rw [hY] at hg2
      injection hg2 with hg2
      omega
    · have := hbl u hu g hg2
      omega
  · rw [hY] at hg
    injection hg with hg
    have := hbl u hu g hg2
    omega
end Go.Proofs.Ytoncghamkedhcaa.Kd

namespace Go.Proofs.Ytoncghamkedhcaa.hunkPieces
open Go.ChangeShapes Go.WideShapes Go.ChangeAt Go.RowKit Tx Um Ud Aq Km Kd
set_option linter.unusedVariables false
theorem grown_below {B : Nat} {W w w1 : World} {e : TypeId} {s n : Nat} {v : Value} {xs : List Value} (hb : Below B W w) (hB : B ≤ w.heap.size) (hown : w.ownsRow B e s v n xs) (hg : w.grownBy w1 v.ownBlock) : Below B W w1 := hb.grown hg hB (fun k hk => (hown.lt k hk).1)
theorem none_made (w : World) : (w.alloc (.cells #[] 9)).ownsRow w.heap.size 9 1 (.slice (some ⟨w.heap.size, 0, none⟩) 0 0) ([] : List ByteArray).length (([] : List ByteArray).map sv) := made0 w
theorem none_below (w : World) : Below w.heap.size w (w.alloc (.cells #[] 9)) := (Below.refl _ w).alloc (Nat.le_refl _) _
theorem own_form1 {w : World} {B n : Nat} {v : Value} {xs : List Value} (h : w.ownsRow B 9 1 v n xs) (hn : 0 < n) : ∃ g c', v = .slice (some ⟨g, 0, none⟩) n c' ∧ B ≤ g ∧ g < w.heap.size := by
  rcases h.2 with ⟨h0, h1⟩ | ⟨g, cap, cur, hv, hg, hh, _⟩
  · omega
  · exact ⟨g, cap, hv, hg, (Array.getElem?_eq_some_iff.1 hh).1⟩
theorem cop_form {w : World} {B : Nat} {v : Value} {l : List ByteArray} (h : w.ownsRow B 9 1 v (l.length + 1) (l.map sv ++ [sv SP])) : ∃ g cp, v = .slice (some ⟨g, 0, none⟩) (l.length + 1) cp ∧ Cop w B g cp l := by
  obtain ⟨g, cp, hv, _, _⟩ := own_form1 h (by omega)
  subst hv
  refine ⟨g, cp, rfl, ⟨?_⟩⟩
  rw [List.map_append]
  exact h
set_option maxRecDepth 100000 in
set_option maxHeartbeats 2000000 in
theorem walk (hM : Impl) (A B : Option Addr) (ca cb : Nat) (ar : Int) (a b : List ByteArray) (w : World) (hA : In w A ca a) (hB : In w B cb b) (har : int64 ar) (hA3 : (a.length + 1) * 16 ≤ 140737488355328) (hB3 : (b.length + 1) * 16 ≤ 140737488355328) (hA4 : a.length ≤ 8796093022187) (hB4 : b.length ≤ 8796093022187) :
    Calls Try.prog 3 #[.slice A a.length ca, .slice B b.length cb, .int .i64 ar] w fun e w' => e = .returned (.bool true) ∧ Below w.heap.size w w' := by
  obtain ⟨i0, hi, hz0, hz1, hz2⟩ := info_parts info9
  obtain ⟨iL, hL, hL0, hL1, hL2⟩ := info_parts info33
  obtain ⟨hps1, hps2⟩ := pcs_small a b ar
  obtain ⟨hs, hhs⟩ : ∃ hs, hs = pcs a b ar := ⟨_, rfl⟩
  obtain ⟨er, her⟩ : ∃ er, er = per a b ar := ⟨_, rfl⟩
  have cH := fun X Y cx cy w1 h1 h2 => hM.between X Y cx cy ar a b w1 h1 h2 har
  have cR := fun w1 h1 h2 => refBetween_any A B ca cb ar a b w1 h1 h2 hA.2.1 hB.2.1 hA.2.2.1 hB.2.2.1
  unfold BetTo at cH
  unfold HuTo at cR
  rw [← hhs] at hps1 hps2
  rw [← hhs, ← her] at cH cR
  obtain ⟨L, hLL⟩ : ∃ L, L = hs.length := ⟨_, rfl⟩
  rw [← hLL] at hps1
  have HLL := Lib.hid hLL
  have cS := fun (X Y : Option Addr) (cx cy : Nat) (w1 : World) (h1 : HzR w1 X L hs) (h2 : HzR w1 Y L hs) => same13s_any X Y cx cy L hs w1 h1 h2 (by omega) (fun h hh => by have := hps2 h hh; omega)
  have cE := fun (X Y : Option Addr) (cx cy : Nat) (l : List ByteArray) (w1 : World) (h1 : Strs w1 X l.length l) (h2 : Strs w1 Y l.length l) (h3 : l.length ≤ 9223372036854775806) => same_any X Y cx cy l l w1 h1 h2 h3 h3
  unfold SameT at cE
  obtain ⟨m, hm⟩ : ∃ m, m = a.length := ⟨_, rfl⟩
  obtain ⟨n, hn⟩ : ∃ n, n = b.length := ⟨_, rfl⟩
  rw [← hm] at hA3 hA4 cH cR ⊢
  rw [← hn] at hB3 hB4 cH cR ⊢
  have HM := Lib.hid hm
  have HN := Lib.hid hn
  have HA : Hid (Strs w A m a) := by show Strs w A m a; rw [HM.out]; exact hA.1
  have HB : Hid (Strs w B n b) := by show Strs w B n b; rw [HN.out]; exact hB.1
  have HA2 := Lib.hid hA.2.2.1
  have HB2 := Lib.hid hB.2.2.1
  have HZA := Lib.hid hA.2.2.2
  have HZB := Lib.hid hB.2.2.2
  have HPS := Lib.hid hps2
  have CH := Lib.hid cH
  have CR := Lib.hid cR
  have CS := Lib.hid cS
  have CE := Lib.hid cE
  have f0 : ((er : Int) == (er : Int)) = true := beq_self_eq_true _
  have f1 : (er == er) = true := beq_self_eq_true _
  clear hA hB hps2 hhs her cH cR cS cE hm hn hLL
  go_enter Try.func3, Try.ntmps3
  have hlit := none_made w
  have hlb := none_below w
  have hls : w.heap.size ≤ (w.alloc (.cells #[] 9)).heap.size := hlb.size
  go_wp2_with (at_builtin; refine wp_append_list rfl (.tmp 17) (.tmp 18) rfl w.heap.size rfl hlit rfl ((HA.out).below hlb) HA2.out (by show (0 + _) * 16 ≤ _; omega) hls (fun e => by cases e) ?_)
  intro v1 w1 ho1 hv1 hg1
  have hb1 := grown_below hlb hls hlit hg1
  have hs1 : w.heap.size ≤ w1.heap.size := hb1.size
  try rw [List.nil_append] at ho1
  clear hlit hlb hls hg1
  go_wp2_with (at_builtin; refine wpList_append_own _ rfl (.tmp 19) (.tmp 20) 22 rfl w.heap.size 9 i0 (.string ⟨#[]⟩) 1 16 Try.underlying22 hi hz0 hz1 hz2 rfl (by decide) _ _ _ rfl (ho1.alloc _) ⟨w1.heap.size, 0, none⟩ 1 1 [sv SP] rfl rfl ?d1 ?d2 ?d3 ?d4 ?d5 ?_)
  case d1 => exact cell_one_new _ _ _
  case d2 => exact sv_one [SP]
  case d3 => have k1 := HM.out; have k2 := HN.out; unfold maxLen; omega
  case d4 => have k1 := HM.out; have k2 := HN.out; omega
  case d5 => simp; omega
  intro v2 gxw ho2 hg2 _
  have gxb := below_step hb1 ho1 hg2
  obtain ⟨gx, gxp, rfl, gxc⟩ := cop_form ho2
  obtain ⟨gx1, gx2, gx3⟩ := gxc.cap
  clear ho1 hv1 hs1 hb1 ho2 hg2
  have hxm : (m : Int) ≤ (gxp : Int) := by have := HM.out; omega
  have hxm2 : (m : Int) + 1 ≤ (gxp : Int) := by have := HM.out; omega
  have hlit := none_made gxw
  have hlb := none_below gxw
  have hls : gxw.heap.size ≤ (gxw.alloc (.cells #[] 9)).heap.size := hlb.size
  go_wp2_with (at_builtin; refine wp_append_list rfl (.tmp 25) (.tmp 26) rfl gxw.heap.size rfl hlit rfl ((HB.out.below gxb).below hlb) HB2.out (by show (0 + _) * 16 ≤ _; omega) hls (fun e => by cases e) ?_)
  intro v1 w1 ho1 hv1 hg1
  have hb1 := grown_below hlb hls hlit hg1
  have hs1 : gxw.heap.size ≤ w1.heap.size := hb1.size
  try rw [List.nil_append] at ho1
  clear hlit hlb hls hg1
  go_wp2_with (at_builtin; refine wpList_append_own _ rfl (.tmp 27) (.tmp 28) 22 rfl gxw.heap.size 9 i0 (.string ⟨#[]⟩) 1 16 Try.underlying22 hi hz0 hz1 hz2 rfl (by decide) _ _ _ rfl (ho1.alloc _) ⟨w1.heap.size, 0, none⟩ 1 1 [sv SP] rfl rfl ?d1 ?d2 ?d3 ?d4 ?d5 ?_)
  case d1 => exact cell_one_new _ _ _
  case d2 => exact sv_one [SP]
  case d3 => have k1 := HM.out; have k2 := HN.out; unfold maxLen; omega
  case d4 => have k1 := HM.out; have k2 := HN.out; omega
  case d5 => simp; omega
  intro v2 gyw ho2 hg2 _
  have gyb := below_step hb1 ho1 hg2
  obtain ⟨gy, gyp, rfl, gyc⟩ := cop_form ho2
  obtain ⟨gy1, gy2, gy3⟩ := gyc.cap
  clear ho1 hv1 hs1 hb1 ho2 hg2
  have hym : (n : Int) ≤ (gyp : Int) := by have := HN.out; omega
  have hym2 : (n : Int) + 1 ≤ (gyp : Int) := by have := HN.out; omega
  have x0 := gxc.below gyb
  have hB0 : Below w.heap.size w gyw := gxb.trans (gyb.mono gxb.size)
  have hxy : gx ≠ gy := by have := gxc.cap; omega
  have hsx := gxb.size
  have hsxy := gyb.size
  clear gxb gyb gxc
  have ix : In gyw (some ⟨gx, 0, none⟩) gxp a := ⟨x0.strs, by omega, (fun h => by cases h), HZA.out⟩
  have iy : In gyw (some ⟨gy, 0, none⟩) gyp b := ⟨gyc.strs, by omega, (fun h => by cases h), HZB.out⟩
  go_wp2_with fail
  go_at_call 7
  refine (CH.out _ _ _ _ _ ix iy).mono ?_
  rintro e w1 ⟨v1, cs, rfl, hu1, hi1, ho1, hb1⟩
  obtain ⟨va, vc, rfl, hz1⟩ := hu1.form hi1
  rw [← HLL.out] at hz1 ⊢
  have HCS := Lib.hid hi1.len
  have HO1 := Lib.hid ho1
  have HU1 := Lib.hid hu1
  have HZ1 := Lib.hid hz1
  have HB1 := Lib.hid (below_call hB0 hb1)
  have x1 := x0.below hb1
  have y1 := gyc.below hb1
  have hsy1 := hb1.size
  have HC1 : Hid (Below w1.heap.size w1 w1) := Below.refl _ _
  clear hu1 hi1 ho1 hz1 ix iy x0 gyc hB0 hb1
  go_wp2_with fail
  go_at_call 8
  refine (CR.out _ (HA.out.below HB1.out) (HB.out.below HB1.out)).mono ?_
  rintro e w2 ⟨v2, cg, rfl, hu2, hi2, hb2⟩
  obtain ⟨vg, vgc, rfl, hz2⟩ := hu2.form hi2
  rw [← HLL.out] at hz2 ⊢
  have HB2' := Lib.hid (below_call HB1.out hb2)
  have HG2 := Lib.hid hz2
  have HZ2 := Lib.hid (HZ1.out.below hb2)
  have x2 := x1.below hb2
  have y2 := y1.below hb2
  have hs12 := hb2.size
  have HC2 : Hid (Below w1.heap.size w1 w2) := hb2
  clear hu2 hi2 hz2 hb2 HB1 HZ1 x1 y1
  go_wp2_with fail
  go_at_call 9
  refine (awake_any13 hM _).mono ?_
  rintro e w3 ⟨rfl, hb3⟩
  have HB3 := Lib.hid (below_call HB2'.out hb3)
  have HG3 := Lib.hid (HG2.out.below hb3)
  have HZ3 := Lib.hid (HZ2.out.below hb3)
  have x3 := x2.below hb3
  have y3 := y2.below hb3
  have hs23 := hb3.size
  have HC3 : Hid (Below w1.heap.size w1 w3) := below_call HC2.out hb3
  clear hb3 HB2' HG2 HZ2 x2 y2
  go_wp2_with fail
  go_at_call 10
  refine (CS.out va vg vc vgc w3 HZ3.out HG3.out).mono ?_
  rintro e w4 ⟨rfl, hb4⟩
  have HB4 := Lib.hid (below_call HB3.out hb4)
  have HG4 := Lib.hid (HG3.out.below hb4)
  have HZ4 := Lib.hid (HZ3.out.below hb4)
  have x4 := x3.below hb4
  have y4 := y3.below hb4
  have hs34 := hb4.size
  have HC4 : Hid (Below w1.heap.size w1 w4) := below_call HC3.out hb4
  clear hb4 HB3 HG3 HZ3 x3 y3
  have ix : In w4 (some ⟨gx, 0, none⟩) gxp a := ⟨x4.strs, by have := HM.out; omega, (fun h => by cases h), HZA.out⟩
  have iy : In w4 (some ⟨gy, 0, none⟩) gyp b := ⟨y4.strs, by have := HN.out; omega, (fun h => by cases h), HZB.out⟩
  go_wp2_with fail
  go_at_call 7
  refine (CH.out _ _ _ _ _ ix iy).mono ?_
  rintro e w5 ⟨v5, ds, rfl, hu5, hi5, ho5, hb5⟩
  obtain ⟨vk, vkc, rfl, hz5⟩ := hu5.form hi5
  rw [← HLL.out] at hz5 ⊢
  have HDS := Lib.hid hi5.len
  have HO5 := Lib.hid ho5
  have HU5 := Lib.hid hu5
  have HK5 := Lib.hid hz5
  have HB5 := Lib.hid (below_call HB4.out hb5)
  have HG5 := Lib.hid (HG4.out.below hb5)
  have HZ5 := Lib.hid (HZ4.out.below hb5)
  have x5 := x4.below hb5
  have y5 := y4.below hb5
  have hs45 := hb5.size
  have hw15 : w1.heap.size ≤ w4.heap.size := by omega
  have HC5 : Hid (Below w1.heap.size w1 w5) := below_call HC4.out hb5
  clear hu5 hi5 ho5 hz5 hb5 HB4 HG4 HZ4 x4 y4 ix iy
  have hal : Below w5.heap.size w5 (w5.alloc (.cells #[.slice (some ⟨gx, 0, none⟩) m gxp, .slice (some ⟨gy, 0, none⟩) n gyp] 22)) := (Below.refl _ w5).alloc (Nat.le_refl _) _
  have hml : (w5.alloc (.cells #[.slice (some ⟨gx, 0, none⟩) m gxp, .slice (some ⟨gy, 0, none⟩) n gyp] 22)).ownsRow w5.heap.size 22 1 (.slice (some ⟨w5.heap.size, 0, none⟩) 2 2) 2 [.slice (some ⟨gx, 0, none⟩) m gxp, .slice (some ⟨gy, 0, none⟩) n gyp] := ⟨rfl, .inr ⟨w5.heap.size, 2, #[.slice (some ⟨gx, 0, none⟩) m gxp, .slice (some ⟨gy, 0, none⟩) n gyp], rfl, Nat.le_refl _, heap_alloc_new _ _, Nat.le_refl _, by unfold maxLen; omega, rfl, rfl⟩⟩
  have hszl : (w5.alloc (.cells #[.slice (some ⟨gx, 0, none⟩) m gxp, .slice (some ⟨gy, 0, none⟩) n gyp] 22)).heap.size = w5.heap.size + 1 := by simp
  go_wp2_with fail
  generalize w5.alloc (.cells #[.slice (some ⟨gx, 0, none⟩) m gxp, .slice (some ⟨gy, 0, none⟩) n gyp] 22) = w6 at hal hml hszl ⊢
  have HB6 : Hid (Below w5.heap.size w5 w6) := hal
  clear hal
  go_loopw [15, 16] (fun v i wr => ∃ k : Nat, i = .int .i64 (k : Int) ∧ k ≤ L ∧ k ≤ 20 ∧ wr.ownsRow w5.heap.size 22 1 v (2 + k * 4) (.slice (some ⟨gx, 0, none⟩) m gxp :: .slice (some ⟨gy, 0, none⟩) n gyp :: both (cs.take k) (ds.take k)) ∧ Hid (Below w5.heap.size w5 wr)) (fun _ i _ => L - (intOf i).toNat)
  case atStart => exact ⟨0, rfl, Nat.zero_le _, Nat.zero_le _, by simpa [both] using hml, HB6⟩
  case round =>
    obtain ⟨k, rfl, hk, hk20, hvs, HBR⟩ := hrel
    clear hml hszl HB6
    by_cases hlt : k < L ∧ k < 20
    · obtain ⟨hlt, hlt2⟩ := hlt
      have e1 : (k : Int) < (L : Int) := by omega
      have e2 : (k : Int) < 20 := by omega
      obtain ⟨c, hc⟩ : ∃ c, cs[k]? = some c := ⟨_, List.getElem?_eq_getElem (by rw [HCS.out, ← HLL.out]; exact hlt)⟩
      obtain ⟨d, hd⟩ : ∃ d, ds[k]? = some d := ⟨_, List.getElem?_eq_getElem (by rw [HDS.out, ← HLL.out]; exact hlt)⟩
      have hl1 : (cs.take k).length = (ds.take k).length := by rw [List.length_take, List.length_take, HCS.out, HDS.out]
      have hsn : both (cs.take (k + 1)) (ds.take (k + 1)) = both (cs.take k) (ds.take k) ++ [c.2.1, c.2.2, d.2.1, d.2.2] := by
        rw [List.take_add_one, List.take_add_one, hc, hd]
        exact both_snoc hl1
      have HSN := Lib.hid hsn
      obtain ⟨h, hh⟩ : ∃ h, hs[k]? = some h := ⟨_, List.getElem?_eq_getElem (by rw [← HLL.out]; exact hlt)⟩
      obtain ⟨q1, q2⟩ := HO1.out.each k c h hc hh
      obtain ⟨q3, q4⟩ := HO5.out.each k d h hd hh
      obtain ⟨z1, r1, hv1⟩ := q1.form
      obtain ⟨z2, r2, hv2⟩ := q2.form
      obtain ⟨z3, r3, hv3⟩ := q3.form
      obtain ⟨z4, r4, hv4⟩ := q4.form
      obtain ⟨bh, rfl, hbh, m1, m2⟩ := hu_cells (HU1.out.below HC5.out) hc
      obtain ⟨bk, rfl, hbk, m3, m4⟩ := hu_cells HU5.out hd
      rw [hv1] at m1
      rw [hv2] at m2
      rw [hv3] at m3
      rw [hv4] at m4
      rw [hv1, hv2, hv3, hv4] at hsn
      obtain ⟨n1, hn1⟩ : ∃ n1, n1 = h.old.length := ⟨_, rfl⟩
      obtain ⟨n2, hn2⟩ : ∃ n2, n2 = h.new.length := ⟨_, rfl⟩
      rw [← hn1, ← hn2] at hsn
      rw [← hn1] at m1 m3
      rw [← hn2] at m2 m4
      have HSN := Lib.hid hsn
      have HX : Hid (∀ W, Below w5.heap.size w5 W → Lst4 bh 0 bk 0 k (.slice z1 n1 r1) (.slice z2 n2 r2) (.slice z3 n1 r3) (.slice z4 n2 r4) W) := fun W hb => ⟨(hb.cell (p := ⟨bh, _, none⟩) hbh).trans m1, (hb.cell (p := ⟨bh, _, none⟩) hbh).trans m2, (hb.cell (p := ⟨bk, _, none⟩) hbk).trans m3, (hb.cell (p := ⟨bk, _, none⟩) hbk).trans m4⟩
      have hbd := HBR.out.drew
      have hszd : w5.heap.size ≤ wr.drew.heap.size := hbd.size
      have hX2 : Below w5.heap.size w5 (wr.drew.alloc (.cells #[.slice z1 n1 r1, .slice z2 n2 r2, .slice z3 n1 r3, .slice z4 n2 r4] 22)) := hbd.alloc hszd _
      have hone : ∀ u ∈ [Value.slice z1 n1 r1, .slice z2 n2 r2, .slice z3 n1 r3, .slice z4 n2 r4], u.oneCell' = true := by
        intro u hu
        simp only [List.mem_cons, List.not_mem_nil, or_false] at hu
        rcases hu with rfl | rfl | rfl | rfl <;> rfl
      have HE8 : ∀ ty, ∃ v8 w8, (Builtin.append_ #[31, 31] ty #[u15, .slice (some ⟨wr.heap.size, 0, none⟩) 4 4]).run Try.prog (wr.drew.alloc (.cells #[.slice z1 n1 r1, .slice z2 n2 r2, .slice z3 n1 r3, .slice z4 n2 r4] 22)) = .ok v8 w8 ∧ Below w5.heap.size w5 w8 ∧ (Below w5.heap.size w5 w8 ∧ w8.ownsRow w5.heap.size 22 1 v8 (2 + k * 4 + 4) ((.slice (some ⟨gx, 0, none⟩) m gxp :: .slice (some ⟨gy, 0, none⟩) n gyp :: both (cs.take k) (ds.take k)) ++ [.slice z1 n1 r1, .slice z2 n2 r2, .slice z3 n1 r3, .slice z4 n2 r4])) := by
        intro ty
        obtain ⟨v8, w8, h1, h2, h3', _⟩ := run_append_own (P := Try.prog) (wr.drew.alloc (.cells #[.slice z1 n1 r1, .slice z2 n2 r2, .slice z3 n1 r3, .slice z4 n2 r4] 22)) w5.heap.size 31 ty 22 iL (.slice none 0 0) 1 24 Try.underlying31 hL hL0 hL1 hL2 rfl (by decide) u15 (2 + k * 4) _ (hvs.drew.alloc _) ⟨wr.drew.heap.size, 0, none⟩ 4 4 [.slice z1 n1 r1, .slice z2 n2 r2, .slice z3 n1 r3, .slice z4 n2 r4] rfl (cell_four_new _ _ _ _ _ _) hone (by unfold maxLen; omega) (by omega) hX2.size
        exact ⟨v8, w8, h1, hX2.grown h3' hX2.size (fun q hq => (World.ownsRow.lt hvs q hq).1), hX2.grown h3' hX2.size (fun q hq => (World.ownsRow.lt hvs q hq).1), h2⟩
      clear hsn m1 m2 m3 m4 hv1 hv2 hv3 hv4 q1 q2 q3 q4 hc hd hh hl1 hn1 hn2 hvs hone hszd
      go_wp2_with fail
      refine Rg.wp_only ?_ (piecesReg _ (by kernel_rfl) _ bh 0 vc bk 0 vkc k L n1 n2 n1 n2 r1 r2 r3 r4 z1 z2 z3 z4 u15 _ e1 (Below w5.heap.size w5) (fun v8 W => Below w5.heap.size w5 W ∧ W.ownsRow w5.heap.size 22 1 v8 (2 + k * 4 + 4) ((.slice (some ⟨gx, 0, none⟩) m gxp :: .slice (some ⟨gy, 0, none⟩) n gyp :: both (cs.take k) (ds.take k)) ++ [.slice z1 n1 r1, .slice z2 n2 r2, .slice z3 n1 r3, .slice z4 n2 r4])) HX.out hbd hX2 HE8)
      rintro _ w9 ⟨v9, rfl, h9, ho9⟩
      have HO9 : Hid (w9.ownsRow w5.heap.size 22 1 v9 (2 + (k + 1) * 4) (.slice (some ⟨gx, 0, none⟩) m gxp :: .slice (some ⟨gy, 0, none⟩) n gyp :: both (cs.take (k + 1)) (ds.take (k + 1)))) := by
        show World.ownsRow _ _ _ _ _ _ _
        rw [HSN.out, show 2 + (k + 1) * 4 = 2 + k * 4 + 4 by omega]
        exact ho9
      clear ho9 HE8 hX2 hbd
      go_wp2_with fail
      go_roundw
      case rel => exact ⟨k + 1, by go_num, by omega, by omega, HO9.out, h9⟩
      case measure => simp only [intOf]; omega
    · by_cases hkL : k < L
      · have e1 : (k : Int) < (L : Int) := by omega
        have e2 : ¬ (k : Int) < 20 := by omega
        have HKL := Lib.hid hkL
        clear hkL
        obtain ⟨bo, lc, hvl, hboB, hbol, hcell⟩ := list_form hvs (by omega)
        subst hvl
        have x6 := x5.below HBR.out
        have y6 := y5.below HBR.out
        have HL6 := Lib.hid hvs
        have HBo := Lib.hid hcell
        have hsr := HBR.out.size
        clear hvs hcell hlt
        go_wp2_with fail
        go_at_call 10
        refine (CS.out vk vg vkc vgc wr (HK5.out.below HBR.out) (HG5.out.below HBR.out)).mono ?_
        rintro e w10 ⟨rfl, hb10⟩
        have HB10 : Hid (Below w5.heap.size w5 w10) := below_call HBR.out hb10
        have HR10 : Hid (Below wr.heap.size wr w10) := hb10
        have sx10 := (x6.below hb10).strs
        have hA10 := HA.out.below (HB5.out.trans (HB10.out.mono HB5.out.size))
        clear hb10
        go_wp2_with fail
        go_at_call 11
        have k1 := CE.out (some ⟨gx, 0, none⟩) A gxp ca a w10 sx10 (by rw [← HM.out]; exact hA10) (by have := HM.out; omega)
        rw [← HM.out] at k1
        refine k1.mono ?_
        rintro e w11 ⟨b11, h11, rfl, hb11⟩
        obtain rfl : b11 = true := h11.2 (by trivial)
        have HB11 : Hid (Below w5.heap.size w5 w11) := below_call HB10.out hb11
        have HR11 : Hid (Below wr.heap.size wr w11) := below_call HR10.out hb11
        have sy11 := (y6.below HR11.out).strs
        have hB11 := HB.out.below (HB5.out.trans (HB11.out.mono HB5.out.size))
        clear hb11 h11 k1 sx10 hA10
        go_wp2_with fail
        go_at_call 11
        have k1 := CE.out (some ⟨gy, 0, none⟩) B gyp cb b w11 sy11 (by rw [← HN.out]; exact hB11) (by have := HN.out; omega)
        rw [← HN.out] at k1
        refine k1.mono ?_
        rintro e w12 ⟨b12, h12, rfl, hb12⟩
        obtain rfl : b12 = true := h12.2 (by trivial)
        have HB12 : Hid (Below w5.heap.size w5 w12) := below_call HB11.out hb12
        have HR12 : Hid (Below wr.heap.size wr w12) := below_call HR11.out hb12
        clear hb12 h12 k1 sy11 hB11
        have HE12 : Hid (Below w.heap.size w w12) := HB5.out.trans (HB12.out.mono HB5.out.size)
        have hlk1 : (cs.take k).length = (hs.take k).length := by rw [List.length_take, List.length_take, HCS.out]
        have hlk2 : (ds.take k).length = (hs.take k).length := by rw [List.length_take, List.length_take, HDS.out]
        have hlen : (.slice (some ⟨gx, 0, none⟩) m gxp :: .slice (some ⟨gy, 0, none⟩) n gyp :: both (cs.take k) (ds.take k)).length = 2 + k * 4 := by
          have hlH := HLL.out
          have hcH := HCS.out
          rw [List.length_cons, List.length_cons, both_len _ _ (by omega), List.length_take]
          omega
        have hown12x := own_prefix ((x6.below HR12.out).own)
        have hown12y := own_prefix ((y6.below HR12.out).own)
        have gxl := (x5.cap).2.2
        have gyl := (y5.cap).2.2
        have hgx3 := gx3
        have hgy3 := gy3
        have hml := HM.out
        have hnl := HN.out
        have hsm : ∀ l, (∃ x, x ∈ hs.take k ∧ (l = x.old ∨ l = x.new)) → l.length ≤ 8796093022187 := fun l hl => by
          obtain ⟨x, hx, hl⟩ := hl
          have := HPS.out x (List.mem_of_mem_take hx)
          rcases hl with rfl | rfl <;> omega
        have ap := lists_apart (.slice (some ⟨gx, 0, none⟩) m gxp :: .slice (some ⟨gy, 0, none⟩) n gyp :: both (cs.take k) (ds.take k)) bo lc w.heap.size w12 (fun v hv => by
            rcases List.mem_cons.1 hv with rfl | hv
            · exact ⟨m, _, by omega, own_base (by rw [HM.out]; exact hown12x) (Nat.le_refl _), fun e => by injection e with e; have e2 : gx = bo := e; omega⟩
            · rcases List.mem_cons.1 hv with rfl | hv
              · exact ⟨n, _, by omega, own_base (by rw [HN.out]; exact hown12y) (by omega), fun e => by injection e with e; have e2 : gy = bo := e; omega⟩
              · rcases List.mem_append.1 ((both_perm (by omega)).mem_iff.1 hv) with h | h
                · obtain ⟨l, hl, hlo⟩ := (HO1.out.take k).mem hlk1 h
                  exact lone_of hlo (hsm l hl) (HC5.out.trans (HB12.out.mono HC5.out.size)) (by omega) (by have := HC5.out.size; omega)
                · obtain ⟨l, hl, hlo⟩ := (HO5.out.take k).mem hlk2 h
                  exact lone_of hlo (hsm l hl) HB12.out (by omega) hboB)
          (all_apart (gx := gx) (gy := gy) rfl rfl hxy (by omega) (by omega) (HO1.out.take k) (HO5.out.take k) hw15 (by omega) hlk1 hlk2)
          (fun j v hj => (HR12.out.cell (p := ⟨bo, j, none⟩) hbol).trans (HBo.out j v hj)) (by rw [hlen]; omega) HE12.out.size (by have := HR12.out.size; omega) (by have := HB5.out.size; omega)
        rw [hlen] at ap
        have AP := Lib.hid ap
        clear ap hlen hlk1 hlk2 hown12x hown12y hsm
        go_wp2_with fail
        go_at_call 12
        refine AP.out.mono ?_
        rintro e w13 ⟨rfl, hb13⟩
        have hE := HE12.out.trans hb13
        clear hb13
        go_wp2_with fail
        go_ret
        exact ⟨rfl, hE⟩
      · have e1 : ¬ (k : Int) < (L : Int) := by omega
        have HKL := Lib.hid hkL
        clear hkL
        obtain ⟨bo, lc, hvl, hboB, hbol, hcell⟩ := list_form hvs (by omega)
        subst hvl
        have x6 := x5.below HBR.out
        have y6 := y5.below HBR.out
        have HL6 := Lib.hid hvs
        have HBo := Lib.hid hcell
        have hsr := HBR.out.size
        clear hvs hcell hlt
        go_wp2_with fail
        go_at_call 10
        refine (CS.out vk vg vkc vgc wr (HK5.out.below HBR.out) (HG5.out.below HBR.out)).mono ?_
        rintro e w10 ⟨rfl, hb10⟩
        have HB10 : Hid (Below w5.heap.size w5 w10) := below_call HBR.out hb10
        have HR10 : Hid (Below wr.heap.size wr w10) := hb10
        have sx10 := (x6.below hb10).strs
        have hA10 := HA.out.below (HB5.out.trans (HB10.out.mono HB5.out.size))
        clear hb10
        go_wp2_with fail
        go_at_call 11
        have k1 := CE.out (some ⟨gx, 0, none⟩) A gxp ca a w10 sx10 (by rw [← HM.out]; exact hA10) (by have := HM.out; omega)
        rw [← HM.out] at k1
        refine k1.mono ?_
        rintro e w11 ⟨b11, h11, rfl, hb11⟩
        obtain rfl : b11 = true := h11.2 (by trivial)
        have HB11 : Hid (Below w5.heap.size w5 w11) := below_call HB10.out hb11
        have HR11 : Hid (Below wr.heap.size wr w11) := below_call HR10.out hb11
        have sy11 := (y6.below HR11.out).strs
        have hB11 := HB.out.below (HB5.out.trans (HB11.out.mono HB5.out.size))
        clear hb11 h11 k1 sx10 hA10
        go_wp2_with fail
        go_at_call 11
        have k1 := CE.out (some ⟨gy, 0, none⟩) B gyp cb b w11 sy11 (by rw [← HN.out]; exact hB11) (by have := HN.out; omega)
        rw [← HN.out] at k1
        refine k1.mono ?_
        rintro e w12 ⟨b12, h12, rfl, hb12⟩
        obtain rfl : b12 = true := h12.2 (by trivial)
        have HB12 : Hid (Below w5.heap.size w5 w12) := below_call HB11.out hb12
        have HR12 : Hid (Below wr.heap.size wr w12) := below_call HR11.out hb12
        clear hb12 h12 k1 sy11 hB11
        have HE12 : Hid (Below w.heap.size w w12) := HB5.out.trans (HB12.out.mono HB5.out.size)
        have hlk1 : (cs.take k).length = (hs.take k).length := by rw [List.length_take, List.length_take, HCS.out]
        have hlk2 : (ds.take k).length = (hs.take k).length := by rw [List.length_take, List.length_take, HDS.out]
        have hlen : (.slice (some ⟨gx, 0, none⟩) m gxp :: .slice (some ⟨gy, 0, none⟩) n gyp :: both (cs.take k) (ds.take k)).length = 2 + k * 4 := by
          have hlH := HLL.out
          have hcH := HCS.out
          rw [List.length_cons, List.length_cons, both_len _ _ (by omega), List.length_take]
          omega
        have hown12x := own_prefix ((x6.below HR12.out).own)
        have hown12y := own_prefix ((y6.below HR12.out).own)
        have gxl := (x5.cap).2.2
        have gyl := (y5.cap).2.2
        have hgx3 := gx3
        have hgy3 := gy3
        have hml := HM.out
        have hnl := HN.out
        have hsm : ∀ l, (∃ x, x ∈ hs.take k ∧ (l = x.old ∨ l = x.new)) → l.length ≤ 8796093022187 := fun l hl => by
          obtain ⟨x, hx, hl⟩ := hl
          have := HPS.out x (List.mem_of_mem_take hx)
          rcases hl with rfl | rfl <;> omega
        have ap := lists_apart (.slice (some ⟨gx, 0, none⟩) m gxp :: .slice (some ⟨gy, 0, none⟩) n gyp :: both (cs.take k) (ds.take k)) bo lc w.heap.size w12 (fun v hv => by
            rcases List.mem_cons.1 hv with rfl | hv
            · exact ⟨m, _, by omega, own_base (by rw [HM.out]; exact hown12x) (Nat.le_refl _), fun e => by injection e with e; have e2 : gx = bo := e; omega⟩
            · rcases List.mem_cons.1 hv with rfl | hv
              · exact ⟨n, _, by omega, own_base (by rw [HN.out]; exact hown12y) (by omega), fun e => by injection e with e; have e2 : gy = bo := e; omega⟩
              · rcases List.mem_append.1 ((both_perm (by omega)).mem_iff.1 hv) with h | h
                · obtain ⟨l, hl, hlo⟩ := (HO1.out.take k).mem hlk1 h
                  exact lone_of hlo (hsm l hl) (HC5.out.trans (HB12.out.mono HC5.out.size)) (by omega) (by have := HC5.out.size; omega)
                · obtain ⟨l, hl, hlo⟩ := (HO5.out.take k).mem hlk2 h
                  exact lone_of hlo (hsm l hl) HB12.out (by omega) hboB)
          (all_apart (gx := gx) (gy := gy) rfl rfl hxy (by omega) (by omega) (HO1.out.take k) (HO5.out.take k) hw15 (by omega) hlk1 hlk2)
          (fun j v hj => (HR12.out.cell (p := ⟨bo, j, none⟩) hbol).trans (HBo.out j v hj)) (by rw [hlen]; omega) HE12.out.size (by have := HR12.out.size; omega) (by have := HB5.out.size; omega)
        rw [hlen] at ap
        have AP := Lib.hid ap
        clear ap hlen hlk1 hlk2 hown12x hown12y hsm
        go_wp2_with fail
        go_at_call 12
        refine AP.out.mono ?_
        rintro e w13 ⟨rfl, hb13⟩
        have hE := HE12.out.trans hb13
        clear hb13
        go_wp2_with fail
        go_ret
        exact ⟨rfl, hE⟩
end Go.Proofs.Ytoncghamkedhcaa.hunkPieces

namespace Go.Proofs.Ytoncghamkedhcaa.Kd
open Go.ChangeShapes Go.WideShapes Go.RowKit Tx Um Ud Aq Km
set_option linter.unusedVariables false
theorem arg_len {H : Type} {enc : TypeId × Value → H} {w : World} {base : Nat} {spare : Nat → Bool} {held : Bool} {A : Option Addr} {n c : Nat} {d : DataW H} {p : List MemPlace} (h : DataW.Trod enc Try.prog w base spare held 22 (.slice A n c) d p)
    {ts : List TypeId} {ds : List (DataW H)} {j : Nat} (hsz : (DataW.weightsEach Try.prog ts ds).all (· ≤ reachBytes) = true) (ht : ts[j]? = some 22) (hj : ds[j]? = some d) : n ≤ 8796093021952 := by
  obtain ⟨fuel, hf⟩ := h
  rcases open_strings Try.underlying22 Try.underlying9 (by kernel_rfl) hf with ⟨hcs, _⟩ | ⟨x, len, cap, ss, hcs, _, hl, hm, hz, hx, hcell, hzs⟩
  · simp [Value.cells] at hcs
    obtain ⟨rfl, rfl, rfl⟩ := hcs
    omega
  · simp [Value.cells] at hcs
    obtain ⟨rfl, rfl, rfl⟩ := hcs
    have hz' : n ≤ ss.length := by rw [hz]; split <;> omega
    have hd : d = .slice (strs (ss.take n)) (strs (ss.drop n)) := congrArg Prod.fst hx
    have hlen : (ss.take n).length = n := by rw [List.length_take]; omega
    have hs := sized_slice hsz ht (hj.trans (congrArg some hd)) Try.underlying22
    have hb : Try.prog.bytesOf 9 = 16 := by kernel_rfl
    have sl : ∀ l : List ByteArray, (strs (H := H) l).length = l.length := fun l => by unfold strs; rw [List.length_map]
    rw [hb, sl, sl, hlen] at hs
    have hr : reachBytes = 140737488351232 := rfl
    rw [hr] at hs
    omega
end Go.Proofs.Ytoncghamkedhcaa.Kd

namespace Go.Proofs.Ytoncghamkedhcaa.hunkPieces
open Go.ChangeShapes Go.WideShapes Go.ChangeAt Go.RowKit Tx Um Ud Aq Km Kd
set_option linter.unusedVariables false
theorem own : ownKnob Try.prog.godebug = none := by kernel_rfl
theorem laidOut : laidOutB Try.prog = true := by kernel_rfl
set_option maxRecDepth 100000 in
theorem contract (hM : Impl) (H : Type) (enc : TypeId × Value → H) (W : World) (base : Nat) (args : Array Value) (ds gs : List (DataW H)) (before : List MemPlace)
    (hval0 : ∀ (j : Nat) t v, Try.f3.params[j]? = some t → args[j]? = some v → Value.okWide Try.prog W .any base t v)
    (hW : DataW.Whole enc Try.prog Try.f3.params.toList Rows.hunkPiecesSpec.vars false W args.toList ds gs before)
    (hsz0 : (DataW.weightsEach Try.prog (Try.f3.params.toList ++ Rows.hunkPiecesSpec.plain.varTypes Try.prog) (ds ++ gs)).all (· ≤ reachBytes) = true) :
    Calls Try.prog 3 args W fun e W' => ∃ v, e = .returned v ∧ Rows.hunkPiecesSpec.post enc Try.prog Try.f3 false true false false W args v W' := by
  have hval : ∀ (j : Nat) t v, Try.f3.params[j]? = some t → args[j]? = some v → Value.okWide Try.prog W .any base t v := hval0
  have hsz := hsz0
  clear hsz0
  have hW' := hW
  obtain ⟨p, q, hA0, hV, rfl, hfz, hnd⟩ := hW
  have hA : DataW.TrodAll enc Try.prog W 0 (fun _ => true) true Try.f3.params.toList args.toList ds p := hA0
  rw [Try.params3] at hA hval hsz
  obtain ⟨v0, vs0, d0, ds0, p0, q0, hargs, rfl, rfl, h0, r0⟩ := trodAll_cons hA
  obtain ⟨v1, vs1, d1, ds1, p1, q1, rfl, rfl, rfl, h1, r1⟩ := trodAll_cons r0
  obtain ⟨v2, vs2, d2, ds2, p2, q2, rfl, rfl, rfl, h2, r2⟩ := trodAll_cons r1
  obtain ⟨rfl, rfl, rfl⟩ := trodAll_nil r2
  obtain rfl : args = #[v0, v1, v2] := by cases args; simp_all
  obtain ⟨rfl, rfl⟩ := trodVars_none hV
  obtain ⟨A0, n0, c0, rfl⟩ := okWide_slice Try.underlying22 (hval 0 22 v0 rfl rfl)
  have k0 := h0
  have lt0 : ∀ x ∈ p0, x.block < W.heap.size := by obtain ⟨m, hm⟩ := k0; exact DataW.trod_lt m _ _ _ hm
  obtain ⟨A1, n1, c1, rfl⟩ := okWide_slice Try.underlying22 (hval 1 22 v1 rfl rfl)
  have k1 := h1
  have lt1 : ∀ x ∈ p1, x.block < W.heap.size := by obtain ⟨m, hm⟩ := k1; exact DataW.trod_lt m _ _ _ hm
  obtain ⟨a2, rfl, rfl, rfl, w2⟩ := open_int Try.underlying3 (hval 2 3 v2 rfl rfl) h2
  have bd2 : -9223372036854775808 ≤ a2 ∧ a2 ≤ 9223372036854775807 := by simpa [Lit.wf, IntKind.min, IntKind.max, IntKind.signed, IntKind.bits] using w2
  clear hA0 hval0
  obtain ⟨l0, hl0⟩ := arg_in h0 (j := 0) hsz rfl rfl
  obtain ⟨l1, hl1⟩ := arg_in h1 (j := 1) hsz rfl rfl
  have ln0 := arg_len h0 (j := 0) hsz rfl rfl
  have ln1 := arg_len h1 (j := 1) hsz rfl rfl
  obtain rfl := hl0.2.1
  obtain rfl := hl1.2.1
  refine (walk hM A0 A1 c0 c1 a2 l0 l1 W hl0.1 hl1.1 bd2 hl0.2.2.1 hl1.2.2.1 (by omega) (by omega)).mono fun e W' ⟨he, bel⟩ => ?_
  subst he
  exact ⟨_, rfl, _, _, _, [], _, [], hW', trodAll_mk1 (shut_bool Try.underlying4 _), (trodAll_cons_mk (Below.trod laidOut (by kernel_rfl) (of_decide_eq_true (by kernel_rfl)) k0 bel lt0) (trodAll_cons_mk (Below.trod laidOut (by kernel_rfl) (of_decide_eq_true (by kernel_rfl)) k1 bel lt1) (trodAll_cons_mk (shut_int Try.underlying3 w2) trodAll_mk0))), rfl, bel.frame _, fun h => by cases h⟩
set_option maxRecDepth 100000 in
theorem lifted (hM : Impl) (os : Os) (started : os.Started) (H : Type) (enc : TypeId × Value → H) :
    ReturnsInHanded {} Try.checked os 3 .any (Rows.hunkPiecesSpec.pre6 enc Try.prog Try.f3 Rows.hunkPiecesRow.domain false) (Rows.hunkPiecesSpec.post enc Try.prog Try.f3 false true false false) := by
  refine returnsInHanded_of_change_sized (C := Try.checked) own started (by kernel_rfl) Try.func3
    (ChangeSpec.witness6 (enc := enc) (C := Try.checked) false ⟨#[], #[.slice none 0 0, .slice none 0 0, .int .i64 0], []⟩ 8 (by kernel_rfl) (by kernel_rfl) (by kernel_rfl) (by kernel_rfl)) ?_
  intro W base args ds gs before hval0 hW _ hsz0 _
  exact contract hM H enc W base args ds gs before hval0 hW hsz0
theorem over (hM : Impl) : Rows.hunkPiecesRow.holds Try.pinned (OpenSpec.ofChange Rows.hunkPiecesSpec) :=
  OpenClaim.holds_of_wide 3 Try.f3 rfl rfl rfl rfl rfl rfl rfl ⟨rfl, rfl, rfl, rfl, rfl⟩ rfl rfl rfl rfl rfl (by kernel_rfl) Try.func3 (by kernel_rfl)
    (of_decide_eq_true (by kernel_rfl)) (by unfold Func.isWrapper; first | (rw [if_pos (by decide +kernel)]; kernel_rfl) | (rw [if_neg (by decide +kernel)]; exact ⟨rfl, rfl⟩))
    (fun os started H enc _ => lifted hM os started H enc)
end Go.Proofs.Ytoncghamkedhcaa.hunkPieces

namespace Go.Proofs.Ytoncghamkedhcaa
theorem hunkPieces_holds : Rows.HunkPiecesSaid := hunkPieces.over Kd.impl
#print axioms hunkPieces_holds
end Go.Proofs.Ytoncghamkedhcaa
