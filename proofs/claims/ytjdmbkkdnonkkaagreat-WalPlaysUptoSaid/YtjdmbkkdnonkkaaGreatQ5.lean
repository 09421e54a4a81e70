/- Texts of this seat, one behind the other. -/
import Derived.Test.YtjdmbkkdnonkkaaGreatQ4
import Derived.Deep.QuietTactic
import Derived.BigQuiet
import Derived.ProofKit
import Derived.OpenShut
import Derived.ShutString
import Derived.Deep.Slices
import Derived.Deep.Fields
import Derived.ChangeSame
import Derived.Test.YtjdmbkkdnonkkaaGreatRows
namespace Go.Proofs.YtjdmbkkdnonkkaaGreat.Aq
open Go.RowKit Tx
set_option linter.unusedVariables false
def MK : ByteArray := ⟨#[97, 98, 99, 100, 101, 102, 103, 104, 105, 106, 107, 108, 109, 110, 111, 112, 113, 114, 115, 116, 117, 118, 119, 120, 121, 122]⟩
def was (j : Nat) : ByteArray := ⟨#[119, 97, 115]⟩ ++ MK.extract (j % 26) (j % 26 + 1)
def new (j : Nat) : ByteArray := ⟨#[110, 101, 119]⟩ ++ MK.extract (j % 26) (j % 26 + 1)
structure Ls where
  m : Nat
  A : Nat → Option Addr
  N : Nat → Nat
  C : Nat → Nat
  bo : Nat
  B : Nat
namespace Ls
variable (L : Ls)
def cells (w : World) : Prop := ∀ j, j < L.m → w.cell? ⟨L.bo, j, none⟩ = some (.slice (L.A j) (L.N j) (L.C j))
def far : Prop := (∀ i j, i < L.m → j < L.m → i ≠ j → ∀ x, L.A i = some x → L.A j ≠ some x) ∧ ∀ j, j < L.m → ∀ g, L.A j = some ⟨g, 0, none⟩ → g ≠ L.bo
def marked (w : World) (i k : Nat) : Prop := ∀ j, j < L.m → ∃ xs, w.ownsRow L.B 9 1 (.slice (L.A j) (L.N j) (L.C j)) (L.N j) xs ∧ ∀ l, l < L.N j → (j < i ∨ j = i ∧ l < k) → xs[l]? = some (.string (was j))
end Ls
theorem marked_next {L : Ls} {w : World} {i : Nat} (h : L.marked w i (L.N i)) : L.marked w (i + 1) 0 := by
  intro j hj
  obtain ⟨xs, h1, h2⟩ := h j hj
  refine ⟨xs, h1, fun l hl hh => h2 l hl ?_⟩
  rcases hh with hh | ⟨_, hh⟩
  · by_cases e : j = i
    · subst e; exact .inr ⟨rfl, hl⟩
    · exact .inl (by omega)
  · omega
theorem addr_eq {A : Option Addr} {n c : Nat} {w : World} {B : Nat} {e : TypeId} {xs : List Value} (h : w.ownsRow B e 1 (.slice A n c) n xs) (hn : 0 < n) : ∃ g, A = some ⟨g, 0, none⟩ ∧ B ≤ g := by
  obtain ⟨g, cap, hv, hg, _⟩ := h.form hn
  injection hv with ha
  exact ⟨g, ha, hg⟩
theorem marked_store {L : Ls} {w : World} {i k g : Nat} (hf : L.far) (h : L.marked w i k) (hi : i < L.m) (hk : k < L.N i) (ha : L.A i = some ⟨g, 0, none⟩) : L.marked (w.setCell ⟨g, k, none⟩ (.string (was i))) i (k + 1) := by
  intro j hj
  obtain ⟨xs, h1, h2⟩ := h j hj
  by_cases e : j = i
  · subst e
    rw [ha] at h1 ⊢
    refine ⟨xs.set k (.string (was j)), own_store h1 hk _, fun l hl hh => ?_⟩
    have hl2 : k < xs.length := by rw [h1.1]; omega
    by_cases e2 : l = k
    · subst e2
      exact List.getElem?_set_self hl2
    · rw [List.getElem?_set_ne (fun e => e2 e.symm)]
      exact h2 l hl (.inr ⟨rfl, by rcases hh with hh | ⟨_, hh⟩ <;> omega⟩)
  · refine ⟨xs, own_far h1 ?_ _, fun l hl hh => h2 l hl ?_⟩
    · intro hb
      cases hA : L.A j with
      | none => rw [hA] at hb; simp [Value.ownBlock] at hb
      | some x =>
        by_cases h0 : L.N j = 0
        · rcases h1.2 with ⟨hv, _⟩ | ⟨g', cap', cur, hv, _⟩
          · rw [hA] at hv; cases hv
          · rw [hA] at hv hb
            injection hv with hx
            injection hx with hx
            subst hx
            simp only [Value.ownBlock, Option.some.injEq] at hb
            subst hb
            exact hf.1 j i hj hi e _ hA ha
        · obtain ⟨g', ha', _⟩ := addr_eq h1 (by omega)
          rw [hA] at ha' hb
          injection ha' with hx
          subst hx
          simp only [Value.ownBlock, Option.some.injEq] at hb
          subst hb
          exact hf.1 j i hj hi e _ hA ha
    · rcases hh with hh | ⟨hh, _⟩
      · exact .inl hh
      · exact absurd hh e
theorem cells_store {L : Ls} {w : World} {i k g : Nat} (hf : L.far) (h : L.cells w) (hi : i < L.m) (ha : L.A i = some ⟨g, 0, none⟩) (u : Value) : L.cells (w.setCell ⟨g, k, none⟩ u) := by
  intro j hj
  have hne := hf.2 i hi g ha
  rw [World.cell?_setCell_other _ _ _ _ (fun e => hne (by injection e))]
  exact h j hj
def sw (j : Nat) : Value := .string (was j)
def sn (j : Nat) : Value := .string (new j)
def row (L : Ls) (j k : Nat) : List Value := List.replicate (L.N j) (sw j) ++ List.replicate k (sn j)
theorem row_was {L : Ls} {j k l : Nat} (h : l < L.N j) : (row L j k)[l]? = some (sw j) := by
  rw [row, List.getElem?_append_left (by simpa using h), List.getElem?_replicate, if_pos h]
theorem row_new {L : Ls} {j k l : Nat} (h : ¬ l < L.N j) (h2 : l < L.N j + k) : (row L j k)[l]? = some (sn j) := by
  rw [row, List.getElem?_append_right (by simp; omega), List.length_replicate, List.getElem?_replicate, if_pos (by omega)]
theorem row_zero (L : Ls) (j : Nat) : row L j 0 = List.replicate (L.N j) (sw j) := by simp [row]
theorem row_step (L : Ls) (j k : Nat) : row L j k ++ [sn j] = row L j (k + 1) := by
  rw [row, row, List.append_assoc, List.replicate_succ']
theorem own_same {w w1 : World} {base n : Nat} {e : TypeId} {v : Value} {xs : List Value} (h : w.ownsRow base e 1 v n xs) (hk : ∀ q, q < w.heap.size → v.ownBlock = some q → w1.heap[q]? = w.heap[q]?) : w1.ownsRow base e 1 v n xs := by
  refine ⟨h.1, ?_⟩
  rcases h.2 with h0 | ⟨g, cap, cur, rfl, hb, hh, r⟩
  · exact .inl h0
  · exact .inr ⟨g, cap, cur, rfl, hb, (hk g (Array.getElem?_eq_some_iff.1 hh).1 rfl).trans hh, r⟩
theorem own_lt {w : World} {base n : Nat} {e : TypeId} {v : Value} {xs : List Value} (h : w.ownsRow base e 1 v n xs) {g : Nat} (hg : v.ownBlock = some g) : base ≤ g ∧ g < w.heap.size := h.lt g hg
theorem cell_same {w w1 : World} {g k : Nat} {u : Value} (h : w.cell? ⟨g, k, none⟩ = some u) (hk : w1.heap[g]? = w.heap[g]?) : w1.cell? ⟨g, k, none⟩ = some u := (World.cell?_of_block (a := ⟨g, k, none⟩) hk).trans h
structure Inv (L : Ls) (w0 : World) (H i r : Nat) (w : World) (v6 : Value) (vs : List Value) (b c : Nat → Nat) : Prop where
  cells : L.cells w
  held : ∀ j, j < L.m → ∀ l, l < L.N j → ∃ g, L.A j = some ⟨g, 0, none⟩ ∧ w.cell? ⟨g, l, none⟩ = some (sw j)
  rows : ∀ j, r ≤ j → j < L.m → w.ownsRow L.B 9 1 (.slice (L.A j) (L.N j) (L.C j)) (L.N j) (row L j 0)
  outer : w.ownsRow L.B 56 1 v6 i vs
  high : ∀ g, v6.ownBlock = some g → H ≤ g
  long : ∀ j, j < i → vs[j]? = some (.slice (some ⟨b j, 0, none⟩) (L.N j + 20) (c j)) ∧ w.ownsRow L.B 9 1 (.slice (some ⟨b j, 0, none⟩) (L.N j + 20) (c j)) (L.N j + 20) (row L j 20) ∧ (L.A j = some ⟨b j, 0, none⟩ ∨ H ≤ b j)
  apart : ∀ j k, j < i → k < i → j ≠ k → b j ≠ b k
  low : ∀ j, j < L.m → ∀ g, L.A j = some ⟨g, 0, none⟩ → g < H
  bo : L.bo < H
  size : H ≤ w.heap.size
  below : Below L.B w0 w
  base : L.B ≤ H
structure Cur (L : Ls) (H i k : Nat) (w : World) (v : Value) (b : Nat → Nat) : Prop where
  own : w.ownsRow L.B 9 1 v (L.N i + k) (row L i k)
  at_ : ∀ g, v.ownBlock = some g → (L.A i = some ⟨g, 0, none⟩ ∨ H ≤ g) ∧ ∀ j, j < i → b j ≠ g
theorem inv_start {L : Ls} {w0 w : World} (hf : L.far) (hc : L.cells w) (hm : L.marked w L.m 0) (hbo : L.bo < w.heap.size) (hB : L.B ≤ w.heap.size) (hb : Below L.B w0 w) : Inv L w0 w.heap.size 0 0 w (.slice none 0 0) [] (fun _ => 0) (fun _ => 0) := by
  have hrow : ∀ j, j < L.m → w.ownsRow L.B 9 1 (.slice (L.A j) (L.N j) (L.C j)) (L.N j) (row L j 0) := by
    intro j hj
    obtain ⟨xs, h1, h2⟩ := hm j hj
    have e : xs = row L j 0 := by
      rw [row_zero]
      apply List.ext_getElem?
      intro l
      rw [List.getElem?_replicate]
      by_cases hl : l < L.N j
      · rw [if_pos hl]; exact h2 l hl (.inl hj)
      · rw [if_neg hl, List.getElem?_eq_none (by rw [h1.1]; omega)]
    rw [← e]
    exact h1
  refine ⟨hc, ?_, fun j _ hj => hrow j hj, World.ownsRow_nil _ _ _ _, fun g hg => by simp [Value.ownBlock] at hg, fun j hj => absurd hj (by omega), fun j k hj => absurd hj (by omega), ?_, hbo, Nat.le_refl _, hb, hB⟩
  · intro j hj l hl
    have h1 := hrow j hj
    obtain ⟨g, ha, _⟩ := addr_eq h1 (by omega)
    rw [ha] at h1
    exact ⟨g, ha, own_cell h1 (row_was hl)⟩
  · intro j hj g ha
    have h1 := hrow j hj
    rw [ha] at h1
    exact (own_lt h1 rfl).2
theorem cur_start {L : Ls} {w0 w : World} {H i r : Nat} {v6 : Value} {vs : List Value} {b c : Nat → Nat} (hf : L.far) (h : Inv L w0 H i r w v6 vs b c) (hr : r ≤ i) (hi : i < L.m) : Cur L H i 0 w (.slice (L.A i) (L.N i) (L.C i)) b := by
  have h1 := h.rows i hr hi
  refine ⟨h1, fun g hg => ?_⟩
  have ha : L.A i = some ⟨g, 0, none⟩ := by
    rcases h1.2 with ⟨hv, _⟩ | ⟨g', cap', cur, hv, _⟩
    · rw [hv] at hg; simp [Value.ownBlock] at hg
    · rw [hv] at hg
      simp only [Value.ownBlock, Option.some.injEq] at hg
      subst hg
      injection hv
  refine ⟨.inl ha, fun j hj e => ?_⟩
  rcases (h.long j hj).2.2 with h2 | h2
  · rw [e] at h2
    exact hf.1 j i (by omega) hi (by omega) _ h2 ha
  · have := h.low i hi g ha
    omega
theorem cur_step {L : Ls} {w0 w w1 : World} {H i k r : Nat} {v v1 v6 : Value} {vs : List Value} {b c : Nat → Nat} {o : Obj} (hf : L.far) (h : Inv L w0 H i r w v6 vs b c) (hi : i < L.m) (hc : Cur L H i k w v b)
    (hown : w1.ownsRow L.B 9 1 v1 (L.N i + k + 1) (row L i k ++ [sn i]))
    (hg : (v1.ownBlock = v.ownBlock ∧ (w.alloc o).grownBy w1 v.ownBlock) ∨ (v1.ownBlock = some (w.heap.size + 1) ∧ (w.alloc o).grownBy w1 none)) :
    (∀ q, q < w.heap.size → (∀ g, v.ownBlock = some g → q ≠ g) → w1.heap[q]? = w.heap[q]?) ∧ Cur L H i (k + 1) w1 v1 b ∧ w.heap.size ≤ w1.heap.size ∧ Below L.B w0 w1 ∧
      (∀ q, L.A i = some ⟨q, 0, none⟩ → ∀ l, l < L.N i → w1.cell? ⟨q, l, none⟩ = some (sw i)) := by
  have hB : L.B ≤ w.heap.size := Nat.le_trans h.base h.size
  have hal : w.heap.size + 1 = (w.alloc o).heap.size := (World.size_alloc _ _).symm
  have hk : ∀ q, q < w.heap.size → (∀ g, v.ownBlock = some g → q ≠ g) → w1.heap[q]? = w.heap[q]? := by
    intro q hq hne
    rcases hg with ⟨_, hg⟩ | ⟨_, hg⟩
    · exact (hg.block q (by omega) (fun e => hne q e.symm rfl)).trans (Below.heap_alloc w o q hq)
    · exact (hg.block q (by omega) (by simp)).trans (Below.heap_alloc w o q hq)
  have hown2 : w1.ownsRow L.B 9 1 v1 (L.N i + (k + 1)) (row L i (k + 1)) := by
    rw [← row_step]
    exact hown
  have hsz : w.heap.size ≤ w1.heap.size := by
    rcases hg with ⟨_, hg⟩ | ⟨_, hg⟩
    · have := hg.size; omega
    · have := hg.size; omega
  have hbel : Below L.B w0 w1 := by
    have h2 := h.below.alloc hB o
    rcases hg with ⟨_, hg⟩ | ⟨_, hg⟩
    · exact h2.grown hg (by omega) (fun q hq => (own_lt hc.own hq).1)
    · exact h2.grown hg (by omega) (fun q hq => by cases hq)
  refine ⟨hk, ⟨hown2, fun g hg1 => ?_⟩, hsz, hbel, fun q hq l hl => ?_⟩
  · rcases hg with ⟨he, _⟩ | ⟨he, _⟩
    · exact hc.at_ g (by rw [← he]; exact hg1)
    · rw [he] at hg1
      injection hg1 with hg1
      have hs := h.size
      refine ⟨.inr (by omega), fun j hj e => ?_⟩
      have h9 : b j < w.heap.size := (own_lt (h.long j hj).2.1 rfl).2
      omega
  · by_cases hv : v.ownBlock = some q
    · rcases hg with ⟨he, _⟩ | ⟨_, hg⟩
      · obtain ⟨g', cap', hv', _, _⟩ := hown2.form (by omega)
        rw [hv'] at he hown2
        rw [hv] at he
        simp only [Value.ownBlock, Option.some.injEq] at he
        subst he
        exact own_cell hown2 (row_was hl)
      · obtain ⟨g', hA, hcell⟩ := h.held i hi l hl
        rw [hq] at hA
        injection hA with hA
        injection hA with hA
        subst hA
        have hq' := World.block_lt_of_cell? w _ hcell
        exact cell_same hcell ((hg.block q (by have : q < w.heap.size := hq'; omega) (by simp)).trans (Below.heap_alloc w o q hq'))
    · obtain ⟨g', hA, hcell⟩ := h.held i hi l hl
      rw [hq] at hA
      injection hA with hA
      injection hA with hA
      subst hA
      exact cell_same hcell (hk q (World.block_lt_of_cell? w _ hcell) (fun g hg e => hv (by rw [hg, e])))
theorem inv_step {L : Ls} {w0 w w1 : World} {H i k r : Nat} {v v6 : Value} {vs : List Value} {b c : Nat → Nat} (hf : L.far) (h : Inv L w0 H i r w v6 vs b c) (hi : i < L.m) (hc : Cur L H i k w v b) (rowsi : ∀ j, i < j → j < L.m → w.ownsRow L.B 9 1 (.slice (L.A j) (L.N j) (L.C j)) (L.N j) (row L j 0))
    (hk : ∀ q, q < w.heap.size → (∀ g, v.ownBlock = some g → q ≠ g) → w1.heap[q]? = w.heap[q]?) (hsz : w.heap.size ≤ w1.heap.size) (hbel : Below L.B w0 w1)
    (hi1 : ∀ q, L.A i = some ⟨q, 0, none⟩ → ∀ l, l < L.N i → w1.cell? ⟨q, l, none⟩ = some (sw i)) :
    L.cells w1 ∧ (∀ j, j < L.m → ∀ l, l < L.N j → ∃ g, L.A j = some ⟨g, 0, none⟩ ∧ w1.cell? ⟨g, l, none⟩ = some (sw j)) ∧
      (∀ j, i < j → j < L.m → w1.ownsRow L.B 9 1 (.slice (L.A j) (L.N j) (L.C j)) (L.N j) (row L j 0)) ∧ w1.ownsRow L.B 56 1 v6 i vs ∧
      (∀ j, j < i → vs[j]? = some (.slice (some ⟨b j, 0, none⟩) (L.N j + 20) (c j)) ∧ w1.ownsRow L.B 9 1 (.slice (some ⟨b j, 0, none⟩) (L.N j + 20) (c j)) (L.N j + 20) (row L j 20) ∧ (L.A j = some ⟨b j, 0, none⟩ ∨ H ≤ b j)) := by
  have hs := h.size
  have hbo := h.bo
  refine ⟨fun j hj => ?_, fun j hj l hl => ?_, fun j hij hj => ?_, ?_, fun j hj => ?_⟩
  · refine cell_same (h.cells j hj) (hk L.bo (by omega) (fun g hg e => ?_))
    subst e
    rcases (hc.at_ _ hg).1 with ha | ha
    · exact hf.2 i hi _ ha rfl
    · omega
  · by_cases e : j = i
    · subst e
      obtain ⟨g, ha, _⟩ := h.held j hj l hl
      exact ⟨g, ha, hi1 g ha l hl⟩
    · obtain ⟨g, ha, hcell⟩ := h.held j hj l hl
      refine ⟨g, ha, cell_same hcell (hk g (World.block_lt_of_cell? w _ hcell) (fun q hq e2 => ?_))⟩
      subst e2
      rcases (hc.at_ _ hq).1 with h2 | h2
      · exact hf.1 j i hj hi e _ ha h2
      · have := h.low j hj _ ha
        omega
  · have h1 := rowsi j hij hj
    refine own_same h1 (fun q hq hv => hk q hq (fun g hg e => ?_))
    subst e
    have ha : L.A j = some ⟨q, 0, none⟩ := by
      rcases h1.2 with ⟨hv2, _⟩ | ⟨g', cap', cur, hv2, _⟩
      · rw [hv2] at hv; simp [Value.ownBlock] at hv
      · rw [hv2] at hv
        simp only [Value.ownBlock, Option.some.injEq] at hv
        subst hv
        injection hv2
    rcases (hc.at_ _ hg).1 with h2 | h2
    · exact hf.1 j i hj hi (by omega) _ ha h2
    · have := h.low j hj _ ha
      omega
  · exact own_same h.outer (fun q hq hv => hk q hq (fun g hg e => by
      subst e
      exact types_ne hc.own h.outer (by decide) hg hv))
  · obtain ⟨h1, h2, h3⟩ := h.long j hj
    refine ⟨h1, own_same h2 (fun q hq hv => hk q hq (fun g hg e => ?_)), h3⟩
    simp only [Value.ownBlock, Option.some.injEq] at hv
    subst hv
    exact (hc.at_ g hg).2 j hj e
theorem inv_next {L : Ls} {w0 w w1 : World} {H i bv cv r : Nat} {v6 v7 : Value} {vs : List Value} {b c : Nat → Nat} {o : Obj} (hf : L.far) (h : Inv L w0 H i r w v6 vs b c) (hi : i < L.m) (hc : Cur L H i 20 w (.slice (some ⟨bv, 0, none⟩) (L.N i + 20) cv) b)
    (rowsi : ∀ j, i < j → j < L.m → w.ownsRow L.B 9 1 (.slice (L.A j) (L.N j) (L.C j)) (L.N j) (row L j 0))
    (hown : w1.ownsRow L.B 56 1 v7 (i + 1) (vs ++ [.slice (some ⟨bv, 0, none⟩) (L.N i + 20) cv]))
    (hg : (v7.ownBlock = v6.ownBlock ∧ (w.alloc o).grownBy w1 v6.ownBlock) ∨ (v7.ownBlock = some (w.heap.size + 1) ∧ (w.alloc o).grownBy w1 none)) :
    Inv L w0 H (i + 1) (i + 1) w1 v7 (vs ++ [.slice (some ⟨bv, 0, none⟩) (L.N i + 20) cv]) (fun j => if j = i then bv else b j) (fun j => if j = i then cv else c j) := by
  have hB : L.B ≤ w.heap.size := Nat.le_trans h.base h.size
  have hal : w.heap.size + 1 = (w.alloc o).heap.size := (World.size_alloc _ _).symm
  have hs := h.size
  have hbo := h.bo
  have hvl : vs.length = i := by have := h.outer.1; omega
  have hk : ∀ q, q < w.heap.size → (∀ g, v6.ownBlock = some g → q ≠ g) → w1.heap[q]? = w.heap[q]? := by
    intro q hq hne
    rcases hg with ⟨_, hg⟩ | ⟨_, hg⟩
    · exact (hg.block q (by omega) (fun e => hne q e.symm rfl)).trans (Below.heap_alloc w o q hq)
    · exact (hg.block q (by omega) (by simp)).trans (Below.heap_alloc w o q hq)
  have hsz : w.heap.size ≤ w1.heap.size := by
    rcases hg with ⟨_, hg⟩ | ⟨_, hg⟩
    · have := hg.size; omega
    · have := hg.size; omega
  have hbel : Below L.B w0 w1 := by
    have h2 := h.below.alloc hB o
    rcases hg with ⟨_, hg⟩ | ⟨_, hg⟩
    · exact h2.grown hg (by omega) (fun q hq => (own_lt h.outer hq).1)
    · exact h2.grown hg (by omega) (fun q hq => by cases hq)
  have hrow : ∀ {n : Nat} {v : Value} {xs : List Value}, w.ownsRow L.B 9 1 v n xs → w1.ownsRow L.B 9 1 v n xs := by
    intro n v xs h1
    exact own_same h1 (fun q hq hv => hk q hq (fun g hg e => by
      subst e
      exact types_ne h1 h.outer (by decide) hv hg))
  refine ⟨fun j hj => ?_, fun j hj l hl => ?_, fun j hij hj => hrow (rowsi j (by omega) hj), hown, fun g hg7 => ?_, fun j hj => ?_, fun j k hj hk2 hne => ?_, h.low, hbo, by omega, hbel, h.base⟩
  · refine cell_same (h.cells j hj) (hk L.bo (by omega) (fun g hg e => ?_))
    have := h.high g hg
    omega
  · obtain ⟨g, ha, hcell⟩ := h.held j hj l hl
    refine ⟨g, ha, cell_same hcell (hk g (World.block_lt_of_cell? w _ hcell) (fun q hq e2 => ?_))⟩
    have h1 := h.high q hq
    have h2 := h.low j hj g ha
    omega
  · rcases hg with ⟨he, _⟩ | ⟨he, _⟩
    · exact h.high g (by rw [← he]; exact hg7)
    · rw [he] at hg7
      injection hg7 with hg7
      omega
  · by_cases e : j = i
    · subst e
      rw [if_pos rfl, if_pos rfl]
      refine ⟨?_, hrow hc.own, (hc.at_ bv rfl).1⟩
      rw [List.getElem?_append_right (by omega), hvl, Nat.sub_self]
      rfl
    · rw [if_neg e, if_neg e]
      obtain ⟨h1, h2, h3⟩ := h.long j (by omega)
      refine ⟨?_, hrow h2, h3⟩
      rw [List.getElem?_append_left (by omega)]
      exact h1
  · by_cases e : j = i
    · by_cases e2 : k = i
      · omega
      · rw [if_pos e, if_neg e2]
        exact fun hh => (hc.at_ bv rfl).2 k (by omega) hh.symm
    · by_cases e2 : k = i
      · rw [if_neg e, if_pos e2]
        exact fun hh => (hc.at_ bv rfl).2 j (by omega) hh
      · rw [if_neg e, if_neg e2]
        exact h.apart j k (by omega) (by omega) hne
theorem both_step {L : Ls} {w0 w w1 : World} {H i k r : Nat} {v v1 v6 : Value} {vs : List Value} {b c : Nat → Nat} {o : Obj} (hf : L.far) (h : Inv L w0 H i r w v6 vs b c) (hr : r ≤ i + 1) (hi : i < L.m) (hc : Cur L H i k w v b)
    (hown : w1.ownsRow L.B 9 1 v1 (L.N i + k + 1) (row L i k ++ [sn i]))
    (hg : (v1.ownBlock = v.ownBlock ∧ (w.alloc o).grownBy w1 v.ownBlock) ∨ (v1.ownBlock = some (w.heap.size + 1) ∧ (w.alloc o).grownBy w1 none)) :
    Inv L w0 H i (i + 1) w1 v6 vs b c ∧ Cur L H i (k + 1) w1 v1 b := by
  obtain ⟨hk, hc1, hsz, hbel, hi1⟩ := cur_step hf h hi hc hown hg
  have rowsi := fun j (hij : i < j) (hj : j < L.m) => h.rows j (by omega) hj
  obtain ⟨a1, a2, a3, a4, a5⟩ := inv_step hf h hi hc rowsi hk hsz hbel hi1
  exact ⟨⟨a1, a2, fun j hij hj => a3 j (by omega) hj, a4, h.high, a5, h.apart, h.low, h.bo, Nat.le_trans h.size hsz, hbel, h.base⟩, hc1⟩
theorem outer_next {L : Ls} {w0 w w1 : World} {H i bv cv r : Nat} {v6 v7 : Value} {vs : List Value} {b c : Nat → Nat} {o : Obj} (hf : L.far) (h : Inv L w0 H i r w v6 vs b c) (hr : r ≤ i + 1) (hi : i < L.m) (hc : Cur L H i 20 w (.slice (some ⟨bv, 0, none⟩) (L.N i + 20) cv) b)
    (hown : w1.ownsRow L.B 56 1 v7 (i + 1) (vs ++ [.slice (some ⟨bv, 0, none⟩) (L.N i + 20) cv]))
    (hg : (v7.ownBlock = v6.ownBlock ∧ (w.alloc o).grownBy w1 v6.ownBlock) ∨ (v7.ownBlock = some (w.heap.size + 1) ∧ (w.alloc o).grownBy w1 none)) :
    ∃ b2 c2, Inv L w0 H (i + 1) (i + 1) w1 v7 (vs ++ [.slice (some ⟨bv, 0, none⟩) (L.N i + 20) cv]) b2 c2 :=
  ⟨_, _, inv_next hf h hi hc (fun j hij hj => h.rows j (by omega) hj) hown hg⟩
theorem inv_more {L : Ls} {w0 w : World} {H i r : Nat} {v6 : Value} {vs : List Value} {b c : Nat → Nat} (h : Inv L w0 H i r w v6 vs b c) (hr : r ≤ i + 1) : Inv L w0 H i (i + 1) w v6 vs b c :=
  ⟨h.cells, h.held, fun j hij hj => h.rows j (by omega) hj, h.outer, h.high, h.long, h.apart, h.low, h.bo, h.size, h.below, h.base⟩
end Go.Proofs.YtjdmbkkdnonkkaaGreat.Aq

namespace Go.Proofs.YtjdmbkkdnonkkaaGreat.Aq
open Go.RowKit Tx
set_option linter.unusedVariables false
theorem info33 : (Tryz.prog.info? 56).map (fun i => (i.zero, i.size, i.bytes)) = some (some (.slice none 0 0), 1, 24) := by kernel_rfl
set_option maxRecDepth 100000 in
set_option maxHeartbeats 4000000 in
theorem apart_any (L : Ls) (co : Nat) (w : World) (hm : L.m ≤ 1048576) (hN : ∀ j, j < L.m → L.N j ≤ 10000000000) (hB : L.B ≤ w.heap.size) (hbo : L.bo < w.heap.size) (hbB : L.B ≤ L.bo) (hf : L.far) (hc : L.cells w) (hr : L.marked w 0 0) :
    Calls Tryz.prog 37 #[.slice (some ⟨L.bo, 0, none⟩) L.m co] w fun e w' => e = .returned (.bool true) ∧ Below L.B w w' := by
  obtain ⟨i0, hi0, hz0, hz1, hz2⟩ := info_parts info9
  obtain ⟨i33, hi33, hy0, hy1, hy2⟩ := info_parts info33
  have HN := Lib.hid hN
  have HF := Lib.hid hf
  have HC := Lib.hid hc
  have HR := Lib.hid hr
  clear hN hf hc hr
  go_enter Tryz.func37, Tryz.ntmps37
  go_wp2
  obtain ⟨M, hM⟩ : ∃ M, M = MK := ⟨_, rfl⟩
  have hM26 : 26 ≤ M.size := by rw [hM]; decide
  rw [show ({ data := #[97, 98, 99, 100, 101, 102, 103, 104, 105, 106, 107, 108, 109, 110, 111, 112, 113, 114, 115, 116, 117, 118, 119, 120, 121, 122] } : ByteArray) = MK from rfl, ← hM]
  have HM := Lib.hid hM
  clear hM
  go_loopw [4, 5] (fun i _ wr => ∃ j : Nat, j ≤ L.m ∧ i = .int .i64 j ∧ Hid (L.cells wr) ∧ Hid (L.marked wr j 0) ∧ Below L.B w wr ∧ w.heap.size ≤ wr.heap.size) (fun i _ _ => L.m - (intOf i).toNat)
  case atStart => exact ⟨0, Nat.zero_le _, rfl, HC, HR, Below.refl _ _, Nat.le_refl _⟩
  case round =>
    obtain ⟨i, hi, rfl, hcells, hmark, hb, hsz⟩ := hrel
    by_cases hlt : i < L.m
    · have hcell := hcells.out i hlt
      have hNi := HN.out i hlt
      obtain ⟨n, hn⟩ : ∃ n, n = L.N i := ⟨_, rfl⟩
      rw [← hn] at hcell hNi
      have HNN := Lib.hid hn
      clear hn
      obtain ⟨r, hr⟩ : ∃ r, r = i % 26 := ⟨_, rfl⟩
      have hrl : r < 26 := by omega
      have hr1 : (i : Int) % 26 = (r : Int) := by omega
      have hr2 : (i : Int).tmod 26 = (r : Int) := by rw [Int.tmod_eq_emod_of_nonneg (by omega)]; exact hr1
      have hr3 : IntKind.i64.wrap ((r : Int) + 1) = (r : Int) + 1 := IntWalk.i64_in _ (by omega)
      have hr4 : ((r : Int) + 1).toNat = r + 1 := by omega
      have hW : ({ data := #[119, 97, 115] } : ByteArray) ++ M.extract r (r + 1) = was i := by rw [was, HM.out, hr]
      have hWs : (M.extract r (r + 1)).size ≤ 1 := by simp; omega
      obtain ⟨Y, hY⟩ : ∃ Y, Y = was i := ⟨_, rfl⟩
      rw [← hY] at hW
      have HY := Lib.hid hY
      clear hr hY
      go_wp2
      go_loopw [5] (fun x wx => ∃ k : Nat, k ≤ n ∧ x = .int .i64 k ∧ Hid (L.cells wx) ∧ Hid (L.marked wx i k) ∧ Below L.B w wx ∧ w.heap.size ≤ wx.heap.size) (fun x _ => n - (intOf x).toNat)
      case atStart => exact ⟨0, Nat.zero_le _, rfl, hcells, hmark, hb, hsz⟩
      case round =>
        obtain ⟨k, hk, rfl, hcells2, hmark2, hb2, hsz2⟩ := hrel
        have hcell2 := hcells2.out i hlt
        rw [← HNN.out] at hcell2
        clear hcell hcells hmark hb hsz
        by_cases hkn : k < n
        · obtain ⟨xs, hx1, hx2⟩ := hmark2.out i hlt
          rw [← HNN.out] at hx1
          obtain ⟨g, ha, hg⟩ := addr_eq hx1 (by omega)
          rw [ha] at hcell2 hx1
          have hfz := own_frozen hx1 k
          have hst := own_cell hx1 (List.getElem?_eq_getElem (show k < xs.length by rw [hx1.1]; omega))
          obtain ⟨old, hold⟩ : ∃ old, old = xs[k]'(by rw [hx1.1]; omega) := ⟨_, rfl⟩
          rw [← hold] at hst
          have hkn' : (k : Int) < (n : Int) := by omega
          have hlt' : (i : Int) < (L.m : Int) := by omega
          have HX := Lib.hid hx1
          clear hx1 hx2 hold
          go_wp2
          go_region
          all_goals
            go_wp2
            go_roundw
            case rel => exact ⟨k + 1, by omega, by go_num, cells_store HF.out hcells2.out hlt ha _, by rw [HY.out]; exact marked_store HF.out hmark2.out hlt (by rw [← HNN.out]; exact hkn) ha, (hb2.setCell (p := ⟨g, k, none⟩) hg _).drew, by simpa [World.setCell] using hsz2⟩
            case measure => simp [intOf]; omega
        · obtain rfl : k = n := by omega
          have hdone : Hid (L.marked wr (i + 1) 0) := marked_next (by rw [← HNN.out]; exact hmark2.out)
          go_wp2
          go_roundw
          case rel => exact ⟨i + 1, by omega, by go_num, hcells2, hdone, hb2, hsz2⟩
          case measure => simp [intOf]; omega
    · obtain rfl : i = L.m := by omega
      clear HC HR
      have hinv := inv_start HF.out hcells.out hmark.out (by omega) (by omega) hb
      have HI := Lib.hid hinv
      obtain ⟨H, hH⟩ : ∃ H, H = wr.heap.size := ⟨_, rfl⟩
      rw [← hH] at HI
      clear hinv hH hcells hmark hb hsz hlt
      go_wp2
      go_loopw [6, 7, 8, 9] (fun v6 i _ _ wx => ∃ (k : Nat) (vs : List Value) (b c : Nat → Nat), k ≤ L.m ∧ i = .int .i64 k ∧ Hid (Inv L w H k k wx v6 vs b c)) (fun _ i _ _ _ => L.m - (intOf i).toNat)
      case atStart => exact ⟨0, [], _, _, Nat.zero_le _, rfl, HI⟩
      case round =>
        obtain ⟨i, vs, b, c, hi, rfl, HV⟩ := hrel
        clear HI
        by_cases hlt : i < L.m
        · have hcell := HV.out.cells i hlt
          have hcur := Lib.hid (cur_start HF.out HV.out (Nat.le_refl _) hlt)
          have hmore := Lib.hid (inv_more HV.out (by omega))
          have hNi := HN.out i hlt
          have hlt' : (i : Int) < (L.m : Int) := by omega
          obtain ⟨r, hr⟩ : ∃ r, r = i % 26 := ⟨_, rfl⟩
          have hrl : r < 26 := by omega
          have hr1 : (i : Int) % 26 = (r : Int) := by omega
          have hX : ({ data := #[110, 101, 119] } : ByteArray) ++ M.extract r (r + 1) = new i := by rw [new, HM.out, hr]
          have hXs : (M.extract r (r + 1)).size ≤ 1 := by simp; omega
          obtain ⟨Y, hY⟩ : ∃ Y, Y = new i := ⟨_, rfl⟩
          rw [← hY] at hX
          have HY := Lib.hid hY
          clear hr hY
          go_wp2
          go_loopw [8, 9] (fun v x wy => ∃ k : Nat, k ≤ 20 ∧ x = .int .i64 k ∧ Hid (Inv L w H i (i + 1) wy u6 vs b c) ∧ Hid (Cur L H i k wy v b)) (fun _ x _ => 20 - (intOf x).toNat)
          case atStart => exact ⟨0, by omega, rfl, hmore, hcur⟩
          case round =>
            obtain ⟨k, hk, rfl, hI, hC⟩ := hrel
            clear HV hcell hcur hmore
            have hsz := hI.out.size
            have hbs := hI.out.base
            by_cases hk20 : k < 20
            · have hown := hC.out.own
              go_wp2_with (at_builtin; refine wpList_append_two _ rfl _ _ 56 rfl L.B 9 i0 (.string ⟨#[]⟩) 16 Tryz.underlying56 hi0 hz0 hz1 hz2 rfl _ _ _ rfl (hown.alloc _) ⟨wr.heap.size, 0, none⟩ 1 (.string Y) rfl ?c1 rfl ?c3 ?c4 ?c5 ?_)
              case c1 => go_simp
              case c3 => omega
              case c4 => omega
              case c5 => simp; omega
              intro v1 w1 hown1 hg1
              have hst := both_step HF.out hI.out (Nat.le_refl _) hlt hC.out (by rw [HY.out] at hown1; exact hown1) hg1
              have h1 := Lib.hid hst.1
              have h2 := Lib.hid hst.2
              clear hst hown hown1 hg1
              go_wp2
              go_roundw
              case rel => exact ⟨k + 1, by omega, by go_num, h1, h2⟩
              case measure => simp [intOf]; omega
            · obtain rfl : k = 20 := by omega
              obtain ⟨bv, cv, hv, _, _⟩ := hC.out.own.form (by omega)
              rw [hv] at hC ⊢
              clear hv
              have hout := hI.out.outer
              go_wp2_with (at_builtin; refine wpList_append_two _ rfl _ _ 62 rfl L.B 56 i33 (.slice none 0 0) 24 Tryz.underlying62 hi33 hy0 hy1 hy2 rfl _ _ _ rfl (hout.alloc _) ⟨wr.heap.size, 0, none⟩ 1 (.slice (some ⟨bv, 0, none⟩) (L.N i + 20) cv) rfl ?c1 rfl ?c3 ?c4 ?c5 ?_)
              case c1 => go_simp
              case c3 => omega
              case c4 => omega
              case c5 => simp; omega
              intro v7 w1 hown1 hg1
              obtain ⟨b2, c2, hst⟩ := outer_next HF.out hI.out (Nat.le_refl _) hlt hC.out hown1 hg1
              have h1 := Lib.hid hst
              clear hst hout hown1 hg1
              go_wp2
              go_roundw
              case rel => exact ⟨i + 1, _, b2, c2, by omega, by go_num, h1⟩
              case measure => simp [intOf]; omega
        · obtain rfl : i = L.m := by omega
          have hbelow := HV.out.below
          by_cases hm0 : L.m = 0
          · have hm0' : (L.m : Int) ≤ 0 := by omega
            go_wp2
            go_loop [10] (fun i => i = .int .i64 0) (fun _ => 0)
            case atStart => exact rfl
            case round =>
              obtain rfl := hrel
              go_wp2
              go_ret
              exact ⟨rfl, hbelow⟩
          · obtain ⟨g6, c6, hv6, _, _⟩ := HV.out.outer.form (by omega)
            rw [hv6] at HV ⊢
            clear hv6 hm0
            go_wp2
            go_loop [10, 11, 12] (fun i _ _ => ∃ j : Nat, j ≤ L.m ∧ i = .int .i64 j) (fun i _ _ => L.m - (intOf i).toNat)
            case atStart => exact ⟨0, Nat.zero_le _, rfl⟩
            case round =>
              obtain ⟨j, hj, rfl⟩ := hrel
              by_cases hjm : j < L.m
              · obtain ⟨hlv, hlo, _⟩ := HV.out.long j hjm
                have hcl := own_cell HV.out.outer hlv
                have hcj := HV.out.cells j hjm
                have HLO := Lib.hid hlo
                have HH := Lib.hid (HV.out.held j hjm)
                have hNj := HN.out j hjm
                have hjm' : (j : Int) < (L.m : Int) := by omega
                obtain ⟨n, hn⟩ : ∃ n, n = L.N j := ⟨_, rfl⟩
                obtain ⟨bj, hbj⟩ : ∃ x, x = b j := ⟨_, rfl⟩
                obtain ⟨cj, hcj2⟩ : ∃ x, x = c j := ⟨_, rfl⟩
                rw [← hn, ← hbj, ← hcj2] at hcl HLO
                rw [← hn] at hcj hNj HH
                have HNN := Lib.hid hn
                clear hn hbj hcj2 hlo hlv
                obtain ⟨r, hr⟩ : ∃ r, r = j % 26 := ⟨_, rfl⟩
                have hrl : r < 26 := by omega
                have hr1 : (j : Int) % 26 = (r : Int) := by omega
                have hXs : (M.extract r (r + 1)).size ≤ 1 := by simp; omega
                have hW : ({ data := #[119, 97, 115] } : ByteArray) ++ M.extract r (r + 1) = was j := by rw [was, HM.out, hr]
                have hX : ({ data := #[110, 101, 119] } : ByteArray) ++ M.extract r (r + 1) = new j := by rw [new, HM.out, hr]
                obtain ⟨Wj, hWj⟩ : ∃ x, x = was j := ⟨_, rfl⟩
                obtain ⟨Xj, hXj⟩ : ∃ x, x = new j := ⟨_, rfl⟩
                rw [← hWj] at hW
                rw [← hXj] at hX
                have HWJ := Lib.hid hWj
                have HXJ := Lib.hid hXj
                clear hr hWj hXj
                go_wp2
                go_loop [11, 12] (fun x _ => ∃ l : Nat, l ≤ n + 20 ∧ x = .int .i64 l) (fun x _ => n + 20 - (intOf x).toNat)
                case atStart => exact ⟨0, Nat.zero_le _, rfl⟩
                case round =>
                  obtain ⟨l, hl, rfl⟩ := hrel
                  by_cases hln : l < n
                  · obtain ⟨g, ha, hcg⟩ := HH.out l hln
                    have hcb := own_cell HLO.out (row_was (L := L) (j := j) (k := 20) (l := l) (by rw [← HNN.out]; exact hln))
                    rw [sw, ← HWJ.out] at hcg hcb
                    rw [ha] at hcj
                    have hln1 : (l : Int) < (n : Int) := by omega
                    have hln2 : (l : Int) < (n : Int) + 20 := by omega
                    go_wp2
                    go_round
                    case rel => exact ⟨l + 1, by omega, by go_num⟩
                    case measure => simp [intOf]; omega
                  · by_cases hl20 : l < n + 20
                    · have hcb := own_cell HLO.out (row_new (L := L) (j := j) (k := 20) (l := l) (by rw [← HNN.out]; exact hln) (by rw [← HNN.out]; exact hl20))
                      rw [sn, ← HXJ.out] at hcb
                      have hln1 : (n : Int) ≤ (l : Int) := by omega
                      have hln2 : (l : Int) < (n : Int) + 20 := by omega
                      go_wp2
                      go_round
                      case rel => exact ⟨l + 1, by omega, by go_num⟩
                      case measure => simp [intOf]; omega
                    · obtain rfl : l = n + 20 := by omega
                      go_wp2
                      go_round
                      case rel => exact ⟨j + 1, by omega, by go_num⟩
                      case measure => simp [intOf]; omega
              · go_wp2
                go_ret
                exact ⟨rfl, hbelow⟩
end Go.Proofs.YtjdmbkkdnonkkaaGreat.Aq

namespace Go.Proofs.YtjdmbkkdnonkkaaGreat.Aq
open Go.RowKit Tx
set_option linter.unusedVariables false
theorem texts_row {w : World} {B B2 n c : Nat} {a : Option Addr} {l : List ByteArray} (h : Texts w B (.slice a n c) l) (hB : B2 ≤ B) (hn : l.length = n) : w.ownsRow B2 9 1 (.slice a n c) n (l.map sv) := by
  subst hn
  refine ⟨h.1, ?_⟩
  rcases h.2 with h0 | ⟨g, cap, cur, hv, hg, r⟩
  · exact .inl h0
  · exact .inr ⟨g, cap, cur, hv, by omega, r⟩
theorem texts_block {w : World} {B n c : Nat} {a : Option Addr} {x : Addr} {l : List ByteArray} (h : Texts w B (.slice a n c) l) (ha : a = some x) : B ≤ x.block ∧ x.block < w.heap.size := by
  rcases h.2 with ⟨hv, _⟩ | ⟨g, cap, cur, hv, hg, hh, _⟩
  · injection hv with h1
    rw [ha] at h1
    cases h1
  · injection hv with h1
    rw [ha] at h1
    injection h1 with h1
    subst h1
    exact ⟨hg, (Array.getElem?_eq_some_iff.1 hh).1⟩
def two (a b : Option Addr) (n ca cb bo B : Nat) : Ls := { m := 2, A := fun j => if j = 0 then a else b, N := fun _ => n, C := fun j => if j = 0 then ca else cb, bo := bo, B := B }
theorem two_apart {w : World} {a b : Option Addr} {n ca cb B Ba Bb : Nat} {l : List ByteArray} (hn : n ≤ 10000000000) (hl : l.length = n) (ha : Texts w Ba (.slice a n ca) l) (hb : Texts w Bb (.slice b n cb) l) (h1 : B ≤ Ba) (h2 : B ≤ Bb) (hsep : ∀ x, a = some x → x.block < Bb) (hBw : B ≤ w.heap.size) :
    Calls Tryz.prog 37 #[.slice (some ⟨w.heap.size, 0, none⟩) 2 2] (w.alloc (.cells #[.slice a n ca, .slice b n cb] 56)) fun e w' => e = .returned (.bool true) ∧ Below B (w.alloc (.cells #[.slice a n ca, .slice b n cb] 56)) w' := by
  have ra := (texts_row ha h1 hl).alloc (.cells #[.slice a n ca, .slice b n cb] 56)
  have rb := (texts_row hb h2 hl).alloc (.cells #[.slice a n ca, .slice b n cb] 56)
  refine apart_any (two a b n ca cb w.heap.size B) 2 _ (by show 2 ≤ 1048576; omega) (fun j _ => hn) (by rw [World.size_alloc]; show B ≤ _; omega) (by rw [World.size_alloc]; show w.heap.size < _; omega) hBw ?_ ?_ ?_
  · have key : ∀ x, a = some x → b ≠ some x := fun x h3 h4 => by
      have h5 := hsep x h3
      have h6 := (texts_block hb h4).1
      omega
    refine ⟨fun i j hi hj hne x h3 => ?_, fun j hj g h3 => ?_⟩
    · have hi : i < 2 := hi
      have hj : j < 2 := hj
      show (if j = 0 then a else b) ≠ some x
      have h3 : (if i = 0 then a else b) = some x := h3
      by_cases hi0 : i = 0
      · rw [if_pos hi0] at h3
        rw [if_neg (by omega)]
        exact key x h3
      · rw [if_neg hi0] at h3
        rw [if_pos (by omega)]
        exact fun h4 => key x h4 h3
    · have h3 : (if j = 0 then a else b) = some ⟨g, 0, none⟩ := h3
      show g ≠ w.heap.size
      by_cases hj0 : j = 0
      · rw [if_pos hj0] at h3
        have : g < w.heap.size := (texts_block ha h3).2
        omega
      · rw [if_neg hj0] at h3
        have : g < w.heap.size := (texts_block hb h3).2
        omega
  · intro j hj
    have hj : j < 2 := hj
    match j, hj with
    | 0, _ => show (w.alloc _).cell? ⟨w.heap.size, 0, none⟩ = _; go_simp; exact ⟨rfl, rfl, rfl⟩
    | 1, _ => show (w.alloc _).cell? ⟨w.heap.size, 1, none⟩ = _; go_simp; exact ⟨rfl, rfl, rfl⟩
  · intro j hj
    have hj : j < 2 := hj
    match j, hj with
    | 0, _ => exact ⟨l.map sv, ra, fun k hk hh => by omega⟩
    | 1, _ => exact ⟨l.map sv, rb, fun k hk hh => by omega⟩
end Go.Proofs.YtjdmbkkdnonkkaaGreat.Aq

namespace Go.Proofs.YtjdmbkkdnonkkaaGreat.Dk
open Go.RowKit Tx Pm
set_option linter.unusedVariables false
end Go.Proofs.YtjdmbkkdnonkkaaGreat.Dk

namespace Go.Proofs.YtjdmbkkdnonkkaaGreat.Dk
open Go.ChangeMaps (open_string shut_string)
open Go.ChangeShapes Go.WideShapes Go.ChangeAt Go.RowKit Tx
set_option linter.unusedVariables false
structure Sp where
  k : Int
  p : ByteArray
  q : ByteArray
  n : Int
def dS {H : Type} (x : Sp) : DataW H := .agg [.lit (.int .i64 x.k), .lit (.string x.p.data.toList), .lit (.string x.q.data.toList), .lit (.int .i64 x.n)]
def int64 (k : Int) : Prop := -9223372036854775808 ≤ k ∧ k ≤ 9223372036854775807
theorem cells9 : Tryz.prog.cellsOf 9 = 1 := by kernel_rfl
theorem cells3 : Tryz.prog.cellsOf 3 = 1 := by kernel_rfl
theorem wf_int {k : Int} (h : (Lit.int .i64 k).wf = true) : int64 k := by
  unfold int64
  simpa [Lit.wf, IntKind.min, IntKind.max, IntKind.signed, IntKind.bits] using h
def Script (w : World) (a : Option Addr) (n : Nat) (l : List Sp) : Prop := l.length = n ∧ (n = 0 ∨ ∃ b off, a = some ⟨b, off, none⟩ ∧ b < w.heap.size ∧ ∀ k x, l[k]? = some x → w.cell? ⟨b, off + k * 4, none⟩ = some (.int .i64 x.k) ∧ w.cell? ⟨b, off + k * 4 + 1, none⟩ = some (.string x.p) ∧ w.cell? ⟨b, off + k * 4 + 1 + 1, none⟩ = some (.string x.q) ∧ w.cell? ⟨b, off + k * 4 + 1 + 1 + 1, none⟩ = some (.int .i64 x.n))
theorem bulk_step {H : Type} (x : Sp) : Rows.uptoBulk (dS (H := H) x) = x.p.size + x.q.size + 5 := by
  have e : Rows.uptoBulk (dS (H := H) x) = 1 + ((x.p.data.toList.length + 1) + ((x.q.data.toList.length + 1) + (1 + 0))) + 1 := rfl
  rw [e, len_l, len_l]
  omega
theorem bulk_steps {H : Type} : ∀ l : List Sp, l.length ≤ Rows.uptoBulkAll (l.map (dS (H := H))) ∧ ∀ x ∈ l, x.p.size ≤ Rows.uptoBulkAll (l.map (dS (H := H))) ∧ x.q.size ≤ Rows.uptoBulkAll (l.map (dS (H := H)))
  | [] => ⟨Nat.zero_le _, fun x hx => by cases hx⟩
  | y :: l => by
    obtain ⟨h1, h2⟩ := bulk_steps (H := H) l
    have e : Rows.uptoBulkAll ((y :: l).map (dS (H := H))) = Rows.uptoBulk (dS (H := H) y) + Rows.uptoBulkAll (l.map (dS (H := H))) := rfl
    rw [e, bulk_step]
    refine ⟨by rw [List.length_cons]; omega, fun x hx => ?_⟩
    rcases List.mem_cons.1 hx with rfl | hx
    · exact ⟨by omega, by omega⟩
    · obtain ⟨a, b⟩ := h2 x hx
      exact ⟨by omega, by omega⟩
end Go.Proofs.YtjdmbkkdnonkkaaGreat.Dk

namespace Go.Proofs.YtjdmbkkdnonkkaaGreat.Dk
open Go.RowKit Tx Pm
set_option linter.unusedVariables false
def pV : ByteArray := ⟨#[118]⟩
def pVA : ByteArray := ⟨#[118, 47, 97]⟩
def pVB : ByteArray := ⟨#[118, 47, 98]⟩
def a1S : St := (mkdirS newS pV).2
theorem a1_ok : (mkdirS newS pV).1 = 0 := by decide +kernel
end Go.Proofs.YtjdmbkkdnonkkaaGreat.Dk

namespace Go.Proofs.YtjdmbkkdnonkkaaGreat.Dk
open Go.RowKit Tx Pm
set_option linter.unusedVariables false
theorem fits_none {s : St} (h : s.rooms = []) (p : ByteArray) (m : Int) : fits s p m = true := by
  unfold fits
  rw [h, List.all_nil, Bool.or_true]
def dirV : It := ⟨pV, true, ⟨#[]⟩, ⟨#[]⟩, false, false, 0⟩
def m1 (a : ByteArray) : St := ⟨[dirV, ⟨pVA, false, a, ⟨#[]⟩, true, true, 1⟩], [], 2, 1, -1, false⟩
def m2 (a : ByteArray) : St := ⟨[dirV, ⟨pVA, false, a, a, false, false, 1⟩], [], 3, 1, -1, false⟩
def m3 (a b : ByteArray) : St := ⟨[dirV, ⟨pVA, false, a, a, false, false, 1⟩, ⟨pVB, false, b, ⟨#[]⟩, true, true, 2⟩], [], 4, 2, -1, false⟩
def m4 (a b : ByteArray) : St := ⟨[dirV, ⟨pVA, false, a, a, false, false, 1⟩, ⟨pVB, false, b, b, false, false, 2⟩], [], 5, 2, -1, false⟩
def m5 (b : ByteArray) : St := ⟨[dirV, ⟨pVA, false, b, b, false, false, 3⟩], [], 6, 3, -1, false⟩
def m6 (a b : ByteArray) : St := { m4 a b with down := true }
end Go.Proofs.YtjdmbkkdnonkkaaGreat.Dk

namespace Go.Proofs.YtjdmbkkdnonkkaaGreat.Dk
open Go.RowKit Tx Pm
set_option linter.unusedVariables false
def syn (p x : ByteArray) (n : Nat) : It := ⟨p, false, x, x, false, false, n⟩
def raw (p x : ByteArray) (n : Nat) : It := ⟨p, false, x, ⟨#[]⟩, true, true, n⟩
def kA (x : ByteArray) : St := ⟨[dirV, raw pVA x 1], [], 2, 1, -1, false⟩
def kB (x : ByteArray) : St := ⟨[dirV, syn pVA x 1, raw pVB x 2], [], 4, 2, -1, false⟩
theorem restart_loose (loss : Nat) {x : It} (h : x.loose = true) (l : List It) (n st : Nat) : restartL loss (x :: l) n st = ({ lose (mix loss (n + 1)) x with stamp := st + 1 } :: (restartL loss l (n + 1) (st + 1)).1, (restartL loss l (n + 1) (st + 1)).2) := by
  rw [restartL, if_pos h]
theorem restart_synced (loss : Nat) {x : It} (h : x.loose = false) (l : List It) (n st : Nat) : restartL loss (x :: l) n st = (x :: (restartL loss l n st).1, (restartL loss l n st).2) := by
  rw [restartL, if_neg (by rw [h]; decide)]
theorem lose_stamp (pick : Nat) (p x k : ByteArray) (a : Bool) (st n : Nat) : { lose pick ⟨p, false, x, k, true, a, st⟩ with stamp := n } = syn p (lose pick ⟨p, false, x, k, true, a, st⟩).data n := by
  unfold lose syn
  rfl
theorem pre_of (t : ByteArray) (k : Nat) (hk : k ≤ t.size) : (t.extract 0 k).size = k ∧ t.extract 0 k = t.extract 0 (t.extract 0 k).size := by
  have h : (t.extract 0 k).size = k := by rw [ByteArray.size_extract]; omega
  exact ⟨h, by rw [h]⟩
theorem lose_old (n : Nat) (p x w : ByteArray) (st : Nat) (hw : x.size ≤ w.size) : ∃ b, (lose n ⟨p, false, w, x, true, false, st⟩).data = b ∧ x.size ≤ b.size ∧ b.size ≤ w.size ∧ b = w.extract 0 b.size := by
  have hm : n % (w.size - x.size + 1) < w.size - x.size + 1 := Nat.mod_lt _ (by omega)
  obtain ⟨h1, h2⟩ := pre_of w (x.size + n % (w.size - x.size + 1)) (by omega)
  refine ⟨w.extract 0 (x.size + n % (w.size - x.size + 1)), ?_, by omega, by omega, h2⟩
  unfold lose
  simp only [Bool.false_eq_true, if_false]
theorem lose_new (n : Nat) (p x z : ByteArray) (st : Nat) : ∃ c, (lose n ⟨p, false, z, x, true, true, st⟩).data = c ∧ (c = x ∨ (c.size ≤ z.size ∧ c = z.extract 0 c.size)) := by
  have hm : n % (z.size + 2) < z.size + 2 := Nat.mod_lt _ (by omega)
  have e : (lose n ⟨p, false, z, x, true, true, st⟩).data = if n % (z.size + 2) = 0 then x else z.extract 0 (n % (z.size + 2) - 1) := by
    unfold lose
    simp only [if_true]
  refine ⟨_, e, ?_⟩
  split
  · exact .inl rfl
  · obtain ⟨h1, h2⟩ := pre_of z (n % (z.size + 2) - 1) (by omega)
    exact .inr ⟨by omega, h2⟩
end Go.Proofs.YtjdmbkkdnonkkaaGreat.Dk

namespace Go.Proofs.YtjdmbkkdnonkkaaGreat.Fr
open Go.RowKit Wm Wr Fm
end Go.Proofs.YtjdmbkkdnonkkaaGreat.Fr

namespace Go.Proofs.YtjdmbkkdnonkkaaGreat.Fr
open Go.RowKit Wm Wr Fm
set_option linter.unusedVariables false
theorem rdT_front (t : ByteArray) (m : List UInt8) (h : t.size ≤ 9223372036854775807) : rdT ⟨(vb t.size ++ (t.data.toList ++ m)).toArray⟩ = (t, (vb t.size).length + t.size, 0) := by
  have e : rdU (⟨(vb t.size ++ (t.data.toList ++ m)).toArray⟩ : ByteArray).data.toList = (t.size, (vb t.size).length, 0) := by
    show rdU (vb t.size ++ (t.data.toList ++ m)) = _
    rw [rdU, rd_vb t.size _ (by omega), if_neg]
    rintro ⟨_, h2⟩
    simp only at h2
    omega
  have hlen : (⟨(vb t.size ++ (t.data.toList ++ m)).toArray⟩ : ByteArray).size = (vb t.size).length + (t.size + m.length) := by
    rw [ByteArray.size, List.size_toArray, List.length_append, List.length_append, len_l]
  rw [rdT, e, if_neg (fun h => h rfl), if_neg (by rw [hlen]; show ¬ _ < (vb t.size).length + t.size; omega)]
  congr 1
  apply ByteArray.ext
  rw [ByteArray.data_extract]
  apply Array.toList_inj.1
  rw [← len_l t]
  simp
theorem fr_front (t : ByteArray) (m r : List UInt8) (h : t.size ≤ 9223372036854775807) (hm : m.length = 4) :
    fr ⟨(vb t.size ++ (t.data.toList ++ (m ++ r))).toArray⟩ = if m = le4 (fsum t.data.toList) then (t, (vb t.size).length + t.size + 4, 0) else (⟨#[]⟩, 0, 6) := by
  have e := rdT_front t (m ++ r) h
  have hlen : (⟨(vb t.size ++ (t.data.toList ++ (m ++ r))).toArray⟩ : ByteArray).size = (vb t.size).length + (t.size + (4 + r.length)) := by
    rw [ByteArray.size, List.size_toArray, List.length_append, List.length_append, List.length_append, len_l, hm]
  have hx : (⟨(vb t.size ++ (t.data.toList ++ (m ++ r))).toArray⟩ : ByteArray).extract 0 ((vb t.size).length + t.size + 4) = ⟨(vb t.size ++ (t.data.toList ++ m)).toArray⟩ := by
    apply ByteArray.ext
    rw [ByteArray.data_extract]
    apply Array.toList_inj.1
    rw [Array.toList_extract]
    simp only [List.extract_eq_take_drop, List.drop_zero, Nat.sub_zero]
    rw [show vb t.size ++ (t.data.toList ++ (m ++ r)) = (vb t.size ++ (t.data.toList ++ m)) ++ r by simp]
    exact List.take_left' (by rw [List.length_append, List.length_append, len_l, hm]; omega)
  rw [fr, e, if_neg (fun h => h rfl), if_neg (by rw [hlen]; show ¬ _ - ((vb t.size).length + t.size) < 4; omega)]
  simp only
  rw [hx]
  have hpk : (⟨(vb t.size ++ (t.data.toList ++ m)).toArray⟩ : ByteArray) = pk t ↔ m = le4 (fsum t.data.toList) := by
    constructor
    · intro hh
      have := congrArg (fun b : ByteArray => b.data.toList) hh
      simp only [pk_list] at this
      exact List.append_cancel_left (List.append_cancel_left this)
    · intro hh
      apply ByteArray.ext
      apply Array.toList_inj.1
      rw [pk_list, hh]
  by_cases hh : m = le4 (fsum t.data.toList)
  · rw [if_pos hh, if_neg (fun h => h (hpk.2 hh))]
  · rw [if_neg hh, if_pos (fun h => hh (hpk.1 h))]
end Go.Proofs.YtjdmbkkdnonkkaaGreat.Fr

namespace Go.Proofs.YtjdmbkkdnonkkaaGreat.Fr
open Go.RowKit Wm Wr Fm
set_option linter.unusedVariables false
def PKl (l : List ByteArray) : List UInt8 := (l.map fun t => (pk t).data.toList).flatten
theorem PKl_cons (t : ByteArray) (l : List ByteArray) : PKl (t :: l) = (pk t).data.toList ++ PKl l := by simp [PKl]
theorem PKl_snoc (l : List ByteArray) (t : ByteArray) : PKl (l ++ [t]) = PKl l ++ (pk t).data.toList := by simp [PKl]
def cnt : List ByteArray → Nat → Nat
  | [], _ => 0
  | t :: l, b => if (pk t).size ≤ b then cnt l (b - (pk t).size) + 1 else 0
theorem cnt_all : ∀ (l : List ByteArray) (b : Nat), (PKl l).length ≤ b → cnt l b = l.length
  | [], _, _ => rfl
  | t :: l, b, h => by
    rw [PKl_cons, List.length_append, len_l] at h
    rw [cnt, if_pos (by omega), cnt_all l _ (by omega)]
    rfl
theorem cnt_snoc : ∀ (l : List ByteArray) (t : ByteArray) (b : Nat), cnt (l ++ [t]) b = if (PKl (l ++ [t])).length ≤ b then l.length + 1 else cnt l b
  | [], t, b => by
    rw [List.nil_append, cnt, PKl_cons, List.length_append, len_l]
    have : (PKl []).length = 0 := rfl
    simp only [this, Nat.add_zero, cnt, List.length_nil]
  | s :: l, t, b => by
    have ih := cnt_snoc l t (b - (pk s).size)
    rw [List.cons_append, cnt, cnt, PKl_cons, List.length_append, len_l, ih]
    by_cases h : (pk s).size ≤ b
    · rw [if_pos h, if_pos h]
      by_cases h2 : (PKl (l ++ [t])).length ≤ b - (pk s).size
      · rw [if_pos h2, if_pos (by omega)]; rfl
      · rw [if_neg h2, if_neg (by omega)]
    · rw [if_neg h, if_neg h, if_neg (by omega)]
theorem lead_cut : ∀ (f x k : Nat), k < (vb x).length → k ≤ f → lead ((vb x).take k) f = k
  | f, x, 0, _, _ => by cases f <;> simp [lead]
  | 0, x, k + 1, _, h => absurd h (by omega)
  | f + 1, x, k + 1, h, hf => by
    by_cases hx : x < 128
    · rw [vb_lo hx] at h; simp at h
    · rw [vb_hi (by omega)] at h ⊢
      have e : (UInt8.ofNat (128 + x % 128)).toNat = 128 + x % 128 := by simp; omega
      rw [List.take_succ_cons, lead, if_pos (by omega), lead_cut f (x / 128) k (by simpa using h) (by omega)]
theorem rd_cut (x k : Nat) (h : k < (vb x).length) (hx : x < 18446744073709551616) : rd ((vb x).take k) = (0, 0, 2) := by
  have hl := vb_len hx
  have e := lead_cut 9 x k h (by omega)
  have e2 : ((vb x).take k).length = k := by rw [List.length_take]; omega
  unfold rd
  simp only [e, e2]
  exact if_pos trivial
theorem fr_cut (t : ByteArray) (k : Nat) (h : k < (pk t).size) (ht : t.size ≤ 9223372036854775807) : (fr ⟨((pk t).data.toList.take k).toArray⟩).2.2 = 2 := by
  have hp := pk_size t
  have hlen : (⟨((pk t).data.toList.take k).toArray⟩ : ByteArray).size = k := by
    rw [ByteArray.size, List.size_toArray, List.length_take, len_l]; omega
  rw [pk_list] at hlen ⊢
  by_cases h1 : k < (vb t.size).length
  · have e : (vb t.size ++ (t.data.toList ++ le4 (fsum t.data.toList))).take k = (vb t.size).take k := List.take_append_of_le_length (by omega)
    have r : rdU (⟨((vb t.size ++ (t.data.toList ++ le4 (fsum t.data.toList))).take k).toArray⟩ : ByteArray).data.toList = (0, 0, 2) := by
      show rdU ((vb t.size ++ (t.data.toList ++ le4 (fsum t.data.toList))).take k) = _
      rw [e, rdU, rd_cut t.size k h1 (by omega), if_neg (by simp)]
    rw [fr, rdT, r, if_pos (by simp), if_pos (by simp)]
  · obtain ⟨m, rfl⟩ : ∃ m, k = (vb t.size).length + m := ⟨k - (vb t.size).length, by omega⟩
    have e : (vb t.size ++ (t.data.toList ++ le4 (fsum t.data.toList))).take ((vb t.size).length + m) = vb t.size ++ (t.data.toList ++ le4 (fsum t.data.toList)).take m := by
      rw [List.take_append, List.take_of_length_le (by omega), Nat.add_sub_cancel_left]
    rw [e] at hlen ⊢
    by_cases h2 : m < t.size
    · have r : rdU (⟨(vb t.size ++ (t.data.toList ++ le4 (fsum t.data.toList)).take m).toArray⟩ : ByteArray).data.toList = (t.size, (vb t.size).length, 0) := by
        show rdU (vb t.size ++ _) = _
        rw [rdU, rd_vb t.size _ (by omega), if_neg]
        rintro ⟨_, h3⟩
        simp only at h3
        omega
      have r2 : rdT ⟨(vb t.size ++ (t.data.toList ++ le4 (fsum t.data.toList)).take m).toArray⟩ = (ByteArray.empty, 0, 2) := by
        rw [rdT, r, if_neg (fun h => h rfl), if_pos (by rw [hlen]; show (vb t.size).length + m < (vb t.size).length + t.size; omega)]
      rw [fr, r2, if_pos (by simp)]
    · have e2 : (t.data.toList ++ le4 (fsum t.data.toList)).take m = t.data.toList ++ (le4 (fsum t.data.toList)).take (m - t.size) := by
        rw [List.take_append, List.take_of_length_le (by rw [len_l]; omega), len_l]
      rw [e2] at hlen ⊢
      rw [fr, rdT_front t _ ht, if_neg (fun h => h rfl), if_pos (by rw [hlen]; show (vb t.size).length + m - ((vb t.size).length + t.size) < 4; omega)]
theorem fr_pk (t : ByteArray) (r : List UInt8) (ht : t.size ≤ 9223372036854775807) : fr ⟨((pk t).data.toList ++ r).toArray⟩ = (t, (pk t).size, 0) := by
  have e : (pk t).data.toList ++ r = vb t.size ++ (t.data.toList ++ (le4 (fsum t.data.toList) ++ r)) := by rw [pk_list]; simp
  rw [e, fr_front t _ r ht rfl, if_pos rfl, pk_size]
theorem mk_len (l : List UInt8) : (⟨l.toArray⟩ : ByteArray).size = l.length := by rw [ByteArray.size, List.size_toArray]
theorem from_at (p r : List UInt8) : (⟨(p ++ r).toArray⟩ : ByteArray).extract p.length (⟨(p ++ r).toArray⟩ : ByteArray).size = ⟨r.toArray⟩ := by
  apply ByteArray.ext
  rw [ByteArray.data_extract]
  apply Array.toList_inj.1
  rw [mk_len]
  simp
theorem scan_cut : ∀ (l : List ByteArray) (pre : List UInt8) (b : Nat), (∀ t ∈ l, t.size ≤ 9223372036854775807) →
    sc ⟨(pre ++ (PKl l).take b).toArray⟩ pre.length = (l.take (cnt l b), pre.length + (PKl (l.take (cnt l b))).length, if (PKl (l.take (cnt l b))).length = min b (PKl l).length then 0 else 2)
  | [], pre, b, _ => by
    have e : (PKl []).take b = [] := by simp [PKl]
    rw [e, List.append_nil, sc_end (by rw [mk_len]; omega)]
    simp [cnt, PKl]
  | t :: l, pre, b, ht => by
    have h0 := ht t (by simp)
    have hk : 0 < (pk t).size := by rw [pk_size]; omega
    rw [PKl_cons]
    by_cases hb : (pk t).size ≤ b
    · have e : ((pk t).data.toList ++ PKl l).take b = (pk t).data.toList ++ (PKl l).take (b - (pk t).size) := by
        rw [List.take_append, List.take_of_length_le (by rw [len_l]; omega), len_l]
      rw [e, sc_one (n := (pk t).size) (t := t) (by rw [mk_len, List.length_append, List.length_append, len_l]; omega) (by rw [from_at, fr_pk t _ h0])]
      have ih := scan_cut l (pre ++ (pk t).data.toList) (b - (pk t).size) (fun s hs => ht s (by simp [hs]))
      rw [List.append_assoc, List.length_append, len_l] at ih
      rw [ih, cnt, if_pos hb, List.take_succ_cons, PKl_cons, List.length_append, List.length_append, len_l]
      simp only [Prod.mk.injEq, true_and]
      refine ⟨by omega, ?_⟩
      by_cases hq : (PKl (l.take (cnt l (b - (pk t).size)))).length = min (b - (pk t).size) (PKl l).length
      · rw [if_pos hq, if_pos (by omega)]
      · rw [if_neg hq, if_neg (by omega)]
    · have e : ((pk t).data.toList ++ PKl l).take b = (pk t).data.toList.take b := List.take_append_of_le_length (by rw [len_l]; omega)
      have ez : PKl [] = [] := rfl
      rw [e, cnt, if_neg hb, List.take_zero, ez, List.length_nil, List.length_append, len_l]
      by_cases h1 : b = 0
      · subst h1
        rw [List.take_zero, List.append_nil, sc_end (by rw [mk_len]; omega)]
        simp
      · have hc := fr_cut t b (by omega) h0
        obtain ⟨x, n, e2, h2⟩ := trip (fr ⟨((pk t).data.toList.take b).toArray⟩)
        rw [h2] at hc
        have hc' : e2 = 2 := hc
        subst hc'
        rw [sc_bad (t := x) (n := n) (e := 2) (by rw [mk_len, List.length_append, List.length_take, len_l]; omega) (by rw [from_at, h2]) (by omega), if_neg (by omega)]
        rfl
end Go.Proofs.YtjdmbkkdnonkkaaGreat.Fr

namespace Go.Proofs.YtjdmbkkdnonkkaaGreat.Wl
open Go.RowKit Tx Pm Dk Fr
set_option linter.unusedVariables false
def pL : ByteArray := ⟨#[118, 47, 108, 111, 103]⟩
def pT : ByteArray := ⟨#[118, 47, 108, 111, 103, 95, 116]⟩
theorem pL_tT : pL ++ tT = pT := by decide +kernel
def PK (l : List ByteArray) : ByteArray := ⟨(PKl l).toArray⟩
theorem PK_size (l : List ByteArray) : (PK l).size = (PKl l).length := by rw [PK, ByteArray.size, List.size_toArray]
theorem PK_snoc (l : List ByteArray) (r : ByteArray) : PK (l ++ [r]) = PK l ++ Fm.pk r := by
  apply ByteArray.ext
  apply Array.toList_inj.1
  rw [ByteArray.data_append, Array.toList_append]
  show PKl (l ++ [r]) = _
  rw [PKl_snoc]
  rfl
theorem PK_ext (l : List ByteArray) (k : Nat) : (PK l).extract 0 k = ⟨((PKl l).take k).toArray⟩ := by
  apply ByteArray.ext
  apply Array.toList_inj.1
  rw [ByteArray.data_extract, Array.toList_extract]
  simp [PK, List.extract_eq_take_drop]
theorem pk_le {r : ByteArray} (h : r.size ≤ 140737488351232) : (Fm.pk r).size ≤ 140737488351246 := by
  have := Wm.vb_len (x := r.size) (by omega)
  rw [Fm.pk_size]
  omega
theorem PKl_leB {B : Nat} : ∀ {l : List ByteArray}, (∀ r ∈ l, (Fm.pk r).size ≤ B) → (PKl l).length ≤ l.length * B
  | [], _ => Nat.zero_le _
  | r :: l, h => by
    have h1 := h r (by simp)
    have h2 := PKl_leB (l := l) (fun q hq => h q (by simp [hq]))
    rw [PKl_cons, List.length_append, Wm.len_l, List.length_cons, Nat.succ_mul]
    omega
theorem PK_le {l : List ByteArray} {n : Nat} (h : ∀ r ∈ l, r.size ≤ 140737488351232) (hl : l.length ≤ n) (hn : n ≤ 100) : (PK l).size ≤ 14073748835124600 := by
  rw [PK_size]
  have h1 := PKl_leB (B := 140737488351246) (fun r hr => pk_le (h r hr))
  exact Nat.le_trans h1 (Nat.le_trans (Nat.mul_le_mul_right _ (Nat.le_trans hl hn)) (by decide))
def dec (a : Int) : Int := if a > 0 then a - 1 else a
theorem dec_in {a : Int} (h : -1 ≤ a ∧ a ≤ 9223372036854775807) : -1 ≤ dec a ∧ dec a ≤ 9223372036854775807 := by unfold dec; split <;> omega
def J (t : ByteArray) (sn st sm : Nat) (a : Int) : St := ⟨[dirV, syn pL t sn], [], st, sm, a, false⟩
def Jd (t : ByteArray) (sn st sm : Nat) : St := ⟨[dirV, syn pL t sn], [], st, sm, -1, true⟩
def L1 (u t : ByteArray) (sn st sm : Nat) (a : Int) : St := ⟨[dirV, ⟨pL, false, u, t, true, false, sn⟩], [], st, sm, a, false⟩
def Ld (u t : ByteArray) (sn st sm : Nat) : St := ⟨[dirV, ⟨pL, false, u, t, true, false, sn⟩], [], st, sm, -1, true⟩
def W1 (t d : ByteArray) (sn tn st sm : Nat) (a : Int) (dn : Bool) : St := ⟨[dirV, syn pL t sn, raw pT d tn], [], st, sm, a, dn⟩
def W2 (t d : ByteArray) (sn tn st sm : Nat) (a : Int) (dn : Bool) : St := ⟨[dirV, syn pL t sn, syn pT d tn], [], st, sm, a, dn⟩
theorem done_open {l : List It} {R : List Rm} {st sm : Nat} {a : Int} {dn : Bool} (h : a ≠ 0) : done ⟨l, R, st, sm, a, dn⟩ = (0, ⟨l, R, st + 1, sm, dec a, dn⟩) := by
  unfold done
  rw [if_neg (by exact h)]
  rfl
theorem j_append {t y : ByteArray} {sn st sm : Nat} {a : Int} (ha : a ≠ 0) : appendS (J t sn st sm a) pL y = (0, L1 (t ++ y) t (sm + 1) (st + 1) (sm + 1) (dec a)) := by
  unfold appendS J
  have h1 : there ⟨[dirV, syn pL t sn], [], st, sm, a, false⟩ pL = 0 := by kernel_rfl
  rw [fits_none rfl, done_open ha, if_neg (by rw [h1]; decide), if_neg (by decide), if_neg (by show ¬ (0 ≠ 0); decide)]
  change (_ : Nat × St) = _
  kernel_rfl
theorem j_append0 {t y : ByteArray} {sn st sm : Nat} : appendS (J t sn st sm 0) pL y = (14, Jd t sn st sm) := by
  unfold appendS
  rw [fits_none rfl]
  kernel_rfl
theorem l_sync {u t : ByteArray} {sn st sm : Nat} {a : Int} (ha : a ≠ 0) : syncS (L1 u t sn st sm a) pL = (0, J u sn (st + 1) sm (dec a)) := by
  unfold syncS L1
  have h1 : there ⟨[dirV, ⟨pL, false, u, t, true, false, sn⟩], [], st, sm, a, false⟩ pL = 0 := by kernel_rfl
  rw [done_open ha, if_neg (by rw [h1]; decide), if_neg (by show ¬ (0 ≠ 0); decide)]
  change (_ : Nat × St) = _
  kernel_rfl
theorem l_sync0 {u t : ByteArray} {sn st sm : Nat} : syncS (L1 u t sn st sm 0) pL = (14, Ld u t sn st sm) := by
  unfold syncS
  kernel_rfl
theorem j_write {t d : ByteArray} {sn st sm : Nat} {a : Int} (ha : a ≠ 0) : writeS (J t sn st sm a) pT d = (0, W1 t d sn (sm + 1) (st + 1) (sm + 1) (dec a) false) := by
  unfold writeS J
  have h1 : first ⟨[dirV, syn pL t sn], [], st, sm, a, false⟩ pT 1 = 0 := by kernel_rfl
  have h2 : home [dirV, syn pL t sn] pT = true := by kernel_rfl
  have h3 : kind [dirV, syn pL t sn] pT = 0 := by kernel_rfl
  rw [fits_none rfl, done_open ha]
  rw [if_neg (by rw [h1]; decide), if_neg (by rw [h2]; decide), if_neg (by rw [h3]; decide), if_neg (by decide), if_neg (by show ¬ (0 ≠ 0); decide)]
  change (_ : Nat × St) = _
  kernel_rfl
theorem j_write0 {t d : ByteArray} {sn st sm : Nat} : writeS (J t sn st sm 0) pT d = (14, Jd t sn st sm) := by
  unfold writeS
  rw [fits_none rfl]
  kernel_rfl
theorem w_sync {t d : ByteArray} {sn tn st sm : Nat} {a : Int} (ha : a ≠ 0) : syncS (W1 t d sn tn st sm a false) pT = (0, W2 t d sn tn (st + 1) sm (dec a) false) := by
  unfold syncS W1
  have h1 : there ⟨[dirV, syn pL t sn, raw pT d tn], [], st, sm, a, false⟩ pT = 0 := by kernel_rfl
  rw [done_open ha, if_neg (by rw [h1]; decide), if_neg (by show ¬ (0 ≠ 0); decide)]
  change (_ : Nat × St) = _
  kernel_rfl
theorem w_sync0 {t d : ByteArray} {sn tn st sm : Nat} : syncS (W1 t d sn tn st sm 0 false) pT = (14, W1 t d sn tn st sm (-1) true) := by
  unfold syncS
  kernel_rfl
theorem w_rename {t d : ByteArray} {sn tn st sm : Nat} {a : Int} (ha : a ≠ 0) : renameS (W2 t d sn tn st sm a false) pT pL = (0, J d (sm + 1) (st + 1) (sm + 1) (dec a)) := by
  unfold renameS W2
  rw [fits_none rfl, done_open ha]
  kernel_rfl
theorem w_rename0 {t d : ByteArray} {sn tn st sm : Nat} : renameS (W2 t d sn tn st sm 0 false) pT pL = (14, W2 t d sn tn st sm (-1) true) := by
  unfold renameS
  rw [fits_none rfl]
  kernel_rfl
theorem j_restart (t : ByteArray) (sn st sm : Nat) (a loss : Int) (dn : Bool) : restartS ⟨[dirV, syn pL t sn], [], st, sm, a, dn⟩ loss = J t sn st sm (-1) := by
  unfold restartS
  kernel_rfl
theorem w2_restart (t d : ByteArray) (sn tn st sm : Nat) (a loss : Int) (dn : Bool) : restartS (W2 t d sn tn st sm a dn) loss = W2 t d sn tn st sm (-1) false := by
  unfold restartS W2
  kernel_rfl
theorem w1_restart (t : ByteArray) (sn tn st sm : Nat) (a loss : Int) (dn : Bool) : restartS (W1 t ⟨#[]⟩ sn tn st sm a dn) loss = W2 t ⟨#[]⟩ sn (sm + 1) st (sm + 1) (-1) false := by
  obtain ⟨c, hc, hc2⟩ := lose_new (mix (u64 loss) (0 + 1)) pT ⟨#[]⟩ ⟨#[]⟩ tn
  have h0 : c = ⟨#[]⟩ := by
    rcases hc2 with h | ⟨h, h2⟩
    · exact h
    · rw [h2]
      apply ByteArray.ext
      simp
  unfold restartS W1 W2
  simp only
  rw [restart_synced _ rfl, restart_synced _ rfl, restart_loose _ rfl]
  unfold raw
  rw [lose_stamp, hc, h0]
  simp only [restartL]
theorem l_restart (u t : ByteArray) (sn st sm : Nat) (a loss : Int) (dn : Bool) (h : t.size ≤ u.size) : ∃ c : ByteArray, restartS ⟨[dirV, ⟨pL, false, u, t, true, false, sn⟩], [], st, sm, a, dn⟩ loss = J c (sm + 1) st (sm + 1) (-1) ∧ t.size ≤ c.size ∧ c.size ≤ u.size ∧ c = u.extract 0 c.size := by
  obtain ⟨c, hc, h1, h2, h3⟩ := lose_old (mix (u64 loss) (0 + 1)) pL t u sn h
  refine ⟨c, ?_, h1, h2, h3⟩
  unfold restartS J
  simp only
  rw [restart_synced _ rfl, restart_loose _ rfl, lose_stamp, hc]
  simp only [restartL]
theorem j_kind (t : ByteArray) (sn st sm : Nat) (a : Int) : kind (J t sn st sm a).L pL = 2 := by kernel_rfl
theorem j_read (t : ByteArray) (sn st sm : Nat) (a : Int) : readS (J t sn st sm a) pL = (t, 0) := by kernel_rfl
theorem j_old (t : ByteArray) (sn st sm : Nat) (a : Int) : (old (J t sn st sm a).L pL).data = t := by kernel_rfl
theorem w2_kind (t d : ByteArray) (sn tn st sm : Nat) (a : Int) : kind (W2 t d sn tn st sm a false).L pL = 2 := by kernel_rfl
theorem w2_read (t d : ByteArray) (sn tn st sm : Nat) (a : Int) : readS (W2 t d sn tn st sm a false) pL = (t, 0) := by kernel_rfl
theorem j_add {t r : ByteArray} {sn st sm : Nat} {a : Int} {R : List ByteArray} {dm : Bool} (h1 : a ≠ 0) (h2 : dec a ≠ 0) : addS ⟨J t sn st sm a, R, dm⟩ pL r = (0, ⟨J (t ++ Fm.pk r) (sm + 1) (st + 1 + 1) (sm + 1) (dec (dec a)), R ++ [r], dm⟩) := by
  unfold addS
  simp only [j_append h1, l_sync h2]
  rfl
theorem j_add0 {t r : ByteArray} {sn st sm : Nat} {R : List ByteArray} {dm : Bool} : addS ⟨J t sn st sm 0, R, dm⟩ pL r = (14, ⟨Jd t sn st sm, R, dm⟩) := by
  unfold addS
  simp only [j_append0]
  rfl
theorem j_add1 {t r : ByteArray} {sn st sm : Nat} {a : Int} {R : List ByteArray} {dm : Bool} (h1 : a ≠ 0) (h2 : dec a = 0) : addS ⟨J t sn st sm a, R, dm⟩ pL r = (14, ⟨Ld (t ++ Fm.pk r) t (sm + 1) (st + 1) (sm + 1), R, dm⟩) := by
  unfold addS
  simp only [j_append h1, h2, l_sync0]
  rfl
theorem j_fill {t d : ByteArray} {sn st sm : Nat} {a : Int} (h1 : a ≠ 0) (h2 : dec a ≠ 0) (h3 : dec (dec a) ≠ 0) : fillS (J t sn st sm a) pL d = (0, J d (sm + 1 + 1) (st + 1 + 1 + 1) (sm + 1 + 1) (dec (dec (dec a)))) := by
  unfold fillS
  rw [pL_tT, j_write h1]
  simp only [w_sync h2, w_rename h3]
  rfl
theorem j_fill0 {t d : ByteArray} {sn st sm : Nat} : fillS (J t sn st sm 0) pL d = (14, Jd t sn st sm) := by
  unfold fillS
  rw [pL_tT, j_write0]
  rfl
theorem j_fill1 {t d : ByteArray} {sn st sm : Nat} {a : Int} (h1 : a ≠ 0) (h2 : dec a = 0) : fillS (J t sn st sm a) pL d = (14, W1 t d sn (sm + 1) (st + 1) (sm + 1) (-1) true) := by
  unfold fillS
  rw [pL_tT, j_write h1]
  simp only [h2, w_sync0]
  rfl
theorem j_fill2 {t d : ByteArray} {sn st sm : Nat} {a : Int} (h1 : a ≠ 0) (h2 : dec a ≠ 0) (h3 : dec (dec a) = 0) : fillS (J t sn st sm a) pL d = (14, W2 t d sn (sm + 1) (st + 1 + 1) (sm + 1) (-1) true) := by
  unfold fillS
  rw [pL_tT, j_write h1]
  simp only [w_sync h2, h3, w_rename0]
  rfl
theorem new_open : openS a1S pL = (0, ⟨J ⟨#[]⟩ 2 4 2 (-1), [], false⟩) := by
  have hk : kind a1S.L pL = 0 := by decide +kernel
  have hw : writeS a1S pT ⟨#[]⟩ = (0, ⟨[dirV, raw pT ⟨#[]⟩ 1], [], 2, 1, -1, false⟩) := by
    unfold writeS
    rw [fits_none (by decide +kernel)]
    kernel_rfl
  have hs : syncS ⟨[dirV, raw pT ⟨#[]⟩ 1], [], 2, 1, -1, false⟩ pT = (0, ⟨[dirV, syn pT ⟨#[]⟩ 1], [], 3, 1, -1, false⟩) := by kernel_rfl
  have hr : renameS ⟨[dirV, syn pT ⟨#[]⟩ 1], [], 3, 1, -1, false⟩ pT pL = (0, J ⟨#[]⟩ 2 4 2 (-1)) := by
    unfold renameS
    rw [fits_none rfl]
    kernel_rfl
  have hf : fillS a1S pL ⟨#[]⟩ = (0, J ⟨#[]⟩ 2 4 2 (-1)) := by
    unfold fillS
    rw [pL_tT, hw]
    simp only [hs, hr]
    rfl
  unfold openS
  rw [if_pos hk, hf]
theorem open_whole {t : ByteArray} {s : St} {R : List ByteArray} {g : Nat} (hk : kind s.L pL = 2) (hr : readS s pL = (t, 0)) (h : Fm.sc t 0 = (R, g, 0)) : openS s pL = (0, ⟨s, R, false⟩) := by
  unfold openS
  rw [if_neg (by rw [hk]; decide), hr]
  simp only [h]
  rfl
theorem open_cut {t : ByteArray} {sn st sm : Nat} {R : List ByteArray} {g e : Nat} (h : Fm.sc t 0 = (R, g, e)) (he : e ≠ 0) :
    openS (J t sn st sm (-1)) pL = (0, ⟨J (t.extract 0 g) (sm + 1 + 1) (st + 1 + 1 + 1) (sm + 1 + 1) (-1), R, bad e⟩) := by
  unfold openS
  rw [if_neg (by rw [j_kind]; decide), j_read]
  simp only [h]
  rw [if_neg (by show ¬ (0 ≠ 0); decide), if_neg he, j_fill (by decide) (by decide) (by decide)]
  rfl
theorem scan_PK (l : List ByteArray) (b : Nat) (h : ∀ r ∈ l, r.size ≤ 140737488351232) : Fm.sc ((PK l).extract 0 b) 0 = (l.take (cnt l b), (PKl (l.take (cnt l b))).length, if (PKl (l.take (cnt l b))).length = min b (PKl l).length then 0 else 2) := by
  have := scan_cut l [] b (fun t ht => by have := h t ht; omega)
  simp only [List.nil_append, List.length_nil, Nat.zero_add] at this
  rw [PK_ext]
  exact this
theorem scan_all (l : List ByteArray) (h : ∀ r ∈ l, r.size ≤ 140737488351232) : Fm.sc (PK l) 0 = (l, (PKl l).length, 0) := by
  have h1 := scan_PK l (PKl l).length h
  have e : (PK l).extract 0 (PKl l).length = PK l := by
    rw [PK_ext, List.take_length]
    rfl
  rw [e, cnt_all l _ (Nat.le_refl _), List.take_length, if_pos (by omega)] at h1
  exact h1
theorem PK_prefix (l : List ByteArray) (k b : Nat) (h : (PKl (l.take k)).length ≤ b) : ((PK l).extract 0 b).extract 0 (PKl (l.take k)).length = PK (l.take k) := by
  rw [PK_ext]
  apply ByteArray.ext
  apply Array.toList_inj.1
  rw [ByteArray.data_extract, Array.toList_extract]
  simp only [List.extract_eq_take_drop, List.drop_zero, Nat.sub_zero, List.take_take]
  rw [Nat.min_eq_left h]
  have e : PKl l = PKl (l.take k) ++ PKl (l.drop k) := by
    unfold PKl
    rw [← List.flatten_append, ← List.map_append, List.take_append_drop]
  rw [e, List.take_left]
  rfl
theorem open_torn (l : List ByteArray) (r : ByteArray) (c : ByteArray) (sn st sm : Nat) (h : ∀ x ∈ l ++ [r], x.size ≤ 140737488351232) (h1 : (PK l).size ≤ c.size) (h2 : c = (PK (l ++ [r])).extract 0 c.size) :
    ∃ (R : List ByteArray) (sn' st' sm' : Nat), (R = l ∨ R = l ++ [r]) ∧ openS (J c sn st sm (-1)) pL = (0, ⟨J (PK R) sn' st' sm' (-1), R, false⟩) ∧ st' ≤ st + 3 ∧ sm' ≤ sm + 2 := by
  have hs := scan_PK (l ++ [r]) c.size h
  rw [← h2, cnt_snoc] at hs
  rw [PK_size] at h1
  by_cases hb : (PKl (l ++ [r])).length ≤ c.size
  · rw [if_pos hb, show l.length + 1 = (l ++ [r]).length by simp, List.take_length, if_pos (by omega)] at hs
    have e : c = PK (l ++ [r]) := by
      have e2 : (PK (l ++ [r])).extract 0 c.size = PK (l ++ [r]) := by
        rw [PK_ext, List.take_of_length_le hb]
        rfl
      rw [e2] at h2
      exact h2
    exact ⟨l ++ [r], sn, st, sm, .inr rfl, by rw [open_whole (j_kind _ _ _ _ _) (j_read _ _ _ _ _) hs, e], by omega, by omega⟩
  · rw [if_neg hb, cnt_all l _ h1, List.take_left] at hs
    by_cases he : (PKl l).length = min c.size (PKl (l ++ [r])).length
    · rw [if_pos he] at hs
      have hc : c.size = (PKl l).length := by omega
      have e : c = PK l := by
        have e2 := PK_prefix (l ++ [r]) l.length c.size (by rw [List.take_left]; exact h1)
        rw [List.take_left, ← h2] at e2
        rw [← e2, ← hc]
        exact (Wm.extract_all c).symm
      exact ⟨l, sn, st, sm, .inl rfl, by rw [open_whole (j_kind _ _ _ _ _) (j_read _ _ _ _ _) hs, ← e], by omega, by omega⟩
    · rw [if_neg he] at hs
      have e2 := PK_prefix (l ++ [r]) l.length c.size (by rw [List.take_left]; exact h1)
      rw [List.take_left, ← h2] at e2
      exact ⟨l, _, _, _, .inl rfl, by rw [open_cut hs (by decide), e2]; rfl, by omega, by omega⟩
end Go.Proofs.YtjdmbkkdnonkkaaGreat.Wl

namespace Go.Proofs.YtjdmbkkdnonkkaaGreat.Dk
open Go.RowKit Tx Pm Pl Pr
set_option linter.unusedVariables false
set_option maxRecDepth 100000 in
set_option maxHeartbeats 2000000 in
theorem regRestart (ops : Array Oper) (hops : ops = (Rg.opsOf Tryz.f24 7)) (id : Nat) (b bi bl j pick : Nat) (l loss K T M : Int) (s s2 : St) (p X Y Z : ByteArray) {u2 u3 u4 u5 u8 u9 u10 u11 u12 u13 u14 u15 u16 u17 u18 u19 u20 u21 u22 u23 u24 u25 u26 u27 u28 u29 u30 u31 u32 u33 u34 u35 u36 u37 u38 u39 : Value} (w : World) (h : Ia b bi bl l w s)
    (hlk : ∀ W, Ia b bi bl l W s → (Instr.lookup 111 (.map (some bi)) (.string p) false).run Tryz.prog W = .ok (.agg #[.int .i64 K, .string X, .string Y, .int .i64 T, .int .i64 M]) W)
    (hadd : IntKind.i64.wrap ((j : Int) + 1) = ((j + 1 : Nat) : Int))
    (cm : ∀ W, Calls Tryz.prog 80 #[.int .i64 loss, .int .i64 ((j + 1 : Nat) : Int)] W fun e w' => e = .returned (.int .u64 (pick : Nat)) ∧ w' = W)
    (cl : ∀ W, Calls Tryz.prog 79 #[.agg #[.int .i64 K, .string X, .string Y, .int .i64 T, .int .i64 M], .int .u64 (pick : Nat)] W fun e w' => e = .returned (.agg #[.int .i64 K, .string Z, .string Z, .int .i64 0, .int .i64 M]) ∧ Below W.heap.size W w')
    (cs : ∀ W, Ia b bi bl l W s → Calls Tryz.prog 78 #[.pointer (some ⟨b, 0, none⟩), .string p, .agg #[.int .i64 K, .string Z, .string Z, .int .i64 0, .int .i64 M]] W fun e w' => e = .returned (.tuple #[]) ∧ Ip b bi bl W s2 w') :
    (Code.region id ops true).wp Tryz.prog (Rg.Only fun a' w' => a' = ⟨#[(.pointer (some ⟨b, 0, none⟩)), (.int .i64 loss), u2, u3, u4, u5, (.int .i64 (j : Nat)), (.string p), u8, u9, u10, u11, u12, u13, u14, u15, u16, u17, u18, (.pointer (some ⟨b, 0, none⟩)), (.string p), (.pointer (some ⟨b, 0, none⟩)), (.pointer (some ⟨b, 0, none⟩)), (.pointer (some ⟨b, 0, none⟩)), (.map (some bi)), (.string p), (.agg #[.int .i64 K, .string X, .string Y, .int .i64 T, .int .i64 M]), (.int .i64 loss), (.int .i64 (j : Nat)), (.int .i64 ((j + 1 : Nat) : Int)), (.int .u64 (pick : Nat)), (.agg #[.int .i64 K, .string Z, .string Z, .int .i64 0, .int .i64 M]), (.tuple #[]), u33, u34, u35, u36, u37, u38, u39], []⟩ ∧ Ip b bi bl w s2 w') ⟨#[(.pointer (some ⟨b, 0, none⟩)), (.int .i64 loss), u2, u3, u4, u5, (.int .i64 (j : Nat)), (.string p), u8, u9, u10, u11, u12, u13, u14, u15, u16, u17, u18, u19, u20, u21, u22, u23, u24, u25, u26, u27, u28, u29, u30, u31, u32, u33, u34, u35, u36, u37, u38, u39], []⟩ w := by
  subst hops
  have hNS : Region.noSelect (Rg.opsOf Tryz.f24 7) = true := by kernel_rfl
  have h0 : Ia b bi bl l w.drew s := h.below (Below.refl _ _).drew
  refine wp_region_held_drew (S := fun W => ∃ l2 s9, Ia b bi bl l2 W s9) (by kernel_rfl) ⟨l, s, h0⟩ (fun hHeld => ?_)
  rw [show (Rg.opsOf Tryz.f24 7).size = 14 by kernel_rfl]
  refine Rg.take (ops := (Rg.opsOf Tryz.f24 7)) 0 (some 19) ((.pointer (some ⟨b, 0, none⟩))) hNS (by kernel_rfl) (by kernel_rfl) (by kernel_rfl) (by kernel_rfl) (by kernel_rfl) hHeld (Rg.y_move (x := (Operand.tmp 0)) (Or.inl (by kernel_rfl)) (by kernel_rfl)) ?_
  refine Rg.take (ops := (Rg.opsOf Tryz.f24 7)) 1 (some 20) ((.string p)) hNS (by kernel_rfl) (by kernel_rfl) (by kernel_rfl) (by kernel_rfl) (by kernel_rfl) hHeld (Rg.y_move (x := (Operand.tmp 7)) (Or.inl (by kernel_rfl)) (by kernel_rfl)) ?_
  refine Rg.take (ops := (Rg.opsOf Tryz.f24 7)) 2 (some 21) ((.pointer (some ⟨b, 0, none⟩))) hNS (by kernel_rfl) (by kernel_rfl) (by kernel_rfl) (by kernel_rfl) (by kernel_rfl) hHeld (Rg.y_move (x := (Operand.tmp 0)) (Or.inl (by kernel_rfl)) (by kernel_rfl)) ?_
  refine Rg.take (ops := (Rg.opsOf Tryz.f24 7)) 3 (some 22) ((.pointer (some ⟨b, 0, none⟩))) hNS (by kernel_rfl) (by kernel_rfl) (by kernel_rfl) (by kernel_rfl) (by kernel_rfl) hHeld (Rg.y_nil (x := (Operand.tmp 21)) (by kernel_rfl) (by kernel_rfl)) ?_
  refine Rg.take (ops := (Rg.opsOf Tryz.f24 7)) 4 (some 23) ((.pointer (some ⟨b, 0, none⟩))) hNS (by kernel_rfl) (by kernel_rfl) (by kernel_rfl) (by kernel_rfl) (by kernel_rfl) hHeld (Rg.y_field (T := 114) (k := 0) (x := (Operand.tmp 22)) (vx := (.pointer (some ⟨b, 0, none⟩))) (by kernel_rfl) (by kernel_rfl) ?_) ?_
  · (intro w hSw; clear hSw; go_simp)
  refine Rg.take (ops := (Rg.opsOf Tryz.f24 7)) 5 (some 24) ((.map (some bi))) hNS (by kernel_rfl) (by kernel_rfl) (by kernel_rfl) (by kernel_rfl) (by kernel_rfl) hHeld (Rg.y_load (T := 111) (x := (Operand.tmp 23)) (vx := (.pointer (some ⟨b, 0, none⟩))) (by kernel_rfl) (by kernel_rfl) ?_) ?_
  · (intro w hSw; obtain ⟨_, _, hSw⟩ := hSw; have c0 := hSw.cell.1; clear hSw; go_simp)
  refine Rg.take (ops := (Rg.opsOf Tryz.f24 7)) 6 (some 25) ((.string p)) hNS (by kernel_rfl) (by kernel_rfl) (by kernel_rfl) (by kernel_rfl) (by kernel_rfl) hHeld (Rg.y_move (x := (Operand.tmp 7)) (Or.inl (by kernel_rfl)) (by kernel_rfl)) ?_
  refine Rg.take (ops := (Rg.opsOf Tryz.f24 7)) 8 (some 27) ((.int .i64 loss)) hNS (by kernel_rfl) (by kernel_rfl) (by kernel_rfl) (by kernel_rfl) (by kernel_rfl) hHeld (Rg.y_move (x := (Operand.tmp 1)) (Or.inl (by kernel_rfl)) (by kernel_rfl)) ?_
  refine Rg.take (ops := (Rg.opsOf Tryz.f24 7)) 9 (some 28) ((.int .i64 (j : Nat))) hNS (by kernel_rfl) (by kernel_rfl) (by kernel_rfl) (by kernel_rfl) (by kernel_rfl) hHeld (Rg.y_move (x := (Operand.tmp 6)) (Or.inl (by kernel_rfl)) (by kernel_rfl)) ?_
  refine Rg.take (ops := (Rg.opsOf Tryz.f24 7)) 10 (some 29) ((.int .i64 ((j + 1 : Nat) : Int))) hNS (by kernel_rfl) (by kernel_rfl) (by kernel_rfl) (by kernel_rfl) (by kernel_rfl) hHeld (Rg.y_bin (b := BinOp.add) (T := 3) (R' := 3) (x := (Operand.tmp 28)) (y := (Operand.const (Value.int IntKind.i64 1))) (vx := (.int .i64 (j : Nat))) (vy := (Value.int IntKind.i64 1)) (by kernel_rfl) (by kernel_rfl) (by kernel_rfl) ?_) ?_
  · (intro w hSw; clear hSw; go_simp <;> exact hadd)
  refine Rg.two (ops := (Rg.opsOf Tryz.f24 7)) (i := 7) (j := 11) (by kernel_rfl) ?_ ?_
  · refine Rg.op_look (ops := (Rg.opsOf Tryz.f24 7)) 7 (some 26) (T := 111) (x := (Operand.tmp 24)) (y := (Operand.tmp 25)) (c := false) (vx := (.map (some bi))) (vy := (.string p)) (v := (.agg #[.int .i64 K, .string X, .string Y, .int .i64 T, .int .i64 M])) (by kernel_rfl) (by kernel_rfl) (by kernel_rfl) (by kernel_rfl) (by kernel_rfl) (by kernel_rfl) ?_ hHeld ?_
    · (exact hlk _ h0)
    refine Rg.call (ops := (Rg.opsOf Tryz.f24 7)) (fn := Tryz.f80) (xs := #[Operand.tmp 27, Operand.tmp 29]) (ats := #[3, 3]) 11 (some 30) 80 #[(.int .i64 loss), (.int .i64 ((j + 1 : Nat) : Int))] (by kernel_rfl) (by kernel_rfl) (by kernel_rfl) (by kernel_rfl) (by kernel_rfl) Tryz.func80 (by kernel_rfl) (by kernel_rfl) (by kernel_rfl) ?_
    refine (cm _).mono ?_
    rintro e w5 ⟨rfl, rfl⟩
    refine ⟨_, rfl, hHeld, fun hHeld => ?_⟩
    refine Rg.call (ops := (Rg.opsOf Tryz.f24 7)) (fn := Tryz.f79) (xs := #[Operand.tmp 26, Operand.tmp 30]) (ats := #[117, 121]) 12 (some 31) 79 #[(.agg #[.int .i64 K, .string X, .string Y, .int .i64 T, .int .i64 M]), (.int .u64 (pick : Nat))] (by kernel_rfl) (by kernel_rfl) (by kernel_rfl) (by kernel_rfl) (by kernel_rfl) Tryz.func79 (by kernel_rfl) (by kernel_rfl) (by kernel_rfl) ?_
    refine (cl _).mono ?_
    rintro e w6 ⟨rfl, hb6⟩
    refine ⟨_, rfl, ⟨l, s, h0.below hb6⟩, fun hHeld => ?_⟩
    refine Rg.call (ops := (Rg.opsOf Tryz.f24 7)) (fn := Tryz.f78) (xs := #[Operand.tmp 19, Operand.tmp 20, Operand.tmp 31]) (ats := #[23, 9, 117]) 13 (some 32) 78 #[(.pointer (some ⟨b, 0, none⟩)), (.string p), (.agg #[.int .i64 K, .string Z, .string Z, .int .i64 0, .int .i64 M])] (by kernel_rfl) (by kernel_rfl) (by kernel_rfl) (by kernel_rfl) (by kernel_rfl) Tryz.func78 (by kernel_rfl) (by kernel_rfl) (by kernel_rfl) ?_
    refine (cs _ (h0.below hb6)).mono ?_
    rintro e w7 ⟨rfl, h7⟩
    refine ⟨_, rfl, ⟨_, _, h7.choose_spec.1⟩, fun hHeld => ?_⟩
    refine Rg.done (ops := (Rg.opsOf Tryz.f24 7)) (by kernel_rfl) ?_
    exact ⟨by kernel_rfl, Ip.after (below_call (Below.refl _ w).drew hb6) h7⟩
  · refine Rg.op_call (ops := (Rg.opsOf Tryz.f24 7)) (fn := Tryz.f80) (xs := #[Operand.tmp 27, Operand.tmp 29]) (ats := #[3, 3]) 11 (some 30) 80 #[(.int .i64 loss), (.int .i64 ((j + 1 : Nat) : Int))] (by kernel_rfl) (by kernel_rfl) (by kernel_rfl) (by kernel_rfl) Tryz.func80 (by kernel_rfl) (by kernel_rfl) (by kernel_rfl) ?_
    refine (cm _).mono ?_
    rintro e w5 ⟨rfl, rfl⟩
    refine ⟨_, rfl, hHeld, fun hHeld => ?_⟩
    refine Rg.one (ops := (Rg.opsOf Tryz.f24 7)) (i := 7) (by kernel_rfl) ?_
    refine Rg.op_look (ops := (Rg.opsOf Tryz.f24 7)) 7 (some 26) (T := 111) (x := (Operand.tmp 24)) (y := (Operand.tmp 25)) (c := false) (vx := (.map (some bi))) (vy := (.string p)) (v := (.agg #[.int .i64 K, .string X, .string Y, .int .i64 T, .int .i64 M])) (by kernel_rfl) (by kernel_rfl) (by kernel_rfl) (by kernel_rfl) (by kernel_rfl) (by kernel_rfl) ?_ hHeld ?_
    · (exact hlk _ h0)
    refine Rg.call (ops := (Rg.opsOf Tryz.f24 7)) (fn := Tryz.f79) (xs := #[Operand.tmp 26, Operand.tmp 30]) (ats := #[117, 121]) 12 (some 31) 79 #[(.agg #[.int .i64 K, .string X, .string Y, .int .i64 T, .int .i64 M]), (.int .u64 (pick : Nat))] (by kernel_rfl) (by kernel_rfl) (by kernel_rfl) (by kernel_rfl) (by kernel_rfl) Tryz.func79 (by kernel_rfl) (by kernel_rfl) (by kernel_rfl) ?_
    refine (cl _).mono ?_
    rintro e w6 ⟨rfl, hb6⟩
    refine ⟨_, rfl, ⟨l, s, h0.below hb6⟩, fun hHeld => ?_⟩
    refine Rg.call (ops := (Rg.opsOf Tryz.f24 7)) (fn := Tryz.f78) (xs := #[Operand.tmp 19, Operand.tmp 20, Operand.tmp 31]) (ats := #[23, 9, 117]) 13 (some 32) 78 #[(.pointer (some ⟨b, 0, none⟩)), (.string p), (.agg #[.int .i64 K, .string Z, .string Z, .int .i64 0, .int .i64 M])] (by kernel_rfl) (by kernel_rfl) (by kernel_rfl) (by kernel_rfl) (by kernel_rfl) Tryz.func78 (by kernel_rfl) (by kernel_rfl) (by kernel_rfl) ?_
    refine (cs _ (h0.below hb6)).mono ?_
    rintro e w7 ⟨rfl, h7⟩
    refine ⟨_, rfl, ⟨_, _, h7.choose_spec.1⟩, fun hHeld => ?_⟩
    refine Rg.done (ops := (Rg.opsOf Tryz.f24 7)) (by kernel_rfl) ?_
    exact ⟨by kernel_rfl, Ip.after (below_call (Below.refl _ w).drew hb6) h7⟩
set_option maxRecDepth 100000 in
set_option maxHeartbeats 2000000 in
theorem regRot (ops : Array Oper) (hops : ops = (Rg.opsOf Tryz.f26 5)) (id : Nat) (bx : Nat) (X Y TX TY : ByteArray) (K T M bit : Int) {u0 u1 u3 u4 u5 u6 u7 u9 u10 u11 u12 u13 u14 u15 u16 u17 u18 u19 u20 u21 u22 u23 u24 u25 u26 u27 u28 u29 u30 u31 u32 u33 u34 : Value} (w : World) (hbox : Box5 w bx K X Y T M) (hwarm : ∀ W, Below w.heap.size w W → ∀ k, W.frozen? ⟨bx, k, none⟩ = false)
    (ct1 : ∀ W, Calls Tryz.prog 84 #[.string X, .int .i64 bit] W fun e w' => e = .returned (.string TX) ∧ Below W.heap.size W w')
    (ct2 : ∀ W, Calls Tryz.prog 84 #[.string Y, .int .i64 bit] W fun e w' => e = .returned (.string TY) ∧ Below W.heap.size W w') :
    (Code.region id ops true).wp Tryz.prog (Rg.Only fun a' w' => a' = ⟨#[u0, u1, (.int .i64 bit), u3, u4, u5, u6, u7, (.pointer (some ⟨bx, 0, none⟩)), u9, u10, u11, u12, u13, u14, u15, u16, u17, u18, u19, u20, (.pointer (some ⟨bx, 1, none⟩)), (.string X), (.int .i64 bit), (.string TX), (.pointer (some ⟨bx, 2, none⟩)), (.string Y), (.int .i64 bit), (.string TY), (.pointer (some ⟨bx, 1, none⟩)), (.pointer (some ⟨bx, 2, none⟩)), u31, u32, u33, u34], []⟩ ∧ ∃ w4, Below w.heap.size w w4 ∧ w' = (w4.setCell ⟨bx, 1, none⟩ (.string TX)).setCell ⟨bx, 2, none⟩ (.string TY)) ⟨#[u0, u1, (.int .i64 bit), u3, u4, u5, u6, u7, (.pointer (some ⟨bx, 0, none⟩)), u9, u10, u11, u12, u13, u14, u15, u16, u17, u18, u19, u20, u21, u22, u23, u24, u25, u26, u27, u28, u29, u30, u31, u32, u33, u34], []⟩ w := by
  subst hops
  have hNS : Region.noSelect (Rg.opsOf Tryz.f26 5) = true := by kernel_rfl
  have hBd : Below w.heap.size w w.drew := (Below.refl _ _).drew
  obtain ⟨_, q0, q1, q2, q3, q4⟩ := hbox.below hBd
  refine wp_region_held_drew (S := fun _ => True) (by kernel_rfl) trivial (fun hHeld => ?_)
  rw [show (Rg.opsOf Tryz.f26 5).size = 12 by kernel_rfl]
  refine Rg.take (ops := (Rg.opsOf Tryz.f26 5)) 0 (some 21) ((.pointer (some ⟨bx, 1, none⟩))) hNS (by kernel_rfl) (by kernel_rfl) (by kernel_rfl) (by kernel_rfl) (by kernel_rfl) hHeld (Rg.y_field (T := 117) (k := 1) (x := (Operand.tmp 8)) (vx := (.pointer (some ⟨bx, 0, none⟩))) (by kernel_rfl) (by kernel_rfl) ?_) ?_
  · (intro w hSw; go_simp)
  refine Rg.take (ops := (Rg.opsOf Tryz.f26 5)) 2 (some 23) ((.int .i64 bit)) hNS (by kernel_rfl) (by kernel_rfl) (by kernel_rfl) (by kernel_rfl) (by kernel_rfl) hHeld (Rg.y_move (x := (Operand.tmp 2)) (Or.inl (by kernel_rfl)) (by kernel_rfl)) ?_
  refine Rg.take (ops := (Rg.opsOf Tryz.f26 5)) 4 (some 25) ((.pointer (some ⟨bx, 2, none⟩))) hNS (by kernel_rfl) (by kernel_rfl) (by kernel_rfl) (by kernel_rfl) (by kernel_rfl) hHeld (Rg.y_field (T := 117) (k := 2) (x := (Operand.tmp 8)) (vx := (.pointer (some ⟨bx, 0, none⟩))) (by kernel_rfl) (by kernel_rfl) ?_) ?_
  · (intro w hSw; go_simp)
  refine Rg.take (ops := (Rg.opsOf Tryz.f26 5)) 6 (some 27) ((.int .i64 bit)) hNS (by kernel_rfl) (by kernel_rfl) (by kernel_rfl) (by kernel_rfl) (by kernel_rfl) hHeld (Rg.y_move (x := (Operand.tmp 2)) (Or.inl (by kernel_rfl)) (by kernel_rfl)) ?_
  refine Rg.two (ops := (Rg.opsOf Tryz.f26 5)) (i := 1) (j := 5) (by kernel_rfl) ?_ ?_
  · refine Rg.op_load (ops := (Rg.opsOf Tryz.f26 5)) 1 (some 22) (T := 9) (x := (Operand.tmp 21)) (vx := (.pointer (some ⟨bx, 1, none⟩))) (v := (.string X)) (by kernel_rfl) (by kernel_rfl) (by kernel_rfl) (by kernel_rfl) (by kernel_rfl) ?_ hHeld ?_
    · go_simp
    refine Rg.two (ops := (Rg.opsOf Tryz.f26 5)) (i := 3) (j := 5) (by kernel_rfl) ?_ ?_
    · refine Rg.op_call (ops := (Rg.opsOf Tryz.f26 5)) (fn := Tryz.f84) (xs := #[Operand.tmp 22, Operand.tmp 23]) (ats := #[9, 3]) 3 (some 24) 84 #[(.string X), (.int .i64 bit)] (by kernel_rfl) (by kernel_rfl) (by kernel_rfl) (by kernel_rfl) Tryz.func84 (by kernel_rfl) (by kernel_rfl) (by kernel_rfl) ?_
      refine (ct1 _).mono ?_
      rintro e w3 ⟨rfl, hb3⟩
      obtain ⟨_, g0, g1, g2, g3, g4⟩ := hbox.below (below_call hBd hb3)
      refine ⟨_, rfl, trivial, fun hHeld => ?_⟩
      refine Rg.one (ops := (Rg.opsOf Tryz.f26 5)) (i := 5) (by kernel_rfl) ?_
      refine Rg.op_load (ops := (Rg.opsOf Tryz.f26 5)) 5 (some 26) (T := 9) (x := (Operand.tmp 25)) (vx := (.pointer (some ⟨bx, 2, none⟩))) (v := (.string Y)) (by kernel_rfl) (by kernel_rfl) (by kernel_rfl) (by kernel_rfl) (by kernel_rfl) ?_ hHeld ?_
      · go_simp
      refine Rg.take (ops := (Rg.opsOf Tryz.f26 5)) 8 (some 29) ((.pointer (some ⟨bx, 1, none⟩))) hNS (by kernel_rfl) (by kernel_rfl) (by kernel_rfl) (by kernel_rfl) (by kernel_rfl) hHeld (Rg.y_field (T := 117) (k := 1) (x := (Operand.tmp 8)) (vx := (.pointer (some ⟨bx, 0, none⟩))) (by kernel_rfl) (by kernel_rfl) ?_) ?_
      · (intro w hSw; go_simp)
      refine Rg.call (ops := (Rg.opsOf Tryz.f26 5)) (fn := Tryz.f84) (xs := #[Operand.tmp 26, Operand.tmp 27]) (ats := #[9, 3]) 7 (some 28) 84 #[(.string Y), (.int .i64 bit)] (by kernel_rfl) (by kernel_rfl) (by kernel_rfl) (by kernel_rfl) (by kernel_rfl) Tryz.func84 (by kernel_rfl) (by kernel_rfl) (by kernel_rfl) ?_
      refine (ct2 _).mono ?_
      rintro e w4 ⟨rfl, hb4⟩
      obtain ⟨_, m0, m1, m2, m3, m4⟩ := hbox.below (below_call (below_call hBd hb3) hb4)
      have hw4 := hwarm _ (below_call (below_call hBd hb3) hb4)
      refine ⟨_, rfl, trivial, fun hHeld => ?_⟩
      refine Rg.store (ops := (Rg.opsOf Tryz.f26 5)) 9 (T := 9) (x := (Operand.tmp 29)) (y := (Operand.tmp 24)) (vx := (.pointer (some ⟨bx, 1, none⟩))) (vy := (.string TX)) (w1 := w4.setCell ⟨bx, 1, none⟩ (.string TX)) (by kernel_rfl) (by kernel_rfl) (by kernel_rfl) (by kernel_rfl) (by kernel_rfl) (by kernel_rfl) (by kernel_rfl) ?_ (trivial) (fun hHeld => ?_)
      · go_simp
      refine Rg.take (ops := (Rg.opsOf Tryz.f26 5)) 10 (some 30) ((.pointer (some ⟨bx, 2, none⟩))) hNS (by kernel_rfl) (by kernel_rfl) (by kernel_rfl) (by kernel_rfl) (by kernel_rfl) hHeld (Rg.y_field (T := 117) (k := 2) (x := (Operand.tmp 8)) (vx := (.pointer (some ⟨bx, 0, none⟩))) (by kernel_rfl) (by kernel_rfl) ?_) ?_
      · (intro w hSw; go_simp)
      refine Rg.store (ops := (Rg.opsOf Tryz.f26 5)) 11 (T := 9) (x := (Operand.tmp 30)) (y := (Operand.tmp 28)) (vx := (.pointer (some ⟨bx, 2, none⟩))) (vy := (.string TY)) (w1 := (w4.setCell ⟨bx, 1, none⟩ (.string TX)).setCell ⟨bx, 2, none⟩ (.string TY)) (by kernel_rfl) (by kernel_rfl) (by kernel_rfl) (by kernel_rfl) (by kernel_rfl) (by kernel_rfl) (by kernel_rfl) ?_ (trivial) (fun hHeld => ?_)
      · go_simp
      refine Rg.done (ops := (Rg.opsOf Tryz.f26 5)) (by kernel_rfl) ?_
      exact ⟨by kernel_rfl, w4, below_call (below_call hBd hb3) hb4, rfl⟩
    · refine Rg.op_load (ops := (Rg.opsOf Tryz.f26 5)) 5 (some 26) (T := 9) (x := (Operand.tmp 25)) (vx := (.pointer (some ⟨bx, 2, none⟩))) (v := (.string Y)) (by kernel_rfl) (by kernel_rfl) (by kernel_rfl) (by kernel_rfl) (by kernel_rfl) ?_ hHeld ?_
      · go_simp
      refine Rg.call (ops := (Rg.opsOf Tryz.f26 5)) (fn := Tryz.f84) (xs := #[Operand.tmp 22, Operand.tmp 23]) (ats := #[9, 3]) 3 (some 24) 84 #[(.string X), (.int .i64 bit)] (by kernel_rfl) (by kernel_rfl) (by kernel_rfl) (by kernel_rfl) (by kernel_rfl) Tryz.func84 (by kernel_rfl) (by kernel_rfl) (by kernel_rfl) ?_
      refine (ct1 _).mono ?_
      rintro e w3 ⟨rfl, hb3⟩
      obtain ⟨_, g0, g1, g2, g3, g4⟩ := hbox.below (below_call hBd hb3)
      refine ⟨_, rfl, trivial, fun hHeld => ?_⟩
      refine Rg.take (ops := (Rg.opsOf Tryz.f26 5)) 8 (some 29) ((.pointer (some ⟨bx, 1, none⟩))) hNS (by kernel_rfl) (by kernel_rfl) (by kernel_rfl) (by kernel_rfl) (by kernel_rfl) hHeld (Rg.y_field (T := 117) (k := 1) (x := (Operand.tmp 8)) (vx := (.pointer (some ⟨bx, 0, none⟩))) (by kernel_rfl) (by kernel_rfl) ?_) ?_
      · (intro w hSw; go_simp)
      refine Rg.call (ops := (Rg.opsOf Tryz.f26 5)) (fn := Tryz.f84) (xs := #[Operand.tmp 26, Operand.tmp 27]) (ats := #[9, 3]) 7 (some 28) 84 #[(.string Y), (.int .i64 bit)] (by kernel_rfl) (by kernel_rfl) (by kernel_rfl) (by kernel_rfl) (by kernel_rfl) Tryz.func84 (by kernel_rfl) (by kernel_rfl) (by kernel_rfl) ?_
      refine (ct2 _).mono ?_
      rintro e w4 ⟨rfl, hb4⟩
      obtain ⟨_, m0, m1, m2, m3, m4⟩ := hbox.below (below_call (below_call hBd hb3) hb4)
      have hw4 := hwarm _ (below_call (below_call hBd hb3) hb4)
      refine ⟨_, rfl, trivial, fun hHeld => ?_⟩
      refine Rg.store (ops := (Rg.opsOf Tryz.f26 5)) 9 (T := 9) (x := (Operand.tmp 29)) (y := (Operand.tmp 24)) (vx := (.pointer (some ⟨bx, 1, none⟩))) (vy := (.string TX)) (w1 := w4.setCell ⟨bx, 1, none⟩ (.string TX)) (by kernel_rfl) (by kernel_rfl) (by kernel_rfl) (by kernel_rfl) (by kernel_rfl) (by kernel_rfl) (by kernel_rfl) ?_ (trivial) (fun hHeld => ?_)
      · go_simp
      refine Rg.take (ops := (Rg.opsOf Tryz.f26 5)) 10 (some 30) ((.pointer (some ⟨bx, 2, none⟩))) hNS (by kernel_rfl) (by kernel_rfl) (by kernel_rfl) (by kernel_rfl) (by kernel_rfl) hHeld (Rg.y_field (T := 117) (k := 2) (x := (Operand.tmp 8)) (vx := (.pointer (some ⟨bx, 0, none⟩))) (by kernel_rfl) (by kernel_rfl) ?_) ?_
      · (intro w hSw; go_simp)
      refine Rg.store (ops := (Rg.opsOf Tryz.f26 5)) 11 (T := 9) (x := (Operand.tmp 30)) (y := (Operand.tmp 28)) (vx := (.pointer (some ⟨bx, 2, none⟩))) (vy := (.string TY)) (w1 := (w4.setCell ⟨bx, 1, none⟩ (.string TX)).setCell ⟨bx, 2, none⟩ (.string TY)) (by kernel_rfl) (by kernel_rfl) (by kernel_rfl) (by kernel_rfl) (by kernel_rfl) (by kernel_rfl) (by kernel_rfl) ?_ (trivial) (fun hHeld => ?_)
      · go_simp
      refine Rg.done (ops := (Rg.opsOf Tryz.f26 5)) (by kernel_rfl) ?_
      exact ⟨by kernel_rfl, w4, below_call (below_call hBd hb3) hb4, rfl⟩
  · refine Rg.op_load (ops := (Rg.opsOf Tryz.f26 5)) 5 (some 26) (T := 9) (x := (Operand.tmp 25)) (vx := (.pointer (some ⟨bx, 2, none⟩))) (v := (.string Y)) (by kernel_rfl) (by kernel_rfl) (by kernel_rfl) (by kernel_rfl) (by kernel_rfl) ?_ hHeld ?_
    · go_simp
    refine Rg.one (ops := (Rg.opsOf Tryz.f26 5)) (i := 1) (by kernel_rfl) ?_
    refine Rg.op_load (ops := (Rg.opsOf Tryz.f26 5)) 1 (some 22) (T := 9) (x := (Operand.tmp 21)) (vx := (.pointer (some ⟨bx, 1, none⟩))) (v := (.string X)) (by kernel_rfl) (by kernel_rfl) (by kernel_rfl) (by kernel_rfl) (by kernel_rfl) ?_ hHeld ?_
    · go_simp
    refine Rg.call (ops := (Rg.opsOf Tryz.f26 5)) (fn := Tryz.f84) (xs := #[Operand.tmp 22, Operand.tmp 23]) (ats := #[9, 3]) 3 (some 24) 84 #[(.string X), (.int .i64 bit)] (by kernel_rfl) (by kernel_rfl) (by kernel_rfl) (by kernel_rfl) (by kernel_rfl) Tryz.func84 (by kernel_rfl) (by kernel_rfl) (by kernel_rfl) ?_
    refine (ct1 _).mono ?_
    rintro e w3 ⟨rfl, hb3⟩
    obtain ⟨_, g0, g1, g2, g3, g4⟩ := hbox.below (below_call hBd hb3)
    refine ⟨_, rfl, trivial, fun hHeld => ?_⟩
    refine Rg.take (ops := (Rg.opsOf Tryz.f26 5)) 8 (some 29) ((.pointer (some ⟨bx, 1, none⟩))) hNS (by kernel_rfl) (by kernel_rfl) (by kernel_rfl) (by kernel_rfl) (by kernel_rfl) hHeld (Rg.y_field (T := 117) (k := 1) (x := (Operand.tmp 8)) (vx := (.pointer (some ⟨bx, 0, none⟩))) (by kernel_rfl) (by kernel_rfl) ?_) ?_
    · (intro w hSw; go_simp)
    refine Rg.call (ops := (Rg.opsOf Tryz.f26 5)) (fn := Tryz.f84) (xs := #[Operand.tmp 26, Operand.tmp 27]) (ats := #[9, 3]) 7 (some 28) 84 #[(.string Y), (.int .i64 bit)] (by kernel_rfl) (by kernel_rfl) (by kernel_rfl) (by kernel_rfl) (by kernel_rfl) Tryz.func84 (by kernel_rfl) (by kernel_rfl) (by kernel_rfl) ?_
    refine (ct2 _).mono ?_
    rintro e w4 ⟨rfl, hb4⟩
    obtain ⟨_, m0, m1, m2, m3, m4⟩ := hbox.below (below_call (below_call hBd hb3) hb4)
    have hw4 := hwarm _ (below_call (below_call hBd hb3) hb4)
    refine ⟨_, rfl, trivial, fun hHeld => ?_⟩
    refine Rg.store (ops := (Rg.opsOf Tryz.f26 5)) 9 (T := 9) (x := (Operand.tmp 29)) (y := (Operand.tmp 24)) (vx := (.pointer (some ⟨bx, 1, none⟩))) (vy := (.string TX)) (w1 := w4.setCell ⟨bx, 1, none⟩ (.string TX)) (by kernel_rfl) (by kernel_rfl) (by kernel_rfl) (by kernel_rfl) (by kernel_rfl) (by kernel_rfl) (by kernel_rfl) ?_ (trivial) (fun hHeld => ?_)
    · go_simp
    refine Rg.take (ops := (Rg.opsOf Tryz.f26 5)) 10 (some 30) ((.pointer (some ⟨bx, 2, none⟩))) hNS (by kernel_rfl) (by kernel_rfl) (by kernel_rfl) (by kernel_rfl) (by kernel_rfl) hHeld (Rg.y_field (T := 117) (k := 2) (x := (Operand.tmp 8)) (vx := (.pointer (some ⟨bx, 0, none⟩))) (by kernel_rfl) (by kernel_rfl) ?_) ?_
    · (intro w hSw; go_simp)
    refine Rg.store (ops := (Rg.opsOf Tryz.f26 5)) 11 (T := 9) (x := (Operand.tmp 30)) (y := (Operand.tmp 28)) (vx := (.pointer (some ⟨bx, 2, none⟩))) (vy := (.string TY)) (w1 := (w4.setCell ⟨bx, 1, none⟩ (.string TX)).setCell ⟨bx, 2, none⟩ (.string TY)) (by kernel_rfl) (by kernel_rfl) (by kernel_rfl) (by kernel_rfl) (by kernel_rfl) (by kernel_rfl) (by kernel_rfl) ?_ (trivial) (fun hHeld => ?_)
    · go_simp
    refine Rg.done (ops := (Rg.opsOf Tryz.f26 5)) (by kernel_rfl) ?_
    exact ⟨by kernel_rfl, w4, below_call (below_call hBd hb3) hb4, rfl⟩
end Go.Proofs.YtjdmbkkdnonkkaaGreat.Dk

namespace Go.Proofs.YtjdmbkkdnonkkaaGreat.Dk
open Go.RowKit Tx Pm
set_option linter.unusedVariables false
theorem div_nat (x d : Nat) : (x : Int) / (d : Int) = ((x / d : Nat) : Int) := (Int.natCast_ediv x d).symm
set_option maxRecDepth 100000 in
set_option maxHeartbeats 1000000 in
theorem iMix_any (loss : Int) (i : Nat) (w : World) (hl : -9223372036854775808 ≤ loss ∧ loss ≤ 9223372036854775807) (hi : i ≤ 2000000000) :
    Calls Tryz.prog 80 #[.int .i64 loss, .int .i64 (i : Nat)] w fun e w' => e = .returned (.int .u64 (mix (u64 loss) i : Nat)) ∧ w' = w := by
  go_enter Tryz.func80, Tryz.ntmps80
  go_wp2
  go_ret
  refine ⟨?_, rfl⟩
  have hA : IntKind.u64.wrap (IntKind.u64.wrap loss + IntKind.u64.wrap ((i : Int) * 11400714819323198485)) = ((mixA (u64 loss) i : Nat) : Int) := by
    have hu := u64_eq loss
    have hlt := u64_lt loss
    rw [hu]
    generalize u64 loss = a at hlt
    rw [IntKind.wrap_u64, IntKind.wrap_u64]
    unfold mixA
    omega
  have q1 := div_nat (mixA (u64 loss) i) 1073741824
  have x1 := xor_div (mixA (u64 loss) i) 1073741824 (mixA_lt _ i)
  have k1 := mul_nat (mixA (u64 loss) i ^^^ mixA (u64 loss) i / 1073741824) 13787848793156543929
  have q2 := div_nat (mixB (mixA (u64 loss) i)) 134217728
  have x2 := xor_div (mixB (mixA (u64 loss) i)) 134217728 (mixB_lt _)
  have k2 := mul_nat (mixB (mixA (u64 loss) i) ^^^ mixB (mixA (u64 loss) i) / 134217728) 10723151780598845931
  have q3 := div_nat (mixC (mixB (mixA (u64 loss) i))) 2147483648
  have x3 := xor_div (mixC (mixB (mixA (u64 loss) i))) 2147483648 (mixC_lt _)
  rw [show ((mixA (u64 loss) i ^^^ mixA (u64 loss) i / 1073741824) * 13787848793156543929 % 18446744073709551616) = mixB (mixA (u64 loss) i) from rfl] at k1
  rw [show ((mixB (mixA (u64 loss) i) ^^^ mixB (mixA (u64 loss) i) / 134217728) * 10723151780598845931 % 18446744073709551616) = mixC (mixB (mixA (u64 loss) i)) from rfl] at k2
  show Ending.returned (Value.int .u64 _) = _
  rw [hA]
  rw [show ((1073741824 : Nat) : Int) = 1073741824 from rfl] at q1
  rw [show ((134217728 : Nat) : Int) = 134217728 from rfl] at q2
  rw [show ((2147483648 : Nat) : Int) = 2147483648 from rfl] at q3
  rw [show ((13787848793156543929 : Nat) : Int) = 13787848793156543929 from rfl] at k1
  rw [show ((10723151780598845931 : Nat) : Int) = 10723151780598845931 from rfl] at k2
  rw [q1, x1, k1, q2, x2, k2, q3, x3]
  rfl
set_option maxRecDepth 100000 in
theorem iRest_any (m by_ : Nat) (w : World) (hm : m < 18446744073709551616) (h0 : 0 < by_) (h1 : by_ ≤ 4000000000000000000) :
    Calls Tryz.prog 132 #[.int .u64 (m : Nat), .int .i64 (by_ : Nat)] w fun e w' => e = .returned (.int .i64 (m % by_ : Nat)) ∧ w = w' := by
  have hlt : m % by_ < by_ := Nat.mod_lt _ h0
  have e1 : (m : Int).tmod (by_ : Int) = ((m % by_ : Nat) : Int) := (Int.ofNat_tmod m by_).symm
  have e2 : IntKind.u64.wrap ((m % by_ : Nat) : Int) = ((m % by_ : Nat) : Int) := by rw [wrap_nat, Nat.mod_eq_of_lt (by omega)]
  go_enter Tryz.func132, Tryz.ntmps132
  go_wp2
  go_ret
  exact ⟨ret_int (by rw [Int.natCast_emod]), rfl⟩
def loseR (X Y : ByteArray) (an : Bool) (m : Nat) : ByteArray := if an then (if m % (X.size + 2) = 0 then Y else X.extract 0 (m % (X.size + 2) - 1)) else X.extract 0 (Y.size + m % (X.size - Y.size + 1))
theorem lose_R (m : Nat) (x : It) : (lose m x).data = loseR x.data x.kept x.anew m ∧ (lose m x).kept = loseR x.data x.kept x.anew m := by
  unfold lose loseR
  exact ⟨rfl, rfl⟩
theorem infoIt : (Tryz.prog.info? 117).map (·.size) = some 5 := by kernel_rfl
set_option maxRecDepth 100000 in
set_option maxHeartbeats 1000000 in
theorem iLost_any (X Y : ByteArray) (an : Bool) (K T N : Int) (m : Nat) (w : World) (hT : T = if an then 2 else 1) (hX : X.size ≤ 1000000000000000000) (hY : an = false → Y.size ≤ X.size) (hm : m < 18446744073709551616) :
    Calls Tryz.prog 79 #[.agg #[.int .i64 K, .string X, .string Y, .int .i64 T, .int .i64 N], .int .u64 (m : Nat)] w fun e w' => e = .returned (.agg #[.int .i64 K, .string (loseR X Y an m), .string (loseR X Y an m), .int .i64 0, .int .i64 N]) ∧ Below w.heap.size w w' := by
  have hb := fun o o2 => ((Below.refl _ w).alloc (Nat.le_refl _) o).alloc (by simp) o2
  have HB := Lib.hid hb
  clear hb
  cases an with
  | true =>
    obtain rfl : T = 2 := hT
    have cr := fun W => iRest_any m (X.size + 2) W hm (by omega) (by omega)
    rw [show ((X.size + 2 : Nat) : Int) = (X.size : Int) + 2 by omega] at cr
    have hk := Nat.mod_lt m (show 0 < X.size + 2 by omega)
    obtain ⟨R, hR⟩ : ∃ R, R = loseR X Y true m := ⟨_, rfl⟩
    rw [← hR]
    unfold loseR at hR
    rw [if_pos rfl] at hR
    generalize m % (X.size + 2) = k at cr hk hR
    clear hY hm
    by_cases h0 : k = 0
    · subst h0
      rw [if_pos rfl] at hR
      subst hR
      go_enter Tryz.func79, Tryz.ntmps79
      go_wp2_with (go_at_call 132; refine (cr _).mono ?_; rintro e w' ⟨rfl, rfl⟩)
      refine bodyPost_ret (results_cell_row rfl _ _ _ _ _ _ _ rfl (new_at _ _ (by simp)) Tryz.underlying117 rfl infoIt) rfl ?_
      exact ⟨rfl, HB.out _ _⟩
    · rw [if_neg h0] at hR
      obtain ⟨j, rfl⟩ : ∃ j, k = j + 1 := ⟨k - 1, by omega⟩
      rw [Nat.add_sub_cancel] at hR
      have e0 := ne_eq h0
      have e1 : ((j + 1 : Nat) : Int) - 1 = j := by omega
      have HR := Lib.hid hR
      clear h0 hR
      go_enter Tryz.func79, Tryz.ntmps79
      go_wp2_with (go_at_call 132; refine (cr _).mono ?_; rintro e w' ⟨rfl, rfl⟩)
      refine bodyPost_ret (results_cell_row rfl _ _ _ _ _ _ _ rfl (new_at _ _ (by simp)) Tryz.underlying117 rfl infoIt) rfl ?_
      rw [HR.out]
      exact ⟨rfl, HB.out _ _⟩
  | false =>
    obtain rfl : T = 1 := hT
    have hYX := hY rfl
    have cr := fun W => iRest_any m (X.size - Y.size + 1) W hm (by omega) (by omega)
    rw [show ((X.size - Y.size + 1 : Nat) : Int) = (X.size : Int) - (Y.size : Int) + 1 by omega] at cr
    have hk := Nat.mod_lt m (show 0 < X.size - Y.size + 1 by omega)
    obtain ⟨R, hR⟩ : ∃ R, R = loseR X Y false m := ⟨_, rfl⟩
    rw [← hR]
    unfold loseR at hR
    rw [if_neg (by decide)] at hR
    generalize m % (X.size - Y.size + 1) = k at cr hk hR
    clear hY hm
    have HR := Lib.hid hR
    clear hR
    go_enter Tryz.func79, Tryz.ntmps79
    go_wp2_with (go_at_call 132; refine (cr _).mono ?_; rintro e w' ⟨rfl, rfl⟩)
    refine bodyPost_ret (results_cell_row rfl _ _ _ _ _ _ _ rfl (new_at _ _ (by simp)) Tryz.underlying117 rfl infoIt) rfl ?_
    rw [HR.out]
    exact ⟨rfl, HB.out _ _⟩
end Go.Proofs.YtjdmbkkdnonkkaaGreat.Dk

namespace Go.Proofs.YtjdmbkkdnonkkaaGreat.Dk
open Go.RowKit Tx Pm Pl Pr
set_option linter.unusedVariables false
def lse (x : It) : Bool := x.loose
theorem next_loose {s : St} {U j st : Nat} {p : ByteArray} {r : List ByteArray} : ∀ (m k : Nat) (pre : List It), s.L.length - k ≤ m → Through s U k j pre st → held lse (s.L.drop k) = p :: r →
    ∃ k2 pre2 x, Through s U k2 j pre2 st ∧ mid s k2 pre2 st = mid s k pre st ∧ s.L[k2]? = some x ∧ x.loose = true ∧ x.path = p ∧ held lse (s.L.drop (k2 + 1)) = r
  | 0, k, pre, hm, h, he => by
    rw [List.drop_of_length_le (by omega)] at he
    cases he
  | m + 1, k, pre, hm, h, he => by
    by_cases hk : k < s.L.length
    · have hx : s.L[k]? = some s.L[k] := List.getElem?_eq_getElem hk
      rw [List.drop_eq_getElem_cons hk, held_cons] at he
      cases hl : s.L[k].loose with
      | true =>
        have hl2 : lse s.L[k] = true := hl
        rw [if_pos hl2, List.singleton_append] at he
        injection he with he1 he2
        exact ⟨k, pre, s.L[k], h, rfl, hx, hl, he1, he2⟩
      | false =>
        have hl2 : ¬ lse s.L[k] = true := by unfold lse; rw [hl]; decide
        rw [if_neg hl2, List.nil_append] at he
        obtain ⟨k2, pre2, x, h1, h2, h3⟩ := next_loose m (k + 1) (pre ++ [s.L[k]]) (by omega) (through_calm h hx hl) he
        exact ⟨k2, pre2, x, h1, h2.trans (mid_calm h hx), h3⟩
    · rw [List.drop_of_length_le (by omega)] at he
      cases he
theorem end_loose {s : St} {U j st : Nat} : ∀ (m k : Nat) (pre : List It), s.L.length - k ≤ m → Through s U k j pre st → held lse (s.L.drop k) = [] →
    ∃ pre2, Through s U s.L.length j pre2 st ∧ mid s s.L.length pre2 st = mid s k pre st
  | 0, k, pre, hm, h, he => by
    have := h.le
    obtain rfl : k = s.L.length := by omega
    exact ⟨pre, h, rfl⟩
  | m + 1, k, pre, hm, h, he => by
    by_cases hk : k < s.L.length
    · have hx : s.L[k]? = some s.L[k] := List.getElem?_eq_getElem hk
      rw [List.drop_eq_getElem_cons hk, held_cons] at he
      cases hl : s.L[k].loose with
      | true =>
        have hl2 : lse s.L[k] = true := hl
        rw [if_pos hl2] at he
        cases he
      | false =>
        have hl2 : ¬ lse s.L[k] = true := by unfold lse; rw [hl]; decide
        rw [if_neg hl2, List.nil_append] at he
        obtain ⟨pre2, h1, h2⟩ := end_loose m (k + 1) (pre ++ [s.L[k]]) (by omega) (through_calm h hx hl) he
        exact ⟨pre2, h1, h2.trans (mid_calm h hx)⟩
    · have := h.le
      obtain rfl : k = s.L.length := by omega
      exact ⟨pre, h, rfl⟩
theorem restart_mid {s : St} {U j st : Nat} {pre : List It} {loss : Int} (hU : U = u64 loss) (h : Through s U s.L.length j pre st) : restartS s loss = { mid s s.L.length pre st with down := false, armed := -1 } := by
  have := through_end h
  unfold restartS mid
  rw [← hU, this, List.drop_of_length_le (Nat.le_refl _), List.append_nil]
theorem ne_dir {s : St} (hg : Good s) {x : It} (hx : x ∈ s.L) (hl : x.loose = true) : x.dir = false := by
  cases hd : x.dir with
  | false => rfl
  | true =>
    have := (hg.dirs x hx hd).2.2.1
    rw [hl] at this
    cases this
theorem mid_old {s : St} {U k j st : Nat} {pre : List It} {x : It} (hr : Rises s.L) (h : Through s U k j pre st) (hx : s.L[k]? = some x) (hd : x.dir = false) :
    old (mid s k pre st).L x.path = x ∧ kind (mid s k pre st).L x.path = 2 := by
  obtain ⟨e1, e2⟩ := mid_at h hx
  have hf := find_paths (mid_rises h hr) (List.mem_of_getElem? e2)
  refine ⟨by rw [old, hf]; rfl, ?_⟩
  unfold kind kindOf
  rw [hf]
  simp only
  rw [if_neg (by rw [hd]; decide)]
theorem mid_set {s : St} {U k j st : Nat} {pre : List It} {x : It} (hr : Rises s.L) (h : Through s U k j pre st) (hx : s.L[k]? = some x) (pick : Nat) :
    putS (mid s k pre st) (lose pick x) = mid s (k + 1) (pre ++ [{ lose pick x with stamp := st + 1 }]) (st + 1) :=
  mid_put h hr hx (x' := { lose pick x with stamp := st + 1 }) rfl
structure SoundW (s : St) : Prop where
  rises : Rises s.L
  kept : ∀ x ∈ s.L, x.anew = false → x.kept.size ≤ x.data.size
  size : ∀ x ∈ s.L, x.data.size ≤ 1000000000000000000 ∧ x.kept.size ≤ 1000000000000000000
  stamps : s.stamps + s.L.length ≤ 1000000000000
theorem Sound.wide {s : St} (h : Sound s) : SoundW s := ⟨h.rises, h.kept, fun x hx => by have := h.size x hx; omega, h.stamps⟩
set_option maxRecDepth 100000 in
set_option maxHeartbeats 4000000 in
theorem iRestart_any (b bi bl : Nat) (l : Int) (s : St) (loss : Int) (w : World) (h : Ia b bi bl l w s) (hg : Good s) (hs : SoundW s) (hn : s.L.length ≤ 1000000000) (hps : ∀ x ∈ s.L, x.path.size ≤ 8000000000000) (hl : -9223372036854775808 ≤ loss ∧ loss ≤ 9223372036854775807) :
    Calls Tryz.prog 24 #[.pointer (some ⟨b, 0, none⟩), .int .i64 loss] w fun e w' => e = .returned (.int .i64 ((0 : Nat) : Int)) ∧ Ip b bi bl w (restartS s loss) w' := by
  obtain ⟨U, hU⟩ : ∃ U, U = u64 loss := ⟨_, rfl⟩
  have cp := iPaths_any b bi bl l s 77 #[] lse w h hg.rises hn hps (fun a1 a2 W => Rg.enters Tryz.func77 (by kernel_rfl) (by kernel_rfl) _ W) (fun W x _ _ => iRestC_any x W)
  have hll := held_len lse s.L
  have HH := Lib.hid h
  have HG := Lib.hid hg
  have HS := Lib.hid hs
  have HN := Lib.hid hn
  have HP := Lib.hid hps
  have hft := h.lt
  have HF := Lib.hid hft
  clear h hg hs hps hft
  go_enter Tryz.func24, Tryz.ntmps24
  go_wp2_with fail
  go_at_call 76
  refine cp.mono ?_
  rintro e w1 ⟨v, rfl, hT, hb1⟩
  have hlen : (held lse s.L).length ≤ 1000000000 := Nat.le_trans hll HN.out
  obtain ⟨a, c, hv, hstr, _, _⟩ := hT.form
  have hge : ∀ bb off, a = some ⟨bb, off, none⟩ → w.heap.size ≤ bb ∨ (held lse s.L).length = 0 := by
    intro bb off ha
    rcases hT.2 with ⟨hv2, h0⟩ | ⟨g, cap, cur, hv2, hgg, _⟩
    · exact .inr h0
    · rw [hv, ha] at hv2
      cases hv2
      exact .inl hgg
  have hstr2 : ∀ W, Chg (Ft b bi bl) w1 W → ∀ j p, (held lse s.L)[j]? = some p → ∃ bb off, a = some ⟨bb, off, none⟩ ∧ W.cell? ⟨bb, off + j, none⟩ = some (.string p) := by
    intro W hW j p hj
    have hjl : j < (held lse s.L).length := (List.getElem?_eq_some_iff.1 hj).1
    rcases hstr.2 with h0 | ⟨bb, off, ha, hbb, hcc⟩
    · omega
    · refine ⟨bb, off, ha, ?_⟩
      have hgb := (hge bb off ha).resolve_right (by omega)
      have hx := hcc j p hj
      unfold World.cell? at *
      rw [hW.block bb hbb (fun hf => by have := HF.out bb hf; omega)]
      exact hx
  subst hv
  have HST := Lib.hid hstr2
  have hIA : Ia b bi bl l w1 (mid s 0 [] s.stamps) := HH.out.below hb1
  have HIA := Lib.hid hIA
  obtain ⟨n, hn2⟩ : ∃ n, n = (held lse s.L).length := ⟨_, rfl⟩
  rw [← hn2] at hlen
  have HN2 := Lib.hid hn2
  rw [← hn2]
  have HT := Lib.hid hT
  clear hstr hge hstr2 hIA hT cp hll hn2
  go_wp2_with fail
  go_loopw [14] (fun i wr => ∃ (j k st : Nat) (pre : List It) (l2 : Int), j ≤ n ∧ i = .int .i64 j ∧ Hid (Through s U k j pre st ∧ (held lse s.L).drop j = held lse (s.L.drop k)) ∧ Ia b bi bl l2 wr (mid s k pre st) ∧ Chg (Ft b bi bl) w1 wr) (fun i _ => n - (intOf i).toNat)
  case atStart => exact ⟨0, 0, s.stamps, [], l, Nat.zero_le _, rfl, ⟨through_zero s U, rfl⟩, HIA.out, Chg.refl _ _⟩
  case round =>
    obtain ⟨j, k, st, pre, l2, hj, rfl, hT2, hI, hC⟩ := hrel
    by_cases hlt : j < n
    · obtain ⟨p, hp⟩ : ∃ p, (held lse s.L)[j]? = some p := ⟨_, List.getElem?_eq_getElem (by rw [← HN2.out]; exact hlt)⟩
      obtain ⟨bb, off, ha, hcl⟩ := HST.out _ hC j p hp
      obtain ⟨hjl, hpe⟩ := List.getElem?_eq_some_iff.1 hp
      have hcons : held lse (s.L.drop k) = p :: (held lse s.L).drop (j + 1) := by rw [← hT2.out.2, List.drop_eq_getElem_cons hjl, hpe]
      obtain ⟨k2, pre2, x, hth, hmid, hx, hlo, hxp, hrest⟩ := next_loose _ k pre (Nat.le_refl _) hT2.out.1 hcons
      rw [← hmid] at hI
      have hxm := List.mem_of_getElem? hx
      have hd := ne_dir HG.out hxm hlo
      obtain ⟨ho, hk⟩ := mid_old HG.out.rises hth hx hd
      have hpx := HP.out x hxm
      have hsz := HS.out.size x hxm
      have hkp := HS.out.kept x hxm
      have hpl := mix_lt U (j + 1)
      have hnk := hth.num
      have hkl := hth.le
      have hss := hth.stamp
      have hsb := HS.out.stamps
      have cm := fun W => iMix_any loss (j + 1) W hl (by omega)
      rw [← hU] at cm
      have cl := fun W => iLost_any x.data x.kept x.anew 2 (stOf x) x.stamp (mix U (j + 1)) W (by unfold stOf; rw [hlo]; rfl) hsz.1 hkp hpl
      have cs := fun W (hW : Ia b bi bl l2 W (mid s k2 pre2 st)) => iSet_any b bi bl l2 (mid s k2 pre2 st) (lose (mix U (j + 1)) x) x.stamp p W hW hxp (by rw [← hxp]; exact hpx) (by rw [mid_len hth]; exact HN.out) (by show st ≤ _; omega)
      rw [mid_set HG.out.rises hth hx] at cs
      obtain ⟨q1, q2⟩ := lose_R (mix U (j + 1)) x
      rw [q1, q2, show kOf (lose (mix U (j + 1)) x) = 2 from kOf_file hd, show stOf (lose (mix U (j + 1)) x) = 0 from rfl] at cs
      have hlk := fun W (hW : Ia b bi bl l2 W (mid s k2 pre2 st)) => hW.look (p := p) (by rw [← hxp]; exact maxLen_of hpx)
      rw [hxp] at ho hk
      rw [ho, hk] at hlk
      have HTN := Lib.hid (And.intro (through_loose hth hx hlo) hrest.symm)
      generalize loseR x.data x.kept x.anew (mix U (j + 1)) = Z at cl cs
      generalize mix U (j + 1) = PK at cm cl hpl
      subst ha
      have hadd : IntKind.i64.wrap ((j : Int) + 1) = ((j + 1 : Nat) : Int) := IntWalk.i64_in _ (by omega)
      have HAD := Lib.hid hadd
      have HI := Lib.hid hI
      have HLK := Lib.hid hlk
      clear hadd hI hlk hth hx hlo hxp hrest hmid ho hk hpx hsz hkp hpl hnk hkl hss hsb q1 q2 hd hxm hcons hp hpe hjl hT2
      go_wp2_with fail
      refine Rg.wp_only ?_ (regRestart _ (by kernel_rfl) _ b bi bl j PK l2 loss 2 (stOf x) x.stamp (mid s k2 pre2 st) _ p x.data x.kept Z _ HI.out HLK.out HAD.out cm cl cs)
      rintro _ w9 ⟨rfl, l9, hI9, hC9⟩
      go_wp2_with fail
      go_roundw
      case rel => exact ⟨j + 1, k2 + 1, st + 1, _, l9, by omega, by go_num, HTN, hI9, hC.then hC9⟩
      case measure => simp [intOf]; omega
    · obtain rfl : j = n := by omega
      have hnil : held lse (s.L.drop k) = [] := by rw [← hT2.out.2, List.drop_of_length_le (by rw [HN2.out]; exact Nat.le_refl _)]
      obtain ⟨pre3, h3, h4⟩ := end_loose _ k pre (Nat.le_refl _) hT2.out.1 hnil
      have hres := restart_mid hU h3
      rw [h4] at hres
      have HRS := Lib.hid hres
      have hc9 := hI.cell
      have hw9 := hI.warm
      have hb1' : (wr.setCell ⟨b, 5, none⟩ (.bool false)).heap[b]? = some (.cells #[.map (some bi), .map (some bl), .int .i64 l2, .int .i64 (mid s k pre st).steps, .int .i64 (mid s k pre st).stamps, .bool false] 114 (0, 0)) := own_cells hI 5 _ rfl
      have hb2' : ((wr.setCell ⟨b, 5, none⟩ (.bool false)).setCell ⟨b, 2, none⟩ (.int .i64 (-1))).heap[b]? = some (.cells #[.map (some bi), .map (some bl), .int .i64 (-1), .int .i64 (mid s k pre st).steps, .int .i64 (mid s k pre st).stamps, .bool false] 114 (0, 0)) := set_block hb1' _
      have hc2 : Chg (· = b) wr ((wr.setCell ⟨b, 5, none⟩ (.bool false)).setCell ⟨b, 2, none⟩ (.int .i64 (-1))) := (chg_set _).then (chg_set _)
      have a2 : Ia b bi bl (-1) _ { mid s k pre st with down := false, armed := -1 } := hI.poke hc2 hb2' rfl rfl (.inr rfl) (by omega)
      have HE := Lib.hid (show Ip b bi bl w { mid s k pre st with down := false, armed := -1 } _ from ⟨-1, a2, ((Chg.of_below hb1).then hC).then (hc2.mono ft_b)⟩)
      have g2 : (wr.setCell ⟨b, 5, none⟩ (.bool false)).cell? ⟨b, 2, none⟩ = some (.int .i64 l2) := by unfold World.cell?; rw [hb1']; rfl
      obtain ⟨c0, c1, c2, c3, c4, c5⟩ := hc9
      clear hI hT2 hnil h3 h4 hres hb1' hb2' hc2 a2 hC
      go_wp2
      go_ret
      exact ⟨rfl, by rw [HRS.out]; exact HE.out⟩
end Go.Proofs.YtjdmbkkdnonkkaaGreat.Dk

namespace Go.Proofs.YtjdmbkkdnonkkaaGreat.Dk
open Go.RowKit Tx Pm Pl Pr
set_option linter.unusedVariables false
end Go.Proofs.YtjdmbkkdnonkkaaGreat.Dk

namespace Go.Proofs.YtjdmbkkdnonkkaaGreat.Dk
open Go.RowKit Tx Pm Pl Pr
set_option linter.unusedVariables false
end Go.Proofs.YtjdmbkkdnonkkaaGreat.Dk

namespace Go.Proofs.YtjdmbkkdnonkkaaGreat.Dk
open Go.RowKit Tx Pm Pl Pr
set_option linter.unusedVariables false
def Own1 (w0 : World) (b bi bl : Nat) (s : St) (W : World) : Prop := ∃ l, Ia b bi bl l W s ∧ Good s ∧ (∀ i, Ft b bi bl i → w0.heap.size ≤ i) ∧ Below w0.heap.size w0 W
theorem Own1.bel {w0 W : World} {b bi bl : Nat} {s : St} (h : Own1 w0 b bi bl s W) : Below w0.heap.size w0 W := by
  obtain ⟨_, _, _, _, h⟩ := h
  exact h
theorem Own1.lt {w0 W : World} {b bi bl : Nat} {s : St} (h : Own1 w0 b bi bl s W) : ∀ i, Ft b bi bl i → i < W.heap.size := by
  obtain ⟨_, h, _⟩ := h
  exact h.lt
theorem Own1.below {w0 W W1 : World} {b bi bl : Nat} {s : St} (h : Own1 w0 b bi bl s W) (hb : Below W.heap.size W W1) : Own1 w0 b bi bl s W1 := by
  obtain ⟨l, h1, h2, h3, h4⟩ := h
  exact ⟨l, h1.below hb, h2, h3, below_call h4 hb⟩
section
variable {w0 W : World} {b bi bl k : Nat} {s s' : St}
end
theorem ok_small {s : St} (hl : s.L.length ≤ 1000) (hp : ∀ x ∈ s.L, x.path.size ≤ 1000) (hd : ∀ x ∈ s.L, x.data.size ≤ 1000000000000000) (hr : s.rooms.length ≤ 1000) (hst : s.steps ≤ 1000) (hsm : s.stamps ≤ 1000) (ha : -1 ≤ s.armed ∧ s.armed ≤ 9223372036854775807) : Ok s := by
  have hw := whole_le (B := 1000000000000000) hd
  have hm : s.L.length * 1000000000000000 ≤ 1000000000000000000 := Nat.le_trans (Nat.mul_le_mul_right _ hl) (by decide)
  exact ⟨⟨by omega, fun x hx => by have := hp x hx; omega, by omega⟩, by omega, by omega, by omega, by omega⟩
theorem a1_mk : mkdirS newS pV = (0, a1S) := Prod.ext a1_ok rfl
theorem a1_is : a1S = ⟨[dirV], [], 1, 0, -1, false⟩ := by kernel_rfl
end Go.Proofs.YtjdmbkkdnonkkaaGreat.Dk

namespace Go.Proofs.YtjdmbkkdnonkkaaGreat.Wl
open Go.RowKit Tx Pm Pl Pr Dk Fr
set_option linter.unusedVariables false
def Own {α : Type} (Obj : World → (Nat → Prop) → α → Prop) (w0 : World) (x : α) (W : World) : Prop := ∃ F, Obj W F x ∧ (∀ i, F i → w0.heap.size ≤ i) ∧ Below w0.heap.size w0 W
section
variable {α β : Type} {Obj : World → (Nat → Prop) → α → Prop} {Obj' : World → (Nat → Prop) → β → Prop} {w0 W : World} {x : α} {y : β}
theorem Own.bel (h : Own Obj w0 x W) : Below w0.heap.size w0 W := by
  obtain ⟨_, _, _, h⟩ := h
  exact h
theorem own_left {F : Nat → Prop} {w' : World} (h1 : ∀ i, F i → w0.heap.size ≤ i) (h2 : Below w0.heap.size w0 W) (h : LeftA Obj' W F y w') : Own Obj' w0 y w' := by
  obtain ⟨F', h3, h4, h5⟩ := h
  have hs := h2.size
  exact ⟨F', h3, fun i hi => (h5 i hi).elim (fun hh => h1 i hh) (fun hh => by omega), h2.trans ⟨h4.os, h4.tape, h4.output, h4.size, fun i hi => h4.block i (Nat.lt_of_lt_of_le hi hs) (fun hf => by have := h1 i hf; omega)⟩⟩
theorem Own.call {f : FuncId} {args : Array Value} {P : Ending → Prop} (h : Own Obj w0 x W) (hc : ∀ F, Obj W F x → Calls Tryz.prog f args W fun e w' => P e ∧ LeftA Obj' W F y w') : Calls Tryz.prog f args W fun e w' => P e ∧ Own Obj' w0 y w' := by
  obtain ⟨F, h1, h2, h3⟩ := h
  exact (hc F h1).mono fun e w' hh => ⟨hh.1, own_left h2 h3 hh.2⟩
theorem Own.kept (hk : ∀ {w w1 : World} {F : Nat → Prop} {x : α}, Obj w F x → Below w.heap.size w w1 → Obj w1 F x) {w' : World} (h : Own Obj w0 x W) (hb : Below W.heap.size W w') : Own Obj w0 x w' := by
  obtain ⟨F, h1, h2, h3⟩ := h
  exact ⟨F, hk h1 hb, h2, below_call h3 hb⟩
end
abbrev Jb (b j : Nat) : World → (Nat → Prop) → Jst → Prop := Jn (ImpAt b) 105 b j pL
section
variable {w0 W : World} {b j k : Nat} {s s' : St} {x y : Jst}
theorem imp_below {w w1 : World} {F : Nat → Prop} {s : St} (h : ImpAt b w F s) (hb : Below w.heap.size w w1) : ImpAt b w1 F s := (imp_kind b).kept h (fun i hi => hb.block i ((imp_kind b).lt h i hi))
theorem jb_below {w w1 : World} {F : Nat → Prop} {x : Jst} (h : Jb b j w F x) (hb : Below w.heap.size w w1) : Jb b j w1 F x := by
  obtain ⟨v, Fd, h⟩ := h
  exact ⟨v, Fd, h.below (imp_kind b) hb⟩
theorem Own.belowD {w' : World} (h : Own (ImpAt b) w0 s W) (hb : Below W.heap.size W w') : Own (ImpAt b) w0 s w' := Own.kept (Obj := ImpAt b) (fun h hb => imp_below h hb) h hb
theorem Own.belowJ {w' : World} (h : Own (Jb b j) w0 x W) (hb : Below W.heap.size W w') : Own (Jb b j) w0 x w' := Own.kept (Obj := Jb b j) (fun h hb => jb_below h hb) h hb
theorem Own.disk (h : Own (Jb b j) w0 x W) : Own (ImpAt b) w0 x.s W := by
  obtain ⟨F, ⟨v, Fd, h1⟩, h2, h3⟩ := h
  exact ⟨Fd, h1.dsk, fun i hi => h2 i ((h1.foot i).2 (.inl hi)), h3⟩
theorem w_add {r : ByteArray} (h : Own (Jb b j) w0 x W) (o : AddOk x pL r) (he : addS x pL r = (k, y)) : Calls Tryz.prog 19 #[.pointer (some ⟨j, 0, none⟩), .string r] W fun e w' => e = .returned (.int .i64 (k : Nat)) ∧ Own (Jb b j) w0 y w' :=
  h.call (fun F ⟨v, Fd, hh⟩ => by
    have c := iAdd_any b j pL r W hh o (by decide)
    rw [he] at c
    exact c)
theorem w_reset (h : Own (Jb b j) w0 x W) (o : FillOk x.s pL ⟨#[]⟩) (he : resetS x pL = (k, y)) : Calls Tryz.prog 21 #[.pointer (some ⟨j, 0, none⟩)] W fun e w' => e = .returned (.int .i64 (k : Nat)) ∧ Own (Jb b j) w0 y w' :=
  h.call (fun F ⟨v, Fd, hh⟩ => by
    have c := iReset_any b j pL W hh o (by decide)
    rw [he] at c
    exact c)
theorem w_open (h : Own (ImpAt b) w0 s W) (o : OpenOk s pL) (he : openS s pL = (0, y)) : Calls Tryz.prog 17 #[.pointer (some ⟨b, 0, none⟩), .string pL] W fun e w' => ∃ j, e = .returned (.tuple #[.pointer (some ⟨j, 0, none⟩), .int .i64 0]) ∧ Own (Jb b j) w0 y w' := by
  obtain ⟨F, h1, h2, h3⟩ := h
  have c := iOpen_any b pL W h1 o (by decide)
  rw [he] at c
  refine c.mono fun e w' hh => ?_
  rcases hh with ⟨_, j, he, hl⟩ | ⟨h0, _⟩
  · exact ⟨j, he, own_left h2 h3 hl⟩
  · exact absurd rfl h0
theorem w_damaged (h : Own (Jb b j) w0 x W) : Calls Tryz.prog 35 #[.pointer (some ⟨j, 0, none⟩)] W fun e w' => e = .returned (.bool x.dm) ∧ w' = W := by
  obtain ⟨F, ⟨v, Fd, h1⟩, h2, h3⟩ := h
  exact (iDamaged_any _ b j pL W h1).mono fun e w' hh => ⟨hh.1, hh.2.symm⟩
theorem w_records (h : Own (Jb b j) w0 x W) (hl : x.R.length ≤ 10000000000) : Calls Tryz.prog 33 #[.pointer (some ⟨j, 0, none⟩)] W fun e w' => ∃ a c, e = .returned (.slice a x.R.length c) ∧ Tx.Strs w' a x.R.length x.R ∧ Below W.heap.size W w' := by
  obtain ⟨F, ⟨v, Fd, h1⟩, h2, h3⟩ := h
  refine (iRecords_any (imp_kind b) b j pL W h1 hl).mono fun e w' hh => ?_
  obtain ⟨v', he, ht, hb⟩ := hh
  obtain ⟨a, c, rfl, hs, _⟩ := ht.form
  exact ⟨a, c, he, hs, hb⟩
theorem w_disk {f : FuncId} {args : Array Value} {P : Ending → Prop} (h : Own (Jb b j) w0 x W) (hc : ∀ F, ImpAt b W F x.s → Calls Tryz.prog f args W fun e w' => P e ∧ Dk.Left (ImpAt b) W F s' w') : Calls Tryz.prog f args W fun e w' => P e ∧ Own (Jb b j) w0 ⟨s', x.R, x.dm⟩ w' :=
  h.call (fun F ⟨v, Fd, hh⟩ => (hc Fd hh.dsk).mono fun e w' h2 => ⟨h2.1, by
    obtain ⟨Fd', F', q, c, n⟩ := hh.disk_left (imp_kind b) h2.2
    exact ⟨F', ⟨v, Fd', q⟩, c, n⟩⟩)
theorem d_arm {m : Int} {F : Nat → Prop} (h : ImpAt b W F s) (hm : -9223372036854775808 ≤ m ∧ m ≤ 9223372036854775807) : Calls Tryz.prog 23 #[.pointer (some ⟨b, 0, none⟩), .int .i64 m] W fun e w' => e = .returned (.tuple #[]) ∧ Dk.Left (ImpAt b) W F { s with armed := if m < 0 then -1 else m } w' := by
  obtain ⟨bi, bl, l, hI, hg, hF⟩ := h
  exact (iArm_any b bi bl l s m W hI hm).mono fun e w' ht => ⟨ht.1, ht.2.left (good_of hg rfl rfl) hF⟩
theorem w_arm {m : Int} (h : Own (Jb b j) w0 x W) (hm : -9223372036854775808 ≤ m ∧ m ≤ 9223372036854775807) : Calls Tryz.prog 23 #[.pointer (some ⟨b, 0, none⟩), .int .i64 m] W fun e w' => e = .returned (.tuple #[]) ∧ Own (Jb b j) w0 ⟨{ x.s with armed := if m < 0 then -1 else m }, x.R, x.dm⟩ w' :=
  w_disk h (fun F hh => d_arm hh hm)
theorem w_restart {m : Int} (h : Own (ImpAt b) w0 s W) (hs : SoundW s) (hn : s.L.length ≤ 1000000000) (hps : ∀ x ∈ s.L, x.path.size ≤ 8000000000000) (hm : -9223372036854775808 ≤ m ∧ m ≤ 9223372036854775807) (he : restartS s m = s') : Calls Tryz.prog 24 #[.pointer (some ⟨b, 0, none⟩), .int .i64 m] W fun e w' => e = .returned (.int .i64 (0 : Nat)) ∧ Own (ImpAt b) w0 s' w' :=
  h.call (fun F hh => by
    obtain ⟨bi, bl, l, hI, hg, hF⟩ := hh
    have c := iRestart_any b bi bl l s m W hI hg hs hn hps hm
    have hg' := good_restart (loss := m) hg
    rw [he] at c hg'
    exact c.mono fun e w' ht => ⟨ht.1, ht.2.left hg' hF⟩)
theorem w_new (w0 : World) {W : World} (hb : Below w0.heap.size w0 W) : Calls Tryz.prog 44 #[] W fun e w' => ∃ b, e = .returned (.pointer (some ⟨b, 0, none⟩)) ∧ Own (ImpAt b) w0 newS w' :=
  (iNew_any W).mono fun e w' ⟨b, bi, bl, he, hI, hF, hb1⟩ => ⟨b, he, Ft b bi bl, ⟨bi, bl, -1, hI, good_new, fun _ => Iff.rfl⟩, fun i hi => Nat.le_trans hb.size (hF i hi), below_call hb hb1⟩
theorem w_mkdir {p : ByteArray} (h : Own (ImpAt b) w0 s W) (ok : Ok s) (hp : p.size ≤ 8000000000000) (he : mkdirS s p = (k, s')) : Calls Tryz.prog 62 #[.pointer (some ⟨b, 0, none⟩), .string p] W fun e w' => e = .returned (.int .i64 (k : Nat)) ∧ Own (ImpAt b) w0 s' w' :=
  h.call (fun F hh => by
    obtain ⟨bi, bl, l, hI, hg, hF⟩ := hh
    have c := iMkdir_any b bi bl l s p W hI hg ok hp
    have hg' := good_mkdir (p := p) hg
    rw [he] at c hg'
    exact c.mono fun e w' ht => ⟨ht.1, ht.2.left hg' hF⟩)
end
theorem mem2 {x a b : It} (h : x ∈ [a, b]) : x = a ∨ x = b := by simpa using h
theorem mem3 {x a b c : It} (h : x ∈ [a, b, c]) : x = a ∨ x = b ∨ x = c := by simpa using h
theorem ok_two {A : It} {st sm : Nat} {a : Int} {dn : Bool} (hp : A.path.size ≤ 1000) (h : A.data.size ≤ 100000000000000000) (h1 : st ≤ 100000) (h2 : sm ≤ 100000) (ha : -1 ≤ a ∧ a ≤ 9223372036854775807) : Ok ⟨[dirV, A], [], st, sm, a, dn⟩ := by
  have hw : whole [dirV, A] = dirV.data.size + (A.data.size + 0) := rfl
  have h0 : dirV.data.size = 0 := rfl
  refine ⟨⟨by show 2 ≤ _; omega, fun z hz => ?_, by show whole [dirV, A] ≤ _; omega⟩, by show 0 ≤ _; omega, by show st ≤ _; omega, by show sm ≤ _; omega, by show _ ≤ a ∧ a ≤ _; omega⟩
  rcases mem2 hz with rfl | rfl
  · decide
  · omega
theorem ok_three {A B : It} {st sm : Nat} {a : Int} {dn : Bool} (hp : A.path.size ≤ 1000) (h : A.data.size ≤ 100000000000000000) (hp2 : B.path.size ≤ 1000) (h3 : B.data.size ≤ 100000000000000000) (h1 : st ≤ 100000) (h2 : sm ≤ 100000) (ha : -1 ≤ a ∧ a ≤ 9223372036854775807) : Ok ⟨[dirV, A, B], [], st, sm, a, dn⟩ := by
  have hw : whole [dirV, A, B] = dirV.data.size + (A.data.size + (B.data.size + 0)) := rfl
  have h0 : dirV.data.size = 0 := rfl
  refine ⟨⟨by show 3 ≤ _; omega, fun z hz => ?_, by show whole [dirV, A, B] ≤ _; omega⟩, by show 0 ≤ _; omega, by show st ≤ _; omega, by show sm ≤ _; omega, by show _ ≤ a ∧ a ≤ _; omega⟩
  rcases mem3 hz with rfl | rfl | rfl
  · decide
  · omega
  · omega
theorem pLs : pL.size ≤ 1000 := by decide
theorem pTs : pT.size ≤ 1000 := by decide
theorem ok_J {t : ByteArray} {sn st sm : Nat} {a : Int} (ht : t.size ≤ 100000000000000000) (h1 : st ≤ 100000) (h2 : sm ≤ 100000) (ha : -1 ≤ a ∧ a ≤ 9223372036854775807) : Ok (J t sn st sm a) := ok_two (A := syn pL t sn) pLs ht h1 h2 ha
theorem ok_Jd {t : ByteArray} {sn st sm : Nat} (ht : t.size ≤ 100000000000000000) (h1 : st ≤ 100000) (h2 : sm ≤ 100000) : Ok (Jd t sn st sm) := ok_two (A := syn pL t sn) pLs ht h1 h2 (by omega)
theorem ok_L1 {u t : ByteArray} {sn st sm : Nat} {a : Int} (ht : u.size ≤ 100000000000000000) (h1 : st ≤ 100000) (h2 : sm ≤ 100000) (ha : -1 ≤ a ∧ a ≤ 9223372036854775807) : Ok (L1 u t sn st sm a) := ok_two (A := ⟨pL, false, u, t, true, false, sn⟩) pLs ht h1 h2 ha
theorem ok_W1 {t d : ByteArray} {sn tn st sm : Nat} {a : Int} {dn : Bool} (ht : t.size ≤ 100000000000000000) (hd : d.size ≤ 100000000000000000) (h1 : st ≤ 100000) (h2 : sm ≤ 100000) (ha : -1 ≤ a ∧ a ≤ 9223372036854775807) : Ok (W1 t d sn tn st sm a dn) := ok_three (A := syn pL t sn) (B := raw pT d tn) pLs ht pTs hd h1 h2 ha
theorem ok_W2 {t d : ByteArray} {sn tn st sm : Nat} {a : Int} {dn : Bool} (ht : t.size ≤ 100000000000000000) (hd : d.size ≤ 100000000000000000) (h1 : st ≤ 100000) (h2 : sm ≤ 100000) (ha : -1 ≤ a ∧ a ≤ 9223372036854775807) : Ok (W2 t d sn tn st sm a dn) := ok_three (A := syn pL t sn) (B := syn pT d tn) pLs ht pTs hd h1 h2 ha
theorem addok_J {t r : ByteArray} {sn st sm : Nat} {a : Int} {R : List ByteArray} {dm : Bool} (ht : t.size ≤ 14073748835124600) (hr : r.size ≤ 140737488351232) (h1 : st ≤ 10000) (h2 : sm ≤ 10000) (ha : -1 ≤ a ∧ a ≤ 9223372036854775807) (hR : R.length ≤ 1000) : AddOk ⟨J t sn st sm a, R, dm⟩ pL r := by
  have hk := pk_le hr
  have hs : (t ++ Fm.pk r).size = t.size + (Fm.pk r).size := ByteArray.size_append
  refine ⟨ok_J (by omega) (by omega) (by omega) ha, ?_, by rw [show (⟨J t sn st sm a, R, dm⟩ : Jst).s = J t sn st sm a from rfl, j_old]; omega, by omega, by show R.length ≤ _; omega⟩
  show Ok (appendS (J t sn st sm a) pL (Fm.pk r)).2
  by_cases h0 : a = 0
  · subst h0
    rw [j_append0]
    exact ok_Jd (by omega) (by omega) (by omega)
  · rw [j_append h0]
    exact ok_L1 (by omega) (by omega) (by omega) (dec_in ha)
theorem fillok_J {t d : ByteArray} {sn st sm : Nat} {a : Int} (ht : t.size ≤ 14073748835124600) (hd : d.size ≤ 14073748835124600) (h1 : st ≤ 10000) (h2 : sm ≤ 10000) (ha : -1 ≤ a ∧ a ≤ 9223372036854775807) : FillOk (J t sn st sm a) pL d := by
  refine ⟨ok_J (by omega) (by omega) (by omega) ha, ?_, ?_⟩
  · rw [pL_tT]
    by_cases h0 : a = 0
    · subst h0
      rw [j_write0]
      exact ok_Jd (by omega) (by omega) (by omega)
    · rw [j_write h0]
      exact ok_W1 (by omega) (by omega) (by omega) (by omega) (dec_in ha)
  · rw [pL_tT]
    by_cases h0 : a = 0
    · subst h0
      rw [j_write0]
      have e : syncS (Jd t sn st sm) pT = (14, Jd t sn st sm) := by kernel_rfl
      show Ok (syncS (Jd t sn st sm) pT).2
      rw [e]
      exact ok_Jd (by omega) (by omega) (by omega)
    · rw [j_write h0]
      show Ok (syncS (W1 t d sn (sm + 1) (st + 1) (sm + 1) (dec a) false) pT).2
      by_cases h3 : dec a = 0
      · rw [h3, w_sync0]
        exact ok_W1 (by omega) (by omega) (by omega) (by omega) (by omega)
      · rw [w_sync h3]
        exact ok_W2 (by omega) (by omega) (by omega) (by omega) (dec_in (dec_in ha))
theorem openok_J {t : ByteArray} {sn st sm : Nat} {a : Int} (ht : t.size ≤ 14073748835124600) (h1 : st ≤ 10000) (h2 : sm ≤ 10000) (ha : -1 ≤ a ∧ a ≤ 9223372036854775807) (hl : (Fm.sc t 0).1.length ≤ 10000000000) : OpenOk (J t sn st sm a) pL := by
  refine ⟨fun h => by rw [j_kind] at h; exact absurd h (by decide), fun _ => ?_⟩
  rw [j_read]
  exact ⟨by show t.size ≤ _; omega, hl, fun _ => fillok_J ht (Nat.le_trans (ext_size _ _) ht) h1 h2 ha⟩
theorem ok_a1 : Ok a1S := by rw [a1_is]; exact ok_small (by decide) (by decide) (by decide) (by decide) (by decide) (by decide) (by decide)
theorem ok_new : Ok newS := ok_small (by decide) (by decide) (by decide) (by decide) (by decide) (by decide) (by decide)
theorem openok_new : OpenOk a1S pL := by
  have hk : kind a1S.L pL = 0 := by decide +kernel
  have hw : writeS a1S pT ⟨#[]⟩ = (0, ⟨[dirV, raw pT ⟨#[]⟩ 1], [], 2, 1, -1, false⟩) := by
    unfold writeS
    rw [fits_none (by decide +kernel)]
    kernel_rfl
  have hs : syncS ⟨[dirV, raw pT ⟨#[]⟩ 1], [], 2, 1, -1, false⟩ pT = (0, ⟨[dirV, syn pT ⟨#[]⟩ 1], [], 3, 1, -1, false⟩) := by kernel_rfl
  refine ⟨fun _ => ⟨ok_a1, ?_, ?_⟩, fun h => absurd hk h⟩
  · rw [pL_tT, hw]
    exact ok_two (A := raw pT ⟨#[]⟩ 1) pTs (by decide) (by decide) (by decide) (by decide)
  · rw [pL_tT, hw]
    show Ok (syncS ⟨[dirV, raw pT ⟨#[]⟩ 1], [], 2, 1, -1, false⟩ pT).2
    rw [hs]
    exact ok_two (A := syn pT ⟨#[]⟩ 1) pTs (by decide) (by decide) (by decide) (by decide)
end Go.Proofs.YtjdmbkkdnonkkaaGreat.Wl

namespace Go.Proofs.YtjdmbkkdnonkkaaGreat.Wl
open Go.RowKit Tx Pm Pl Pr Dk
set_option linter.unusedVariables false
theorem add_PK {l R : List ByteArray} {r : ByteArray} {sn st sm : Nat} {dm : Bool} : addS ⟨J (PK l) sn st sm (-1), R, dm⟩ pL r = (0, ⟨J (PK (l ++ [r])) (sm + 1) (st + 2) (sm + 1) (-1), R ++ [r], dm⟩) := by
  rw [j_add (by decide) (by decide), PK_snoc]
  rfl
theorem open_PK {l : List ByteArray} {sn st sm : Nat} {a : Int} (h : ∀ r ∈ l, r.size ≤ 140737488351232) : openS (J (PK l) sn st sm a) pL = (0, ⟨J (PK l) sn st sm a, l, false⟩) := open_whole (j_kind _ _ _ _ _) (j_read _ _ _ _ _) (scan_all l h)
theorem openok_PK {l : List ByteArray} {sn st sm : Nat} {a : Int} (h : ∀ r ∈ l, r.size ≤ 140737488351232) (hl : l.length ≤ 100) (h1 : st ≤ 10000) (h2 : sm ≤ 10000) (ha : -1 ≤ a ∧ a ≤ 9223372036854775807) : OpenOk (J (PK l) sn st sm a) pL :=
  openok_J (PK_le h hl (by omega)) h1 h2 ha (by rw [scan_all l h]; show l.length ≤ _; omega)
set_option maxRecDepth 100000 in
set_option maxHeartbeats 2000000 in
theorem made_any (w0 W : World) (hb : Below w0.heap.size w0 W) : Calls Tryz.prog 13 #[] W fun e w' => ∃ b, e = .returned (.pointer (some ⟨b, 0, none⟩)) ∧ Own (ImpAt b) w0 a1S w' := by
  have cn := w_new w0 hb
  go_enter Tryz.func13, Tryz.ntmps13
  go_wp2_with fail
  go_at_call 44
  refine cn.mono ?_
  rintro e w1 ⟨b, rfl, o1⟩
  go_wp2_with fail
  go_at_call 62
  refine (w_mkdir (p := pV) o1 ok_new (by decide) a1_mk).mono ?_
  rintro e w2 ⟨rfl, o2⟩
  go_wp2_with fail
  go_ret
  exact ⟨_, rfl, o2⟩
def tOne : ByteArray := ⟨#[111, 110, 101]⟩
theorem one_strs (W : World) (T : TypeId) : Strs (W.alloc (.cells #[.string tOne] T)) (some ⟨W.heap.size, 0, none⟩) 1 [tOne] := by
  refine ⟨rfl, .inr ⟨W.heap.size, 0, rfl, by simp, fun k x hx => ?_⟩⟩
  match k, hx with
  | 0, hx =>
    injection hx with hx
    subst hx
    simp
  | k + 1, hx => cases hx
set_option maxRecDepth 100000 in
set_option maxHeartbeats 4000000 in
theorem awake_any6 (w0 W : World) (hb : Below w0.heap.size w0 W) : Calls Tryz.prog 15 #[] W fun e w' => e = .returned (.bool true) ∧ Below w0.heap.size w0 w' := by
  have cm := made_any w0 W hb
  have hone : ∀ r ∈ [tOne], r.size ≤ 140737488351232 := fun r hr => by
    obtain rfl : r = tOne := by simpa using hr
    decide
  go_enter Tryz.func15, Tryz.ntmps15
  go_wp2_with fail
  go_at_call 13
  refine cm.mono ?_
  rintro e w1 ⟨b, rfl, o1⟩
  go_wp2_with fail
  go_at_call 17
  refine (w_open o1 openok_new new_open).mono ?_
  rintro e w2 ⟨j, rfl, o2⟩
  go_wp2_with fail
  go_at_call 19
  refine (w_add (r := tOne) o2 (addok_J (by decide) (by decide) (by decide) (by decide) (by decide) (by decide)) (add_PK (l := []))).mono ?_
  rintro e w3 ⟨rfl, o3⟩
  go_wp2_with fail
  go_at_call 17
  refine (w_open o3.disk (openok_PK (l := [] ++ [tOne]) hone (by decide) (by decide) (by decide) (by decide)) (open_PK hone)).mono ?_
  rintro e w4 ⟨j2, rfl, o4⟩
  have cr := w_records o4 (by decide)
  go_wp2_with fail
  go_at_call 33
  refine cr.mono ?_
  rintro e w5 ⟨a, c, rfl, hs, hb5⟩
  have o5 := o4.belowJ hb5
  have hs2 := one_strs w5 9
  have hb6 : Below w5.heap.size w5 (w5.alloc (.cells #[.string tOne] 9)) := (Below.refl _ _).alloc (Nat.le_refl _) _
  have cs := same_true a (some ⟨w5.heap.size, 0, none⟩) 1 c 1 [tOne] _ (by decide) (hs.below hb6) hs2
  go_wp2_with fail
  go_at_call 34
  refine cs.mono ?_
  rintro e w7 ⟨rfl, hb7⟩
  have o7 := (o5.belowJ hb6).belowJ hb7
  go_wp2_with fail
  go_at_call 35
  refine (w_damaged o7).mono ?_
  rintro e w8 ⟨rfl, rfl⟩
  go_wp2_with fail
  go_ret
  exact ⟨rfl, o7.bel⟩
end Go.Proofs.YtjdmbkkdnonkkaaGreat.Wl
