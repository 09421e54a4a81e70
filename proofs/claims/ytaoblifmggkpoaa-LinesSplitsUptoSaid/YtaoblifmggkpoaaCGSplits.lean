/-
  LinesSplits, up to the bound: for every text (of at most 1048576 letters): lines.Split gives the document's lines, twice the same, in new memory each time; Count tells how many; Text tells whether it is a text. Condition: the bound of the second form.
-/
import Derived.Test.YtaoblifmggkpoaaT1
import Derived.Deep.QuietTactic
import Derived.BigQuiet
import Derived.ProofKit
import Derived.OpenShut
import Derived.ChangeOld
import Derived.Below
import Derived.SizedLaws
import Derived.ShutString
import Derived.JoinedCond
import Derived.Deep.CondSized
namespace Go.Proofs.Ytaoblifmggkpoaa.Aq
open Go.RowKit Tx
set_option linter.unusedVariables false
def MK : ByteArray := ⟨#[97, 98, 99, 100, 101, 102, 103, 104, 105, 106, 107, 108, 109, 110, 111, 112, 113, 114, 115, 116, 117, 118, 119, 120, 121, 122]⟩
def was (j : Nat) : ByteArray := ⟨#[119, 97, 115]⟩ ++ MK.extract (j % 26) (j % 26 + 1)
def new (j : Nat) : ByteArray := ⟨#[110, 101, 119]⟩ ++ MK.extract (j % 26) (j % 26 + 1)
structure Ls where
  m : Nat
  A : Nat → Option Addr
  N : Nat → Nat
  C : Nat → Nat
  bo : Nat
  B : Nat
namespace Ls
variable (L : Ls)
def cells (w : World) : Prop := ∀ j, j < L.m → w.cell? ⟨L.bo, j, none⟩ = some (.slice (L.A j) (L.N j) (L.C j))
def far : Prop := (∀ i j, i < L.m → j < L.m → i ≠ j → ∀ x, L.A i = some x → L.A j ≠ some x) ∧ ∀ j, j < L.m → ∀ g, L.A j = some ⟨g, 0, none⟩ → g ≠ L.bo
def marked (w : World) (i k : Nat) : Prop := ∀ j, j < L.m → ∃ xs, w.ownsRow L.B 9 1 (.slice (L.A j) (L.N j) (L.C j)) (L.N j) xs ∧ ∀ l, l < L.N j → (j < i ∨ j = i ∧ l < k) → xs[l]? = some (.string (was j))
end Ls
theorem marked_next {L : Ls} {w : World} {i : Nat} (h : L.marked w i (L.N i)) : L.marked w (i + 1) 0 := by
  intro j hj
  obtain ⟨xs, h1, h2⟩ := h j hj
  refine ⟨xs, h1, fun l hl hh => h2 l hl ?_⟩
  rcases hh with hh | ⟨_, hh⟩
  · by_cases e : j = i
    · subst e; exact .inr ⟨rfl, hl⟩
    · exact .inl (by omega)
  · omega
theorem addr_eq {A : Option Addr} {n c : Nat} {w : World} {B : Nat} {e : TypeId} {xs : List Value} (h : w.ownsRow B e 1 (.slice A n c) n xs) (hn : 0 < n) : ∃ g, A = some ⟨g, 0, none⟩ ∧ B ≤ g := by
  obtain ⟨g, cap, hv, hg, _⟩ := h.form hn
  injection hv with ha
  exact ⟨g, ha, hg⟩
theorem marked_store {L : Ls} {w : World} {i k g : Nat} (hf : L.far) (h : L.marked w i k) (hi : i < L.m) (hk : k < L.N i) (ha : L.A i = some ⟨g, 0, none⟩) : L.marked (w.setCell ⟨g, k, none⟩ (.string (was i))) i (k + 1) := by
  intro j hj
  obtain ⟨xs, h1, h2⟩ := h j hj
  by_cases e : j = i
  · subst e
    rw [ha] at h1 ⊢
    refine ⟨xs.set k (.string (was j)), own_store h1 hk _, fun l hl hh => ?_⟩
    have hl2 : k < xs.length := by rw [h1.1]; omega
    by_cases e2 : l = k
    · subst e2
      exact List.getElem?_set_self hl2
    · rw [List.getElem?_set_ne (fun e => e2 e.symm)]
      exact h2 l hl (.inr ⟨rfl, by rcases hh with hh | ⟨_, hh⟩ <;> omega⟩)
  · refine ⟨xs, own_far h1 ?_ _, fun l hl hh => h2 l hl ?_⟩
    · intro hb
      cases hA : L.A j with
      | none => rw [hA] at hb; simp [Value.ownBlock] at hb
      | some x =>
        by_cases h0 : L.N j = 0
        · rcases h1.2 with ⟨hv, _⟩ | ⟨g', cap', cur, hv, _⟩
          · rw [hA] at hv; cases hv
          · rw [hA] at hv hb
            injection hv with hx
            injection hx with hx
            subst hx
            simp only [Value.ownBlock, Option.some.injEq] at hb
            subst hb
            exact hf.1 j i hj hi e _ hA ha
        · obtain ⟨g', ha', _⟩ := addr_eq h1 (by omega)
          rw [hA] at ha' hb
          injection ha' with hx
          subst hx
          simp only [Value.ownBlock, Option.some.injEq] at hb
          subst hb
          exact hf.1 j i hj hi e _ hA ha
    · rcases hh with hh | ⟨hh, _⟩
      · exact .inl hh
      · exact absurd hh e
theorem cells_store {L : Ls} {w : World} {i k g : Nat} (hf : L.far) (h : L.cells w) (hi : i < L.m) (ha : L.A i = some ⟨g, 0, none⟩) (u : Value) : L.cells (w.setCell ⟨g, k, none⟩ u) := by
  intro j hj
  have hne := hf.2 i hi g ha
  rw [World.cell?_setCell_other _ _ _ _ (fun e => hne (by injection e))]
  exact h j hj
def sw (j : Nat) : Value := .string (was j)
def sn (j : Nat) : Value := .string (new j)
def row (L : Ls) (j k : Nat) : List Value := List.replicate (L.N j) (sw j) ++ List.replicate k (sn j)
theorem row_was {L : Ls} {j k l : Nat} (h : l < L.N j) : (row L j k)[l]? = some (sw j) := by
  rw [row, List.getElem?_append_left (by simpa using h), List.getElem?_replicate, if_pos h]
theorem row_new {L : Ls} {j k l : Nat} (h : ¬ l < L.N j) (h2 : l < L.N j + k) : (row L j k)[l]? = some (sn j) := by
  rw [row, List.getElem?_append_right (by simp; omega), List.length_replicate, List.getElem?_replicate, if_pos (by omega)]
theorem row_zero (L : Ls) (j : Nat) : row L j 0 = List.replicate (L.N j) (sw j) := by simp [row]
theorem row_step (L : Ls) (j k : Nat) : row L j k ++ [sn j] = row L j (k + 1) := by
  rw [row, row, List.append_assoc, List.replicate_succ']
theorem own_same {w w1 : World} {base n : Nat} {e : TypeId} {v : Value} {xs : List Value} (h : w.ownsRow base e 1 v n xs) (hk : ∀ q, q < w.heap.size → v.ownBlock = some q → w1.heap[q]? = w.heap[q]?) : w1.ownsRow base e 1 v n xs := by
  refine ⟨h.1, ?_⟩
  rcases h.2 with h0 | ⟨g, cap, cur, rfl, hb, hh, r⟩
  · exact .inl h0
  · exact .inr ⟨g, cap, cur, rfl, hb, (hk g (Array.getElem?_eq_some_iff.1 hh).1 rfl).trans hh, r⟩
theorem own_lt {w : World} {base n : Nat} {e : TypeId} {v : Value} {xs : List Value} (h : w.ownsRow base e 1 v n xs) {g : Nat} (hg : v.ownBlock = some g) : base ≤ g ∧ g < w.heap.size := h.lt g hg
theorem cell_same {w w1 : World} {g k : Nat} {u : Value} (h : w.cell? ⟨g, k, none⟩ = some u) (hk : w1.heap[g]? = w.heap[g]?) : w1.cell? ⟨g, k, none⟩ = some u := (World.cell?_of_block (a := ⟨g, k, none⟩) hk).trans h
structure Inv (L : Ls) (w0 : World) (H i r : Nat) (w : World) (v6 : Value) (vs : List Value) (b c : Nat → Nat) : Prop where
  cells : L.cells w
  held : ∀ j, j < L.m → ∀ l, l < L.N j → ∃ g, L.A j = some ⟨g, 0, none⟩ ∧ w.cell? ⟨g, l, none⟩ = some (sw j)
  rows : ∀ j, r ≤ j → j < L.m → w.ownsRow L.B 9 1 (.slice (L.A j) (L.N j) (L.C j)) (L.N j) (row L j 0)
  outer : w.ownsRow L.B 22 1 v6 i vs
  high : ∀ g, v6.ownBlock = some g → H ≤ g
  long : ∀ j, j < i → vs[j]? = some (.slice (some ⟨b j, 0, none⟩) (L.N j + 20) (c j)) ∧ w.ownsRow L.B 9 1 (.slice (some ⟨b j, 0, none⟩) (L.N j + 20) (c j)) (L.N j + 20) (row L j 20) ∧ (L.A j = some ⟨b j, 0, none⟩ ∨ H ≤ b j)
  apart : ∀ j k, j < i → k < i → j ≠ k → b j ≠ b k
  low : ∀ j, j < L.m → ∀ g, L.A j = some ⟨g, 0, none⟩ → g < H
  bo : L.bo < H
  size : H ≤ w.heap.size
  below : Below L.B w0 w
  base : L.B ≤ H
structure Cur (L : Ls) (H i k : Nat) (w : World) (v : Value) (b : Nat → Nat) : Prop where
  own : w.ownsRow L.B 9 1 v (L.N i + k) (row L i k)
  at_ : ∀ g, v.ownBlock = some g → (L.A i = some ⟨g, 0, none⟩ ∨ H ≤ g) ∧ ∀ j, j < i → b j ≠ g
theorem inv_start {L : Ls} {w0 w : World} (hf : L.far) (hc : L.cells w) (hm : L.marked w L.m 0) (hbo : L.bo < w.heap.size) (hB : L.B ≤ w.heap.size) (hb : Below L.B w0 w) : Inv L w0 w.heap.size 0 0 w (.slice none 0 0) [] (fun _ => 0) (fun _ => 0) := by
  have hrow : ∀ j, j < L.m → w.ownsRow L.B 9 1 (.slice (L.A j) (L.N j) (L.C j)) (L.N j) (row L j 0) := by
    intro j hj
    obtain ⟨xs, h1, h2⟩ := hm j hj
    have e : xs = row L j 0 := by
      rw [row_zero]
      apply List.ext_getElem?
      intro l
      rw [List.getElem?_replicate]
      by_cases hl : l < L.N j
      · rw [if_pos hl]; exact h2 l hl (.inl hj)
      · rw [if_neg hl, List.getElem?_eq_none (by rw [h1.1]; omega)]
    rw [← e]
    exact h1
  refine ⟨hc, ?_, fun j _ hj => hrow j hj, World.ownsRow_nil _ _ _ _, fun g hg => by simp [Value.ownBlock] at hg, fun j hj => absurd hj (by omega), fun j k hj => absurd hj (by omega), ?_, hbo, Nat.le_refl _, hb, hB⟩
  · intro j hj l hl
    have h1 := hrow j hj
    obtain ⟨g, ha, _⟩ := addr_eq h1 (by omega)
    rw [ha] at h1
    exact ⟨g, ha, own_cell h1 (row_was hl)⟩
  · intro j hj g ha
    have h1 := hrow j hj
    rw [ha] at h1
    exact (own_lt h1 rfl).2
theorem cur_start {L : Ls} {w0 w : World} {H i r : Nat} {v6 : Value} {vs : List Value} {b c : Nat → Nat} (hf : L.far) (h : Inv L w0 H i r w v6 vs b c) (hr : r ≤ i) (hi : i < L.m) : Cur L H i 0 w (.slice (L.A i) (L.N i) (L.C i)) b := by
  have h1 := h.rows i hr hi
  refine ⟨h1, fun g hg => ?_⟩
  have ha : L.A i = some ⟨g, 0, none⟩ := by
    rcases h1.2 with ⟨hv, _⟩ | ⟨g', cap', cur, hv, _⟩
    · rw [hv] at hg; simp [Value.ownBlock] at hg
    · rw [hv] at hg
      simp only [Value.ownBlock, Option.some.injEq] at hg
      subst hg
      injection hv
  refine ⟨.inl ha, fun j hj e => ?_⟩
  rcases (h.long j hj).2.2 with h2 | h2
  · rw [e] at h2
    exact hf.1 j i (by omega) hi (by omega) _ h2 ha
  · have := h.low i hi g ha
    omega
theorem cur_step {L : Ls} {w0 w w1 : World} {H i k r : Nat} {v v1 v6 : Value} {vs : List Value} {b c : Nat → Nat} {o : Obj} (hf : L.far) (h : Inv L w0 H i r w v6 vs b c) (hi : i < L.m) (hc : Cur L H i k w v b)
    (hown : w1.ownsRow L.B 9 1 v1 (L.N i + k + 1) (row L i k ++ [sn i]))
    (hg : (v1.ownBlock = v.ownBlock ∧ (w.alloc o).grownBy w1 v.ownBlock) ∨ (v1.ownBlock = some (w.heap.size + 1) ∧ (w.alloc o).grownBy w1 none)) :
    (∀ q, q < w.heap.size → (∀ g, v.ownBlock = some g → q ≠ g) → w1.heap[q]? = w.heap[q]?) ∧ Cur L H i (k + 1) w1 v1 b ∧ w.heap.size ≤ w1.heap.size ∧ Below L.B w0 w1 ∧
      (∀ q, L.A i = some ⟨q, 0, none⟩ → ∀ l, l < L.N i → w1.cell? ⟨q, l, none⟩ = some (sw i)) := by
  have hB : L.B ≤ w.heap.size := Nat.le_trans h.base h.size
  have hal : w.heap.size + 1 = (w.alloc o).heap.size := (World.size_alloc _ _).symm
  have hk : ∀ q, q < w.heap.size → (∀ g, v.ownBlock = some g → q ≠ g) → w1.heap[q]? = w.heap[q]? := by
    intro q hq hne
    rcases hg with ⟨_, hg⟩ | ⟨_, hg⟩
    · exact (hg.block q (by omega) (fun e => hne q e.symm rfl)).trans (Below.heap_alloc w o q hq)
    · exact (hg.block q (by omega) (by simp)).trans (Below.heap_alloc w o q hq)
  have hown2 : w1.ownsRow L.B 9 1 v1 (L.N i + (k + 1)) (row L i (k + 1)) := by
    rw [← row_step]
    exact hown
  have hsz : w.heap.size ≤ w1.heap.size := by
    rcases hg with ⟨_, hg⟩ | ⟨_, hg⟩
    · have := hg.size; omega
    · have := hg.size; omega
  have hbel : Below L.B w0 w1 := by
    have h2 := h.below.alloc hB o
    rcases hg with ⟨_, hg⟩ | ⟨_, hg⟩
    · exact h2.grown hg (by omega) (fun q hq => (own_lt hc.own hq).1)
    · exact h2.grown hg (by omega) (fun q hq => by cases hq)
  refine ⟨hk, ⟨hown2, fun g hg1 => ?_⟩, hsz, hbel, fun q hq l hl => ?_⟩
  · rcases hg with ⟨he, _⟩ | ⟨he, _⟩
    · exact hc.at_ g (by rw [← he]; exact hg1)
    · rw [he] at hg1
      injection hg1 with hg1
      have hs := h.size
      refine ⟨.inr (by omega), fun j hj e => ?_⟩
      have h9 : b j < w.heap.size := (own_lt (h.long j hj).2.1 rfl).2
      omega
  · by_cases hv : v.ownBlock = some q
    · rcases hg with ⟨he, _⟩ | ⟨_, hg⟩
      · obtain ⟨g', cap', hv', _, _⟩ := hown2.form (by omega)
        rw [hv'] at he hown2
        rw [hv] at he
        simp only [Value.ownBlock, Option.some.injEq] at he
        subst he
        exact own_cell hown2 (row_was hl)
      · obtain ⟨g', hA, hcell⟩ := h.held i hi l hl
        rw [hq] at hA
        injection hA with hA
        injection hA with hA
        subst hA
        have hq' := World.block_lt_of_cell? w _ hcell
        exact cell_same hcell ((hg.block q (by have : q < w.heap.size := hq'; omega) (by simp)).trans (Below.heap_alloc w o q hq'))
    · obtain ⟨g', hA, hcell⟩ := h.held i hi l hl
      rw [hq] at hA
      injection hA with hA
      injection hA with hA
      subst hA
      exact cell_same hcell (hk q (World.block_lt_of_cell? w _ hcell) (fun g hg e => hv (by rw [hg, e])))
theorem inv_step {L : Ls} {w0 w w1 : World} {H i k r : Nat} {v v6 : Value} {vs : List Value} {b c : Nat → Nat} (hf : L.far) (h : Inv L w0 H i r w v6 vs b c) (hi : i < L.m) (hc : Cur L H i k w v b) (rowsi : ∀ j, i < j → j < L.m → w.ownsRow L.B 9 1 (.slice (L.A j) (L.N j) (L.C j)) (L.N j) (row L j 0))
    (hk : ∀ q, q < w.heap.size → (∀ g, v.ownBlock = some g → q ≠ g) → w1.heap[q]? = w.heap[q]?) (hsz : w.heap.size ≤ w1.heap.size) (hbel : Below L.B w0 w1)
    (hi1 : ∀ q, L.A i = some ⟨q, 0, none⟩ → ∀ l, l < L.N i → w1.cell? ⟨q, l, none⟩ = some (sw i)) :
    L.cells w1 ∧ (∀ j, j < L.m → ∀ l, l < L.N j → ∃ g, L.A j = some ⟨g, 0, none⟩ ∧ w1.cell? ⟨g, l, none⟩ = some (sw j)) ∧
      (∀ j, i < j → j < L.m → w1.ownsRow L.B 9 1 (.slice (L.A j) (L.N j) (L.C j)) (L.N j) (row L j 0)) ∧ w1.ownsRow L.B 22 1 v6 i vs ∧
      (∀ j, j < i → vs[j]? = some (.slice (some ⟨b j, 0, none⟩) (L.N j + 20) (c j)) ∧ w1.ownsRow L.B 9 1 (.slice (some ⟨b j, 0, none⟩) (L.N j + 20) (c j)) (L.N j + 20) (row L j 20) ∧ (L.A j = some ⟨b j, 0, none⟩ ∨ H ≤ b j)) := by
  have hs := h.size
  have hbo := h.bo
  refine ⟨fun j hj => ?_, fun j hj l hl => ?_, fun j hij hj => ?_, ?_, fun j hj => ?_⟩
  · refine cell_same (h.cells j hj) (hk L.bo (by omega) (fun g hg e => ?_))
    subst e
    rcases (hc.at_ _ hg).1 with ha | ha
    · exact hf.2 i hi _ ha rfl
    · omega
  · by_cases e : j = i
    · subst e
      obtain ⟨g, ha, _⟩ := h.held j hj l hl
      exact ⟨g, ha, hi1 g ha l hl⟩
    · obtain ⟨g, ha, hcell⟩ := h.held j hj l hl
      refine ⟨g, ha, cell_same hcell (hk g (World.block_lt_of_cell? w _ hcell) (fun q hq e2 => ?_))⟩
      subst e2
      rcases (hc.at_ _ hq).1 with h2 | h2
      · exact hf.1 j i hj hi e _ ha h2
      · have := h.low j hj _ ha
        omega
  · have h1 := rowsi j hij hj
    refine own_same h1 (fun q hq hv => hk q hq (fun g hg e => ?_))
    subst e
    have ha : L.A j = some ⟨q, 0, none⟩ := by
      rcases h1.2 with ⟨hv2, _⟩ | ⟨g', cap', cur, hv2, _⟩
      · rw [hv2] at hv; simp [Value.ownBlock] at hv
      · rw [hv2] at hv
        simp only [Value.ownBlock, Option.some.injEq] at hv
        subst hv
        injection hv2
    rcases (hc.at_ _ hg).1 with h2 | h2
    · exact hf.1 j i hj hi (by omega) _ ha h2
    · have := h.low j hj _ ha
      omega
  · exact own_same h.outer (fun q hq hv => hk q hq (fun g hg e => by
      subst e
      exact types_ne hc.own h.outer (by decide) hg hv))
  · obtain ⟨h1, h2, h3⟩ := h.long j hj
    refine ⟨h1, own_same h2 (fun q hq hv => hk q hq (fun g hg e => ?_)), h3⟩
    simp only [Value.ownBlock, Option.some.injEq] at hv
    subst hv
    exact (hc.at_ g hg).2 j hj e
theorem inv_next {L : Ls} {w0 w w1 : World} {H i bv cv r : Nat} {v6 v7 : Value} {vs : List Value} {b c : Nat → Nat} {o : Obj} (hf : L.far) (h : Inv L w0 H i r w v6 vs b c) (hi : i < L.m) (hc : Cur L H i 20 w (.slice (some ⟨bv, 0, none⟩) (L.N i + 20) cv) b)
    (rowsi : ∀ j, i < j → j < L.m → w.ownsRow L.B 9 1 (.slice (L.A j) (L.N j) (L.C j)) (L.N j) (row L j 0))
    (hown : w1.ownsRow L.B 22 1 v7 (i + 1) (vs ++ [.slice (some ⟨bv, 0, none⟩) (L.N i + 20) cv]))
    (hg : (v7.ownBlock = v6.ownBlock ∧ (w.alloc o).grownBy w1 v6.ownBlock) ∨ (v7.ownBlock = some (w.heap.size + 1) ∧ (w.alloc o).grownBy w1 none)) :
    Inv L w0 H (i + 1) (i + 1) w1 v7 (vs ++ [.slice (some ⟨bv, 0, none⟩) (L.N i + 20) cv]) (fun j => if j = i then bv else b j) (fun j => if j = i then cv else c j) := by
  have hB : L.B ≤ w.heap.size := Nat.le_trans h.base h.size
  have hal : w.heap.size + 1 = (w.alloc o).heap.size := (World.size_alloc _ _).symm
  have hs := h.size
  have hbo := h.bo
  have hvl : vs.length = i := by have := h.outer.1; omega
  have hk : ∀ q, q < w.heap.size → (∀ g, v6.ownBlock = some g → q ≠ g) → w1.heap[q]? = w.heap[q]? := by
    intro q hq hne
    rcases hg with ⟨_, hg⟩ | ⟨_, hg⟩
    · exact (hg.block q (by omega) (fun e => hne q e.symm rfl)).trans (Below.heap_alloc w o q hq)
    · exact (hg.block q (by omega) (by simp)).trans (Below.heap_alloc w o q hq)
  have hsz : w.heap.size ≤ w1.heap.size := by
    rcases hg with ⟨_, hg⟩ | ⟨_, hg⟩
    · have := hg.size; omega
    · have := hg.size; omega
  have hbel : Below L.B w0 w1 := by
    have h2 := h.below.alloc hB o
    rcases hg with ⟨_, hg⟩ | ⟨_, hg⟩
    · exact h2.grown hg (by omega) (fun q hq => (own_lt h.outer hq).1)
    · exact h2.grown hg (by omega) (fun q hq => by cases hq)
  have hrow : ∀ {n : Nat} {v : Value} {xs : List Value}, w.ownsRow L.B 9 1 v n xs → w1.ownsRow L.B 9 1 v n xs := by
    intro n v xs h1
    exact own_same h1 (fun q hq hv => hk q hq (fun g hg e => by
      subst e
      exact types_ne h1 h.outer (by decide) hv hg))
  refine ⟨fun j hj => ?_, fun j hj l hl => ?_, fun j hij hj => hrow (rowsi j (by omega) hj), hown, fun g hg7 => ?_, fun j hj => ?_, fun j k hj hk2 hne => ?_, h.low, hbo, by omega, hbel, h.base⟩
  · refine cell_same (h.cells j hj) (hk L.bo (by omega) (fun g hg e => ?_))
    have := h.high g hg
    omega
  · obtain ⟨g, ha, hcell⟩ := h.held j hj l hl
    refine ⟨g, ha, cell_same hcell (hk g (World.block_lt_of_cell? w _ hcell) (fun q hq e2 => ?_))⟩
    have h1 := h.high q hq
    have h2 := h.low j hj g ha
    omega
  · rcases hg with ⟨he, _⟩ | ⟨he, _⟩
    · exact h.high g (by rw [← he]; exact hg7)
    · rw [he] at hg7
      injection hg7 with hg7
      omega
  · by_cases e : j = i
    · subst e
      rw [if_pos rfl, if_pos rfl]
      refine ⟨?_, hrow hc.own, (hc.at_ bv rfl).1⟩
      rw [List.getElem?_append_right (by omega), hvl, Nat.sub_self]
      rfl
    · rw [if_neg e, if_neg e]
      obtain ⟨h1, h2, h3⟩ := h.long j (by omega)
      refine ⟨?_, hrow h2, h3⟩
      rw [List.getElem?_append_left (by omega)]
      exact h1
  · by_cases e : j = i
    · by_cases e2 : k = i
      · omega
      · rw [if_pos e, if_neg e2]
        exact fun hh => (hc.at_ bv rfl).2 k (by omega) hh.symm
    · by_cases e2 : k = i
      · rw [if_neg e, if_pos e2]
        exact fun hh => (hc.at_ bv rfl).2 j (by omega) hh
      · rw [if_neg e, if_neg e2]
        exact h.apart j k (by omega) (by omega) hne
theorem both_step {L : Ls} {w0 w w1 : World} {H i k r : Nat} {v v1 v6 : Value} {vs : List Value} {b c : Nat → Nat} {o : Obj} (hf : L.far) (h : Inv L w0 H i r w v6 vs b c) (hr : r ≤ i + 1) (hi : i < L.m) (hc : Cur L H i k w v b)
    (hown : w1.ownsRow L.B 9 1 v1 (L.N i + k + 1) (row L i k ++ [sn i]))
    (hg : (v1.ownBlock = v.ownBlock ∧ (w.alloc o).grownBy w1 v.ownBlock) ∨ (v1.ownBlock = some (w.heap.size + 1) ∧ (w.alloc o).grownBy w1 none)) :
    Inv L w0 H i (i + 1) w1 v6 vs b c ∧ Cur L H i (k + 1) w1 v1 b := by
  obtain ⟨hk, hc1, hsz, hbel, hi1⟩ := cur_step hf h hi hc hown hg
  have rowsi := fun j (hij : i < j) (hj : j < L.m) => h.rows j (by omega) hj
  obtain ⟨a1, a2, a3, a4, a5⟩ := inv_step hf h hi hc rowsi hk hsz hbel hi1
  exact ⟨⟨a1, a2, fun j hij hj => a3 j (by omega) hj, a4, h.high, a5, h.apart, h.low, h.bo, Nat.le_trans h.size hsz, hbel, h.base⟩, hc1⟩
theorem outer_next {L : Ls} {w0 w w1 : World} {H i bv cv r : Nat} {v6 v7 : Value} {vs : List Value} {b c : Nat → Nat} {o : Obj} (hf : L.far) (h : Inv L w0 H i r w v6 vs b c) (hr : r ≤ i + 1) (hi : i < L.m) (hc : Cur L H i 20 w (.slice (some ⟨bv, 0, none⟩) (L.N i + 20) cv) b)
    (hown : w1.ownsRow L.B 22 1 v7 (i + 1) (vs ++ [.slice (some ⟨bv, 0, none⟩) (L.N i + 20) cv]))
    (hg : (v7.ownBlock = v6.ownBlock ∧ (w.alloc o).grownBy w1 v6.ownBlock) ∨ (v7.ownBlock = some (w.heap.size + 1) ∧ (w.alloc o).grownBy w1 none)) :
    ∃ b2 c2, Inv L w0 H (i + 1) (i + 1) w1 v7 (vs ++ [.slice (some ⟨bv, 0, none⟩) (L.N i + 20) cv]) b2 c2 :=
  ⟨_, _, inv_next hf h hi hc (fun j hij hj => h.rows j (by omega) hj) hown hg⟩
theorem inv_more {L : Ls} {w0 w : World} {H i r : Nat} {v6 : Value} {vs : List Value} {b c : Nat → Nat} (h : Inv L w0 H i r w v6 vs b c) (hr : r ≤ i + 1) : Inv L w0 H i (i + 1) w v6 vs b c :=
  ⟨h.cells, h.held, fun j hij hj => h.rows j (by omega) hj, h.outer, h.high, h.long, h.apart, h.low, h.bo, h.size, h.below, h.base⟩
end Go.Proofs.Ytaoblifmggkpoaa.Aq

namespace Go.Proofs.Ytaoblifmggkpoaa.Aq
open Go.RowKit Tx
set_option linter.unusedVariables false
theorem info33 : (Try.prog.info? 22).map (fun i => (i.zero, i.size, i.bytes)) = some (some (.slice none 0 0), 1, 24) := by kernel_rfl
set_option maxRecDepth 100000 in
set_option maxHeartbeats 4000000 in
theorem apart_any (L : Ls) (co : Nat) (w : World) (hm : L.m ≤ 1048576) (hN : ∀ j, j < L.m → L.N j ≤ 10000000000) (hB : L.B ≤ w.heap.size) (hbo : L.bo < w.heap.size) (hbB : L.B ≤ L.bo) (hf : L.far) (hc : L.cells w) (hr : L.marked w 0 0) :
    Calls Try.prog 13 #[.slice (some ⟨L.bo, 0, none⟩) L.m co] w fun e w' => e = .returned (.bool true) ∧ Below L.B w w' := by
  obtain ⟨i0, hi0, hz0, hz1, hz2⟩ := info_parts info9
  obtain ⟨i33, hi33, hy0, hy1, hy2⟩ := info_parts info33
  have HN := Lib.hid hN
  have HF := Lib.hid hf
  have HC := Lib.hid hc
  have HR := Lib.hid hr
  clear hN hf hc hr
  go_enter Try.func13, Try.ntmps13
  go_wp2
  obtain ⟨M, hM⟩ : ∃ M, M = MK := ⟨_, rfl⟩
  have hM26 : 26 ≤ M.size := by rw [hM]; decide
  rw [show ({ data := #[97, 98, 99, 100, 101, 102, 103, 104, 105, 106, 107, 108, 109, 110, 111, 112, 113, 114, 115, 116, 117, 118, 119, 120, 121, 122] } : ByteArray) = MK from rfl, ← hM]
  have HM := Lib.hid hM
  clear hM
  go_loopw [4, 5] (fun i _ wr => ∃ j : Nat, j ≤ L.m ∧ i = .int .i64 j ∧ Hid (L.cells wr) ∧ Hid (L.marked wr j 0) ∧ Below L.B w wr ∧ w.heap.size ≤ wr.heap.size) (fun i _ _ => L.m - (intOf i).toNat)
  case atStart => exact ⟨0, Nat.zero_le _, rfl, HC, HR, Below.refl _ _, Nat.le_refl _⟩
  case round =>
    obtain ⟨i, hi, rfl, hcells, hmark, hb, hsz⟩ := hrel
    by_cases hlt : i < L.m
    · have hcell := hcells.out i hlt
      have hNi := HN.out i hlt
      obtain ⟨n, hn⟩ : ∃ n, n = L.N i := ⟨_, rfl⟩
      rw [← hn] at hcell hNi
      have HNN := Lib.hid hn
      clear hn
      obtain ⟨r, hr⟩ : ∃ r, r = i % 26 := ⟨_, rfl⟩
      have hrl : r < 26 := by omega
      have hr1 : (i : Int) % 26 = (r : Int) := by omega
      have hr2 : (i : Int).tmod 26 = (r : Int) := by rw [Int.tmod_eq_emod_of_nonneg (by omega)]; exact hr1
      have hr3 : IntKind.i64.wrap ((r : Int) + 1) = (r : Int) + 1 := IntWalk.i64_in _ (by omega)
      have hr4 : ((r : Int) + 1).toNat = r + 1 := by omega
      have hW : ({ data := #[119, 97, 115] } : ByteArray) ++ M.extract r (r + 1) = was i := by rw [was, HM.out, hr]
      have hWs : (M.extract r (r + 1)).size ≤ 1 := by simp; omega
      obtain ⟨Y, hY⟩ : ∃ Y, Y = was i := ⟨_, rfl⟩
      rw [← hY] at hW
      have HY := Lib.hid hY
      clear hr hY
      go_wp2
      go_loopw [5] (fun x wx => ∃ k : Nat, k ≤ n ∧ x = .int .i64 k ∧ Hid (L.cells wx) ∧ Hid (L.marked wx i k) ∧ Below L.B w wx ∧ w.heap.size ≤ wx.heap.size) (fun x _ => n - (intOf x).toNat)
      case atStart => exact ⟨0, Nat.zero_le _, rfl, hcells, hmark, hb, hsz⟩
      case round =>
        obtain ⟨k, hk, rfl, hcells2, hmark2, hb2, hsz2⟩ := hrel
        have hcell2 := hcells2.out i hlt
        rw [← HNN.out] at hcell2
        clear hcell hcells hmark hb hsz
        by_cases hkn : k < n
        · obtain ⟨xs, hx1, hx2⟩ := hmark2.out i hlt
          rw [← HNN.out] at hx1
          obtain ⟨g, ha, hg⟩ := addr_eq hx1 (by omega)
          rw [ha] at hcell2 hx1
          have hfz := own_frozen hx1 k
          have hst := own_cell hx1 (List.getElem?_eq_getElem (show k < xs.length by rw [hx1.1]; omega))
          obtain ⟨old, hold⟩ : ∃ old, old = xs[k]'(by rw [hx1.1]; omega) := ⟨_, rfl⟩
          rw [← hold] at hst
          have hkn' : (k : Int) < (n : Int) := by omega
          have hlt' : (i : Int) < (L.m : Int) := by omega
          have HX := Lib.hid hx1
          clear hx1 hx2 hold
          go_wp2
          go_region
          all_goals
            go_wp2
            go_roundw
            case rel => exact ⟨k + 1, by omega, by go_num, cells_store HF.out hcells2.out hlt ha _, by rw [HY.out]; exact marked_store HF.out hmark2.out hlt (by rw [← HNN.out]; exact hkn) ha, (hb2.setCell (p := ⟨g, k, none⟩) hg _).drew, by simpa [World.setCell] using hsz2⟩
            case measure => simp [intOf]; omega
        · obtain rfl : k = n := by omega
          have hdone : Hid (L.marked wr (i + 1) 0) := marked_next (by rw [← HNN.out]; exact hmark2.out)
          go_wp2
          go_roundw
          case rel => exact ⟨i + 1, by omega, by go_num, hcells2, hdone, hb2, hsz2⟩
          case measure => simp [intOf]; omega
    · obtain rfl : i = L.m := by omega
      clear HC HR
      have hinv := inv_start HF.out hcells.out hmark.out (by omega) (by omega) hb
      have HI := Lib.hid hinv
      obtain ⟨H, hH⟩ : ∃ H, H = wr.heap.size := ⟨_, rfl⟩
      rw [← hH] at HI
      clear hinv hH hcells hmark hb hsz hlt
      go_wp2
      go_loopw [6, 7, 8, 9] (fun v6 i _ _ wx => ∃ (k : Nat) (vs : List Value) (b c : Nat → Nat), k ≤ L.m ∧ i = .int .i64 k ∧ Hid (Inv L w H k k wx v6 vs b c)) (fun _ i _ _ _ => L.m - (intOf i).toNat)
      case atStart => exact ⟨0, [], _, _, Nat.zero_le _, rfl, HI⟩
      case round =>
        obtain ⟨i, vs, b, c, hi, rfl, HV⟩ := hrel
        clear HI
        by_cases hlt : i < L.m
        · have hcell := HV.out.cells i hlt
          have hcur := Lib.hid (cur_start HF.out HV.out (Nat.le_refl _) hlt)
          have hmore := Lib.hid (inv_more HV.out (by omega))
          have hNi := HN.out i hlt
          have hlt' : (i : Int) < (L.m : Int) := by omega
          obtain ⟨r, hr⟩ : ∃ r, r = i % 26 := ⟨_, rfl⟩
          have hrl : r < 26 := by omega
          have hr1 : (i : Int) % 26 = (r : Int) := by omega
          have hX : ({ data := #[110, 101, 119] } : ByteArray) ++ M.extract r (r + 1) = new i := by rw [new, HM.out, hr]
          have hXs : (M.extract r (r + 1)).size ≤ 1 := by simp; omega
          obtain ⟨Y, hY⟩ : ∃ Y, Y = new i := ⟨_, rfl⟩
          rw [← hY] at hX
          have HY := Lib.hid hY
          clear hr hY
          go_wp2
          go_loopw [8, 9] (fun v x wy => ∃ k : Nat, k ≤ 20 ∧ x = .int .i64 k ∧ Hid (Inv L w H i (i + 1) wy u6 vs b c) ∧ Hid (Cur L H i k wy v b)) (fun _ x _ => 20 - (intOf x).toNat)
          case atStart => exact ⟨0, by omega, rfl, hmore, hcur⟩
          case round =>
            obtain ⟨k, hk, rfl, hI, hC⟩ := hrel
            clear HV hcell hcur hmore
            have hsz := hI.out.size
            have hbs := hI.out.base
            by_cases hk20 : k < 20
            · have hown := hC.out.own
              go_wp2_with (at_builtin; refine wpList_append_two _ rfl _ _ 22 rfl L.B 9 i0 (.string ⟨#[]⟩) 16 Try.underlying22 hi0 hz0 hz1 hz2 rfl _ _ _ rfl (hown.alloc _) ⟨wr.heap.size, 0, none⟩ 1 (.string Y) rfl ?c1 rfl ?c3 ?c4 ?c5 ?_)
              case c1 => go_simp
              case c3 => omega
              case c4 => omega
              case c5 => simp; omega
              intro v1 w1 hown1 hg1
              have hst := both_step HF.out hI.out (Nat.le_refl _) hlt hC.out (by rw [HY.out] at hown1; exact hown1) hg1
              have h1 := Lib.hid hst.1
              have h2 := Lib.hid hst.2
              clear hst hown hown1 hg1
              go_wp2
              go_roundw
              case rel => exact ⟨k + 1, by omega, by go_num, h1, h2⟩
              case measure => simp [intOf]; omega
            · obtain rfl : k = 20 := by omega
              obtain ⟨bv, cv, hv, _, _⟩ := hC.out.own.form (by omega)
              rw [hv] at hC ⊢
              clear hv
              have hout := hI.out.outer
              go_wp2_with (at_builtin; refine wpList_append_two _ rfl _ _ 30 rfl L.B 22 i33 (.slice none 0 0) 24 Try.underlying30 hi33 hy0 hy1 hy2 rfl _ _ _ rfl (hout.alloc _) ⟨wr.heap.size, 0, none⟩ 1 (.slice (some ⟨bv, 0, none⟩) (L.N i + 20) cv) rfl ?c1 rfl ?c3 ?c4 ?c5 ?_)
              case c1 => go_simp
              case c3 => omega
              case c4 => omega
              case c5 => simp; omega
              intro v7 w1 hown1 hg1
              obtain ⟨b2, c2, hst⟩ := outer_next HF.out hI.out (Nat.le_refl _) hlt hC.out hown1 hg1
              have h1 := Lib.hid hst
              clear hst hout hown1 hg1
              go_wp2
              go_roundw
              case rel => exact ⟨i + 1, _, b2, c2, by omega, by go_num, h1⟩
              case measure => simp [intOf]; omega
        · obtain rfl : i = L.m := by omega
          have hbelow := HV.out.below
          by_cases hm0 : L.m = 0
          · have hm0' : (L.m : Int) ≤ 0 := by omega
            go_wp2
            go_loop [10] (fun i => i = .int .i64 0) (fun _ => 0)
            case atStart => exact rfl
            case round =>
              obtain rfl := hrel
              go_wp2
              go_ret
              exact ⟨rfl, hbelow⟩
          · obtain ⟨g6, c6, hv6, _, _⟩ := HV.out.outer.form (by omega)
            rw [hv6] at HV ⊢
            clear hv6 hm0
            go_wp2
            go_loop [10, 11, 12] (fun i _ _ => ∃ j : Nat, j ≤ L.m ∧ i = .int .i64 j) (fun i _ _ => L.m - (intOf i).toNat)
            case atStart => exact ⟨0, Nat.zero_le _, rfl⟩
            case round =>
              obtain ⟨j, hj, rfl⟩ := hrel
              by_cases hjm : j < L.m
              · obtain ⟨hlv, hlo, _⟩ := HV.out.long j hjm
                have hcl := own_cell HV.out.outer hlv
                have hcj := HV.out.cells j hjm
                have HLO := Lib.hid hlo
                have HH := Lib.hid (HV.out.held j hjm)
                have hNj := HN.out j hjm
                have hjm' : (j : Int) < (L.m : Int) := by omega
                obtain ⟨n, hn⟩ : ∃ n, n = L.N j := ⟨_, rfl⟩
                obtain ⟨bj, hbj⟩ : ∃ x, x = b j := ⟨_, rfl⟩
                obtain ⟨cj, hcj2⟩ : ∃ x, x = c j := ⟨_, rfl⟩
                rw [← hn, ← hbj, ← hcj2] at hcl HLO
                rw [← hn] at hcj hNj HH
                have HNN := Lib.hid hn
                clear hn hbj hcj2 hlo hlv
                obtain ⟨r, hr⟩ : ∃ r, r = j % 26 := ⟨_, rfl⟩
                have hrl : r < 26 := by omega
                have hr1 : (j : Int) % 26 = (r : Int) := by omega
                have hXs : (M.extract r (r + 1)).size ≤ 1 := by simp; omega
                have hW : ({ data := #[119, 97, 115] } : ByteArray) ++ M.extract r (r + 1) = was j := by rw [was, HM.out, hr]
                have hX : ({ data := #[110, 101, 119] } : ByteArray) ++ M.extract r (r + 1) = new j := by rw [new, HM.out, hr]
                obtain ⟨Wj, hWj⟩ : ∃ x, x = was j := ⟨_, rfl⟩
                obtain ⟨Xj, hXj⟩ : ∃ x, x = new j := ⟨_, rfl⟩
                rw [← hWj] at hW
                rw [← hXj] at hX
                have HWJ := Lib.hid hWj
                have HXJ := Lib.hid hXj
                clear hr hWj hXj
                go_wp2
                go_loop [11, 12] (fun x _ => ∃ l : Nat, l ≤ n + 20 ∧ x = .int .i64 l) (fun x _ => n + 20 - (intOf x).toNat)
                case atStart => exact ⟨0, Nat.zero_le _, rfl⟩
                case round =>
                  obtain ⟨l, hl, rfl⟩ := hrel
                  by_cases hln : l < n
                  · obtain ⟨g, ha, hcg⟩ := HH.out l hln
                    have hcb := own_cell HLO.out (row_was (L := L) (j := j) (k := 20) (l := l) (by rw [← HNN.out]; exact hln))
                    rw [sw, ← HWJ.out] at hcg hcb
                    rw [ha] at hcj
                    have hln1 : (l : Int) < (n : Int) := by omega
                    have hln2 : (l : Int) < (n : Int) + 20 := by omega
                    go_wp2
                    go_round
                    case rel => exact ⟨l + 1, by omega, by go_num⟩
                    case measure => simp [intOf]; omega
                  · by_cases hl20 : l < n + 20
                    · have hcb := own_cell HLO.out (row_new (L := L) (j := j) (k := 20) (l := l) (by rw [← HNN.out]; exact hln) (by rw [← HNN.out]; exact hl20))
                      rw [sn, ← HXJ.out] at hcb
                      have hln1 : (n : Int) ≤ (l : Int) := by omega
                      have hln2 : (l : Int) < (n : Int) + 20 := by omega
                      go_wp2
                      go_round
                      case rel => exact ⟨l + 1, by omega, by go_num⟩
                      case measure => simp [intOf]; omega
                    · obtain rfl : l = n + 20 := by omega
                      go_wp2
                      go_round
                      case rel => exact ⟨j + 1, by omega, by go_num⟩
                      case measure => simp [intOf]; omega
              · go_wp2
                go_ret
                exact ⟨rfl, hbelow⟩
end Go.Proofs.Ytaoblifmggkpoaa.Aq

namespace Go.Proofs.Ytaoblifmggkpoaa.Aq
open Go.RowKit Tx
set_option linter.unusedVariables false
theorem texts_row {w : World} {B B2 n c : Nat} {a : Option Addr} {l : List ByteArray} (h : Texts w B (.slice a n c) l) (hB : B2 ≤ B) (hn : l.length = n) : w.ownsRow B2 9 1 (.slice a n c) n (l.map sv) := by
  subst hn
  refine ⟨h.1, ?_⟩
  rcases h.2 with h0 | ⟨g, cap, cur, hv, hg, r⟩
  · exact .inl h0
  · exact .inr ⟨g, cap, cur, hv, by omega, r⟩
theorem texts_block {w : World} {B n c : Nat} {a : Option Addr} {x : Addr} {l : List ByteArray} (h : Texts w B (.slice a n c) l) (ha : a = some x) : B ≤ x.block ∧ x.block < w.heap.size := by
  rcases h.2 with ⟨hv, _⟩ | ⟨g, cap, cur, hv, hg, hh, _⟩
  · injection hv with h1
    rw [ha] at h1
    cases h1
  · injection hv with h1
    rw [ha] at h1
    injection h1 with h1
    subst h1
    exact ⟨hg, (Array.getElem?_eq_some_iff.1 hh).1⟩
def two (a b : Option Addr) (n ca cb bo B : Nat) : Ls := { m := 2, A := fun j => if j = 0 then a else b, N := fun _ => n, C := fun j => if j = 0 then ca else cb, bo := bo, B := B }
theorem two_apart {w : World} {a b : Option Addr} {n ca cb B Ba Bb : Nat} {l : List ByteArray} (hn : n ≤ 10000000000) (hl : l.length = n) (ha : Texts w Ba (.slice a n ca) l) (hb : Texts w Bb (.slice b n cb) l) (h1 : B ≤ Ba) (h2 : B ≤ Bb) (hsep : ∀ x, a = some x → x.block < Bb) (hBw : B ≤ w.heap.size) :
    Calls Try.prog 13 #[.slice (some ⟨w.heap.size, 0, none⟩) 2 2] (w.alloc (.cells #[.slice a n ca, .slice b n cb] 22)) fun e w' => e = .returned (.bool true) ∧ Below B (w.alloc (.cells #[.slice a n ca, .slice b n cb] 22)) w' := by
  have ra := (texts_row ha h1 hl).alloc (.cells #[.slice a n ca, .slice b n cb] 22)
  have rb := (texts_row hb h2 hl).alloc (.cells #[.slice a n ca, .slice b n cb] 22)
  refine apart_any (two a b n ca cb w.heap.size B) 2 _ (by show 2 ≤ 1048576; omega) (fun j _ => hn) (by rw [World.size_alloc]; show B ≤ _; omega) (by rw [World.size_alloc]; show w.heap.size < _; omega) hBw ?_ ?_ ?_
  · have key : ∀ x, a = some x → b ≠ some x := fun x h3 h4 => by
      have h5 := hsep x h3
      have h6 := (texts_block hb h4).1
      omega
    refine ⟨fun i j hi hj hne x h3 => ?_, fun j hj g h3 => ?_⟩
    · have hi : i < 2 := hi
      have hj : j < 2 := hj
      show (if j = 0 then a else b) ≠ some x
      have h3 : (if i = 0 then a else b) = some x := h3
      by_cases hi0 : i = 0
      · rw [if_pos hi0] at h3
        rw [if_neg (by omega)]
        exact key x h3
      · rw [if_neg hi0] at h3
        rw [if_pos (by omega)]
        exact fun h4 => key x h4 h3
    · have h3 : (if j = 0 then a else b) = some ⟨g, 0, none⟩ := h3
      show g ≠ w.heap.size
      by_cases hj0 : j = 0
      · rw [if_pos hj0] at h3
        have : g < w.heap.size := (texts_block ha h3).2
        omega
      · rw [if_neg hj0] at h3
        have : g < w.heap.size := (texts_block hb h3).2
        omega
  · intro j hj
    have hj : j < 2 := hj
    match j, hj with
    | 0, _ => show (w.alloc _).cell? ⟨w.heap.size, 0, none⟩ = _; go_simp; exact ⟨rfl, rfl, rfl⟩
    | 1, _ => show (w.alloc _).cell? ⟨w.heap.size, 1, none⟩ = _; go_simp; exact ⟨rfl, rfl, rfl⟩
  · intro j hj
    have hj : j < 2 := hj
    match j, hj with
    | 0, _ => exact ⟨l.map sv, ra, fun k hk hh => by omega⟩
    | 1, _ => exact ⟨l.map sv, rb, fun k hk hh => by omega⟩
end Go.Proofs.Ytaoblifmggkpoaa.Aq

namespace Go.Proofs.Ytaoblifmggkpoaa.linesSplits
open Go.ChangeMaps (open_string shut_string)
open Go.ChangeShapes Go.WideShapes Go.ChangeAt Go.RowKit Tx Lm Ln Aq
set_option linter.unusedVariables false
theorem strs_of {w : World} {B g n c : Nat} {l : List ByteArray} (h : Texts w B (.slice (some ⟨g, 0, none⟩) n c) l) : Strs w (some ⟨g, 0, none⟩) n l := by
  obtain ⟨a, c', hv, hs, _, _⟩ := h.form
  injection hv with h1 h2 h3
  subst h1
  subst h2
  exact hs
set_option maxRecDepth 100000 in
set_option maxHeartbeats 4000000 in
theorem walk (s : ByteArray) (w : World) (hs : s.size ≤ 1048576) :
    Calls Try.prog 3 #[.string s] w fun e w' => e = .returned (.bool true) ∧ Below w.heap.size w w' := by
  have c1 := fun W => split_lines s W (by omega)
  have c2 := fun W => refSplit_any s W (by omega)
  have c3 := fun W => count_lines s W (by omega)
  have c4 := fun W => text_lines s W (by omega)
  have c5 := fun W => refText_any s W (by omega)
  have hle := lns_le s
  obtain ⟨L, hL⟩ : ∃ L, L = lns s := ⟨_, rfl⟩
  rw [← hL] at c1 c2 c3 hle
  obtain ⟨T, hT⟩ : ∃ T, T = txt s := ⟨_, rfl⟩
  rw [← hT] at c4 c5
  clear hL hT
  unfold ListN at c1
  unfold ListTo at c2
  obtain ⟨n, hn⟩ : ∃ n, n = L.length := ⟨_, rfl⟩
  rw [← hn] at c1 c3 hle
  have HN := Lib.hid hn
  clear hn
  go_enter Try.func3, Try.ntmps3
  go_wp2_with fail
  go_at_call 6
  refine (c1 _).mono ?_
  rintro e w1 ⟨ga, ca, rfl, ha1, hb1⟩
  go_wp2_with fail
  go_at_call 6
  refine (c1 _).mono ?_
  rintro e w2 ⟨gb, cb, rfl, hb2', hb2⟩
  have ha2 := ha1.below hb2
  have hB2 := below_call hb1 hb2
  have hga : ga < w1.heap.size := (texts_block ha1 rfl).2
  clear ha1
  go_wp2_with fail
  go_at_call 7
  refine (awake_any11 _).mono ?_
  rintro e w3 ⟨rfl, hb3⟩
  have ha3 := ha2.below hb3
  have hbb3 := hb2'.below hb3
  have hB3 := below_call hB2 hb3
  clear ha2 hb2' hB2 hb2 hb3
  go_wp2_with fail
  go_at_call 9
  refine (c2 _).mono ?_
  rintro e w4 ⟨v, rfl, hr4, hb4⟩
  have ha4 := ha3.below hb4
  have hbb4 := hbb3.below hb4
  have hB4 := below_call hB3 hb4
  obtain ⟨rr, rc, rfl, hrs, _, _⟩ := hr4.form
  rw [← HN.out] at hrs ⊢
  clear ha3 hbb3 hB3 hb4 hr4
  go_wp2_with fail
  go_at_call 8
  refine (same_true _ _ n _ _ L _ (by omega) (strs_of ha4) hrs).mono ?_
  rintro e w5 ⟨rfl, hb5⟩
  have ha5 := ha4.below hb5
  have hbb5 := hbb4.below hb5
  have hB5 := below_call hB4 hb5
  clear ha4 hbb4 hB4 hb5 hrs
  go_wp2_with fail
  go_at_call 8
  refine (same_true _ _ n _ _ L _ (by omega) (strs_of hbb5) (strs_of ha5)).mono ?_
  rintro e w6 ⟨rfl, hb6⟩
  have ha6 := ha5.below hb6
  have hbb6 := hbb5.below hb6
  have hB6 := below_call hB5 hb6
  clear ha5 hbb5 hB5 hb6
  go_wp2_with fail
  go_at_call 10
  refine (c3 _).mono ?_
  rintro e w' ⟨rfl, rfl⟩
  go_wp2_with fail
  go_at_call 9
  refine (c2 _).mono ?_
  rintro e w7 ⟨v, rfl, hr7, hb7⟩
  have ha7 := ha6.below hb7
  have hbb7 := hbb6.below hb7
  have hB7 := below_call hB6 hb7
  obtain ⟨rr, rc, rfl, hrs, _, _⟩ := hr7.form
  rw [← HN.out] at hrs ⊢
  clear ha6 hbb6 hB6 hb7 hr7 hrs
  go_wp2_with fail
  go_at_call 11
  refine (c4 _).mono ?_
  rintro e w' ⟨rfl, rfl⟩
  go_wp2_with fail
  go_at_call 12
  refine (c5 _).mono ?_
  rintro e w8 ⟨rfl, hb8⟩
  have ha8 := ha7.below hb8
  have hbb8 := hbb7.below hb8
  have hB8 := below_call hB7 hb8
  clear ha7 hbb7 hB7 hb8
  have hsz := hB8.size
  have hap := two_apart (B := w.heap.size) (by omega) HN.out.symm ha8 hbb8 (Nat.le_refl _) hb1.size (fun x hx => by injection hx with hx; subst hx; exact hga) hsz
  clear ha8 hbb8
  go_wp2_with fail
  go_at_call 13
  refine hap.mono ?_
  rintro e w9 ⟨rfl, hb9⟩
  have hB9 := (hB8.alloc hsz (.cells #[.slice (some ⟨ga, 0, none⟩) n ca, .slice (some ⟨gb, 0, none⟩) n cb] 22)).trans hb9
  clear hap hb9 hB8
  go_wp2_with fail
  go_ret
  exact ⟨rfl, hB9⟩
theorem own : ownKnob Try.prog.godebug = none := by kernel_rfl
theorem laidOut : laidOutB Try.prog = true := by kernel_rfl
set_option maxRecDepth 100000 in
theorem contract (H : Type) (enc : TypeId × Value → H) (W : World) (base : Nat) (args : Array Value) (ds gs : List (DataW H)) (before : List MemPlace)
    (hval0 : ∀ (j : Nat) t v, Try.f3.params[j]? = some t → args[j]? = some v → Value.okWide Try.prog W .any base t v)
    (hW : DataW.Whole enc Try.prog Try.f3.params.toList Rows.linesSplitsSpec.vars false W args.toList ds gs before)
    (hk : Rows.uptoSmall H (ds ++ gs) = true)
    (hsz0 : (DataW.weightsEach Try.prog (Try.f3.params.toList ++ Rows.linesSplitsSpec.plain.varTypes Try.prog) (ds ++ gs)).all (· ≤ reachBytes) = true) :
    Calls Try.prog 3 args W fun e W' => ∃ v, e = .returned v ∧ Rows.linesSplitsSpec.post enc Try.prog Try.f3 false true false false W args v W' := by
  have hval : ∀ (j : Nat) t v, Try.f3.params[j]? = some t → args[j]? = some v → Value.okWide Try.prog W .any base t v := hval0
  have hsz := hsz0
  clear hsz0
  have hW' := hW
  obtain ⟨p, q, hA0, hV, rfl, hfz, hnd⟩ := hW
  have hA : DataW.TrodAll enc Try.prog W 0 (fun _ => true) true Try.f3.params.toList args.toList ds p := hA0
  rw [Try.params3] at hA hval hsz
  obtain ⟨v0, vs0, d0, ds0, p0, q0, hargs, rfl, rfl, h0, r0⟩ := trodAll_cons hA
  obtain ⟨rfl, rfl, rfl⟩ := trodAll_nil r0
  obtain rfl : args = #[v0] := by cases args; simp_all
  obtain ⟨rfl, rfl⟩ := trodVars_none hV
  obtain ⟨s0, rfl, rfl, rfl, w0⟩ := open_string Try.underlying9 (hval 0 9 v0 rfl rfl) h0
  have hreach0 : s0.size ≤ 140737488351232 := by
    have := sized_string hsz (j := 0) (t := 9) rfl rfl
    simpa [reachBytes] using this
  clear hA0 hval0
  have hbulk : s0.size ≤ 1048576 := by
    have h := of_decide_eq_true hk
    rw [List.append_nil] at h
    have x : Rows.uptoBulkAll [DataW.lit (H := H) (.string s0.data.toList)] = (s0.data.toList.length + 1) + 0 := rfl
    rw [x, len_l] at h
    omega
  refine (walk s0 W (by omega)).mono fun e W' ⟨he, bel⟩ => ?_
  subst he
  exact ⟨_, rfl, _, _, _, [], _, [], hW', trodAll_mk1 (shut_bool Try.underlying4 _), (trodAll_cons_mk (shut_string Try.underlying9 w0) trodAll_mk0), rfl, bel.frame _, fun h => by cases h⟩
set_option maxRecDepth 100000 in
theorem lifted (os : Os) (started : os.Started) (H : Type) (enc : TypeId × Value → H) (F : Stop.Interp) :
    ReturnsInHanded {} Try.checked os 3 .any ((Rows.OpenSpec.upto Rows.linesSplitsSpec).pre6 enc Try.prog Try.f3 Rows.linesSplitsUptoRow.domain false) (((Rows.OpenSpec.upto Rows.linesSplitsSpec).at F).post enc Try.prog Try.f3 false true false false) := by
  refine returnsInHanded_of_cond_sized (C := Try.checked) (s := Rows.OpenSpec.upto Rows.linesSplitsSpec) (k := Rows.uptoSmall) rfl own started (by kernel_rfl) Try.func3
    (OpenSpec.witness (enc := enc) (C := Try.checked) (s := Rows.OpenSpec.upto Rows.linesSplitsSpec) (k := Rows.uptoSmall) rfl false ⟨#[], #[.string ByteArray.empty], []⟩ 8 (by kernel_rfl) (by kernel_rfl) (by kernel_rfl)
      (x := ([.lit (.string [])], [], [])) (by kernel_rfl) rfl (by kernel_rfl)) ?_
  intro W base args ds gs before hval hW _ hk hsz0 _
  exact contract H enc W base args ds gs before hval hW hk hsz0
theorem over : Rows.linesSplitsUptoRow.holds Try.pinned (Rows.OpenSpec.upto Rows.linesSplitsSpec) :=
  OpenClaim.holds_of_cond 3 Try.f3 rfl rfl rfl rfl rfl rfl rfl ⟨rfl, rfl, rfl, rfl, rfl⟩ rfl rfl rfl rfl rfl (by kernel_rfl) Try.func3 (by kernel_rfl)
    (of_decide_eq_true (by kernel_rfl)) (by unfold Func.isWrapper; first | (rw [if_pos (by decide +kernel)]; kernel_rfl) | (rw [if_neg (by decide +kernel)]; exact ⟨rfl, rfl⟩))
    (fun os started H enc _ F => lifted os started H enc F)
end Go.Proofs.Ytaoblifmggkpoaa.linesSplits
namespace Go.Proofs.Ytaoblifmggkpoaa
theorem linesSplitsUpto_holds : Rows.LinesSplitsUptoSaid := linesSplits.over
#print axioms linesSplitsUpto_holds
end Go.Proofs.Ytaoblifmggkpoaa
