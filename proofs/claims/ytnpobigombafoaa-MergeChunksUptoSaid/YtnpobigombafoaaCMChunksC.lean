/-
  MergeChunks: of every three texts: the pieces, or the refusal, are the document's, at a second call too; the lists of an answer share no memory.
  It is said of the code of package merge as it landed, for every argument of the given row's domain, in the second form: what comes in is of bulk at most 1048576. The law returns true, and writes nothing that was there. No other condition.
-/
import Derived.Test.YtnpobigombafoaaT4
import Derived.Deep.QuietTactic
import Derived.BigQuiet
import Derived.ProofKit
import Derived.Deep.CondSized
import Derived.OpenShut
import Derived.ShutString
import Derived.ChangeOld
import Derived.Below
import Derived.JoinedCond
namespace Go.Proofs.Ytnpobigombafoaa.Aq
open Go.RowKit Tx
set_option linter.unusedVariables false
def MK : ByteArray := ⟨#[97, 98, 99, 100, 101, 102, 103, 104, 105, 106, 107, 108, 109, 110, 111, 112, 113, 114, 115, 116, 117, 118, 119, 120, 121, 122]⟩
def was (j : Nat) : ByteArray := ⟨#[119, 97, 115]⟩ ++ MK.extract (j % 26) (j % 26 + 1)
def new (j : Nat) : ByteArray := ⟨#[110, 101, 119]⟩ ++ MK.extract (j % 26) (j % 26 + 1)
structure Ls where
  m : Nat
  A : Nat → Option Addr
  N : Nat → Nat
  C : Nat → Nat
  bo : Nat
  B : Nat
namespace Ls
variable (L : Ls)
def val (j : Nat) : Value := .slice (L.A j) (L.N j) (L.C j)
def cells (w : World) : Prop := ∀ j, j < L.m → w.cell? ⟨L.bo, j, none⟩ = some (.slice (L.A j) (L.N j) (L.C j))
def far : Prop := (∀ i j, i < L.m → j < L.m → i ≠ j → ∀ x, L.A i = some x → L.A j ≠ some x) ∧ ∀ j, j < L.m → ∀ g, L.A j = some ⟨g, 0, none⟩ → g ≠ L.bo
def marked (w : World) (i k : Nat) : Prop := ∀ j, j < L.m → ∃ xs, w.ownsRow L.B 9 1 (.slice (L.A j) (L.N j) (L.C j)) (L.N j) xs ∧ ∀ l, l < L.N j → (j < i ∨ j = i ∧ l < k) → xs[l]? = some (.string (was j))
end Ls
theorem marked_next {L : Ls} {w : World} {i : Nat} (h : L.marked w i (L.N i)) : L.marked w (i + 1) 0 := by
  intro j hj
  obtain ⟨xs, h1, h2⟩ := h j hj
  refine ⟨xs, h1, fun l hl hh => h2 l hl ?_⟩
  rcases hh with hh | ⟨_, hh⟩
  · by_cases e : j = i
    · subst e; exact .inr ⟨rfl, hl⟩
    · exact .inl (by omega)
  · omega
theorem addr_eq {A : Option Addr} {n c : Nat} {w : World} {B : Nat} {e : TypeId} {xs : List Value} (h : w.ownsRow B e 1 (.slice A n c) n xs) (hn : 0 < n) : ∃ g, A = some ⟨g, 0, none⟩ ∧ B ≤ g := by
  obtain ⟨g, cap, hv, hg, _⟩ := h.form hn
  injection hv with ha
  exact ⟨g, ha, hg⟩
theorem marked_store {L : Ls} {w : World} {i k g : Nat} (hf : L.far) (h : L.marked w i k) (hi : i < L.m) (hk : k < L.N i) (ha : L.A i = some ⟨g, 0, none⟩) : L.marked (w.setCell ⟨g, k, none⟩ (.string (was i))) i (k + 1) := by
  intro j hj
  obtain ⟨xs, h1, h2⟩ := h j hj
  by_cases e : j = i
  · subst e
    rw [ha] at h1 ⊢
    refine ⟨xs.set k (.string (was j)), own_store h1 hk _, fun l hl hh => ?_⟩
    have hl2 : k < xs.length := by rw [h1.1]; omega
    by_cases e2 : l = k
    · subst e2
      exact List.getElem?_set_self hl2
    · rw [List.getElem?_set_ne (fun e => e2 e.symm)]
      exact h2 l hl (.inr ⟨rfl, by rcases hh with hh | ⟨_, hh⟩ <;> omega⟩)
  · refine ⟨xs, own_far h1 ?_ _, fun l hl hh => h2 l hl ?_⟩
    · intro hb
      cases hA : L.A j with
      | none => rw [hA] at hb; simp [Value.ownBlock] at hb
      | some x =>
        by_cases h0 : L.N j = 0
        · rcases h1.2 with ⟨hv, _⟩ | ⟨g', cap', cur, hv, _⟩
          · rw [hA] at hv; cases hv
          · rw [hA] at hv hb
            injection hv with hx
            injection hx with hx
            subst hx
            simp only [Value.ownBlock, Option.some.injEq] at hb
            subst hb
            exact hf.1 j i hj hi e _ hA ha
        · obtain ⟨g', ha', _⟩ := addr_eq h1 (by omega)
          rw [hA] at ha' hb
          injection ha' with hx
          subst hx
          simp only [Value.ownBlock, Option.some.injEq] at hb
          subst hb
          exact hf.1 j i hj hi e _ hA ha
    · rcases hh with hh | ⟨hh, _⟩
      · exact .inl hh
      · exact absurd hh e
theorem cells_store {L : Ls} {w : World} {i k g : Nat} (hf : L.far) (h : L.cells w) (hi : i < L.m) (ha : L.A i = some ⟨g, 0, none⟩) (u : Value) : L.cells (w.setCell ⟨g, k, none⟩ u) := by
  intro j hj
  have hne := hf.2 i hi g ha
  rw [World.cell?_setCell_other _ _ _ _ (fun e => hne (by injection e))]
  exact h j hj
def sw (j : Nat) : Value := .string (was j)
def sn (j : Nat) : Value := .string (new j)
def row (L : Ls) (j k : Nat) : List Value := List.replicate (L.N j) (sw j) ++ List.replicate k (sn j)
theorem row_was {L : Ls} {j k l : Nat} (h : l < L.N j) : (row L j k)[l]? = some (sw j) := by
  rw [row, List.getElem?_append_left (by simpa using h), List.getElem?_replicate, if_pos h]
theorem row_new {L : Ls} {j k l : Nat} (h : ¬ l < L.N j) (h2 : l < L.N j + k) : (row L j k)[l]? = some (sn j) := by
  rw [row, List.getElem?_append_right (by simp; omega), List.length_replicate, List.getElem?_replicate, if_pos (by omega)]
theorem row_zero (L : Ls) (j : Nat) : row L j 0 = List.replicate (L.N j) (sw j) := by simp [row]
theorem row_step (L : Ls) (j k : Nat) : row L j k ++ [sn j] = row L j (k + 1) := by
  rw [row, row, List.append_assoc, List.replicate_succ']
theorem own_same {w w1 : World} {base n : Nat} {e : TypeId} {v : Value} {xs : List Value} (h : w.ownsRow base e 1 v n xs) (hk : ∀ q, q < w.heap.size → v.ownBlock = some q → w1.heap[q]? = w.heap[q]?) : w1.ownsRow base e 1 v n xs := by
  refine ⟨h.1, ?_⟩
  rcases h.2 with h0 | ⟨g, cap, cur, rfl, hb, hh, r⟩
  · exact .inl h0
  · exact .inr ⟨g, cap, cur, rfl, hb, (hk g (Array.getElem?_eq_some_iff.1 hh).1 rfl).trans hh, r⟩
theorem own_lt {w : World} {base n : Nat} {e : TypeId} {v : Value} {xs : List Value} (h : w.ownsRow base e 1 v n xs) {g : Nat} (hg : v.ownBlock = some g) : base ≤ g ∧ g < w.heap.size := h.lt g hg
theorem cell_same {w w1 : World} {g k : Nat} {u : Value} (h : w.cell? ⟨g, k, none⟩ = some u) (hk : w1.heap[g]? = w.heap[g]?) : w1.cell? ⟨g, k, none⟩ = some u := (World.cell?_of_block (a := ⟨g, k, none⟩) hk).trans h
structure Inv (L : Ls) (w0 : World) (H i r : Nat) (w : World) (v6 : Value) (vs : List Value) (b c : Nat → Nat) : Prop where
  cells : L.cells w
  held : ∀ j, j < L.m → ∀ l, l < L.N j → ∃ g, L.A j = some ⟨g, 0, none⟩ ∧ w.cell? ⟨g, l, none⟩ = some (sw j)
  rows : ∀ j, r ≤ j → j < L.m → w.ownsRow L.B 9 1 (.slice (L.A j) (L.N j) (L.C j)) (L.N j) (row L j 0)
  outer : w.ownsRow L.B 31 1 v6 i vs
  high : ∀ g, v6.ownBlock = some g → H ≤ g
  long : ∀ j, j < i → vs[j]? = some (.slice (some ⟨b j, 0, none⟩) (L.N j + 20) (c j)) ∧ w.ownsRow L.B 9 1 (.slice (some ⟨b j, 0, none⟩) (L.N j + 20) (c j)) (L.N j + 20) (row L j 20) ∧ (L.A j = some ⟨b j, 0, none⟩ ∨ H ≤ b j)
  apart : ∀ j k, j < i → k < i → j ≠ k → b j ≠ b k
  low : ∀ j, j < L.m → ∀ g, L.A j = some ⟨g, 0, none⟩ → g < H
  bo : L.bo < H
  size : H ≤ w.heap.size
  below : Below L.B w0 w
  base : L.B ≤ H
structure Cur (L : Ls) (H i k : Nat) (w : World) (v : Value) (b : Nat → Nat) : Prop where
  own : w.ownsRow L.B 9 1 v (L.N i + k) (row L i k)
  at_ : ∀ g, v.ownBlock = some g → (L.A i = some ⟨g, 0, none⟩ ∨ H ≤ g) ∧ ∀ j, j < i → b j ≠ g
theorem inv_start {L : Ls} {w0 w : World} (hf : L.far) (hc : L.cells w) (hm : L.marked w L.m 0) (hbo : L.bo < w.heap.size) (hB : L.B ≤ w.heap.size) (hb : Below L.B w0 w) : Inv L w0 w.heap.size 0 0 w (.slice none 0 0) [] (fun _ => 0) (fun _ => 0) := by
  have hrow : ∀ j, j < L.m → w.ownsRow L.B 9 1 (.slice (L.A j) (L.N j) (L.C j)) (L.N j) (row L j 0) := by
    intro j hj
    obtain ⟨xs, h1, h2⟩ := hm j hj
    have e : xs = row L j 0 := by
      rw [row_zero]
      apply List.ext_getElem?
      intro l
      rw [List.getElem?_replicate]
      by_cases hl : l < L.N j
      · rw [if_pos hl]; exact h2 l hl (.inl hj)
      · rw [if_neg hl, List.getElem?_eq_none (by rw [h1.1]; omega)]
    rw [← e]
    exact h1
  refine ⟨hc, ?_, fun j _ hj => hrow j hj, World.ownsRow_nil _ _ _ _, fun g hg => by simp [Value.ownBlock] at hg, fun j hj => absurd hj (by omega), fun j k hj => absurd hj (by omega), ?_, hbo, Nat.le_refl _, hb, hB⟩
  · intro j hj l hl
    have h1 := hrow j hj
    obtain ⟨g, ha, _⟩ := addr_eq h1 (by omega)
    rw [ha] at h1
    exact ⟨g, ha, own_cell h1 (row_was hl)⟩
  · intro j hj g ha
    have h1 := hrow j hj
    rw [ha] at h1
    exact (own_lt h1 rfl).2
theorem cur_start {L : Ls} {w0 w : World} {H i r : Nat} {v6 : Value} {vs : List Value} {b c : Nat → Nat} (hf : L.far) (h : Inv L w0 H i r w v6 vs b c) (hr : r ≤ i) (hi : i < L.m) : Cur L H i 0 w (.slice (L.A i) (L.N i) (L.C i)) b := by
  have h1 := h.rows i hr hi
  refine ⟨h1, fun g hg => ?_⟩
  have ha : L.A i = some ⟨g, 0, none⟩ := by
    rcases h1.2 with ⟨hv, _⟩ | ⟨g', cap', cur, hv, _⟩
    · rw [hv] at hg; simp [Value.ownBlock] at hg
    · rw [hv] at hg
      simp only [Value.ownBlock, Option.some.injEq] at hg
      subst hg
      injection hv
  refine ⟨.inl ha, fun j hj e => ?_⟩
  rcases (h.long j hj).2.2 with h2 | h2
  · rw [e] at h2
    exact hf.1 j i (by omega) hi (by omega) _ h2 ha
  · have := h.low i hi g ha
    omega
theorem cur_step {L : Ls} {w0 w w1 : World} {H i k r : Nat} {v v1 v6 : Value} {vs : List Value} {b c : Nat → Nat} {o : Obj} (hf : L.far) (h : Inv L w0 H i r w v6 vs b c) (hi : i < L.m) (hc : Cur L H i k w v b)
    (hown : w1.ownsRow L.B 9 1 v1 (L.N i + k + 1) (row L i k ++ [sn i]))
    (hg : (v1.ownBlock = v.ownBlock ∧ (w.alloc o).grownBy w1 v.ownBlock) ∨ (v1.ownBlock = some (w.heap.size + 1) ∧ (w.alloc o).grownBy w1 none)) :
    (∀ q, q < w.heap.size → (∀ g, v.ownBlock = some g → q ≠ g) → w1.heap[q]? = w.heap[q]?) ∧ Cur L H i (k + 1) w1 v1 b ∧ w.heap.size ≤ w1.heap.size ∧ Below L.B w0 w1 ∧
      (∀ q, L.A i = some ⟨q, 0, none⟩ → ∀ l, l < L.N i → w1.cell? ⟨q, l, none⟩ = some (sw i)) := by
  have hB : L.B ≤ w.heap.size := Nat.le_trans h.base h.size
  have hal : w.heap.size + 1 = (w.alloc o).heap.size := (World.size_alloc _ _).symm
  have hk : ∀ q, q < w.heap.size → (∀ g, v.ownBlock = some g → q ≠ g) → w1.heap[q]? = w.heap[q]? := by
    intro q hq hne
    rcases hg with ⟨_, hg⟩ | ⟨_, hg⟩
    · exact (hg.block q (by omega) (fun e => hne q e.symm rfl)).trans (Below.heap_alloc w o q hq)
    · exact (hg.block q (by omega) (by simp)).trans (Below.heap_alloc w o q hq)
  have hown2 : w1.ownsRow L.B 9 1 v1 (L.N i + (k + 1)) (row L i (k + 1)) := by
    rw [← row_step]
    exact hown
  have hsz : w.heap.size ≤ w1.heap.size := by
    rcases hg with ⟨_, hg⟩ | ⟨_, hg⟩
    · have := hg.size; omega
    · have := hg.size; omega
  have hbel : Below L.B w0 w1 := by
    have h2 := h.below.alloc hB o
    rcases hg with ⟨_, hg⟩ | ⟨_, hg⟩
    · exact h2.grown hg (by omega) (fun q hq => (own_lt hc.own hq).1)
    · exact h2.grown hg (by omega) (fun q hq => by cases hq)
  refine ⟨hk, ⟨hown2, fun g hg1 => ?_⟩, hsz, hbel, fun q hq l hl => ?_⟩
  · rcases hg with ⟨he, _⟩ | ⟨he, _⟩
    · exact hc.at_ g (by rw [← he]; exact hg1)
    · rw [he] at hg1
      injection hg1 with hg1
      have hs := h.size
      refine ⟨.inr (by omega), fun j hj e => ?_⟩
      have h9 : b j < w.heap.size := (own_lt (h.long j hj).2.1 rfl).2
      omega
  · by_cases hv : v.ownBlock = some q
    · rcases hg with ⟨he, _⟩ | ⟨_, hg⟩
      · obtain ⟨g', cap', hv', _, _⟩ := hown2.form (by omega)
        rw [hv'] at he hown2
        rw [hv] at he
        simp only [Value.ownBlock, Option.some.injEq] at he
        subst he
        exact own_cell hown2 (row_was hl)
      · obtain ⟨g', hA, hcell⟩ := h.held i hi l hl
        rw [hq] at hA
        injection hA with hA
        injection hA with hA
        subst hA
        have hq' := World.block_lt_of_cell? w _ hcell
        exact cell_same hcell ((hg.block q (by have : q < w.heap.size := hq'; omega) (by simp)).trans (Below.heap_alloc w o q hq'))
    · obtain ⟨g', hA, hcell⟩ := h.held i hi l hl
      rw [hq] at hA
      injection hA with hA
      injection hA with hA
      subst hA
      exact cell_same hcell (hk q (World.block_lt_of_cell? w _ hcell) (fun g hg e => hv (by rw [hg, e])))
theorem inv_step {L : Ls} {w0 w w1 : World} {H i k r : Nat} {v v6 : Value} {vs : List Value} {b c : Nat → Nat} (hf : L.far) (h : Inv L w0 H i r w v6 vs b c) (hi : i < L.m) (hc : Cur L H i k w v b) (rowsi : ∀ j, i < j → j < L.m → w.ownsRow L.B 9 1 (.slice (L.A j) (L.N j) (L.C j)) (L.N j) (row L j 0))
    (hk : ∀ q, q < w.heap.size → (∀ g, v.ownBlock = some g → q ≠ g) → w1.heap[q]? = w.heap[q]?) (hsz : w.heap.size ≤ w1.heap.size) (hbel : Below L.B w0 w1)
    (hi1 : ∀ q, L.A i = some ⟨q, 0, none⟩ → ∀ l, l < L.N i → w1.cell? ⟨q, l, none⟩ = some (sw i)) :
    L.cells w1 ∧ (∀ j, j < L.m → ∀ l, l < L.N j → ∃ g, L.A j = some ⟨g, 0, none⟩ ∧ w1.cell? ⟨g, l, none⟩ = some (sw j)) ∧
      (∀ j, i < j → j < L.m → w1.ownsRow L.B 9 1 (.slice (L.A j) (L.N j) (L.C j)) (L.N j) (row L j 0)) ∧ w1.ownsRow L.B 31 1 v6 i vs ∧
      (∀ j, j < i → vs[j]? = some (.slice (some ⟨b j, 0, none⟩) (L.N j + 20) (c j)) ∧ w1.ownsRow L.B 9 1 (.slice (some ⟨b j, 0, none⟩) (L.N j + 20) (c j)) (L.N j + 20) (row L j 20) ∧ (L.A j = some ⟨b j, 0, none⟩ ∨ H ≤ b j)) := by
  have hs := h.size
  have hbo := h.bo
  refine ⟨fun j hj => ?_, fun j hj l hl => ?_, fun j hij hj => ?_, ?_, fun j hj => ?_⟩
  · refine cell_same (h.cells j hj) (hk L.bo (by omega) (fun g hg e => ?_))
    subst e
    rcases (hc.at_ _ hg).1 with ha | ha
    · exact hf.2 i hi _ ha rfl
    · omega
  · by_cases e : j = i
    · subst e
      obtain ⟨g, ha, _⟩ := h.held j hj l hl
      exact ⟨g, ha, hi1 g ha l hl⟩
    · obtain ⟨g, ha, hcell⟩ := h.held j hj l hl
      refine ⟨g, ha, cell_same hcell (hk g (World.block_lt_of_cell? w _ hcell) (fun q hq e2 => ?_))⟩
      subst e2
      rcases (hc.at_ _ hq).1 with h2 | h2
      · exact hf.1 j i hj hi e _ ha h2
      · have := h.low j hj _ ha
        omega
  · have h1 := rowsi j hij hj
    refine own_same h1 (fun q hq hv => hk q hq (fun g hg e => ?_))
    subst e
    have ha : L.A j = some ⟨q, 0, none⟩ := by
      rcases h1.2 with ⟨hv2, _⟩ | ⟨g', cap', cur, hv2, _⟩
      · rw [hv2] at hv; simp [Value.ownBlock] at hv
      · rw [hv2] at hv
        simp only [Value.ownBlock, Option.some.injEq] at hv
        subst hv
        injection hv2
    rcases (hc.at_ _ hg).1 with h2 | h2
    · exact hf.1 j i hj hi (by omega) _ ha h2
    · have := h.low j hj _ ha
      omega
  · exact own_same h.outer (fun q hq hv => hk q hq (fun g hg e => by
      subst e
      exact types_ne hc.own h.outer (by decide) hg hv))
  · obtain ⟨h1, h2, h3⟩ := h.long j hj
    refine ⟨h1, own_same h2 (fun q hq hv => hk q hq (fun g hg e => ?_)), h3⟩
    simp only [Value.ownBlock, Option.some.injEq] at hv
    subst hv
    exact (hc.at_ g hg).2 j hj e
theorem inv_next {L : Ls} {w0 w w1 : World} {H i bv cv r : Nat} {v6 v7 : Value} {vs : List Value} {b c : Nat → Nat} {o : Obj} (hf : L.far) (h : Inv L w0 H i r w v6 vs b c) (hi : i < L.m) (hc : Cur L H i 20 w (.slice (some ⟨bv, 0, none⟩) (L.N i + 20) cv) b)
    (rowsi : ∀ j, i < j → j < L.m → w.ownsRow L.B 9 1 (.slice (L.A j) (L.N j) (L.C j)) (L.N j) (row L j 0))
    (hown : w1.ownsRow L.B 31 1 v7 (i + 1) (vs ++ [.slice (some ⟨bv, 0, none⟩) (L.N i + 20) cv]))
    (hg : (v7.ownBlock = v6.ownBlock ∧ (w.alloc o).grownBy w1 v6.ownBlock) ∨ (v7.ownBlock = some (w.heap.size + 1) ∧ (w.alloc o).grownBy w1 none)) :
    Inv L w0 H (i + 1) (i + 1) w1 v7 (vs ++ [.slice (some ⟨bv, 0, none⟩) (L.N i + 20) cv]) (fun j => if j = i then bv else b j) (fun j => if j = i then cv else c j) := by
  have hB : L.B ≤ w.heap.size := Nat.le_trans h.base h.size
  have hal : w.heap.size + 1 = (w.alloc o).heap.size := (World.size_alloc _ _).symm
  have hs := h.size
  have hbo := h.bo
  have hvl : vs.length = i := by have := h.outer.1; omega
  have hk : ∀ q, q < w.heap.size → (∀ g, v6.ownBlock = some g → q ≠ g) → w1.heap[q]? = w.heap[q]? := by
    intro q hq hne
    rcases hg with ⟨_, hg⟩ | ⟨_, hg⟩
    · exact (hg.block q (by omega) (fun e => hne q e.symm rfl)).trans (Below.heap_alloc w o q hq)
    · exact (hg.block q (by omega) (by simp)).trans (Below.heap_alloc w o q hq)
  have hsz : w.heap.size ≤ w1.heap.size := by
    rcases hg with ⟨_, hg⟩ | ⟨_, hg⟩
    · have := hg.size; omega
    · have := hg.size; omega
  have hbel : Below L.B w0 w1 := by
    have h2 := h.below.alloc hB o
    rcases hg with ⟨_, hg⟩ | ⟨_, hg⟩
    · exact h2.grown hg (by omega) (fun q hq => (own_lt h.outer hq).1)
    · exact h2.grown hg (by omega) (fun q hq => by cases hq)
  have hrow : ∀ {n : Nat} {v : Value} {xs : List Value}, w.ownsRow L.B 9 1 v n xs → w1.ownsRow L.B 9 1 v n xs := by
    intro n v xs h1
    exact own_same h1 (fun q hq hv => hk q hq (fun g hg e => by
      subst e
      exact types_ne h1 h.outer (by decide) hv hg))
  refine ⟨fun j hj => ?_, fun j hj l hl => ?_, fun j hij hj => hrow (rowsi j (by omega) hj), hown, fun g hg7 => ?_, fun j hj => ?_, fun j k hj hk2 hne => ?_, h.low, hbo, by omega, hbel, h.base⟩
  · refine cell_same (h.cells j hj) (hk L.bo (by omega) (fun g hg e => ?_))
    have := h.high g hg
    omega
  · obtain ⟨g, ha, hcell⟩ := h.held j hj l hl
    refine ⟨g, ha, cell_same hcell (hk g (World.block_lt_of_cell? w _ hcell) (fun q hq e2 => ?_))⟩
    have h1 := h.high q hq
    have h2 := h.low j hj g ha
    omega
  · rcases hg with ⟨he, _⟩ | ⟨he, _⟩
    · exact h.high g (by rw [← he]; exact hg7)
    · rw [he] at hg7
      injection hg7 with hg7
      omega
  · by_cases e : j = i
    · subst e
      rw [if_pos rfl, if_pos rfl]
      refine ⟨?_, hrow hc.own, (hc.at_ bv rfl).1⟩
      rw [List.getElem?_append_right (by omega), hvl, Nat.sub_self]
      rfl
    · rw [if_neg e, if_neg e]
      obtain ⟨h1, h2, h3⟩ := h.long j (by omega)
      refine ⟨?_, hrow h2, h3⟩
      rw [List.getElem?_append_left (by omega)]
      exact h1
  · by_cases e : j = i
    · by_cases e2 : k = i
      · omega
      · rw [if_pos e, if_neg e2]
        exact fun hh => (hc.at_ bv rfl).2 k (by omega) hh.symm
    · by_cases e2 : k = i
      · rw [if_neg e, if_pos e2]
        exact fun hh => (hc.at_ bv rfl).2 j (by omega) hh
      · rw [if_neg e, if_neg e2]
        exact h.apart j k (by omega) (by omega) hne
theorem both_step {L : Ls} {w0 w w1 : World} {H i k r : Nat} {v v1 v6 : Value} {vs : List Value} {b c : Nat → Nat} {o : Obj} (hf : L.far) (h : Inv L w0 H i r w v6 vs b c) (hr : r ≤ i + 1) (hi : i < L.m) (hc : Cur L H i k w v b)
    (hown : w1.ownsRow L.B 9 1 v1 (L.N i + k + 1) (row L i k ++ [sn i]))
    (hg : (v1.ownBlock = v.ownBlock ∧ (w.alloc o).grownBy w1 v.ownBlock) ∨ (v1.ownBlock = some (w.heap.size + 1) ∧ (w.alloc o).grownBy w1 none)) :
    Inv L w0 H i (i + 1) w1 v6 vs b c ∧ Cur L H i (k + 1) w1 v1 b := by
  obtain ⟨hk, hc1, hsz, hbel, hi1⟩ := cur_step hf h hi hc hown hg
  have rowsi := fun j (hij : i < j) (hj : j < L.m) => h.rows j (by omega) hj
  obtain ⟨a1, a2, a3, a4, a5⟩ := inv_step hf h hi hc rowsi hk hsz hbel hi1
  exact ⟨⟨a1, a2, fun j hij hj => a3 j (by omega) hj, a4, h.high, a5, h.apart, h.low, h.bo, Nat.le_trans h.size hsz, hbel, h.base⟩, hc1⟩
theorem outer_next {L : Ls} {w0 w w1 : World} {H i bv cv r : Nat} {v6 v7 : Value} {vs : List Value} {b c : Nat → Nat} {o : Obj} (hf : L.far) (h : Inv L w0 H i r w v6 vs b c) (hr : r ≤ i + 1) (hi : i < L.m) (hc : Cur L H i 20 w (.slice (some ⟨bv, 0, none⟩) (L.N i + 20) cv) b)
    (hown : w1.ownsRow L.B 31 1 v7 (i + 1) (vs ++ [.slice (some ⟨bv, 0, none⟩) (L.N i + 20) cv]))
    (hg : (v7.ownBlock = v6.ownBlock ∧ (w.alloc o).grownBy w1 v6.ownBlock) ∨ (v7.ownBlock = some (w.heap.size + 1) ∧ (w.alloc o).grownBy w1 none)) :
    ∃ b2 c2, Inv L w0 H (i + 1) (i + 1) w1 v7 (vs ++ [.slice (some ⟨bv, 0, none⟩) (L.N i + 20) cv]) b2 c2 :=
  ⟨_, _, inv_next hf h hi hc (fun j hij hj => h.rows j (by omega) hj) hown hg⟩
theorem inv_more {L : Ls} {w0 w : World} {H i r : Nat} {v6 : Value} {vs : List Value} {b c : Nat → Nat} (h : Inv L w0 H i r w v6 vs b c) (hr : r ≤ i + 1) : Inv L w0 H i (i + 1) w v6 vs b c :=
  ⟨h.cells, h.held, fun j hij hj => h.rows j (by omega) hj, h.outer, h.high, h.long, h.apart, h.low, h.bo, h.size, h.below, h.base⟩
end Go.Proofs.Ytnpobigombafoaa.Aq

namespace Go.Proofs.Ytnpobigombafoaa.Aq
open Go.RowKit Tx
set_option linter.unusedVariables false
theorem info33 : (Try.prog.info? 31).map (fun i => (i.zero, i.size, i.bytes)) = some (some (.slice none 0 0), 1, 24) := by kernel_rfl
end Go.Proofs.Ytnpobigombafoaa.Aq

namespace Go.Proofs.Ytnpobigombafoaa.Aq
open Go.RowKit Tx
set_option linter.unusedVariables false
def two (a b : Option Addr) (n ca cb bo B : Nat) : Ls := { m := 2, A := fun j => if j = 0 then a else b, N := fun _ => n, C := fun j => if j = 0 then ca else cb, bo := bo, B := B }
end Go.Proofs.Ytnpobigombafoaa.Aq

namespace Go.Proofs.Ytnpobigombafoaa.Aq
open Go.RowKit Tx
set_option linter.unusedVariables false
set_option maxRecDepth 100000 in
set_option maxHeartbeats 4000000 in
theorem apart_wide (L : Ls) (co : Nat) (w : World) (hm : L.m ≤ 1048576) (hN : ∀ j, j < L.m → L.N j ≤ 8796093022187) (hB : L.B ≤ w.heap.size) (hbo : L.bo < w.heap.size) (hbB : L.B ≤ L.bo) (hf : L.far) (hc : L.cells w) (hr : L.marked w 0 0) :
    Calls Try.prog 13 #[.slice (some ⟨L.bo, 0, none⟩) L.m co] w fun e w' => e = .returned (.bool true) ∧ Below L.B w w' := by
  obtain ⟨i0, hi0, hz0, hz1, hz2⟩ := info_parts info9
  obtain ⟨i33, hi33, hy0, hy1, hy2⟩ := info_parts info33
  have HN := Lib.hid hN
  have HF := Lib.hid hf
  have HC := Lib.hid hc
  have HR := Lib.hid hr
  clear hN hf hc hr
  go_enter Try.func13, Try.ntmps13
  go_wp2
  obtain ⟨M, hM⟩ : ∃ M, M = MK := ⟨_, rfl⟩
  have hM26 : 26 ≤ M.size := by rw [hM]; decide
  rw [show ({ data := #[97, 98, 99, 100, 101, 102, 103, 104, 105, 106, 107, 108, 109, 110, 111, 112, 113, 114, 115, 116, 117, 118, 119, 120, 121, 122] } : ByteArray) = MK from rfl, ← hM]
  have HM := Lib.hid hM
  clear hM
  go_loopw [4, 5] (fun i _ wr => ∃ j : Nat, j ≤ L.m ∧ i = .int .i64 j ∧ Hid (L.cells wr) ∧ Hid (L.marked wr j 0) ∧ Below L.B w wr ∧ w.heap.size ≤ wr.heap.size) (fun i _ _ => L.m - (intOf i).toNat)
  case atStart => exact ⟨0, Nat.zero_le _, rfl, HC, HR, Below.refl _ _, Nat.le_refl _⟩
  case round =>
    obtain ⟨i, hi, rfl, hcells, hmark, hb, hsz⟩ := hrel
    by_cases hlt : i < L.m
    · have hcell := hcells.out i hlt
      have hNi := HN.out i hlt
      obtain ⟨n, hn⟩ : ∃ n, n = L.N i := ⟨_, rfl⟩
      rw [← hn] at hcell hNi
      have HNN := Lib.hid hn
      clear hn
      obtain ⟨r, hr⟩ : ∃ r, r = i % 26 := ⟨_, rfl⟩
      have hrl : r < 26 := by omega
      have hr1 : (i : Int) % 26 = (r : Int) := by omega
      have hr2 : (i : Int).tmod 26 = (r : Int) := by rw [Int.tmod_eq_emod_of_nonneg (by omega)]; exact hr1
      have hr3 : IntKind.i64.wrap ((r : Int) + 1) = (r : Int) + 1 := IntWalk.i64_in _ (by omega)
      have hr4 : ((r : Int) + 1).toNat = r + 1 := by omega
      have hW : ({ data := #[119, 97, 115] } : ByteArray) ++ M.extract r (r + 1) = was i := by rw [was, HM.out, hr]
      have hWs : (M.extract r (r + 1)).size ≤ 1 := by simp; omega
      obtain ⟨Y, hY⟩ : ∃ Y, Y = was i := ⟨_, rfl⟩
      rw [← hY] at hW
      have HY := Lib.hid hY
      clear hr hY
      go_wp2
      go_loopw [5] (fun x wx => ∃ k : Nat, k ≤ n ∧ x = .int .i64 k ∧ Hid (L.cells wx) ∧ Hid (L.marked wx i k) ∧ Below L.B w wx ∧ w.heap.size ≤ wx.heap.size) (fun x _ => n - (intOf x).toNat)
      case atStart => exact ⟨0, Nat.zero_le _, rfl, hcells, hmark, hb, hsz⟩
      case round =>
        obtain ⟨k, hk, rfl, hcells2, hmark2, hb2, hsz2⟩ := hrel
        have hcell2 := hcells2.out i hlt
        rw [← HNN.out] at hcell2
        clear hcell hcells hmark hb hsz
        by_cases hkn : k < n
        · obtain ⟨xs, hx1, hx2⟩ := hmark2.out i hlt
          rw [← HNN.out] at hx1
          obtain ⟨g, ha, hg⟩ := addr_eq hx1 (by omega)
          rw [ha] at hcell2 hx1
          have hfz := own_frozen hx1 k
          have hst := own_cell hx1 (List.getElem?_eq_getElem (show k < xs.length by rw [hx1.1]; omega))
          obtain ⟨old, hold⟩ : ∃ old, old = xs[k]'(by rw [hx1.1]; omega) := ⟨_, rfl⟩
          rw [← hold] at hst
          have hkn' : (k : Int) < (n : Int) := by omega
          have hlt' : (i : Int) < (L.m : Int) := by omega
          have HX := Lib.hid hx1
          clear hx1 hx2 hold
          go_wp2
          go_region
          all_goals
            go_wp2
            go_roundw
            case rel => exact ⟨k + 1, by omega, by go_num, cells_store HF.out hcells2.out hlt ha _, by rw [HY.out]; exact marked_store HF.out hmark2.out hlt (by rw [← HNN.out]; exact hkn) ha, (hb2.setCell (p := ⟨g, k, none⟩) hg _).drew, by simpa [World.setCell] using hsz2⟩
            case measure => simp [intOf]; omega
        · obtain rfl : k = n := by omega
          have hdone : Hid (L.marked wr (i + 1) 0) := marked_next (by rw [← HNN.out]; exact hmark2.out)
          go_wp2
          go_roundw
          case rel => exact ⟨i + 1, by omega, by go_num, hcells2, hdone, hb2, hsz2⟩
          case measure => simp [intOf]; omega
    · obtain rfl : i = L.m := by omega
      clear HC HR
      have hinv := inv_start HF.out hcells.out hmark.out (by omega) (by omega) hb
      have HI := Lib.hid hinv
      obtain ⟨H, hH⟩ : ∃ H, H = wr.heap.size := ⟨_, rfl⟩
      rw [← hH] at HI
      clear hinv hH hcells hmark hb hsz hlt
      go_wp2
      go_loopw [6, 7, 8, 9] (fun v6 i _ _ wx => ∃ (k : Nat) (vs : List Value) (b c : Nat → Nat), k ≤ L.m ∧ i = .int .i64 k ∧ Hid (Inv L w H k k wx v6 vs b c)) (fun _ i _ _ _ => L.m - (intOf i).toNat)
      case atStart => exact ⟨0, [], _, _, Nat.zero_le _, rfl, HI⟩
      case round =>
        obtain ⟨i, vs, b, c, hi, rfl, HV⟩ := hrel
        clear HI
        by_cases hlt : i < L.m
        · have hcell := HV.out.cells i hlt
          have hcur := Lib.hid (cur_start HF.out HV.out (Nat.le_refl _) hlt)
          have hmore := Lib.hid (inv_more HV.out (by omega))
          have hNi := HN.out i hlt
          have hlt' : (i : Int) < (L.m : Int) := by omega
          obtain ⟨r, hr⟩ : ∃ r, r = i % 26 := ⟨_, rfl⟩
          have hrl : r < 26 := by omega
          have hr1 : (i : Int) % 26 = (r : Int) := by omega
          have hX : ({ data := #[110, 101, 119] } : ByteArray) ++ M.extract r (r + 1) = new i := by rw [new, HM.out, hr]
          have hXs : (M.extract r (r + 1)).size ≤ 1 := by simp; omega
          obtain ⟨Y, hY⟩ : ∃ Y, Y = new i := ⟨_, rfl⟩
          rw [← hY] at hX
          have HY := Lib.hid hY
          clear hr hY
          go_wp2
          go_loopw [8, 9] (fun v x wy => ∃ k : Nat, k ≤ 20 ∧ x = .int .i64 k ∧ Hid (Inv L w H i (i + 1) wy u6 vs b c) ∧ Hid (Cur L H i k wy v b)) (fun _ x _ => 20 - (intOf x).toNat)
          case atStart => exact ⟨0, by omega, rfl, hmore, hcur⟩
          case round =>
            obtain ⟨k, hk, rfl, hI, hC⟩ := hrel
            clear HV hcell hcur hmore
            have hsz := hI.out.size
            have hbs := hI.out.base
            by_cases hk20 : k < 20
            · have hown := hC.out.own
              go_wp2_with (at_builtin; refine wpList_append_two _ rfl _ _ 31 rfl L.B 9 i0 (.string ⟨#[]⟩) 16 Try.underlying31 hi0 hz0 hz1 hz2 rfl _ _ _ rfl (hown.alloc _) ⟨wr.heap.size, 0, none⟩ 1 (.string Y) rfl ?c1 rfl ?c3 ?c4 ?c5 ?_)
              case c1 => go_simp
              case c3 => omega
              case c4 => omega
              case c5 => simp; omega
              intro v1 w1 hown1 hg1
              have hst := both_step HF.out hI.out (Nat.le_refl _) hlt hC.out (by rw [HY.out] at hown1; exact hown1) hg1
              have h1 := Lib.hid hst.1
              have h2 := Lib.hid hst.2
              clear hst hown hown1 hg1
              go_wp2
              go_roundw
              case rel => exact ⟨k + 1, by omega, by go_num, h1, h2⟩
              case measure => simp [intOf]; omega
            · obtain rfl : k = 20 := by omega
              obtain ⟨bv, cv, hv, _, _⟩ := hC.out.own.form (by omega)
              rw [hv] at hC ⊢
              clear hv
              have hout := hI.out.outer
              go_wp2_with (at_builtin; refine wpList_append_two _ rfl _ _ 30 rfl L.B 31 i33 (.slice none 0 0) 24 Try.underlying30 hi33 hy0 hy1 hy2 rfl _ _ _ rfl (hout.alloc _) ⟨wr.heap.size, 0, none⟩ 1 (.slice (some ⟨bv, 0, none⟩) (L.N i + 20) cv) rfl ?c1 rfl ?c3 ?c4 ?c5 ?_)
              case c1 => go_simp
              case c3 => omega
              case c4 => omega
              case c5 => simp; omega
              intro v7 w1 hown1 hg1
              obtain ⟨b2, c2, hst⟩ := outer_next HF.out hI.out (Nat.le_refl _) hlt hC.out hown1 hg1
              have h1 := Lib.hid hst
              clear hst hout hown1 hg1
              go_wp2
              go_roundw
              case rel => exact ⟨i + 1, _, b2, c2, by omega, by go_num, h1⟩
              case measure => simp [intOf]; omega
        · obtain rfl : i = L.m := by omega
          have hbelow := HV.out.below
          by_cases hm0 : L.m = 0
          · have hm0' : (L.m : Int) ≤ 0 := by omega
            go_wp2
            go_loop [10] (fun i => i = .int .i64 0) (fun _ => 0)
            case atStart => exact rfl
            case round =>
              obtain rfl := hrel
              go_wp2
              go_ret
              exact ⟨rfl, hbelow⟩
          · obtain ⟨g6, c6, hv6, _, _⟩ := HV.out.outer.form (by omega)
            rw [hv6] at HV ⊢
            clear hv6 hm0
            go_wp2
            go_loop [10, 11, 12] (fun i _ _ => ∃ j : Nat, j ≤ L.m ∧ i = .int .i64 j) (fun i _ _ => L.m - (intOf i).toNat)
            case atStart => exact ⟨0, Nat.zero_le _, rfl⟩
            case round =>
              obtain ⟨j, hj, rfl⟩ := hrel
              by_cases hjm : j < L.m
              · obtain ⟨hlv, hlo, _⟩ := HV.out.long j hjm
                have hcl := own_cell HV.out.outer hlv
                have hcj := HV.out.cells j hjm
                have HLO := Lib.hid hlo
                have HH := Lib.hid (HV.out.held j hjm)
                have hNj := HN.out j hjm
                have hjm' : (j : Int) < (L.m : Int) := by omega
                obtain ⟨n, hn⟩ : ∃ n, n = L.N j := ⟨_, rfl⟩
                obtain ⟨bj, hbj⟩ : ∃ x, x = b j := ⟨_, rfl⟩
                obtain ⟨cj, hcj2⟩ : ∃ x, x = c j := ⟨_, rfl⟩
                rw [← hn, ← hbj, ← hcj2] at hcl HLO
                rw [← hn] at hcj hNj HH
                have HNN := Lib.hid hn
                clear hn hbj hcj2 hlo hlv
                obtain ⟨r, hr⟩ : ∃ r, r = j % 26 := ⟨_, rfl⟩
                have hrl : r < 26 := by omega
                have hr1 : (j : Int) % 26 = (r : Int) := by omega
                have hXs : (M.extract r (r + 1)).size ≤ 1 := by simp; omega
                have hW : ({ data := #[119, 97, 115] } : ByteArray) ++ M.extract r (r + 1) = was j := by rw [was, HM.out, hr]
                have hX : ({ data := #[110, 101, 119] } : ByteArray) ++ M.extract r (r + 1) = new j := by rw [new, HM.out, hr]
                obtain ⟨Wj, hWj⟩ : ∃ x, x = was j := ⟨_, rfl⟩
                obtain ⟨Xj, hXj⟩ : ∃ x, x = new j := ⟨_, rfl⟩
                rw [← hWj] at hW
                rw [← hXj] at hX
                have HWJ := Lib.hid hWj
                have HXJ := Lib.hid hXj
                clear hr hWj hXj
                go_wp2
                go_loop [11, 12] (fun x _ => ∃ l : Nat, l ≤ n + 20 ∧ x = .int .i64 l) (fun x _ => n + 20 - (intOf x).toNat)
                case atStart => exact ⟨0, Nat.zero_le _, rfl⟩
                case round =>
                  obtain ⟨l, hl, rfl⟩ := hrel
                  by_cases hln : l < n
                  · obtain ⟨g, ha, hcg⟩ := HH.out l hln
                    have hcb := own_cell HLO.out (row_was (L := L) (j := j) (k := 20) (l := l) (by rw [← HNN.out]; exact hln))
                    rw [sw, ← HWJ.out] at hcg hcb
                    rw [ha] at hcj
                    have hln1 : (l : Int) < (n : Int) := by omega
                    have hln2 : (l : Int) < (n : Int) + 20 := by omega
                    go_wp2
                    go_round
                    case rel => exact ⟨l + 1, by omega, by go_num⟩
                    case measure => simp [intOf]; omega
                  · by_cases hl20 : l < n + 20
                    · have hcb := own_cell HLO.out (row_new (L := L) (j := j) (k := 20) (l := l) (by rw [← HNN.out]; exact hln) (by rw [← HNN.out]; exact hl20))
                      rw [sn, ← HXJ.out] at hcb
                      have hln1 : (n : Int) ≤ (l : Int) := by omega
                      have hln2 : (l : Int) < (n : Int) + 20 := by omega
                      go_wp2
                      go_round
                      case rel => exact ⟨l + 1, by omega, by go_num⟩
                      case measure => simp [intOf]; omega
                    · obtain rfl : l = n + 20 := by omega
                      go_wp2
                      go_round
                      case rel => exact ⟨j + 1, by omega, by go_num⟩
                      case measure => simp [intOf]; omega
              · go_wp2
                go_ret
                exact ⟨rfl, hbelow⟩
end Go.Proofs.Ytnpobigombafoaa.Aq

namespace Go.Proofs.Ytnpobigombafoaa.Mg
open Go.RowKit Tx Um Ud Aq Km Kd
set_option linter.unusedVariables false
def Fr (u v : Value) : Prop := ∀ g, u.ownBlock = some g → v.ownBlock ≠ some g
theorem Fr.symm {u v : Value} (h : Fr u v) : Fr v u := fun g h1 h2 => h g h2 h1
def adr (v : Value) : Option Addr := match v with
  | .slice A _ _ => A
  | _ => none
def cnt (v : Value) : Nat := match v with
  | .slice _ n _ => n
  | _ => 0
def capa (v : Value) : Nat := match v with
  | .slice _ _ c => c
  | _ => 0
def Lone (w : World) (B bo : Nat) (v : Value) : Prop := ∃ n xs, n ≤ 8796093022187 ∧ w.ownsRow B 9 1 v n xs ∧ v.ownBlock ≠ some bo
theorem Lone.form {w : World} {B bo : Nat} {v : Value} (h : Lone w B bo v) : v = .slice (adr v) (cnt v) (capa v) ∧ cnt v ≤ 8796093022187 ∧ (∃ xs, w.ownsRow B 9 1 v (cnt v) xs) ∧ (∀ x, adr v = some x → x = ⟨x.block, 0, none⟩ ∧ v.ownBlock = some x.block) := by
  obtain ⟨n, xs, hn, ho, hb⟩ := h
  have ho2 := ho
  rcases ho.2 with ⟨rfl, h0⟩ | ⟨g, cap, cur, rfl, _⟩
  · exact ⟨rfl, Nat.zero_le _, ⟨xs, by subst h0; exact ho2⟩, fun x hx => by cases hx⟩
  · exact ⟨rfl, hn, ⟨xs, ho2⟩, fun x hx => by injection hx with hx; subst hx; exact ⟨rfl, rfl⟩⟩
theorem lists_apart (vs : List Value) (bo co B : Nat) (w : World) (hl : ∀ v, v ∈ vs → Lone w B bo v) (hf : vs.Pairwise Fr) (hc : ∀ (j : Nat) v, vs[j]? = some v → w.cell? ⟨bo, j, none⟩ = some v) (hm : vs.length ≤ 1048576) (hB : B ≤ w.heap.size) (hbo : bo < w.heap.size) (hbB : B ≤ bo) :
    Calls Try.prog 13 #[.slice (some ⟨bo, 0, none⟩) vs.length co] w fun e w' => e = .returned (.bool true) ∧ Below B w w' := by
  let L : Ls := { m := vs.length, A := fun j => adr (vs.getD j undef), N := fun j => cnt (vs.getD j undef), C := fun j => capa (vs.getD j undef), bo := bo, B := B }
  have hget : ∀ j, (hj : j < vs.length) → vs.getD j undef = vs[j] := fun j hj => by rw [List.getD_eq_getElem?_getD, List.getElem?_eq_getElem hj]; rfl
  have hmem : ∀ j, (hj : j < vs.length) → Lone w B bo vs[j] := fun j hj => hl _ (List.getElem_mem hj)
  have hval : ∀ j, (hj : j < vs.length) → vs[j] = .slice (L.A j) (L.N j) (L.C j) := fun j hj => by
    show vs[j] = .slice (adr (vs.getD j undef)) (cnt (vs.getD j undef)) (capa (vs.getD j undef))
    rw [hget j hj]
    exact (hmem j hj).form.1
  refine apart_wide L co w hm (fun j hj => ?_) hB hbo hbB ⟨fun i j hi hj hne x hx hx2 => ?_, fun j hj g hg e => ?_⟩ (fun j hj => ?_) (fun j hj => ?_)
  · show cnt (vs.getD j undef) ≤ _
    rw [hget j hj]
    exact (hmem j hj).form.2.1
  · have hx : adr (vs.getD i undef) = some x := hx
    have hx2 : adr (vs.getD j undef) = some x := hx2
    rw [hget i hi] at hx
    rw [hget j hj] at hx2
    have e1 := ((hmem i hi).form.2.2.2 x hx).2
    have e2 := ((hmem j hj).form.2.2.2 x hx2).2
    have hp := List.pairwise_iff_getElem.1 hf
    rcases Nat.lt_or_gt_of_ne hne with h | h
    · exact hp i j hi hj h x.block e1 e2
    · exact hp j i hj hi h x.block e2 e1
  · have hg : adr (vs.getD j undef) = some ⟨g, 0, none⟩ := hg
    rw [hget j hj] at hg
    have e1 := ((hmem j hj).form.2.2.2 _ hg).2
    obtain ⟨_, _, _, _, hb⟩ := hmem j hj
    exact hb (by rw [e1]; exact congrArg some e)
  · rw [hc j vs[j] (List.getElem?_eq_getElem hj)]
    exact congrArg some (hval j hj)
  · obtain ⟨xs, ho⟩ := (hmem j hj).form.2.2.1
    refine ⟨xs, ?_, fun l hl h => ?_⟩
    · rw [← hval j hj]
      have e : L.N j = cnt vs[j] := by show cnt (vs.getD j undef) = _; rw [hget j hj]
      rw [e]
      exact ho
    · rcases h with h | ⟨h1, h2⟩
      · exact absurd h (Nat.not_lt_zero _)
      · exact absurd h2 (Nat.not_lt_zero _)
def quad : List Cc → List Cc → List Value
  | c :: cs, d :: ds => c.2.1 :: c.2.2.1 :: c.2.2.2 :: d.2.1 :: quad cs ds
  | _, _ => []
def bases (ds : List Cc) : List Value := ds.map fun d => d.2.1
theorem quad_perm : ∀ {cs ds : List Cc}, cs.length = ds.length → (quad cs ds).Perm (vals3 cs ++ bases ds)
  | [], [], _ => List.Perm.refl _
  | c :: cs, d :: ds, h => by
    have ih := quad_perm (cs := cs) (ds := ds) (by simpa using h)
    have e1 : vals3 (c :: cs) = c.2.1 :: c.2.2.1 :: c.2.2.2 :: vals3 cs := rfl
    have e2 : bases (d :: ds) = d.2.1 :: bases ds := rfl
    have e3 : quad (c :: cs) (d :: ds) = c.2.1 :: c.2.2.1 :: c.2.2.2 :: d.2.1 :: quad cs ds := rfl
    rw [e1, e2, e3, List.cons_append, List.cons_append, List.cons_append]
    refine List.Perm.cons _ (List.Perm.cons _ (List.Perm.cons _ ?_))
    refine List.Perm.trans ?_ List.perm_middle.symm
    exact List.Perm.cons _ ih
theorem quad_len : ∀ (cs ds : List Cc), cs.length = ds.length → (quad cs ds).length = cs.length * 4
  | [], [], _ => rfl
  | c :: cs, d :: ds, h => by
    show (quad cs ds).length + 1 + 1 + 1 + 1 = (cs.length + 1) * 4
    rw [quad_len cs ds (by simpa using h)]
    omega
theorem quad_snoc : ∀ {cs ds : List Cc} {c d : Cc}, cs.length = ds.length → quad (cs ++ [c]) (ds ++ [d]) = quad cs ds ++ [c.2.1, c.2.2.1, c.2.2.2, d.2.1]
  | [], [], _, _, _ => rfl
  | x :: cs, y :: ds, c, d, h => by
    show x.2.1 :: x.2.2.1 :: x.2.2.2 :: y.2.1 :: quad (cs ++ [c]) (ds ++ [d]) = _
    rw [quad_snoc (by simpa using h)]
    rfl
theorem OwnC.pair {w : World} {B : Nat} {cs : List Cc} {hs : List (Ck ByteArray)} (h : OwnC w B cs hs) : (vals3 cs).Pairwise Fr := by
  rw [List.pairwise_iff_getElem]
  intro i j hi hj hij g h1 h2
  exact h.far i j _ _ g (List.getElem?_eq_getElem hi) (List.getElem?_eq_getElem hj) (by omega) h1 h2
theorem vals3_mem {cs : List Cc} {u : Value} (h : u ∈ vals3 cs) : ∃ c, c ∈ cs ∧ (u = c.2.1 ∨ u = c.2.2.1 ∨ u = c.2.2.2) := by
  unfold vals3 at h
  obtain ⟨c, hc, hu⟩ := List.mem_flatMap.1 h
  simp only [List.mem_cons, List.not_mem_nil, or_false] at hu
  exact ⟨c, hc, hu⟩
theorem bases_sub (ds : List Cc) : (bases ds).Sublist (vals3 ds) := by
  induction ds with
  | nil => exact List.Sublist.refl _
  | cons d ds ih =>
    show (d.2.1 :: bases ds).Sublist (d.2.1 :: d.2.2.1 :: d.2.2.2 :: vals3 ds)
    exact List.Sublist.cons_cons _ (List.Sublist.cons _ (List.Sublist.cons _ ih))
theorem OwnC.mem {w : World} {B : Nat} {cs : List Cc} {hs : List (Ck ByteArray)} (h : OwnC w B cs hs) (hl : cs.length = hs.length) {u : Value} (hu : u ∈ vals3 cs) : ∃ l, (∃ x, x ∈ hs ∧ (l = x.b ∨ l = x.l ∨ l = x.r)) ∧ Lo w B u l := by
  obtain ⟨c, hc, hu⟩ := vals3_mem hu
  obtain ⟨k, hk⟩ := List.mem_iff_getElem?.1 hc
  have hk2 := (List.getElem?_eq_some_iff.1 hk).1
  obtain ⟨h1, h2, h3⟩ := h.each k c hs[k] hk (List.getElem?_eq_getElem (by omega))
  rcases hu with rfl | rfl | rfl
  · exact ⟨_, ⟨_, List.getElem_mem _, .inl rfl⟩, h1⟩
  · exact ⟨_, ⟨_, List.getElem_mem _, .inr (.inl rfl)⟩, h2⟩
  · exact ⟨_, ⟨_, List.getElem_mem _, .inr (.inr rfl)⟩, h3⟩
theorem OwnC.take {w : World} {B : Nat} {cs : List Cc} {hs : List (Ck ByteArray)} (h : OwnC w B cs hs) (k : Nat) : OwnC w B (cs.take k) (hs.take k) := by
  have hv : ∀ (i : Nat) u, (vals3 (cs.take k))[i]? = some u → (vals3 cs)[i]? = some u := fun i u hu => by
    have e : vals3 cs = vals3 (cs.take k) ++ vals3 (cs.drop k) := by unfold vals3; rw [← List.flatMap_append, List.take_append_drop]
    rw [e, List.getElem?_append_left (List.getElem?_eq_some_iff.1 hu).1]
    exact hu
  refine ⟨fun i c x hc hx => ?_, fun i j u v g hu hv' hne => h.far i j u v g (hv i u hu) (hv j v hv') hne⟩
  have h1 := (List.getElem?_eq_some_iff.1 hc).1
  rw [List.length_take] at h1
  rw [List.getElem?_take_of_lt (by omega)] at hc hx
  exact h.each i c x hc hx
theorem lone_of {w w1 : World} {B B0 bo : Nat} {u : Value} {l : List ByteArray} (h : Lo w B u l) (hl : l.length ≤ 8796093022187) (hb : Below w.heap.size w w1) (hB : B0 ≤ B) (hbo : w.heap.size ≤ bo) : Lone w1 B0 bo u :=
  ⟨l.length, _, hl, own_base (h.below hb) hB, fun e => by have := (World.ownsRow.lt h bo e).2; omega⟩
theorem own_cell1 {w : World} {B g n c : Nat} {e : TypeId} {xs : List Value} (h : w.ownsRow B e 1 (.slice (some ⟨g, 0, none⟩) n c) n xs) {j : Nat} {u : Value} (hj : xs[j]? = some u) : w.cell? ⟨g, j, none⟩ = some u := by
  have e1 := World.ownsRow.cells (g := g) h rfl j u hj
  rw [WideShapes.add_plain, Nat.zero_add] at e1
  exact e1
theorem list_form {w : World} {B n : Nat} {v : Value} {xs : List Value} (h : w.ownsRow B 31 1 v n xs) (hn : 0 < n) : ∃ g c, v = .slice (some ⟨g, 0, none⟩) n c ∧ B ≤ g ∧ g < w.heap.size ∧ ∀ (j : Nat) u, xs[j]? = some u → w.cell? ⟨g, j, none⟩ = some u := by
  have hh := h
  rcases h.2 with ⟨_, h0⟩ | ⟨g, cap, cur, rfl, hg, hb, _⟩
  · omega
  · exact ⟨g, cap, rfl, hg, (Array.getElem?_eq_some_iff.1 hb).1, fun j u hu => own_cell1 hh hu⟩
theorem cs_cells {w : World} {B n c : Nat} {a : Option Addr} {cs : List Cc} (h : Cs w B (.slice a n c) cs) {k : Nat} {x : Cc} (hx : cs[k]? = some x) : ∃ b, a = some ⟨b, 0, none⟩ ∧ b < w.heap.size ∧ w.cell? ⟨b, 0 + k * 4 + 1, none⟩ = some x.2.1 ∧ w.cell? ⟨b, 0 + k * 4 + 2, none⟩ = some x.2.2.1 ∧ w.cell? ⟨b, 0 + k * 4 + 3, none⟩ = some x.2.2.2 := by
  have hk := (List.getElem?_eq_some_iff.1 hx).1
  rcases h.2 with ⟨_, h0⟩ | ⟨g, cap, cur, hv, hg, hh, hn, hc, _⟩
  · omega
  · injection hv with h1 h2 h3'
    subst h1
    obtain ⟨_, e2, e3, e4⟩ := flat5_get cs k x hx
    have d2 := World.ownsRow.cells h (g := g) rfl _ _ e2
    have d3 := World.ownsRow.cells h (g := g) rfl _ _ e3
    have d4 := World.ownsRow.cells h (g := g) rfl _ _ e4
    rw [WideShapes.add_plain, ← Nat.add_assoc] at d2 d3 d4
    exact ⟨g, rfl, (Array.getElem?_eq_some_iff.1 hh).1, d2, d3, d4⟩
theorem quad_apart {B1 B2 : Nat} {w1 w2 : World} {cs ds : List Cc} {hs : List (Ck ByteArray)} (h1 : OwnC w1 B1 cs hs) (h2 : OwnC w2 B2 ds hs) (hs1 : w1.heap.size ≤ B2) (hc : cs.length = hs.length) (hd : ds.length = hs.length) : (quad cs ds).Pairwise Fr := by
  have hp := quad_perm (cs := cs) (ds := ds) (by omega)
  rw [hp.pairwise_iff (fun {x y} h => Fr.symm h)]
  refine List.pairwise_append.2 ⟨h1.pair, h2.pair.sublist (bases_sub ds), fun u hu v hv g hg hg2 => ?_⟩
  obtain ⟨l, _, hl⟩ := h1.mem hc hu
  obtain ⟨l', _, hl'⟩ := h2.mem hd ((bases_sub ds).subset hv)
  have e1 := (World.ownsRow.lt hl g hg).2
  have e2 := (World.ownsRow.lt hl' g hg2).1
  omega
end Go.Proofs.Ytnpobigombafoaa.Mg

namespace Go.Proofs.Ytnpobigombafoaa.Mg
open Go.RowKit Tx
set_option linter.unusedVariables false
def Lst4 (bh oh bk ok k : Nat) (u1 u2 u3 u4 : Value) (W : World) : Prop := W.cell? ⟨bh, oh + k * 4 + 1, none⟩ = some u1 ∧ W.cell? ⟨bh, oh + k * 4 + 2, none⟩ = some u2 ∧ W.cell? ⟨bh, oh + k * 4 + 3, none⟩ = some u3 ∧ W.cell? ⟨bk, ok + k * 4 + 1, none⟩ = some u4
set_option maxRecDepth 100000 in
set_option maxHeartbeats 4000000 in
theorem listsReg (ops : Array Oper) (hops : ops = (Rg.opsOf Try.f3 10)) (id : Nat) (bh oh hc bk ok kc k L n1 n2 n3 n4 c1 c2 c3 c4 : Nat) (A1 A2 A3 A4 : Option Addr) (vL : Value) {u0 u1 u2 u3 u4 u5 u6 u8 u9 u10 u12 u15 u16 u17 u18 u19 u20 u21 u22 u23 u24 u25 u26 u27 u28 u29 u30 u31 u32 u33 u34 u35 u36 u37 u38 u39 u40 u41 u42 u43 u44 u45 u46 u47 u48 u49 u50 u51 u52 u53 u54 u55 u56 u57 u58 u59 u60 u61 u62 u63 u64 u65 u66 u67 u68 u69 u70 u71 u72 u73 u74 u75 u76 u77 u78 u79 u80 u81 u82 u83 u84 u85 u86 u87 u88 u89 : Value} (w : World) (hk : (k : Int) < (L : Int)) (X0 : World → Prop) (Z : Value → World → Prop)
    (hX : ∀ W, X0 W → Lst4 bh oh bk ok k (.slice A1 n1 c1) (.slice A2 n2 c2) (.slice A3 n3 c3) (.slice A4 n4 c4) W) (hw : X0 w.drew) (hX2 : X0 (w.drew.alloc (.cells #[.slice A1 n1 c1, .slice A2 n2 c2, .slice A3 n3 c3, .slice A4 n4 c4] 31)))
    (hE : ∀ ty, ∃ v8 w8, (Builtin.append_ #[30, 30] ty #[vL, .slice (some ⟨w.heap.size, 0, none⟩) 4 4]).run Try.prog (w.drew.alloc (.cells #[.slice A1 n1 c1, .slice A2 n2 c2, .slice A3 n3 c3, .slice A4 n4 c4] 31)) = .ok v8 w8 ∧ X0 w8 ∧ Z v8 w8) :
    (Code.region id ops true).wp Try.prog (Rg.Only fun a' w' => ∃ v8 : Value, a' = ⟨#[u0, u1, u2, u3, u4, u5, u6, (.slice (some ⟨bh, oh, none⟩) L hc), u8, u9, u10, (.slice (some ⟨bk, ok, none⟩) L kc), u12, v8, (.int .i64 (k : Int)), u15, u16, u17, u18, u19, u20, u21, u22, u23, u24, u25, u26, u27, u28, u29, u30, u31, u32, u33, u34, u35, u36, u37, u38, u39, u40, u41, u42, u43, u44, u45, u46, u47, u48, u49, u50, u51, u52, u53, u54, u55, u56, u57, u58, u59, u60, u61, u62, u63, u64, vL, (.slice (some ⟨bh, oh, none⟩) L hc), (.int .i64 (k : Int)), (.pointer (some ⟨bh, oh + k * 4, none⟩)), (.pointer (some ⟨bh, oh + k * 4 + 1, none⟩)), (.slice A1 n1 c1), (.slice (some ⟨bh, oh, none⟩) L hc), (.int .i64 (k : Int)), (.pointer (some ⟨bh, oh + k * 4, none⟩)), (.pointer (some ⟨bh, oh + k * 4 + 2, none⟩)), (.slice A2 n2 c2), (.slice (some ⟨bh, oh, none⟩) L hc), (.int .i64 (k : Int)), (.pointer (some ⟨bh, oh + k * 4, none⟩)), (.pointer (some ⟨bh, oh + k * 4 + 3, none⟩)), (.slice A3 n3 c3), (.slice (some ⟨bk, ok, none⟩) L kc), (.int .i64 (k : Int)), (.pointer (some ⟨bk, ok + k * 4, none⟩)), (.pointer (some ⟨bk, ok + k * 4 + 1, none⟩)), (.slice A4 n4 c4), (.slice (some ⟨w.heap.size, 0, none⟩) 4 4), v8, u88, u89], []⟩ ∧ Z v8 w') ⟨#[u0, u1, u2, u3, u4, u5, u6, (.slice (some ⟨bh, oh, none⟩) L hc), u8, u9, u10, (.slice (some ⟨bk, ok, none⟩) L kc), u12, vL, (.int .i64 (k : Int)), u15, u16, u17, u18, u19, u20, u21, u22, u23, u24, u25, u26, u27, u28, u29, u30, u31, u32, u33, u34, u35, u36, u37, u38, u39, u40, u41, u42, u43, u44, u45, u46, u47, u48, u49, u50, u51, u52, u53, u54, u55, u56, u57, u58, u59, u60, u61, u62, u63, u64, u65, u66, u67, u68, u69, u70, u71, u72, u73, u74, u75, u76, u77, u78, u79, u80, u81, u82, u83, u84, u85, u86, u87, u88, u89], []⟩ w := by
  subst hops
  have hNS : Region.noSelect (Rg.opsOf Try.f3 10) = true := by kernel_rfl
  refine wp_region_held_drew (S := X0) (by kernel_rfl) hw (fun hHeld => ?_)
  rw [show (Rg.opsOf Try.f3 10).size = 24 by kernel_rfl]
  refine Rg.take (ops := (Rg.opsOf Try.f3 10)) 0 (some 65) (vL) hNS (by kernel_rfl) (by kernel_rfl) (by kernel_rfl) (by kernel_rfl) (by kernel_rfl) hHeld (Rg.y_move (x := (Operand.tmp 13)) (Or.inl (by kernel_rfl)) (by kernel_rfl)) ?_
  refine Rg.take (ops := (Rg.opsOf Try.f3 10)) 1 (some 66) ((.slice (some ⟨bh, oh, none⟩) L hc)) hNS (by kernel_rfl) (by kernel_rfl) (by kernel_rfl) (by kernel_rfl) (by kernel_rfl) hHeld (Rg.y_move (x := (Operand.tmp 7)) (Or.inl (by kernel_rfl)) (by kernel_rfl)) ?_
  refine Rg.take (ops := (Rg.opsOf Try.f3 10)) 2 (some 67) ((.int .i64 (k : Int))) hNS (by kernel_rfl) (by kernel_rfl) (by kernel_rfl) (by kernel_rfl) (by kernel_rfl) hHeld (Rg.y_move (x := (Operand.tmp 14)) (Or.inl (by kernel_rfl)) (by kernel_rfl)) ?_
  refine Rg.take (ops := (Rg.opsOf Try.f3 10)) 3 (some 68) ((.pointer (some ⟨bh, oh + k * 4, none⟩))) hNS (by kernel_rfl) (by kernel_rfl) (by kernel_rfl) (by kernel_rfl) (by kernel_rfl) hHeld (Rg.y_at (T := 22) (x := (Operand.tmp 66)) (y := (Operand.tmp 67)) (vx := (.slice (some ⟨bh, oh, none⟩) L hc)) (vy := (.int .i64 (k : Int))) (by kernel_rfl) (by kernel_rfl) (by kernel_rfl) ?_) ?_
  · (intro W hSw; clear hSw hHeld; go_simp)
  refine Rg.take (ops := (Rg.opsOf Try.f3 10)) 4 (some 69) ((.pointer (some ⟨bh, oh + k * 4 + 1, none⟩))) hNS (by kernel_rfl) (by kernel_rfl) (by kernel_rfl) (by kernel_rfl) (by kernel_rfl) hHeld (Rg.y_field (T := 33) (k := 1) (x := (Operand.tmp 68)) (vx := (.pointer (some ⟨bh, oh + k * 4, none⟩))) (by kernel_rfl) (by kernel_rfl) ?_) ?_
  · (intro W hSw; clear hSw hHeld; go_simp)
  refine Rg.take (ops := (Rg.opsOf Try.f3 10)) 5 (some 70) ((.slice A1 n1 c1)) hNS (by kernel_rfl) (by kernel_rfl) (by kernel_rfl) (by kernel_rfl) (by kernel_rfl) hHeld (Rg.y_load (T := 31) (x := (Operand.tmp 69)) (vx := (.pointer (some ⟨bh, oh + k * 4 + 1, none⟩))) (by kernel_rfl) (by kernel_rfl) ?_) ?_
  · (intro W hSw; obtain ⟨s0, s1, s2, s3⟩ := hX _ hSw; clear hSw hHeld; go_simp)
  refine Rg.take (ops := (Rg.opsOf Try.f3 10)) 6 (some 71) ((.slice (some ⟨bh, oh, none⟩) L hc)) hNS (by kernel_rfl) (by kernel_rfl) (by kernel_rfl) (by kernel_rfl) (by kernel_rfl) hHeld (Rg.y_move (x := (Operand.tmp 7)) (Or.inl (by kernel_rfl)) (by kernel_rfl)) ?_
  refine Rg.take (ops := (Rg.opsOf Try.f3 10)) 7 (some 72) ((.int .i64 (k : Int))) hNS (by kernel_rfl) (by kernel_rfl) (by kernel_rfl) (by kernel_rfl) (by kernel_rfl) hHeld (Rg.y_move (x := (Operand.tmp 14)) (Or.inl (by kernel_rfl)) (by kernel_rfl)) ?_
  refine Rg.take (ops := (Rg.opsOf Try.f3 10)) 8 (some 73) ((.pointer (some ⟨bh, oh + k * 4, none⟩))) hNS (by kernel_rfl) (by kernel_rfl) (by kernel_rfl) (by kernel_rfl) (by kernel_rfl) hHeld (Rg.y_at (T := 22) (x := (Operand.tmp 71)) (y := (Operand.tmp 72)) (vx := (.slice (some ⟨bh, oh, none⟩) L hc)) (vy := (.int .i64 (k : Int))) (by kernel_rfl) (by kernel_rfl) (by kernel_rfl) ?_) ?_
  · (intro W hSw; clear hSw hHeld; go_simp)
  refine Rg.take (ops := (Rg.opsOf Try.f3 10)) 9 (some 74) ((.pointer (some ⟨bh, oh + k * 4 + 2, none⟩))) hNS (by kernel_rfl) (by kernel_rfl) (by kernel_rfl) (by kernel_rfl) (by kernel_rfl) hHeld (Rg.y_field (T := 33) (k := 2) (x := (Operand.tmp 73)) (vx := (.pointer (some ⟨bh, oh + k * 4, none⟩))) (by kernel_rfl) (by kernel_rfl) ?_) ?_
  · (intro W hSw; clear hSw hHeld; go_simp)
  refine Rg.take (ops := (Rg.opsOf Try.f3 10)) 10 (some 75) ((.slice A2 n2 c2)) hNS (by kernel_rfl) (by kernel_rfl) (by kernel_rfl) (by kernel_rfl) (by kernel_rfl) hHeld (Rg.y_load (T := 31) (x := (Operand.tmp 74)) (vx := (.pointer (some ⟨bh, oh + k * 4 + 2, none⟩))) (by kernel_rfl) (by kernel_rfl) ?_) ?_
  · (intro W hSw; obtain ⟨s0, s1, s2, s3⟩ := hX _ hSw; clear hSw hHeld; go_simp)
  refine Rg.take (ops := (Rg.opsOf Try.f3 10)) 11 (some 76) ((.slice (some ⟨bh, oh, none⟩) L hc)) hNS (by kernel_rfl) (by kernel_rfl) (by kernel_rfl) (by kernel_rfl) (by kernel_rfl) hHeld (Rg.y_move (x := (Operand.tmp 7)) (Or.inl (by kernel_rfl)) (by kernel_rfl)) ?_
  refine Rg.take (ops := (Rg.opsOf Try.f3 10)) 12 (some 77) ((.int .i64 (k : Int))) hNS (by kernel_rfl) (by kernel_rfl) (by kernel_rfl) (by kernel_rfl) (by kernel_rfl) hHeld (Rg.y_move (x := (Operand.tmp 14)) (Or.inl (by kernel_rfl)) (by kernel_rfl)) ?_
  refine Rg.take (ops := (Rg.opsOf Try.f3 10)) 13 (some 78) ((.pointer (some ⟨bh, oh + k * 4, none⟩))) hNS (by kernel_rfl) (by kernel_rfl) (by kernel_rfl) (by kernel_rfl) (by kernel_rfl) hHeld (Rg.y_at (T := 22) (x := (Operand.tmp 76)) (y := (Operand.tmp 77)) (vx := (.slice (some ⟨bh, oh, none⟩) L hc)) (vy := (.int .i64 (k : Int))) (by kernel_rfl) (by kernel_rfl) (by kernel_rfl) ?_) ?_
  · (intro W hSw; clear hSw hHeld; go_simp)
  refine Rg.take (ops := (Rg.opsOf Try.f3 10)) 14 (some 79) ((.pointer (some ⟨bh, oh + k * 4 + 3, none⟩))) hNS (by kernel_rfl) (by kernel_rfl) (by kernel_rfl) (by kernel_rfl) (by kernel_rfl) hHeld (Rg.y_field (T := 33) (k := 3) (x := (Operand.tmp 78)) (vx := (.pointer (some ⟨bh, oh + k * 4, none⟩))) (by kernel_rfl) (by kernel_rfl) ?_) ?_
  · (intro W hSw; clear hSw hHeld; go_simp)
  refine Rg.take (ops := (Rg.opsOf Try.f3 10)) 15 (some 80) ((.slice A3 n3 c3)) hNS (by kernel_rfl) (by kernel_rfl) (by kernel_rfl) (by kernel_rfl) (by kernel_rfl) hHeld (Rg.y_load (T := 31) (x := (Operand.tmp 79)) (vx := (.pointer (some ⟨bh, oh + k * 4 + 3, none⟩))) (by kernel_rfl) (by kernel_rfl) ?_) ?_
  · (intro W hSw; obtain ⟨s0, s1, s2, s3⟩ := hX _ hSw; clear hSw hHeld; go_simp)
  refine Rg.take (ops := (Rg.opsOf Try.f3 10)) 16 (some 81) ((.slice (some ⟨bk, ok, none⟩) L kc)) hNS (by kernel_rfl) (by kernel_rfl) (by kernel_rfl) (by kernel_rfl) (by kernel_rfl) hHeld (Rg.y_move (x := (Operand.tmp 11)) (Or.inl (by kernel_rfl)) (by kernel_rfl)) ?_
  refine Rg.take (ops := (Rg.opsOf Try.f3 10)) 17 (some 82) ((.int .i64 (k : Int))) hNS (by kernel_rfl) (by kernel_rfl) (by kernel_rfl) (by kernel_rfl) (by kernel_rfl) hHeld (Rg.y_move (x := (Operand.tmp 14)) (Or.inl (by kernel_rfl)) (by kernel_rfl)) ?_
  refine Rg.take (ops := (Rg.opsOf Try.f3 10)) 18 (some 83) ((.pointer (some ⟨bk, ok + k * 4, none⟩))) hNS (by kernel_rfl) (by kernel_rfl) (by kernel_rfl) (by kernel_rfl) (by kernel_rfl) hHeld (Rg.y_at (T := 22) (x := (Operand.tmp 81)) (y := (Operand.tmp 82)) (vx := (.slice (some ⟨bk, ok, none⟩) L kc)) (vy := (.int .i64 (k : Int))) (by kernel_rfl) (by kernel_rfl) (by kernel_rfl) ?_) ?_
  · (intro W hSw; clear hSw hHeld; go_simp)
  refine Rg.take (ops := (Rg.opsOf Try.f3 10)) 19 (some 84) ((.pointer (some ⟨bk, ok + k * 4 + 1, none⟩))) hNS (by kernel_rfl) (by kernel_rfl) (by kernel_rfl) (by kernel_rfl) (by kernel_rfl) hHeld (Rg.y_field (T := 33) (k := 1) (x := (Operand.tmp 83)) (vx := (.pointer (some ⟨bk, ok + k * 4, none⟩))) (by kernel_rfl) (by kernel_rfl) ?_) ?_
  · (intro W hSw; clear hSw hHeld; go_simp)
  refine Rg.take (ops := (Rg.opsOf Try.f3 10)) 20 (some 85) ((.slice A4 n4 c4)) hNS (by kernel_rfl) (by kernel_rfl) (by kernel_rfl) (by kernel_rfl) (by kernel_rfl) hHeld (Rg.y_load (T := 31) (x := (Operand.tmp 84)) (vx := (.pointer (some ⟨bk, ok + k * 4 + 1, none⟩))) (by kernel_rfl) (by kernel_rfl) ?_) ?_
  · (intro W hSw; obtain ⟨s0, s1, s2, s3⟩ := hX _ hSw; clear hSw hHeld; go_simp)
  refine Rg.bld (ops := (Rg.opsOf Try.f3 10)) 21 (some 86) (T := 30) (len := 4) (parts := #[(0, Operand.tmp 70), (1, Operand.tmp 75), (2, Operand.tmp 80), (3, Operand.tmp 85)]) (vs := #[(0, (.slice A1 n1 c1)), (1, (.slice A2 n2 c2)), (2, (.slice A3 n3 c3)), (3, (.slice A4 n4 c4))]) (v := (.slice (some ⟨w.heap.size, 0, none⟩) 4 4)) (w1 := w.drew.alloc (.cells #[.slice A1 n1 c1, .slice A2 n2 c2, .slice A3 n3 c3, .slice A4 n4 c4] 31)) (by kernel_rfl) (by kernel_rfl) (by kernel_rfl) (by kernel_rfl) (by kernel_rfl) (by kernel_rfl) ?_ (hX2) (fun hHeld => ?_)
  · (clear hHeld hE; go_simp)
  refine Rg.app1 (ops := (Rg.opsOf Try.f3 10)) 22 (some 87) (T := 30) (x := (Operand.tmp 65)) (y := (Operand.tmp 86)) (vx := vL) (vy := (.slice (some ⟨w.heap.size, 0, none⟩) 4 4)) (by kernel_rfl) (by kernel_rfl) (by kernel_rfl) (by kernel_rfl) (by kernel_rfl) (by kernel_rfl) (by kernel_rfl) ?_
  intro ty
  obtain ⟨v8, w8, e8, h8, h9⟩ := hE ty
  refine ⟨v8, w8, e8, h8, fun hHeld => ?_⟩
  refine Rg.take (ops := (Rg.opsOf Try.f3 10)) 23 (some 13) (v8) hNS (by kernel_rfl) (by kernel_rfl) (by kernel_rfl) (by kernel_rfl) (by kernel_rfl) hHeld (Rg.y_move (x := (Operand.tmp 87)) (Or.inr (by kernel_rfl)) (by kernel_rfl)) ?_
  refine Rg.done (ops := (Rg.opsOf Try.f3 10)) (by kernel_rfl) ?_
  exact ⟨v8, by kernel_rfl, h9⟩
end Go.Proofs.Ytnpobigombafoaa.Mg

namespace Go.Proofs.Ytnpobigombafoaa.Mg
open Go.RowKit Tx
set_option linter.unusedVariables false
def Alk4 (ba oa bb ob : Nat) (st : Bool) (u1 u2 u3 v1 v2 v3 : Value) (W : World) : Prop := W.cell? ⟨ba, oa, none⟩ = some (.bool st) ∧ W.cell? ⟨ba, oa + 1, none⟩ = some u1 ∧ W.cell? ⟨ba, oa + 2, none⟩ = some u2 ∧ W.cell? ⟨ba, oa + 3, none⟩ = some u3 ∧ W.cell? ⟨bb, ob, none⟩ = some (.bool st) ∧ W.cell? ⟨bb, ob + 1, none⟩ = some v1 ∧ W.cell? ⟨bb, ob + 2, none⟩ = some v2 ∧ W.cell? ⟨bb, ob + 3, none⟩ = some v3
set_option maxRecDepth 100000 in
set_option maxHeartbeats 4000000 in
theorem same4Reg (ops : Array Oper) (hops : ops = (Rg.opsOf Try.f12 6)) (id : Nat) (ba oa bb ob k n ca cb n1 n2 n3 c1 c2 c3 d1 d2 d3 : Nat) (A1 A2 A3 B1 B2 B3 : Option Addr) (st : Bool) {u2 u3 u4 u6 u7 u8 u9 u10 u11 u12 u13 u14 u15 u16 u17 u18 u19 u20 u21 u22 u23 u24 u25 u26 u27 u28 u29 u30 u31 u32 u33 u34 u35 u36 u37 u38 u39 u40 u41 u42 u43 u44 u45 u46 u47 u48 u49 u50 u51 u52 u53 u54 u55 u56 u57 u58 u59 u60 u61 u62 u63 u64 u65 u66 u67 u68 u69 : Value} (w : World) (hk : (k : Int) < (n : Int)) (X : World → Prop)
    (hX : ∀ W, X W → Alk4 ba (oa + k * 4) bb (ob + k * 4) st (.slice A1 n1 c1) (.slice A2 n2 c2) (.slice A3 n3 c3) (.slice B1 n1 d1) (.slice B2 n2 d2) (.slice B3 n3 d3) W) (hw : X w.drew)
    (hS1 : ∀ W, X W → Calls Try.prog 17 #[.slice A1 n1 c1, .slice B1 n1 d1] W fun e w' => e = .returned (.bool true) ∧ X w')
    (hS2 : ∀ W, X W → Calls Try.prog 17 #[.slice A2 n2 c2, .slice B2 n2 d2] W fun e w' => e = .returned (.bool true) ∧ X w')
    (hS3 : ∀ W, X W → Calls Try.prog 17 #[.slice A3 n3 c3, .slice B3 n3 d3] W fun e w' => e = .returned (.bool true) ∧ X w') :
    (Code.region id ops true).wp Try.prog (Rg.Only fun a' w' => a' = ⟨#[(.slice (some ⟨ba, oa, none⟩) n ca), (.slice (some ⟨bb, ob, none⟩) n cb), u2, u3, u4, (.int .i64 (k : Int)), u6, u7, u8, u9, u10, u11, u12, u13, u14, u15, u16, (.slice (some ⟨ba, oa, none⟩) n ca), (.int .i64 (k : Int)), (.pointer (some ⟨ba, oa + k * 4, none⟩)), (.pointer (some ⟨ba, oa + k * 4, none⟩)), (.bool st), (.slice (some ⟨bb, ob, none⟩) n cb), (.int .i64 (k : Int)), (.pointer (some ⟨bb, ob + k * 4, none⟩)), (.pointer (some ⟨bb, ob + k * 4, none⟩)), (.bool st), (.bool false), (.bool false), (.slice (some ⟨ba, oa, none⟩) n ca), (.int .i64 (k : Int)), (.pointer (some ⟨ba, oa + k * 4, none⟩)), (.pointer (some ⟨ba, oa + k * 4 + 1, none⟩)), (.slice A1 n1 c1), (.slice (some ⟨bb, ob, none⟩) n cb), (.int .i64 (k : Int)), (.pointer (some ⟨bb, ob + k * 4, none⟩)), (.pointer (some ⟨bb, ob + k * 4 + 1, none⟩)), (.slice B1 n1 d1), (.bool true), (.bool false), (.bool false), (.bool false), (.slice (some ⟨ba, oa, none⟩) n ca), (.int .i64 (k : Int)), (.pointer (some ⟨ba, oa + k * 4, none⟩)), (.pointer (some ⟨ba, oa + k * 4 + 2, none⟩)), (.slice A2 n2 c2), (.slice (some ⟨bb, ob, none⟩) n cb), (.int .i64 (k : Int)), (.pointer (some ⟨bb, ob + k * 4, none⟩)), (.pointer (some ⟨bb, ob + k * 4 + 2, none⟩)), (.slice B2 n2 d2), (.bool true), (.bool false), (.bool false), (.bool false), (.slice (some ⟨ba, oa, none⟩) n ca), (.int .i64 (k : Int)), (.pointer (some ⟨ba, oa + k * 4, none⟩)), (.pointer (some ⟨ba, oa + k * 4 + 3, none⟩)), (.slice A3 n3 c3), (.slice (some ⟨bb, ob, none⟩) n cb), (.int .i64 (k : Int)), (.pointer (some ⟨bb, ob + k * 4, none⟩)), (.pointer (some ⟨bb, ob + k * 4 + 3, none⟩)), (.slice B3 n3 d3), (.bool true), (.bool false), (.bool false)], []⟩ ∧ X w') ⟨#[(.slice (some ⟨ba, oa, none⟩) n ca), (.slice (some ⟨bb, ob, none⟩) n cb), u2, u3, u4, (.int .i64 (k : Int)), u6, u7, u8, u9, u10, u11, u12, u13, u14, u15, u16, u17, u18, u19, u20, u21, u22, u23, u24, u25, u26, u27, u28, u29, u30, u31, u32, u33, u34, u35, u36, u37, u38, u39, u40, u41, u42, u43, u44, u45, u46, u47, u48, u49, u50, u51, u52, u53, u54, u55, u56, u57, u58, u59, u60, u61, u62, u63, u64, u65, u66, u67, u68, u69], []⟩ w := by
  subst hops
  have hNS : Region.noSelect (Rg.opsOf Try.f12 6) = true := by kernel_rfl
  refine wp_region_held_drew (S := X) (by kernel_rfl) hw (fun hHeld => ?_)
  rw [show (Rg.opsOf Try.f12 6).size = 53 by kernel_rfl]
  refine Rg.take (ops := (Rg.opsOf Try.f12 6)) 0 (some 17) ((.slice (some ⟨ba, oa, none⟩) n ca)) hNS (by kernel_rfl) (by kernel_rfl) (by kernel_rfl) (by kernel_rfl) (by kernel_rfl) hHeld (Rg.y_move (x := (Operand.tmp 0)) (Or.inl (by kernel_rfl)) (by kernel_rfl)) ?_
  refine Rg.take (ops := (Rg.opsOf Try.f12 6)) 1 (some 18) ((.int .i64 (k : Int))) hNS (by kernel_rfl) (by kernel_rfl) (by kernel_rfl) (by kernel_rfl) (by kernel_rfl) hHeld (Rg.y_move (x := (Operand.tmp 5)) (Or.inl (by kernel_rfl)) (by kernel_rfl)) ?_
  refine Rg.take (ops := (Rg.opsOf Try.f12 6)) 2 (some 19) ((.pointer (some ⟨ba, oa + k * 4, none⟩))) hNS (by kernel_rfl) (by kernel_rfl) (by kernel_rfl) (by kernel_rfl) (by kernel_rfl) hHeld (Rg.y_at (T := 22) (x := (Operand.tmp 17)) (y := (Operand.tmp 18)) (vx := (.slice (some ⟨ba, oa, none⟩) n ca)) (vy := (.int .i64 (k : Int))) (by kernel_rfl) (by kernel_rfl) (by kernel_rfl) ?_) ?_
  · (intro W hSw; clear hSw hHeld; go_simp)
  refine Rg.take (ops := (Rg.opsOf Try.f12 6)) 3 (some 20) ((.pointer (some ⟨ba, oa + k * 4, none⟩))) hNS (by kernel_rfl) (by kernel_rfl) (by kernel_rfl) (by kernel_rfl) (by kernel_rfl) hHeld (Rg.y_field (T := 33) (k := 0) (x := (Operand.tmp 19)) (vx := (.pointer (some ⟨ba, oa + k * 4, none⟩))) (by kernel_rfl) (by kernel_rfl) ?_) ?_
  · (intro W hSw; clear hSw hHeld; go_simp)
  refine Rg.take (ops := (Rg.opsOf Try.f12 6)) 4 (some 21) ((.bool st)) hNS (by kernel_rfl) (by kernel_rfl) (by kernel_rfl) (by kernel_rfl) (by kernel_rfl) hHeld (Rg.y_load (T := 4) (x := (Operand.tmp 20)) (vx := (.pointer (some ⟨ba, oa + k * 4, none⟩))) (by kernel_rfl) (by kernel_rfl) ?_) ?_
  · (intro W hSw; obtain ⟨p0, p1, p2, p3, r0, r1, r2, r3⟩ := hX _ hSw; clear hSw hHeld; go_simp)
  refine Rg.take (ops := (Rg.opsOf Try.f12 6)) 5 (some 22) ((.slice (some ⟨bb, ob, none⟩) n cb)) hNS (by kernel_rfl) (by kernel_rfl) (by kernel_rfl) (by kernel_rfl) (by kernel_rfl) hHeld (Rg.y_move (x := (Operand.tmp 1)) (Or.inl (by kernel_rfl)) (by kernel_rfl)) ?_
  refine Rg.take (ops := (Rg.opsOf Try.f12 6)) 6 (some 23) ((.int .i64 (k : Int))) hNS (by kernel_rfl) (by kernel_rfl) (by kernel_rfl) (by kernel_rfl) (by kernel_rfl) hHeld (Rg.y_move (x := (Operand.tmp 5)) (Or.inl (by kernel_rfl)) (by kernel_rfl)) ?_
  refine Rg.take (ops := (Rg.opsOf Try.f12 6)) 7 (some 24) ((.pointer (some ⟨bb, ob + k * 4, none⟩))) hNS (by kernel_rfl) (by kernel_rfl) (by kernel_rfl) (by kernel_rfl) (by kernel_rfl) hHeld (Rg.y_at (T := 22) (x := (Operand.tmp 22)) (y := (Operand.tmp 23)) (vx := (.slice (some ⟨bb, ob, none⟩) n cb)) (vy := (.int .i64 (k : Int))) (by kernel_rfl) (by kernel_rfl) (by kernel_rfl) ?_) ?_
  · (intro W hSw; clear hSw hHeld; go_simp)
  refine Rg.take (ops := (Rg.opsOf Try.f12 6)) 8 (some 25) ((.pointer (some ⟨bb, ob + k * 4, none⟩))) hNS (by kernel_rfl) (by kernel_rfl) (by kernel_rfl) (by kernel_rfl) (by kernel_rfl) hHeld (Rg.y_field (T := 33) (k := 0) (x := (Operand.tmp 24)) (vx := (.pointer (some ⟨bb, ob + k * 4, none⟩))) (by kernel_rfl) (by kernel_rfl) ?_) ?_
  · (intro W hSw; clear hSw hHeld; go_simp)
  refine Rg.take (ops := (Rg.opsOf Try.f12 6)) 9 (some 26) ((.bool st)) hNS (by kernel_rfl) (by kernel_rfl) (by kernel_rfl) (by kernel_rfl) (by kernel_rfl) hHeld (Rg.y_load (T := 4) (x := (Operand.tmp 25)) (vx := (.pointer (some ⟨bb, ob + k * 4, none⟩))) (by kernel_rfl) (by kernel_rfl) ?_) ?_
  · (intro W hSw; obtain ⟨p0, p1, p2, p3, r0, r1, r2, r3⟩ := hX _ hSw; clear hSw hHeld; go_simp)
  refine Rg.take (ops := (Rg.opsOf Try.f12 6)) 10 (some 27) ((.bool false)) hNS (by kernel_rfl) (by kernel_rfl) (by kernel_rfl) (by kernel_rfl) (by kernel_rfl) hHeld (Rg.y_bin (b := BinOp.neq) (T := 4) (R' := 4) (x := (Operand.tmp 21)) (y := (Operand.tmp 26)) (vx := (.bool st)) (vy := (.bool st)) (by kernel_rfl) (by kernel_rfl) (by kernel_rfl) ?_) ?_
  · (intro W hSw; clear hSw hHeld; cases st <;> go_simp)
  refine Rg.take (ops := (Rg.opsOf Try.f12 6)) 11 (some 28) ((.bool false)) hNS (by kernel_rfl) (by kernel_rfl) (by kernel_rfl) (by kernel_rfl) (by kernel_rfl) hHeld (Rg.y_move (x := (Operand.tmp 27)) (Or.inl (by kernel_rfl)) (by kernel_rfl)) ?_
  refine Rg.take (ops := (Rg.opsOf Try.f12 6)) 12 (some 29) ((.slice (some ⟨ba, oa, none⟩) n ca)) hNS (by kernel_rfl) (by kernel_rfl) (by kernel_rfl) (by kernel_rfl) (by kernel_rfl) hHeld (Rg.y_move (x := (Operand.tmp 0)) (Or.inl (by kernel_rfl)) (by kernel_rfl)) ?_
  refine Rg.take (ops := (Rg.opsOf Try.f12 6)) 13 (some 30) ((.int .i64 (k : Int))) hNS (by kernel_rfl) (by kernel_rfl) (by kernel_rfl) (by kernel_rfl) (by kernel_rfl) hHeld (Rg.y_move (x := (Operand.tmp 5)) (Or.inl (by kernel_rfl)) (by kernel_rfl)) ?_
  refine Rg.take (ops := (Rg.opsOf Try.f12 6)) 14 (some 31) ((.pointer (some ⟨ba, oa + k * 4, none⟩))) hNS (by kernel_rfl) (by kernel_rfl) (by kernel_rfl) (by kernel_rfl) (by kernel_rfl) hHeld (Rg.y_at (T := 22) (x := (Operand.tmp 29)) (y := (Operand.tmp 30)) (vx := (.slice (some ⟨ba, oa, none⟩) n ca)) (vy := (.int .i64 (k : Int))) (by kernel_rfl) (by kernel_rfl) (by kernel_rfl) ?_) ?_
  · (intro W hSw; clear hSw hHeld; go_simp)
  refine Rg.take (ops := (Rg.opsOf Try.f12 6)) 15 (some 32) ((.pointer (some ⟨ba, oa + k * 4 + 1, none⟩))) hNS (by kernel_rfl) (by kernel_rfl) (by kernel_rfl) (by kernel_rfl) (by kernel_rfl) hHeld (Rg.y_field (T := 33) (k := 1) (x := (Operand.tmp 31)) (vx := (.pointer (some ⟨ba, oa + k * 4, none⟩))) (by kernel_rfl) (by kernel_rfl) ?_) ?_
  · (intro W hSw; clear hSw hHeld; go_simp)
  refine Rg.take (ops := (Rg.opsOf Try.f12 6)) 16 (some 33) ((.slice A1 n1 c1)) hNS (by kernel_rfl) (by kernel_rfl) (by kernel_rfl) (by kernel_rfl) (by kernel_rfl) hHeld (Rg.y_load (T := 31) (x := (Operand.tmp 32)) (vx := (.pointer (some ⟨ba, oa + k * 4 + 1, none⟩))) (by kernel_rfl) (by kernel_rfl) ?_) ?_
  · (intro W hSw; obtain ⟨p0, p1, p2, p3, r0, r1, r2, r3⟩ := hX _ hSw; clear hSw hHeld; go_simp)
  refine Rg.take (ops := (Rg.opsOf Try.f12 6)) 17 (some 34) ((.slice (some ⟨bb, ob, none⟩) n cb)) hNS (by kernel_rfl) (by kernel_rfl) (by kernel_rfl) (by kernel_rfl) (by kernel_rfl) hHeld (Rg.y_move (x := (Operand.tmp 1)) (Or.inl (by kernel_rfl)) (by kernel_rfl)) ?_
  refine Rg.take (ops := (Rg.opsOf Try.f12 6)) 18 (some 35) ((.int .i64 (k : Int))) hNS (by kernel_rfl) (by kernel_rfl) (by kernel_rfl) (by kernel_rfl) (by kernel_rfl) hHeld (Rg.y_move (x := (Operand.tmp 5)) (Or.inl (by kernel_rfl)) (by kernel_rfl)) ?_
  refine Rg.take (ops := (Rg.opsOf Try.f12 6)) 19 (some 36) ((.pointer (some ⟨bb, ob + k * 4, none⟩))) hNS (by kernel_rfl) (by kernel_rfl) (by kernel_rfl) (by kernel_rfl) (by kernel_rfl) hHeld (Rg.y_at (T := 22) (x := (Operand.tmp 34)) (y := (Operand.tmp 35)) (vx := (.slice (some ⟨bb, ob, none⟩) n cb)) (vy := (.int .i64 (k : Int))) (by kernel_rfl) (by kernel_rfl) (by kernel_rfl) ?_) ?_
  · (intro W hSw; clear hSw hHeld; go_simp)
  refine Rg.take (ops := (Rg.opsOf Try.f12 6)) 20 (some 37) ((.pointer (some ⟨bb, ob + k * 4 + 1, none⟩))) hNS (by kernel_rfl) (by kernel_rfl) (by kernel_rfl) (by kernel_rfl) (by kernel_rfl) hHeld (Rg.y_field (T := 33) (k := 1) (x := (Operand.tmp 36)) (vx := (.pointer (some ⟨bb, ob + k * 4, none⟩))) (by kernel_rfl) (by kernel_rfl) ?_) ?_
  · (intro W hSw; clear hSw hHeld; go_simp)
  refine Rg.take (ops := (Rg.opsOf Try.f12 6)) 21 (some 38) ((.slice B1 n1 d1)) hNS (by kernel_rfl) (by kernel_rfl) (by kernel_rfl) (by kernel_rfl) (by kernel_rfl) hHeld (Rg.y_load (T := 31) (x := (Operand.tmp 37)) (vx := (.pointer (some ⟨bb, ob + k * 4 + 1, none⟩))) (by kernel_rfl) (by kernel_rfl) ?_) ?_
  · (intro W hSw; obtain ⟨p0, p1, p2, p3, r0, r1, r2, r3⟩ := hX _ hSw; clear hSw hHeld; go_simp)
  refine Rg.call (ops := (Rg.opsOf Try.f12 6)) (fn := Try.f17) (xs := #[Operand.tmp 33, Operand.tmp 38]) (ats := #[31, 31]) 22 (some 39) 17 #[(.slice A1 n1 c1), (.slice B1 n1 d1)] (by kernel_rfl) (by kernel_rfl) (by kernel_rfl) (by kernel_rfl) (by kernel_rfl) Try.func17 (by kernel_rfl) (by kernel_rfl) (by kernel_rfl) ?_
  refine (hS1 _ hHeld).mono ?_
  rintro e w5 ⟨rfl, h5⟩
  refine ⟨_, rfl, h5, fun hHeld => ?_⟩
  refine Rg.take (ops := (Rg.opsOf Try.f12 6)) 23 (some 40) ((.bool false)) hNS (by kernel_rfl) (by kernel_rfl) (by kernel_rfl) (by kernel_rfl) (by kernel_rfl) hHeld (Rg.y_un (b := UnOp.not) (T := 4) (x := (Operand.tmp 39)) (vx := (.bool true)) (by kernel_rfl) (by kernel_rfl) ?_) ?_
  · (intro W hSw; clear hSw hHeld; go_simp)
  refine Rg.take (ops := (Rg.opsOf Try.f12 6)) 24 (some 41) ((.bool false)) hNS (by kernel_rfl) (by kernel_rfl) (by kernel_rfl) (by kernel_rfl) (by kernel_rfl) hHeld (Rg.y_pick (c := (Operand.tmp 28)) (x := (Operand.const (Value.bool true))) (y := (Operand.tmp 40)) (b := false) (by kernel_rfl) (by kernel_rfl) (by kernel_rfl)) ?_
  refine Rg.take (ops := (Rg.opsOf Try.f12 6)) 25 (some 42) ((.bool false)) hNS (by kernel_rfl) (by kernel_rfl) (by kernel_rfl) (by kernel_rfl) (by kernel_rfl) hHeld (Rg.y_move (x := (Operand.tmp 41)) (Or.inl (by kernel_rfl)) (by kernel_rfl)) ?_
  refine Rg.take (ops := (Rg.opsOf Try.f12 6)) 26 (some 43) ((.slice (some ⟨ba, oa, none⟩) n ca)) hNS (by kernel_rfl) (by kernel_rfl) (by kernel_rfl) (by kernel_rfl) (by kernel_rfl) hHeld (Rg.y_move (x := (Operand.tmp 0)) (Or.inl (by kernel_rfl)) (by kernel_rfl)) ?_
  refine Rg.take (ops := (Rg.opsOf Try.f12 6)) 27 (some 44) ((.int .i64 (k : Int))) hNS (by kernel_rfl) (by kernel_rfl) (by kernel_rfl) (by kernel_rfl) (by kernel_rfl) hHeld (Rg.y_move (x := (Operand.tmp 5)) (Or.inl (by kernel_rfl)) (by kernel_rfl)) ?_
  refine Rg.take (ops := (Rg.opsOf Try.f12 6)) 28 (some 45) ((.pointer (some ⟨ba, oa + k * 4, none⟩))) hNS (by kernel_rfl) (by kernel_rfl) (by kernel_rfl) (by kernel_rfl) (by kernel_rfl) hHeld (Rg.y_at (T := 22) (x := (Operand.tmp 43)) (y := (Operand.tmp 44)) (vx := (.slice (some ⟨ba, oa, none⟩) n ca)) (vy := (.int .i64 (k : Int))) (by kernel_rfl) (by kernel_rfl) (by kernel_rfl) ?_) ?_
  · (intro W hSw; clear hSw hHeld; go_simp)
  refine Rg.take (ops := (Rg.opsOf Try.f12 6)) 29 (some 46) ((.pointer (some ⟨ba, oa + k * 4 + 2, none⟩))) hNS (by kernel_rfl) (by kernel_rfl) (by kernel_rfl) (by kernel_rfl) (by kernel_rfl) hHeld (Rg.y_field (T := 33) (k := 2) (x := (Operand.tmp 45)) (vx := (.pointer (some ⟨ba, oa + k * 4, none⟩))) (by kernel_rfl) (by kernel_rfl) ?_) ?_
  · (intro W hSw; clear hSw hHeld; go_simp)
  refine Rg.take (ops := (Rg.opsOf Try.f12 6)) 30 (some 47) ((.slice A2 n2 c2)) hNS (by kernel_rfl) (by kernel_rfl) (by kernel_rfl) (by kernel_rfl) (by kernel_rfl) hHeld (Rg.y_load (T := 31) (x := (Operand.tmp 46)) (vx := (.pointer (some ⟨ba, oa + k * 4 + 2, none⟩))) (by kernel_rfl) (by kernel_rfl) ?_) ?_
  · (intro W hSw; obtain ⟨p0, p1, p2, p3, r0, r1, r2, r3⟩ := hX _ hSw; clear hSw hHeld; go_simp)
  refine Rg.take (ops := (Rg.opsOf Try.f12 6)) 31 (some 48) ((.slice (some ⟨bb, ob, none⟩) n cb)) hNS (by kernel_rfl) (by kernel_rfl) (by kernel_rfl) (by kernel_rfl) (by kernel_rfl) hHeld (Rg.y_move (x := (Operand.tmp 1)) (Or.inl (by kernel_rfl)) (by kernel_rfl)) ?_
  refine Rg.take (ops := (Rg.opsOf Try.f12 6)) 32 (some 49) ((.int .i64 (k : Int))) hNS (by kernel_rfl) (by kernel_rfl) (by kernel_rfl) (by kernel_rfl) (by kernel_rfl) hHeld (Rg.y_move (x := (Operand.tmp 5)) (Or.inl (by kernel_rfl)) (by kernel_rfl)) ?_
  refine Rg.take (ops := (Rg.opsOf Try.f12 6)) 33 (some 50) ((.pointer (some ⟨bb, ob + k * 4, none⟩))) hNS (by kernel_rfl) (by kernel_rfl) (by kernel_rfl) (by kernel_rfl) (by kernel_rfl) hHeld (Rg.y_at (T := 22) (x := (Operand.tmp 48)) (y := (Operand.tmp 49)) (vx := (.slice (some ⟨bb, ob, none⟩) n cb)) (vy := (.int .i64 (k : Int))) (by kernel_rfl) (by kernel_rfl) (by kernel_rfl) ?_) ?_
  · (intro W hSw; clear hSw hHeld; go_simp)
  refine Rg.take (ops := (Rg.opsOf Try.f12 6)) 34 (some 51) ((.pointer (some ⟨bb, ob + k * 4 + 2, none⟩))) hNS (by kernel_rfl) (by kernel_rfl) (by kernel_rfl) (by kernel_rfl) (by kernel_rfl) hHeld (Rg.y_field (T := 33) (k := 2) (x := (Operand.tmp 50)) (vx := (.pointer (some ⟨bb, ob + k * 4, none⟩))) (by kernel_rfl) (by kernel_rfl) ?_) ?_
  · (intro W hSw; clear hSw hHeld; go_simp)
  refine Rg.take (ops := (Rg.opsOf Try.f12 6)) 35 (some 52) ((.slice B2 n2 d2)) hNS (by kernel_rfl) (by kernel_rfl) (by kernel_rfl) (by kernel_rfl) (by kernel_rfl) hHeld (Rg.y_load (T := 31) (x := (Operand.tmp 51)) (vx := (.pointer (some ⟨bb, ob + k * 4 + 2, none⟩))) (by kernel_rfl) (by kernel_rfl) ?_) ?_
  · (intro W hSw; obtain ⟨p0, p1, p2, p3, r0, r1, r2, r3⟩ := hX _ hSw; clear hSw hHeld; go_simp)
  refine Rg.call (ops := (Rg.opsOf Try.f12 6)) (fn := Try.f17) (xs := #[Operand.tmp 47, Operand.tmp 52]) (ats := #[31, 31]) 36 (some 53) 17 #[(.slice A2 n2 c2), (.slice B2 n2 d2)] (by kernel_rfl) (by kernel_rfl) (by kernel_rfl) (by kernel_rfl) (by kernel_rfl) Try.func17 (by kernel_rfl) (by kernel_rfl) (by kernel_rfl) ?_
  refine (hS2 _ hHeld).mono ?_
  rintro e w6 ⟨rfl, h6⟩
  refine ⟨_, rfl, h6, fun hHeld => ?_⟩
  refine Rg.take (ops := (Rg.opsOf Try.f12 6)) 37 (some 54) ((.bool false)) hNS (by kernel_rfl) (by kernel_rfl) (by kernel_rfl) (by kernel_rfl) (by kernel_rfl) hHeld (Rg.y_un (b := UnOp.not) (T := 4) (x := (Operand.tmp 53)) (vx := (.bool true)) (by kernel_rfl) (by kernel_rfl) ?_) ?_
  · (intro W hSw; clear hSw hHeld; go_simp)
  refine Rg.take (ops := (Rg.opsOf Try.f12 6)) 38 (some 55) ((.bool false)) hNS (by kernel_rfl) (by kernel_rfl) (by kernel_rfl) (by kernel_rfl) (by kernel_rfl) hHeld (Rg.y_pick (c := (Operand.tmp 42)) (x := (Operand.const (Value.bool true))) (y := (Operand.tmp 54)) (b := false) (by kernel_rfl) (by kernel_rfl) (by kernel_rfl)) ?_
  refine Rg.take (ops := (Rg.opsOf Try.f12 6)) 39 (some 56) ((.bool false)) hNS (by kernel_rfl) (by kernel_rfl) (by kernel_rfl) (by kernel_rfl) (by kernel_rfl) hHeld (Rg.y_move (x := (Operand.tmp 55)) (Or.inl (by kernel_rfl)) (by kernel_rfl)) ?_
  refine Rg.take (ops := (Rg.opsOf Try.f12 6)) 40 (some 57) ((.slice (some ⟨ba, oa, none⟩) n ca)) hNS (by kernel_rfl) (by kernel_rfl) (by kernel_rfl) (by kernel_rfl) (by kernel_rfl) hHeld (Rg.y_move (x := (Operand.tmp 0)) (Or.inl (by kernel_rfl)) (by kernel_rfl)) ?_
  refine Rg.take (ops := (Rg.opsOf Try.f12 6)) 41 (some 58) ((.int .i64 (k : Int))) hNS (by kernel_rfl) (by kernel_rfl) (by kernel_rfl) (by kernel_rfl) (by kernel_rfl) hHeld (Rg.y_move (x := (Operand.tmp 5)) (Or.inl (by kernel_rfl)) (by kernel_rfl)) ?_
  refine Rg.take (ops := (Rg.opsOf Try.f12 6)) 42 (some 59) ((.pointer (some ⟨ba, oa + k * 4, none⟩))) hNS (by kernel_rfl) (by kernel_rfl) (by kernel_rfl) (by kernel_rfl) (by kernel_rfl) hHeld (Rg.y_at (T := 22) (x := (Operand.tmp 57)) (y := (Operand.tmp 58)) (vx := (.slice (some ⟨ba, oa, none⟩) n ca)) (vy := (.int .i64 (k : Int))) (by kernel_rfl) (by kernel_rfl) (by kernel_rfl) ?_) ?_
  · (intro W hSw; clear hSw hHeld; go_simp)
  refine Rg.take (ops := (Rg.opsOf Try.f12 6)) 43 (some 60) ((.pointer (some ⟨ba, oa + k * 4 + 3, none⟩))) hNS (by kernel_rfl) (by kernel_rfl) (by kernel_rfl) (by kernel_rfl) (by kernel_rfl) hHeld (Rg.y_field (T := 33) (k := 3) (x := (Operand.tmp 59)) (vx := (.pointer (some ⟨ba, oa + k * 4, none⟩))) (by kernel_rfl) (by kernel_rfl) ?_) ?_
  · (intro W hSw; clear hSw hHeld; go_simp)
  refine Rg.take (ops := (Rg.opsOf Try.f12 6)) 44 (some 61) ((.slice A3 n3 c3)) hNS (by kernel_rfl) (by kernel_rfl) (by kernel_rfl) (by kernel_rfl) (by kernel_rfl) hHeld (Rg.y_load (T := 31) (x := (Operand.tmp 60)) (vx := (.pointer (some ⟨ba, oa + k * 4 + 3, none⟩))) (by kernel_rfl) (by kernel_rfl) ?_) ?_
  · (intro W hSw; obtain ⟨p0, p1, p2, p3, r0, r1, r2, r3⟩ := hX _ hSw; clear hSw hHeld; go_simp)
  refine Rg.take (ops := (Rg.opsOf Try.f12 6)) 45 (some 62) ((.slice (some ⟨bb, ob, none⟩) n cb)) hNS (by kernel_rfl) (by kernel_rfl) (by kernel_rfl) (by kernel_rfl) (by kernel_rfl) hHeld (Rg.y_move (x := (Operand.tmp 1)) (Or.inl (by kernel_rfl)) (by kernel_rfl)) ?_
  refine Rg.take (ops := (Rg.opsOf Try.f12 6)) 46 (some 63) ((.int .i64 (k : Int))) hNS (by kernel_rfl) (by kernel_rfl) (by kernel_rfl) (by kernel_rfl) (by kernel_rfl) hHeld (Rg.y_move (x := (Operand.tmp 5)) (Or.inl (by kernel_rfl)) (by kernel_rfl)) ?_
  refine Rg.take (ops := (Rg.opsOf Try.f12 6)) 47 (some 64) ((.pointer (some ⟨bb, ob + k * 4, none⟩))) hNS (by kernel_rfl) (by kernel_rfl) (by kernel_rfl) (by kernel_rfl) (by kernel_rfl) hHeld (Rg.y_at (T := 22) (x := (Operand.tmp 62)) (y := (Operand.tmp 63)) (vx := (.slice (some ⟨bb, ob, none⟩) n cb)) (vy := (.int .i64 (k : Int))) (by kernel_rfl) (by kernel_rfl) (by kernel_rfl) ?_) ?_
  · (intro W hSw; clear hSw hHeld; go_simp)
  refine Rg.take (ops := (Rg.opsOf Try.f12 6)) 48 (some 65) ((.pointer (some ⟨bb, ob + k * 4 + 3, none⟩))) hNS (by kernel_rfl) (by kernel_rfl) (by kernel_rfl) (by kernel_rfl) (by kernel_rfl) hHeld (Rg.y_field (T := 33) (k := 3) (x := (Operand.tmp 64)) (vx := (.pointer (some ⟨bb, ob + k * 4, none⟩))) (by kernel_rfl) (by kernel_rfl) ?_) ?_
  · (intro W hSw; clear hSw hHeld; go_simp)
  refine Rg.take (ops := (Rg.opsOf Try.f12 6)) 49 (some 66) ((.slice B3 n3 d3)) hNS (by kernel_rfl) (by kernel_rfl) (by kernel_rfl) (by kernel_rfl) (by kernel_rfl) hHeld (Rg.y_load (T := 31) (x := (Operand.tmp 65)) (vx := (.pointer (some ⟨bb, ob + k * 4 + 3, none⟩))) (by kernel_rfl) (by kernel_rfl) ?_) ?_
  · (intro W hSw; obtain ⟨p0, p1, p2, p3, r0, r1, r2, r3⟩ := hX _ hSw; clear hSw hHeld; go_simp)
  refine Rg.call (ops := (Rg.opsOf Try.f12 6)) (fn := Try.f17) (xs := #[Operand.tmp 61, Operand.tmp 66]) (ats := #[31, 31]) 50 (some 67) 17 #[(.slice A3 n3 c3), (.slice B3 n3 d3)] (by kernel_rfl) (by kernel_rfl) (by kernel_rfl) (by kernel_rfl) (by kernel_rfl) Try.func17 (by kernel_rfl) (by kernel_rfl) (by kernel_rfl) ?_
  refine (hS3 _ hHeld).mono ?_
  rintro e w7 ⟨rfl, h7⟩
  refine ⟨_, rfl, h7, fun hHeld => ?_⟩
  refine Rg.take (ops := (Rg.opsOf Try.f12 6)) 51 (some 68) ((.bool false)) hNS (by kernel_rfl) (by kernel_rfl) (by kernel_rfl) (by kernel_rfl) (by kernel_rfl) hHeld (Rg.y_un (b := UnOp.not) (T := 4) (x := (Operand.tmp 67)) (vx := (.bool true)) (by kernel_rfl) (by kernel_rfl) ?_) ?_
  · (intro W hSw; clear hSw hHeld; go_simp)
  refine Rg.take (ops := (Rg.opsOf Try.f12 6)) 52 (some 69) ((.bool false)) hNS (by kernel_rfl) (by kernel_rfl) (by kernel_rfl) (by kernel_rfl) (by kernel_rfl) hHeld (Rg.y_pick (c := (Operand.tmp 56)) (x := (Operand.const (Value.bool true))) (y := (Operand.tmp 68)) (b := false) (by kernel_rfl) (by kernel_rfl) (by kernel_rfl)) ?_
  refine Rg.done (ops := (Rg.opsOf Try.f12 6)) (by kernel_rfl) ?_
  exact ⟨by kernel_rfl, hHeld⟩
end Go.Proofs.Ytnpobigombafoaa.Mg

namespace Go.Proofs.Ytnpobigombafoaa.Mg
open Go.RowKit Go.ChangeShapes Go.WideShapes Tx Um Ud Aq Km Kd Lm Ln
set_option linter.unusedVariables false
theorem same_true (A B : Option Addr) (ca cb n : Nat) (l : List ByteArray) (w w0 : World) (hn : n = l.length) (hA : Strs w A l.length l) (hB : Strs w B l.length l) (hl : l.length ≤ 4611686018427387903) (hb : Below w0.heap.size w0 w) :
    Calls Try.prog 17 #[.slice A n ca, .slice B n cb] w fun e w' => e = .returned (.bool true) ∧ Below w0.heap.size w0 w' := by
  have c := same_any A B ca cb l l w hA hB (by omega) (by omega)
  rw [← hn] at c
  refine c.mono ?_
  rintro e w' ⟨b, h1, rfl, h2⟩
  rw [h1.2 rfl]
  exact ⟨rfl, below_call hb h2⟩
set_option maxRecDepth 100000 in
set_option maxHeartbeats 2000000 in
theorem same14_any (A B : Option Addr) (ca cb n : Nat) (hs : List (Ck ByteArray)) (w : World) (hA : CkR w A n hs) (hB : CkR w B n hs) (hn : n ≤ 4611686018427387903) (hl : ∀ h, h ∈ hs → h.b.length ≤ 4611686018427387903 ∧ h.l.length ≤ 4611686018427387903 ∧ h.r.length ≤ 4611686018427387903) :
    Calls Try.prog 12 #[.slice A n ca, .slice B n cb] w fun e w' => e = .returned (.bool true) ∧ Below w.heap.size w w' := by
  have HA := Lib.hid hA
  have HB := Lib.hid hB
  have HL := Lib.hid hl
  have e0 : ((n : Int) == (n : Int)) = true := beq_self_eq_true _
  clear hA hB hl
  go_enter Try.func12, Try.ntmps12
  go_wp2_with fail
  go_loopw [5] (fun i wr => ∃ k : Nat, k ≤ n ∧ i = .int .i64 (k : Int) ∧ Hid (Below w.heap.size w wr)) (fun i _ => n - (intOf i).toNat)
  case atStart => exact ⟨0, Nat.zero_le _, rfl, Below.refl _ _⟩
  case round =>
    obtain ⟨k, hk, rfl, HW⟩ := hrel
    by_cases hlt : k < n
    · have e1 : (k : Int) < (n : Int) := by omega
      obtain ⟨h, hh⟩ : ∃ h, hs[k]? = some h := ⟨_, List.getElem?_eq_getElem (by rw [HA.out.1]; exact hlt)⟩
      obtain ⟨hl1, hl2, hl3⟩ := HL.out h (List.mem_iff_getElem?.2 ⟨k, hh⟩)
      obtain ⟨ba, oa, rfl, hba, hca⟩ := HA.out.2.resolve_left (by omega)
      obtain ⟨bb, ob, rfl, hbb, hcb⟩ := HB.out.2.resolve_left (by omega)
      obtain ⟨u1, u2, u3, a0, a1, a2, a3, ⟨A1, c1, rfl, s1, _⟩, ⟨A2, c2, rfl, s2, _⟩, ⟨A3, c3, rfl, s3, _⟩⟩ := hca k h hh
      obtain ⟨v1, v2, v3, b0, b1, b2, b3, ⟨B1, d1, rfl, t1, _⟩, ⟨B2, d2, rfl, t2, _⟩, ⟨B3, d3, rfl, t3, _⟩⟩ := hcb k h hh
      obtain ⟨N1, hN1⟩ : ∃ N1, N1 = h.b.length := ⟨_, rfl⟩
      obtain ⟨N2, hN2⟩ : ∃ N2, N2 = h.l.length := ⟨_, rfl⟩
      obtain ⟨N3, hN3⟩ : ∃ N3, N3 = h.r.length := ⟨_, rfl⟩
      have C1 : Hid (∀ W, Below w.heap.size w W → Calls Try.prog 17 #[.slice A1 N1 c1, .slice B1 N1 d1] W fun e w' => e = .returned (.bool true) ∧ Below w.heap.size w w') := fun W hb => same_true A1 B1 c1 d1 N1 h.b W w hN1 (s1.below hb) (t1.below hb) hl1 hb
      have C2 : Hid (∀ W, Below w.heap.size w W → Calls Try.prog 17 #[.slice A2 N2 c2, .slice B2 N2 d2] W fun e w' => e = .returned (.bool true) ∧ Below w.heap.size w w') := fun W hb => same_true A2 B2 c2 d2 N2 h.l W w hN2 (s2.below hb) (t2.below hb) hl2 hb
      have C3 : Hid (∀ W, Below w.heap.size w W → Calls Try.prog 17 #[.slice A3 N3 c3, .slice B3 N3 d3] W fun e w' => e = .returned (.bool true) ∧ Below w.heap.size w w') := fun W hb => same_true A3 B3 c3 d3 N3 h.r W w hN3 (s3.below hb) (t3.below hb) hl3 hb
      rw [← hN1] at a1 b1
      rw [← hN2] at a2 b2
      rw [← hN3] at a3 b3
      obtain ⟨st, hst⟩ : ∃ st, st = h.st := ⟨_, rfl⟩
      rw [← hst] at a0 b0
      have HX : Hid (∀ W, Below w.heap.size w W → Alk4 ba (oa + k * 4) bb (ob + k * 4) st (.slice A1 N1 c1) (.slice A2 N2 c2) (.slice A3 N3 c3) (.slice B1 N1 d1) (.slice B2 N2 d2) (.slice B3 N3 d3) W) := fun W hb =>
        ⟨(hb.cell (p := ⟨ba, _, none⟩) hba).trans a0, (hb.cell (p := ⟨ba, _, none⟩) hba).trans a1, (hb.cell (p := ⟨ba, _, none⟩) hba).trans a2, (hb.cell (p := ⟨ba, _, none⟩) hba).trans a3, (hb.cell (p := ⟨bb, _, none⟩) hbb).trans b0, (hb.cell (p := ⟨bb, _, none⟩) hbb).trans b1, (hb.cell (p := ⟨bb, _, none⟩) hbb).trans b2, (hb.cell (p := ⟨bb, _, none⟩) hbb).trans b3⟩
      clear hca hcb a0 a1 a2 a3 b0 b1 b2 b3 s1 s2 s3 t1 t2 t3 hh hl1 hl2 hl3 hN1 hN2 hN3 hst
      go_wp2_with fail
      refine Rg.wp_only ?_ (same4Reg _ (by kernel_rfl) _ ba oa bb ob k n ca cb N1 N2 N3 c1 c2 c3 d1 d2 d3 A1 A2 A3 B1 B2 B3 st _ e1 (Below w.heap.size w) HX.out HW.out.drew C1.out C2.out C3.out)
      rintro _ w9 ⟨rfl, h9⟩
      go_wp2_with fail
      go_roundw
      case rel => exact ⟨k + 1, by omega, by go_num, h9⟩
      case measure => simp only [intOf]; omega
    · have hkn : k = n := by omega
      have e1 : ¬ (k : Int) < (n : Int) := by omega
      clear hkn
      go_wp2_with fail
      go_ret
      exact ⟨rfl, HW.out⟩
end Go.Proofs.Ytnpobigombafoaa.Mg

namespace Go.Proofs.Ytnpobigombafoaa.Mg
open Go.RowKit Tx Um Ud Aq Km Kd
set_option linter.unusedVariables false
set_option maxRecDepth 100000 in
set_option maxHeartbeats 1000000 in
theorem apart_nil (w : World) : Calls Try.prog 13 #[.slice none 0 0] w fun e w' => e = .returned (.bool true) ∧ Below w.heap.size w w' := by
  go_enter Try.func13, Try.ntmps13
  go_wp2_with fail
  go_loopw [4, 5] (fun i _ wr => i = .int .i64 0 ∧ wr = w) (fun _ _ _ => 0)
  case atStart => exact ⟨rfl, rfl⟩
  case round =>
    obtain ⟨rfl, rfl⟩ := hrel
    go_wp2_with fail
    go_loopw [6, 7, 8, 9] (fun _ i _ _ wr' => i = .int .i64 0 ∧ wr' = wr) (fun _ _ _ _ _ => 0)
    case atStart => exact ⟨rfl, rfl⟩
    case round =>
      obtain ⟨rfl, rfl⟩ := hrel
      go_wp2_with fail
      go_loopw [10, 11] (fun i _ wr' => i = .int .i64 0 ∧ wr' = wr) (fun _ _ _ => 0)
      case atStart => exact ⟨rfl, rfl⟩
      case round =>
        obtain ⟨rfl, rfl⟩ := hrel
        go_wp2_with fail
        go_ret
        exact ⟨rfl, Below.refl _ _⟩
end Go.Proofs.Ytnpobigombafoaa.Mg

namespace Go.Proofs.Ytnpobigombafoaa.mergeChunks
open Go.ChangeMaps (open_string shut_string)
open Go.ChangeShapes Go.WideShapes Go.ChangeAt Go.RowKit Tx Um Ud Aq Km Kd Lm Ln Mg
set_option linter.unusedVariables false
theorem chs_small (s t u : ByteArray) : (chs s t u).length ≤ 1200 ∧ ∀ x, x ∈ chs s t u → x.b.length ≤ 400 ∧ x.l.length ≤ 400 ∧ x.r.length ≤ 400 := by
  unfold chs
  by_cases he : err3 s t u = 0
  · rw [if_pos he]
    obtain ⟨_, _, z3⟩ := txs_size s t u
    obtain ⟨_, _, _, l1, l2, l3⟩ := err_lines he
    refine ⟨by omega, fun x hx => ?_⟩
    obtain ⟨q1, q2, q3, _⟩ := pc_small he hx
    exact ⟨q1, q2, q3⟩
  · rw [if_neg he]
    exact ⟨Nat.zero_le _, fun x hx => by cases hx⟩
set_option maxRecDepth 100000 in
set_option maxHeartbeats 20000000 in
theorem walk {Q : ByteArray → ByteArray → ByteArray → Prop} (hM : Impl Q) (s t u : ByteArray) (w : World) (hs0 : s.size ≤ 8796093022207) (ht0 : t.size ≤ 8796093022207) (hu0 : u.size ≤ 8796093022207) :
    Calls Try.prog 3 #[.string s, .string t, .string u] w fun e w' => e = .returned (.bool true) ∧ Below w.heap.size w w' := by
  obtain ⟨iL, hL, hL0, hL1, hL2⟩ := info_parts info33
  have cH := fun w1 => hM.chunks s t u w1 (by omega) (by omega) (by omega)
  have cR := fun w1 => refChunks_any s t u w1 hs0 ht0 hu0
  unfold ChTo at cH
  unfold CkTo at cR
  obtain ⟨hps1, hps2⟩ := chs_small s t u
  obtain ⟨hs, hhs⟩ : ∃ hs, hs = chs s t u := ⟨_, rfl⟩
  obtain ⟨er, her⟩ : ∃ er, er = err3 s t u := ⟨_, rfl⟩
  rw [← hhs] at hps1 hps2
  rw [← hhs, ← her] at cH cR
  obtain ⟨L, hLL⟩ : ∃ L, L = hs.length := ⟨_, rfl⟩
  rw [← hLL] at hps1
  have HLL := Lib.hid hLL
  have cS := fun (X Y : Option Addr) (cx cy : Nat) (w1 : World) (h1 : CkR w1 X L hs) (h2 : CkR w1 Y L hs) => same14_any X Y cx cy L hs w1 h1 h2 (by omega) (fun h hh => by have := hps2 h hh; omega)
  have HPS := Lib.hid hps2
  have CH := Lib.hid cH
  have CR := Lib.hid cR
  have CS := Lib.hid cS
  have f0 : ((er : Int) == (er : Int)) = true := beq_self_eq_true _
  have f1 : (er == er) = true := beq_self_eq_true _
  clear hps2 hhs her cH cR cS hLL hs0 ht0 hu0
  go_enter Try.func3, Try.ntmps3
  go_wp2_with fail
  go_at_call 9
  refine (CH.out _).mono ?_
  rintro e w1 ⟨v1, cs, rfl, hu1, hi1, ho1, hb1⟩
  obtain ⟨va, vc, rfl, hz1⟩ := hu1.form hi1
  rw [← HLL.out] at hz1 hu1 ⊢
  have HCS := Lib.hid hi1.len
  have HO1 := Lib.hid ho1
  have HU1 := Lib.hid hu1
  have HZ1 := Lib.hid hz1
  have HB1 := Lib.hid hb1
  clear hu1 hi1 ho1 hz1 hb1
  go_wp2_with fail
  go_at_call 10
  refine (CR.out _).mono ?_
  rintro e w2 ⟨v2, cg, rfl, hu2, hi2, hb2⟩
  obtain ⟨vg, vgc, rfl, hz2⟩ := hu2.form hi2
  rw [← HLL.out] at hz2 ⊢
  have HB2 := Lib.hid (below_call HB1.out hb2)
  have HG2 := Lib.hid hz2
  have HC2 : Hid (Below w1.heap.size w1 w2) := hb2
  have hs12 := hb2.size
  clear hu2 hi2 hz2 hb2
  go_wp2_with fail
  go_at_call 9
  refine (CH.out _).mono ?_
  rintro e w3 ⟨v3, ds, rfl, hu3, hi3, ho3, hb3⟩
  obtain ⟨vk, vkc, rfl, hz3⟩ := hu3.form hi3
  rw [← HLL.out] at hz3 hu3 ⊢
  have HDS := Lib.hid hi3.len
  have HO3 := Lib.hid ho3
  have HU3 := Lib.hid hu3
  have HK3 := Lib.hid hz3
  have HB3 := Lib.hid (below_call HB2.out hb3)
  have HG3 := Lib.hid (HG2.out.below hb3)
  have HC3 : Hid (Below w1.heap.size w1 w3) := below_call HC2.out hb3
  have HD3 : Hid (Below w3.heap.size w3 w3) := Below.refl _ _
  have hs23 := hb3.size
  clear hu3 hi3 ho3 hz3 hb3 HG2 HC2
  go_wp2_with fail
  go_at_call 11
  refine (awake_any14 hM _).mono ?_
  rintro e w4 ⟨rfl, hb4⟩
  have HC4 : Hid (Below w1.heap.size w1 w4) := below_call HC3.out hb4
  have HD4 : Hid (Below w3.heap.size w3 w4) := hb4
  have HB4 := Lib.hid (below_call HB3.out hb4)
  have HG4 := Lib.hid (HG3.out.below hb4)
  clear hb4 HC3 HD3
  go_wp2_with fail
  go_at_call 12
  refine (CS.out va vg vc vgc w4 (HZ1.out.below HC4.out) HG4.out).mono ?_
  rintro e w5 ⟨rfl, hb5⟩
  have HC5 : Hid (Below w1.heap.size w1 w5) := below_call HC4.out hb5
  have HD5 : Hid (Below w3.heap.size w3 w5) := below_call HD4.out hb5
  have HB5 := Lib.hid (below_call HB4.out hb5)
  have HG5 := Lib.hid (HG4.out.below hb5)
  clear hb5 HC4 HD4 HG4
  go_wp2_with fail
  go_at_call 12
  refine (CS.out vk vg vkc vgc w5 (HK3.out.below HD5.out) HG5.out).mono ?_
  rintro e w6 ⟨rfl, hb6⟩
  have HC6 : Hid (Below w1.heap.size w1 w6) := below_call HC5.out hb6
  have HD6 : Hid (Below w3.heap.size w3 w6) := below_call HD5.out hb6
  have HB6 := Lib.hid (below_call HB5.out hb6)
  have hs36 := HD6.out.size
  clear hb6 HC5 HD5 HG5 HG3 HZ1 HK3
  go_wp2_with fail
  go_loopw [13, 14] (fun v i wr => ∃ k : Nat, i = .int .i64 (k : Int) ∧ k ≤ L ∧ k ≤ 8 ∧ (k = 0 → v = .slice none 0 0) ∧ wr.ownsRow w6.heap.size 31 1 v (k * 4) (quad (cs.take k) (ds.take k)) ∧ Hid (Below w6.heap.size w6 wr)) (fun _ i _ => L - (intOf i).toNat)
  case atStart => exact ⟨0, rfl, Nat.zero_le _, Nat.zero_le _, fun _ => rfl, World.ownsRow_nil _ _ _ _, Below.refl _ _⟩
  case round =>
    obtain ⟨k, rfl, hk, hk8, hnil, hvs, HBR⟩ := hrel
    by_cases hlt : k < L ∧ k < 8
    · obtain ⟨hlt, hlt2⟩ := hlt
      have e1 : (k : Int) < (L : Int) := by omega
      have e2 : (k : Int) < 8 := by omega
      obtain ⟨c, hc⟩ : ∃ c, cs[k]? = some c := ⟨_, List.getElem?_eq_getElem (by rw [HCS.out, ← HLL.out]; exact hlt)⟩
      obtain ⟨d, hd⟩ : ∃ d, ds[k]? = some d := ⟨_, List.getElem?_eq_getElem (by rw [HDS.out, ← HLL.out]; exact hlt)⟩
      have hl1 : (cs.take k).length = (ds.take k).length := by rw [List.length_take, List.length_take, HCS.out, HDS.out]
      have hsn : quad (cs.take (k + 1)) (ds.take (k + 1)) = quad (cs.take k) (ds.take k) ++ [c.2.1, c.2.2.1, c.2.2.2, d.2.1] := by
        rw [List.take_add_one, List.take_add_one, hc, hd]
        exact quad_snoc hl1
      obtain ⟨h, hh⟩ : ∃ h, hs[k]? = some h := ⟨_, List.getElem?_eq_getElem (by rw [← HLL.out]; exact hlt)⟩
      obtain ⟨q1, q2, q3⟩ := HO1.out.each k c h hc hh
      obtain ⟨q4, _, _⟩ := HO3.out.each k d h hd hh
      obtain ⟨z1, r1, hv1⟩ := q1.form
      obtain ⟨z2, r2, hv2⟩ := q2.form
      obtain ⟨z3, r3, hv3⟩ := q3.form
      obtain ⟨z4, r4, hv4⟩ := q4.form
      obtain ⟨bh, rfl, hbh, m1, m2, m3⟩ := cs_cells (HU1.out.below HC6.out) hc
      obtain ⟨bk, rfl, hbk, m4, _, _⟩ := cs_cells (HU3.out.below HD6.out) hd
      rw [hv1] at m1
      rw [hv2] at m2
      rw [hv3] at m3
      rw [hv4] at m4
      rw [hv1, hv2, hv3, hv4] at hsn
      obtain ⟨n1, hn1⟩ : ∃ n1, n1 = h.b.length := ⟨_, rfl⟩
      obtain ⟨n2, hn2⟩ : ∃ n2, n2 = h.l.length := ⟨_, rfl⟩
      obtain ⟨n3, hn3⟩ : ∃ n3, n3 = h.r.length := ⟨_, rfl⟩
      rw [← hn1, ← hn2, ← hn3] at hsn
      rw [← hn1] at m1 m4
      rw [← hn2] at m2
      rw [← hn3] at m3
      have HSN := Lib.hid hsn
      have HX : Hid (∀ W, Below w6.heap.size w6 W → Lst4 bh 0 bk 0 k (.slice z1 n1 r1) (.slice z2 n2 r2) (.slice z3 n3 r3) (.slice z4 n1 r4) W) := fun W hb => ⟨(hb.cell (p := ⟨bh, _, none⟩) hbh).trans m1, (hb.cell (p := ⟨bh, _, none⟩) hbh).trans m2, (hb.cell (p := ⟨bh, _, none⟩) hbh).trans m3, (hb.cell (p := ⟨bk, _, none⟩) hbk).trans m4⟩
      have hbd := HBR.out.drew
      have hszd : w6.heap.size ≤ wr.drew.heap.size := hbd.size
      have hX2 : Below w6.heap.size w6 (wr.drew.alloc (.cells #[.slice z1 n1 r1, .slice z2 n2 r2, .slice z3 n3 r3, .slice z4 n1 r4] 31)) := hbd.alloc hszd _
      have hone : ∀ u ∈ [Value.slice z1 n1 r1, .slice z2 n2 r2, .slice z3 n3 r3, .slice z4 n1 r4], u.oneCell' = true := by
        intro u hu
        simp only [List.mem_cons, List.not_mem_nil, or_false] at hu
        rcases hu with rfl | rfl | rfl | rfl <;> rfl
      have HE8 : Hid (∀ ty, ∃ v8 w8, (Builtin.append_ #[30, 30] ty #[u13, .slice (some ⟨wr.heap.size, 0, none⟩) 4 4]).run Try.prog (wr.drew.alloc (.cells #[.slice z1 n1 r1, .slice z2 n2 r2, .slice z3 n3 r3, .slice z4 n1 r4] 31)) = .ok v8 w8 ∧ Below w6.heap.size w6 w8 ∧ (Below w6.heap.size w6 w8 ∧ w8.ownsRow w6.heap.size 31 1 v8 (k * 4 + 4) (quad (cs.take k) (ds.take k) ++ [.slice z1 n1 r1, .slice z2 n2 r2, .slice z3 n3 r3, .slice z4 n1 r4]))) := by
        intro ty
        obtain ⟨v8, w8, h1, h2, h3', _⟩ := run_append_own (P := Try.prog) (wr.drew.alloc (.cells #[.slice z1 n1 r1, .slice z2 n2 r2, .slice z3 n3 r3, .slice z4 n1 r4] 31)) w6.heap.size 30 ty 31 iL (.slice none 0 0) 1 24 Try.underlying30 hL hL0 hL1 hL2 rfl (by decide) u13 (k * 4) _ (hvs.drew.alloc _) ⟨wr.drew.heap.size, 0, none⟩ 4 4 [.slice z1 n1 r1, .slice z2 n2 r2, .slice z3 n3 r3, .slice z4 n1 r4] rfl (cell_four_new _ _ _ _ _ _) hone (by unfold maxLen; omega) (by omega) hX2.size
        exact ⟨v8, w8, h1, hX2.grown h3' hX2.size (fun q hq => (World.ownsRow.lt hvs q hq).1), hX2.grown h3' hX2.size (fun q hq => (World.ownsRow.lt hvs q hq).1), h2⟩
      clear hsn m1 m2 m3 m4 hv1 hv2 hv3 hv4 q1 q2 q3 q4 hc hd hh hl1 hn1 hn2 hn3 hvs hone hszd hnil
      go_wp2_with fail
      refine Rg.wp_only ?_ (listsReg _ (by kernel_rfl) _ bh 0 vc bk 0 vkc k L n1 n2 n3 n1 r1 r2 r3 r4 z1 z2 z3 z4 u13 _ e1 (Below w6.heap.size w6) (fun v8 W => Below w6.heap.size w6 W ∧ W.ownsRow w6.heap.size 31 1 v8 (k * 4 + 4) (quad (cs.take k) (ds.take k) ++ [.slice z1 n1 r1, .slice z2 n2 r2, .slice z3 n3 r3, .slice z4 n1 r4])) HX.out hbd hX2 HE8.out)
      rintro _ w9 ⟨v9, rfl, h9, ho9⟩
      have HO9 : Hid (w9.ownsRow w6.heap.size 31 1 v9 ((k + 1) * 4) (quad (cs.take (k + 1)) (ds.take (k + 1)))) := by
        show World.ownsRow _ _ _ _ _ _ _
        rw [HSN.out, show (k + 1) * 4 = k * 4 + 4 by omega]
        exact ho9
      clear ho9 HE8 hX2 hbd
      go_wp2_with fail
      go_roundw
      case rel => exact ⟨k + 1, by go_num, by omega, by omega, fun h => absurd h (by omega), HO9.out, h9⟩
      case measure => simp only [intOf]; omega
    · by_cases hk0 : k = 0
      · have e1 : ¬ (k : Int) < (L : Int) := by omega
        obtain rfl := hnil hk0
        have HE12 : Hid (Below w.heap.size w wr) := HB6.out.trans (HBR.out.mono HB6.out.size)
        clear hvs hlt hk0 hnil
        go_wp2_with fail
        go_at_call 13
        refine (apart_nil _).mono ?_
        rintro e w13 ⟨rfl, hb13⟩
        have hE := below_call HE12.out hb13
        clear hb13
        go_wp2_with fail
        go_ret
        exact ⟨rfl, hE⟩
      · by_cases hkL : k < L
        · have e1 : (k : Int) < (L : Int) := by omega
          have e2 : ¬ (k : Int) < 8 := by omega
          have HKL := Lib.hid hkL
          clear hkL
          obtain ⟨bo, lc, hvl, hboB, hbol, hcell⟩ := list_form hvs (by omega)
          subst hvl
          have HBo := Lib.hid hcell
          have hlk1 : (cs.take k).length = (hs.take k).length := by rw [List.length_take, List.length_take, HCS.out]
          have hlk2 : (ds.take k).length = (hs.take k).length := by rw [List.length_take, List.length_take, HDS.out]
          have hlen : (quad (cs.take k) (ds.take k)).length = k * 4 := by
            have hlH := HLL.out
            have hcH := HCS.out
            rw [quad_len _ _ (by omega), List.length_take]
            omega
          have hsm : ∀ l, (∃ x, x ∈ hs.take k ∧ (l = x.b ∨ l = x.l ∨ l = x.r)) → l.length ≤ 8796093022187 := fun l hl => by
            obtain ⟨x, hx, hl⟩ := hl
            have := HPS.out x (List.mem_of_mem_take hx)
            rcases hl with rfl | rfl | rfl <;> omega
          have hx1 := HC6.out.trans (HBR.out.mono HC6.out.size)
          have hx3 := HD6.out.trans (HBR.out.mono HD6.out.size)
          have hb01 := HB1.out.size
          have hsR := HBR.out.size
          have ap := lists_apart (quad (cs.take k) (ds.take k)) bo lc w.heap.size wr (fun v hv => by
              rcases List.mem_append.1 ((quad_perm (by omega)).mem_iff.1 hv) with h | h
              · obtain ⟨l, hl, hlo⟩ := (HO1.out.take k).mem hlk1 h
                exact lone_of hlo (hsm l hl) hx1 (Nat.le_refl _) (by omega)
              · obtain ⟨l, hl, hlo⟩ := (HO3.out.take k).mem hlk2 ((bases_sub _).subset h)
                exact lone_of hlo (hsm l hl) hx3 (by omega) (by omega))
            (quad_apart (HO1.out.take k) (HO3.out.take k) hs12 hlk1 hlk2)
            (fun j v hj => HBo.out j v hj) (by rw [hlen]; omega) (by omega) (by omega) (by omega)
          rw [hlen] at ap
          have AP := Lib.hid ap
          have HE12 : Hid (Below w.heap.size w wr) := HB6.out.trans (HBR.out.mono HB6.out.size)
          clear ap hlen hlk1 hlk2 hsm hvs hcell hlt hx1 hx3 hnil
          go_wp2_with fail
          go_at_call 13
          refine AP.out.mono ?_
          rintro e w13 ⟨rfl, hb13⟩
          have hE := HE12.out.trans hb13
          clear hb13
          go_wp2_with fail
          go_ret
          exact ⟨rfl, hE⟩
        · have e1 : ¬ (k : Int) < (L : Int) := by omega
          have HKL := Lib.hid hkL
          clear hkL
          obtain ⟨bo, lc, hvl, hboB, hbol, hcell⟩ := list_form hvs (by omega)
          subst hvl
          have HBo := Lib.hid hcell
          have hlk1 : (cs.take k).length = (hs.take k).length := by rw [List.length_take, List.length_take, HCS.out]
          have hlk2 : (ds.take k).length = (hs.take k).length := by rw [List.length_take, List.length_take, HDS.out]
          have hlen : (quad (cs.take k) (ds.take k)).length = k * 4 := by
            have hlH := HLL.out
            have hcH := HCS.out
            rw [quad_len _ _ (by omega), List.length_take]
            omega
          have hsm : ∀ l, (∃ x, x ∈ hs.take k ∧ (l = x.b ∨ l = x.l ∨ l = x.r)) → l.length ≤ 8796093022187 := fun l hl => by
            obtain ⟨x, hx, hl⟩ := hl
            have := HPS.out x (List.mem_of_mem_take hx)
            rcases hl with rfl | rfl | rfl <;> omega
          have hx1 := HC6.out.trans (HBR.out.mono HC6.out.size)
          have hx3 := HD6.out.trans (HBR.out.mono HD6.out.size)
          have hb01 := HB1.out.size
          have hsR := HBR.out.size
          have ap := lists_apart (quad (cs.take k) (ds.take k)) bo lc w.heap.size wr (fun v hv => by
              rcases List.mem_append.1 ((quad_perm (by omega)).mem_iff.1 hv) with h | h
              · obtain ⟨l, hl, hlo⟩ := (HO1.out.take k).mem hlk1 h
                exact lone_of hlo (hsm l hl) hx1 (Nat.le_refl _) (by omega)
              · obtain ⟨l, hl, hlo⟩ := (HO3.out.take k).mem hlk2 ((bases_sub _).subset h)
                exact lone_of hlo (hsm l hl) hx3 (by omega) (by omega))
            (quad_apart (HO1.out.take k) (HO3.out.take k) hs12 hlk1 hlk2)
            (fun j v hj => HBo.out j v hj) (by rw [hlen]; omega) (by omega) (by omega) (by omega)
          rw [hlen] at ap
          have AP := Lib.hid ap
          have HE12 : Hid (Below w.heap.size w wr) := HB6.out.trans (HBR.out.mono HB6.out.size)
          clear ap hlen hlk1 hlk2 hsm hvs hcell hlt hx1 hx3 hnil
          go_wp2_with fail
          go_at_call 13
          refine AP.out.mono ?_
          rintro e w13 ⟨rfl, hb13⟩
          have hE := HE12.out.trans hb13
          clear hb13
          go_wp2_with fail
          go_ret
          exact ⟨rfl, hE⟩
theorem own : ownKnob Try.prog.godebug = none := by kernel_rfl
theorem laidOut : laidOutB Try.prog = true := by kernel_rfl
set_option maxRecDepth 100000 in
theorem contract {Q : ByteArray → ByteArray → ByteArray → Prop} (hM : Impl Q) (H : Type) (enc : TypeId × Value → H) (W : World) (base : Nat) (args : Array Value) (ds gs : List (DataW H)) (before : List MemPlace)
    (hval0 : ∀ (j : Nat) t v, Try.f3.params[j]? = some t → args[j]? = some v → Value.okWide Try.prog W .any base t v)
    (hW : DataW.Whole enc Try.prog Try.f3.params.toList Rows.mergeChunksSpec.vars false W args.toList ds gs before)
    (hk : Rows.uptoSmall H (ds ++ gs) = true)
    (hsz0 : (DataW.weightsEach Try.prog (Try.f3.params.toList ++ Rows.mergeChunksSpec.plain.varTypes Try.prog) (ds ++ gs)).all (· ≤ reachBytes) = true) :
    Calls Try.prog 3 args W fun e W' => ∃ v, e = .returned v ∧ Rows.mergeChunksSpec.post enc Try.prog Try.f3 false true false false W args v W' := by
  have hval : ∀ (j : Nat) t v, Try.f3.params[j]? = some t → args[j]? = some v → Value.okWide Try.prog W .any base t v := hval0
  have hsz := hsz0
  clear hsz0
  have hW' := hW
  obtain ⟨p, q, hA0, hV, rfl, hfz, hnd⟩ := hW
  have hA : DataW.TrodAll enc Try.prog W 0 (fun _ => true) true Try.f3.params.toList args.toList ds p := hA0
  rw [Try.params3] at hA hval hsz
  obtain ⟨v0, vs0, d0, ds0, p0, q0, hargs, rfl, rfl, h0, r0⟩ := trodAll_cons hA
  obtain ⟨v1, vs1, d1, ds1, p1, q1, rfl, rfl, rfl, h1, r1⟩ := trodAll_cons r0
  obtain ⟨v2, vs2, d2, ds2, p2, q2, rfl, rfl, rfl, h2, r2⟩ := trodAll_cons r1
  obtain ⟨rfl, rfl, rfl⟩ := trodAll_nil r2
  obtain rfl : args = #[v0, v1, v2] := by cases args; simp_all
  obtain ⟨rfl, rfl⟩ := trodVars_none hV
  obtain ⟨s0, rfl, rfl, rfl, w0⟩ := open_string Try.underlying9 (hval 0 9 v0 rfl rfl) h0
  have hreach0 : s0.size ≤ 140737488351232 := by
    have := sized_string hsz (j := 0) (t := 9) rfl rfl
    simpa [reachBytes] using this
  obtain ⟨s1, rfl, rfl, rfl, w1⟩ := open_string Try.underlying9 (hval 1 9 v1 rfl rfl) h1
  have hreach1 : s1.size ≤ 140737488351232 := by
    have := sized_string hsz (j := 1) (t := 9) rfl rfl
    simpa [reachBytes] using this
  obtain ⟨s2, rfl, rfl, rfl, w2⟩ := open_string Try.underlying9 (hval 2 9 v2 rfl rfl) h2
  have hreach2 : s2.size ≤ 140737488351232 := by
    have := sized_string hsz (j := 2) (t := 9) rfl rfl
    simpa [reachBytes] using this
  clear hA0 hval0
  have hbulk : s0.size + s1.size + s2.size ≤ 1048576 := by
    have h := of_decide_eq_true hk
    rw [List.append_nil] at h
    have x : Rows.uptoBulkAll [DataW.lit (H := H) (.string s0.data.toList), .lit (.string s1.data.toList), .lit (.string s2.data.toList)] = (s0.data.toList.length + 1) + ((s1.data.toList.length + 1) + ((s2.data.toList.length + 1) + 0)) := rfl
    rw [x, len_l, len_l, len_l] at h
    omega
  refine (walk hM s0 s1 s2 W (by omega) (by omega) (by omega)).mono fun e W' ⟨he, bel⟩ => ?_
  subst he
  exact ⟨_, rfl, _, _, _, [], _, [], hW', trodAll_mk1 (shut_bool Try.underlying4 _), (trodAll_cons_mk (shut_string Try.underlying9 w0) (trodAll_cons_mk (shut_string Try.underlying9 w1) (trodAll_cons_mk (shut_string Try.underlying9 w2) trodAll_mk0))), rfl, bel.frame _, fun h => by cases h⟩
set_option maxRecDepth 100000 in
theorem lifted {Q : ByteArray → ByteArray → ByteArray → Prop} (hM : Impl Q) (os : Os) (started : os.Started) (H : Type) (enc : TypeId × Value → H) (F : Stop.Interp) :
    ReturnsInHanded {} Try.checked os 3 .any ((Rows.OpenSpec.upto Rows.mergeChunksSpec).pre6 enc Try.prog Try.f3 Rows.mergeChunksUptoRow.domain false) (((Rows.OpenSpec.upto Rows.mergeChunksSpec).at F).post enc Try.prog Try.f3 false true false false) := by
  refine returnsInHanded_of_cond_sized (C := Try.checked) (s := Rows.OpenSpec.upto Rows.mergeChunksSpec) (k := Rows.uptoSmall) rfl own started (by kernel_rfl) Try.func3
    (OpenSpec.witness (enc := enc) (C := Try.checked) (s := Rows.OpenSpec.upto Rows.mergeChunksSpec) (k := Rows.uptoSmall) rfl false ⟨#[], #[.string ByteArray.empty, .string ByteArray.empty, .string ByteArray.empty], []⟩ 8 (by kernel_rfl) (by kernel_rfl) (by kernel_rfl)
      (x := ([.lit (.string []), .lit (.string []), .lit (.string [])], [], [])) (by kernel_rfl) rfl (by kernel_rfl)) ?_
  intro W base args ds gs before hval hW _ hk hsz0 _
  exact contract hM H enc W base args ds gs before hval hW hk hsz0
theorem over {Q : ByteArray → ByteArray → ByteArray → Prop} (hM : Impl Q) : Rows.mergeChunksUptoRow.holds Try.pinned (Rows.OpenSpec.upto Rows.mergeChunksSpec) :=
  OpenClaim.holds_of_cond 3 Try.f3 rfl rfl rfl rfl rfl rfl rfl ⟨rfl, rfl, rfl, rfl, rfl⟩ rfl rfl rfl rfl rfl (by kernel_rfl) Try.func3 (by kernel_rfl)
    (of_decide_eq_true (by kernel_rfl)) (by unfold Func.isWrapper; first | (rw [if_pos (by decide +kernel)]; kernel_rfl) | (rw [if_neg (by decide +kernel)]; exact ⟨rfl, rfl⟩))
    (fun os started H enc _ F => lifted hM os started H enc F)
end Go.Proofs.Ytnpobigombafoaa.mergeChunks

namespace Go.Proofs.Ytnpobigombafoaa
theorem mergeChunksUpto_holds : Rows.MergeChunksUptoSaid := mergeChunks.over Mg.impl
#print axioms mergeChunksUpto_holds
end Go.Proofs.Ytnpobigombafoaa
