/- The statements' own Apart: what its loops keep. -/
import Derived.Test.YthokkobmlhbfgaaEApart1
import Derived.Deep.QuietTactic
import Derived.BigQuiet
namespace Go.Proofs.Ythokkobmlhbfgaa.Ea
open Go.RowKit Tx En Ap
set_option linter.unusedVariables false

/-- The marks of list j. -/
def wasE (j : Nat) : Et := ⟨⟨#[]⟩, ⟨1000 + (j : Int), ⟨#[]⟩⟩⟩
def newE (j : Nat) : Et := ⟨⟨#[]⟩, ⟨2000 + (j : Int), ⟨#[]⟩⟩⟩

/-- m lists: where each lies, how long it is. -/
structure Ls where
  m : Nat
  A : Nat → Option Addr
  N : Nat → Nat
  C : Nat → Nat
  bo : Nat
  B : Nat
namespace Ls
variable (L : Ls)
def val (j : Nat) : Value := .slice (L.A j) (L.N j) (L.C j)
def cells (w : World) : Prop := ∀ j, j < L.m → w.cell? ⟨L.bo, j, none⟩ = some (.slice (L.A j) (L.N j) (L.C j))
/-- All lists lie apart, and none in the block of the list of lists. -/
def far : Prop := (∀ i j, i < L.m → j < L.m → i ≠ j → ∀ x, L.A i = some x → L.A j ≠ some x) ∧ ∀ j, j < L.m → ∀ g, L.A j = some ⟨g, 0, none⟩ → g ≠ L.bo
/-- The lists before i are marked, and of list i the first k places. -/
def marked (w : World) (i k : Nat) : Prop := ∀ j, j < L.m → ∃ xs : List Et, w.ownsRow L.B 51 3 (.slice (L.A j) (L.N j) (L.C j)) (L.N j) (xs.flatMap En.cells) ∧ ∀ l, l < L.N j → (j < i ∨ j = i ∧ l < k) → xs[l]? = some (wasE j)
end Ls

theorem marked_next {L : Ls} {w : World} {i : Nat} (h : L.marked w i (L.N i)) : L.marked w (i + 1) 0 := by
  intro j hj
  obtain ⟨xs, h1, h2⟩ := h j hj
  refine ⟨xs, h1, fun l hl hh => h2 l hl ?_⟩
  rcases hh with hh | ⟨_, hh⟩
  · by_cases e : j = i
    · subst e; exact .inr ⟨rfl, hl⟩
    · exact .inl (by omega)
  · omega
theorem marked_drew {L : Ls} {w : World} {i k : Nat} (h : L.marked w i k) (n : Nat) : L.marked (w.drewN n) i k := h
theorem addr_eq {A : Option Addr} {n c : Nat} {w : World} {B size : Nat} {e : TypeId} {xs : List Value} (h : w.ownsRow B e size (.slice A n c) n xs) (hn : 0 < n) : ∃ g, A = some ⟨g, 0, none⟩ ∧ B ≤ g := by
  obtain ⟨g, cap, hv, hg, _⟩ := h.form hn
  injection hv with ha
  exact ⟨g, ha, hg⟩
/-- What the store of a mark leaves. -/
def put3 (w : World) (g k : Nat) (x : Et) : World := ((w.setCell ⟨g, k * 3, none⟩ (.string x.path)).setCell ⟨g, k * 3 + 1, none⟩ (.int .i64 x.node.kind)).setCell ⟨g, k * 3 + 1 + 1, none⟩ (.string x.node.data)
/-- The mark of a place. -/
theorem marked_store {L : Ls} {w : World} {i k g : Nat} (hf : L.far) (h : L.marked w i k) (hi : i < L.m) (hk : k < L.N i) (ha : L.A i = some ⟨g, 0, none⟩) : L.marked (put3 w g k (wasE i)) i (k + 1) := by
  intro j hj
  obtain ⟨xs, h1, h2⟩ := h j hj
  have hxl : xs.length = L.N j := by have := h1.1; rw [flat_len] at this; omega
  by_cases e : j = i
  · subst e
    rw [ha] at h1 ⊢
    have hl2 : k < xs.length := by omega
    refine ⟨xs.set k (wasE j), own_store h1 hl2 _, fun l hl hh => ?_⟩
    by_cases e2 : l = k
    · subst e2
      exact List.getElem?_set_self hl2
    · rw [List.getElem?_set_ne (fun e => e2 e.symm)]
      exact h2 l hl (.inr ⟨rfl, by rcases hh with hh | ⟨_, hh⟩ <;> omega⟩)
  · have hb : (Value.slice (L.A j) (L.N j) (L.C j)).ownBlock ≠ some g := by
      intro hb
      cases hA : L.A j with
      | none => rw [hA] at hb; simp [Value.ownBlock] at hb
      | some x =>
        by_cases h0 : L.N j = 0
        · rcases h1.2 with ⟨hv, _⟩ | ⟨g', cap', cur, hv, _⟩
          · rw [hA] at hv; cases hv
          · rw [hA] at hv hb
            injection hv with hx
            injection hx with hx
            subst hx
            simp only [Value.ownBlock, Option.some.injEq] at hb
            subst hb
            exact hf.1 j i hj hi e _ hA ha
        · obtain ⟨g', ha', _⟩ := addr_eq h1 (by omega)
          rw [hA] at ha' hb
          injection ha' with hx
          subst hx
          simp only [Value.ownBlock, Option.some.injEq] at hb
          subst hb
          exact hf.1 j i hj hi e _ hA ha
    refine ⟨xs, own_far (own_far (own_far h1 hb _) hb _) hb _, fun l hl hh => h2 l hl ?_⟩
    rcases hh with hh | ⟨hh, _⟩
    · exact .inl hh
    · exact absurd hh e

theorem cells_store {L : Ls} {w : World} {i k g : Nat} (hf : L.far) (h : L.cells w) (hi : i < L.m) (ha : L.A i = some ⟨g, 0, none⟩) (x : Et) : L.cells (put3 w g k x) := by
  intro j hj
  have hne := hf.2 i hi g ha
  unfold put3
  rw [World.cell?_setCell_other _ _ _ _ (fun e => hne (by injection e)), World.cell?_setCell_other _ _ _ _ (fun e => hne (by injection e)), World.cell?_setCell_other _ _ _ _ (fun e => hne (by injection e))]
  exact h j hj

/-! ### the second loop -/
def sw (j : Nat) : Value := .int .i64 (1000 + (j : Int))
def sn (j : Nat) : Value := .int .i64 (2000 + (j : Int))
/-- What a list, made longer, holds. -/
def row (L : Ls) (j k : Nat) : List Et := List.replicate (L.N j) (wasE j) ++ List.replicate k (newE j)
theorem row_len (L : Ls) (j k : Nat) : (row L j k).length = L.N j + k := by simp [row]
theorem row_was {L : Ls} {j k l : Nat} (h : l < L.N j) : (row L j k)[l]? = some (wasE j) := by
  rw [row, List.getElem?_append_left (by simpa using h), List.getElem?_replicate, if_pos h]
theorem row_new {L : Ls} {j k l : Nat} (h : ¬ l < L.N j) (h2 : l < L.N j + k) : (row L j k)[l]? = some (newE j) := by
  rw [row, List.getElem?_append_right (by simp; omega), List.length_replicate, List.getElem?_replicate, if_pos (by omega)]
theorem row_zero (L : Ls) (j : Nat) : row L j 0 = List.replicate (L.N j) (wasE j) := by simp [row]
theorem row_step (L : Ls) (j k : Nat) : row L j k ++ [newE j] = row L j (k + 1) := by
  rw [row, row, List.append_assoc, List.replicate_succ']
/-- The kind of the l-th entry of a row. -/
theorem own_kind {w : World} {base g n cap : Nat} {xs : List Et} (h : w.ownsRow base 51 3 (.slice (some ⟨g, 0, none⟩) n cap) n (xs.flatMap En.cells)) {l : Nat} {x : Et} (hl : xs[l]? = some x) : w.cell? ⟨g, l * 3 + 1, none⟩ = some (.int .i64 x.node.kind) :=
  own_cell h (flat_at xs l x 1 hl (by omega))

/-- A row in a block that has not turned. -/
theorem own_same {w w1 : World} {base n size : Nat} {e : TypeId} {v : Value} {xs : List Value} (h : w.ownsRow base e size v n xs) (hk : ∀ q, q < w.heap.size → v.ownBlock = some q → w1.heap[q]? = w.heap[q]?) : w1.ownsRow base e size v n xs := by
  refine ⟨h.1, ?_⟩
  rcases h.2 with h0 | ⟨g, cap, cur, rfl, hb, hh, r⟩
  · exact .inl h0
  · exact .inr ⟨g, cap, cur, rfl, hb, (hk g (Array.getElem?_eq_some_iff.1 hh).1 rfl).trans hh, r⟩
theorem own_lt {w : World} {base n size : Nat} {e : TypeId} {v : Value} {xs : List Value} (h : w.ownsRow base e size v n xs) {g : Nat} (hg : v.ownBlock = some g) : base ≤ g ∧ g < w.heap.size := h.lt g hg
theorem cell_same {w w1 : World} {g k : Nat} {u : Value} (h : w.cell? ⟨g, k, none⟩ = some u) (hk : w1.heap[g]? = w.heap[g]?) : w1.cell? ⟨g, k, none⟩ = some u := (World.cell?_of_block (a := ⟨g, k, none⟩) hk).trans h

/-- What the second loop keeps: H: the heap's size at its beginning. -/
structure Inv (L : Ls) (w0 : World) (H i r : Nat) (w : World) (v6 : Value) (vs : List Value) (b c : Nat → Nat) : Prop where
  cells : L.cells w
  held : ∀ j, j < L.m → ∀ l, l < L.N j → ∃ g, L.A j = some ⟨g, 0, none⟩ ∧ w.cell? ⟨g, l * 3 + 1, none⟩ = some (sw j)
  rows : ∀ j, r ≤ j → j < L.m → w.ownsRow L.B 51 3 (.slice (L.A j) (L.N j) (L.C j)) (L.N j) ((row L j 0).flatMap En.cells)
  outer : w.ownsRow L.B 22 1 v6 i vs
  high : ∀ g, v6.ownBlock = some g → H ≤ g
  long : ∀ j, j < i → vs[j]? = some (.slice (some ⟨b j, 0, none⟩) (L.N j + 20) (c j)) ∧ w.ownsRow L.B 51 3 (.slice (some ⟨b j, 0, none⟩) (L.N j + 20) (c j)) (L.N j + 20) ((row L j 20).flatMap En.cells) ∧ (L.A j = some ⟨b j, 0, none⟩ ∨ H ≤ b j)
  apart : ∀ j k, j < i → k < i → j ≠ k → b j ≠ b k
  low : ∀ j, j < L.m → ∀ g, L.A j = some ⟨g, 0, none⟩ → g < H
  bo : L.bo < H
  size : H ≤ w.heap.size
  below : Below L.B w0 w
  base : L.B ≤ H
/-- The list that is made longer. -/
structure Cur (L : Ls) (H i k : Nat) (w : World) (v : Value) (b : Nat → Nat) : Prop where
  own : w.ownsRow L.B 51 3 v (L.N i + k) ((row L i k).flatMap En.cells)
  at_ : ∀ g, v.ownBlock = some g → (L.A i = some ⟨g, 0, none⟩ ∨ H ≤ g) ∧ ∀ j, j < i → b j ≠ g

theorem inv_start {L : Ls} {w0 w : World} (hf : L.far) (hc : L.cells w) (hm : L.marked w L.m 0) (hbo : L.bo < w.heap.size) (hB : L.B ≤ w.heap.size) (hb : Below L.B w0 w) : Inv L w0 w.heap.size 0 0 w (.slice none 0 0) [] (fun _ => 0) (fun _ => 0) := by
  have hrow : ∀ j, j < L.m → w.ownsRow L.B 51 3 (.slice (L.A j) (L.N j) (L.C j)) (L.N j) ((row L j 0).flatMap En.cells) := by
    intro j hj
    obtain ⟨xs, h1, h2⟩ := hm j hj
    have e : xs = row L j 0 := by
      rw [row_zero]
      apply List.ext_getElem?
      intro l
      rw [List.getElem?_replicate]
      have hxl : xs.length = L.N j := by have := h1.1; rw [flat_len] at this; omega
      by_cases hl : l < L.N j
      · rw [if_pos hl]; exact h2 l hl (.inl hj)
      · rw [if_neg hl, List.getElem?_eq_none (by omega)]
    rw [← e]
    exact h1
  refine ⟨hc, ?_, fun j _ hj => hrow j hj, World.ownsRow_nil _ _ _ _, fun g hg => by simp [Value.ownBlock] at hg, fun j hj => absurd hj (by omega), fun j k hj => absurd hj (by omega), ?_, hbo, Nat.le_refl _, hb, hB⟩
  · intro j hj l hl
    have h1 := hrow j hj
    obtain ⟨g, ha, _⟩ := addr_eq h1 (by omega)
    rw [ha] at h1
    exact ⟨g, ha, own_kind h1 (row_was hl)⟩
  · intro j hj g ha
    have h1 := hrow j hj
    rw [ha] at h1
    exact (own_lt h1 rfl).2

theorem cur_start {L : Ls} {w0 w : World} {H i r : Nat} {v6 : Value} {vs : List Value} {b c : Nat → Nat} (hf : L.far) (h : Inv L w0 H i r w v6 vs b c) (hr : r ≤ i) (hi : i < L.m) : Cur L H i 0 w (.slice (L.A i) (L.N i) (L.C i)) b := by
  have h1 := h.rows i hr hi
  refine ⟨h1, fun g hg => ?_⟩
  have ha : L.A i = some ⟨g, 0, none⟩ := by
    rcases h1.2 with ⟨hv, _⟩ | ⟨g', cap', cur, hv, _⟩
    · rw [hv] at hg; simp [Value.ownBlock] at hg
    · rw [hv] at hg
      simp only [Value.ownBlock, Option.some.injEq] at hg
      subst hg
      injection hv
  refine ⟨.inl ha, fun j hj e => ?_⟩
  rcases (h.long j hj).2.2 with h2 | h2
  · rw [e] at h2
    exact hf.1 j i (by omega) hi (by omega) _ h2 ha
  · have := h.low i hi g ha
    omega

/-- An append to the list that is made longer. -/
theorem cur_step {L : Ls} {w0 w w1 : World} {H i k r : Nat} {v v1 v6 : Value} {vs : List Value} {b c : Nat → Nat} {o : Obj} (hf : L.far) (h : Inv L w0 H i r w v6 vs b c) (hi : i < L.m) (hc : Cur L H i k w v b)
    (hown : w1.ownsRow L.B 51 3 v1 (L.N i + k + 1) ((row L i k).flatMap En.cells ++ En.cells (newE i)))
    (hg : (v1.ownBlock = v.ownBlock ∧ (w.alloc o).grownBy w1 v.ownBlock) ∨ (v1.ownBlock = some (w.heap.size + 1) ∧ (w.alloc o).grownBy w1 none)) :
    (∀ q, q < w.heap.size → (∀ g, v.ownBlock = some g → q ≠ g) → w1.heap[q]? = w.heap[q]?) ∧ Cur L H i (k + 1) w1 v1 b ∧ w.heap.size ≤ w1.heap.size ∧ Below L.B w0 w1 ∧
      (∀ q, L.A i = some ⟨q, 0, none⟩ → ∀ l, l < L.N i → w1.cell? ⟨q, l * 3 + 1, none⟩ = some (sw i)) := by
  have hB : L.B ≤ w.heap.size := Nat.le_trans h.base h.size
  have hal : w.heap.size + 1 = (w.alloc o).heap.size := (World.size_alloc _ _).symm
  have hk : ∀ q, q < w.heap.size → (∀ g, v.ownBlock = some g → q ≠ g) → w1.heap[q]? = w.heap[q]? := by
    intro q hq hne
    rcases hg with ⟨_, hg⟩ | ⟨_, hg⟩
    · exact (hg.block q (by omega) (fun e => hne q e.symm rfl)).trans (Below.heap_alloc w o q hq)
    · exact (hg.block q (by omega) (by simp)).trans (Below.heap_alloc w o q hq)
  have hown2 : w1.ownsRow L.B 51 3 v1 (L.N i + (k + 1)) ((row L i (k + 1)).flatMap En.cells) := by
    rw [← row_step, List.flatMap_append, List.flatMap_cons, List.flatMap_nil, List.append_nil]
    exact hown
  have hsz : w.heap.size ≤ w1.heap.size := by
    rcases hg with ⟨_, hg⟩ | ⟨_, hg⟩
    · have := hg.size; omega
    · have := hg.size; omega
  have hbel : Below L.B w0 w1 := by
    have h2 := h.below.alloc hB o
    rcases hg with ⟨_, hg⟩ | ⟨_, hg⟩
    · exact h2.grown hg (by omega) (fun q hq => (own_lt hc.own hq).1)
    · exact h2.grown hg (by omega) (fun q hq => by cases hq)
  refine ⟨hk, ⟨hown2, fun g hg1 => ?_⟩, hsz, hbel, fun q hq l hl => ?_⟩
  · rcases hg with ⟨he, _⟩ | ⟨he, _⟩
    · exact hc.at_ g (by rw [← he]; exact hg1)
    · rw [he] at hg1
      injection hg1 with hg1
      have hs := h.size
      refine ⟨.inr (by omega), fun j hj e => ?_⟩
      have h9 : b j < w.heap.size := (own_lt (h.long j hj).2.1 rfl).2
      omega
  · by_cases hv : v.ownBlock = some q
    · rcases hg with ⟨he, _⟩ | ⟨_, hg⟩
      · obtain ⟨g', cap', hv', _, _⟩ := hown2.form (by omega)
        rw [hv'] at he hown2
        rw [hv] at he
        simp only [Value.ownBlock, Option.some.injEq] at he
        subst he
        exact own_kind hown2 (row_was hl)
      · obtain ⟨g', hA, hcell⟩ := h.held i hi l hl
        rw [hq] at hA
        injection hA with hA
        injection hA with hA
        subst hA
        have hq' := World.block_lt_of_cell? w _ hcell
        exact cell_same hcell ((hg.block q (by have : q < w.heap.size := hq'; omega) (by simp)).trans (Below.heap_alloc w o q hq'))
    · obtain ⟨g', hA, hcell⟩ := h.held i hi l hl
      rw [hq] at hA
      injection hA with hA
      injection hA with hA
      subst hA
      exact cell_same hcell (hk q (World.block_lt_of_cell? w _ hcell) (fun g hg e => hv (by rw [hg, e])))

theorem inv_step {L : Ls} {w0 w w1 : World} {H i k r : Nat} {v v6 : Value} {vs : List Value} {b c : Nat → Nat} (hf : L.far) (h : Inv L w0 H i r w v6 vs b c) (hi : i < L.m) (hc : Cur L H i k w v b) (rowsi : ∀ j, i < j → j < L.m → w.ownsRow L.B 51 3 (.slice (L.A j) (L.N j) (L.C j)) (L.N j) ((row L j 0).flatMap En.cells))
    (hk : ∀ q, q < w.heap.size → (∀ g, v.ownBlock = some g → q ≠ g) → w1.heap[q]? = w.heap[q]?) (hsz : w.heap.size ≤ w1.heap.size) (hbel : Below L.B w0 w1)
    (hi1 : ∀ q, L.A i = some ⟨q, 0, none⟩ → ∀ l, l < L.N i → w1.cell? ⟨q, l * 3 + 1, none⟩ = some (sw i)) :
    L.cells w1 ∧ (∀ j, j < L.m → ∀ l, l < L.N j → ∃ g, L.A j = some ⟨g, 0, none⟩ ∧ w1.cell? ⟨g, l * 3 + 1, none⟩ = some (sw j)) ∧
      (∀ j, i < j → j < L.m → w1.ownsRow L.B 51 3 (.slice (L.A j) (L.N j) (L.C j)) (L.N j) ((row L j 0).flatMap En.cells)) ∧ w1.ownsRow L.B 22 1 v6 i vs ∧
      (∀ j, j < i → vs[j]? = some (.slice (some ⟨b j, 0, none⟩) (L.N j + 20) (c j)) ∧ w1.ownsRow L.B 51 3 (.slice (some ⟨b j, 0, none⟩) (L.N j + 20) (c j)) (L.N j + 20) ((row L j 20).flatMap En.cells) ∧ (L.A j = some ⟨b j, 0, none⟩ ∨ H ≤ b j)) := by
  have hs := h.size
  have hbo := h.bo
  refine ⟨fun j hj => ?_, fun j hj l hl => ?_, fun j hij hj => ?_, ?_, fun j hj => ?_⟩
  · refine cell_same (h.cells j hj) (hk L.bo (by omega) (fun g hg e => ?_))
    subst e
    rcases (hc.at_ _ hg).1 with ha | ha
    · exact hf.2 i hi _ ha rfl
    · omega
  · by_cases e : j = i
    · subst e
      obtain ⟨g, ha, _⟩ := h.held j hj l hl
      exact ⟨g, ha, hi1 g ha l hl⟩
    · obtain ⟨g, ha, hcell⟩ := h.held j hj l hl
      refine ⟨g, ha, cell_same hcell (hk g (World.block_lt_of_cell? w _ hcell) (fun q hq e2 => ?_))⟩
      subst e2
      rcases (hc.at_ _ hq).1 with h2 | h2
      · exact hf.1 j i hj hi e _ ha h2
      · have := h.low j hj _ ha
        omega
  · have h1 := rowsi j hij hj
    refine own_same h1 (fun q hq hv => hk q hq (fun g hg e => ?_))
    subst e
    have ha : L.A j = some ⟨q, 0, none⟩ := by
      rcases h1.2 with ⟨hv2, _⟩ | ⟨g', cap', cur, hv2, _⟩
      · rw [hv2] at hv; simp [Value.ownBlock] at hv
      · rw [hv2] at hv
        simp only [Value.ownBlock, Option.some.injEq] at hv
        subst hv
        injection hv2
    rcases (hc.at_ _ hg).1 with h2 | h2
    · exact hf.1 j i hj hi (by omega) _ ha h2
    · have := h.low j hj _ ha
      omega
  · exact own_same h.outer (fun q hq hv => hk q hq (fun g hg e => by
      subst e
      exact types_ne hc.own h.outer (by decide) hg hv))
  · obtain ⟨h1, h2, h3⟩ := h.long j hj
    refine ⟨h1, own_same h2 (fun q hq hv => hk q hq (fun g hg e => ?_)), h3⟩
    simp only [Value.ownBlock, Option.some.injEq] at hv
    subst hv
    exact (hc.at_ g hg).2 j hj e

/-- The list that was made longer is laid to the others. -/
theorem inv_next {L : Ls} {w0 w w1 : World} {H i bv cv r : Nat} {v6 v7 : Value} {vs : List Value} {b c : Nat → Nat} {o : Obj} (hf : L.far) (h : Inv L w0 H i r w v6 vs b c) (hi : i < L.m) (hc : Cur L H i 20 w (.slice (some ⟨bv, 0, none⟩) (L.N i + 20) cv) b)
    (rowsi : ∀ j, i < j → j < L.m → w.ownsRow L.B 51 3 (.slice (L.A j) (L.N j) (L.C j)) (L.N j) ((row L j 0).flatMap En.cells))
    (hown : w1.ownsRow L.B 22 1 v7 (i + 1) (vs ++ [.slice (some ⟨bv, 0, none⟩) (L.N i + 20) cv]))
    (hg : (v7.ownBlock = v6.ownBlock ∧ (w.alloc o).grownBy w1 v6.ownBlock) ∨ (v7.ownBlock = some (w.heap.size + 1) ∧ (w.alloc o).grownBy w1 none)) :
    Inv L w0 H (i + 1) (i + 1) w1 v7 (vs ++ [.slice (some ⟨bv, 0, none⟩) (L.N i + 20) cv]) (fun j => if j = i then bv else b j) (fun j => if j = i then cv else c j) := by
  have hB : L.B ≤ w.heap.size := Nat.le_trans h.base h.size
  have hal : w.heap.size + 1 = (w.alloc o).heap.size := (World.size_alloc _ _).symm
  have hs := h.size
  have hbo := h.bo
  have hvl : vs.length = i := by have := h.outer.1; omega
  have hk : ∀ q, q < w.heap.size → (∀ g, v6.ownBlock = some g → q ≠ g) → w1.heap[q]? = w.heap[q]? := by
    intro q hq hne
    rcases hg with ⟨_, hg⟩ | ⟨_, hg⟩
    · exact (hg.block q (by omega) (fun e => hne q e.symm rfl)).trans (Below.heap_alloc w o q hq)
    · exact (hg.block q (by omega) (by simp)).trans (Below.heap_alloc w o q hq)
  have hsz : w.heap.size ≤ w1.heap.size := by
    rcases hg with ⟨_, hg⟩ | ⟨_, hg⟩
    · have := hg.size; omega
    · have := hg.size; omega
  have hbel : Below L.B w0 w1 := by
    have h2 := h.below.alloc hB o
    rcases hg with ⟨_, hg⟩ | ⟨_, hg⟩
    · exact h2.grown hg (by omega) (fun q hq => (own_lt h.outer hq).1)
    · exact h2.grown hg (by omega) (fun q hq => by cases hq)
  have hrow : ∀ {n : Nat} {v : Value} {xs : List Value}, w.ownsRow L.B 51 3 v n xs → w1.ownsRow L.B 51 3 v n xs := by
    intro n v xs h1
    exact own_same h1 (fun q hq hv => hk q hq (fun g hg e => by
      subst e
      exact types_ne h1 h.outer (by decide) hv hg))
  refine ⟨fun j hj => ?_, fun j hj l hl => ?_, fun j hij hj => hrow (rowsi j (by omega) hj), hown, fun g hg7 => ?_, fun j hj => ?_, fun j k hj hk2 hne => ?_, h.low, hbo, by omega, hbel, h.base⟩
  · refine cell_same (h.cells j hj) (hk L.bo (by omega) (fun g hg e => ?_))
    have := h.high g hg
    omega
  · obtain ⟨g, ha, hcell⟩ := h.held j hj l hl
    refine ⟨g, ha, cell_same hcell (hk g (World.block_lt_of_cell? w _ hcell) (fun q hq e2 => ?_))⟩
    have h1 := h.high q hq
    have h2 := h.low j hj g ha
    omega
  · rcases hg with ⟨he, _⟩ | ⟨he, _⟩
    · exact h.high g (by rw [← he]; exact hg7)
    · rw [he] at hg7
      injection hg7 with hg7
      omega
  · by_cases e : j = i
    · subst e
      rw [if_pos rfl, if_pos rfl]
      refine ⟨?_, hrow hc.own, (hc.at_ bv rfl).1⟩
      rw [List.getElem?_append_right (by omega), hvl, Nat.sub_self]
      rfl
    · rw [if_neg e, if_neg e]
      obtain ⟨h1, h2, h3⟩ := h.long j (by omega)
      refine ⟨?_, hrow h2, h3⟩
      rw [List.getElem?_append_left (by omega)]
      exact h1
  · by_cases e : j = i
    · by_cases e2 : k = i
      · omega
      · rw [if_pos e, if_neg e2]
        exact fun hh => (hc.at_ bv rfl).2 k (by omega) hh.symm
    · by_cases e2 : k = i
      · rw [if_neg e, if_pos e2]
        exact fun hh => (hc.at_ bv rfl).2 j (by omega) hh
      · rw [if_neg e, if_neg e2]
        exact h.apart j k (by omega) (by omega) hne

/-- One append in the inner loop, whole. -/
theorem both_step {L : Ls} {w0 w w1 : World} {H i k r : Nat} {v v1 v6 : Value} {vs : List Value} {b c : Nat → Nat} {o : Obj} (hf : L.far) (h : Inv L w0 H i r w v6 vs b c) (hr : r ≤ i + 1) (hi : i < L.m) (hc : Cur L H i k w v b)
    (hown : w1.ownsRow L.B 51 3 v1 (L.N i + k + 1) ((row L i k).flatMap En.cells ++ En.cells (newE i)))
    (hg : (v1.ownBlock = v.ownBlock ∧ (w.alloc o).grownBy w1 v.ownBlock) ∨ (v1.ownBlock = some (w.heap.size + 1) ∧ (w.alloc o).grownBy w1 none)) :
    Inv L w0 H i (i + 1) w1 v6 vs b c ∧ Cur L H i (k + 1) w1 v1 b := by
  obtain ⟨hk, hc1, hsz, hbel, hi1⟩ := cur_step hf h hi hc hown hg
  have rowsi := fun j (hij : i < j) (hj : j < L.m) => h.rows j (by omega) hj
  obtain ⟨a1, a2, a3, a4, a5⟩ := inv_step hf h hi hc rowsi hk hsz hbel hi1
  exact ⟨⟨a1, a2, fun j hij hj => a3 j (by omega) hj, a4, h.high, a5, h.apart, h.low, h.bo, Nat.le_trans h.size hsz, hbel, h.base⟩, hc1⟩
theorem outer_next {L : Ls} {w0 w w1 : World} {H i bv cv r : Nat} {v6 v7 : Value} {vs : List Value} {b c : Nat → Nat} {o : Obj} (hf : L.far) (h : Inv L w0 H i r w v6 vs b c) (hr : r ≤ i + 1) (hi : i < L.m) (hc : Cur L H i 20 w (.slice (some ⟨bv, 0, none⟩) (L.N i + 20) cv) b)
    (hown : w1.ownsRow L.B 22 1 v7 (i + 1) (vs ++ [.slice (some ⟨bv, 0, none⟩) (L.N i + 20) cv]))
    (hg : (v7.ownBlock = v6.ownBlock ∧ (w.alloc o).grownBy w1 v6.ownBlock) ∨ (v7.ownBlock = some (w.heap.size + 1) ∧ (w.alloc o).grownBy w1 none)) :
    ∃ b2 c2, Inv L w0 H (i + 1) (i + 1) w1 v7 (vs ++ [.slice (some ⟨bv, 0, none⟩) (L.N i + 20) cv]) b2 c2 :=
  ⟨_, _, inv_next hf h hi hc (fun j hij hj => h.rows j (by omega) hj) hown hg⟩
theorem inv_more {L : Ls} {w0 w : World} {H i r : Nat} {v6 : Value} {vs : List Value} {b c : Nat → Nat} (h : Inv L w0 H i r w v6 vs b c) (hr : r ≤ i + 1) : Inv L w0 H i (i + 1) w v6 vs b c :=
  ⟨h.cells, h.held, fun j hij hj => h.rows j (by omega) hj, h.outer, h.high, h.long, h.apart, h.low, h.bo, h.size, h.below, h.base⟩

end Go.Proofs.Ythokkobmlhbfgaa.Ea
