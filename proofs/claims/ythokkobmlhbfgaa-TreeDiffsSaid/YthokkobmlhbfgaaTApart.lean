/- Lists of entries that lie apart, handed to the statements' own Apart. -/
import Derived.Test.YthokkobmlhbfgaaEApart3
import Derived.Test.YthokkobmlhbfgaaTRoom
namespace Go.Proofs.Ythokkobmlhbfgaa.Ea
open Go.RowKit Tx En
set_option linter.unusedVariables false

/-- A list: where it lies, how long it is, its room, what it reads as. -/
structure Li where
  a : Option Addr
  n : Nat
  c : Nat
  l : List Et
def Li.val (x : Li) : Value := .slice x.a x.n x.c
def nth (L : List Li) (j : Nat) : Li := (L[j]?).getD ⟨none, 0, 0, []⟩
theorem nth_mem {L : List Li} {j : Nat} (h : j < L.length) : nth L j ∈ L := by
  rw [nth, List.getElem?_eq_getElem h]
  exact List.getElem_mem h
/-- The list owns its row. -/
def Li.own (x : Li) (w : World) (B : Nat) : Prop := w.ownsRow B 51 3 (.slice x.a x.n x.c) x.n (x.l.flatMap En.cells)
theorem Li.block {x : Li} {w : World} {B : Nat} (h : x.own w B) {y : Addr} (hy : x.a = some y) : B ≤ y.block ∧ y.block < w.heap.size ∧ y = ⟨y.block, 0, none⟩ := by
  rcases h.2 with ⟨hv, _⟩ | ⟨g, cap, cur, hv, hg, hh, _⟩
  · injection hv with h1
    rw [hy] at h1
    cases h1
  · injection hv with h1
    rw [hy] at h1
    injection h1 with h1
    subst h1
    exact ⟨hg, (Array.getElem?_eq_some_iff.1 hh).1, rfl⟩
theorem lists_apart (L : List Li) (w : World) (B : Nat) (hm : L.length ≤ 1048576) (hN : ∀ x ∈ L, x.n ≤ 1048576) (hB : B ≤ w.heap.size) (hown : ∀ x ∈ L, x.own w B)
    (hsep : ∀ i j, i < L.length → j < L.length → i ≠ j → ∀ x, (nth L i).a = some x → (nth L j).a ≠ some x) :
    Calls Try.prog 26 #[.slice (some ⟨w.heap.size, 0, none⟩) L.length L.length] (w.alloc (.cells (L.map Li.val).toArray 22)) fun e w' => e = .returned (.bool true) ∧ Below B (w.alloc (.cells (L.map Li.val).toArray 22)) w' := by
  refine apart_any { m := L.length, A := fun j => (nth L j).a, N := fun j => (nth L j).n, C := fun j => (nth L j).c, bo := w.heap.size, B := B } L.length _ hm (fun j hj => hN _ (nth_mem hj)) (by rw [World.size_alloc]; show B ≤ _; omega) (by rw [World.size_alloc]; show w.heap.size < _; omega) hB ⟨hsep, fun j hj g h => ?_⟩ (fun j hj => ?_) (fun j hj => ?_)
  · have h1 := (Li.block (hown _ (nth_mem hj)) h).2.1
    show g ≠ w.heap.size
    exact Nat.ne_of_lt h1
  · have h1 := World.cell?_alloc_mark w (L.map Li.val).toArray 22 (0, 0) j
    have hj' : j < L.length := hj
    refine h1.trans ?_
    show (L.map Li.val).toArray[j]? = some (.slice (nth L j).a (nth L j).n (nth L j).c)
    rw [List.getElem?_toArray, List.getElem?_map, nth, List.getElem?_eq_getElem hj']
    rfl
  · have hj' : j < L.length := hj
    exact ⟨(nth L j).l, (hown _ (nth_mem hj')).alloc _, fun l hl hh => by omega⟩
end Go.Proofs.Ythokkobmlhbfgaa.Ea
