/- Small words for the laws of trees. -/
import Derived.Test.YthokkobmlhbfgaaTApart
import Derived.Test.YthokkobmlhbfgaaTArgs
namespace Go.Proofs.Ythokkobmlhbfgaa.En
open Go.RowKit Tx Pm Pr Ea
set_option linter.unusedVariables false

theorem tcheck_len {l : List Et} (h : tcheck l = 0) : l.length ≤ 200 := by
  unfold tcheck at h
  split at h
  · cases h
  · omega
theorem tput_len (l : List Et) (p : ByteArray) (nd : Nd) : (tput l p nd).1.length ≤ l.length + 1 := by
  unfold tput
  simp only
  split
  · rw [putList, tsort_len, List.length_append]
    have h1 : (tdel l p).length ≤ l.length := List.length_filter_le _ _
    split
    · simp only [List.length_nil]; omega
    · simp only [List.length_cons, List.length_nil]; omega
  · exact Nat.zero_le _
theorem trepl_len (l : List Et) (p : ByteArray) (sub : List Et) : (trepl l p sub).1.length ≤ 200 := by
  unfold trepl
  simp only
  split
  · next h =>
    rw [tsort_len, List.length_append]
    unfold replCode at h
    split at h
    · omega
    · split at h
      · omega
      · split at h
        · omega
        · omega
  · exact Nat.zero_le _
theorem tsub_len (l : List Et) (p : ByteArray) : (tsub l p).length ≤ l.length := List.length_filter_le _ _
theorem own_n {w : World} {B n : Nat} {v : Value} {l : List Et} (h : Own w B v l) (hn : n = l.length) : w.ownsRow B 51 3 v n (l.flatMap En.cells) := by
  rw [hn]
  exact h
theorem own_n2 {w : World} {B n c : Nat} {a : Option Addr} {l : List Et} (h : Own w B (.slice a l.length c) l) (hn : n = l.length) : w.ownsRow B 51 3 (.slice a n c) n (l.flatMap En.cells) := by
  rw [hn]
  exact h
theorem own_block {w : World} {B n c : Nat} {a : Option Addr} {l : List Et} (h : Own w B (.slice a n c) l) {x : Addr} (hx : a = some x) : B ≤ x.block ∧ x.block < w.heap.size := by
  rcases h.2 with ⟨hv, _⟩ | ⟨g, cap, cur, hv, hg, hh, _⟩
  · injection hv with h1
    rw [hx] at h1
    cases h1
  · injection hv with h1
    rw [hx] at h1
    injection h1 with h1
    subst h1
    exact ⟨hg, (Array.getElem?_eq_some_iff.1 hh).1⟩
/-- A roomy list, without its mark. -/
theorem roomy_row {w : World} {B g cap : Nat} {l : List Et} (h : Own w B (.slice (some ⟨g, 0, none⟩) (l.length + 1) cap) (l ++ [spare])) (hcap : l.length + 1 ≤ cap) : w.ownsRow B 51 3 (.slice (some ⟨g, 0, none⟩) l.length cap) l.length (l.flatMap En.cells) := by
  rcases h.2 with ⟨hv, _⟩ | ⟨g', cap', cur, hv, hg, hh, hn, hc, hs, ht⟩
  · cases hv
  · injection hv with h1 h2 h3
    injection h1 with h1
    injection h1 with h1
    subst h1
    subst h3
    refine ⟨flat_len l, .inr ⟨g, cap, cur, rfl, hg, hh, by omega, hc, hs, ?_⟩⟩
    have e : List.take (l.length * 3) (List.take ((l ++ [spare]).length * 3) cur.toList) = List.take (l.length * 3) ((l ++ [spare]).flatMap En.cells) := by rw [ht]
    rw [List.take_take, List.length_append, List.flatMap_append, List.take_left' (flat_len l)] at e
    rw [← e]
    congr 1
    simp only [List.length_cons, List.length_nil]
    omega
theorem sep3 {x1 x2 x3 : Li} (h12 : ∀ x, x1.a = some x → x2.a ≠ some x) (h13 : ∀ x, x1.a = some x → x3.a ≠ some x) (h23 : ∀ x, x2.a = some x → x3.a ≠ some x) :
    ∀ i j, i < [x1, x2, x3].length → j < [x1, x2, x3].length → i ≠ j → ∀ x, (nth [x1, x2, x3] i).a = some x → (nth [x1, x2, x3] j).a ≠ some x := by
  intro i j hi hj hne x h h2
  have hi : i < 3 := hi
  have hj : j < 3 := hj
  match i, hi, j, hj with
  | 0, _, 0, _ => exact hne rfl
  | 0, _, 1, _ => exact h12 x h h2
  | 0, _, 2, _ => exact h13 x h h2
  | 1, _, 0, _ => exact h12 x h2 h
  | 1, _, 1, _ => exact hne rfl
  | 1, _, 2, _ => exact h23 x h h2
  | 2, _, 0, _ => exact h13 x h2 h
  | 2, _, 1, _ => exact h23 x h2 h
  | 2, _, 2, _ => exact hne rfl
theorem sep4 {x1 x2 x3 x4 : Li} (h12 : ∀ x, x1.a = some x → x2.a ≠ some x) (h13 : ∀ x, x1.a = some x → x3.a ≠ some x) (h14 : ∀ x, x1.a = some x → x4.a ≠ some x) (h23 : ∀ x, x2.a = some x → x3.a ≠ some x) (h24 : ∀ x, x2.a = some x → x4.a ≠ some x) (h34 : ∀ x, x3.a = some x → x4.a ≠ some x) :
    ∀ i j, i < [x1, x2, x3, x4].length → j < [x1, x2, x3, x4].length → i ≠ j → ∀ x, (nth [x1, x2, x3, x4] i).a = some x → (nth [x1, x2, x3, x4] j).a ≠ some x := by
  intro i j hi hj hne x h h2
  have hi : i < 4 := hi
  have hj : j < 4 := hj
  match i, hi, j, hj with
  | 0, _, 0, _ => exact hne rfl
  | 0, _, 1, _ => exact h12 x h h2
  | 0, _, 2, _ => exact h13 x h h2
  | 0, _, 3, _ => exact h14 x h h2
  | 1, _, 0, _ => exact h12 x h2 h
  | 1, _, 1, _ => exact hne rfl
  | 1, _, 2, _ => exact h23 x h h2
  | 1, _, 3, _ => exact h24 x h h2
  | 2, _, 0, _ => exact h13 x h2 h
  | 2, _, 1, _ => exact h23 x h2 h
  | 2, _, 2, _ => exact hne rfl
  | 2, _, 3, _ => exact h34 x h h2
  | 3, _, 0, _ => exact h14 x h2 h
  | 3, _, 1, _ => exact h24 x h2 h
  | 3, _, 2, _ => exact h34 x h2 h
  | 3, _, 3, _ => exact hne rfl
end Go.Proofs.Ythokkobmlhbfgaa.En
