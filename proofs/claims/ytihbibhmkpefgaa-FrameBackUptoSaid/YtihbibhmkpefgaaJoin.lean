/- wire.Join joins its parts: contract. -/
import Derived.Test.YtihbibhmkpefgaaPut
import Derived.Test.YtihbibhmkpefgaaShelf
namespace Go.Proofs.Ytihbibhmkpefgaa.Wr
open Go.RowKit Wm
set_option linter.unusedVariables false

/-- All parts, one behind the other. -/
def cat (l : List ByteArray) : ByteArray := ⟨(l.map (·.data.toList)).flatten.toArray⟩
theorem cat_nil : cat [] = ⟨#[]⟩ := rfl
theorem cat_size (l : List ByteArray) : (cat l).size = (l.map (·.size)).sum := by
  induction l with
  | nil => rfl
  | cons x l ih =>
    have h : (cat (x :: l)).size = x.size + (cat l).size := by
      simp only [cat, ByteArray.size, List.map_cons, List.flatten_cons, List.size_toArray, List.length_append, Array.length_toList]
    rw [h, ih]; simp
theorem cat_snoc (l : List ByteArray) (x : ByteArray) : cat (l ++ [x]) = cat l ++ x := by
  apply ByteArray.ext
  simp [cat]
theorem cat_take (l : List ByteArray) (k : Nat) (h : k < l.length) : cat (l.take (k + 1)) = cat (l.take k) ++ l[k] := by
  rw [← cat_snoc, List.take_succ_eq_append_getElem h]
theorem cat_take_le (l : List ByteArray) (k : Nat) : (cat (l.take k)).size ≤ (cat l).size := by
  rw [cat_size, cat_size]
  conv => rhs; rw [← List.take_append_drop k l]
  rw [List.map_append, List.sum_append]
  omega

theorem join_empty (l : List (List UInt8)) : Lib.join l (ByteArray.mk #[]).data.toList = l.flatten := by
  cases l with
  | nil => rfl
  | cons x l =>
    rw [Lib.join_cons, Lib.joinTail]
    simp

theorem join_any (bk o c : Nat) (xs : List ByteArray) (w : World)
    (hcells : ∀ (j : Nat) x, xs[j]? = some x → w.cell? ⟨bk, o + j, none⟩ = some (.string x))
    (hbk : bk < w.heap.size) (hN : xs.length ≤ 140737488355328) (hcap : xs.length ≤ c) (hlen : (cat xs).size ≤ 140737488355328) :
    Calls Try.prog 21 #[.slice (some ⟨bk, o, none⟩) xs.length c] w fun e w' => e = .returned (.string (cat xs)) ∧ Below w.heap.size w w' := by
  have e : (cat xs) = ⟨(Lib.join (xs.map (·.data.toList)) (ByteArray.mk #[]).data.toList).toArray⟩ := by
    rw [cat, join_empty]
  have hl : (Lib.join (xs.map (·.data.toList)) (ByteArray.mk #[]).data.toList).length ≤ 140737488355328 := by
    rw [join_empty]
    simpa [cat, ByteArray.size] using hlen
  have c1 := fun W (h : ∀ (j : Nat) x, xs[j]? = some x → W.cell? ⟨bk, o + j, none⟩ = some (.string x)) (h2 : bk < W.heap.size) => Any.strings_Join Try.lays156 Try.Builder_Extra_156 bk o c xs ⟨#[]⟩ W h h2 hN hcap hl
  rw [← e] at c1
  have HC := Lib.hid hcells
  have HB := Lib.hid hbk
  clear hcells e hl hlen hbk
  go_enter Try.func21, Try.ntmps21
  go_wp2_with (go_at_call 29; refine (c1 _ HC.out HB.out).mono ?_; rintro e w1 ⟨rfl, hb⟩)
  go_ret
  exact ⟨rfl, hb⟩

end Go.Proofs.Ytihbibhmkpefgaa.Wr
