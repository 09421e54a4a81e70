/- The statements' arguments: lists of entries, nodes, and the bound of the second form. -/
import Derived.Test.YthokkobmlhbfgaaEOpen
import Derived.Test.YthokkobmlhbfgaaRows
namespace Go.Proofs.Ythokkobmlhbfgaa.En
open Go.ChangeShapes Go.WideShapes Go.ChangeAt Go.RowKit Tx
set_option linter.unusedVariables false

theorem bulk_node {H : Type} (n : Nd) : Rows.uptoBulk (dN (H := H) n) = n.data.size + 3 := by
  have e : Rows.uptoBulk (dN (H := H) n) = 1 + (n.data.data.toList.length + 1 + 0) + 1 := rfl
  rw [e, len_l]
  omega
theorem bulk_ent {H : Type} (x : Et) : Rows.uptoBulk (dE (H := H) x) = x.path.size + x.node.data.size + 5 := by
  have e : Rows.uptoBulk (dE (H := H) x) = (x.path.data.toList.length + 1) + (Rows.uptoBulk (dN (H := H) x.node) + 0) + 1 := rfl
  rw [e, len_l, bulk_node]
  omega
theorem bulk_ents {H : Type} : ∀ l : List Et, l.length ≤ Rows.uptoBulkAll (l.map (dE (H := H))) ∧ ∀ x ∈ l, x.path.size ≤ Rows.uptoBulkAll (l.map (dE (H := H))) ∧ x.node.data.size ≤ Rows.uptoBulkAll (l.map (dE (H := H)))
  | [] => ⟨Nat.zero_le _, fun x hx => by cases hx⟩
  | y :: l => by
    obtain ⟨h1, h2⟩ := bulk_ents (H := H) l
    have e : Rows.uptoBulkAll ((y :: l).map (dE (H := H))) = Rows.uptoBulk (dE (H := H) y) + Rows.uptoBulkAll (l.map (dE (H := H))) := rfl
    rw [e, bulk_ent]
    refine ⟨by rw [List.length_cons]; omega, fun x hx => ?_⟩
    rcases List.mem_cons.1 hx with rfl | hx
    · exact ⟨by omega, by omega⟩
    · obtain ⟨a, b⟩ := h2 x hx
      exact ⟨by omega, by omega⟩

/-- An argument that is a list of entries. -/
theorem arg_ents {H : Type} {enc : TypeId × Value → H} {w : World} {base : Nat} {spare : Nat → Bool} {held : Bool} {a : Option Addr} {n c : Nat} {d : DataW H} {p : List MemPlace} (h : DataW.Trod enc Try.prog w base spare held 22 (.slice a n c) d p) :
    ∃ l : List Et, Ents w a n l ∧ (a = none → c = 0) ∧ (∀ e ∈ l, isInt e.node.kind ∧ e.path.size ≤ maxLen ∧ e.node.data.size ≤ maxLen) ∧ n ≤ Rows.uptoBulk d ∧ ∀ e ∈ l, e.path.size ≤ Rows.uptoBulk d ∧ e.node.data.size ≤ Rows.uptoBulk d := by
  obtain ⟨fuel, hf⟩ := h
  rcases open_ents hf with ⟨hcs, _⟩ | ⟨x, len, cap, l, rest, pl, hcs, _, _, hx, he, hall⟩
  · simp [Value.cells] at hcs
    obtain ⟨rfl, rfl, rfl⟩ := hcs
    exact ⟨[], ⟨rfl, .inl rfl⟩, fun _ => rfl, (fun e he => by cases he), Nat.zero_le _, (fun e he => by cases he)⟩
  · simp [Value.cells] at hcs
    obtain ⟨rfl, rfl, rfl⟩ := hcs
    have hd : d = .slice (l.map dE) rest := congrArg Prod.fst hx
    have e : Rows.uptoBulk d = Rows.uptoBulkAll (l.map (dE (H := H))) + Rows.uptoBulkAll rest + 1 := by rw [hd]; rfl
    obtain ⟨h1, h2⟩ := bulk_ents (H := H) l
    rw [he.1] at h1
    refine ⟨l, he, (fun h => by cases h), hall, by omega, fun y hy => ?_⟩
    obtain ⟨h3, h4⟩ := h2 y hy
    exact ⟨by omega, by omega⟩
theorem arg_cap {H : Type} {enc : TypeId × Value → H} {w : World} {base : Nat} {spare : Nat → Bool} {held : Bool} {a : Option Addr} {n c : Nat} {d : DataW H} {p : List MemPlace} (h : DataW.Trod enc Try.prog w base spare held 22 (.slice a n c) d p) : n ≤ c ∧ c ≤ 9223372036854775807 := by
  obtain ⟨fuel, hf⟩ := h
  rcases open_ents hf with ⟨hcs, _⟩ | ⟨x, len, cap, l, rest, pl, hcs, hc, hm, _⟩
  · simp [Value.cells] at hcs
    obtain ⟨rfl, rfl, rfl⟩ := hcs
    omega
  · simp [Value.cells] at hcs
    obtain ⟨rfl, rfl, rfl⟩ := hcs
    unfold maxLen at hm
    omega
theorem two_of {α : Type} (l : List α) (h : l.length = 2) : ∃ x y, l = [x, y] := by
  match l, h with
  | [x, y], _ => exact ⟨x, y, rfl⟩
set_option maxRecDepth 100000 in
/-- An argument that is a node. -/
theorem arg_node {H : Type} {enc : TypeId × Value → H} {w : World} {base b0 : Nat} {spare : Nat → Bool} {held : Bool} {r : Reach} {v : Value} {d : DataW H} {p : List MemPlace} (hv : Value.okWide Try.prog w r b0 24 v) (h : DataW.Trod enc Try.prog w base spare held 24 v d p) :
    ∃ n : Nd, v = nv n ∧ d = dN n ∧ isInt n.kind ∧ n.data.size ≤ maxLen := by
  obtain ⟨cs, rfl, hsz⟩ := okWide_struct Try.underlying24 hv
  obtain ⟨l⟩ := cs
  have hl : l.length = 2 := hsz.trans cellsN
  clear hsz hv
  obtain ⟨c0, c1, rfl⟩ := two_of l hl
  obtain ⟨fuel, hf⟩ := h
  obtain ⟨n, rfl, rfl, hy, h1, h2⟩ := node_open hf
  exact ⟨n, rfl, congrArg Prod.fst hy, h1, h2⟩
end Go.Proofs.Ythokkobmlhbfgaa.En
