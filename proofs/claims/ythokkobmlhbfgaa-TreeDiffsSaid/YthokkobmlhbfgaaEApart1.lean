/- Rows of entries of one's own: an append that tells where it lies and what it leaves, a store of a whole entry, a row of another type. -/
import Derived.Test.YthokkobmlhbfgaaEnts8
import Derived.Test.YthokkobmlhbfgaaAppendTwo
namespace Go.Proofs.Ythokkobmlhbfgaa.Ea
open Go.RowKit Tx En Ap
set_option linter.unusedVariables false



/-! ### a store into one's own row -/
theorem own_frozen {w : World} {base g n cap size : Nat} {e : TypeId} {xs : List Value} (h : w.ownsRow base e size (.slice (some ⟨g, 0, none⟩) n cap) n xs) (k : Nat) : w.frozen? ⟨g, k, none⟩ = false := by
  rcases h.2 with ⟨h0, _⟩ | ⟨g', cap', cur, hv, _, hh, _⟩
  · cases h0
  · injection hv with hg
    injection hg with hg
    injection hg with hg
    subst hg
    simp [World.frozen?, hh]
theorem own_cell {w : World} {base g n cap size : Nat} {e : TypeId} {xs : List Value} (h : w.ownsRow base e size (.slice (some ⟨g, 0, none⟩) n cap) n xs) {k : Nat} {u : Value} (hk : xs[k]? = some u) : w.cell? ⟨g, k, none⟩ = some u := by
  have := h.cells (g := g) rfl k u hk
  rwa [WideShapes.add_plain, Nat.zero_add] at this
theorem own_put {w : World} {base g n cap size : Nat} {e : TypeId} {xs : List Value} (h : w.ownsRow base e size (.slice (some ⟨g, 0, none⟩) n cap) n xs) (k : Nat) (u : Value) :
    (w.setCell ⟨g, k, none⟩ u).ownsRow base e size (.slice (some ⟨g, 0, none⟩) n cap) n (xs.set k u) := by
  refine ⟨by rw [List.length_set]; exact h.1, ?_⟩
  rcases h.2 with ⟨h0, _⟩ | ⟨g', cap', cur, hv, hb, hh, hn, hc, hs, ht⟩
  · cases h0
  · injection hv with hg _ hcap
    injection hg with hg
    injection hg with hg
    subst hg
    subst hcap
    refine .inr ⟨g, cap, cur.setIfInBounds k u, rfl, hb, ?_, hn, hc, by simpa using hs, ?_⟩
    · simp [World.setCell, Array.getElem?_modify, hh]
    · rw [Array.toList_setIfInBounds, List.take_set, ht]
theorem own_far {w : World} {base n size : Nat} {e : TypeId} {v : Value} {xs : List Value} (h : w.ownsRow base e size v n xs) {g k : Nat} (hne : v.ownBlock ≠ some g) (u : Value) : (w.setCell ⟨g, k, none⟩ u).ownsRow base e size v n xs := by
  have hg : w.grownBy (w.setCell ⟨g, k, none⟩ u) (some g) := ⟨rfl, rfl, rfl, by simp [World.setCell], fun j _ hj => Below.heap_setCell w ⟨g, k, none⟩ u j (fun e => hj (by rw [e]))⟩
  exact h.kept hg (.inr hne)
/-- Rows of two types don't share a block. -/
theorem types_ne {w : World} {base b2 n n2 size size2 : Nat} {e e2 : TypeId} {v v2 : Value} {xs ys : List Value} (h : w.ownsRow base e size v n xs) (h2 : w.ownsRow b2 e2 size2 v2 n2 ys) (hne : e ≠ e2) {g : Nat} (hg : v.ownBlock = some g) : v2.ownBlock ≠ some g := by
  rcases h.2 with ⟨rfl, _⟩ | ⟨a, cap, cur, rfl, _, hh, _⟩
  · simp [Value.ownBlock] at hg
  · rcases h2.2 with ⟨rfl, _⟩ | ⟨a2, cap2, cur2, rfl, _, hh2, _⟩
    · simp [Value.ownBlock]
    · simp only [Value.ownBlock, Option.some.injEq] at hg ⊢
      subst hg
      intro he
      injection he with he
      subst he
      rw [hh] at hh2
      injection hh2 with hh2
      injection hh2 with _ ht
      exact hne ht
theorem flat_set : ∀ (l : List Et) (k : Nat) (x : Et), k < l.length → (((l.flatMap cells).set (k * 3) (.string x.path)).set (k * 3 + 1) (.int .i64 x.node.kind)).set (k * 3 + 1 + 1) (.string x.node.data) = (l.set k x).flatMap cells
  | [], k, x, h => by simp at h
  | y :: l, 0, x, h => by
    simp [cells]
  | y :: l, k + 1, x, h => by
    have ih := flat_set l k x (by simpa using h)
    have e1 : (k + 1) * 3 = (cells y).length + k * 3 := by show _ = 3 + _; omega
    rw [List.set_cons_succ, List.flatMap_cons, List.flatMap_cons, ← ih, e1]
    have hle : ∀ (q : Nat) (u : Value) (m : List Value), (cells y ++ m).set ((cells y).length + q) u = cells y ++ m.set q u := by
      intro q u m
      rw [List.set_append_right _ _ (by omega), Nat.add_sub_cancel_left]
    rw [hle, Nat.add_assoc, hle, Nat.add_assoc, hle]
/-- A whole entry is stored. -/
theorem own_store {w : World} {base g n cap : Nat} {e : TypeId} {xs : List Et} (h : w.ownsRow base e 3 (.slice (some ⟨g, 0, none⟩) n cap) n (xs.flatMap cells)) {k : Nat} (hk : k < xs.length) (x : Et) :
    (((w.setCell ⟨g, k * 3, none⟩ (.string x.path)).setCell ⟨g, k * 3 + 1, none⟩ (.int .i64 x.node.kind)).setCell ⟨g, k * 3 + 1 + 1, none⟩ (.string x.node.data)).ownsRow base e 3 (.slice (some ⟨g, 0, none⟩) n cap) n ((xs.set k x).flatMap cells) := by
  rw [← flat_set xs k x hk]
  exact own_put (own_put (own_put h _ _) _ _) _ _
end Go.Proofs.Ythokkobmlhbfgaa.Ea
