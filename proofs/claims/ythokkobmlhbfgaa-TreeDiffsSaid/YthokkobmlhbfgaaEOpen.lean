/- An argument that is a list of entries, opened; a node, opened. -/
import Derived.Test.YthokkobmlhbfgaaEnts8
import Derived.ProofKit
import Derived.OpenShut
import Derived.ShutString
import Derived.Deep.Slices
import Derived.Deep.Fields
import Derived.ChangeSame
namespace Go.Proofs.Ythokkobmlhbfgaa.En
open Go.ChangeMaps (open_string shut_string)
open Go.ChangeShapes Go.WideShapes Go.ChangeAt Go.RowKit Tx
set_option linter.unusedVariables false

/-- A node and an entry as data. -/
def dN {H : Type} (n : Nd) : DataW H := .agg [.lit (.int .i64 n.kind), .lit (.string n.data.data.toList)]
def dE {H : Type} (x : Et) : DataW H := .agg [.lit (.string x.path.data.toList), dN x.node]
theorem cells9 : Try.prog.cellsOf 9 = 1 := by kernel_rfl
theorem cells3 : Try.prog.cellsOf 3 = 1 := by kernel_rfl
theorem cellsN : Try.prog.cellsOf 24 = 2 := by kernel_rfl
theorem cellsE : Try.prog.cellsOf 51 = 3 := by kernel_rfl
theorem wf_int {k : Int} (h : (Lit.int .i64 k).wf = true) : isInt k := by
  unfold isInt
  simpa [Lit.wf, IntKind.min, IntKind.max, IntKind.signed, IntKind.bits] using h

theorem node_open {H : Type} {enc : TypeId × Value → H} {w : World} {base : Nat} {spare : Nat → Bool} {held : Bool} {m : Nat} {c1 c2 : Value} {y : DataW H × List MemPlace} (h : DataW.trod enc Try.prog w base spare held m 24 [c1, c2] = some y) :
    ∃ n : Nd, c1 = .int .i64 n.kind ∧ c2 = .string n.data ∧ y = (dN n, []) ∧ isInt n.kind ∧ n.data.size ≤ maxLen := by
  obtain ⟨ys, m2, _, hy, _, hyl, hf⟩ := DataW.trod_struct Try.underlying24 h
  have h0 := hf 0 _ rfl
  have h1 := hf 1 _ rfl
  match ys, hyl with
  | [y0, y1], _ =>
    have h0 : DataW.trod enc Try.prog w base spare held m2 3 (([c1, c2].drop 0).take (Try.prog.cellsOf 3)) = some y0 := h0
    have h1 : DataW.trod enc Try.prog w base spare held m2 9 (([c1, c2].drop 1).take (Try.prog.cellsOf 9)) = some y1 := h1
    rw [cells3] at h0
    rw [cells9] at h1
    obtain ⟨k, hk, hx0, hw⟩ := DataW.trod_int Try.underlying3 h0
    obtain ⟨s, hs, hx1, hl⟩ := DataW.trod_string Try.underlying9 h1
    simp at hk hs
    refine ⟨⟨k, s⟩, hk, hs, ?_, wf_int hw, hl⟩
    rw [hy, hx0, hx1]
    rfl

theorem ent_open {H : Type} {enc : TypeId × Value → H} {w : World} {base : Nat} {spare : Nat → Bool} {held : Bool} {m : Nat} {a : Addr} {cs' : List Value} {y : DataW H × List MemPlace} (hc : w.cells? base a 3 = some cs') (h : DataW.trod enc Try.prog w base spare held m 51 cs' = some y) :
    ∃ x : Et, w.cell? a = some (.string x.path) ∧ w.cell? (a.add 1) = some (.int .i64 x.node.kind) ∧ w.cell? (a.add 2) = some (.string x.node.data) ∧ y = (dE x, []) ∧ isInt x.node.kind ∧ x.path.size ≤ maxLen ∧ x.node.data.size ≤ maxLen := by
  obtain ⟨_, hcl, hat⟩ := World.cells?_some hc
  match cs', hcl with
  | [c0, c1, c2], _ =>
    obtain ⟨ys, m2, _, hy, _, hyl, hf⟩ := DataW.trod_struct Try.underlying51 h
    have h0 := hf 0 _ rfl
    have h1 := hf 1 _ rfl
    match ys, hyl with
    | [y0, y1], _ =>
      have h0 : DataW.trod enc Try.prog w base spare held m2 9 (([c0, c1, c2].drop 0).take (Try.prog.cellsOf 9)) = some y0 := h0
      have h1 : DataW.trod enc Try.prog w base spare held m2 24 (([c0, c1, c2].drop 1).take (Try.prog.cellsOf 24)) = some y1 := h1
      rw [cells9] at h0
      rw [cellsN] at h1
      obtain ⟨s, hs, hx0, hl⟩ := DataW.trod_string Try.underlying9 h0
      obtain ⟨n, hn1, hn2, hx1, hi, hl2⟩ := node_open h1
      simp at hs
      have a0 := hat 0 (by omega)
      have a1 := hat 1 (by omega)
      have a2 := hat 2 (by omega)
      refine ⟨⟨s, n⟩, ?_, ?_, ?_, ?_, hi, hl, hl2⟩
      · have e : a.add 0 = a := by simp [Addr.add]
        rw [e] at a0
        rw [a0, hs]
        rfl
      · rw [a1, hn1]
        rfl
      · rw [a2, hn2]
        rfl
      · rw [hy, hx0, hx1]
        rfl

theorem open_ents {H : Type} {enc : TypeId × Value → H} {w : World} {base : Nat} {spare : Nat → Bool} {held : Bool} {fuel : Nat} {cs : List Value} {x : DataW H × List MemPlace} (h : DataW.trod enc Try.prog w base spare held fuel 22 cs = some x) :
    (cs = [.slice none 0 0] ∧ x = (.nil, [])) ∨ ∃ (a : Addr) (len cap : Nat) (l : List Et) (rest : List (DataW H)) (pl : List MemPlace), cs = [.slice (some a) len cap] ∧ len ≤ cap ∧ cap ≤ maxLen ∧ x = (.slice (l.map dE) rest, pl) ∧ Ents w (some a) len l ∧ ∀ e ∈ l, isInt e.node.kind ∧ e.path.size ≤ maxLen ∧ e.node.data.size ≤ maxLen := by
  rcases Go.Deep.open_slice Try.underlying22 h with h0 | ⟨a, len, cap, m, n, D, Pl, rfl, hb, hl, hm, hmm, hx, hi⟩
  · exact .inl h0
  · right
    have hlm : len ≤ m := by
      rw [hmm]
      split
      · exact hl
      · exact Nat.le_refl _
    have hex : ∀ i, i < len → ∃ e : Et, w.cell? (a.add (i * 3)) = some (.string e.path) ∧ w.cell? ((a.add (i * 3)).add 1) = some (.int .i64 e.node.kind) ∧ w.cell? ((a.add (i * 3)).add 2) = some (.string e.node.data) ∧ D i = dE e ∧ isInt e.node.kind ∧ e.path.size ≤ maxLen ∧ e.node.data.size ≤ maxLen := by
      intro i him
      obtain ⟨cs', hc, ht⟩ := hi i (by omega)
      rw [cellsE] at hc
      obtain ⟨e, h1, h2, h3, h4, h5, h6, h7⟩ := ent_open hc ht
      exact ⟨e, h1, h2, h3, congrArg Prod.fst h4, h5, h6, h7⟩
    have : Inhabited Et := ⟨⟨⟨#[]⟩, ⟨0, ⟨#[]⟩⟩⟩⟩
    obtain ⟨X, hX⟩ := Go.Deep.choose_lt hex
    have hget : ∀ k y, ((List.range len).map X)[k]? = some y → k < len ∧ y = X k := by
      intro k y hk
      have hk2 := (List.getElem?_eq_some_iff.1 hk).1
      simp at hk2
      rw [List.getElem?_map, List.getElem?_range hk2] at hk
      injection hk with hk
      exact ⟨hk2, hk.symm⟩
    refine ⟨a, len, cap, (List.range len).map X, (List.range (m - len)).map fun j => D (len + j), x.2, rfl, hl, hm, ?_, ⟨by simp, ?_⟩, ?_⟩
    · rw [hx]
      refine Prod.ext ?_ rfl
      show DataW.slice _ _ = DataW.slice _ _
      congr 1
      rw [List.map_map]
      refine List.map_congr_left (fun i hi' => ?_)
      exact (hX i (List.mem_range.1 hi')).2.2.2.1
    · by_cases h0 : len = 0
      · exact .inl h0
      · right
        obtain ⟨b, off, spot⟩ := a
        have hc0 := (hX 0 (by omega)).1
        rw [Nat.zero_mul] at hc0
        have hspot : spot = none := by simpa [Addr.add] using World.cell?_spot hc0
        subst hspot
        refine ⟨b, off, rfl, ?_, fun k y hk => ?_⟩
        · have := World.block_lt_of_cell? w _ hc0
          simpa [Addr.add] using this
        · obtain ⟨hk2, rfl⟩ := hget k y hk
          obtain ⟨h1, h2, h3, _⟩ := hX k hk2
          rw [add_plain] at h1 h2 h3
          rw [add_plain] at h2 h3
          exact ⟨h1, h2, h3⟩
    · intro e he
      obtain ⟨k, hk⟩ := List.getElem?_of_mem he
      obtain ⟨hk2, rfl⟩ := hget k e hk
      exact (hX k hk2).2.2.2.2
end Go.Proofs.Ythokkobmlhbfgaa.En
