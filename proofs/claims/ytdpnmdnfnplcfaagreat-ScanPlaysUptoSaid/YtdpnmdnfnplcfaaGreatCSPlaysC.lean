/-
  ScanPlays, of the landed code: behind every change of a disk, by any script, a walk and a scan with what was seen before tell the volume as it is; only files with a new stamp are read. Condition: the bound of the second form (the script and the volume's name hold at most 1048576 values and letters).
-/
import Derived.Test.YtdpnmdnfnplcfaaGreatT6
import Derived.ProofKit
import Derived.OpenShut
import Derived.ShutString
import Derived.Deep.Slices
import Derived.Deep.Fields
import Derived.ChangeSame
import Derived.Test.YtdpnmdnfnplcfaaGreatRows
import Derived.Deep.QuietTactic
import Derived.BigQuiet
import Derived.JoinedCond
import Derived.SizedLaws
import Derived.ChangeOld
import Derived.Deep.CondSized
namespace Go.Proofs.YtdpnmdnfnplcfaaGreat.Sc
open Go.ChangeMaps (open_string shut_string)
open Go.ChangeShapes Go.WideShapes Go.ChangeAt Go.RowKit Tx
set_option linter.unusedVariables false
structure Sp where
  k : Int
  p : ByteArray
  q : ByteArray
  n : Int
def dS {H : Type} (x : Sp) : DataW H := .agg [.lit (.int .i64 x.k), .lit (.string x.p.data.toList), .lit (.string x.q.data.toList), .lit (.int .i64 x.n)]
def int64 (k : Int) : Prop := -9223372036854775808 ≤ k ∧ k ≤ 9223372036854775807
theorem cells9 : Tryz.prog.cellsOf 9 = 1 := by kernel_rfl
theorem cells3 : Tryz.prog.cellsOf 3 = 1 := by kernel_rfl
theorem cellsS : Tryz.prog.cellsOf 31 = 4 := by kernel_rfl
theorem wf_int {k : Int} (h : (Lit.int .i64 k).wf = true) : int64 k := by
  unfold int64
  simpa [Lit.wf, IntKind.min, IntKind.max, IntKind.signed, IntKind.bits] using h
def Script (w : World) (a : Option Addr) (n : Nat) (l : List Sp) : Prop := l.length = n ∧ (n = 0 ∨ ∃ b off, a = some ⟨b, off, none⟩ ∧ b < w.heap.size ∧ ∀ k x, l[k]? = some x → w.cell? ⟨b, off + k * 4, none⟩ = some (.int .i64 x.k) ∧ w.cell? ⟨b, off + k * 4 + 1, none⟩ = some (.string x.p) ∧ w.cell? ⟨b, off + k * 4 + 1 + 1, none⟩ = some (.string x.q) ∧ w.cell? ⟨b, off + k * 4 + 1 + 1 + 1, none⟩ = some (.int .i64 x.n))
theorem step_open {H : Type} {enc : TypeId × Value → H} {w : World} {base : Nat} {spare : Nat → Bool} {held : Bool} {m : Nat} {c0 c1 c2 c3 : Value} {y : DataW H × List MemPlace} (h : DataW.trod enc Tryz.prog w base spare held m 31 [c0, c1, c2, c3] = some y) :
    ∃ x : Sp, c0 = .int .i64 x.k ∧ c1 = .string x.p ∧ c2 = .string x.q ∧ c3 = .int .i64 x.n ∧ y = (dS x, []) ∧ int64 x.k ∧ int64 x.n ∧ x.p.size ≤ maxLen ∧ x.q.size ≤ maxLen := by
  obtain ⟨ys, m2, _, hy, _, hyl, hf⟩ := DataW.trod_struct Tryz.underlying31 h
  have h0 := hf 0 _ rfl
  have h1 := hf 1 _ rfl
  have h2 := hf 2 _ rfl
  have h3 := hf 3 _ rfl
  match ys, hyl with
  | [y0, y1, y2, y3], _ =>
    have h0 : DataW.trod enc Tryz.prog w base spare held m2 3 (([c0, c1, c2, c3].drop 0).take (Tryz.prog.cellsOf 3)) = some y0 := h0
    have h1 : DataW.trod enc Tryz.prog w base spare held m2 9 (([c0, c1, c2, c3].drop 1).take (Tryz.prog.cellsOf 9)) = some y1 := h1
    have h2 : DataW.trod enc Tryz.prog w base spare held m2 9 (([c0, c1, c2, c3].drop 2).take (Tryz.prog.cellsOf 9)) = some y2 := h2
    have h3 : DataW.trod enc Tryz.prog w base spare held m2 3 (([c0, c1, c2, c3].drop 3).take (Tryz.prog.cellsOf 3)) = some y3 := h3
    rw [cells3] at h0 h3
    rw [cells9] at h1 h2
    obtain ⟨k, hk, hx0, hw⟩ := DataW.trod_int Tryz.underlying3 h0
    obtain ⟨p, hp, hx1, hl1⟩ := DataW.trod_string Tryz.underlying9 h1
    obtain ⟨q, hq, hx2, hl2⟩ := DataW.trod_string Tryz.underlying9 h2
    obtain ⟨n, hn, hx3, hw3⟩ := DataW.trod_int Tryz.underlying3 h3
    simp at hk hp hq hn
    refine ⟨⟨k, p, q, n⟩, hk, hp, hq, hn, ?_, wf_int hw, wf_int hw3, hl1, hl2⟩
    rw [hy, hx0, hx1, hx2, hx3]
    rfl
theorem step_at {H : Type} {enc : TypeId × Value → H} {w : World} {base : Nat} {spare : Nat → Bool} {held : Bool} {m : Nat} {a : Addr} {cs' : List Value} {y : DataW H × List MemPlace} (hc : w.cells? base a 4 = some cs') (h : DataW.trod enc Tryz.prog w base spare held m 31 cs' = some y) :
    ∃ x : Sp, w.cell? a = some (.int .i64 x.k) ∧ w.cell? (a.add 1) = some (.string x.p) ∧ w.cell? (a.add 2) = some (.string x.q) ∧ w.cell? (a.add 3) = some (.int .i64 x.n) ∧ y = (dS x, []) ∧ int64 x.k ∧ int64 x.n ∧ x.p.size ≤ maxLen ∧ x.q.size ≤ maxLen := by
  obtain ⟨_, hcl, hat⟩ := World.cells?_some hc
  match cs', hcl with
  | [c0, c1, c2, c3], _ =>
    obtain ⟨x, h0, h1, h2, h3, hy, hr⟩ := step_open h
    have a0 := hat 0 (by omega)
    have a1 := hat 1 (by omega)
    have a2 := hat 2 (by omega)
    have a3 := hat 3 (by omega)
    refine ⟨x, ?_, ?_, ?_, ?_, hy, hr⟩
    · have e : a.add 0 = a := by simp [Addr.add]
      rw [e] at a0
      rw [a0, h0]
      rfl
    · rw [a1, h1]; rfl
    · rw [a2, h2]; rfl
    · rw [a3, h3]; rfl
theorem open_steps {H : Type} {enc : TypeId × Value → H} {w : World} {base : Nat} {spare : Nat → Bool} {held : Bool} {fuel : Nat} {cs : List Value} {x : DataW H × List MemPlace} (h : DataW.trod enc Tryz.prog w base spare held fuel 22 cs = some x) :
    (cs = [.slice none 0 0] ∧ x = (.nil, [])) ∨ ∃ (a : Addr) (len cap : Nat) (l : List Sp) (rest : List (DataW H)) (pl : List MemPlace), cs = [.slice (some a) len cap] ∧ len ≤ cap ∧ cap ≤ maxLen ∧ x = (.slice (l.map dS) rest, pl) ∧ Script w (some a) len l ∧ ∀ e ∈ l, int64 e.k ∧ int64 e.n ∧ e.p.size ≤ maxLen ∧ e.q.size ≤ maxLen := by
  rcases Go.Deep.open_slice Tryz.underlying22 h with h0 | ⟨a, len, cap, m, n, D, Pl, rfl, hb, hl, hm, hmm, hx, hi⟩
  · exact .inl h0
  · right
    have hlm : len ≤ m := by
      rw [hmm]
      split
      · exact hl
      · exact Nat.le_refl _
    have hex : ∀ i, i < len → ∃ e : Sp, w.cell? (a.add (i * 4)) = some (.int .i64 e.k) ∧ w.cell? ((a.add (i * 4)).add 1) = some (.string e.p) ∧ w.cell? ((a.add (i * 4)).add 2) = some (.string e.q) ∧ w.cell? ((a.add (i * 4)).add 3) = some (.int .i64 e.n) ∧ D i = dS e ∧ int64 e.k ∧ int64 e.n ∧ e.p.size ≤ maxLen ∧ e.q.size ≤ maxLen := by
      intro i him
      obtain ⟨cs', hc, ht⟩ := hi i (by omega)
      rw [cellsS] at hc
      obtain ⟨e, h1, h2, h3, h4, h5, hr⟩ := step_at hc ht
      exact ⟨e, h1, h2, h3, h4, congrArg Prod.fst h5, hr⟩
    have : Inhabited Sp := ⟨⟨0, ⟨#[]⟩, ⟨#[]⟩, 0⟩⟩
    obtain ⟨X, hX⟩ := Go.Deep.choose_lt hex
    have hget : ∀ k y, ((List.range len).map X)[k]? = some y → k < len ∧ y = X k := by
      intro k y hk
      have hk2 := (List.getElem?_eq_some_iff.1 hk).1
      simp at hk2
      rw [List.getElem?_map, List.getElem?_range hk2] at hk
      injection hk with hk
      exact ⟨hk2, hk.symm⟩
    refine ⟨a, len, cap, (List.range len).map X, (List.range (m - len)).map fun j => D (len + j), x.2, rfl, hl, hm, ?_, ⟨by simp, ?_⟩, ?_⟩
    · rw [hx]
      refine Prod.ext ?_ rfl
      show DataW.slice _ _ = DataW.slice _ _
      congr 1
      rw [List.map_map]
      refine List.map_congr_left (fun i hi' => ?_)
      exact (hX i (List.mem_range.1 hi')).2.2.2.2.1
    · by_cases h0 : len = 0
      · exact .inl h0
      · right
        obtain ⟨b, off, spot⟩ := a
        have hc0 := (hX 0 (by omega)).1
        rw [Nat.zero_mul] at hc0
        have hspot : spot = none := by simpa [Addr.add] using World.cell?_spot hc0
        subst hspot
        refine ⟨b, off, rfl, ?_, fun k y hk => ?_⟩
        · have := World.block_lt_of_cell? w _ hc0
          simpa [Addr.add] using this
        · obtain ⟨hk2, rfl⟩ := hget k y hk
          obtain ⟨h1, h2, h3, h4, _⟩ := hX k hk2
          rw [add_plain] at h1 h2 h3 h4
          rw [add_plain] at h2 h3 h4
          exact ⟨h1, h2, h3, h4⟩
    · intro e he
      obtain ⟨k, hk⟩ := List.getElem?_of_mem he
      obtain ⟨hk2, rfl⟩ := hget k e hk
      exact (hX k hk2).2.2.2.2.2
theorem bulk_step {H : Type} (x : Sp) : Rows.uptoBulk (dS (H := H) x) = x.p.size + x.q.size + 5 := by
  have e : Rows.uptoBulk (dS (H := H) x) = 1 + ((x.p.data.toList.length + 1) + ((x.q.data.toList.length + 1) + (1 + 0))) + 1 := rfl
  rw [e, len_l, len_l]
  omega
theorem bulk_steps {H : Type} : ∀ l : List Sp, l.length ≤ Rows.uptoBulkAll (l.map (dS (H := H))) ∧ ∀ x ∈ l, x.p.size ≤ Rows.uptoBulkAll (l.map (dS (H := H))) ∧ x.q.size ≤ Rows.uptoBulkAll (l.map (dS (H := H)))
  | [] => ⟨Nat.zero_le _, fun x hx => by cases hx⟩
  | y :: l => by
    obtain ⟨h1, h2⟩ := bulk_steps (H := H) l
    have e : Rows.uptoBulkAll ((y :: l).map (dS (H := H))) = Rows.uptoBulk (dS (H := H) y) + Rows.uptoBulkAll (l.map (dS (H := H))) := rfl
    rw [e, bulk_step]
    refine ⟨by rw [List.length_cons]; omega, fun x hx => ?_⟩
    rcases List.mem_cons.1 hx with rfl | hx
    · exact ⟨by omega, by omega⟩
    · obtain ⟨a, b⟩ := h2 x hx
      exact ⟨by omega, by omega⟩
theorem arg_steps {H : Type} {enc : TypeId × Value → H} {w : World} {base : Nat} {spare : Nat → Bool} {held : Bool} {a : Option Addr} {n c : Nat} {d : DataW H} {p : List MemPlace} (h : DataW.Trod enc Tryz.prog w base spare held 22 (.slice a n c) d p) :
    ∃ l : List Sp, Script w a n l ∧ (∀ e ∈ l, int64 e.k ∧ int64 e.n) ∧ n ≤ Rows.uptoBulk d ∧ ∀ e ∈ l, e.p.size ≤ Rows.uptoBulk d ∧ e.q.size ≤ Rows.uptoBulk d := by
  obtain ⟨fuel, hf⟩ := h
  rcases open_steps hf with ⟨hcs, _⟩ | ⟨x, len, cap, l, rest, pl, hcs, _, _, hx, he, hall⟩
  · simp [Value.cells] at hcs
    obtain ⟨rfl, rfl, rfl⟩ := hcs
    exact ⟨[], ⟨rfl, .inl rfl⟩, (fun e he => by cases he), Nat.zero_le _, (fun e he => by cases he)⟩
  · simp [Value.cells] at hcs
    obtain ⟨rfl, rfl, rfl⟩ := hcs
    have hd : d = .slice (l.map dS) rest := congrArg Prod.fst hx
    have e : Rows.uptoBulk d = Rows.uptoBulkAll (l.map (dS (H := H))) + Rows.uptoBulkAll rest + 1 := by rw [hd]; rfl
    obtain ⟨h1, h2⟩ := bulk_steps (H := H) l
    rw [he.1] at h1
    refine ⟨l, he, (fun e he => ⟨(hall e he).1, (hall e he).2.1⟩), by omega, fun y hy => ?_⟩
    obtain ⟨h3, h4⟩ := h2 y hy
    exact ⟨by omega, by omega⟩
end Go.Proofs.YtdpnmdnfnplcfaaGreat.Sc

namespace Go.Proofs.YtdpnmdnfnplcfaaGreat.Ea
open Go.RowKit Tx En Ap
set_option linter.unusedVariables false
def wasE (j : Nat) : Et := ⟨⟨#[]⟩, ⟨1000 + (j : Int), ⟨#[]⟩⟩⟩
def newE (j : Nat) : Et := ⟨⟨#[]⟩, ⟨2000 + (j : Int), ⟨#[]⟩⟩⟩
structure Ls where
  m : Nat
  A : Nat → Option Addr
  N : Nat → Nat
  C : Nat → Nat
  bo : Nat
  B : Nat
namespace Ls
variable (L : Ls)
def val (j : Nat) : Value := .slice (L.A j) (L.N j) (L.C j)
def cells (w : World) : Prop := ∀ j, j < L.m → w.cell? ⟨L.bo, j, none⟩ = some (.slice (L.A j) (L.N j) (L.C j))
def far : Prop := (∀ i j, i < L.m → j < L.m → i ≠ j → ∀ x, L.A i = some x → L.A j ≠ some x) ∧ ∀ j, j < L.m → ∀ g, L.A j = some ⟨g, 0, none⟩ → g ≠ L.bo
def marked (w : World) (i k : Nat) : Prop := ∀ j, j < L.m → ∃ xs : List Et, w.ownsRow L.B 54 3 (.slice (L.A j) (L.N j) (L.C j)) (L.N j) (xs.flatMap En.cells) ∧ ∀ l, l < L.N j → (j < i ∨ j = i ∧ l < k) → xs[l]? = some (wasE j)
end Ls
theorem marked_next {L : Ls} {w : World} {i : Nat} (h : L.marked w i (L.N i)) : L.marked w (i + 1) 0 := by
  intro j hj
  obtain ⟨xs, h1, h2⟩ := h j hj
  refine ⟨xs, h1, fun l hl hh => h2 l hl ?_⟩
  rcases hh with hh | ⟨_, hh⟩
  · by_cases e : j = i
    · subst e; exact .inr ⟨rfl, hl⟩
    · exact .inl (by omega)
  · omega
theorem addr_eq {A : Option Addr} {n c : Nat} {w : World} {B size : Nat} {e : TypeId} {xs : List Value} (h : w.ownsRow B e size (.slice A n c) n xs) (hn : 0 < n) : ∃ g, A = some ⟨g, 0, none⟩ ∧ B ≤ g := by
  obtain ⟨g, cap, hv, hg, _⟩ := h.form hn
  injection hv with ha
  exact ⟨g, ha, hg⟩
def put3 (w : World) (g k : Nat) (x : Et) : World := ((w.setCell ⟨g, k * 3, none⟩ (.string x.path)).setCell ⟨g, k * 3 + 1, none⟩ (.int .i64 x.node.kind)).setCell ⟨g, k * 3 + 1 + 1, none⟩ (.string x.node.data)
theorem marked_store {L : Ls} {w : World} {i k g : Nat} (hf : L.far) (h : L.marked w i k) (hi : i < L.m) (hk : k < L.N i) (ha : L.A i = some ⟨g, 0, none⟩) : L.marked (put3 w g k (wasE i)) i (k + 1) := by
  intro j hj
  obtain ⟨xs, h1, h2⟩ := h j hj
  have hxl : xs.length = L.N j := by have := h1.1; rw [flat_len] at this; omega
  by_cases e : j = i
  · subst e
    rw [ha] at h1 ⊢
    have hl2 : k < xs.length := by omega
    refine ⟨xs.set k (wasE j), own_store h1 hl2 _, fun l hl hh => ?_⟩
    by_cases e2 : l = k
    · subst e2
      exact List.getElem?_set_self hl2
    · rw [List.getElem?_set_ne (fun e => e2 e.symm)]
      exact h2 l hl (.inr ⟨rfl, by rcases hh with hh | ⟨_, hh⟩ <;> omega⟩)
  · have hb : (Value.slice (L.A j) (L.N j) (L.C j)).ownBlock ≠ some g := by
      intro hb
      cases hA : L.A j with
      | none => rw [hA] at hb; simp [Value.ownBlock] at hb
      | some x =>
        by_cases h0 : L.N j = 0
        · rcases h1.2 with ⟨hv, _⟩ | ⟨g', cap', cur, hv, _⟩
          · rw [hA] at hv; cases hv
          · rw [hA] at hv hb
            injection hv with hx
            injection hx with hx
            subst hx
            simp only [Value.ownBlock, Option.some.injEq] at hb
            subst hb
            exact hf.1 j i hj hi e _ hA ha
        · obtain ⟨g', ha', _⟩ := addr_eq h1 (by omega)
          rw [hA] at ha' hb
          injection ha' with hx
          subst hx
          simp only [Value.ownBlock, Option.some.injEq] at hb
          subst hb
          exact hf.1 j i hj hi e _ hA ha
    refine ⟨xs, own_far (own_far (own_far h1 hb _) hb _) hb _, fun l hl hh => h2 l hl ?_⟩
    rcases hh with hh | ⟨hh, _⟩
    · exact .inl hh
    · exact absurd hh e
theorem cells_store {L : Ls} {w : World} {i k g : Nat} (hf : L.far) (h : L.cells w) (hi : i < L.m) (ha : L.A i = some ⟨g, 0, none⟩) (x : Et) : L.cells (put3 w g k x) := by
  intro j hj
  have hne := hf.2 i hi g ha
  unfold put3
  rw [World.cell?_setCell_other _ _ _ _ (fun e => hne (by injection e)), World.cell?_setCell_other _ _ _ _ (fun e => hne (by injection e)), World.cell?_setCell_other _ _ _ _ (fun e => hne (by injection e))]
  exact h j hj
def sw (j : Nat) : Value := .int .i64 (1000 + (j : Int))
def row (L : Ls) (j k : Nat) : List Et := List.replicate (L.N j) (wasE j) ++ List.replicate k (newE j)
theorem row_was {L : Ls} {j k l : Nat} (h : l < L.N j) : (row L j k)[l]? = some (wasE j) := by
  rw [row, List.getElem?_append_left (by simpa using h), List.getElem?_replicate, if_pos h]
theorem row_new {L : Ls} {j k l : Nat} (h : ¬ l < L.N j) (h2 : l < L.N j + k) : (row L j k)[l]? = some (newE j) := by
  rw [row, List.getElem?_append_right (by simp; omega), List.length_replicate, List.getElem?_replicate, if_pos (by omega)]
theorem row_zero (L : Ls) (j : Nat) : row L j 0 = List.replicate (L.N j) (wasE j) := by simp [row]
theorem row_step (L : Ls) (j k : Nat) : row L j k ++ [newE j] = row L j (k + 1) := by
  rw [row, row, List.append_assoc, List.replicate_succ']
theorem own_kind {w : World} {base g n cap : Nat} {xs : List Et} (h : w.ownsRow base 54 3 (.slice (some ⟨g, 0, none⟩) n cap) n (xs.flatMap En.cells)) {l : Nat} {x : Et} (hl : xs[l]? = some x) : w.cell? ⟨g, l * 3 + 1, none⟩ = some (.int .i64 x.node.kind) :=
  own_cell h (flat_at xs l x 1 hl (by omega))
structure Bw (B : Nat) (w w' : World) : Prop where
  below : Below B w w'
  other : ∀ (g : Nat) (cs : Array Value) (ty : TypeId) (fr : Nat × Nat), ty ≠ 54 → ty ≠ 32 → w.heap[g]? = some (Obj.cells cs ty fr) → w'.heap[g]? = some (Obj.cells cs ty fr)
theorem Bw.refl (B : Nat) (w : World) : Bw B w w := ⟨Below.refl _ _, fun _ _ _ _ _ _ h => h⟩
theorem Bw.grownOwn {B B2 size n : Nat} {e : TypeId} {a w w1 : World} {v : Value} {xs : List Value} {o : Obj} (h : Bw B a w) (hB : B ≤ w.heap.size) (ho : w.ownsRow B2 e size v n xs) (he : e = 54 ∨ e = 32) (hg : (w.alloc o).grownBy w1 v.ownBlock) (hBB : B ≤ B2) : Bw B a w1 := by
  refine ⟨(h.below.alloc hB o).grown hg (by rw [World.size_alloc]; omega) (fun q hq => Nat.le_trans hBB (ho.lt q hq).1), fun g cs ty fr n1 n2 x => ?_⟩
  have x2 := h.other g cs ty fr n1 n2 x
  have hlt := (Array.getElem?_eq_some_iff.1 x2).1
  refine (hg.block g (by rw [World.size_alloc]; omega) (fun e2 => ?_)).trans ((Below.heap_alloc w o g hlt).trans x2)
  rcases ho.2 with ⟨rfl, _⟩ | ⟨g1, cap, cur1, rfl, _, hh, _⟩
  · cases e2
  · obtain rfl : g = g1 := by simpa [Value.ownBlock] using e2
    rw [hh] at x2
    injection x2 with x2
    injection x2 with _ x2 _
    rcases he with he | he
    · exact n1 (x2.symm.trans he)
    · exact n2 (x2.symm.trans he)
theorem Bw.grownNone {B : Nat} {a w w1 : World} {o : Obj} (h : Bw B a w) (hB : B ≤ w.heap.size) (hg : (w.alloc o).grownBy w1 none) : Bw B a w1 := by
  refine ⟨(h.below.alloc hB o).grown hg (by rw [World.size_alloc]; omega) (fun q hq => by cases hq), fun g cs ty fr n1 n2 x => ?_⟩
  have x2 := h.other g cs ty fr n1 n2 x
  have hlt := (Array.getElem?_eq_some_iff.1 x2).1
  exact (hg.block g (by rw [World.size_alloc]; omega) (by simp)).trans ((Below.heap_alloc w o g hlt).trans x2)
theorem Bw.set {B B2 size n g c : Nat} {e : TypeId} {a w : World} {xs : List Value} (h : Bw B a w) (ho : w.ownsRow B2 e size (.slice (some ⟨g, 0, none⟩) n c) n xs) (he : e = 54 ∨ e = 32) (hB : B ≤ g) (k : Nat) (u : Value) : Bw B a (w.setCell ⟨g, k, none⟩ u) := by
  refine ⟨h.below.setCell (p := ⟨g, _, none⟩) hB _, fun q cs ty fr n1 n2 x => ?_⟩
  have x2 := h.other q cs ty fr n1 n2 x
  refine (Below.heap_setCell _ _ _ _ (fun e2 => ?_)).trans x2
  have e3 : q = g := e2
  subst e3
  rcases ho.2 with ⟨h0, _⟩ | ⟨g1, cap, cur1, hv, _, hh, _⟩
  · cases h0
  · injection hv with hv
    injection hv with hv
    injection hv with hv
    subst hv
    rw [hh] at x2
    injection x2 with x2
    injection x2 with _ x2 _
    rcases he with he | he
    · exact n1 (x2.symm.trans he)
    · exact n2 (x2.symm.trans he)
theorem own_same {w w1 : World} {base n size : Nat} {e : TypeId} {v : Value} {xs : List Value} (h : w.ownsRow base e size v n xs) (hk : ∀ q, q < w.heap.size → v.ownBlock = some q → w1.heap[q]? = w.heap[q]?) : w1.ownsRow base e size v n xs := by
  refine ⟨h.1, ?_⟩
  rcases h.2 with h0 | ⟨g, cap, cur, rfl, hb, hh, r⟩
  · exact .inl h0
  · exact .inr ⟨g, cap, cur, rfl, hb, (hk g (Array.getElem?_eq_some_iff.1 hh).1 rfl).trans hh, r⟩
theorem own_lt {w : World} {base n size : Nat} {e : TypeId} {v : Value} {xs : List Value} (h : w.ownsRow base e size v n xs) {g : Nat} (hg : v.ownBlock = some g) : base ≤ g ∧ g < w.heap.size := h.lt g hg
theorem cell_same {w w1 : World} {g k : Nat} {u : Value} (h : w.cell? ⟨g, k, none⟩ = some u) (hk : w1.heap[g]? = w.heap[g]?) : w1.cell? ⟨g, k, none⟩ = some u := (World.cell?_of_block (a := ⟨g, k, none⟩) hk).trans h
structure Inv (L : Ls) (w0 : World) (H i r : Nat) (w : World) (v6 : Value) (vs : List Value) (b c : Nat → Nat) : Prop where
  cells : L.cells w
  held : ∀ j, j < L.m → ∀ l, l < L.N j → ∃ g, L.A j = some ⟨g, 0, none⟩ ∧ w.cell? ⟨g, l * 3 + 1, none⟩ = some (sw j)
  rows : ∀ j, r ≤ j → j < L.m → w.ownsRow L.B 54 3 (.slice (L.A j) (L.N j) (L.C j)) (L.N j) ((row L j 0).flatMap En.cells)
  outer : w.ownsRow L.B 32 1 v6 i vs
  high : ∀ g, v6.ownBlock = some g → H ≤ g
  long : ∀ j, j < i → vs[j]? = some (.slice (some ⟨b j, 0, none⟩) (L.N j + 20) (c j)) ∧ w.ownsRow L.B 54 3 (.slice (some ⟨b j, 0, none⟩) (L.N j + 20) (c j)) (L.N j + 20) ((row L j 20).flatMap En.cells) ∧ (L.A j = some ⟨b j, 0, none⟩ ∨ H ≤ b j)
  apart : ∀ j k, j < i → k < i → j ≠ k → b j ≠ b k
  low : ∀ j, j < L.m → ∀ g, L.A j = some ⟨g, 0, none⟩ → g < H
  bo : L.bo < H
  size : H ≤ w.heap.size
  below : Bw L.B w0 w
  base : L.B ≤ H
structure Cur (L : Ls) (H i k : Nat) (w : World) (v : Value) (b : Nat → Nat) : Prop where
  own : w.ownsRow L.B 54 3 v (L.N i + k) ((row L i k).flatMap En.cells)
  at_ : ∀ g, v.ownBlock = some g → (L.A i = some ⟨g, 0, none⟩ ∨ H ≤ g) ∧ ∀ j, j < i → b j ≠ g
theorem inv_start {L : Ls} {w0 w : World} (hf : L.far) (hc : L.cells w) (hm : L.marked w L.m 0) (hbo : L.bo < w.heap.size) (hB : L.B ≤ w.heap.size) (hb : Bw L.B w0 w) : Inv L w0 w.heap.size 0 0 w (.slice none 0 0) [] (fun _ => 0) (fun _ => 0) := by
  have hrow : ∀ j, j < L.m → w.ownsRow L.B 54 3 (.slice (L.A j) (L.N j) (L.C j)) (L.N j) ((row L j 0).flatMap En.cells) := by
    intro j hj
    obtain ⟨xs, h1, h2⟩ := hm j hj
    have e : xs = row L j 0 := by
      rw [row_zero]
      apply List.ext_getElem?
      intro l
      rw [List.getElem?_replicate]
      have hxl : xs.length = L.N j := by have := h1.1; rw [flat_len] at this; omega
      by_cases hl : l < L.N j
      · rw [if_pos hl]; exact h2 l hl (.inl hj)
      · rw [if_neg hl, List.getElem?_eq_none (by omega)]
    rw [← e]
    exact h1
  refine ⟨hc, ?_, fun j _ hj => hrow j hj, World.ownsRow_nil _ _ _ _, fun g hg => by simp [Value.ownBlock] at hg, fun j hj => absurd hj (by omega), fun j k hj => absurd hj (by omega), ?_, hbo, Nat.le_refl _, hb, hB⟩
  · intro j hj l hl
    have h1 := hrow j hj
    obtain ⟨g, ha, _⟩ := addr_eq h1 (by omega)
    rw [ha] at h1
    exact ⟨g, ha, own_kind h1 (row_was hl)⟩
  · intro j hj g ha
    have h1 := hrow j hj
    rw [ha] at h1
    exact (own_lt h1 rfl).2
theorem cur_start {L : Ls} {w0 w : World} {H i r : Nat} {v6 : Value} {vs : List Value} {b c : Nat → Nat} (hf : L.far) (h : Inv L w0 H i r w v6 vs b c) (hr : r ≤ i) (hi : i < L.m) : Cur L H i 0 w (.slice (L.A i) (L.N i) (L.C i)) b := by
  have h1 := h.rows i hr hi
  refine ⟨h1, fun g hg => ?_⟩
  have ha : L.A i = some ⟨g, 0, none⟩ := by
    rcases h1.2 with ⟨hv, _⟩ | ⟨g', cap', cur, hv, _⟩
    · rw [hv] at hg; simp [Value.ownBlock] at hg
    · rw [hv] at hg
      simp only [Value.ownBlock, Option.some.injEq] at hg
      subst hg
      injection hv
  refine ⟨.inl ha, fun j hj e => ?_⟩
  rcases (h.long j hj).2.2 with h2 | h2
  · rw [e] at h2
    exact hf.1 j i (by omega) hi (by omega) _ h2 ha
  · have := h.low i hi g ha
    omega
theorem cur_step {L : Ls} {w0 w w1 : World} {H i k r : Nat} {v v1 v6 : Value} {vs : List Value} {b c : Nat → Nat} {o : Obj} (hf : L.far) (h : Inv L w0 H i r w v6 vs b c) (hi : i < L.m) (hc : Cur L H i k w v b)
    (hown : w1.ownsRow L.B 54 3 v1 (L.N i + k + 1) ((row L i k).flatMap En.cells ++ En.cells (newE i)))
    (hg : (v1.ownBlock = v.ownBlock ∧ (w.alloc o).grownBy w1 v.ownBlock) ∨ (v1.ownBlock = some (w.heap.size + 1) ∧ (w.alloc o).grownBy w1 none)) :
    (∀ q, q < w.heap.size → (∀ g, v.ownBlock = some g → q ≠ g) → w1.heap[q]? = w.heap[q]?) ∧ Cur L H i (k + 1) w1 v1 b ∧ w.heap.size ≤ w1.heap.size ∧ Bw L.B w0 w1 ∧
      (∀ q, L.A i = some ⟨q, 0, none⟩ → ∀ l, l < L.N i → w1.cell? ⟨q, l * 3 + 1, none⟩ = some (sw i)) := by
  have hB : L.B ≤ w.heap.size := Nat.le_trans h.base h.size
  have hal : w.heap.size + 1 = (w.alloc o).heap.size := (World.size_alloc _ _).symm
  have hk : ∀ q, q < w.heap.size → (∀ g, v.ownBlock = some g → q ≠ g) → w1.heap[q]? = w.heap[q]? := by
    intro q hq hne
    rcases hg with ⟨_, hg⟩ | ⟨_, hg⟩
    · exact (hg.block q (by omega) (fun e => hne q e.symm rfl)).trans (Below.heap_alloc w o q hq)
    · exact (hg.block q (by omega) (by simp)).trans (Below.heap_alloc w o q hq)
  have hown2 : w1.ownsRow L.B 54 3 v1 (L.N i + (k + 1)) ((row L i (k + 1)).flatMap En.cells) := by
    rw [← row_step, List.flatMap_append, List.flatMap_cons, List.flatMap_nil, List.append_nil]
    exact hown
  have hsz : w.heap.size ≤ w1.heap.size := by
    rcases hg with ⟨_, hg⟩ | ⟨_, hg⟩
    · have := hg.size; omega
    · have := hg.size; omega
  have hbel : Bw L.B w0 w1 := by
    rcases hg with ⟨_, hg⟩ | ⟨_, hg⟩
    · exact h.below.grownOwn hB hc.own (.inl rfl) hg (Nat.le_refl _)
    · exact h.below.grownNone hB hg
  refine ⟨hk, ⟨hown2, fun g hg1 => ?_⟩, hsz, hbel, fun q hq l hl => ?_⟩
  · rcases hg with ⟨he, _⟩ | ⟨he, _⟩
    · exact hc.at_ g (by rw [← he]; exact hg1)
    · rw [he] at hg1
      injection hg1 with hg1
      have hs := h.size
      refine ⟨.inr (by omega), fun j hj e => ?_⟩
      have h9 : b j < w.heap.size := (own_lt (h.long j hj).2.1 rfl).2
      omega
  · by_cases hv : v.ownBlock = some q
    · rcases hg with ⟨he, _⟩ | ⟨_, hg⟩
      · obtain ⟨g', cap', hv', _, _⟩ := hown2.form (by omega)
        rw [hv'] at he hown2
        rw [hv] at he
        simp only [Value.ownBlock, Option.some.injEq] at he
        subst he
        exact own_kind hown2 (row_was hl)
      · obtain ⟨g', hA, hcell⟩ := h.held i hi l hl
        rw [hq] at hA
        injection hA with hA
        injection hA with hA
        subst hA
        have hq' := World.block_lt_of_cell? w _ hcell
        exact cell_same hcell ((hg.block q (by have : q < w.heap.size := hq'; omega) (by simp)).trans (Below.heap_alloc w o q hq'))
    · obtain ⟨g', hA, hcell⟩ := h.held i hi l hl
      rw [hq] at hA
      injection hA with hA
      injection hA with hA
      subst hA
      exact cell_same hcell (hk q (World.block_lt_of_cell? w _ hcell) (fun g hg e => hv (by rw [hg, e])))
theorem inv_step {L : Ls} {w0 w w1 : World} {H i k r : Nat} {v v6 : Value} {vs : List Value} {b c : Nat → Nat} (hf : L.far) (h : Inv L w0 H i r w v6 vs b c) (hi : i < L.m) (hc : Cur L H i k w v b) (rowsi : ∀ j, i < j → j < L.m → w.ownsRow L.B 54 3 (.slice (L.A j) (L.N j) (L.C j)) (L.N j) ((row L j 0).flatMap En.cells))
    (hk : ∀ q, q < w.heap.size → (∀ g, v.ownBlock = some g → q ≠ g) → w1.heap[q]? = w.heap[q]?) (hsz : w.heap.size ≤ w1.heap.size) (hbel : Bw L.B w0 w1)
    (hi1 : ∀ q, L.A i = some ⟨q, 0, none⟩ → ∀ l, l < L.N i → w1.cell? ⟨q, l * 3 + 1, none⟩ = some (sw i)) :
    L.cells w1 ∧ (∀ j, j < L.m → ∀ l, l < L.N j → ∃ g, L.A j = some ⟨g, 0, none⟩ ∧ w1.cell? ⟨g, l * 3 + 1, none⟩ = some (sw j)) ∧
      (∀ j, i < j → j < L.m → w1.ownsRow L.B 54 3 (.slice (L.A j) (L.N j) (L.C j)) (L.N j) ((row L j 0).flatMap En.cells)) ∧ w1.ownsRow L.B 32 1 v6 i vs ∧
      (∀ j, j < i → vs[j]? = some (.slice (some ⟨b j, 0, none⟩) (L.N j + 20) (c j)) ∧ w1.ownsRow L.B 54 3 (.slice (some ⟨b j, 0, none⟩) (L.N j + 20) (c j)) (L.N j + 20) ((row L j 20).flatMap En.cells) ∧ (L.A j = some ⟨b j, 0, none⟩ ∨ H ≤ b j)) := by
  have hs := h.size
  have hbo := h.bo
  refine ⟨fun j hj => ?_, fun j hj l hl => ?_, fun j hij hj => ?_, ?_, fun j hj => ?_⟩
  · refine cell_same (h.cells j hj) (hk L.bo (by omega) (fun g hg e => ?_))
    subst e
    rcases (hc.at_ _ hg).1 with ha | ha
    · exact hf.2 i hi _ ha rfl
    · omega
  · by_cases e : j = i
    · subst e
      obtain ⟨g, ha, _⟩ := h.held j hj l hl
      exact ⟨g, ha, hi1 g ha l hl⟩
    · obtain ⟨g, ha, hcell⟩ := h.held j hj l hl
      refine ⟨g, ha, cell_same hcell (hk g (World.block_lt_of_cell? w _ hcell) (fun q hq e2 => ?_))⟩
      subst e2
      rcases (hc.at_ _ hq).1 with h2 | h2
      · exact hf.1 j i hj hi e _ ha h2
      · have := h.low j hj _ ha
        omega
  · have h1 := rowsi j hij hj
    refine own_same h1 (fun q hq hv => hk q hq (fun g hg e => ?_))
    subst e
    have ha : L.A j = some ⟨q, 0, none⟩ := by
      rcases h1.2 with ⟨hv2, _⟩ | ⟨g', cap', cur, hv2, _⟩
      · rw [hv2] at hv; simp [Value.ownBlock] at hv
      · rw [hv2] at hv
        simp only [Value.ownBlock, Option.some.injEq] at hv
        subst hv
        injection hv2
    rcases (hc.at_ _ hg).1 with h2 | h2
    · exact hf.1 j i hj hi (by omega) _ ha h2
    · have := h.low j hj _ ha
      omega
  · exact own_same h.outer (fun q hq hv => hk q hq (fun g hg e => by
      subst e
      exact types_ne hc.own h.outer (by decide) hg hv))
  · obtain ⟨h1, h2, h3⟩ := h.long j hj
    refine ⟨h1, own_same h2 (fun q hq hv => hk q hq (fun g hg e => ?_)), h3⟩
    simp only [Value.ownBlock, Option.some.injEq] at hv
    subst hv
    exact (hc.at_ g hg).2 j hj e
theorem inv_next {L : Ls} {w0 w w1 : World} {H i bv cv r : Nat} {v6 v7 : Value} {vs : List Value} {b c : Nat → Nat} {o : Obj} (hf : L.far) (h : Inv L w0 H i r w v6 vs b c) (hi : i < L.m) (hc : Cur L H i 20 w (.slice (some ⟨bv, 0, none⟩) (L.N i + 20) cv) b)
    (rowsi : ∀ j, i < j → j < L.m → w.ownsRow L.B 54 3 (.slice (L.A j) (L.N j) (L.C j)) (L.N j) ((row L j 0).flatMap En.cells))
    (hown : w1.ownsRow L.B 32 1 v7 (i + 1) (vs ++ [.slice (some ⟨bv, 0, none⟩) (L.N i + 20) cv]))
    (hg : (v7.ownBlock = v6.ownBlock ∧ (w.alloc o).grownBy w1 v6.ownBlock) ∨ (v7.ownBlock = some (w.heap.size + 1) ∧ (w.alloc o).grownBy w1 none)) :
    Inv L w0 H (i + 1) (i + 1) w1 v7 (vs ++ [.slice (some ⟨bv, 0, none⟩) (L.N i + 20) cv]) (fun j => if j = i then bv else b j) (fun j => if j = i then cv else c j) := by
  have hB : L.B ≤ w.heap.size := Nat.le_trans h.base h.size
  have hal : w.heap.size + 1 = (w.alloc o).heap.size := (World.size_alloc _ _).symm
  have hs := h.size
  have hbo := h.bo
  have hvl : vs.length = i := by have := h.outer.1; omega
  have hk : ∀ q, q < w.heap.size → (∀ g, v6.ownBlock = some g → q ≠ g) → w1.heap[q]? = w.heap[q]? := by
    intro q hq hne
    rcases hg with ⟨_, hg⟩ | ⟨_, hg⟩
    · exact (hg.block q (by omega) (fun e => hne q e.symm rfl)).trans (Below.heap_alloc w o q hq)
    · exact (hg.block q (by omega) (by simp)).trans (Below.heap_alloc w o q hq)
  have hsz : w.heap.size ≤ w1.heap.size := by
    rcases hg with ⟨_, hg⟩ | ⟨_, hg⟩
    · have := hg.size; omega
    · have := hg.size; omega
  have hbel : Bw L.B w0 w1 := by
    rcases hg with ⟨_, hg⟩ | ⟨_, hg⟩
    · exact h.below.grownOwn hB h.outer (.inr rfl) hg (Nat.le_refl _)
    · exact h.below.grownNone hB hg
  have hrow : ∀ {n : Nat} {v : Value} {xs : List Value}, w.ownsRow L.B 54 3 v n xs → w1.ownsRow L.B 54 3 v n xs := by
    intro n v xs h1
    exact own_same h1 (fun q hq hv => hk q hq (fun g hg e => by
      subst e
      exact types_ne h1 h.outer (by decide) hv hg))
  refine ⟨fun j hj => ?_, fun j hj l hl => ?_, fun j hij hj => hrow (rowsi j (by omega) hj), hown, fun g hg7 => ?_, fun j hj => ?_, fun j k hj hk2 hne => ?_, h.low, hbo, by omega, hbel, h.base⟩
  · refine cell_same (h.cells j hj) (hk L.bo (by omega) (fun g hg e => ?_))
    have := h.high g hg
    omega
  · obtain ⟨g, ha, hcell⟩ := h.held j hj l hl
    refine ⟨g, ha, cell_same hcell (hk g (World.block_lt_of_cell? w _ hcell) (fun q hq e2 => ?_))⟩
    have h1 := h.high q hq
    have h2 := h.low j hj g ha
    omega
  · rcases hg with ⟨he, _⟩ | ⟨he, _⟩
    · exact h.high g (by rw [← he]; exact hg7)
    · rw [he] at hg7
      injection hg7 with hg7
      omega
  · by_cases e : j = i
    · subst e
      rw [if_pos rfl, if_pos rfl]
      refine ⟨?_, hrow hc.own, (hc.at_ bv rfl).1⟩
      rw [List.getElem?_append_right (by omega), hvl, Nat.sub_self]
      rfl
    · rw [if_neg e, if_neg e]
      obtain ⟨h1, h2, h3⟩ := h.long j (by omega)
      refine ⟨?_, hrow h2, h3⟩
      rw [List.getElem?_append_left (by omega)]
      exact h1
  · by_cases e : j = i
    · by_cases e2 : k = i
      · omega
      · rw [if_pos e, if_neg e2]
        exact fun hh => (hc.at_ bv rfl).2 k (by omega) hh.symm
    · by_cases e2 : k = i
      · rw [if_neg e, if_pos e2]
        exact fun hh => (hc.at_ bv rfl).2 j (by omega) hh
      · rw [if_neg e, if_neg e2]
        exact h.apart j k (by omega) (by omega) hne
theorem both_step {L : Ls} {w0 w w1 : World} {H i k r : Nat} {v v1 v6 : Value} {vs : List Value} {b c : Nat → Nat} {o : Obj} (hf : L.far) (h : Inv L w0 H i r w v6 vs b c) (hr : r ≤ i + 1) (hi : i < L.m) (hc : Cur L H i k w v b)
    (hown : w1.ownsRow L.B 54 3 v1 (L.N i + k + 1) ((row L i k).flatMap En.cells ++ En.cells (newE i)))
    (hg : (v1.ownBlock = v.ownBlock ∧ (w.alloc o).grownBy w1 v.ownBlock) ∨ (v1.ownBlock = some (w.heap.size + 1) ∧ (w.alloc o).grownBy w1 none)) :
    Inv L w0 H i (i + 1) w1 v6 vs b c ∧ Cur L H i (k + 1) w1 v1 b := by
  obtain ⟨hk, hc1, hsz, hbel, hi1⟩ := cur_step hf h hi hc hown hg
  have rowsi := fun j (hij : i < j) (hj : j < L.m) => h.rows j (by omega) hj
  obtain ⟨a1, a2, a3, a4, a5⟩ := inv_step hf h hi hc rowsi hk hsz hbel hi1
  exact ⟨⟨a1, a2, fun j hij hj => a3 j (by omega) hj, a4, h.high, a5, h.apart, h.low, h.bo, Nat.le_trans h.size hsz, hbel, h.base⟩, hc1⟩
theorem outer_next {L : Ls} {w0 w w1 : World} {H i bv cv r : Nat} {v6 v7 : Value} {vs : List Value} {b c : Nat → Nat} {o : Obj} (hf : L.far) (h : Inv L w0 H i r w v6 vs b c) (hr : r ≤ i + 1) (hi : i < L.m) (hc : Cur L H i 20 w (.slice (some ⟨bv, 0, none⟩) (L.N i + 20) cv) b)
    (hown : w1.ownsRow L.B 32 1 v7 (i + 1) (vs ++ [.slice (some ⟨bv, 0, none⟩) (L.N i + 20) cv]))
    (hg : (v7.ownBlock = v6.ownBlock ∧ (w.alloc o).grownBy w1 v6.ownBlock) ∨ (v7.ownBlock = some (w.heap.size + 1) ∧ (w.alloc o).grownBy w1 none)) :
    ∃ b2 c2, Inv L w0 H (i + 1) (i + 1) w1 v7 (vs ++ [.slice (some ⟨bv, 0, none⟩) (L.N i + 20) cv]) b2 c2 :=
  ⟨_, _, inv_next hf h hi hc (fun j hij hj => h.rows j (by omega) hj) hown hg⟩
theorem inv_more {L : Ls} {w0 w : World} {H i r : Nat} {v6 : Value} {vs : List Value} {b c : Nat → Nat} (h : Inv L w0 H i r w v6 vs b c) (hr : r ≤ i + 1) : Inv L w0 H i (i + 1) w v6 vs b c :=
  ⟨h.cells, h.held, fun j hij hj => h.rows j (by omega) hj, h.outer, h.high, h.long, h.apart, h.low, h.bo, h.size, h.below, h.base⟩
end Go.Proofs.YtdpnmdnfnplcfaaGreat.Ea

namespace Go.Proofs.YtdpnmdnfnplcfaaGreat.Ea
open Go.RowKit Tx En Ap
set_option linter.unusedVariables false
theorem infoL : (Tryz.prog.info? 32).map (fun i => (i.zero, i.size, i.bytes)) = some (some (.slice none 0 0), 1, 24) := by kernel_rfl
theorem bw_put3 {B g k n c : Nat} {x : Et} {w0 w : World} {xs : List Value} (h : Bw B w0 w) (ho : w.ownsRow B 54 3 (.slice (some ⟨g, 0, none⟩) n c) n xs) (hg : B ≤ g) : Bw B w0 (put3 w g k x) :=
  ((h.set ho (.inl rfl) hg _ _).set (own_put ho _ _) (.inl rfl) hg _ _).set (own_put (own_put ho _ _) _ _) (.inl rfl) hg _ _
set_option maxRecDepth 100000 in
set_option maxHeartbeats 4000000 in
theorem apart_any (L : Ls) (co : Nat) (w : World) (hm : L.m ≤ 1048576) (hN : ∀ j, j < L.m → L.N j ≤ 1048576) (hB : L.B ≤ w.heap.size) (hbo : L.bo < w.heap.size) (hbB : L.B ≤ L.bo) (hf : L.far) (hc : L.cells w) (hr : L.marked w 0 0) :
    Calls Tryz.prog 16 #[.slice (some ⟨L.bo, 0, none⟩) L.m co] w fun e w' => e = .returned (.bool true) ∧ Bw L.B w w' := by
  obtain ⟨i0, hi0, hz0, hz1, hz2⟩ := info_parts infoE
  obtain ⟨i33, hi33, hy0, hy1, hy2⟩ := info_parts infoL
  have HN := Lib.hid hN
  have HF := Lib.hid hf
  have HC := Lib.hid hc
  have HR := Lib.hid hr
  clear hN hf hc hr
  go_enter Tryz.func16, Tryz.ntmps16
  go_wp2
  go_loopw [3, 4] (fun i _ wr => ∃ j : Nat, j ≤ L.m ∧ i = .int .i64 j ∧ Hid (L.cells wr) ∧ Hid (L.marked wr j 0) ∧ Bw L.B w wr ∧ w.heap.size ≤ wr.heap.size) (fun i _ _ => L.m - (intOf i).toNat)
  case atStart => exact ⟨0, Nat.zero_le _, rfl, HC, HR, Bw.refl _ _, Nat.le_refl _⟩
  case round =>
    obtain ⟨i, hi, rfl, hcells, hmark, hb, hsz⟩ := hrel
    by_cases hlt : i < L.m
    · have hcell := hcells.out i hlt
      have hNi := HN.out i hlt
      obtain ⟨n, hn⟩ : ∃ n, n = L.N i := ⟨_, rfl⟩
      rw [← hn] at hcell hNi
      have HNN := Lib.hid hn
      clear hn
      go_wp2
      go_loopw [4] (fun x wx => ∃ k : Nat, k ≤ n ∧ x = .int .i64 k ∧ Hid (L.cells wx) ∧ Hid (L.marked wx i k) ∧ Bw L.B w wx ∧ w.heap.size ≤ wx.heap.size) (fun x _ => n - (intOf x).toNat)
      case atStart => exact ⟨0, Nat.zero_le _, rfl, hcells, hmark, hb, hsz⟩
      case round =>
        obtain ⟨k, hk, rfl, hcells2, hmark2, hb2, hsz2⟩ := hrel
        have hcell2 := hcells2.out i hlt
        rw [← HNN.out] at hcell2
        clear hcell hcells hmark hb hsz
        by_cases hkn : k < n
        · obtain ⟨xs, hx1, hx2⟩ := hmark2.out i hlt
          rw [← HNN.out] at hx1
          have hxl : xs.length = n := by have := hx1.1; rw [flat_len] at this; omega
          obtain ⟨g, ha, hg⟩ := addr_eq hx1 (by omega)
          rw [ha] at hcell2 hx1
          have hf0 := own_frozen hx1 (k * 3)
          have hf1 := own_frozen hx1 (k * 3 + 1)
          have hf2 := own_frozen hx1 (k * 3 + 1 + 1)
          obtain ⟨y, hy⟩ : ∃ y, xs[k]? = some y := ⟨_, List.getElem?_eq_getElem (by omega)⟩
          have hs0 := own_cell hx1 (k := k * 3 + 0) (flat_at xs k y 0 hy (by omega))
          have hs1 := own_cell hx1 (k := k * 3 + 1) (flat_at xs k y 1 hy (by omega))
          have hs2 := own_cell hx1 (k := k * 3 + 1 + 1) (flat_at xs k y 2 hy (by omega))
          simp only [Nat.add_zero] at hs0
          have hkn' : (k : Int) < (n : Int) := by omega
          have hlt' : (i : Int) < (L.m : Int) := by omega
          have HX1 := Lib.hid hx1
          clear hx1 hx2 hy hxl
          go_wp2
          go_roundw
          case rel => exact ⟨k + 1, by omega, by go_num, cells_store (k := k) HF.out hcells2.out hlt ha (wasE i), marked_store HF.out hmark2.out hlt (by rw [← HNN.out]; exact hkn) ha, bw_put3 (k := k) (x := wasE i) hb2 HX1.out hg, by simpa [World.setCell] using hsz2⟩
          case measure => simp [intOf]; omega
        · obtain rfl : k = n := by omega
          have hdone : Hid (L.marked wr (i + 1) 0) := marked_next (by rw [← HNN.out]; exact hmark2.out)
          go_wp2
          go_roundw
          case rel => exact ⟨i + 1, by omega, by go_num, hcells2, hdone, hb2, hsz2⟩
          case measure => simp [intOf]; omega
    · obtain rfl : i = L.m := by omega
      clear HC HR
      have hinv := inv_start HF.out hcells.out hmark.out (by omega) (by omega) hb
      have HI := Lib.hid hinv
      obtain ⟨H, hH⟩ : ∃ H, H = wr.heap.size := ⟨_, rfl⟩
      rw [← hH] at HI
      clear hinv hH hcells hmark hb hsz hlt
      go_wp2
      go_loopw [5, 6, 7, 8] (fun v6 i _ _ wx => ∃ (k : Nat) (vs : List Value) (b c : Nat → Nat), k ≤ L.m ∧ i = .int .i64 k ∧ Hid (Inv L w H k k wx v6 vs b c)) (fun _ i _ _ _ => L.m - (intOf i).toNat)
      case atStart => exact ⟨0, [], _, _, Nat.zero_le _, rfl, HI⟩
      case round =>
        obtain ⟨i, vs, b, c, hi, rfl, HV⟩ := hrel
        clear HI
        by_cases hlt : i < L.m
        · have hcell := HV.out.cells i hlt
          have hcur := Lib.hid (cur_start HF.out HV.out (Nat.le_refl _) hlt)
          have hmore := Lib.hid (inv_more HV.out (by omega))
          have hNi := HN.out i hlt
          have hlt' : (i : Int) < (L.m : Int) := by omega
          go_wp2
          go_loopw [7, 8] (fun v x wy => ∃ k : Nat, k ≤ 20 ∧ x = .int .i64 k ∧ Hid (Inv L w H i (i + 1) wy u5 vs b c) ∧ Hid (Cur L H i k wy v b)) (fun _ x _ => 20 - (intOf x).toNat)
          case atStart => exact ⟨0, by omega, rfl, hmore, hcur⟩
          case round =>
            obtain ⟨k, hk, rfl, hI, hC⟩ := hrel
            clear HV hcell hcur hmore
            have hsz := hI.out.size
            have hbs := hI.out.base
            by_cases hk20 : k < 20
            · have hown := hC.out.own
              go_wp2_with (at_builtin; refine wpList_append_two _ rfl _ _ 32 rfl L.B 54 i0 (.agg #[.string ⟨#[]⟩, .int .i64 0, .string ⟨#[]⟩]) 3 40 Tryz.underlying32 hi0 hz0 hz1 hz2 rfl (by decide) (by decide) _ _ _ rfl (hown.alloc _) ⟨wr.heap.size, 0, none⟩ 1 (En.cells (newE i)) rfl rfl ?c1 ?c2 ?c3 ?c4 ?c5 ?_)
              case c1 => exact cell_three_new _ _ _ _ _
              case c2 => exact cells_one (newE i)
              case c3 => omega
              case c4 => omega
              case c5 => simp; omega
              intro v1 w1 hown1 hg1
              have hst := both_step HF.out hI.out (Nat.le_refl _) hlt hC.out hown1 hg1
              have h1 := Lib.hid hst.1
              have h2 := Lib.hid hst.2
              clear hst hown hown1 hg1
              go_wp2
              go_roundw
              case rel => exact ⟨k + 1, by omega, by go_num, h1, h2⟩
              case measure => simp [intOf]; omega
            · obtain rfl : k = 20 := by omega
              obtain ⟨bv, cv, hv, _, _⟩ := hC.out.own.form (by omega)
              rw [hv] at hC ⊢
              clear hv
              have hout := hI.out.outer
              go_wp2_with (at_builtin; refine wpList_append_two _ rfl _ _ 45 rfl L.B 32 i33 (.slice none 0 0) 1 24 Tryz.underlying45 hi33 hy0 hy1 hy2 rfl (by decide) (by decide) _ _ _ rfl (hout.alloc _) ⟨wr.heap.size, 0, none⟩ 1 [.slice (some ⟨bv, 0, none⟩) (L.N i + 20) cv] rfl rfl ?c1 ?c2 ?c3 ?c4 ?c5 ?_)
              case c1 => exact cell_one_new _ _ _
              case c2 => intro u hu; simp at hu; subst hu; rfl
              case c3 => omega
              case c4 => omega
              case c5 => simp; omega
              intro v7 w1 hown1 hg1
              obtain ⟨b2, c2, hst⟩ := outer_next HF.out hI.out (Nat.le_refl _) hlt hC.out hown1 hg1
              have h1 := Lib.hid hst
              clear hst hout hown1 hg1
              go_wp2
              go_roundw
              case rel => exact ⟨i + 1, _, b2, c2, by omega, by go_num, h1⟩
              case measure => simp [intOf]; omega
        · obtain rfl : i = L.m := by omega
          have hbelow := HV.out.below
          by_cases hm0 : L.m = 0
          · have hm0' : (L.m : Int) ≤ 0 := by omega
            go_wp2
            go_loop [9] (fun i => i = .int .i64 0) (fun _ => 0)
            case atStart => exact rfl
            case round =>
              obtain rfl := hrel
              go_wp2
              go_ret
              exact ⟨rfl, hbelow⟩
          · obtain ⟨g6, c6, hv6, _, _⟩ := HV.out.outer.form (by omega)
            rw [hv6] at HV ⊢
            clear hv6 hm0
            go_wp2
            go_loop [9, 10, 11] (fun i _ _ => ∃ j : Nat, j ≤ L.m ∧ i = .int .i64 j) (fun i _ _ => L.m - (intOf i).toNat)
            case atStart => exact ⟨0, Nat.zero_le _, rfl⟩
            case round =>
              obtain ⟨j, hj, rfl⟩ := hrel
              by_cases hjm : j < L.m
              · obtain ⟨hlv, hlo, _⟩ := HV.out.long j hjm
                have hcl := own_cell HV.out.outer hlv
                have hcj := HV.out.cells j hjm
                have HLO := Lib.hid hlo
                have HH := Lib.hid (HV.out.held j hjm)
                have hNj := HN.out j hjm
                have hjm' : (j : Int) < (L.m : Int) := by omega
                obtain ⟨n, hn⟩ : ∃ n, n = L.N j := ⟨_, rfl⟩
                obtain ⟨bj, hbj⟩ : ∃ x, x = b j := ⟨_, rfl⟩
                obtain ⟨cj, hcj2⟩ : ∃ x, x = c j := ⟨_, rfl⟩
                rw [← hn, ← hbj, ← hcj2] at hcl HLO
                rw [← hn] at hcj hNj HH
                have HNN := Lib.hid hn
                clear hn hbj hcj2 hlo hlv
                go_wp2
                go_loop [10, 11] (fun x _ => ∃ l : Nat, l ≤ n + 20 ∧ x = .int .i64 l) (fun x _ => n + 20 - (intOf x).toNat)
                case atStart => exact ⟨0, Nat.zero_le _, rfl⟩
                case round =>
                  obtain ⟨l, hl, rfl⟩ := hrel
                  by_cases hln : l < n
                  · obtain ⟨g, ha, hcg⟩ := HH.out l hln
                    have hcb := own_kind HLO.out (row_was (L := L) (j := j) (k := 20) (l := l) (by rw [← HNN.out]; exact hln))
                    unfold sw at hcg
                    unfold wasE at hcb
                    simp only at hcb
                    rw [ha] at hcj
                    have hln1 : (l : Int) < (n : Int) := by omega
                    have hln2 : (l : Int) < (n : Int) + 20 := by omega
                    go_wp2
                    go_round
                    case rel => exact ⟨l + 1, by omega, by go_num⟩
                    case measure => simp [intOf]; omega
                  · by_cases hl20 : l < n + 20
                    · have hcb := own_kind HLO.out (row_new (L := L) (j := j) (k := 20) (l := l) (by rw [← HNN.out]; exact hln) (by rw [← HNN.out]; exact hl20))
                      unfold newE at hcb
                      simp only at hcb
                      have hln1 : (n : Int) ≤ (l : Int) := by omega
                      have hln2 : (l : Int) < (n : Int) + 20 := by omega
                      go_wp2
                      go_round
                      case rel => exact ⟨l + 1, by omega, by go_num⟩
                      case measure => simp [intOf]; omega
                    · obtain rfl : l = n + 20 := by omega
                      go_wp2
                      go_round
                      case rel => exact ⟨j + 1, by omega, by go_num⟩
                      case measure => simp [intOf]; omega
              · go_wp2
                go_ret
                exact ⟨rfl, hbelow⟩
end Go.Proofs.YtdpnmdnfnplcfaaGreat.Ea

namespace Go.Proofs.YtdpnmdnfnplcfaaGreat.Ea
open Go.RowKit Tx En
set_option linter.unusedVariables false
structure Li where
  a : Option Addr
  n : Nat
  c : Nat
  l : List Et
def Li.val (x : Li) : Value := .slice x.a x.n x.c
def nth (L : List Li) (j : Nat) : Li := (L[j]?).getD ⟨none, 0, 0, []⟩
theorem nth_mem {L : List Li} {j : Nat} (h : j < L.length) : nth L j ∈ L := by
  rw [nth, List.getElem?_eq_getElem h]
  exact List.getElem_mem h
def Li.own (x : Li) (w : World) (B : Nat) : Prop := w.ownsRow B 54 3 (.slice x.a x.n x.c) x.n (x.l.flatMap En.cells)
theorem Li.block {x : Li} {w : World} {B : Nat} (h : x.own w B) {y : Addr} (hy : x.a = some y) : B ≤ y.block ∧ y.block < w.heap.size ∧ y = ⟨y.block, 0, none⟩ := by
  rcases h.2 with ⟨hv, _⟩ | ⟨g, cap, cur, hv, hg, hh, _⟩
  · injection hv with h1
    rw [hy] at h1
    cases h1
  · injection hv with h1
    rw [hy] at h1
    injection h1 with h1
    subst h1
    exact ⟨hg, (Array.getElem?_eq_some_iff.1 hh).1, rfl⟩
theorem lists_apart (L : List Li) (w : World) (B : Nat) (hm : L.length ≤ 1048576) (hN : ∀ x ∈ L, x.n ≤ 1048576) (hB : B ≤ w.heap.size) (hown : ∀ x ∈ L, x.own w B)
    (hsep : ∀ i j, i < L.length → j < L.length → i ≠ j → ∀ x, (nth L i).a = some x → (nth L j).a ≠ some x) :
    Calls Tryz.prog 16 #[.slice (some ⟨w.heap.size, 0, none⟩) L.length L.length] (w.alloc (.cells (L.map Li.val).toArray 32)) fun e w' => e = .returned (.bool true) ∧ Bw B (w.alloc (.cells (L.map Li.val).toArray 32)) w' := by
  refine apart_any { m := L.length, A := fun j => (nth L j).a, N := fun j => (nth L j).n, C := fun j => (nth L j).c, bo := w.heap.size, B := B } L.length _ hm (fun j hj => hN _ (nth_mem hj)) (by rw [World.size_alloc]; show B ≤ _; omega) (by rw [World.size_alloc]; show w.heap.size < _; omega) hB ⟨hsep, fun j hj g h => ?_⟩ (fun j hj => ?_) (fun j hj => ?_)
  · have h1 := (Li.block (hown _ (nth_mem hj)) h).2.1
    show g ≠ w.heap.size
    exact Nat.ne_of_lt h1
  · have h1 := World.cell?_alloc_mark w (L.map Li.val).toArray 32 (0, 0) j
    have hj' : j < L.length := hj
    refine h1.trans ?_
    show (L.map Li.val).toArray[j]? = some (.slice (nth L j).a (nth L j).n (nth L j).c)
    rw [List.getElem?_toArray, List.getElem?_map, nth, List.getElem?_eq_getElem hj']
    rfl
  · have hj' : j < L.length := hj
    exact ⟨(nth L j).l, (hown _ (nth_mem hj')).alloc _, fun l hl hh => by omega⟩
end Go.Proofs.YtdpnmdnfnplcfaaGreat.Ea

namespace Go.Proofs.YtdpnmdnfnplcfaaGreat.scanPlays
open Go.ChangeMaps (open_string shut_string)
open Go.ChangeShapes Go.WideShapes Go.ChangeAt Go.RowKit Tx Pm Pr Dk Sc
set_option linter.unusedVariables false
theorem steps_nth {w : World} {a : Option Addr} {n : Nat} {l : List Sp} (h : Script w a n l) {k : Nat} {x : Sp} (hx : l[k]? = some x) : ∃ b off, a = some ⟨b, off, none⟩ ∧ b < w.heap.size ∧ w.cell? ⟨b, off + k * 4, none⟩ = some (.int .i64 x.k) ∧ w.cell? ⟨b, off + k * 4 + 1, none⟩ = some (.string x.p) ∧ w.cell? ⟨b, off + k * 4 + 2, none⟩ = some (.string x.q) ∧ w.cell? ⟨b, off + k * 4 + 3, none⟩ = some (.int .i64 x.n) := by
  have hk := (List.getElem?_eq_some_iff.1 hx).1
  rcases h.2 with h0 | ⟨b, off, ha, hlt, hc⟩
  · rw [h.1] at hk; omega
  · exact ⟨b, off, ha, hlt, hc k x hx⟩
structure Rd (O : Nat → World → (Nat → Prop) → St → Prop) (w0 : World) (bd bw : Nat) (V : ByteArray) (s : St) (vs : Value) (seen : List Sn) (w : World) : Prop where
  disks : ∃ F G, Pair (O bd) (RefAt bw) w F G s ∧ (∀ i, F i ∨ G i → w0.heap.size ≤ i) ∧ ∀ g, vs.ownBlock = some g → ¬ F g ∧ ¬ G g
  own : OwnN w 0 vs seen
  below : Below w0.heap.size w0 w
  good : Sc.Good s V seen
  stp : Stp s
  sz : Szn seen
theorem Rd.call {O : Nat → World → (Nat → Prop) → St → Prop} {w0 w w1 : World} {bd bw : Nat} {V : ByteArray} {s : St} {vs : Value} {seen : List Sn} (k1 : Kind (O bd)) (h : Rd O w0 bd bw V s vs seen w) (hb : Below w.heap.size w w1) : Rd O w0 bd bw V s vs seen w1 := by
  obtain ⟨F, G, hp, h1, h2⟩ := h.disks
  exact ⟨⟨F, G, pair_below k1 (ref_kind bw) hp hb, h1, h2⟩, h.own.below hb, h.below.trans (hb.mono h.below.size), h.good, h.stp, h.sz⟩
theorem Rd.step {O : Nat → World → (Nat → Prop) → St → Prop} {w0 w w1 : World} {bd bw : Nat} {V : ByteArray} {s s' : St} {vs : Value} {seen : List Sn} (h : Rd O w0 bd bw V s vs seen w) (hk : Keeps s s')
    (hb : ∀ F G, Pair (O bd) (RefAt bw) w F G s → Both (O bd) bw w F G s' w1) : Rd O w0 bd bw V s' vs seen w1 := by
  obtain ⟨F, G, hp, h1, h2⟩ := h.disks
  obtain ⟨F', G', hp', hc, n1, n2⟩ := hb F G hp
  have hsz := h.below.size
  refine ⟨⟨F', G', hp', fun i hi => ?_, fun g hg => ⟨fun hh => ?_, fun hh => ?_⟩⟩, ?_, ?_, h.good.keep hk, h.stp.keep hk, h.sz⟩
  · rcases hi with hi | hi
    · rcases n1 i hi with h3 | h3
      · exact h1 i (.inl h3)
      · omega
    · rcases n2 i hi with h3 | h3
      · exact h1 i (.inr h3)
      · omega
  · rcases n1 g hh with h3 | h3
    · exact (h2 g hg).1 h3
    · have := (World.ownsRow.lt h.own g hg).2; omega
  · rcases n2 g hh with h3 | h3
    · exact (h2 g hg).2 h3
    · have := (World.ownsRow.lt h.own g hg).2; omega
  · exact own_kept h.own (fun g hg => hc.block g (World.ownsRow.lt h.own g hg).2 (fun hh => hh.elim (h2 g hg).1 (h2 g hg).2))
  · exact h.below.trans (Sc.below_chg hc h1 hsz)
theorem Rd.seen {O : Nat → World → (Nat → Prop) → St → Prop} {w0 w w1 : World} {bd bw : Nat} {V : ByteArray} {s : St} {vs vs' : Value} {seen seen' : List Sn} {B : Nat} (k1 : Kind (O bd)) (h : Rd O w0 bd bw V s vs seen w) (hb : Below w.heap.size w w1) (ho : OwnN w1 B vs' seen') (hB : w.heap.size ≤ B) (hg : Sc.Good s V seen') (hz : Szn seen') : Rd O w0 bd bw V s vs' seen' w1 := by
  obtain ⟨F, G, hp, h1, h2⟩ := h.disks
  refine ⟨⟨F, G, pair_below k1 (ref_kind bw) hp hb, h1, fun g hg => ?_⟩, own_low ho (Nat.zero_le _), h.below.trans (hb.mono h.below.size), hg, h.stp, hz⟩
  have h3 := (World.ownsRow.lt ho g hg).1
  exact ⟨fun hh => by have := k1.lt hp.1 g hh; omega, fun hh => by have := (ref_kind bw).lt hp.2.1 g hh; omega⟩
theorem Rd.at {O : Nat → World → (Nat → Prop) → St → Prop} {w0 w : World} {bd bw : Nat} {V : ByteArray} {s : St} {vs : Value} {seen : List Sn} (h : Rd O w0 bd bw V s vs seen w) : (∃ F, O bd w F s) ∧ ∃ vL vR, At w bw s vL vR := by
  obtain ⟨F, G, hp, _, _⟩ := h.disks
  obtain ⟨vL, vR, hat, _⟩ := hp.2.1
  exact ⟨⟨F, hp.1⟩, vL, vR, hat⟩
theorem own_seen {w w1 w2 : World} {B B0 : Nat} {v : Value} {l : List Sn} (h : OwnN w B v l) (hb : Below w.heap.size w w1) (hw : Ea.Bw B0 w1 w2) (hs : B0 ≤ w.heap.size) : OwnN w2 B v l := by
  have h1 := h.below hb
  refine ⟨h1.1, ?_⟩
  rcases h1.2 with h0 | ⟨g, cap, cur, hv, hg, hh, r⟩
  · exact .inl h0
  · exact .inr ⟨g, cap, cur, hv, hg, hw.other g _ _ _ (by decide) (by decide) hh, r⟩
theorem own_on {w w1 : World} {B size n : Nat} {e : TypeId} {v : Value} {xs : List Value} (h : w.ownsRow B e size v n xs) (hb : Below w.heap.size w w1) : w1.ownsRow B e size v n xs := own_kept h (fun g hg => hb.block g (h.lt g hg).2)
set_option maxRecDepth 100000 in
set_option maxHeartbeats 8000000 in
theorem walk {O : Nat → World → (Nat → Prop) → St → Prop} (hI : Impl O) (a : Option Addr) (n c : Nat) (l : List Sp) (V : ByteArray) (w : World) (hl : Script w a n l) (hn : n ≤ 1048576) (hs : ∀ x ∈ l, x.p.size ≤ 1048576 ∧ x.q.size ≤ 1048576 ∧ int64 x.n) (hV : V.size ≤ 1048576) :
    Calls Tryz.prog 3 #[.slice a n c, .string V] w fun e w' => e = .returned (.bool true) ∧ Below w.heap.size w w' := by
  have cn := hI.new
  have caw := fun W => awake_any15 hI W
  have HI := Lib.hid hI
  have HL := Lib.hid hl
  have HS := Lib.hid hs
  have hln := hl.1
  have HLN := Lib.hid hln
  clear hI hl hs hln
  go_enter Tryz.func3, Tryz.ntmps3
  go_wp2_with fail
  go_at_call 5
  refine (cn _).mono ?_
  rintro e w1 ⟨bd, Fd, rfl, od, hFd, hb1⟩
  go_wp2_with fail
  go_at_call 6
  refine (rNew_any _).mono ?_
  rintro e w4 ⟨bw, rfl, hbw, hatw, hb4⟩
  have HT : Hid (Rd O w bd bw V newS (.slice none 0 0) [] w4) := by
    have kd := (HI.out.turns bd).kind
    have od4 : O bd w4 Fd newS := kd.kept od (fun i hi => hb4.block i (kd.lt od i hi))
    have rw4 : RefAt bw w4 (fun i => i = bw) newS := ⟨_, _, hatw, fun i => ⟨fun h => .inl h, fun h => by rcases h with h | h | h; exact h; cases h; cases h⟩⟩
    have hs1 := hb1.size
    refine ⟨⟨Fd, _, ⟨od4, rw4, fun i hi hj => ?_⟩, fun i hi => ?_, fun g hg => by cases hg⟩, own_nilN _ _, below_call hb1 hb4, good_none _ _, stp_new, szn_nil⟩
    · have := kd.lt od i hi; omega
    · rcases hi with hi | hi
      · exact hFd i hi
      · omega
  clear cn od hFd hb1 hbw hatw hb4
  go_wp2_with fail
  go_at_call 7
  refine (caw _).mono ?_
  rintro e w5 ⟨rfl, hb5⟩
  have HT5 := Lib.hid (HT.out.call (HI.out.turns bd).kind hb5)
  clear caw HT hb5
  go_wp2_with fail
  go_loopw [7, 8, 9, 10, 11, 12, 13, 14, 15, 16] (fun vs iv _ _ _ _ _ _ _ _ W => ∃ (k : Nat) (s : St) (seen : List Sn) (A : Option Addr) (m cc : Nat), k ≤ n ∧ k ≤ 80 ∧ iv = .int .i64 (k : Int) ∧ vs = .slice A m cc ∧ m = seen.length ∧ m ≤ 1000 ∧ Hid (Rd O w bd bw V s (.slice A m cc) seen W) ∧ Hid (Far s k (k * 1048576))) (fun _ iv _ _ _ _ _ _ _ _ _ => n - (intOf iv).toNat)
  case atStart => exact ⟨0, newS, [], none, 0, 0, Nat.zero_le _, Nat.zero_le _, rfl, rfl, rfl, Nat.zero_le _, HT5, far_new⟩
  case round =>
    obtain ⟨k, s, seen, A, m, cc, hk, hk2, rfl, rfl, hml, hm1, HR, HF⟩ := hrel
    have HML := Lib.hid hml
    clear HT5 hml
    by_cases hgo : k < n ∧ k < 80
    · obtain ⟨hlt, hlt2⟩ := hgo
      obtain ⟨x, hx⟩ : ∃ x, l[k]? = some x := ⟨_, List.getElem?_eq_getElem (by have := HLN.out; omega)⟩
      obtain ⟨bs, off, rfl, hbs, c1, c2, c3, c4⟩ := steps_nth HL.out hx
      have hB := HR.out.below
      obtain ⟨hp, hq, hM⟩ := HS.out x (List.mem_of_getElem? hx)
      have d1 := (hB.cell (p := ⟨bs, _, none⟩) hbs).trans c1
      have d2 := (hB.cell (p := ⟨bs, _, none⟩) hbs).trans c2
      have d3 := (hB.cell (p := ⟨bs, _, none⟩) hbs).trans c3
      have d4 := (hB.cell (p := ⟨bs, _, none⟩) hbs).trans c4
      obtain ⟨K, P, Q, M⟩ := x
      simp only at d1 d2 d3 d4 hp hq hM
      have hltz : (k : Int) < (n : Int) := by omega
      have hltz2 : (k : Int) < 80 := by omega
      have ht : Int.tmod (k : Int) 3 = ((k % 3 : Nat) : Int) := by rw [Int.natCast_emod]; exact Int.tmod_eq_emod_of_nonneg (by omega)
      have HFN := Lib.hid (HF.out.step (K := tK K) (M := M) (P := P) (Q := Q) (by omega) hp hq hM)
      have ct : Calls Tryz.prog 8 #[.pointer (some ⟨bd, 0, none⟩), .pointer (some ⟨bw, 0, none⟩), .agg #[.int .i64 K, .string P, .string Q, .int .i64 M]] wr fun e w' => e = .returned (.bool true) ∧ Rd O w bd bw V (stepS s (tK K) P Q M) (.slice A m cc) seen w' := by
        obtain ⟨F, G, hpr, h1, h2⟩ := HR.out.disks
        refine (turn_any _ bw (HI.out.turns bd) wr hpr HF.out K M P Q hp hq hM).mono ?_
        rintro e w' ⟨rfl, hbo⟩
        refine ⟨rfl, ?_⟩
        have hsz := HR.out.below.size
        have hd2 : Rd O w bd bw V s (.slice A m cc) seen wr := HR.out
        obtain ⟨F', G', hp', hc, n1, n2⟩ := hbo
        have hkp := keeps_step s (tK K) M P Q
        refine ⟨⟨F', G', hp', fun i hi => ?_, fun g hg => ⟨fun hh => ?_, fun hh => ?_⟩⟩, ?_, ?_, hd2.good.keep hkp, hd2.stp.keep hkp, hd2.sz⟩
        · rcases hi with hi | hi
          · rcases n1 i hi with h3 | h3
            · exact h1 i (.inl h3)
            · omega
          · rcases n2 i hi with h3 | h3
            · exact h1 i (.inr h3)
            · omega
        · rcases n1 g hh with h3 | h3
          · exact (h2 g hg).1 h3
          · have := (World.ownsRow.lt hd2.own g hg).2; omega
        · rcases n2 g hh with h3 | h3
          · exact (h2 g hg).2 h3
          · have := (World.ownsRow.lt hd2.own g hg).2; omega
        · exact own_kept hd2.own (fun g hg => hc.block g (World.ownsRow.lt hd2.own g hg).2 (fun hh => hh.elim (h2 g hg).1 (h2 g hg).2))
        · exact hd2.below.trans (Sc.below_chg hc h1 hsz)
      have CT := Lib.hid ct
      clear c1 c2 c3 c4 hx hB HR HF ct hbs
      go_wp2_with fail
      go_at_call 8
      refine CT.out.mono ?_
      rintro e w6 ⟨rfl, hT6⟩
      obtain ⟨s2, hs2⟩ : ∃ s2, s2 = stepS s (tK K) P Q M := ⟨_, rfl⟩
      rw [← hs2] at hT6 HFN
      have HT6 := Lib.hid hT6
      clear hs2 hT6 d1 d2 d3 d4 CT hp hq hM
      by_cases h3 : k % 3 = 1
      · have e5 : (((k % 3 : Nat) : Int) == 1) = true := by rw [h3]; rfl
        go_wp2_with fail
        go_roundw
        case rel => exact ⟨k + 1, s2, seen, A, m, cc, by omega, by omega, by go_num, rfl, HML.out, hm1, HT6, HFN⟩
        case measure => simp only [intOf]; omega
      · have e5 : (((k % 3 : Nat) : Int) == 1) = false := beq_eq_false_iff_ne.2 (by omega)
        obtain ⟨⟨Fo, ho⟩, vL, vR, hat⟩ := HT6.out.at
        have hlen2 : s2.L.length ≤ 1000 := by have := HFN.out.inv.len; omega
        have hfit := (HFN.out.inv.ok HFN.out.i HFN.out.T).fit
        have hps := HFN.out.inv.path
        have kd := (HI.out.turns bd).kind
        have W1 := Lib.hid (HI.out.walk bd V ho HFN.out hV)
        have W2 := Lib.hid (fun W (h : Below w6.heap.size w6 W) => refWalk_any bw s2 vL vR V W (hat.below h) hfit hlen2 hV hps)
        have hsn : Sns w6 A m seen := by
          obtain ⟨a', c', hv, hS, _⟩ := HT6.out.own.form
          injection hv with h1 h2 h3
          subst h1
          rw [HML.out]
          exact hS
        have W3 := Lib.hid (fun W (h : Below w6.heap.size w6 W) => HI.out.scan bd V A m cc seen (kd.kept ho (fun i hi => h.block i (kd.lt ho i hi))) HFN.out hV (hsn.below h) (by omega) HT6.out.good HT6.out.sz)
        have W4 := Lib.hid (fun W (h : Below w6.heap.size w6 W) => refReads_any bw s2 vL vR V A m cc seen W (hat.below h) hfit hlen2 hV hps (hsn.below h) (by omega))
        have W5 := Lib.hid (fun W (h : Below w6.heap.size w6 W) => refSeen_any bw s2 vL vR V W (hat.below h) hfit hlen2 hV hps)
        have hrises := HFN.out.inv.rises
        have HGN := Lib.hid (good_new (v := V) hrises HT6.out.stp)
        have HZN := Lib.hid (szn_sn (v := V) hps HT6.out.stp (by have := HFN.out.inv.stamps; have := HFN.out.T; omega))
        have hwl : (wkS s2 V).1.length ≤ 1000 := by
          unfold wkS
          split
          · exact Nat.zero_le _
          · exact Nat.le_trans (entS_len _ _) hlen2
        have hsl : (snS s2 V).length = (wkS s2 V).1.length := by unfold snS; rw [List.length_map]
        have HWE := Lib.hid (fun (h : (wkS s2 V).2 ≠ 0) => wk_err h)
        obtain ⟨E, hE⟩ : ∃ E, E = (wkS s2 V).1 := ⟨_, rfl⟩
        obtain ⟨er, her⟩ : ∃ er, er = (wkS s2 V).2 := ⟨_, rfl⟩
        obtain ⟨S2, hS2⟩ : ∃ S2, S2 = snS s2 V := ⟨_, rfl⟩
        obtain ⟨rd, hrd⟩ : ∃ rd, rd = rdS s2 V seen := ⟨_, rfl⟩
        have HRD := Lib.hid hrd
        unfold WkTo at W1 W2
        unfold ScTo at W3
        unfold SnTo at W5
        rw [← hE, ← her] at W1
        simp only [← hE, ← her, ← hS2, ← hrd] at W2 W3 W4 W5
        rw [← hS2] at HGN HZN hsl
        rw [← hE] at hwl hsl
        rw [← hE, ← her, ← hS2] at HWE
        clear hat ho hfit hps hsn hrises hlen2 hE her hS2 hrd
        go_wp2_with fail
        go_at_call 9
        refine W1.out.mono ?_
        rintro e w7 ⟨v7, rfl, o7, b7⟩
        have HB7 := Lib.hid b7
        obtain ⟨a7, c7, rfl, e7, _, _⟩ := o7.form
        have HO7 := Lib.hid o7
        have HE7 := Lib.hid e7
        clear o7 e7 b7 W1
        go_wp2_with fail
        go_at_call 10
        refine (W2.out _ HB7.out).mono ?_
        rintro e w8 ⟨v8, rfl, o8, b8⟩
        have HB8 : Hid (Below w6.heap.size w6 w8) := below_call HB7.out b8
        have HB78 := Lib.hid b8
        obtain ⟨a8, c8, rfl, e8, _, _⟩ := o8.form
        have HE8 := Lib.hid e8
        clear o8 e8 b8 W2
        go_wp2_with fail
        go_at_call 11
        refine (W3.out _ HB8.out).mono ?_
        rintro e w9 ⟨v9, n9, rfl, o9, s9, b9⟩
        have HB9 : Hid (Below w6.heap.size w6 w9) := below_call HB8.out b9
        have HB89 := Lib.hid b9
        obtain ⟨a9, c9, rfl, e9, _, _⟩ := o9.form
        obtain ⟨p9, q9, rfl, f9, _⟩ := s9.form
        have HO9 := Lib.hid o9
        have HE9 := Lib.hid e9
        have HS9 := Lib.hid s9
        have HF9 := Lib.hid f9
        clear o9 e9 s9 f9 b9 W3
        have HS1 := Lib.hid (fun W (h : Below w9.heap.size w9 W) => En.refSame_any a7 a8 E.length E.length c7 c8 E E W (((HE7.out.below HB78.out).below HB89.out).below h) ((HE8.out.below HB89.out).below h) (by omega) (by omega))
        have HS2' := Lib.hid (fun W (h : Below w9.heap.size w9 W) => En.refSame_any a9 a8 E.length E.length c9 c8 E E W (HE9.out.below h) ((HE8.out.below HB89.out).below h) (by omega) (by omega))
        obtain ⟨ne, hne⟩ : ∃ ne, ne = E.length := ⟨_, rfl⟩
        rw [← hne] at hwl hsl HE7 HE8 HE9 HS1 HS2' ⊢
        have HNE := Lib.hid hne
        obtain ⟨nS, hnS⟩ : ∃ nS, nS = S2.length := ⟨_, rfl⟩
        rw [← hnS] at hsl HF9 ⊢
        have HNS := Lib.hid hnS
        have hnS1 : nS ≤ 1000 := by omega
        clear hne hnS hsl
        go_wp2_with fail
        go_at_call 12
        refine (HS1.out _ (Below.refl _ _)).mono ?_
        rintro e w10 ⟨B1, hB1, rfl, b10⟩
        obtain rfl : B1 = true := hB1.2 rfl
        have HB10 := Lib.hid b10
        clear hB1 b10
        go_wp2_with fail
        go_at_call 12
        refine (HS2'.out _ HB10.out).mono ?_
        rintro e w11 ⟨B2, hB2, rfl, b11⟩
        obtain rfl : B2 = true := hB2.2 rfl
        have HB11 : Hid (Below w9.heap.size w9 w11) := below_call HB10.out b11
        clear hB2 b11 HS1 HS2' HB10
        by_cases her0 : er = 0
        · subst her0
          have hsm : Sns w9 p9 nS S2 := HF9.out
          go_wp2_with fail
          go_at_call 13
          refine (W4.out _ (below_call HB9.out HB11.out)).mono ?_
          rintro e w12 ⟨rfl, b12⟩
          have HB12 : Hid (Below w9.heap.size w9 w12) := below_call HB11.out b12
          clear b12 W4
          have q0 : (((rd : Nat) : Int) == ((rd : Nat) : Int)) = true := beq_self_eq_true _
          go_wp2_with fail
          go_at_call 15
          refine (W5.out _ (below_call HB9.out HB12.out)).mono ?_
          rintro e w13 ⟨v13, rfl, o13, b13⟩
          have HB13 : Hid (Below w9.heap.size w9 w13) := below_call HB12.out b13
          obtain ⟨a13, c13, rfl, e13, _⟩ := o13.form
          rw [← HNS.out] at e13
          rw [← HNS.out]
          have CSS := Lib.hid (refSameSeen_any p9 a13 nS q9 c13 S2 w13 (HF9.out.below HB13.out) e13 (by omega))
          clear o13 e13 b13 W5 hsm
          go_wp2_with fail
          go_at_call 14
          refine CSS.out.mono ?_
          rintro e w14 ⟨rfl, b14⟩
          have HB14 : Hid (Below w9.heap.size w9 w14) := below_call HB13.out b14
          clear b14 CSS
          have p7 : Ea.Li.own ⟨a7, ne, c7, E⟩ w7 w6.heap.size := by
            have h := HO7.out
            unfold En.Own at h
            rw [← HNE.out] at h
            exact h
          have p9' : Ea.Li.own ⟨a9, ne, c9, E⟩ w9 w8.heap.size := by
            have h := HO9.out
            unfold En.Own at h
            rw [← HNE.out] at h
            exact h
          have HAP := Lib.hid (Ea.lists_apart [⟨a7, ne, c7, E⟩, ⟨a9, ne, c9, E⟩] w14 w6.heap.size (by show 2 ≤ _; omega) (fun x hx => by
            rcases List.mem_cons.1 hx with rfl | hx
            · show ne ≤ _; omega
            · rcases List.mem_cons.1 hx with rfl | hx
              · show ne ≤ _; omega
              · cases hx) (below_call HB9.out HB14.out).size (fun x hx => by
            rcases List.mem_cons.1 hx with rfl | hx
            · exact own_on p7 (below_call HB78.out (below_call HB89.out HB14.out))
            · rcases List.mem_cons.1 hx with rfl | hx
              · exact own_low (own_on p9' HB14.out) (HB8.out.size)
              · cases hx) (fun i j hi hj hij x h1 h2 => by
            have l7 : ∀ x, a7 = some x → x.block < w7.heap.size := fun x hx => (Ea.Li.block p7 hx).2.1
            have l9 : ∀ x, a9 = some x → w8.heap.size ≤ x.block := fun x hx => (Ea.Li.block p9' hx).1
            have hsz := HB78.out.size
            match i, j, hi, hj with
            | 0, 0, _, _ => exact hij rfl
            | 0, 1, _, _ => exact absurd (l7 x h1) (Nat.not_lt.2 (Nat.le_trans hsz (l9 x h2)))
            | 1, 0, _, _ => exact absurd (l7 x h2) (Nat.not_lt.2 (Nat.le_trans hsz (l9 x h1)))
            | 1, 1, _, _ => exact hij rfl
            | i + 2, _, hi, _ => exact absurd hi (by show ¬ i + 2 < 2; omega)
            | _, j + 2, _, hj => exact absurd hj (by show ¬ j + 2 < 2; omega)))
          clear p7 p9'
          go_wp2_with fail
          go_at_call 16
          refine HAP.out.mono ?_
          rintro e w15 ⟨rfl, b15⟩
          obtain ⟨WA, hWA⟩ : ∃ WA, WA = w14.alloc (.cells #[.slice a7 ne c7, .slice a9 ne c9] 32) := ⟨_, rfl⟩
          have bA : Below w14.heap.size w14 WA := hWA ▸ (Below.refl w14.heap.size w14).alloc (Nat.le_refl _) _
          have hb15 : Ea.Bw w6.heap.size WA w15 := hWA ▸ b15
          have HT15 : Hid (Rd O w bd bw V s2 (.slice p9 nS q9) S2 w15) := by
            have hh := HS9.out
            rw [← HNS.out] at hh
            refine HT6.out.seen kd ((below_call HB9.out (below_call HB14.out bA)).trans hb15.below) (own_seen hh (below_call HB14.out bA) hb15 ?_ ) (HB8.out.size) HGN.out HZN.out
            exact (Below.size HB9.out)
          clear b15 hb15 bA hWA HAP
          go_wp2_with fail
          go_roundw
          case rel => exact ⟨k + 1, s2, S2, p9, nS, q9, by omega, by omega, by go_num, rfl, HNS.out, hnS1, HT15, HFN⟩
          case measure => simp only [intOf]; omega
        · have e9' : ((er : Nat) : Int) ≠ 0 := by omega
          have e9b : ¬ ((er : Nat) : Int) = 0 := by omega
          obtain ⟨z1, z2, z3⟩ := HWE.out her0
          have hz : nS = 0 := by rw [HNS.out, z2]; rfl
          have hr0 : rd = 0 := by rw [HRD.out]; exact z3 seen
          subst hz
          subst hr0
          have HT11 : Hid (Rd O w bd bw V s2 (.slice A m cc) seen w11) := (HT6.out.call kd HB9.out).call kd HB11.out
          clear z1 z2 z3 her0
          go_wp2_with fail
          go_roundw
          case rel => exact ⟨k + 1, s2, seen, A, m, cc, by omega, by omega, by go_num, rfl, HML.out, hm1, HT11, HFN⟩
          case measure => simp only [intOf]; omega
    · have hend : ¬ (k : Int) < (n : Int) ∨ ¬ (k : Int) < 80 := by omega
      have HBF := Lib.hid HR.out.below
      by_cases hlt : k < n
      · have hltz : (k : Int) < (n : Int) := by omega
        have hlt2 : ¬ (k : Int) < 80 := by omega
        clear hend hgo
        go_wp2_with fail
        go_ret
        exact ⟨rfl, HBF.out⟩
      · have hltz : ¬ (k : Int) < (n : Int) := by omega
        clear hend hgo
        go_wp2_with fail
        go_ret
        exact ⟨rfl, HBF.out⟩
theorem own : ownKnob Tryz.prog.godebug = none := by kernel_rfl
theorem laidOut : laidOutB Tryz.prog = true := by kernel_rfl
set_option maxRecDepth 100000 in
theorem contract {O : Nat → World → (Nat → Prop) → St → Prop} (hI : Impl O) (H : Type) (enc : TypeId × Value → H) (W : World) (base : Nat) (args : Array Value) (ds gs : List (DataW H)) (before : List MemPlace)
    (hval0 : ∀ (j : Nat) t v, Tryz.f3.params[j]? = some t → args[j]? = some v → Value.okWide Tryz.prog W .any base t v)
    (hW : DataW.Whole enc Tryz.prog Tryz.f3.params.toList Rows.scanPlaysSpec.vars false W args.toList ds gs before)
    (hk : Rows.uptoSmall H (ds ++ gs) = true)
    (hsz0 : (DataW.weightsEach Tryz.prog (Tryz.f3.params.toList ++ Rows.scanPlaysSpec.plain.varTypes Tryz.prog) (ds ++ gs)).all (· ≤ reachBytes) = true) :
    Calls Tryz.prog 3 args W fun e W' => ∃ v, e = .returned v ∧ Rows.scanPlaysSpec.post enc Tryz.prog Tryz.f3 false true false false W args v W' := by
  have hval : ∀ (j : Nat) t v, Tryz.f3.params[j]? = some t → args[j]? = some v → Value.okWide Tryz.prog W .any base t v := hval0
  have hsz := hsz0
  clear hsz0
  have hW' := hW
  obtain ⟨p, q, hA0, hV, rfl, hfz, hnd⟩ := hW
  have hA : DataW.TrodAll enc Tryz.prog W 0 (fun _ => true) true Tryz.f3.params.toList args.toList ds p := hA0
  rw [Tryz.params3] at hA hval hsz
  obtain ⟨v0, vs0, d0, ds0, p0, q0, hargs, rfl, rfl, h0, r0⟩ := trodAll_cons hA
  obtain ⟨v1, vs1, d1, ds1, p1, q1, rfl, rfl, rfl, h1, r1⟩ := trodAll_cons r0
  obtain ⟨rfl, rfl, rfl⟩ := trodAll_nil r1
  obtain rfl : args = #[v0, v1] := by cases args; simp_all
  obtain ⟨rfl, rfl⟩ := trodVars_none hV
  obtain ⟨A0, n0, c0, rfl⟩ := okWide_slice Tryz.underlying22 (hval 0 22 v0 rfl rfl)
  have k0 := h0
  have lt0 : ∀ x ∈ p0, x.block < W.heap.size := by obtain ⟨m, hm⟩ := k0; exact DataW.trod_lt m _ _ _ hm
  obtain ⟨s1, rfl, rfl, rfl, w1⟩ := open_string Tryz.underlying9 (hval 1 9 v1 rfl rfl) h1
  have hreach1 : s1.size ≤ 140737488351232 := by
    have := sized_string hsz (j := 1) (t := 9) rfl rfl
    simpa [reachBytes] using this
  clear hA0 hval0
  obtain ⟨l0, e0, i0, m0, sm0⟩ := arg_steps k0
  have hbulk : Rows.uptoBulk d0 ≤ 1048576 ∧ s1.size ≤ 1048576 := by
    have h := of_decide_eq_true hk
    rw [List.append_nil] at h
    have x : Rows.uptoBulkAll [d0, DataW.lit (H := H) (.string s1.data.toList)] = Rows.uptoBulk d0 + ((s1.data.toList.length + 1) + 0) := rfl
    rw [x, len_l] at h
    omega
  refine (walk hI A0 n0 c0 l0 s1 W e0 (by omega) (fun x hx => by have := sm0 x hx; have := i0 x hx; exact ⟨by omega, by omega, this.2⟩) (by omega)).mono fun e W' ⟨he, bel⟩ => ?_
  subst he
  exact ⟨_, rfl, _, _, _, [], _, [], hW', trodAll_mk1 (shut_bool Tryz.underlying4 _), (trodAll_cons_mk (Below.trod laidOut (by kernel_rfl) (of_decide_eq_true (by kernel_rfl)) k0 bel lt0) (trodAll_cons_mk (shut_string Tryz.underlying9 w1) trodAll_mk0)), rfl, bel.frame _, fun h => by cases h⟩
set_option maxRecDepth 100000 in
theorem lifted {O : Nat → World → (Nat → Prop) → St → Prop} (hI : Impl O) (os : Os) (started : os.Started) (H : Type) (enc : TypeId × Value → H) (F : Stop.Interp) :
    ReturnsInHanded {} Tryz.checked os 3 .any ((Rows.OpenSpec.upto Rows.scanPlaysSpec).pre6 enc Tryz.prog Tryz.f3 Rows.scanPlaysUptoRow.domain false) (((Rows.OpenSpec.upto Rows.scanPlaysSpec).at F).post enc Tryz.prog Tryz.f3 false true false false) := by
  refine returnsInHanded_of_cond_sized (C := Tryz.checked) (s := Rows.OpenSpec.upto Rows.scanPlaysSpec) (k := Rows.uptoSmall) rfl own started (by kernel_rfl) Tryz.func3
    (OpenSpec.witness (enc := enc) (C := Tryz.checked) (s := Rows.OpenSpec.upto Rows.scanPlaysSpec) (k := Rows.uptoSmall) rfl false ⟨#[], #[.slice none 0 0, .string ByteArray.empty], []⟩ 8 (by kernel_rfl) (by kernel_rfl) (by kernel_rfl)
      (x := ([.nil, .lit (.string [])], [], [])) (by kernel_rfl) rfl (by kernel_rfl)) ?_
  intro W base args ds gs before hval hW _ hk hsz0 _
  exact contract hI H enc W base args ds gs before hval hW hk hsz0
theorem over {O : Nat → World → (Nat → Prop) → St → Prop} (hI : Impl O) : Rows.scanPlaysUptoRow.holds Tryz.pinned (Rows.OpenSpec.upto Rows.scanPlaysSpec) :=
  OpenClaim.holds_of_cond 3 Tryz.f3 rfl rfl rfl rfl rfl rfl rfl ⟨rfl, rfl, rfl, rfl, rfl⟩ rfl rfl rfl rfl rfl (by kernel_rfl) Tryz.func3 (by kernel_rfl)
    (of_decide_eq_true (by kernel_rfl)) (by unfold Func.isWrapper; first | (rw [if_pos (by decide +kernel)]; kernel_rfl) | (rw [if_neg (by decide +kernel)]; exact ⟨rfl, rfl⟩))
    (fun os started H enc _ F => lifted hI os started H enc F)
end Go.Proofs.YtdpnmdnfnplcfaaGreat.scanPlays

namespace Go.Proofs.YtdpnmdnfnplcfaaGreat
theorem scanPlaysUpto_holds : Rows.ScanPlaysUptoSaid := scanPlays.over Sc.oi_impl
#print axioms scanPlaysUpto_holds
end Go.Proofs.YtdpnmdnfnplcfaaGreat
