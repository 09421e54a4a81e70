/- Texts of this seat, one behind the other. -/
import Derived.Test.YtdpnmdnfnplcfaaT2
import Derived.Deep.RegionWith
import Derived.Lib.AppendZeros
import Derived.Shelf.Sort.Plain
import Derived.Shelf.SlSortCmp.WholeK
import Derived.Shelf.SlSortCmp.NoneTotal
import Derived.Test.YtdpnmdnfnplcfaaProg
import Derived.Lib.OwnBridge
import Derived.Shelf.Slices.In.SortNone
import Derived.Sort.OwnSorted
import Derived.Test.YtdpnmdnfnplcfaaRows
import Derived.Deep.QuietTactic
import Derived.BigQuiet
import Derived.JoinedCond
import Derived.SizedLaws
import Derived.ChangeOld
import Derived.Deep.CondSized
namespace Go.Proofs.Ytdpnmdnfnplcfaa.En
open Go.RowKit Tx Pm Pr Go.Sort Go.Lib Go.Shelf
set_option linter.unusedVariables false
theorem Ents.nth {w : World} {a : Option Addr} {n : Nat} {l : List Et} (h : Ents w a n l) {k : Nat} {x : Et} (hx : l[k]? = some x) : ∃ b off, a = some ⟨b, off, none⟩ ∧ b < w.heap.size ∧ w.cell? ⟨b, off + k * 3, none⟩ = some (.string x.path) ∧ w.cell? ⟨b, off + k * 3 + 1, none⟩ = some (.int .i64 x.node.kind) ∧ w.cell? ⟨b, off + k * 3 + 1 + 1, none⟩ = some (.string x.node.data) := by
  have hk := (List.getElem?_eq_some_iff.1 hx).1
  rcases h.2 with h0 | ⟨b, off, ha, hlt, hc⟩
  · rw [h.1] at hk; omega
  · exact ⟨b, off, ha, hlt, hc k x hx⟩
set_option maxRecDepth 100000 in
set_option maxHeartbeats 1000000 in
theorem placeC_any (ba bx : Nat) (a : Option Addr) (n c : Nat) (l : List Et) (p : ByteArray) (W : World) (i : Nat) (x : Et) (hi : l[i]? = some x) (ha : W.cell? ⟨ba, 0, none⟩ = some (.slice a n c)) (hx : W.cell? ⟨bx, 0, none⟩ = some (.string p)) (hl : Ents W a n l) :
    Calls Try.prog 55 (#[.int .i64 i] ++ #[.pointer (some ⟨ba, 0, none⟩), .pointer (some ⟨bx, 0, none⟩)]) W fun e w' => e = .returned (.bool (!less x.path p)) ∧ ∃ q, w' = W.drewN q := by
  obtain ⟨b, off, rfl, hb, c1, _⟩ := hl.nth hi
  have hlt : i < n := by rw [← hl.1]; exact (List.getElem?_eq_some_iff.1 hi).1
  have hiz : (i : Int) < (n : Int) := by omega
  obtain ⟨P, N⟩ := x
  simp only at c1
  unfold less
  clear hi hl
  go_enter Try.func55, Try.ntmps55
  go_wp2
  go_region
  all_goals go_wp2
  all_goals go_ret
  all_goals exact ⟨rfl, 1, rfl⟩
theorem rise_le {l : List Et} (h : Rise l) (p : ByteArray) {i j : Nat} {x y : Et} (hi : l[i]? = some x) (hj : l[j]? = some y) (hij : i ≤ j) (hx : less x.path p = false) : less y.path p = false := by
  rcases Nat.lt_or_eq_of_le hij with hlt | rfl
  · have hm := List.pairwise_iff_getElem.1 h i j (by rw [List.length_map]; exact (List.getElem?_eq_some_iff.1 hi).1) (by rw [List.length_map]; exact (List.getElem?_eq_some_iff.1 hj).1) hlt
    rw [List.getElem_map, List.getElem_map, (List.getElem?_eq_some_iff.1 hi).2, (List.getElem?_eq_some_iff.1 hj).2] at hm
    cases hc : less y.path p with
    | false => rfl
    | true => rw [lt_trans hm hc] at hx; cases hx
  · rw [hi] at hj
    injection hj with hj
    rw [← hj]
    exact hx
theorem count_at (l : List Et) (f : Et → Bool) (g : Nat → Bool) (hg : ∀ i x, l[i]? = some x → g i = f x) : (List.range l.length).countP g = l.countP f := by
  have h : (List.range l.length).map g = l.map f := by
    apply List.ext_getElem
    · simp
    · intro i h1 h2
      simp only [List.getElem_map, List.getElem_range]
      exact hg i _ (List.getElem?_eq_getElem (by simpa using h2))
  have e1 : (List.range l.length).countP g = ((List.range l.length).map g).countP id := by rw [List.countP_map]; rfl
  have e2 : l.countP f = (l.map f).countP id := by rw [List.countP_map]; rfl
  rw [e1, e2, h]
theorem below_boxes {w : World} (o1 o2 : Obj) : Below w.heap.size w ((w.alloc o1).alloc o2) := ((Below.refl _ w).alloc (Nat.le_refl _) o1).alloc (by simp) o2
set_option maxRecDepth 100000 in
set_option maxHeartbeats 2000000 in
theorem place_any (a : Option Addr) (n c : Nat) (l : List Et) (p : ByteArray) (w : World) (hl : Ents w a n l) (hr : Rise l) (hn : n ≤ 1000000000000) :
    Calls Try.prog 41 #[.slice a n c, .string p] w fun e w' => e = .returned (.int .i64 (tplace l p : Nat)) ∧ Below w.heap.size w w' := by
  obtain ⟨W0, hW0⟩ : ∃ W0, W0 = (w.alloc (.cells #[.slice a n c] 22)).alloc (.cells #[.string p] 9) := ⟨_, rfl⟩
  have hsize : W0.heap.size = w.heap.size + 1 + 1 := by rw [hW0]; simp
  have ca : W0.cell? ⟨w.heap.size, 0, none⟩ = some (.slice a n c) := by rw [hW0]; exact cell_alloc_sl _ (cell_new_sl w _ _)
  have cx : W0.cell? ⟨w.heap.size + 1, 0, none⟩ = some (.string p) := by rw [hW0]; have := cell_new_sl (w.alloc (.cells #[.slice a n c] 22)) (.string p) 9; rwa [World.size_alloc] at this
  have hB0 : Below w.heap.size w W0 := by rw [hW0]; exact below_boxes _ _
  have eg : ∀ args w, (callFunc 55 args).run Try.prog w = .ok (.enter 55 args) w := enters_of Try.func55 (by kernel_rfl) rfl
  have hln := hl.1
  have hS := Any.sort_Search Try.search 55 #[.pointer (some ⟨w.heap.size, 0, none⟩), .pointer (some ⟨w.heap.size + 1, 0, none⟩)] n (fun i => match l[i]? with | some x => !less x.path p | none => true) W0 eg (by omega)
    (fun m os i hi => by
      obtain ⟨x, hx⟩ : ∃ x, l[i]? = some x := ⟨_, List.getElem?_eq_getElem (by omega)⟩
      have hg := below_grown_sl w.heap.size W0 m os (by omega)
      have h := placeC_any w.heap.size (w.heap.size + 1) a n c l p (grow (W0.drewN m) os) i x hx (cell_grown (by simp [hsize]; omega) ca m os) (cell_grown (by simp [hsize]) cx m os) (hl.below (hB0.trans hg))
      rw [hx]
      exact h.mono fun _ _ ⟨he, q, hq⟩ => ⟨he, q, #[], by rw [hq, grow_empty]⟩)
    (fun i j hij hj h => by
      obtain ⟨x, hx⟩ : ∃ x, l[i]? = some x := ⟨_, List.getElem?_eq_getElem (by omega)⟩
      obtain ⟨y, hy⟩ : ∃ y, l[j]? = some y := ⟨_, List.getElem?_eq_getElem (by omega)⟩
      rw [hx] at h
      rw [hy]
      simp only [Bool.not_eq_true'] at h ⊢
      exact rise_le hr p hx hy hij h)
  have hcnt : (List.range n).countP (fun i => !(match l[i]? with | some x => !less x.path p | none => true)) = tplace l p := by
    rw [← hln]
    exact count_at l _ _ (fun i x hx => by simp only [hx, Bool.not_not])
  rw [hcnt] at hS
  change Calls Try.prog 54 _ _ _ at hS
  clear ca cx hcnt hr hl
  generalize tplace l p = r at hS ⊢
  go_enter Try.func41, Try.ntmps41
  go_wp2_with (go_at_call 54; rw [← hW0]; refine hS.mono ?_; rintro e w' ⟨rfl, q, os, rfl⟩)
  go_ret
  rw [← hW0]
  exact ⟨rfl, hB0.trans (below_grown_sl w.heap.size W0 q os (by omega))⟩
def tstands (l : List Et) (k : Nat) (p : ByteArray) : Bool := match l[k]? with
  | some x => decide (x.path = p)
  | none => false
set_option maxRecDepth 100000 in
set_option maxHeartbeats 1000000 in
theorem stands_any (a : Option Addr) (n c : Nat) (l : List Et) (k : Nat) (p : ByteArray) (w : World) (hl : Ents w a n l) (hn : n ≤ 1000000000000) (hk : k ≤ 1000000000000) :
    Calls Try.prog 42 #[.slice a n c, .int .i64 (k : Nat), .string p] w fun e w' => e = .returned (.bool (tstands l k p)) ∧ w = w' := by
  have hln := hl.1
  by_cases hlt : k < n
  · obtain ⟨x, hx⟩ : ∃ x, l[k]? = some x := ⟨_, List.getElem?_eq_getElem (by omega)⟩
    obtain ⟨b, off, rfl, hb, c1, _⟩ := hl.nth hx
    obtain ⟨P, N⟩ := x
    simp only at c1
    have hlz : (k : Int) < (n : Int) := by omega
    have hv : tstands l k p = decide (P = p) := by rw [tstands, hx]
    rw [hv]
    by_cases hp : P = p
    · have e : (P.toList == p.toList) = true := by rw [hp]; exact beq_self_eq_true _
      rw [decide_eq_true hp]
      clear hv hx hl hln hp
      go_enter Try.func42, Try.ntmps42
      go_wp2
      go_ret
      exact ⟨rfl, rfl⟩
    · have e := bytes_ne hp
      rw [decide_eq_false hp]
      clear hv hx hl hln hp
      go_enter Try.func42, Try.ntmps42
      go_wp2
      go_ret
      exact ⟨rfl, rfl⟩
  · have hv : tstands l k p = false := by rw [tstands, List.getElem?_eq_none (by omega)]
    rw [hv]
    clear hv hl hln
    go_enter Try.func42, Try.ntmps42
    go_wp2
    go_ret
    exact ⟨rfl, rfl⟩
theorem count_cut (f : Et → Bool) : ∀ (l : List Et), (∀ (i j : Nat) (x y : Et), l[i]? = some x → l[j]? = some y → i ≤ j → f x = false → f y = false) → ∀ (i : Nat) (x : Et), l[i]? = some x → f x = decide (i < l.countP f)
  | [], _, i, x, h => by cases h
  | z :: r, hm, i, x, h => by
    have hr := count_cut f r (fun i j x y hx hy hij => hm (i + 1) (j + 1) x y hx hy (by omega))
    cases hz : f z with
    | true =>
      rw [List.countP_cons_of_pos hz]
      cases i with
      | zero => injection h with h; rw [← h, hz]; rw [decide_eq_true (by omega)]
      | succ i => rw [hr i x h]; exact decide_eq_decide.2 (by omega)
    | false =>
      have h0 : r.countP f = 0 := by
        rw [List.countP_eq_zero]
        intro y hy
        obtain ⟨j, hj⟩ := List.getElem?_of_mem hy
        rw [hm 0 (j + 1) z y rfl hj (by omega) hz]
        exact Bool.false_ne_true
      rw [List.countP_cons_of_neg (by rw [hz]; exact Bool.false_ne_true), h0, decide_eq_false (by omega)]
      exact hm 0 i z x rfl h (by omega) hz
theorem place_cut {l : List Et} (hr : Rise l) (p : ByteArray) {i : Nat} {x : Et} (hx : l[i]? = some x) : less x.path p = decide (i < tplace l p) :=
  count_cut (fun x => less x.path p) l (fun i j x y hi hj hij h => rise_le hr p hi hj hij h) i x hx
theorem place_le (l : List Et) (p : ByteArray) : tplace l p ≤ l.length := List.countP_le_length
theorem rise_lt {l : List Et} (h : Rise l) {i j : Nat} {x y : Et} (hi : l[i]? = some x) (hj : l[j]? = some y) (hij : i < j) : less x.path y.path = true := by
  have hm := List.pairwise_iff_getElem.1 h i j (by rw [List.length_map]; exact (List.getElem?_eq_some_iff.1 hi).1) (by rw [List.length_map]; exact (List.getElem?_eq_some_iff.1 hj).1) hij
  rwa [List.getElem_map, List.getElem_map, (List.getElem?_eq_some_iff.1 hi).2, (List.getElem?_eq_some_iff.1 hj).2] at hm
theorem place_of {l : List Et} (hr : Rise l) {i : Nat} {x : Et} (hx : l[i]? = some x) : tplace l x.path = i := by
  have h1 := place_cut hr x.path hx
  rw [lt_irr] at h1
  have h2 := of_decide_eq_false h1.symm
  rcases Nat.lt_or_ge (tplace l x.path) i with h | h
  · obtain ⟨y, hy⟩ : ∃ y, l[tplace l x.path]? = some y := ⟨_, List.getElem?_eq_getElem (by have := (List.getElem?_eq_some_iff.1 hx).1; omega)⟩
    have h3 := place_cut hr x.path hy
    rw [rise_lt hr hy hx h] at h3
    have := of_decide_eq_true h3.symm
    omega
  · omega
theorem get_place {l : List Et} (hr : Rise l) (p : ByteArray) : (∃ x, l[tplace l p]? = some x ∧ x.path = p ∧ tstands l (tplace l p) p = true ∧ tget l p = x.node) ∨ (tstands l (tplace l p) p = false ∧ tget l p = ⟨0, ⟨#[]⟩⟩) := by
  cases hs : tstands l (tplace l p) p with
  | true =>
    left
    rw [tstands] at hs
    cases hx : l[tplace l p]? with
    | none => rw [hx] at hs; cases hs
    | some x =>
      rw [hx] at hs
      refine ⟨x, rfl, of_decide_eq_true hs, rfl, tget_hit l p _ x hx (of_decide_eq_true hs) ?_⟩
      intro y hy he
      obtain ⟨j, hj⟩ := List.getElem?_of_mem hy
      have hjk : j < tplace l p := by
        have := (List.getElem?_eq_some_iff.1 hj).1
        rw [List.length_take] at this
        omega
      rw [List.getElem?_take, if_pos hjk] at hj
      have := place_of hr hj
      rw [he] at this
      omega
  | false =>
    right
    refine ⟨rfl, tget_none l p ?_⟩
    intro y hy he
    obtain ⟨j, hj⟩ := List.getElem?_of_mem hy
    have h := place_of hr hj
    rw [he] at h
    rw [tstands, h, hj] at hs
    exact of_decide_eq_false hs he
theorem cells_two {w1 : World} {b : Nat} {u v : Value} {t : TypeId} (h : w1.heap[b]? = some (.cells #[u, v] t)) : w1.cell? ⟨b, 0, none⟩ = some u ∧ w1.cell? ⟨b, 1, none⟩ = some v ∧ ∀ k, w1.frozen? ⟨b, k, none⟩ = false := by
  refine ⟨?_, ?_, fun k => frozen_of_row w1 b k _ _ h⟩ <;> simp [World.cell?, h]
theorem two_set {w1 : World} {b : Nat} {u v x y : Value} {t : TypeId} (h : w1.heap[b]? = some (.cells #[u, v] t)) : ((w1.setCell ⟨b, 0, none⟩ x).setCell ⟨b, 1, none⟩ y).heap[b]? = some (.cells #[x, y] t) :=
  Go.heap_setCell_same _ b 1 _ _ _ (Go.heap_setCell_same _ b 0 _ _ x h)
set_option maxRecDepth 100000 in
set_option maxHeartbeats 2000000 in
theorem getR_any (a : Option Addr) (n c : Nat) (l : List Et) (p : ByteArray) (w : World) (hl : Ents w a n l) (hr : Rise l) (hn : n ≤ 1000000000000) :
    Calls Try.prog 28 #[.slice a n c, .string p] w fun e w' => e = .returned (nv (tget l p)) ∧ Below w.heap.size w w' := by
  have hB : ∀ o, Below w.heap.size w (w.alloc o) := fun o => (Below.refl _ _).alloc (Nat.le_refl _) _
  have hln := hl.1
  have hle := place_le l p
  have cp := fun W (h : Below w.heap.size w W) => place_any a n c l p W (hl.below h) hr hn
  have cs := fun W (h : Below w.heap.size w W) => stands_any a n c l (tplace l p) p W (hl.below h) hn (by omega)
  have hgp := get_place hr p
  have HL := Lib.hid hl
  obtain ⟨r, hR⟩ : ∃ r, r = tplace l p := ⟨_, rfl⟩
  rw [← hR] at cp cs hgp hle
  have HR := Lib.hid hr
  clear hr hR hl
  rcases hgp with ⟨x, hx, hp, hs, hg⟩ | ⟨hs, hg⟩
  · obtain ⟨b, off, rfl, hb, c1, c2, c3⟩ := HL.out.nth hx
    have hlt : r < n := by rw [← hln]; exact (List.getElem?_eq_some_iff.1 hx).1
    have hltz : (r : Int) < (n : Int) := by omega
    rw [hg]
    rw [hs] at cs
    obtain ⟨P, K, D⟩ := x
    simp only at c1 c2 c3
    clear hx hp hg hs hln
    go_enter Try.func28, Try.ntmps28
    go_wp2_with fail
    go_at_call 41
    refine (cp _ (hB _)).mono ?_
    rintro e w1 ⟨rfl, hb1⟩
    have hB1 := below_call (hB _) hb1
    have hblk := hb1.block w.heap.size (by simp)
    rw [heap_alloc_new] at hblk
    obtain ⟨e1, e2, e3⟩ := cells_two hblk
    have d2 := (hB1.cell (p := ⟨b, _, none⟩) hb).trans c2
    have d3 := (hB1.cell (p := ⟨b, _, none⟩) hb).trans c3
    clear c1 c2 c3
    go_wp2_with fail
    go_at_call 42
    refine (cs _ hB1).mono ?_
    rintro e w2 ⟨rfl, rfl⟩
    go_wp2_with fail
    refine bodyPost_ret (results_cell_row rfl _ _ _ _ _ _ _ rfl (two_set hblk) Try.underlying29 rfl infoN) rfl ?_
    exact ⟨rfl, (hB1.setCell (Nat.le_refl _) _).setCell (Nat.le_refl _) _⟩
  · rw [hg]
    rw [hs] at cs
    clear hg hs hln
    go_enter Try.func28, Try.ntmps28
    go_wp2_with fail
    go_at_call 41
    refine (cp _ (hB _)).mono ?_
    rintro e w1 ⟨rfl, hb1⟩
    have hB1 := below_call (hB _) hb1
    have hblk := hb1.block w.heap.size (by simp)
    rw [heap_alloc_new] at hblk
    obtain ⟨e1, e2, e3⟩ := cells_two hblk
    go_wp2_with fail
    go_at_call 42
    refine (cs _ hB1).mono ?_
    rintro e w2 ⟨rfl, rfl⟩
    go_wp2_with fail
    refine bodyPost_ret (results_cell_row rfl _ _ _ _ _ _ _ rfl (two_set hblk) Try.underlying29 rfl infoN) rfl ?_
    exact ⟨rfl, (hB1.setCell (Nat.le_refl _) _).setCell (Nat.le_refl _) _⟩
end Go.Proofs.Ytdpnmdnfnplcfaa.En

namespace Go.Proofs.Ytdpnmdnfnplcfaa.En
open Go.RowKit Tx Pm Pr
set_option linter.unusedVariables false
def ahead (l : List Et) (p : ByteArray) : Bool := match l[l.length - 1]? with
  | some y => less y.path p
  | none => true
end Go.Proofs.Ytdpnmdnfnplcfaa.En

namespace Go.Proofs.Ytdpnmdnfnplcfaa.En
open Go.RowKit Tx Pm Pr
set_option linter.unusedVariables false
theorem take_snoc {l : List Et} {k : Nat} {x : Et} (h : l[k]? = some x) : l.take (k + 1) = l.take k ++ [x] := by
  obtain ⟨hk, he⟩ := List.getElem?_eq_some_iff.1 h
  rw [List.take_succ_eq_append_getElem hk, he]
theorem whole_no {n : Nd} (h : whole n = true) : isno n = decide (n.kind = 0) := by
  by_cases hk : n.kind = 0
  · unfold whole at h
    rw [if_neg (by omega)] at h
    simp only [Bool.and_eq_true, decide_eq_true_eq] at h
    unfold isno
    rw [decide_eq_true hk, decide_eq_true (size_zero.1 h.2)]
    rfl
  · unfold isno
    rw [decide_eq_false hk, Bool.false_and]
theorem tree_rises {l : List Et} (h : tcheck l = 0) : Rise l := tree_paths h
end Go.Proofs.Ytdpnmdnfnplcfaa.En

namespace Go.Proofs.Ytdpnmdnfnplcfaa.En
open Go.RowKit Tx Pm Pr
set_option linter.unusedVariables false
end Go.Proofs.Ytdpnmdnfnplcfaa.En

namespace Go.Proofs.Ytdpnmdnfnplcfaa.En
open Go.RowKit Tx Pm Pr
set_option linter.unusedVariables false
theorem filter_take (f : Et → Bool) (l : List Et) (k : Nat) (x : Et) (h : l[k]? = some x) : (l.take (k + 1)).filter f = (l.take k).filter f ++ (if f x = true then [x] else []) := by
  rw [take_snoc h, List.filter_append, List.filter_cons, List.filter_nil]
theorem three_of {w0 w1 : World} {u v x : Value} {t : TypeId} (h : Below (w0.alloc (.cells #[u, v, x] t)).heap.size (w0.alloc (.cells #[u, v, x] t)) w1) : w1.cell? ⟨w0.heap.size, 0, none⟩ = some u ∧ w1.cell? ⟨w0.heap.size, 1, none⟩ = some v ∧ w1.cell? ⟨w0.heap.size, 2, none⟩ = some x := by
  have hlt : w0.heap.size < (w0.alloc (.cells #[u, v, x] t)).heap.size := by simp
  refine ⟨(h.cell (p := ⟨w0.heap.size, _, none⟩) hlt).trans ?_, (h.cell (p := ⟨w0.heap.size, _, none⟩) hlt).trans ?_, (h.cell (p := ⟨w0.heap.size, _, none⟩) hlt).trans ?_⟩ <;> simp
end Go.Proofs.Ytdpnmdnfnplcfaa.En

namespace Go.Proofs.Ytdpnmdnfnplcfaa.En
open Go.RowKit Tx Pm Pr
set_option linter.unusedVariables false
def bel (p : ByteArray) (x : Et) : Bool := !decide (x.path = p) && und x.path.data.toList p.data.toList
end Go.Proofs.Ytdpnmdnfnplcfaa.En

namespace Go.Proofs.Ytdpnmdnfnplcfaa.En
open Go.RowKit Tx Pm Pr
set_option linter.unusedVariables false
theorem tree_get_whole {l : List Et} (h : tcheck l = 0) (p : ByteArray) : whole (tget l p) = true := by
  by_cases hk : (tget l p).kind = 0
  · by_cases hm : p ∈ l.map (·.path)
    · exact absurd hk ((tree_path_mem h p).1 hm)
    · rw [tget_zero (fun x hx e => hm (List.mem_map.2 ⟨x, hx, e⟩))]
      rfl
  · obtain ⟨x, hx, rfl⟩ := List.mem_map.1 ((tree_path_mem h p).2 hk)
    rw [tree_get h hx]
    obtain ⟨i, hi⟩ := List.getElem?_of_mem hx
    exact (tree_at h hi).2.1
end Go.Proofs.Ytdpnmdnfnplcfaa.En

namespace Go.Proofs.Ytdpnmdnfnplcfaa.En
open Go.RowKit Tx Pm Pr
set_option linter.unusedVariables false
def Src (w : World) (v : Value) (l : List Et) : Prop := ∃ a n c, v = .slice a n c ∧ Ents w a n l ∧ (a = none → c = 0)
theorem Src.below {w w1 : World} {v : Value} {l : List Et} (h : Src w v l) (hb : Below w.heap.size w w1) : Src w1 v l := by
  obtain ⟨a, n, c, h1, h2, h3⟩ := h
  exact ⟨a, n, c, h1, h2.below hb, h3⟩
end Go.Proofs.Ytdpnmdnfnplcfaa.En

namespace Go.Proofs.Ytdpnmdnfnplcfaa.En
open Go.RowKit Tx Pm Pr
set_option linter.unusedVariables false
def one (p : ByteArray) (n : Nd) : List Et := if isno n = true then [] else [⟨p, n⟩]
end Go.Proofs.Ytdpnmdnfnplcfaa.En

namespace Go.Proofs.Ytdpnmdnfnplcfaa.En
open Go.RowKit Tx Pm Pr
set_option linter.unusedVariables false
theorem tree_len {l : List Et} (h : tcheck l = 0) : l.length ≤ 200 := by
  unfold tcheck at h
  split at h
  · cases h
  · omega
theorem Ents.drop {w : World} {b off n k : Nat} {l : List Et} (h : Ents w (some ⟨b, off, none⟩) n l) (hk : k ≤ n) : Ents w (some ⟨b, off + k * 3, none⟩) (n - k) (l.drop k) := by
  refine ⟨by rw [List.length_drop, h.1], ?_⟩
  by_cases h0 : n - k = 0
  · exact .inl h0
  · rcases h.2 with h1 | ⟨b', off', ha, hlt, hc⟩
    · omega
    · injection ha with ha
      injection ha with ha1 ha2
      subst ha1 ha2
      refine .inr ⟨b, off + k * 3, rfl, hlt, fun j x hx => ?_⟩
      rw [List.getElem?_drop] at hx
      have := hc _ x hx
      rw [show off + (k + j) * 3 = off + k * 3 + j * 3 by omega] at this
      exact this
end Go.Proofs.Ytdpnmdnfnplcfaa.En

namespace Go.Proofs.Ytdpnmdnfnplcfaa.En
open Go.RowKit Tx Pm Pr
set_option linter.unusedVariables false
end Go.Proofs.Ytdpnmdnfnplcfaa.En



namespace Go.Proofs.Ytdpnmdnfnplcfaa.En
open Go.RowKit Tx Pm Pr Go.Sort Go.Lib Go.Shelf
set_option linter.unusedVariables false
instance : Inhabited Et := ⟨⟨⟨#[]⟩, ⟨0, ⟨#[]⟩⟩⟩⟩
end Go.Proofs.Ytdpnmdnfnplcfaa.En

namespace Go.Proofs.Ytdpnmdnfnplcfaa.En
open Go.RowKit Tx Pm Pr
set_option linter.unusedVariables false
theorem rise_nodup {l : List Et} (h : Rise l) : (l.map (·.path)).Nodup := by
  unfold Rise at h
  refine h.imp (fun hab e => ?_)
  rw [e, lt_irr] at hab
  cases hab
end Go.Proofs.Ytdpnmdnfnplcfaa.En

namespace Go.Proofs.Ytdpnmdnfnplcfaa.En
open Go.RowKit Tx Pm Pr
set_option linter.unusedVariables false
end Go.Proofs.Ytdpnmdnfnplcfaa.En

namespace Go.Proofs.Ytdpnmdnfnplcfaa.En
open Go.RowKit Tx Pm Pr Go.Sort Go.Lib Go.Shelf
set_option linter.unusedVariables false
theorem less_iff (a b : ByteArray) : less a b = decide (a.data.toList < b.data.toList) := by
  unfold less
  rw [bytesLess_eq, ByteArray.toList_eq, ByteArray.toList_eq]
theorem merge_sorted (l : List (List UInt8)) : (l.mergeSort fun x y => decide (x ≤ y)).Pairwise (fun a b => ¬ b < a) := by
  have h := List.pairwise_mergeSort (le := fun x y : List UInt8 => decide (x ≤ y)) (fun a b c h1 h2 => decide_eq_true (List.le_trans (of_decide_eq_true h1) (of_decide_eq_true h2))) (fun a b => by
    rcases List.le_total a b with h | h
    · simp [h]
    · simp [h]) l
  exact h.imp (fun hab => of_decide_eq_true hab)
theorem encS (l : List ByteArray) : (l.map (·.data.toList)).map encStr = l.map sv := by
  rw [List.map_map]
  refine List.map_congr_left (fun x _ => ?_)
  rfl
theorem encT (l : List (List UInt8)) : l.map encStr = (l.map tb).map sv := by
  rw [List.map_map]
  rfl
theorem below_sortS {w : World} {B g q : Nat} {d : Array (List UInt8)} {os : Array Obj} (hg : B ≤ g) (hB : B ≤ w.heap.size) : RowKit.Below B w (grow (putRow encStr (Sort.ahead w q) g 0 d) os) := by
  have h1 : RowKit.Below B w (putRow encStr (Sort.ahead w q) g 0 d) := Lib.below_putRow (RowKit.Below.refl B w) hg
  refine ⟨h1.os, h1.tape, h1.output, by simp, fun k hk => ?_⟩
  rw [heap_grow_old _ _ (by have h2 : (putRow encStr (Sort.ahead w q) g 0 d).heap.size = w.heap.size := by simp
                            omega)]
  exact h1.block k hk
set_option maxRecDepth 100000 in
set_option maxHeartbeats 1000000 in
theorem sortS_any (v : Value) (ss : List ByteArray) (w : World) (B : Nat) (hT : Texts w B v ss) (hB : B ≤ w.heap.size) (hn : ss.length ≤ 4000000000) :
    Calls Try.prog 30 #[v] w fun e w' => e = .returned (.tuple #[]) ∧ ∃ ts : List ByteArray, ts.Perm ss ∧ ts.Pairwise (fun a b => less b a = false) ∧ Texts w' B v ts ∧ RowKit.Below B w w' := by
  have hT2 := hT
  obtain ⟨hlen, h2⟩ := hT2
  rcases h2 with ⟨hv, h0⟩ | ⟨g, cap, cur, hv, hb, hg, hc, hm, hs, ht⟩
  · subst hv
    obtain rfl : ss = [] := List.length_eq_zero_iff.1 h0
    have h := Any.slices_Sort_string_none Try.sortS none 0 w
    change Calls Try.prog 30 _ _ _ at h
    refine h.mono ?_
    rintro e w' ⟨rfl, rfl⟩
    exact ⟨rfl, [], List.Perm.refl _, List.Pairwise.nil, hT, RowKit.Below.refl _ _⟩
  · subst hv
    have hlt : g < w.heap.size := (Array.getElem?_eq_some_iff.1 hg).1
    obtain ⟨zs, hz⟩ : ∃ zs, zs = ss.map (·.data.toList) := ⟨_, rfl⟩
    have hzl : zs.length = ss.length := by rw [hz, List.length_map]
    have hH : Holds encStr w g 0 zs.toArray := holds_of_block hg (by
      rw [Nat.mul_one] at ht
      rw [hzl, ht, hz, encS])
    have h := Any.slices_Sort_string Try.sortS g 0 cap zs w hH hlt (by omega)
    change Calls Try.prog 30 _ _ _ at h
    rw [hzl] at h
    refine h.mono ?_
    rintro e w' ⟨rfl, q, os, rfl⟩
    have hml : (zs.mergeSort fun x y => decide (x ≤ y)).length = zs.length := List.length_mergeSort zs
    refine ⟨rfl, (zs.mergeSort fun x y => decide (x ≤ y)).map tb, ?_, ?_, ?_, below_sortS hb hB⟩
    · have h1 := (List.mergeSort_perm zs (fun x y => decide (x ≤ y))).map tb
      have h2 : zs.map tb = ss := by
        rw [hz, List.map_map]
        conv => rhs; rw [← List.map_id ss]
        exact List.map_congr_left (fun x _ => tb_of x)
      rwa [h2] at h1
    · rw [List.pairwise_map]
      refine (merge_sorted zs).imp (fun hab => ?_)
      rw [less_iff]
      exact decide_eq_false hab
    · have h1 := ownsRow_sorted (ss := zs) (ts := zs.mergeSort fun x y => decide (x ≤ y)) (n := q) (os := os) hml hb hg (by rw [hzl]; exact hc) hm hs
      unfold Texts
      rw [List.length_map, hml, ← encT, hzl]
      rw [hzl] at h1
      exact h1
def nsame (a b : Nd) : Bool := decide (a.kind = b.kind) && decide (a.data = b.data)
theorem nsame_iff (a b : Nd) : nsame a b = true ↔ a = b := by
  unfold nsame
  rw [Bool.and_eq_true, decide_eq_true_eq, decide_eq_true_eq]
  obtain ⟨k, d⟩ := a
  obtain ⟨k2, d2⟩ := b
  constructor
  · rintro ⟨h1, h2⟩
    simp only at h1 h2
    rw [h1, h2]
  · intro h
    injection h with h1 h2
    exact ⟨h1, h2⟩
def dif (l : List Et) (x : Et) : Bool := !nsame (tget l x.path) x.node
def gone (l : List Et) (x : Et) : Bool := isno (tget l x.path)
def pths (f : Et → Bool) (l : List Et) : List ByteArray := (l.filter f).map (·.path)
theorem pths_take (f : Et → Bool) (l : List Et) (k : Nat) (x : Et) (h : l[k]? = some x) : pths f (l.take (k + 1)) = pths f (l.take k) ++ (if f x = true then [x.path] else []) := by
  unfold pths
  rw [filter_take f l k x h, List.map_append]
  split <;> rfl
theorem tree_diff {la lb : List Et} (ha : tcheck la = 0) (hb : tcheck lb = 0) {ts : List ByteArray} (hp : ts.Perm (pths (dif lb) la ++ pths (gone la) lb)) (hs : ts.Pairwise (fun a b => less b a = false)) : ts = tdiff la lb := by
  obtain ⟨d1, d2, _⟩ := tdiff_all la lb
  have hmem : ∀ p, p ∈ pths (dif lb) la ++ pths (gone la) lb ↔ tget la p ≠ tget lb p := by
    intro p
    rw [List.mem_append]
    unfold pths
    rw [List.mem_map, List.mem_map]
    constructor
    · rintro (⟨x, hx, rfl⟩ | ⟨x, hx, rfl⟩)
      · obtain ⟨h1, h2⟩ := List.mem_filter.1 hx
        unfold dif at h2
        rw [Bool.not_eq_true', ← Bool.not_eq_true, nsame_iff] at h2
        rw [tree_get ha h1]
        exact fun h => h2 h.symm
      · obtain ⟨h1, h2⟩ := List.mem_filter.1 hx
        unfold gone at h2
        rw [whole_no (tree_get_whole ha _), decide_eq_true_eq] at h2
        rw [tree_get hb h1]
        intro h
        rw [h] at h2
        obtain ⟨i, hi⟩ := List.getElem?_of_mem h1
        exact (tree_at hb hi).2.2.1 h2
    · intro hne
      by_cases hm : p ∈ la.map (·.path)
      · obtain ⟨x, hx, rfl⟩ := List.mem_map.1 hm
        left
        refine ⟨x, List.mem_filter.2 ⟨hx, ?_⟩, rfl⟩
        unfold dif
        rw [Bool.not_eq_true', ← Bool.not_eq_true, nsame_iff]
        rw [tree_get ha hx] at hne
        exact fun h => hne h.symm
      · right
        have hz := tget_zero (l := la) (p := p) (fun x hx e => hm (List.mem_map.2 ⟨x, hx, e⟩))
        by_cases hm2 : p ∈ lb.map (·.path)
        · obtain ⟨x, hx, rfl⟩ := List.mem_map.1 hm2
          refine ⟨x, List.mem_filter.2 ⟨hx, ?_⟩, rfl⟩
          unfold gone
          rw [hz]
          rfl
        · have hz2 := tget_zero (l := lb) (p := p) (fun x hx e => hm2 (List.mem_map.2 ⟨x, hx, e⟩))
          rw [hz, hz2] at hne
          exact absurd rfl hne
  have hnd : (pths (dif lb) la ++ pths (gone la) lb).Nodup := by
    refine List.nodup_append.2 ⟨?_, ?_, ?_⟩
    · exact (rise_nodup (tree_rises ha)).sublist (List.Sublist.map _ List.filter_sublist)
    · exact (rise_nodup (tree_rises hb)).sublist (List.Sublist.map _ List.filter_sublist)
    · intro p h1 q h2 e
      subst e
      obtain ⟨x, hx, hxp⟩ := List.mem_map.1 h1
      obtain ⟨y, hy, hyp⟩ := List.mem_map.1 h2
      have h3 := (List.mem_filter.1 hy).2
      unfold gone at h3
      rw [whole_no (tree_get_whole ha _), decide_eq_true_eq, hyp, ← hxp, tree_get ha (List.mem_filter.1 hx).1] at h3
      obtain ⟨i, hi⟩ := List.getElem?_of_mem (List.mem_filter.1 hx).1
      exact (tree_at ha hi).2.2.1 h3
  refine rise_ext _ _ ?_ d1 (fun p => by rw [hp.mem_iff, hmem, d2])
  exact (hs.and (hp.nodup_iff.2 hnd)).imp (fun hab => lt_le hab.1 hab.2)
end Go.Proofs.Ytdpnmdnfnplcfaa.En

namespace Go.Proofs.Ytdpnmdnfnplcfaa.En
open Go.RowKit Tx Pm Pr
set_option linter.unusedVariables false
theorem cell_one (w : World) (a : Value) (t : TypeId) : ∀ j u, [a][j]? = some u → (w.alloc (.cells #[a] t)).cell? ((⟨w.heap.size, 0, none⟩ : Addr).add j) = some u := by
  intro j u hj
  match j, hj with
  | 0, hj => simp at hj; subst hj; simp [Addr.add]
  | j + 1, hj => simp at hj
set_option maxRecDepth 100000 in
set_option maxHeartbeats 8000000 in
theorem diffI_any (a : Option Addr) (n c : Nat) (la : List Et) (b : Option Addr) (m c2 : Nat) (lb : List Et) (w : World) (ha : Ents w a n la) (hb : Ents w b m lb) (ht1 : tcheck la = 0) (ht2 : tcheck lb = 0) :
    Calls Try.prog 17 #[.slice a n c, .slice b m c2] w (DiffTo (tdiff la lb) w) := by
  obtain ⟨s0, si, sz0, sz1, sz2⟩ := info_parts info9
  have hlna := ha.1
  have hlnb := hb.1
  have hn := tree_len ht1
  have hm := tree_len ht2
  rw [hlna] at hn
  rw [hlnb] at hm
  have cga := fun p W (h : Below w.heap.size w W) => getR_any a n c la p W (ha.below h) (tree_rises ht1) (by omega)
  have cgb := fun p W (h : Below w.heap.size w W) => getR_any b m c2 lb p W (hb.below h) (tree_rises ht2) (by omega)
  have HTD := Lib.hid (fun (ts : List ByteArray) (h1 : ts.Perm (pths (dif lb) la ++ pths (gone la) lb)) (h2 : ts.Pairwise (fun a b => less b a = false)) => tree_diff ht1 ht2 h1 h2)
  have HA := Lib.hid ha
  have HB := Lib.hid hb
  have HLA := Lib.hid hlna
  have HLB := Lib.hid hlnb
  have hgN := guardN
  unfold nv at cga cgb
  clear ha hb ht1 ht2 hlna hlnb
  go_enter Try.func17, Try.ntmps17
  go_wp2_with fail
  go_loopw [5, 12] (fun v i wr => ∃ (k : Nat) (out : List ByteArray), k ≤ n ∧ i = .int .i64 k ∧ Hid (out = pths (dif lb) (la.take k)) ∧ out.length ≤ k ∧ Texts wr w.heap.size v out ∧ Below w.heap.size w wr) (fun _ i _ => n - (intOf i).toNat)
  case atStart => exact ⟨0, [], Nat.zero_le _, rfl, rfl, Nat.le_refl _, World.ownsRow_nil _ _ _ _, Below.refl _ _⟩
  case round =>
    obtain ⟨k, out, hk, rfl, hT, hlen, htx, hW⟩ := hrel
    by_cases hlt : k < n
    · obtain ⟨x, hx⟩ : ∃ x, la[k]? = some x := ⟨_, List.getElem?_eq_getElem (by have := HLA.out; omega)⟩
      obtain ⟨ba, oa, rfl, hba, c1, c2', c3⟩ := HA.out.nth hx
      have d1 := (hW.cell (p := ⟨ba, _, none⟩) hba).trans c1
      have d2 := (hW.cell (p := ⟨ba, _, none⟩) hba).trans c2'
      have d3 := (hW.cell (p := ⟨ba, _, none⟩) hba).trans c3
      have hsucc := pths_take (dif lb) la k x hx
      rw [← hT.out] at hsucc
      have hdif : dif lb x = !nsame (tget lb x.path) x.node := rfl
      have hltz : (k : Int) < (n : Int) := by omega
      obtain ⟨P, K, D⟩ := x
      simp only at d1 d2 d3 hdif hsucc
      have cg := cgb P
      obtain ⟨G, hG⟩ : ∃ G, G = tget lb P := ⟨_, rfl⟩
      rw [← hG] at cg hdif
      obtain ⟨K2, D2⟩ := G
      simp only at cg
      have hW2 := hW.alloc hW.size (.cells #[.string P, .int .i64 K, .string D] 42)
      clear c1 c2' c3 hx hT hG
      by_cases hsame : (⟨K2, D2⟩ : Nd) = ⟨K, D⟩
      · injection hsame with h1 h2
        subst h1 h2
        rw [hdif, (nsame_iff _ _).2 rfl, Bool.not_true, if_neg (by decide), List.append_nil] at hsucc
        have HN := Lib.hid hsucc.symm
        clear hsucc hdif
        go_wp2_with fail
        go_region_with (go_at_call 28; refine (cg _ hW2.drew).mono ?_; rintro e w2 ⟨rfl, hb2⟩; obtain ⟨f1, f2, f3⟩ := three_of ((Below.refl _ _).drew.trans hb2))
        all_goals
          have hW3 := below_call hW2.drew hb2
          have htx3 := (htx.below ((Below.refl _ wr).alloc (Nat.le_refl _) _)).below (((Below.refl _ _).drew).trans hb2)
          clear htx hW hW2 hb2
          go_wp2_with fail
          go_roundw
          case rel => exact ⟨k + 1, out, by omega, by go_num, HN, by omega, htx3, hW3⟩
          case measure => simp [intOf]; omega
      · have hns : nsame ⟨K2, D2⟩ ⟨K, D⟩ = false := Bool.eq_false_iff.2 (fun h => hsame ((nsame_iff _ _).1 h))
        rw [hdif, hns, Bool.not_false, if_pos rfl] at hsucc
        have HN := Lib.hid hsucc.symm
        clear hsucc hdif hns
        by_cases hK : K2 = K
        · have hD : D2 ≠ D := fun h => hsame (by rw [hK, h])
          have eD := bytes_ne hD
          subst hK
          clear hsame hD
          go_wp2_with fail
          go_region_with (go_at_call 28; refine (cg _ hW2.drew).mono ?_; rintro e w2 ⟨rfl, hb2⟩; obtain ⟨f1, f2, f3⟩ := three_of ((Below.refl _ _).drew.trans hb2))
          all_goals
            have hW3 := below_call hW2.drew hb2
            have hown := (htx.below ((Below.refl _ wr).alloc (Nat.le_refl _) _)).below (((Below.refl _ _).drew).trans hb2)
            unfold Texts at hown
            clear htx hW hW2 hb2
            go_wp2_with (at_builtin; refine wpList_append_own _ rfl _ _ 25 rfl w.heap.size 9 s0 (.string ⟨#[]⟩) 1 16 Try.underlying25 si sz0 sz1 sz2 rfl (by decide) _ _ _ rfl (hown.alloc _) ⟨w2.heap.size, 0, none⟩ 1 1 [sv P] rfl rfl (cell_one _ _ _) (sv_one [P]) (by unfold maxLen; omega) (by omega) (by have := hW3.size; simp; omega) ?_)
            intro v' w3 hown' hgrow _
            have hW4 := below_step hW3 hown hgrow
            have htx4 : Texts w3 w.heap.size v' (out ++ [P]) := by
              unfold Texts
              rw [List.length_append, List.map_append]
              exact hown'
            clear hown hown' hgrow hW3
            go_wp2_with fail
            go_roundw
            case rel => exact ⟨k + 1, out ++ [P], by omega, by go_num, HN, by simp; omega, htx4, hW4⟩
            case measure => simp [intOf]; omega
        · have eK : ((K2 : Int) == K) = false := beq_eq_false_iff_ne.2 hK
          clear hsame hK
          go_wp2_with fail
          go_region_with (go_at_call 28; refine (cg _ hW2.drew).mono ?_; rintro e w2 ⟨rfl, hb2⟩; obtain ⟨f1, f2, f3⟩ := three_of ((Below.refl _ _).drew.trans hb2))
          all_goals
            have hW3 := below_call hW2.drew hb2
            have hown := (htx.below ((Below.refl _ wr).alloc (Nat.le_refl _) _)).below (((Below.refl _ _).drew).trans hb2)
            unfold Texts at hown
            clear htx hW hW2 hb2
            go_wp2_with (at_builtin; refine wpList_append_own _ rfl _ _ 25 rfl w.heap.size 9 s0 (.string ⟨#[]⟩) 1 16 Try.underlying25 si sz0 sz1 sz2 rfl (by decide) _ _ _ rfl (hown.alloc _) ⟨w2.heap.size, 0, none⟩ 1 1 [sv P] rfl rfl (cell_one _ _ _) (sv_one [P]) (by unfold maxLen; omega) (by omega) (by have := hW3.size; simp; omega) ?_)
            intro v' w3 hown' hgrow _
            have hW4 := below_step hW3 hown hgrow
            have htx4 : Texts w3 w.heap.size v' (out ++ [P]) := by
              unfold Texts
              rw [List.length_append, List.map_append]
              exact hown'
            clear hown hown' hgrow hW3
            go_wp2_with fail
            go_roundw
            case rel => exact ⟨k + 1, out ++ [P], by omega, by go_num, HN, by simp; omega, htx4, hW4⟩
            case measure => simp [intOf]; omega
    · obtain rfl : k = n := by omega
      have h := hT.out
      rw [List.take_of_length_le (by have := HLA.out; omega)] at h
      have HO := Lib.hid h
      have hol : out.length ≤ 200 := by omega
      have htx0 := htx
      have hW0 := hW
      clear hT h hlen htx hW hlt hk
      go_wp2_with fail
      go_loopw [5, 31] (fun v i wr => ∃ (j : Nat) (rest : List ByteArray), j ≤ m ∧ i = .int .i64 j ∧ Hid (rest = out ++ pths (gone la) (lb.take j)) ∧ rest.length ≤ 200 + j ∧ Texts wr w.heap.size v rest ∧ Below w.heap.size w wr) (fun _ i _ => m - (intOf i).toNat)
      case atStart => exact ⟨0, out, Nat.zero_le _, rfl, by show _ = _; simp [pths], by omega, htx0, hW0⟩
      case round =>
        obtain ⟨j, rest, hj, rfl, hT, hlen, htx, hW⟩ := hrel
        by_cases hlt : j < m
        · obtain ⟨x, hx⟩ : ∃ x, lb[j]? = some x := ⟨_, List.getElem?_eq_getElem (by have := HLB.out; omega)⟩
          obtain ⟨bb, ob, rfl, hbb, c1, c2', c3⟩ := HB.out.nth hx
          have d1 := (hW.cell (p := ⟨bb, _, none⟩) hbb).trans c1
          have d2 := (hW.cell (p := ⟨bb, _, none⟩) hbb).trans c2'
          have d3 := (hW.cell (p := ⟨bb, _, none⟩) hbb).trans c3
          have hsucc : out ++ pths (gone la) (lb.take (j + 1)) = out ++ (pths (gone la) (lb.take j) ++ (if gone la x = true then [x.path] else [])) := by rw [pths_take (gone la) lb j x hx]
          rw [← List.append_assoc, ← hT.out] at hsucc
          have hgo : gone la x = isno (tget la x.path) := rfl
          have hltz : (j : Int) < (m : Int) := by omega
          obtain ⟨P, K, D⟩ := x
          simp only at d1 d2 d3 hgo hsucc
          have cg := cga P
          have ci := fun W => isNone_any (tget la P) W
          unfold nv at ci
          rw [← hgo] at ci
          obtain ⟨F, hF⟩ : ∃ F, F = gone la ⟨P, K, D⟩ := ⟨_, rfl⟩
          rw [← hF] at ci hsucc
          obtain ⟨G, hG⟩ : ∃ G, G = tget la P := ⟨_, rfl⟩
          rw [← hG] at cg ci
          obtain ⟨K2, D2⟩ := G
          simp only at cg ci
          have hW2 := hW.alloc hW.size (.cells #[.string P, .int .i64 K, .string D] 42)
          clear c1 c2' c3 hx hT hG hF hgo
          go_wp2_with fail
          go_at_call 28
          refine (cg _ hW2).mono ?_
          rintro e w2 ⟨rfl, hb2⟩
          have hW3 := below_call hW2 hb2
          obtain ⟨f1, f2, f3⟩ := three_of hb2
          go_wp2_with fail
          go_at_call 29
          refine (ci _).mono ?_
          rintro e w3 ⟨rfl, hb3'⟩
          have hb3 := below_call hb2 hb3'
          have hW4 := below_call hW2 hb3
          have hown := (htx.below ((Below.refl _ wr).alloc (Nat.le_refl _) _)).below hb3
          clear htx hW hW3 cg ci f1 f2 f3
          obtain ⟨f1, f2, f3⟩ := three_of hb3
          clear hb2 hb3 hb3' hW2
          cases F with
          | false =>
            rw [if_neg (by decide), List.append_nil] at hsucc
            have HN := Lib.hid hsucc.symm
            clear hsucc
            go_wp2_with fail
            go_roundw
            case rel => exact ⟨j + 1, rest, by omega, by go_num, HN, by omega, hown, hW4⟩
            case measure => simp [intOf]; omega
          | true =>
            rw [if_pos rfl] at hsucc
            have HN := Lib.hid hsucc.symm
            clear hsucc
            unfold Texts at hown
            go_wp2_with (at_builtin; refine wpList_append_own _ rfl _ _ 25 rfl w.heap.size 9 s0 (.string ⟨#[]⟩) 1 16 Try.underlying25 si sz0 sz1 sz2 rfl (by decide) _ _ _ rfl (hown.alloc _) ⟨w3.heap.size, 0, none⟩ 1 1 [sv P] rfl rfl (cell_one _ _ _) (sv_one [P]) (by unfold maxLen; omega) (by omega) (by have := hW4.size; simp; omega) ?_)
            intro v' w4 hown' hgrow _
            have hW5 := below_step hW4 hown hgrow
            have htx4 : Texts w4 w.heap.size v' (rest ++ [P]) := by
              unfold Texts
              rw [List.length_append, List.map_append]
              exact hown'
            clear hown hown' hgrow hW4
            go_wp2_with fail
            go_roundw
            case rel => exact ⟨j + 1, rest ++ [P], by omega, by go_num, HN, by simp; omega, htx4, hW5⟩
            case measure => simp [intOf]; omega
        · obtain rfl : j = m := by omega
          have h := hT.out
          rw [List.take_of_length_le (by have := HLB.out; omega), HO.out] at h
          have HR := Lib.hid h
          have cso := sortS_any _ rest wr w.heap.size htx hW.size (by omega)
          clear hT h hlen hlt
          obtain ⟨av, cv, hv, _⟩ := Texts.form htx
          obtain ⟨Q, hQ⟩ : ∃ Q, Q = rest.length := ⟨_, rfl⟩
          rw [← hQ] at hv
          subst hv
          clear htx hQ
          go_wp2_with fail
          go_at_call 30
          refine cso.mono ?_
          rintro e w5 ⟨rfl, ts, hperm, hsort, htx5, hb5⟩
          have HTS := Lib.hid (HTD.out ts (by rw [← HR.out]; exact hperm) hsort)
          have hW5 := hW.trans hb5
          have HTX := Lib.hid htx5
          clear hperm hsort htx5 cso
          go_wp2_with fail
          go_ret
          exact ⟨_, rfl, by rw [← HTS.out]; exact HTX.out, hW5⟩
end Go.Proofs.Ytdpnmdnfnplcfaa.En

namespace Go.Proofs.Ytdpnmdnfnplcfaa.Sc
open Go.RowKit Tx
set_option linter.unusedVariables false
set_option maxRecDepth 100000 in
set_option maxHeartbeats 4000000 in
theorem chgA (ops : Array Oper) (hops : ops = (Rg.opsOf Try.f3 9)) (id : Nat) (bd od L c4 k : Nat) (q : ByteArray) {u0 u1 u2 u3 u4 u5 u6 u8 u10 u11 u12 u13 u14 u15 u16 u17 u18 u19 u20 u21 u22 u23 u24 u25 u26 u27 u28 u29 u30 u31 u32 u33 u34 u35 u36 u37 u38 u39 u40 u41 u42 u43 u44 u45 u46 u47 u48 u49 u50 u51 u52 u53 u54 u55 u56 u57 u58 u59 u60 u61 u62 u63 u64 u65 u66 u67 u68 u69 u70 u71 u72 u73 u74 u75 u76 u77 u78 u79 u80 u81 u82 u83 u84 u85 u86 u87 : Value} (w : World) (X : World → Prop) (hlt : (k : Int) < (L : Int))
    (hX : ∀ W, X W → W.cell? ⟨bd, od + k, none⟩ = some (.string q)) (hw : X w.drew) (G1 : ∀ W : World, (binOp .gtr 3 (.int .i64 (k : Int)) (.int .i64 0)).run Try.prog W = .ok (.bool false) W)
    (hA : ∀ W, X W → Calls Try.prog 7 #[.string q, .int .i64 5] W fun e w' => e = .returned (.int .i64 0) ∧ X w') :
    (Code.region id ops true).wp Try.prog (Rg.Only fun a' w' => a' = ⟨#[u0, u1, u2, u3, u4, u5, u6, (.slice (some ⟨bd, od, none⟩) L c4), u8, (.int .i64 (k : Int)), u10, u11, u12, u13, u14, u15, u16, u17, u18, u19, u20, u21, u22, u23, u24, u25, u26, u27, u28, u29, u30, u31, u32, u33, u34, u35, u36, u37, u38, u39, u40, (.slice (some ⟨bd, od, none⟩) L c4), (.int .i64 (k : Int)), (.pointer (some ⟨bd, od + k, none⟩)), (.string q), (.int .i64 0), (.bool false), (.bool false), (.int .i64 (k : Int)), (.bool false), (.bool false), undef, undef, undef, undef, undef, undef, undef, undef, undef, undef, (Value.bool false), (Value.bool false), u63, u64, u65, u66, u67, u68, u69, u70, u71, u72, u73, u74, u75, u76, u77, u78, u79, u80, u81, u82, u83, u84, u85, u86, u87], []⟩ ∧ X w') ⟨#[u0, u1, u2, u3, u4, u5, u6, (.slice (some ⟨bd, od, none⟩) L c4), u8, (.int .i64 (k : Int)), u10, u11, u12, u13, u14, u15, u16, u17, u18, u19, u20, u21, u22, u23, u24, u25, u26, u27, u28, u29, u30, u31, u32, u33, u34, u35, u36, u37, u38, u39, u40, u41, u42, u43, u44, u45, u46, u47, u48, u49, u50, u51, u52, u53, u54, u55, u56, u57, u58, u59, u60, u61, u62, u63, u64, u65, u66, u67, u68, u69, u70, u71, u72, u73, u74, u75, u76, u77, u78, u79, u80, u81, u82, u83, u84, u85, u86, u87], []⟩ w := by
  subst hops
  have hNS : Region.noSelect (Rg.opsOf Try.f3 9) = true := by kernel_rfl
  refine wp_region_held_drew (S := X) (by kernel_rfl) hw (fun hHeld => ?_)
  rw [show (Rg.opsOf Try.f3 9).size = 22 by kernel_rfl]
  refine Rg.take (ops := (Rg.opsOf Try.f3 9)) 0 (some 41) ((.slice (some ⟨bd, od, none⟩) L c4)) hNS (by kernel_rfl) (by kernel_rfl) (by kernel_rfl) (by kernel_rfl) (by kernel_rfl) hHeld (Rg.y_move (x := (Operand.tmp 7)) (Or.inl (by kernel_rfl)) (by kernel_rfl)) ?_
  refine Rg.take (ops := (Rg.opsOf Try.f3 9)) 1 (some 42) ((.int .i64 (k : Int))) hNS (by kernel_rfl) (by kernel_rfl) (by kernel_rfl) (by kernel_rfl) (by kernel_rfl) hHeld (Rg.y_move (x := (Operand.tmp 9)) (Or.inl (by kernel_rfl)) (by kernel_rfl)) ?_
  refine Rg.take (ops := (Rg.opsOf Try.f3 9)) 2 (some 43) ((.pointer (some ⟨bd, od + k, none⟩))) hNS (by kernel_rfl) (by kernel_rfl) (by kernel_rfl) (by kernel_rfl) (by kernel_rfl) hHeld (Rg.y_at (T := 25) (x := (Operand.tmp 41)) (y := (Operand.tmp 42)) (vx := (.slice (some ⟨bd, od, none⟩) L c4)) (vy := (.int .i64 (k : Int))) (by kernel_rfl) (by kernel_rfl) (by kernel_rfl) ?_) ?_
  · (intro W hSw; clear hSw hHeld; go_simp <;> first | omega | (intro h0; omega))
  refine Rg.take (ops := (Rg.opsOf Try.f3 9)) 3 (some 44) ((.string q)) hNS (by kernel_rfl) (by kernel_rfl) (by kernel_rfl) (by kernel_rfl) (by kernel_rfl) hHeld (Rg.y_load (T := 9) (x := (Operand.tmp 43)) (vx := (.pointer (some ⟨bd, od + k, none⟩))) (by kernel_rfl) (by kernel_rfl) ?_) ?_
  · (intro W hSw; have hc := hX _ hSw; clear hSw hHeld; go_simp)
  refine Rg.call (ops := (Rg.opsOf Try.f3 9)) (fn := Try.f7) (xs := #[Operand.tmp 44, Operand.const (Value.int IntKind.i64 5)]) (ats := #[9, 3]) 4 (some 45) 7 #[(.string q), (Value.int IntKind.i64 5)] (by kernel_rfl) (by kernel_rfl) (by kernel_rfl) (by kernel_rfl) (by kernel_rfl) Try.func7 (by kernel_rfl) (by kernel_rfl) (by kernel_rfl) ?_
  refine (hA _ hHeld).mono ?_
  rintro e w5 ⟨rfl, k5⟩
  refine ⟨_, rfl, k5, fun hHeld => ?_⟩
  refine Rg.take (ops := (Rg.opsOf Try.f3 9)) 5 (some 46) ((.bool false)) hNS (by kernel_rfl) (by kernel_rfl) (by kernel_rfl) (by kernel_rfl) (by kernel_rfl) hHeld (Rg.y_bin (b := BinOp.neq) (T := 3) (R' := 3) (x := (Operand.tmp 45)) (y := (Operand.const (Value.int IntKind.i64 0))) (vx := (.int .i64 0)) (vy := (Value.int IntKind.i64 0)) (by kernel_rfl) (by kernel_rfl) (by kernel_rfl) ?_) ?_
  · (intro W hSw; clear hSw hHeld; go_simp)
  refine Rg.take (ops := (Rg.opsOf Try.f3 9)) 6 (some 47) ((.bool false)) hNS (by kernel_rfl) (by kernel_rfl) (by kernel_rfl) (by kernel_rfl) (by kernel_rfl) hHeld (Rg.y_move (x := (Operand.tmp 46)) (Or.inl (by kernel_rfl)) (by kernel_rfl)) ?_
  refine Rg.take (ops := (Rg.opsOf Try.f3 9)) 7 (some 48) ((.int .i64 (k : Int))) hNS (by kernel_rfl) (by kernel_rfl) (by kernel_rfl) (by kernel_rfl) (by kernel_rfl) hHeld (Rg.y_move (x := (Operand.tmp 9)) (Or.inl (by kernel_rfl)) (by kernel_rfl)) ?_
  refine Rg.take (ops := (Rg.opsOf Try.f3 9)) 8 (some 49) ((.bool false)) hNS (by kernel_rfl) (by kernel_rfl) (by kernel_rfl) (by kernel_rfl) (by kernel_rfl) hHeld (Rg.y_bin (b := BinOp.gtr) (T := 3) (R' := 3) (x := (Operand.tmp 48)) (y := (Operand.const (Value.int IntKind.i64 0))) (vx := (.int .i64 (k : Int))) (vy := (Value.int IntKind.i64 0)) (by kernel_rfl) (by kernel_rfl) (by kernel_rfl) ?_) ?_
  · (intro W hSw; clear hSw hHeld; exact G1 W)
  refine Rg.take (ops := (Rg.opsOf Try.f3 9)) 9 (some 50) ((.bool false)) hNS (by kernel_rfl) (by kernel_rfl) (by kernel_rfl) (by kernel_rfl) (by kernel_rfl) hHeld (Rg.y_move (x := (Operand.tmp 49)) (Or.inl (by kernel_rfl)) (by kernel_rfl)) ?_
  refine Rg.skip (ops := (Rg.opsOf Try.f3 9)) 10 (some 51) hNS (by kernel_rfl) (by kernel_rfl) (by kernel_rfl) (by kernel_rfl) (by kernel_rfl) hHeld ?_
  refine Rg.skip (ops := (Rg.opsOf Try.f3 9)) 11 (some 52) hNS (by kernel_rfl) (by kernel_rfl) (by kernel_rfl) (by kernel_rfl) (by kernel_rfl) hHeld ?_
  refine Rg.skip (ops := (Rg.opsOf Try.f3 9)) 12 (some 53) hNS (by kernel_rfl) (by kernel_rfl) (by kernel_rfl) (by kernel_rfl) (by kernel_rfl) hHeld ?_
  refine Rg.skip (ops := (Rg.opsOf Try.f3 9)) 13 (some 54) hNS (by kernel_rfl) (by kernel_rfl) (by kernel_rfl) (by kernel_rfl) (by kernel_rfl) hHeld ?_
  refine Rg.skip (ops := (Rg.opsOf Try.f3 9)) 14 (some 55) hNS (by kernel_rfl) (by kernel_rfl) (by kernel_rfl) (by kernel_rfl) (by kernel_rfl) hHeld ?_
  refine Rg.skip (ops := (Rg.opsOf Try.f3 9)) 15 (some 56) hNS (by kernel_rfl) (by kernel_rfl) (by kernel_rfl) (by kernel_rfl) (by kernel_rfl) hHeld ?_
  refine Rg.skip (ops := (Rg.opsOf Try.f3 9)) 16 (some 57) hNS (by kernel_rfl) (by kernel_rfl) (by kernel_rfl) (by kernel_rfl) (by kernel_rfl) hHeld ?_
  refine Rg.skip (ops := (Rg.opsOf Try.f3 9)) 17 (some 58) hNS (by kernel_rfl) (by kernel_rfl) (by kernel_rfl) (by kernel_rfl) (by kernel_rfl) hHeld ?_
  refine Rg.skip (ops := (Rg.opsOf Try.f3 9)) 18 (some 59) hNS (by kernel_rfl) (by kernel_rfl) (by kernel_rfl) (by kernel_rfl) (by kernel_rfl) hHeld ?_
  refine Rg.skip (ops := (Rg.opsOf Try.f3 9)) 19 (some 60) hNS (by kernel_rfl) (by kernel_rfl) (by kernel_rfl) (by kernel_rfl) (by kernel_rfl) hHeld ?_
  refine Rg.take (ops := (Rg.opsOf Try.f3 9)) 20 (some 61) ((Value.bool false)) hNS (by kernel_rfl) (by kernel_rfl) (by kernel_rfl) (by kernel_rfl) (by kernel_rfl) hHeld (Rg.y_pick (c := (Operand.tmp 50)) (x := (Operand.tmp 60)) (y := (Operand.const (Value.bool false))) (b := false) (by kernel_rfl) (by kernel_rfl) (by kernel_rfl)) ?_
  refine Rg.take (ops := (Rg.opsOf Try.f3 9)) 21 (some 62) ((Value.bool false)) hNS (by kernel_rfl) (by kernel_rfl) (by kernel_rfl) (by kernel_rfl) (by kernel_rfl) hHeld (Rg.y_pick (c := (Operand.tmp 47)) (x := (Operand.const (Value.bool true))) (y := (Operand.tmp 61)) (b := false) (by kernel_rfl) (by kernel_rfl) (by kernel_rfl)) ?_
  refine Rg.done (ops := (Rg.opsOf Try.f3 9)) (by kernel_rfl) ?_
  exact ⟨by kernel_rfl, hHeld⟩
set_option maxRecDepth 100000 in
set_option maxHeartbeats 4000000 in
theorem chgB (ops : Array Oper) (hops : ops = (Rg.opsOf Try.f3 9)) (id : Nat) (bd od L c4 k : Nat) (q : ByteArray) (j : Nat) (z : ByteArray) {u0 u1 u2 u3 u4 u5 u6 u8 u10 u11 u12 u13 u14 u15 u16 u17 u18 u19 u20 u21 u22 u23 u24 u25 u26 u27 u28 u29 u30 u31 u32 u33 u34 u35 u36 u37 u38 u39 u40 u41 u42 u43 u44 u45 u46 u47 u48 u49 u50 u51 u52 u53 u54 u55 u56 u57 u58 u59 u60 u61 u62 u63 u64 u65 u66 u67 u68 u69 u70 u71 u72 u73 u74 u75 u76 u77 u78 u79 u80 u81 u82 u83 u84 u85 u86 u87 : Value} (w : World) (X : World → Prop) (hlt : (k : Int) < (L : Int))
    (hX : ∀ W, X W → W.cell? ⟨bd, od + k, none⟩ = some (.string q)) (hw : X w.drew) (G1 : ∀ W : World, (binOp .gtr 3 (.int .i64 (k : Int)) (.int .i64 0)).run Try.prog W = .ok (.bool true) W)
    (hZ : ∀ W, X W → W.cell? ⟨bd, od + j, none⟩ = some (.string z)) (hj : (j : Int) < (L : Int)) (G2 : ∀ W : World, (binOp .sub 3 (.int .i64 (k : Int)) (.int .i64 1)).run Try.prog W = .ok (.int .i64 (j : Int)) W)
    (G3 : ∀ W : World, (binOp .geq 9 (.string z) (.string q)).run Try.prog W = .ok (.bool false) W) (hA : ∀ W, X W → Calls Try.prog 7 #[.string q, .int .i64 5] W fun e w' => e = .returned (.int .i64 0) ∧ X w') :
    (Code.region id ops true).wp Try.prog (Rg.Only fun a' w' => a' = ⟨#[u0, u1, u2, u3, u4, u5, u6, (.slice (some ⟨bd, od, none⟩) L c4), u8, (.int .i64 (k : Int)), u10, u11, u12, u13, u14, u15, u16, u17, u18, u19, u20, u21, u22, u23, u24, u25, u26, u27, u28, u29, u30, u31, u32, u33, u34, u35, u36, u37, u38, u39, u40, (.slice (some ⟨bd, od, none⟩) L c4), (.int .i64 (k : Int)), (.pointer (some ⟨bd, od + k, none⟩)), (.string q), (.int .i64 0), (.bool false), (.bool false), (.int .i64 (k : Int)), (.bool true), (.bool true), (.slice (some ⟨bd, od, none⟩) L c4), (.int .i64 (k : Int)), (.int .i64 (j : Int)), (.pointer (some ⟨bd, od + j, none⟩)), (.string z), (.slice (some ⟨bd, od, none⟩) L c4), (.int .i64 (k : Int)), (.pointer (some ⟨bd, od + k, none⟩)), (.string q), (.bool false), (.bool false), (.bool false), u63, u64, u65, u66, u67, u68, u69, u70, u71, u72, u73, u74, u75, u76, u77, u78, u79, u80, u81, u82, u83, u84, u85, u86, u87], []⟩ ∧ X w') ⟨#[u0, u1, u2, u3, u4, u5, u6, (.slice (some ⟨bd, od, none⟩) L c4), u8, (.int .i64 (k : Int)), u10, u11, u12, u13, u14, u15, u16, u17, u18, u19, u20, u21, u22, u23, u24, u25, u26, u27, u28, u29, u30, u31, u32, u33, u34, u35, u36, u37, u38, u39, u40, u41, u42, u43, u44, u45, u46, u47, u48, u49, u50, u51, u52, u53, u54, u55, u56, u57, u58, u59, u60, u61, u62, u63, u64, u65, u66, u67, u68, u69, u70, u71, u72, u73, u74, u75, u76, u77, u78, u79, u80, u81, u82, u83, u84, u85, u86, u87], []⟩ w := by
  subst hops
  have hNS : Region.noSelect (Rg.opsOf Try.f3 9) = true := by kernel_rfl
  refine wp_region_held_drew (S := X) (by kernel_rfl) hw (fun hHeld => ?_)
  rw [show (Rg.opsOf Try.f3 9).size = 22 by kernel_rfl]
  refine Rg.take (ops := (Rg.opsOf Try.f3 9)) 0 (some 41) ((.slice (some ⟨bd, od, none⟩) L c4)) hNS (by kernel_rfl) (by kernel_rfl) (by kernel_rfl) (by kernel_rfl) (by kernel_rfl) hHeld (Rg.y_move (x := (Operand.tmp 7)) (Or.inl (by kernel_rfl)) (by kernel_rfl)) ?_
  refine Rg.take (ops := (Rg.opsOf Try.f3 9)) 1 (some 42) ((.int .i64 (k : Int))) hNS (by kernel_rfl) (by kernel_rfl) (by kernel_rfl) (by kernel_rfl) (by kernel_rfl) hHeld (Rg.y_move (x := (Operand.tmp 9)) (Or.inl (by kernel_rfl)) (by kernel_rfl)) ?_
  refine Rg.take (ops := (Rg.opsOf Try.f3 9)) 2 (some 43) ((.pointer (some ⟨bd, od + k, none⟩))) hNS (by kernel_rfl) (by kernel_rfl) (by kernel_rfl) (by kernel_rfl) (by kernel_rfl) hHeld (Rg.y_at (T := 25) (x := (Operand.tmp 41)) (y := (Operand.tmp 42)) (vx := (.slice (some ⟨bd, od, none⟩) L c4)) (vy := (.int .i64 (k : Int))) (by kernel_rfl) (by kernel_rfl) (by kernel_rfl) ?_) ?_
  · (intro W hSw; clear hSw hHeld; go_simp <;> first | omega | (intro h0; omega))
  refine Rg.take (ops := (Rg.opsOf Try.f3 9)) 3 (some 44) ((.string q)) hNS (by kernel_rfl) (by kernel_rfl) (by kernel_rfl) (by kernel_rfl) (by kernel_rfl) hHeld (Rg.y_load (T := 9) (x := (Operand.tmp 43)) (vx := (.pointer (some ⟨bd, od + k, none⟩))) (by kernel_rfl) (by kernel_rfl) ?_) ?_
  · (intro W hSw; have hc := hX _ hSw; clear hSw hHeld; go_simp)
  refine Rg.call (ops := (Rg.opsOf Try.f3 9)) (fn := Try.f7) (xs := #[Operand.tmp 44, Operand.const (Value.int IntKind.i64 5)]) (ats := #[9, 3]) 4 (some 45) 7 #[(.string q), (Value.int IntKind.i64 5)] (by kernel_rfl) (by kernel_rfl) (by kernel_rfl) (by kernel_rfl) (by kernel_rfl) Try.func7 (by kernel_rfl) (by kernel_rfl) (by kernel_rfl) ?_
  refine (hA _ hHeld).mono ?_
  rintro e w5 ⟨rfl, k5⟩
  refine ⟨_, rfl, k5, fun hHeld => ?_⟩
  refine Rg.take (ops := (Rg.opsOf Try.f3 9)) 5 (some 46) ((.bool false)) hNS (by kernel_rfl) (by kernel_rfl) (by kernel_rfl) (by kernel_rfl) (by kernel_rfl) hHeld (Rg.y_bin (b := BinOp.neq) (T := 3) (R' := 3) (x := (Operand.tmp 45)) (y := (Operand.const (Value.int IntKind.i64 0))) (vx := (.int .i64 0)) (vy := (Value.int IntKind.i64 0)) (by kernel_rfl) (by kernel_rfl) (by kernel_rfl) ?_) ?_
  · (intro W hSw; clear hSw hHeld; go_simp)
  refine Rg.take (ops := (Rg.opsOf Try.f3 9)) 6 (some 47) ((.bool false)) hNS (by kernel_rfl) (by kernel_rfl) (by kernel_rfl) (by kernel_rfl) (by kernel_rfl) hHeld (Rg.y_move (x := (Operand.tmp 46)) (Or.inl (by kernel_rfl)) (by kernel_rfl)) ?_
  refine Rg.take (ops := (Rg.opsOf Try.f3 9)) 7 (some 48) ((.int .i64 (k : Int))) hNS (by kernel_rfl) (by kernel_rfl) (by kernel_rfl) (by kernel_rfl) (by kernel_rfl) hHeld (Rg.y_move (x := (Operand.tmp 9)) (Or.inl (by kernel_rfl)) (by kernel_rfl)) ?_
  refine Rg.take (ops := (Rg.opsOf Try.f3 9)) 8 (some 49) ((.bool true)) hNS (by kernel_rfl) (by kernel_rfl) (by kernel_rfl) (by kernel_rfl) (by kernel_rfl) hHeld (Rg.y_bin (b := BinOp.gtr) (T := 3) (R' := 3) (x := (Operand.tmp 48)) (y := (Operand.const (Value.int IntKind.i64 0))) (vx := (.int .i64 (k : Int))) (vy := (Value.int IntKind.i64 0)) (by kernel_rfl) (by kernel_rfl) (by kernel_rfl) ?_) ?_
  · (intro W hSw; clear hSw hHeld; exact G1 W)
  refine Rg.take (ops := (Rg.opsOf Try.f3 9)) 9 (some 50) ((.bool true)) hNS (by kernel_rfl) (by kernel_rfl) (by kernel_rfl) (by kernel_rfl) (by kernel_rfl) hHeld (Rg.y_move (x := (Operand.tmp 49)) (Or.inl (by kernel_rfl)) (by kernel_rfl)) ?_
  refine Rg.take (ops := (Rg.opsOf Try.f3 9)) 10 (some 51) ((.slice (some ⟨bd, od, none⟩) L c4)) hNS (by kernel_rfl) (by kernel_rfl) (by kernel_rfl) (by kernel_rfl) (by kernel_rfl) hHeld (Rg.y_move (x := (Operand.tmp 7)) (Or.inl (by kernel_rfl)) (by kernel_rfl)) ?_
  refine Rg.take (ops := (Rg.opsOf Try.f3 9)) 11 (some 52) ((.int .i64 (k : Int))) hNS (by kernel_rfl) (by kernel_rfl) (by kernel_rfl) (by kernel_rfl) (by kernel_rfl) hHeld (Rg.y_move (x := (Operand.tmp 9)) (Or.inl (by kernel_rfl)) (by kernel_rfl)) ?_
  refine Rg.take (ops := (Rg.opsOf Try.f3 9)) 12 (some 53) ((.int .i64 (j : Int))) hNS (by kernel_rfl) (by kernel_rfl) (by kernel_rfl) (by kernel_rfl) (by kernel_rfl) hHeld (Rg.y_bin (b := BinOp.sub) (T := 3) (R' := 3) (x := (Operand.tmp 52)) (y := (Operand.const (Value.int IntKind.i64 1))) (vx := (.int .i64 (k : Int))) (vy := (Value.int IntKind.i64 1)) (by kernel_rfl) (by kernel_rfl) (by kernel_rfl) ?_) ?_
  · (intro W hSw; clear hSw hHeld; exact G2 W)
  refine Rg.take (ops := (Rg.opsOf Try.f3 9)) 13 (some 54) ((.pointer (some ⟨bd, od + j, none⟩))) hNS (by kernel_rfl) (by kernel_rfl) (by kernel_rfl) (by kernel_rfl) (by kernel_rfl) hHeld (Rg.y_at (T := 25) (x := (Operand.tmp 51)) (y := (Operand.tmp 53)) (vx := (.slice (some ⟨bd, od, none⟩) L c4)) (vy := (.int .i64 (j : Int))) (by kernel_rfl) (by kernel_rfl) (by kernel_rfl) ?_) ?_
  · (intro W hSw; clear hSw hHeld; go_simp <;> first | omega | (intro h0; omega))
  refine Rg.take (ops := (Rg.opsOf Try.f3 9)) 14 (some 55) ((.string z)) hNS (by kernel_rfl) (by kernel_rfl) (by kernel_rfl) (by kernel_rfl) (by kernel_rfl) hHeld (Rg.y_load (T := 9) (x := (Operand.tmp 54)) (vx := (.pointer (some ⟨bd, od + j, none⟩))) (by kernel_rfl) (by kernel_rfl) ?_) ?_
  · (intro W hSw; have hc := hX _ hSw; have hd := hZ _ hSw; clear hSw hHeld; go_simp)
  refine Rg.take (ops := (Rg.opsOf Try.f3 9)) 15 (some 56) ((.slice (some ⟨bd, od, none⟩) L c4)) hNS (by kernel_rfl) (by kernel_rfl) (by kernel_rfl) (by kernel_rfl) (by kernel_rfl) hHeld (Rg.y_move (x := (Operand.tmp 7)) (Or.inl (by kernel_rfl)) (by kernel_rfl)) ?_
  refine Rg.take (ops := (Rg.opsOf Try.f3 9)) 16 (some 57) ((.int .i64 (k : Int))) hNS (by kernel_rfl) (by kernel_rfl) (by kernel_rfl) (by kernel_rfl) (by kernel_rfl) hHeld (Rg.y_move (x := (Operand.tmp 9)) (Or.inl (by kernel_rfl)) (by kernel_rfl)) ?_
  refine Rg.take (ops := (Rg.opsOf Try.f3 9)) 17 (some 58) ((.pointer (some ⟨bd, od + k, none⟩))) hNS (by kernel_rfl) (by kernel_rfl) (by kernel_rfl) (by kernel_rfl) (by kernel_rfl) hHeld (Rg.y_at (T := 25) (x := (Operand.tmp 56)) (y := (Operand.tmp 57)) (vx := (.slice (some ⟨bd, od, none⟩) L c4)) (vy := (.int .i64 (k : Int))) (by kernel_rfl) (by kernel_rfl) (by kernel_rfl) ?_) ?_
  · (intro W hSw; clear hSw hHeld; go_simp <;> first | omega | (intro h0; omega))
  refine Rg.take (ops := (Rg.opsOf Try.f3 9)) 18 (some 59) ((.string q)) hNS (by kernel_rfl) (by kernel_rfl) (by kernel_rfl) (by kernel_rfl) (by kernel_rfl) hHeld (Rg.y_load (T := 9) (x := (Operand.tmp 58)) (vx := (.pointer (some ⟨bd, od + k, none⟩))) (by kernel_rfl) (by kernel_rfl) ?_) ?_
  · (intro W hSw; have hc := hX _ hSw; clear hSw hHeld; go_simp)
  refine Rg.take (ops := (Rg.opsOf Try.f3 9)) 19 (some 60) ((.bool false)) hNS (by kernel_rfl) (by kernel_rfl) (by kernel_rfl) (by kernel_rfl) (by kernel_rfl) hHeld (Rg.y_bin (b := BinOp.geq) (T := 9) (R' := 9) (x := (Operand.tmp 55)) (y := (Operand.tmp 59)) (vx := (.string z)) (vy := (.string q)) (by kernel_rfl) (by kernel_rfl) (by kernel_rfl) ?_) ?_
  · (intro W hSw; clear hSw hHeld; exact G3 W)
  refine Rg.take (ops := (Rg.opsOf Try.f3 9)) 20 (some 61) ((.bool false)) hNS (by kernel_rfl) (by kernel_rfl) (by kernel_rfl) (by kernel_rfl) (by kernel_rfl) hHeld (Rg.y_pick (c := (Operand.tmp 50)) (x := (Operand.tmp 60)) (y := (Operand.const (Value.bool false))) (b := true) (by kernel_rfl) (by kernel_rfl) (by kernel_rfl)) ?_
  refine Rg.take (ops := (Rg.opsOf Try.f3 9)) 21 (some 62) ((.bool false)) hNS (by kernel_rfl) (by kernel_rfl) (by kernel_rfl) (by kernel_rfl) (by kernel_rfl) hHeld (Rg.y_pick (c := (Operand.tmp 47)) (x := (Operand.const (Value.bool true))) (y := (Operand.tmp 61)) (b := false) (by kernel_rfl) (by kernel_rfl) (by kernel_rfl)) ?_
  refine Rg.done (ops := (Rg.opsOf Try.f3 9)) (by kernel_rfl) ?_
  exact ⟨by kernel_rfl, hHeld⟩
end Go.Proofs.Ytdpnmdnfnplcfaa.Sc

namespace Go.Proofs.Ytdpnmdnfnplcfaa.En
open Go.ChangeShapes Go.WideShapes Go.ChangeAt Go.RowKit Tx
set_option linter.unusedVariables false
theorem bulk_node {H : Type} (n : Nd) : Rows.uptoBulk (dN (H := H) n) = n.data.size + 3 := by
  have e : Rows.uptoBulk (dN (H := H) n) = 1 + (n.data.data.toList.length + 1 + 0) + 1 := rfl
  rw [e, len_l]
  omega
theorem bulk_ent {H : Type} (x : Et) : Rows.uptoBulk (dE (H := H) x) = x.path.size + x.node.data.size + 5 := by
  have e : Rows.uptoBulk (dE (H := H) x) = (x.path.data.toList.length + 1) + (Rows.uptoBulk (dN (H := H) x.node) + 0) + 1 := rfl
  rw [e, len_l, bulk_node]
  omega
theorem bulk_ents {H : Type} : ∀ l : List Et, l.length ≤ Rows.uptoBulkAll (l.map (dE (H := H))) ∧ ∀ x ∈ l, x.path.size ≤ Rows.uptoBulkAll (l.map (dE (H := H))) ∧ x.node.data.size ≤ Rows.uptoBulkAll (l.map (dE (H := H)))
  | [] => ⟨Nat.zero_le _, fun x hx => by cases hx⟩
  | y :: l => by
    obtain ⟨h1, h2⟩ := bulk_ents (H := H) l
    have e : Rows.uptoBulkAll ((y :: l).map (dE (H := H))) = Rows.uptoBulk (dE (H := H) y) + Rows.uptoBulkAll (l.map (dE (H := H))) := rfl
    rw [e, bulk_ent]
    refine ⟨by rw [List.length_cons]; omega, fun x hx => ?_⟩
    rcases List.mem_cons.1 hx with rfl | hx
    · exact ⟨by omega, by omega⟩
    · obtain ⟨a, b⟩ := h2 x hx
      exact ⟨by omega, by omega⟩
theorem arg_ents {H : Type} {enc : TypeId × Value → H} {w : World} {base : Nat} {spare : Nat → Bool} {held : Bool} {a : Option Addr} {n c : Nat} {d : DataW H} {p : List MemPlace} (h : DataW.Trod enc Try.prog w base spare held 22 (.slice a n c) d p) :
    ∃ l : List Et, Ents w a n l ∧ (a = none → c = 0) ∧ (∀ e ∈ l, isInt e.node.kind ∧ e.path.size ≤ maxLen ∧ e.node.data.size ≤ maxLen) ∧ n ≤ Rows.uptoBulk d ∧ ∀ e ∈ l, e.path.size ≤ Rows.uptoBulk d ∧ e.node.data.size ≤ Rows.uptoBulk d := by
  obtain ⟨fuel, hf⟩ := h
  rcases open_ents hf with ⟨hcs, _⟩ | ⟨x, len, cap, l, rest, pl, hcs, _, _, hx, he, hall⟩
  · simp [Value.cells] at hcs
    obtain ⟨rfl, rfl, rfl⟩ := hcs
    exact ⟨[], ⟨rfl, .inl rfl⟩, fun _ => rfl, (fun e he => by cases he), Nat.zero_le _, (fun e he => by cases he)⟩
  · simp [Value.cells] at hcs
    obtain ⟨rfl, rfl, rfl⟩ := hcs
    have hd : d = .slice (l.map dE) rest := congrArg Prod.fst hx
    have e : Rows.uptoBulk d = Rows.uptoBulkAll (l.map (dE (H := H))) + Rows.uptoBulkAll rest + 1 := by rw [hd]; rfl
    obtain ⟨h1, h2⟩ := bulk_ents (H := H) l
    rw [he.1] at h1
    refine ⟨l, he, (fun h => by cases h), hall, by omega, fun y hy => ?_⟩
    obtain ⟨h3, h4⟩ := h2 y hy
    exact ⟨by omega, by omega⟩
end Go.Proofs.Ytdpnmdnfnplcfaa.En

namespace Go.Proofs.Ytdpnmdnfnplcfaa.Tx
open Go.RowKit
set_option linter.unusedVariables false
theorem below_drewN {B : Nat} {a w : World} (h : Below B a w) (n : Nat) : Below B a (w.drewN n) := ⟨h.os, h.tape, h.output, h.size, h.block⟩
set_option maxRecDepth 100000 in
set_option maxHeartbeats 1000000 in
theorem same_true (a b : Option Addr) (n ca cb : Nat) (l : List ByteArray) (w : World) (hn : n ≤ 9223372036854775807) (ha : Strs w a n l) (hb : Strs w b n l) :
    Calls Try.prog 9 #[.slice a n ca, .slice b n cb] w fun e w' => e = .returned (.bool true) ∧ Below w.heap.size w w' := by
  by_cases h0 : n = 0
  · subst h0
    clear ha hb
    go_enter Try.func9, Try.ntmps9
    go_wp2_with fail
    go_loop [5] (fun i => i = .int .i64 0) (fun _ => 0)
    case atStart => exact rfl
    case round =>
      obtain rfl := hrel
      go_wp2_with fail
      go_ret
      exact ⟨rfl, Below.refl _ _⟩
  · obtain ⟨hl, ha⟩ := ha
    obtain ⟨ba, oa, rfl, hba, hca⟩ := ha.resolve_left h0
    obtain ⟨bb, ob, rfl, hbb, hcb⟩ := hb.2.resolve_left h0
    have HA := Lib.hid hca
    have HB := Lib.hid hcb
    clear hca hcb ha hb h0
    go_enter Try.func9, Try.ntmps9
    go_wp2_with fail
    go_loopw [5] (fun i wr => ∃ k : Nat, k ≤ n ∧ i = .int .i64 k ∧ Below w.heap.size w wr) (fun i _ => n - (intOf i).toNat)
    case atStart => exact ⟨0, Nat.zero_le _, rfl, Below.refl _ _⟩
    case round =>
      obtain ⟨k, hk, rfl, hB⟩ := hrel
      by_cases hlt : k < n
      · have c1 := (hB.cell (p := ⟨ba, oa + k, none⟩) hba).trans (HA.out k l[k] (List.getElem?_eq_getElem (by omega)))
        have c2 := (hB.cell (p := ⟨bb, ob + k, none⟩) hbb).trans (HB.out k l[k] (List.getElem?_eq_getElem (by omega)))
        obtain ⟨S, hS⟩ : ∃ S, S = l[k] := ⟨_, rfl⟩
        rw [← hS] at c1 c2
        clear hS hl
        have hlt1 : (k : Int) < (n : Int) := by omega
        go_wp2_with fail
        go_quiet (fail)
        go_wp2_with fail
        go_roundw
        case rel => exact ⟨k + 1, by omega, by go_num, below_drewN hB _⟩
        case measure => simp [intOf]; omega
      · go_wp2_with fail
        go_ret
        exact ⟨rfl, hB⟩
end Go.Proofs.Ytdpnmdnfnplcfaa.Tx

namespace Go.Proofs.Ytdpnmdnfnplcfaa.scanChanges
open Go.ChangeMaps (open_string shut_string)
open Go.ChangeShapes Go.WideShapes Go.ChangeAt Go.RowKit Tx Pm Pr En Sc
set_option linter.unusedVariables false
def Chd : Prop := ∀ (a : Option Addr) (n c : Nat) (la : List Et) (b : Option Addr) (m c2 : Nat) (lb : List Et) (w : World), Ents w a n la → Ents w b m lb → tcheck la = 0 → tcheck lb = 0 →
  Calls Try.prog 6 #[.slice a n c, .slice b m c2] w (DiffTo (tdiff la lb) w)
theorem bytes_ne {p q : ByteArray} (h : p ≠ q) : (p.toList == q.toList) = false := beq_eq_false_iff_ne.2 (fun e => h (to_list.1 e))
theorem run_gtr (a b : Int) (W : World) : (binOp .gtr 3 (.int .i64 a) (.int .i64 b)).run Try.prog W = .ok (.bool (decide (b < a))) W := by go_simp
theorem run_sub (a b : Int) (W : World) : (binOp .sub 3 (.int .i64 a) (.int .i64 b)).run Try.prog W = .ok (.int .i64 (IntKind.i64.wrap (a - b))) W := by go_simp
theorem run_geq (a b : ByteArray) (W : World) : (binOp .geq 9 (.string a) (.string b)).run Try.prog W = .ok (.bool (!Op.bytesLess a.toList b.toList)) W := by go_simp
set_option maxRecDepth 100000 in
set_option maxHeartbeats 4000000 in
theorem walk {O : Nat → World → (Nat → Prop) → Dk.St → Prop} (hI : Mini O) (hC : Chd) (a : Option Addr) (n c : Nat) (la : List Et) (b : Option Addr) (m c2 : Nat) (lb : List Et) (p : ByteArray) (w : World) (hla : Ents w a n la) (hlb : Ents w b m lb) (hn : n ≤ 1048576) (hm : m ≤ 1048576) (hs : Small la) (hs2 : Small lb) (hp : p.size ≤ 1048576) :
    Calls Try.prog 3 #[.slice a n c, .slice b m c2, .string p] w fun e w' => e = .returned (.bool true) ∧ Below w.heap.size w w' := by
  have caw := fun W => awake_mini hI W
  have ccha := fun W (h : Below w.heap.size w W) => refCheckT_any a n c la W (hla.below h) (by omega) hs
  have cchb := fun W (h : Below w.heap.size w W) => refCheckT_any b m c2 lb W (hlb.below h) (by omega) hs2
  by_cases hTa : tcheck la = 0
  rotate_left
  · have e1 : (((tcheck la : Nat) : Int) == 0) = false := beq_eq_false_iff_ne.2 (by omega)
    have e2 : (((tcheck la : Nat) : Int) != 0) = true := by unfold bne; rw [e1]; rfl
    clear hTa hI hC
    go_enter Try.func3, Try.ntmps3
    go_wp2_with fail
    go_at_call 4
    refine (caw _).mono ?_
    rintro e w1 ⟨rfl, hb1⟩
    go_wp2_with fail
    go_at_call 5
    refine (ccha _ hb1).mono ?_
    rintro e w2 ⟨rfl, hb2⟩
    go_wp2_with fail
    go_at_call 4
    refine (caw _).mono ?_
    rintro e w3 ⟨rfl, hb3⟩
    go_wp2_with fail
    go_ret
    exact ⟨rfl, below_call (below_call hb1 hb2) hb3⟩
  rw [hTa] at ccha
  by_cases hTb : tcheck lb = 0
  rotate_left
  · have e1 : (((tcheck lb : Nat) : Int) == 0) = false := beq_eq_false_iff_ne.2 (by omega)
    have e2 : (((tcheck lb : Nat) : Int) != 0) = true := by unfold bne; rw [e1]; rfl
    clear hTb hI hC
    go_enter Try.func3, Try.ntmps3
    go_wp2_with fail
    go_at_call 4
    refine (caw _).mono ?_
    rintro e w1 ⟨rfl, hb1⟩
    go_wp2_with fail
    go_at_call 5
    refine (ccha _ hb1).mono ?_
    rintro e w2 ⟨rfl, hb2⟩
    go_wp2_with fail
    go_at_call 5
    refine (cchb _ (below_call hb1 hb2)).mono ?_
    rintro e w3 ⟨rfl, hb3⟩
    go_wp2_with fail
    go_at_call 4
    refine (caw _).mono ?_
    rintro e w4 ⟨rfl, hb4⟩
    go_wp2_with fail
    go_ret
    exact ⟨rfl, below_call (below_call (below_call hb1 hb2) hb3) hb4⟩
  rw [hTb] at cchb
  have cga := fun W (h : Below w.heap.size w W) => refGet_any a n c la p W (hla.below h) (by omega)
  have cgb := fun W (h : Below w.heap.size w W) => refGet_any b m c2 lb p W (hlb.below h) (by omega)
  have cd := fun W (h : Below w.heap.size w W) => hC a n c la b m c2 lb W (hla.below h) (hlb.below h) hTa hTb
  have cd2 := fun W (h : Below w.heap.size w W) => hC b m c2 lb a n c la W (hlb.below h) (hla.below h) hTb hTa
  have cm := fun W (h : Below w.heap.size w W) => refSame_any a b n m c c2 la lb W (hla.below h) (hlb.below h) (by omega) (by omega)
  obtain ⟨hr, hmem, _⟩ := tdiff_all la lb
  have hnil := tdiff_nil hTa hTb
  have hpath : ∀ q ∈ tdiff la lb, chk q.data.toList 5 = 0 := fun q hq => tdiff_path hTa hTb hq
  have hsz : ∀ q ∈ tdiff la lb, q.size ≤ 8000000000000 := fun q hq => by
    rcases (tdiff_all la lb).2.2 q hq with ⟨x, hx, rfl⟩ | ⟨x, hx, rfl⟩
    · exact (hs x hx).1
    · exact (hs2 x hx).1
  have hlen := diffs_len la lb (tsort (la ++ lb)) (la.length + lb.length)
  rw [show diffs la lb (tsort (la ++ lb)) (la.length + lb.length) = tdiff la lb from rfl, hla.1, hlb.1] at hlen
  rw [tdiff_swap la lb] at cd2
  obtain ⟨DL, hDL⟩ : ∃ DL, DL = tdiff la lb := ⟨_, rfl⟩
  rw [← hDL] at cd cd2 hr hmem hnil hpath hsz hlen
  have HR := Lib.hid hr
  have HM := Lib.hid hmem
  have HNL := Lib.hid hnil
  have HP := Lib.hid hpath
  have HSZ := Lib.hid hsz
  have HLEN := Lib.hid hlen
  clear hla hlb hTa hTb hDL hr hmem hnil hpath hsz hI hC hlen
  go_enter Try.func3, Try.ntmps3
  go_wp2_with fail
  go_at_call 4
  refine (caw _).mono ?_
  rintro e w1 ⟨rfl, hb1⟩
  go_wp2_with fail
  go_at_call 5
  refine (ccha _ hb1).mono ?_
  rintro e w2 ⟨rfl, hb2'⟩
  have hb2 := below_call hb1 hb2'
  go_wp2_with fail
  go_at_call 5
  refine (cchb _ hb2).mono ?_
  rintro e w3 ⟨rfl, hb3'⟩
  have hb3 := below_call hb2 hb3'
  clear hb1 hb2' hb2 hb3' ccha cchb caw
  go_wp2_with fail
  go_at_call 6
  refine (cd _ hb3).mono ?_
  rintro e w4 ⟨v4, rfl, hx4, hb4'⟩
  have HB4 := Lib.hid (below_call hb3 hb4')
  obtain ⟨a4, k4, hv4, hs4, _, _⟩ := Texts.form hx4
  subst hv4
  obtain ⟨L, hL⟩ : ∃ L, L = DL.length := ⟨_, rfl⟩
  rw [← hL] at hs4 HLEN
  rw [← hL]
  have HL := Lib.hid hL
  have HS4 := Lib.hid hs4
  have hLb : L ≤ 2097152 := by have := HLEN.out; omega
  clear hx4 hb4' hb3 cd hL hs4 HLEN
  go_wp2_with fail
  go_loopw [8, 9] (fun t i wq => ∃ (k : Nat) (T : Bool), k ≤ L ∧ i = .int .i64 (k : Int) ∧ t = .bool T ∧ Hid (T = true ↔ p ∈ DL.take k) ∧ Hid (Below w4.heap.size w4 wq)) (fun _ i _ => L - (intOf i).toNat)
  case atStart => exact ⟨0, false, Nat.zero_le _, rfl, rfl, Iff.intro (fun h => by cases h) (fun h => by simp at h), Below.refl _ _⟩
  case round =>
    obtain ⟨k, T, hk, rfl, rfl, hT, hW⟩ := hrel
    by_cases hlt : k < L
    · obtain ⟨bd, od, rfl, hbd, hcd⟩ := HS4.out.2.resolve_left (by omega)
      obtain ⟨q, hq⟩ : ∃ q, DL[k]? = some q := ⟨_, List.getElem?_eq_getElem (by rw [← HL.out]; exact hlt)⟩
      have hqm := List.mem_of_getElem? hq
      have hcell : ∀ W, Below w4.heap.size w4 W → W.cell? ⟨bd, od + k, none⟩ = some (.string q) := fun W h => (h.cell (p := ⟨bd, _, none⟩) hbd).trans (hcd k q hq)
      have hsq := HSZ.out q hqm
      have cck : ∀ W, Below w4.heap.size w4 W → Calls Try.prog 7 #[.string q, .int .i64 5] W fun e w' => e = .returned (.int .i64 0) ∧ Below w4.heap.size w4 w' := fun W h => by
        have h1 := refCheck_any q 5 W (by omega) (by omega) (by omega)
        rw [HP.out q hqm] at h1
        exact h1.mono fun e w' ⟨h2, h3⟩ => ⟨h2, below_call h h3⟩
      have htake : DL.take (k + 1) = DL.take k ++ [q] := by
        obtain ⟨hk2, he2⟩ := List.getElem?_eq_some_iff.1 hq
        rw [List.take_succ_eq_append_getElem hk2, he2]
      have hprev : k = 0 ∨ ∃ j z, k = j + 1 ∧ Op.bytesLess z.toList q.toList = true ∧ ∀ W, Below w4.heap.size w4 W → W.cell? ⟨bd, od + j, none⟩ = some (.string z) := by
        cases k with
        | zero => exact .inl rfl
        | succ j =>
          have hj : j < DL.length := by rw [← HL.out]; omega
          refine .inr ⟨j, DL[j], rfl, ?_, fun W h => (h.cell (p := ⟨bd, _, none⟩) hbd).trans (hcd j _ (List.getElem?_eq_getElem hj))⟩
          obtain ⟨hk2, he2⟩ := List.getElem?_eq_some_iff.1 hq
          have := List.pairwise_iff_getElem.1 HR.out j (j + 1) hj hk2 (by omega)
          rw [he2] at this
          exact this
      obtain ⟨T2, hT2, hin, hT2e⟩ : ∃ T2 : Bool, Hid (T2 = true ↔ p ∈ DL.take (k + 1)) ∧ (T || (q.toList == p.toList)) = T2 ∧ T2 = (T || (q.toList == p.toList)) := by
        refine ⟨_, ?_, rfl, rfl⟩
        show _ ↔ _
        rw [htake, List.mem_append, List.mem_singleton, Bool.or_eq_true, hT.out]
        refine or_congr_right ?_
        rw [beq_iff_eq, to_list]
        exact ⟨fun h => h.symm, fun h => h.symm⟩
      have HCE := Lib.hid hcell
      have HPV := Lib.hid hprev
      have CCK := Lib.hid cck
      have c1 := hcell _ hW.out
      have hltz : (k : Int) < (L : Int) := by omega
      clear hq hqm htake hcell hprev cck hcd hsq hT
      cases T
      · by_cases hqp : q = p
        · have eq1 : (q.toList == p.toList) = true := by rw [hqp]; exact beq_self_eq_true _
          clear hqp
          obtain rfl : T2 = true := by rw [hT2e, eq1]; rfl
          clear hin hT2e
          go_wp2_with fail
          rcases HPV.out with hk0 | ⟨j, z, hj, hless, hz⟩
          · have g1 : ∀ W : World, (binOp .gtr 3 (.int .i64 (k : Int)) (.int .i64 0)).run Try.prog W = .ok (.bool false) W := fun W => by rw [hk0]; rfl
            clear HPV hk0
            refine Rg.wp_only ?_ (chgA _ (by kernel_rfl) _ bd od L k4 k q wr (Below w4.heap.size w4) hltz HCE.out hW.out.drew g1 CCK.out)
            rintro _ w9 ⟨rfl, hW9⟩
            have HW9 := Lib.hid hW9
            clear hW9 g1 CCK HCE
            go_wp2_with fail
            go_roundw
            case rel => exact ⟨k + 1, true, by omega, by go_num, rfl, Iff.intro (fun _ => hT2.out.1 trivial) (fun _ => rfl), HW9⟩
            case measure => simp only [intOf]; omega
          · have g1 : ∀ W : World, (binOp .gtr 3 (.int .i64 (k : Int)) (.int .i64 0)).run Try.prog W = .ok (.bool true) W := fun W => by rw [run_gtr, decide_eq_true (by omega)]
            have g2 : ∀ W : World, (binOp .sub 3 (.int .i64 (k : Int)) (.int .i64 1)).run Try.prog W = .ok (.int .i64 (j : Int)) W := fun W => by rw [run_sub, show IntKind.i64.wrap ((k : Int) - 1) = (j : Int) by rw [hj]; exact (IntWalk.i64_in _ (by omega)).trans (by omega)]
            have g3 : ∀ W : World, (binOp .geq 9 (.string z) (.string q)).run Try.prog W = .ok (.bool false) W := fun W => by rw [run_geq, hless]; rfl
            clear HPV
            refine Rg.wp_only ?_ (chgB _ (by kernel_rfl) _ bd od L k4 k q j z wr (Below w4.heap.size w4) hltz HCE.out hW.out.drew g1 hz (by omega) g2 g3 CCK.out)
            rintro _ w9 ⟨rfl, hW9⟩
            have HW9 := Lib.hid hW9
            clear hW9 g1 g2 g3 CCK HCE hz hless hj
            go_wp2_with fail
            go_roundw
            case rel => exact ⟨k + 1, true, by omega, by go_num, rfl, Iff.intro (fun _ => hT2.out.1 trivial) (fun _ => rfl), HW9⟩
            case measure => simp only [intOf]; omega
        · have eq1 := bytes_ne hqp
          clear hqp
          obtain rfl : T2 = false := by rw [hT2e, eq1]; rfl
          clear hin hT2e
          go_wp2_with fail
          rcases HPV.out with hk0 | ⟨j, z, hj, hless, hz⟩
          · have g1 : ∀ W : World, (binOp .gtr 3 (.int .i64 (k : Int)) (.int .i64 0)).run Try.prog W = .ok (.bool false) W := fun W => by rw [hk0]; rfl
            clear HPV hk0
            refine Rg.wp_only ?_ (chgA _ (by kernel_rfl) _ bd od L k4 k q wr (Below w4.heap.size w4) hltz HCE.out hW.out.drew g1 CCK.out)
            rintro _ w9 ⟨rfl, hW9⟩
            have HW9 := Lib.hid hW9
            clear hW9 g1 CCK HCE
            go_wp2_with fail
            go_roundw
            case rel => exact ⟨k + 1, false, by omega, by go_num, rfl, hT2, HW9⟩
            case measure => simp only [intOf]; omega
          · have g1 : ∀ W : World, (binOp .gtr 3 (.int .i64 (k : Int)) (.int .i64 0)).run Try.prog W = .ok (.bool true) W := fun W => by rw [run_gtr, decide_eq_true (by omega)]
            have g2 : ∀ W : World, (binOp .sub 3 (.int .i64 (k : Int)) (.int .i64 1)).run Try.prog W = .ok (.int .i64 (j : Int)) W := fun W => by rw [run_sub, show IntKind.i64.wrap ((k : Int) - 1) = (j : Int) by rw [hj]; exact (IntWalk.i64_in _ (by omega)).trans (by omega)]
            have g3 : ∀ W : World, (binOp .geq 9 (.string z) (.string q)).run Try.prog W = .ok (.bool false) W := fun W => by rw [run_geq, hless]; rfl
            clear HPV
            refine Rg.wp_only ?_ (chgB _ (by kernel_rfl) _ bd od L k4 k q j z wr (Below w4.heap.size w4) hltz HCE.out hW.out.drew g1 hz (by omega) g2 g3 CCK.out)
            rintro _ w9 ⟨rfl, hW9⟩
            have HW9 := Lib.hid hW9
            clear hW9 g1 g2 g3 CCK HCE hz hless hj
            go_wp2_with fail
            go_roundw
            case rel => exact ⟨k + 1, false, by omega, by go_num, rfl, hT2, HW9⟩
            case measure => simp only [intOf]; omega
      · obtain rfl : T2 = true := by rw [hT2e]; rfl
        clear hin hT2e
        go_wp2_with fail
        rcases HPV.out with hk0 | ⟨j, z, hj, hless, hz⟩
        · have g1 : ∀ W : World, (binOp .gtr 3 (.int .i64 (k : Int)) (.int .i64 0)).run Try.prog W = .ok (.bool false) W := fun W => by rw [hk0]; rfl
          clear HPV hk0
          refine Rg.wp_only ?_ (chgA _ (by kernel_rfl) _ bd od L k4 k q wr (Below w4.heap.size w4) hltz HCE.out hW.out.drew g1 CCK.out)
          rintro _ w9 ⟨rfl, hW9⟩
          have HW9 := Lib.hid hW9
          clear hW9 g1 CCK HCE
          go_wp2_with fail
          go_roundw
          case rel => exact ⟨k + 1, true, by omega, by go_num, rfl, Iff.intro (fun _ => hT2.out.1 trivial) (fun _ => rfl), HW9⟩
          case measure => simp only [intOf]; omega
        · have g1 : ∀ W : World, (binOp .gtr 3 (.int .i64 (k : Int)) (.int .i64 0)).run Try.prog W = .ok (.bool true) W := fun W => by rw [run_gtr, decide_eq_true (by omega)]
          have g2 : ∀ W : World, (binOp .sub 3 (.int .i64 (k : Int)) (.int .i64 1)).run Try.prog W = .ok (.int .i64 (j : Int)) W := fun W => by rw [run_sub, show IntKind.i64.wrap ((k : Int) - 1) = (j : Int) by rw [hj]; exact (IntWalk.i64_in _ (by omega)).trans (by omega)]
          have g3 : ∀ W : World, (binOp .geq 9 (.string z) (.string q)).run Try.prog W = .ok (.bool false) W := fun W => by rw [run_geq, hless]; rfl
          clear HPV
          refine Rg.wp_only ?_ (chgB _ (by kernel_rfl) _ bd od L k4 k q j z wr (Below w4.heap.size w4) hltz HCE.out hW.out.drew g1 hz (by omega) g2 g3 CCK.out)
          rintro _ w9 ⟨rfl, hW9⟩
          have HW9 := Lib.hid hW9
          clear hW9 g1 g2 g3 CCK HCE hz hless hj
          go_wp2_with fail
          go_roundw
          case rel => exact ⟨k + 1, true, by omega, by go_num, rfl, Iff.intro (fun _ => hT2.out.1 trivial) (fun _ => rfl), HW9⟩
          case measure => simp only [intOf]; omega
    · have hk2 : ¬ (k : Int) < (L : Int) := by omega
      obtain rfl : L = k := by omega
      have h := hT.out
      rw [List.take_of_length_le (by rw [← HL.out]; omega)] at h
      have HE := Lib.hid h
      clear h hT
      have hB := below_call HB4.out hW.out
      have hmem := HM.out p
      obtain ⟨G1, hG1⟩ : ∃ G, G = tget la p := ⟨_, rfl⟩
      obtain ⟨G2, hG2⟩ : ∃ G, G = tget lb p := ⟨_, rfl⟩
      rw [← hG1] at cga hmem
      rw [← hG2] at cgb hmem
      have hTG : T = true ↔ G1 ≠ G2 := HE.out.trans hmem
      obtain ⟨K1, D1⟩ := G1
      obtain ⟨K2, D2⟩ := G2
      rw [show nv ⟨K1, D1⟩ = .agg #[.int .i64 K1, .string D1] from rfl] at cga
      rw [show nv ⟨K2, D2⟩ = .agg #[.int .i64 K2, .string D2] from rfl] at cgb
      have hgN := guardN
      have hcases : (T = false ∧ K1 = K2 ∧ D1.toList = D2.toList) ∨ (T = true ∧ K1 ≠ K2) ∨ (T = true ∧ K1 = K2 ∧ D1.toList ≠ D2.toList) := by
        by_cases h1 : K1 = K2
        · by_cases h2 : D1.toList = D2.toList
          · left
            refine ⟨?_, h1, h2⟩
            cases T
            · rfl
            · exact absurd (by rw [h1, to_list.1 h2]) (hTG.1 rfl)
          · exact .inr (.inr ⟨hTG.2 (fun h => by injection h with _ h; exact h2 (to_list.2 h)), h1, h2⟩)
        · exact .inr (.inl ⟨hTG.2 (fun h => by injection h with h _; exact h1 h), h1⟩)
      have hL0 : (((L : Int) == 0) = true ↔ la = lb) := by
        refine Iff.trans ⟨fun h => ?_, fun h => ?_⟩ HNL.out
        · have h1 := beq_iff_eq.1 h
          rw [← HL.out]; omega
        · rw [← HL.out] at h
          rw [h]; rfl
      have HB := Lib.hid hB
      have HL0 := Lib.hid hL0
      clear hG1 hG2 hmem hTG HE hB hL0
      rcases hcases with ⟨rfl, hK, hD⟩ | ⟨rfl, hK⟩ | ⟨rfl, hK, hD⟩
      · obtain rfl := to_list.1 hD
        subst hK
        clear hD
        go_wp2_with fail
        go_at_call 8
        refine (cga _ HB.out).mono ?_
        rintro e w5 ⟨rfl, hb5⟩
        have HB5 := Lib.hid (below_call HB.out hb5)
        go_wp2_with fail
        go_at_call 8
        refine (cgb _ HB5.out).mono ?_
        rintro e w6 ⟨rfl, hb6⟩
        have HB6 := Lib.hid (below_call HB5.out hb6)
        have HS6 := Lib.hid (((HS4.out.below hW.out).below hb5).below hb6)
        clear hb5 hb6 cga cgb
        go_wp2_with fail
        go_at_call 6
        refine (cd2 _ HB6.out).mono ?_
        rintro e w7 ⟨v7, rfl, hx7, hb7⟩
        have HB7 := Lib.hid (below_call HB6.out hb7)
        obtain ⟨a7, k7, hv7, hs7, _, _⟩ := Texts.form hx7
        subst hv7
        rw [← HL.out] at hs7
        rw [← HL.out]
        have HSM := Lib.hid (same_true a4 a7 L k4 k7 DL w7 (by omega) (HS6.out.below hb7) hs7)
        clear hx7 hb7 hs7 cd2
        go_wp2_with fail
        go_at_call 9
        refine HSM.out.mono ?_
        rintro e w8 ⟨rfl, hb8⟩
        have HB8 := Lib.hid (below_call HB7.out hb8)
        clear hb8 HSM
        go_wp2_with fail
        go_at_call 10
        refine (cm _ HB8.out).mono ?_
        rintro e w9 ⟨BB, hBB, rfl, hb9⟩
        have HB9 := Lib.hid (below_call HB8.out hb9)
        obtain rfl : ((L : Int) == 0) = BB := Bool.eq_iff_iff.2 (HL0.out.trans hBB.symm)
        clear hb9 hBB
        go_wp2_with fail
        go_ret
        exact ⟨rfl, HB9.out⟩
      · go_wp2_with fail
        go_at_call 8
        refine (cga _ HB.out).mono ?_
        rintro e w5 ⟨rfl, hb5⟩
        have HB5 := Lib.hid (below_call HB.out hb5)
        go_wp2_with fail
        go_at_call 8
        refine (cgb _ HB5.out).mono ?_
        rintro e w6 ⟨rfl, hb6⟩
        have HB6 := Lib.hid (below_call HB5.out hb6)
        have HS6 := Lib.hid (((HS4.out.below hW.out).below hb5).below hb6)
        clear hb5 hb6 cga cgb
        go_wp2_with fail
        go_at_call 6
        refine (cd2 _ HB6.out).mono ?_
        rintro e w7 ⟨v7, rfl, hx7, hb7⟩
        have HB7 := Lib.hid (below_call HB6.out hb7)
        obtain ⟨a7, k7, hv7, hs7, _, _⟩ := Texts.form hx7
        subst hv7
        rw [← HL.out] at hs7
        rw [← HL.out]
        have HSM := Lib.hid (same_true a4 a7 L k4 k7 DL w7 (by omega) (HS6.out.below hb7) hs7)
        clear hx7 hb7 hs7 cd2
        go_wp2_with fail
        go_at_call 9
        refine HSM.out.mono ?_
        rintro e w8 ⟨rfl, hb8⟩
        have HB8 := Lib.hid (below_call HB7.out hb8)
        clear hb8 HSM
        go_wp2_with fail
        go_at_call 10
        refine (cm _ HB8.out).mono ?_
        rintro e w9 ⟨BB, hBB, rfl, hb9⟩
        have HB9 := Lib.hid (below_call HB8.out hb9)
        obtain rfl : ((L : Int) == 0) = BB := Bool.eq_iff_iff.2 (HL0.out.trans hBB.symm)
        clear hb9 hBB
        go_wp2_with fail
        go_ret
        exact ⟨rfl, HB9.out⟩
      · subst hK
        go_wp2_with fail
        go_at_call 8
        refine (cga _ HB.out).mono ?_
        rintro e w5 ⟨rfl, hb5⟩
        have HB5 := Lib.hid (below_call HB.out hb5)
        go_wp2_with fail
        go_at_call 8
        refine (cgb _ HB5.out).mono ?_
        rintro e w6 ⟨rfl, hb6⟩
        have HB6 := Lib.hid (below_call HB5.out hb6)
        have HS6 := Lib.hid (((HS4.out.below hW.out).below hb5).below hb6)
        clear hb5 hb6 cga cgb
        go_wp2_with fail
        go_at_call 6
        refine (cd2 _ HB6.out).mono ?_
        rintro e w7 ⟨v7, rfl, hx7, hb7⟩
        have HB7 := Lib.hid (below_call HB6.out hb7)
        obtain ⟨a7, k7, hv7, hs7, _, _⟩ := Texts.form hx7
        subst hv7
        rw [← HL.out] at hs7
        rw [← HL.out]
        have HSM := Lib.hid (same_true a4 a7 L k4 k7 DL w7 (by omega) (HS6.out.below hb7) hs7)
        clear hx7 hb7 hs7 cd2
        go_wp2_with fail
        go_at_call 9
        refine HSM.out.mono ?_
        rintro e w8 ⟨rfl, hb8⟩
        have HB8 := Lib.hid (below_call HB7.out hb8)
        clear hb8 HSM
        go_wp2_with fail
        go_at_call 10
        refine (cm _ HB8.out).mono ?_
        rintro e w9 ⟨BB, hBB, rfl, hb9⟩
        have HB9 := Lib.hid (below_call HB8.out hb9)
        obtain rfl : ((L : Int) == 0) = BB := Bool.eq_iff_iff.2 (HL0.out.trans hBB.symm)
        clear hb9 hBB
        go_wp2_with fail
        go_ret
        exact ⟨rfl, HB9.out⟩
theorem own : ownKnob Try.prog.godebug = none := by kernel_rfl
theorem laidOut : laidOutB Try.prog = true := by kernel_rfl
set_option maxRecDepth 100000 in
theorem contract {O : Nat → World → (Nat → Prop) → Dk.St → Prop} (hI : Mini O) (hC : Chd) (H : Type) (enc : TypeId × Value → H) (W : World) (base : Nat) (args : Array Value) (ds gs : List (DataW H)) (before : List MemPlace)
    (hval0 : ∀ (j : Nat) t v, Try.f3.params[j]? = some t → args[j]? = some v → Value.okWide Try.prog W .any base t v)
    (hW : DataW.Whole enc Try.prog Try.f3.params.toList Rows.scanChangesSpec.vars false W args.toList ds gs before)
    (hk : Rows.uptoSmall H (ds ++ gs) = true)
    (hsz0 : (DataW.weightsEach Try.prog (Try.f3.params.toList ++ Rows.scanChangesSpec.plain.varTypes Try.prog) (ds ++ gs)).all (· ≤ reachBytes) = true) :
    Calls Try.prog 3 args W fun e W' => ∃ v, e = .returned v ∧ Rows.scanChangesSpec.post enc Try.prog Try.f3 false true false false W args v W' := by
  have hval : ∀ (j : Nat) t v, Try.f3.params[j]? = some t → args[j]? = some v → Value.okWide Try.prog W .any base t v := hval0
  have hsz := hsz0
  clear hsz0
  have hW' := hW
  obtain ⟨p, q, hA0, hV, rfl, hfz, hnd⟩ := hW
  have hA : DataW.TrodAll enc Try.prog W 0 (fun _ => true) true Try.f3.params.toList args.toList ds p := hA0
  rw [Try.params3] at hA hval hsz
  obtain ⟨v0, vs0, d0, ds0, p0, q0, hargs, rfl, rfl, h0, r0⟩ := trodAll_cons hA
  obtain ⟨v1, vs1, d1, ds1, p1, q1, rfl, rfl, rfl, h1, r1⟩ := trodAll_cons r0
  obtain ⟨v2, vs2, d2, ds2, p2, q2, rfl, rfl, rfl, h2, r2⟩ := trodAll_cons r1
  obtain ⟨rfl, rfl, rfl⟩ := trodAll_nil r2
  obtain rfl : args = #[v0, v1, v2] := by cases args; simp_all
  obtain ⟨rfl, rfl⟩ := trodVars_none hV
  obtain ⟨A0, n0, c0, rfl⟩ := okWide_slice Try.underlying22 (hval 0 22 v0 rfl rfl)
  have k0 := h0
  have lt0 : ∀ x ∈ p0, x.block < W.heap.size := by obtain ⟨m, hm⟩ := k0; exact DataW.trod_lt m _ _ _ hm
  obtain ⟨A1, n1, c1, rfl⟩ := okWide_slice Try.underlying22 (hval 1 22 v1 rfl rfl)
  have k1 := h1
  have lt1 : ∀ x ∈ p1, x.block < W.heap.size := by obtain ⟨m, hm⟩ := k1; exact DataW.trod_lt m _ _ _ hm
  obtain ⟨s2, rfl, rfl, rfl, w2⟩ := open_string Try.underlying9 (hval 2 9 v2 rfl rfl) h2
  have hreach2 : s2.size ≤ 140737488351232 := by
    have := sized_string hsz (j := 2) (t := 9) rfl rfl
    simpa [reachBytes] using this
  clear hA0 hval0
  obtain ⟨l0, e0, z0, _, m0, sm0⟩ := arg_ents k0
  obtain ⟨l1, e1, z1, _, m1, sm1⟩ := arg_ents k1
  have hbulk : Rows.uptoBulk d0 ≤ 1048576 ∧ Rows.uptoBulk d1 ≤ 1048576 ∧ s2.size ≤ 1048576 := by
    have h := of_decide_eq_true hk
    rw [List.append_nil] at h
    have x : Rows.uptoBulkAll [d0, d1, DataW.lit (H := H) (.string s2.data.toList)] = Rows.uptoBulk d0 + (Rows.uptoBulk d1 + ((s2.data.toList.length + 1) + 0)) := rfl
    rw [x, len_l] at h
    omega
  refine (walk hI hC A0 n0 c0 l0 A1 n1 c1 l1 s2 W e0 e1 (by omega) (by omega) (fun x hx => by have := sm0 x hx; omega) (fun x hx => by have := sm1 x hx; omega) (by omega)).mono fun e W' ⟨he, belF⟩ => ?_
  subst he
  exact ⟨_, rfl, _, _, _, [], _, [], hW', trodAll_mk1 (shut_bool Try.underlying4 _), (trodAll_cons_mk (Below.trod laidOut (by kernel_rfl) (of_decide_eq_true (by kernel_rfl)) k0 belF lt0) (trodAll_cons_mk (Below.trod laidOut (by kernel_rfl) (of_decide_eq_true (by kernel_rfl)) k1 belF lt1) (trodAll_cons_mk (shut_string Try.underlying9 w2) trodAll_mk0))), rfl, belF.frame _, fun h => by cases h⟩
set_option maxRecDepth 100000 in
theorem lifted {O : Nat → World → (Nat → Prop) → Dk.St → Prop} (hI : Mini O) (hC : Chd) (os : Os) (started : os.Started) (H : Type) (enc : TypeId × Value → H) (F : Stop.Interp) :
    ReturnsInHanded {} Try.checked os 3 .any ((Rows.OpenSpec.upto Rows.scanChangesSpec).pre6 enc Try.prog Try.f3 Rows.scanChangesUptoRow.domain false) (((Rows.OpenSpec.upto Rows.scanChangesSpec).at F).post enc Try.prog Try.f3 false true false false) := by
  refine returnsInHanded_of_cond_sized (C := Try.checked) (s := Rows.OpenSpec.upto Rows.scanChangesSpec) (k := Rows.uptoSmall) rfl own started (by kernel_rfl) Try.func3
    (OpenSpec.witness (enc := enc) (C := Try.checked) (s := Rows.OpenSpec.upto Rows.scanChangesSpec) (k := Rows.uptoSmall) rfl false ⟨#[], #[.slice none 0 0, .slice none 0 0, .string ByteArray.empty], []⟩ 8 (by kernel_rfl) (by kernel_rfl) (by kernel_rfl)
      (x := ([.nil, .nil, .lit (.string [])], [], [])) (by kernel_rfl) rfl (by kernel_rfl)) ?_
  intro W base args ds gs before hval hW _ hk hsz0 _
  exact contract hI hC H enc W base args ds gs before hval hW hk hsz0
theorem over {O : Nat → World → (Nat → Prop) → Dk.St → Prop} (hI : Mini O) (hC : Chd) : Rows.scanChangesUptoRow.holds Try.pinned (Rows.OpenSpec.upto Rows.scanChangesSpec) :=
  OpenClaim.holds_of_cond 3 Try.f3 rfl rfl rfl rfl rfl rfl rfl ⟨rfl, rfl, rfl, rfl, rfl⟩ rfl rfl rfl rfl rfl (by kernel_rfl) Try.func3 (by kernel_rfl)
    (of_decide_eq_true (by kernel_rfl)) (by unfold Func.isWrapper; first | (rw [if_pos (by decide +kernel)]; kernel_rfl) | (rw [if_neg (by decide +kernel)]; exact ⟨rfl, rfl⟩))
    (fun os started H enc _ F => lifted hI hC os started H enc F)
end Go.Proofs.Ytdpnmdnfnplcfaa.scanChanges

namespace Go.Proofs.Ytdpnmdnfnplcfaa.Sc
open Go.RowKit Tx Pm Pr Dk
set_option linter.unusedVariables false
theorem oi_mini : Mini Oi where
  new := oi_new
  mkdir := fun b {w F s i T} P h hf hP => (ok_mkdir h.1 (hf.inv.ok hf.i hf.T) (by omega)).mono fun e w' hd => oi_does hd (wf_mkdir P h.2.1) (h.2.2.keep (keeps_mkdir _ P))
  write := fun b {w F s i T} P Q h hf hP hQ => (ok_write h.1 (hf.inv.ok hf.i hf.T) (by omega) (by omega)).mono fun e w' hd => oi_does hd (wf_write P Q h.2.1) (h.2.2.keep (keeps_write _ P Q))
  walk := fun b {w F s i T} V h hf hV => walk_any h.1 ⟨hf.inv.ok hf.i hf.T, h.2.1, by have := hf.inv.len; have := hf.i; omega⟩ h.2.2 hV
set_option maxRecDepth 100000 in
set_option maxHeartbeats 1000000 in
theorem changed_any : scanChanges.Chd := by
  intro a n c la b m c2 lb w ha hb h1 h2
  have cd := En.diffI_any a n c la b m c2 lb w ha hb h1 h2
  clear ha hb h1 h2
  go_enter Try.func6, Try.ntmps6
  go_wp2_with fail
  go_at_call 17
  refine cd.mono ?_
  rintro e w1 ⟨v, rfl, hv⟩
  have HV := Lib.hid hv
  clear hv cd
  go_wp2_with fail
  go_ret
  exact ⟨_, rfl, HV.out⟩
end Go.Proofs.Ytdpnmdnfnplcfaa.Sc
