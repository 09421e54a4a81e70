/-
  ChainHolds, up to the bound: of versions of which each is kept near the one ahead, every one is got as it was added, whichever are dropped, in whatever order, and none is told by more than four steps: the law returns true, and writes nothing that was there. Condition: the arguments hold at most 1048576 values and letters; the library's tables are those of the program's text (the card's tie).
-/
import Derived.Test.YtdfcbnejnnibpaaGreatDoorT5
namespace Go.Proofs.YtdfcbnejnnibpaaGreatDoor.Cn
open Go.ChangeMaps (open_string shut_string)
open Go.ChangeShapes Go.WideShapes Go.ChangeAt Go.RowKit Tx Pm Dk Wm Wr Wl Pl Tb Bl
set_option linter.unusedVariables false
set_option linter.unusedSimpArgs false
set_option linter.unnecessarySimpa false
def Zs (w : World) (a : Option Addr) (n : Nat) (l : List Int) : Prop := l.length = n ∧ (n = 0 ∨ ∃ g off, a = some ⟨g, off, none⟩ ∧ g < w.heap.size ∧ ∀ k x, l[k]? = some x → w.cell? ⟨g, off + k, none⟩ = some (.int .i64 x))
theorem Zs.at {w w1 : World} {a : Option Addr} {n : Nat} {l : List Int} (h : Zs w a n l) (hb : Below w.heap.size w w1) {k : Nat} {x : Int} (hx : l[k]? = some x) : ∃ g off, a = some ⟨g, off, none⟩ ∧ w1.cell? ⟨g, off + k, none⟩ = some (.int .i64 x) := by
  have hk := (List.getElem?_eq_some_iff.1 hx).1
  rcases h.2 with h0 | ⟨g, off, ha, hlt, hc⟩
  · have := h.1; omega
  · exact ⟨g, off, ha, (hb.cell (p := ⟨g, _, none⟩) hlt).trans (hc k x hx)⟩
theorem wf_i64 {k : Int} (h : (Lit.int .i64 k).wf = true) : i64 k := by
  unfold i64
  simpa [Lit.wf, IntKind.min, IntKind.max, IntKind.signed, IntKind.bits] using h
theorem arg_ints {H : Type} {enc : TypeId × Value → H} {w : World} {base : Nat} {spare : Nat → Bool} {held : Bool} {a : Option Addr} {n c : Nat} {d : DataW H} {p : List MemPlace} (h : DataW.Trod enc Tryz.prog w base spare held 46 (.slice a n c) d p) :
    ∃ l : List Int, Zs w a n l ∧ (∀ x ∈ l, i64 x) ∧ n ≤ c ∧ c ≤ 9223372036854775807 := by
  obtain ⟨fuel, hf⟩ := h
  rcases open_ints Tryz.underlying46 Tryz.underlying3 (by kernel_rfl) hf with ⟨hcs, _⟩ | ⟨x, len, cap, ss, hcs, _, hl, hm, hz, hx, hcell, hwf⟩
  · simp [Value.cells] at hcs
    obtain ⟨rfl, rfl, rfl⟩ := hcs
    exact ⟨[], ⟨rfl, .inl rfl⟩, fun x hx => (by cases hx), by omega, by omega⟩
  · simp [Value.cells] at hcs
    obtain ⟨rfl, rfl, rfl⟩ := hcs
    unfold maxLen at hm
    have hz' : n ≤ ss.length := by rw [hz]; split <;> omega
    have hlen : (ss.take n).length = n := by rw [List.length_take]; omega
    refine ⟨ss.take n, ⟨hlen, ?_⟩, fun y hy => wf_i64 (hwf y (List.mem_of_mem_take hy)), hl, by omega⟩
    by_cases h0 : n = 0
    · exact .inl h0
    · right
      obtain ⟨b, off, spot⟩ := x
      have hc0 := hcell 0 (by omega)
      have hspot : spot = none := by simpa [Addr.add] using World.cell?_spot hc0
      subst hspot
      refine ⟨b, off, rfl, ?_, fun k y hk => ?_⟩
      · have := World.block_lt_of_cell? w _ hc0
        rwa [WideShapes.add_plain] at this
      · have hk2 := (List.getElem?_eq_some_iff.1 hk).1
        rw [hlen] at hk2
        have hk3 := hcell k (by omega)
        rw [WideShapes.add_plain] at hk3
        rw [hk3]
        rw [List.getElem?_take_of_lt hk2] at hk
        rw [List.getD_eq_getElem?_getD, hk]
        rfl
theorem Strs.at1 {W : World} {b o n : Nat} {l : List ByteArray} (h : Strs W (some ⟨b, o, none⟩) n l) {k : Nat} {x : ByteArray} (hx : l[k]? = some x) : W.cell? ⟨b, o + k, none⟩ = some (.string x) := by
  have hk := (List.getElem?_eq_some_iff.1 hx).1
  rcases h.2 with h0 | ⟨b', o', e, _, hc⟩
  · rw [h.1] at hk; omega
  · injection e with e
    injection e with e1 e2
    subst e1 e2
    exact hc k x hx
theorem Strs.at2 {W : World} {a : Option Addr} {n : Nat} {l : List ByteArray} (h : Strs W a n l) {k : Nat} {x : ByteArray} (hx : l[k]? = some x) : ∃ b o, a = some ⟨b, o, none⟩ ∧ b < W.heap.size ∧ W.cell? ⟨b, o + k, none⟩ = some (.string x) := by
  have hk := (List.getElem?_eq_some_iff.1 hx).1
  rcases h.2 with h0 | ⟨b, o, e, hb, hc⟩
  · rw [h.1] at hk; omega
  · exact ⟨b, o, e, hb, hc k x hx⟩
theorem mem_le_sum : ∀ {l : List Nat} {x : Nat}, x ∈ l → x ≤ l.sum
  | y :: l, x, h => by
    rw [List.sum_cons]
    rcases List.mem_cons.1 h with rfl | h
    · omega
    · have := mem_le_sum h; omega
def bv1 (x : Bool) : Value := .bool x
theorem infoB : (Tryz.prog.info? 4).map (fun i => (i.zero, i.size, i.bytes)) = some (some (.bool false), 1, 1) := by kernel_rfl
def Bg (b j t m u : Nat) (x : Tst) (w : World) (C : List Vn) (D : Nat → ByteArray) (M S N V : Nat) (g : Nat) (G : List Bool) (W : World) : Prop :=
  ∃ F : Nat → Prop, Bc b j t m u x (W, F) C D M S N V W ∧ (∀ i, F i → w.heap.size ≤ i) ∧ (∀ i, F i → i < W.heap.size) ∧ Below w.heap.size w W ∧ W.ownsRow w.heap.size 4 1 (.slice (some ⟨g, 0, none⟩) G.length G.length) G.length (G.map bv1) ∧ ¬ F g
section
variable {w W W' : World} {b j t m u M S N V g : Nat} {x : Tst} {C : List Vn} {D : Nat → ByteArray} {G : List Bool} {w0 : World × (Nat → Prop)}
theorem Bc.rebase (h : Bc b j t m u x w0 C D M S N V W) : ∃ F : Nat → Prop, (∀ i, F i → w0.2 i ∨ w0.1.heap.size ≤ i) ∧ (∀ i, F i → i < W.heap.size) ∧ Chg w0.2 w0.1 W ∧ Bc b j t m u x (W, F) C D M S N V W := by
  obtain ⟨l, r, ⟨F, h1, h2, h3⟩, hh⟩ := h
  exact ⟨F, h3, tu_lt h1, h2, l, r, ⟨F, h1, Chg.refl F W, fun g hg => .inl hg⟩, hh⟩
theorem Bg.bel (h : Bg b j t m u x w C D M S N V g G W) : Below w.heap.size w W := by
  obtain ⟨F, _, _, _, h4, _⟩ := h
  exact h4
theorem Bg.row (h : Bg b j t m u x w C D M S N V g G W) : W.ownsRow w.heap.size 4 1 (.slice (some ⟨g, 0, none⟩) G.length G.length) G.length (G.map bv1) := by
  obtain ⟨F, _, _, _, _, h5, _⟩ := h
  exact h5
theorem Bg.bc (h : Bg b j t m u x w C D M S N V g G W) (ht : Tab w) : ∃ F, TabZ (W, F) ∧ Bc b j t m u x (W, F) C D M S N V W := by
  obtain ⟨F, h1, h2, h3, h4, _⟩ := h
  exact ⟨F, tabz ht h4 h2, h1⟩
theorem Bg.at (h : Bg b j t m u x w C D M S N V g G W) {k : Nat} {y : Bool} (hy : G[k]? = some y) : W.cell? ⟨g, k, none⟩ = some (.bool y) := by
  have := h.row.cells (g := g) rfl k (bv1 y) (by rw [List.getElem?_map, hy]; rfl)
  rw [WideShapes.add_plain, Nat.zero_add] at this
  exact this
theorem Bg.call {f : FuncId} {args : Array Value} {P : Ending → List Vn → Nat → Nat → Prop} (h : Bg b j t m u x w C D M S N V g G W) (ht : Tab w) (hc : ∀ F, TabZ (W, F) → Bc b j t m u x (W, F) C D M S N V W → Calls Tryz.prog f args W fun e w' => ∃ C' N' V', P e C' N' V' ∧ Bc b j t m u x (W, F) C' D M S N' V' w') :
    Calls Tryz.prog f args W fun e w' => ∃ C' N' V', P e C' N' V' ∧ Bg b j t m u x w C' D M S N' V' g G w' := by
  obtain ⟨F, h1, h2, h3, h4, h5, h6⟩ := h
  refine (hc F (tabz ht h4 h2) h1).mono fun e w' ⟨C', N', V', hp, hB⟩ => ⟨C', N', V', hp, ?_⟩
  obtain ⟨F', q1, q2, q3, q4⟩ := hB.rebase
  have hs := h4.size
  refine ⟨F', q4, fun i hi => (q1 i hi).elim (h2 i) (fun hh => Nat.le_trans hs hh), q2, h4.trans (q3.below hs h2), own_chg h5 q3 (fun k hk => by cases hk; exact h6), fun hF => ?_⟩
  rcases q1 g hF with hh | hh
  · exact h6 hh
  · have := (h5.lt g rfl).2
    have hh : W.heap.size ≤ g := hh
    omega
theorem Bg.below (h : Bg b j t m u x w C D M S N V g G W) (hb : Below W.heap.size W W') : Bg b j t m u x w C D M S N V g G W' := by
  obtain ⟨F, h1, h2, h3, h4, h5, h6⟩ := h
  obtain ⟨F', q1, q2, q3, q4⟩ := (h1.below hb).rebase
  have hs := h4.size
  refine ⟨F', q4, fun i hi => (q1 i hi).elim (h2 i) (fun hh => Nat.le_trans hs hh), q2, Tx.below_call h4 hb, own_belowT h5 hb, fun hF => ?_⟩
  rcases q1 g hF with hh | hh
  · exact h6 hh
  · have := (h5.lt g rfl).2
    have hh : W.heap.size ≤ g := hh
    omega
theorem Bg.set (h : Bg b j t m u x w C D M S N V g G W) (k : Nat) (y : Bool) : Bg b j t m u x w C D M S N V g (G.set k y) (W.setCell ⟨g, k, none⟩ (.bool y)) ∧ W.frozen? ⟨g, k, none⟩ = false := by
  obtain ⟨F, h1, h2, h3, h4, h5, h6⟩ := h
  have hst := World.ownsRow.stored h5 k (.bool y)
  have hfr := World.ownsRow.frozenAt h5 k
  refine ⟨?_, hfr⟩
  obtain ⟨l, r, ⟨F1, g1, g2, g3⟩, hh⟩ := h1
  have hF1 : ∀ i, F1 i → i < W.heap.size := tu_lt g1
  have hsub : ∀ i, F1 i → F i := fun i hi => (g3 i hi).elim id (fun hh => by have := hF1 i hi; have hh : W.heap.size ≤ i := hh; omega)
  have hkeep : ∀ i, F1 i → (W.setCell ⟨g, k, none⟩ (.bool y)).heap[i]? = W.heap[i]? := fun i hi => hst.2.block i (hF1 i hi) (fun e => h6 (by injection e with e; rw [← e]; exact hsub i hi))
  have hT : Tu b j t m u (W.setCell ⟨g, k, none⟩ (.bool y)) F1 (x, l) := by
    obtain ⟨Fa, Gg, ⟨Fj, a1⟩, ⟨pm, vO, a2⟩, hd, hH⟩ := g1
    exact ⟨Fa, Gg, ⟨Fj, a1.kept (fun i hi => hkeep i ((hH i).2 (.inl hi)))⟩, ⟨pm, vO, a2.kept (fun i hi => hkeep i ((hH i).2 (.inr hi)))⟩, hd, hH⟩
  refine ⟨F1, ⟨l, r, ⟨F1, hT, Chg.refl F1 _, fun g hg => .inl hg⟩, hh⟩, fun i hi => h2 i (hsub i hi), fun i hi => Nat.lt_of_lt_of_le (hF1 i hi) hst.2.size, h4.grown hst.2 h4.size (fun q hq => by cases hq; exact (h5.lt g rfl).1), ?_, fun hh => h6 (hsub g hh)⟩
  have := hst.1
  rw [List.length_set, List.map_set]
  exact this
theorem bg_first {G : List Bool} (hB : Bc b j t m u x w0 C D M S N V W) (hF : ∀ i, w0.2 i → w.heap.size ≤ i) (hs : w.heap.size ≤ w0.1.heap.size) (hb : Below w.heap.size w W) (hg : W.grownBy W' none)
    (hr : W'.ownsRow w.heap.size 4 1 (.slice (some ⟨W.heap.size, 0, none⟩) G.length G.length) G.length (G.map bv1)) : Bg b j t m u x w C D M S N V W.heap.size G W' := by
  obtain ⟨l, r, ⟨F, g1, g2, g3⟩, hh⟩ := hB
  have hlt := tu_lt g1
  have hbb : Below W.heap.size W W' := (Below.refl _ W).grown hg (Nat.le_refl _) (fun q hq => by cases hq)
  exact ⟨F, ⟨l, r, ⟨F, tb_below g1 hbb, Chg.refl F W', fun g hg => .inl hg⟩, hh⟩, fun i hi => (g3 i hi).elim (hF i) (fun hh => Nat.le_trans hs hh), fun i hi => Nat.lt_of_lt_of_le (hlt i hi) hbb.size, Tx.below_call hb hbb, hr, fun hh => by have := hlt _ hh; omega⟩
theorem Bg.same {f : FuncId} {args : Array Value} {P : Ending → Prop} (h : Bg b j t m u x w C D M S N V g G W) (ht : Tab w) (hc : ∀ F, TabZ (W, F) → Bc b j t m u x (W, F) C D M S N V W → Calls Tryz.prog f args W fun e w' => P e ∧ Bc b j t m u x (W, F) C D M S N V w') :
    Calls Tryz.prog f args W fun e w' => P e ∧ Bg b j t m u x w C D M S N V g G w' :=
  (h.call (P := fun e C' N' V' => P e ∧ C' = C ∧ N' = N ∧ V' = V) ht (fun F hz hB => (hc F hz hB).mono fun e w' hh => ⟨C, N, V, ⟨hh.1, rfl, rfl, rfl⟩, hh.2⟩)).mono (by
    rintro e w' ⟨C', N', V', ⟨hp, h1, h2, h3⟩, hB⟩
    subst h1 h2 h3
    exact ⟨hp, hB⟩)
theorem Bg.drop {f : FuncId} {args : Array Value} {P : Ending → Prop} {Q : List Vn → Prop} {N' V' : Nat} (h : Bg b j t m u x w C D M S N V g G W) (ht : Tab w) (hc : ∀ F, TabZ (W, F) → Bc b j t m u x (W, F) C D M S N V W → Calls Tryz.prog f args W fun e w' => P e ∧ ∃ C', Q C' ∧ Bc b j t m u x (W, F) C' D M S N' V' w') :
    Calls Tryz.prog f args W fun e w' => P e ∧ ∃ C', Q C' ∧ Bg b j t m u x w C' D M S N' V' g G w' :=
  (h.call (P := fun e C2 N2 V2 => P e ∧ Q C2 ∧ N2 = N' ∧ V2 = V') ht (fun F hz hB => (hc F hz hB).mono fun e w' ⟨h1, C', h2, h3⟩ => ⟨C', N', V', ⟨h1, h2, rfl, rfl⟩, h3⟩)).mono (by
    rintro e w' ⟨C', N2, V2, ⟨hp, hq, h2, h3⟩, hB⟩
    subst h2 h3
    exact ⟨hp, C', hq, hB⟩)
end
theorem Zs.at1 {w w1 : World} {g off n : Nat} {l : List Int} (h : Zs w (some ⟨g, off, none⟩) n l) (hb : Below w.heap.size w w1) {k : Nat} {x : Int} (hx : l[k]? = some x) : w1.cell? ⟨g, off + k, none⟩ = some (.int .i64 x) := by
  obtain ⟨g', off', e, hc⟩ := h.at hb hx
  injection e with e
  injection e with e1 e2
  subst e1 e2
  exact hc
end Go.Proofs.YtdfcbnejnnibpaaGreatDoor.Cn

namespace Go.Proofs.YtdfcbnejnnibpaaGreatDoor.chainHolds
open Go.ChangeMaps (open_string shut_string)
open Go.ChangeShapes Go.WideShapes Go.ChangeAt Go.RowKit Tx Pm Dk Tb Wl Bl Cn
set_option linter.unusedVariables false
set_option linter.unusedSimpArgs false
set_option linter.unnecessarySimpa false
def dOf (l : List ByteArray) : Nat → ByteArray := fun i => (l[i - 1]?).getD ⟨#[]⟩
theorem dOf_add {l : List ByteArray} {k : Nat} {x : ByteArray} (h : l[k]? = some x) : addD (dOf l) k x = dOf l := by
  funext i
  unfold addD dOf
  split
  · rename_i e
    subst e
    rw [Nat.add_sub_cancel, h]
    rfl
  · rfl
theorem dOf_at {l : List ByteArray} {k : Nat} {x : ByteArray} (h : l[k]? = some x) : dOf l (k + 1) = x := by
  unfold dOf
  rw [Nat.add_sub_cancel, h]
  rfl
def Gn (C : List Vn) (n : Nat) (G : List Bool) : Prop := G.length = n + 1 ∧ ∀ k, 1 ≤ k → k ≤ n → ∃ y, G[k]? = some y ∧ (k ∈ ids C ↔ y = false)
theorem gn_first {C : List Vn} {n : Nat} (h : ids C = (List.range n).map (· + 1)) : Gn C n (List.replicate (n + 1) false) := by
  refine ⟨List.length_replicate, fun k h1 h2 => ⟨false, ?_, ?_⟩⟩
  · rw [List.getElem?_replicate, if_pos (by omega)]
  · rw [h, List.mem_map]
    exact ⟨fun _ => rfl, fun _ => ⟨k - 1, by rw [List.mem_range]; omega, by omega⟩⟩
theorem gn_drop {C C' : List Vn} {n q : Nat} {G : List Bool} (h : Gn C n G) (h' : ids C' = (ids C).filter (fun k => !decide (k = q))) : Gn C' n (G.set q true) := by
  refine ⟨by rw [List.length_set]; exact h.1, fun k h1 h2 => ?_⟩
  obtain ⟨y, e1, e2⟩ := h.2 k h1 h2
  by_cases hk : q = k
  · subst hk
    refine ⟨true, by rw [List.getElem?_set_self (by have := h.1; omega)], ?_⟩
    rw [h', List.mem_filter]
    simp
  · refine ⟨y, by rw [List.getElem?_set_ne hk]; exact e1, ?_⟩
    rw [h', List.mem_filter, ← e2]
    constructor
    · exact fun hh => hh.1
    · exact fun hh => ⟨hh, by simp; omega⟩
theorem made_rep (n : Nat) : (madeCells (Value.bool false).cells (n * 1)).toList = (List.replicate n false).map bv1 := by
  rw [Nat.mul_one]
  refine List.ext_getElem? (fun i => ?_)
  rw [List.getElem?_map, List.getElem?_replicate]
  by_cases h : i < n
  · rw [if_pos h]
    simp [madeCells, Value.cells, h, Nat.mod_one, bv1]
  · rw [if_neg h]
    simp [madeCells, Value.cells, h]
set_option maxRecDepth 100000 in
set_option maxHeartbeats 40000000 in
theorem walk (A : Option Addr) (n c : Nat) (l : List ByteArray) (A1 : Option Addr) (n1 c1 : Nat) (z : List Int) (w : World) (hS : Strs w A n l) (hU : (l.map (·.size)).sum ≤ 1048576) (hc : n ≤ c) (hZ : Zs w A1 n1 z) (hZi : ∀ x ∈ z, i64 x) (hc1 : n1 ≤ c1) (ht : Tab w) :
    Calls Tryz.prog 4 #[.slice A n c, .slice A1 n1 c1] w fun e w' => e = .returned (.bool true) ∧ Below w.heap.size w w' := by
  obtain ⟨i0, hI, hz0, hz1, hz2⟩ := info_parts infoB
  have HST := Lib.hid (fun V (hV : Below w.heap.size w V) => hS.below hV)
  have HL := Lib.hid hS.1
  have HW : Hid (∀ x ∈ l, x.size ≤ 1048576) := Lib.hid (fun x hx => by
    have := mem_le_sum (List.mem_map.2 ⟨x, hx, rfl⟩ : x.size ∈ l.map (·.size))
    omega)
  have HZS := Lib.hid hZ
  have HZL := Lib.hid hZ.1
  have HZI := Lib.hid hZi
  have HT := Lib.hid ht
  clear hS ht hU hZ hZi
  go_enter Tryz.func4, Tryz.ntmps4
  go_wp2_with fail
  go_at_call 16
  refine (made_any10 (dOf l) 1048576 w w (Below.refl _ _)).mono ?_
  rintro e w1 ⟨b, j, t, m, u, F, rfl, hb1, hF, o1⟩
  have HF := Lib.hid hF
  have HB1 := Lib.hid hb1
  have HZ : Hid (TabZ (w1, F)) := Lib.hid (tabz HT.out hb1 hF)
  clear hF hb1
  go_wp2_with fail
  go_at_call 8
  refine (awake_any10 w1 w1 (Below.refl _ _) (HT.out.below HB1.out)).mono ?_
  rintro e w2 ⟨rfl, hb2⟩
  by_cases hn : n ≤ 60 ∧ n1 ≤ 60
  · obtain ⟨hn, hn1⟩ := hn
    have zn : ¬ (60 : Int) < (n : Int) := by omega
    have zn1 : ¬ (60 : Int) < (n1 : Int) := by omega
    have o2 := o1.below hb2
    clear o1 hb2
    go_wp2_with fail
    go_loopw [6, 7] (fun nv iv wr => ∃ (k : Nat) (C : List Vn) (N V : Nat), k ≤ n ∧ nv = .int .i64 k ∧ iv = .int .i64 k ∧ Hid (ids C = (List.range k).map (· + 1)) ∧ N ≤ 2 * k ∧ Bc b j t m u x0 (w1, F) C (dOf l) k 1048576 N V wr) (fun _ iv _ => n - (intOf iv).toNat)
    case atStart => exact ⟨0, [], 0, 0, Nat.zero_le _, rfl, rfl, Lib.hid rfl, Nat.zero_le _, o2⟩
    case round =>
      clear o2
      obtain ⟨k, C, N, V, hk, rfl, rfl, hI1, hN, o⟩ := hrel
      by_cases hlt : k < n
      · obtain ⟨tx, htx⟩ : ∃ tx, l[k]? = some tx := ⟨_, List.getElem?_eq_getElem (by rw [HL.out]; exact hlt)⟩
        obtain ⟨bT, oT, rfl, _, gT⟩ := Strs.at2 (HST.out _ (HB1.out.trans (o.chg.below HB1.out.size HF.out))) htx
        have hkz : (k : Int) < (n : Int) := by omega
        have ca := add_any (d := tx) (n := (k : Int)) o (by omega) (by omega) (by omega) (HW.out tx (List.mem_of_getElem? htx)) (by unfold i64; omega) HZ.out
        rw [dOf_add htx] at ca
        have hI2 : Hid (ids (addC C k tx (k : Int)) = (List.range (k + 1)).map (· + 1)) := Lib.hid (by rw [ids_add, hI1.out, List.range_succ, List.map_append]; rfl)
        generalize addC C k tx (k : Int) = C2 at ca hI2
        obtain ⟨k1, hk1⟩ : ∃ k1, k1 = k + 1 := ⟨_, rfl⟩
        rw [← hk1] at ca hI2
        have hks : (k1 : Int) = (k : Int) + 1 := by omega
        have HKS := Lib.hid hks
        have hk1n : k1 ≤ n := by omega
        have hk64 : (k : Int) + 1 ≤ 100 := by omega
        have hbk : ((k1 : Int) == (k : Int) + 1) = true := by rw [hks]; simp
        have hN2 : N + 2 ≤ 2 * k1 := by omega
        have HK1 := Lib.hid hk1
        clear htx o hks hk1
        go_wp2_with fail
        go_at_call 10
        refine ca.mono ?_
        rintro e w3 ⟨rfl, o3⟩
        clear ca gT
        go_wp2_with fail
        go_roundw
        case rel => exact ⟨k1, C2, _, _, hk1n, rfl, by rw [HKS.out], hI2, hN2, o3⟩
        case measure => have := HK1.out; simp [intOf]; omega
      · obtain rfl : k = n := by omega
        obtain ⟨N1, hN1e⟩ : ∃ N1, N1 = k + 1 := ⟨_, rfl⟩
        have hN1 : (k : Int) + 1 = (N1 : Int) := by omega
        have HN1 := Lib.hid hN1e
        have hbw := HB1.out.trans (o.chg.below HB1.out.size HF.out)
        have HFI := Lib.hid (fun W' (hg : wr.grownBy W' none) (hr : W'.ownsRow w.heap.size 4 1 (.slice (some ⟨wr.heap.size, 0, none⟩) N1 N1) N1 ((List.replicate N1 false).map bv1)) => bg_first (G := List.replicate N1 false) (W' := W') o HF.out HB1.out.size hbw hg (by rw [List.length_replicate]; exact hr))
        have hGn : Hid (Gn C k (List.replicate N1 false)) := Lib.hid (by rw [hN1e]; exact gn_first hI1.out)
        have hCl : C.length ≤ k := by
          have h1 := len_ids C
          rw [hI1.out, List.length_map, List.length_range] at h1
          omega
        have hbs := hbw.size
        have hN1s : N1 ≤ 61 := by omega
        clear o hlt hN1e hbw
        go_wp2_with (at_make; refine wpList_make_full _ rfl _ _ _ rfl w.heap.size 4 i0 (.bool false) 1 Tryz.underlying47 hI hz0 hz1 _ _ _ _ N1 rfl rfl rfl rfl (by rw [hz2]; omega) (by unfold maxLen; omega) hbs ?_)
        intro w4 hown4 hgrow4
        have hr4 : w4.ownsRow w.heap.size 4 1 (.slice (some ⟨wr.heap.size, 0, none⟩) N1 N1) N1 ((List.replicate N1 false).map bv1) := by
          rw [← made_rep, Nat.mul_one]
          simpa [Value.cells] using hown4
        have o4 := HFI.out w4 hgrow4 hr4
        clear hown4 hgrow4 hr4 hbs
        generalize wr.heap.size = g at o4 ⊢
        obtain ⟨n, hn'⟩ : ∃ n, n = k := ⟨_, rfl⟩
        subst hn'
        go_wp2_with fail
        go_loopw [9] (fun iv wr2 => ∃ (i : Nat) (C2 : List Vn) (G : List Bool) (N2 V2 : Nat), i ≤ n1 ∧ iv = .int .i64 i ∧ Hid (Gn C2 n G) ∧ C2.length ≤ n ∧ N2 ≤ 200 + i * 100 ∧ Bg b j t m u x0 w C2 (dOf l) n 1048576 N2 V2 g G wr2) (fun iv _ => n1 - (intOf iv).toNat)
        case atStart => exact ⟨0, C, _, N, V, Nat.zero_le _, rfl, hGn, hCl, by omega, o4⟩
        case round =>
          clear o4 hGn hCl hI1 hN
          obtain ⟨i, C, G, N, V, hi, rfl, hGN, hLEN, hNb, o⟩ := hrel
          by_cases hlt : i < n1
          · obtain ⟨zi, hzx⟩ : ∃ zi, z[i]? = some zi := ⟨_, List.getElem?_eq_getElem (by rw [HZL.out]; exact hlt)⟩
            obtain ⟨gz0, oz0, rfl, gz⟩ := Zs.at HZS.out o.bel hzx
            have hiz : (i : Int) < (n1 : Int) := by omega
            have hzi := HZI.out zi (List.mem_of_getElem? hzx)
            have hzi' := hzi
            unfold i64 at hzi'
            have hGlen := hGN.out.1
            have HGR : Hid (∀ k : Nat, k ∈ ids C → 1 ≤ k ∧ k ≤ n) := Lib.hid (fun k hk => by
              obtain ⟨FF, _, hbc⟩ := o.bc HT.out
              obtain ⟨r, g⟩ := hbc.good
              exact ids_le g hk)
            rw [hGlen, ← HN1.out] at *
            by_cases hz1 : 1 ≤ zi
            · by_cases hzn : zi ≤ (n : Int)
              · obtain ⟨qz, rfl⟩ : ∃ qz : Nat, zi = (qz : Int) := ⟨zi.toNat, by omega⟩
                obtain ⟨y, hy, hyi⟩ := hGN.out.2 qz (by omega) (by omega)
                have hqN1 : (qz : Int) < (N1 : Int) := by omega
                cases y with
                | true =>
                  have hno : ∀ k : Nat, k ∈ ids C → (k : Int) ≠ (qz : Int) := fun k hk he => by
                    have : k = qz := by omega
                    subst this
                    have := hyi.1 hk
                    cases this
                  clear hyi HGR
                  have cd := o.same (P := fun e => e = .returned (.int .i64 11)) HT.out (fun F hT hB => drop_none (n := (qz : Int)) hB hzi (not_at hno) (by omega) (by omega) hT)
                  have HAT := Lib.hid (fun V2 (o' : Bg b j t m u x0 w C (dOf l) n 1048576 N V g G V2) => Zs.at1 HZS.out o'.bel hzx)
                  clear o hzx hno
                  go_wp2_with fail
                  go_at_call 12
                  refine cd.mono ?_
                  rintro e w6 ⟨rfl, o9⟩
                  clear gz
                  have gz := HAT.out w6 o9
                  have hgq := o9.at hy
                  have HGN := hGN
                  clear cd HAT
                  have HBG := Lib.hid (fun V2 (hV : Below w6.heap.size w6 V2) => o9.below hV)
                  have hGL := HGN.out.1
                  have HGLN := Lib.hid hGL
                  clear o9 hGL
                  go_wp2_with fail
                  go_loopw [12] (fun kv wq => ∃ q : Nat, 1 ≤ q ∧ q ≤ n + 1 ∧ kv = .int .i64 q ∧ Below w6.heap.size w6 wq) (fun kv _ => n + 1 - (intOf kv).toNat)
                  case atStart => exact ⟨1, Nat.le_refl _, by omega, rfl, Below.refl _ _⟩
                  case round =>
                    obtain ⟨q, hq1, hqn, rfl, hBq⟩ := hrel
                    have og := HBG.out _ hBq
                    by_cases hlq : q ≤ n
                    · have hqz : (q : Int) ≤ (n : Int) := by omega
                      obtain ⟨p, hp⟩ : ∃ p, p + 1 = q := ⟨q - 1, by omega⟩
                      have hqp : (q : Int) - 1 = (p : Int) := by omega
                      have hqN : (q : Int) < (N1 : Int) := by omega
                      obtain ⟨tx, htx⟩ : ∃ tx, l[p]? = some tx := ⟨_, List.getElem?_eq_getElem (by rw [HL.out]; omega)⟩
                      obtain ⟨bT, oT, rfl, _, gT⟩ := Strs.at2 (HST.out _ og.bel) htx
                      have hpn : (p : Int) < (n : Int) := by omega
                      obtain ⟨y, hy, hyi⟩ := HGN.out.2 q hq1 hlq
                      have hgq := og.at hy
                      obtain ⟨FF, hz, hbc⟩ := og.bc HT.out
                      have hqi : i64 (q : Nat) := by unfold i64; omega
                      have hdq : dOf l q = tx := by rw [← hp]; exact dOf_at htx
                      have HROW := Lib.hid (fun V2 (hV : Below wr.heap.size wr V2) => And.intro (Strs.at1 (HST.out _ (og.below hV).bel) htx) ((og.below hV).at hy))
                      cases y with
                      | true =>
                        have cg := bc_get_none (n := (q : Int)) hbc hqi (fun k hk he => by
                          have : k = q := by omega
                          subst this
                          have := hyi.1 hk
                          cases this) (by omega) (by omega) hz
                        clear og hbc hz hy hyi htx hdq gT hgq hp
                        go_wp2_with fail
                        go_at_call 17
                        refine cg.mono ?_
                        rintro e w8 ⟨rfl, hb8⟩
                        obtain ⟨gT, hgq⟩ := HROW.out w8 hb8
                        have hB8 := Tx.below_call hBq hb8
                        clear cg hb8
                        go_wp2_with fail
                        go_roundw
                        case rel => exact ⟨q + 1, by omega, by omega, by go_num, hB8⟩
                        case measure => simp [intOf]; omega
                      | false =>
                        have cg := bc_get (n := q) hbc (hyi.2 rfl) (by omega) (by omega) hz
                        rw [hdq] at cg
                        have HDE := Lib.hid (fun V2 (hV : Below wr.heap.size wr V2) => bc_depth (n := (q : Int)) (hbc.below hV) hqi (by omega) (by omega) hz)
                        have hl5 : (lnC C (q : Int)).length ≤ 5 := ln_len C 5 q
                        generalize (lnC C (q : Int)).length = LN at HDE hl5
                        have hl4 : (LN : Int) - 1 ≤ 4 := by omega
                        have hbb : (tx.toList == tx.toList) = true := beq_self_eq_true _
                        clear og hbc hz hy hyi htx hdq gT hgq hp hl5
                        go_wp2_with fail
                        go_at_call 17
                        refine cg.mono ?_
                        rintro e w8 ⟨rfl, hb8⟩
                        obtain ⟨gT, hgq⟩ := HROW.out w8 hb8
                        have hB8 := Tx.below_call hBq hb8
                        have cd := HDE.out w8 hb8
                        clear cg hb8
                        go_wp2_with fail
                        go_at_call 18
                        refine cd.mono ?_
                        rintro e w9 ⟨rfl, hb9⟩
                        have hB9 := Tx.below_call hB8 hb9
                        clear cd hb9 gT hgq
                        go_wp2_with fail
                        go_roundw
                        case rel => exact ⟨q + 1, by omega, by omega, by go_num, hB9⟩
                        case measure => simp [intOf]; omega
                    · have hqz : ¬ (q : Int) ≤ (n : Int) := by omega
                      clear og
                      go_wp2_with fail
                      go_roundw
                      case rel => exact ⟨i + 1, C, G, N, V, by omega, by go_num, HGN, hLEN, by omega, HBG.out _ hBq⟩
                      case measure => simp [intOf]; omega
                | false =>
                  obtain ⟨v, hv, hvq⟩ : ∃ v ∈ C, v.id = qz := by
                    obtain ⟨v, hv, e⟩ := List.mem_map.1 (hyi.2 rfl)
                    exact ⟨v, hv, e⟩
                  clear hyi HGR
                  have cd := o.drop (P := fun e => e = .returned (.int .i64 0)) (Q := fun C' => ids C' = (ids C).filter (fun k => !decide (k = qz))) HT.out (fun F hT hB => by
                    have c := drop_any (v := v) hB xk0 hv (by omega) (by omega) (by omega) (by omega) hT
                    rw [hvq] at c
                    exact c)
                  have HAT := Lib.hid (fun V2 (hV : Below w.heap.size w V2) => Zs.at1 HZS.out hV hzx)
                  clear o hzx hv hvq
                  go_wp2_with fail
                  go_at_call 12
                  refine cd.mono ?_
                  rintro e w6 ⟨rfl, C', hC', o6⟩
                  clear gz
                  have gz := HAT.out w6 o6.bel
                  have hgq := o6.at hy
                  obtain ⟨o9, hfz⟩ := o6.set qz true
                  have HGN := Lib.hid (gn_drop hGN.out hC')
                  have hLEN : C'.length ≤ n := by
                    have h1 := len_ids C'
                    have h2 := List.length_filter_le (fun k => !decide (k = qz)) (ids C)
                    have h3 := len_ids C
                    rw [hC'] at h1
                    omega
                  have hNc : N + C.length + 1 ≤ 200 + (i + 1) * 100 := by omega
                  clear cd HAT hC' o6
                  have HBG := Lib.hid (fun V2 (hV : Below (w6.setCell ⟨g, qz, none⟩ (.bool true)).heap.size (w6.setCell ⟨g, qz, none⟩ (.bool true)) V2) => o9.below hV)
                  have hGL := HGN.out.1
                  have HGLN := Lib.hid hGL
                  clear o9 hGL
                  go_wp2_with fail
                  go_loopw [12] (fun kv wq => ∃ q : Nat, 1 ≤ q ∧ q ≤ n + 1 ∧ kv = .int .i64 q ∧ Below (w6.setCell ⟨g, qz, none⟩ (.bool true)).heap.size (w6.setCell ⟨g, qz, none⟩ (.bool true)) wq) (fun kv _ => n + 1 - (intOf kv).toNat)
                  case atStart => exact ⟨1, Nat.le_refl _, by omega, rfl, Below.refl _ _⟩
                  case round =>
                    obtain ⟨q, hq1, hqn, rfl, hBq⟩ := hrel
                    have og := HBG.out _ hBq
                    by_cases hlq : q ≤ n
                    · have hqz : (q : Int) ≤ (n : Int) := by omega
                      obtain ⟨p, hp⟩ : ∃ p, p + 1 = q := ⟨q - 1, by omega⟩
                      have hqp : (q : Int) - 1 = (p : Int) := by omega
                      have hqN : (q : Int) < (N1 : Int) := by omega
                      obtain ⟨tx, htx⟩ : ∃ tx, l[p]? = some tx := ⟨_, List.getElem?_eq_getElem (by rw [HL.out]; omega)⟩
                      obtain ⟨bT, oT, rfl, _, gT⟩ := Strs.at2 (HST.out _ og.bel) htx
                      have hpn : (p : Int) < (n : Int) := by omega
                      obtain ⟨y, hy, hyi⟩ := HGN.out.2 q hq1 hlq
                      have hgq := og.at hy
                      obtain ⟨FF, hz, hbc⟩ := og.bc HT.out
                      have hqi : i64 (q : Nat) := by unfold i64; omega
                      have hdq : dOf l q = tx := by rw [← hp]; exact dOf_at htx
                      have HROW := Lib.hid (fun V2 (hV : Below wr.heap.size wr V2) => And.intro (Strs.at1 (HST.out _ (og.below hV).bel) htx) ((og.below hV).at hy))
                      cases y with
                      | true =>
                        have cg := bc_get_none (n := (q : Int)) hbc hqi (fun k hk he => by
                          have : k = q := by omega
                          subst this
                          have := hyi.1 hk
                          cases this) (by omega) (by omega) hz
                        clear og hbc hz hy hyi htx hdq gT hgq hp
                        go_wp2_with fail
                        go_at_call 17
                        refine cg.mono ?_
                        rintro e w8 ⟨rfl, hb8⟩
                        obtain ⟨gT, hgq⟩ := HROW.out w8 hb8
                        have hB8 := Tx.below_call hBq hb8
                        clear cg hb8
                        go_wp2_with fail
                        go_roundw
                        case rel => exact ⟨q + 1, by omega, by omega, by go_num, hB8⟩
                        case measure => simp [intOf]; omega
                      | false =>
                        have cg := bc_get (n := q) hbc (hyi.2 rfl) (by omega) (by omega) hz
                        rw [hdq] at cg
                        have HDE := Lib.hid (fun V2 (hV : Below wr.heap.size wr V2) => bc_depth (n := (q : Int)) (hbc.below hV) hqi (by omega) (by omega) hz)
                        have hl5 : (lnC C' (q : Int)).length ≤ 5 := ln_len C' 5 q
                        generalize (lnC C' (q : Int)).length = LN at HDE hl5
                        have hl4 : (LN : Int) - 1 ≤ 4 := by omega
                        have hbb : (tx.toList == tx.toList) = true := beq_self_eq_true _
                        clear og hbc hz hy hyi htx hdq gT hgq hp hl5
                        go_wp2_with fail
                        go_at_call 17
                        refine cg.mono ?_
                        rintro e w8 ⟨rfl, hb8⟩
                        obtain ⟨gT, hgq⟩ := HROW.out w8 hb8
                        have hB8 := Tx.below_call hBq hb8
                        have cd := HDE.out w8 hb8
                        clear cg hb8
                        go_wp2_with fail
                        go_at_call 18
                        refine cd.mono ?_
                        rintro e w9 ⟨rfl, hb9⟩
                        have hB9 := Tx.below_call hB8 hb9
                        clear cd hb9 gT hgq
                        go_wp2_with fail
                        go_roundw
                        case rel => exact ⟨q + 1, by omega, by omega, by go_num, hB9⟩
                        case measure => simp [intOf]; omega
                    · have hqz : ¬ (q : Int) ≤ (n : Int) := by omega
                      clear og
                      go_wp2_with fail
                      go_roundw
                      case rel => exact ⟨i + 1, C', (G.set qz true), _, _, by omega, by go_num, HGN, hLEN, hNc, HBG.out _ hBq⟩
                      case measure => simp [intOf]; omega
              · have hno : ∀ k : Nat, k ∈ ids C → (k : Int) ≠ zi := fun k hk he => by
                  have := HGR.out k hk
                  omega
                clear HGR
                have cd := o.same (P := fun e => e = .returned (.int .i64 11)) HT.out (fun F hT hB => drop_none (n := zi) hB hzi (not_at hno) (by omega) (by omega) hT)
                have HAT := Lib.hid (fun V2 (o' : Bg b j t m u x0 w C (dOf l) n 1048576 N V g G V2) => Zs.at1 HZS.out o'.bel hzx)
                clear o hzx hno
                go_wp2_with fail
                go_at_call 12
                refine cd.mono ?_
                rintro e w6 ⟨rfl, o9⟩
                clear gz
                have gz := HAT.out w6 o9
                have HGN := hGN
                clear cd HAT
                have HBG := Lib.hid (fun V2 (hV : Below w6.heap.size w6 V2) => o9.below hV)
                have hGL := HGN.out.1
                have HGLN := Lib.hid hGL
                clear o9 hGL
                go_wp2_with fail
                go_loopw [12] (fun kv wq => ∃ q : Nat, 1 ≤ q ∧ q ≤ n + 1 ∧ kv = .int .i64 q ∧ Below w6.heap.size w6 wq) (fun kv _ => n + 1 - (intOf kv).toNat)
                case atStart => exact ⟨1, Nat.le_refl _, by omega, rfl, Below.refl _ _⟩
                case round =>
                  obtain ⟨q, hq1, hqn, rfl, hBq⟩ := hrel
                  have og := HBG.out _ hBq
                  by_cases hlq : q ≤ n
                  · have hqz : (q : Int) ≤ (n : Int) := by omega
                    obtain ⟨p, hp⟩ : ∃ p, p + 1 = q := ⟨q - 1, by omega⟩
                    have hqp : (q : Int) - 1 = (p : Int) := by omega
                    have hqN : (q : Int) < (N1 : Int) := by omega
                    obtain ⟨tx, htx⟩ : ∃ tx, l[p]? = some tx := ⟨_, List.getElem?_eq_getElem (by rw [HL.out]; omega)⟩
                    obtain ⟨bT, oT, rfl, _, gT⟩ := Strs.at2 (HST.out _ og.bel) htx
                    have hpn : (p : Int) < (n : Int) := by omega
                    obtain ⟨y, hy, hyi⟩ := HGN.out.2 q hq1 hlq
                    have hgq := og.at hy
                    obtain ⟨FF, hz, hbc⟩ := og.bc HT.out
                    have hqi : i64 (q : Nat) := by unfold i64; omega
                    have hdq : dOf l q = tx := by rw [← hp]; exact dOf_at htx
                    have HROW := Lib.hid (fun V2 (hV : Below wr.heap.size wr V2) => And.intro (Strs.at1 (HST.out _ (og.below hV).bel) htx) ((og.below hV).at hy))
                    cases y with
                    | true =>
                      have cg := bc_get_none (n := (q : Int)) hbc hqi (fun k hk he => by
                        have : k = q := by omega
                        subst this
                        have := hyi.1 hk
                        cases this) (by omega) (by omega) hz
                      clear og hbc hz hy hyi htx hdq gT hgq hp
                      go_wp2_with fail
                      go_at_call 17
                      refine cg.mono ?_
                      rintro e w8 ⟨rfl, hb8⟩
                      obtain ⟨gT, hgq⟩ := HROW.out w8 hb8
                      have hB8 := Tx.below_call hBq hb8
                      clear cg hb8
                      go_wp2_with fail
                      go_roundw
                      case rel => exact ⟨q + 1, by omega, by omega, by go_num, hB8⟩
                      case measure => simp [intOf]; omega
                    | false =>
                      have cg := bc_get (n := q) hbc (hyi.2 rfl) (by omega) (by omega) hz
                      rw [hdq] at cg
                      have HDE := Lib.hid (fun V2 (hV : Below wr.heap.size wr V2) => bc_depth (n := (q : Int)) (hbc.below hV) hqi (by omega) (by omega) hz)
                      have hl5 : (lnC C (q : Int)).length ≤ 5 := ln_len C 5 q
                      generalize (lnC C (q : Int)).length = LN at HDE hl5
                      have hl4 : (LN : Int) - 1 ≤ 4 := by omega
                      have hbb : (tx.toList == tx.toList) = true := beq_self_eq_true _
                      clear og hbc hz hy hyi htx hdq gT hgq hp hl5
                      go_wp2_with fail
                      go_at_call 17
                      refine cg.mono ?_
                      rintro e w8 ⟨rfl, hb8⟩
                      obtain ⟨gT, hgq⟩ := HROW.out w8 hb8
                      have hB8 := Tx.below_call hBq hb8
                      have cd := HDE.out w8 hb8
                      clear cg hb8
                      go_wp2_with fail
                      go_at_call 18
                      refine cd.mono ?_
                      rintro e w9 ⟨rfl, hb9⟩
                      have hB9 := Tx.below_call hB8 hb9
                      clear cd hb9 gT hgq
                      go_wp2_with fail
                      go_roundw
                      case rel => exact ⟨q + 1, by omega, by omega, by go_num, hB9⟩
                      case measure => simp [intOf]; omega
                  · have hqz : ¬ (q : Int) ≤ (n : Int) := by omega
                    clear og
                    go_wp2_with fail
                    go_roundw
                    case rel => exact ⟨i + 1, C, G, N, V, by omega, by go_num, HGN, hLEN, by omega, HBG.out _ hBq⟩
                    case measure => simp [intOf]; omega
            · have hno : ∀ k : Nat, k ∈ ids C → (k : Int) ≠ zi := fun k hk he => by
                have := HGR.out k hk
                omega
              clear HGR
              have cd := o.same (P := fun e => e = .returned (.int .i64 11)) HT.out (fun F hT hB => drop_none (n := zi) hB hzi (not_at hno) (by omega) (by omega) hT)
              have HAT := Lib.hid (fun V2 (o' : Bg b j t m u x0 w C (dOf l) n 1048576 N V g G V2) => Zs.at1 HZS.out o'.bel hzx)
              clear o hzx hno
              go_wp2_with fail
              go_at_call 12
              refine cd.mono ?_
              rintro e w6 ⟨rfl, o9⟩
              clear gz
              have gz := HAT.out w6 o9
              have HGN := hGN
              clear cd HAT
              have HBG := Lib.hid (fun V2 (hV : Below w6.heap.size w6 V2) => o9.below hV)
              have hGL := HGN.out.1
              have HGLN := Lib.hid hGL
              clear o9 hGL
              go_wp2_with fail
              go_loopw [12] (fun kv wq => ∃ q : Nat, 1 ≤ q ∧ q ≤ n + 1 ∧ kv = .int .i64 q ∧ Below w6.heap.size w6 wq) (fun kv _ => n + 1 - (intOf kv).toNat)
              case atStart => exact ⟨1, Nat.le_refl _, by omega, rfl, Below.refl _ _⟩
              case round =>
                obtain ⟨q, hq1, hqn, rfl, hBq⟩ := hrel
                have og := HBG.out _ hBq
                by_cases hlq : q ≤ n
                · have hqz : (q : Int) ≤ (n : Int) := by omega
                  obtain ⟨p, hp⟩ : ∃ p, p + 1 = q := ⟨q - 1, by omega⟩
                  have hqp : (q : Int) - 1 = (p : Int) := by omega
                  have hqN : (q : Int) < (N1 : Int) := by omega
                  obtain ⟨tx, htx⟩ : ∃ tx, l[p]? = some tx := ⟨_, List.getElem?_eq_getElem (by rw [HL.out]; omega)⟩
                  obtain ⟨bT, oT, rfl, _, gT⟩ := Strs.at2 (HST.out _ og.bel) htx
                  have hpn : (p : Int) < (n : Int) := by omega
                  obtain ⟨y, hy, hyi⟩ := HGN.out.2 q hq1 hlq
                  have hgq := og.at hy
                  obtain ⟨FF, hz, hbc⟩ := og.bc HT.out
                  have hqi : i64 (q : Nat) := by unfold i64; omega
                  have hdq : dOf l q = tx := by rw [← hp]; exact dOf_at htx
                  have HROW := Lib.hid (fun V2 (hV : Below wr.heap.size wr V2) => And.intro (Strs.at1 (HST.out _ (og.below hV).bel) htx) ((og.below hV).at hy))
                  cases y with
                  | true =>
                    have cg := bc_get_none (n := (q : Int)) hbc hqi (fun k hk he => by
                      have : k = q := by omega
                      subst this
                      have := hyi.1 hk
                      cases this) (by omega) (by omega) hz
                    clear og hbc hz hy hyi htx hdq gT hgq hp
                    go_wp2_with fail
                    go_at_call 17
                    refine cg.mono ?_
                    rintro e w8 ⟨rfl, hb8⟩
                    obtain ⟨gT, hgq⟩ := HROW.out w8 hb8
                    have hB8 := Tx.below_call hBq hb8
                    clear cg hb8
                    go_wp2_with fail
                    go_roundw
                    case rel => exact ⟨q + 1, by omega, by omega, by go_num, hB8⟩
                    case measure => simp [intOf]; omega
                  | false =>
                    have cg := bc_get (n := q) hbc (hyi.2 rfl) (by omega) (by omega) hz
                    rw [hdq] at cg
                    have HDE := Lib.hid (fun V2 (hV : Below wr.heap.size wr V2) => bc_depth (n := (q : Int)) (hbc.below hV) hqi (by omega) (by omega) hz)
                    have hl5 : (lnC C (q : Int)).length ≤ 5 := ln_len C 5 q
                    generalize (lnC C (q : Int)).length = LN at HDE hl5
                    have hl4 : (LN : Int) - 1 ≤ 4 := by omega
                    have hbb : (tx.toList == tx.toList) = true := beq_self_eq_true _
                    clear og hbc hz hy hyi htx hdq gT hgq hp hl5
                    go_wp2_with fail
                    go_at_call 17
                    refine cg.mono ?_
                    rintro e w8 ⟨rfl, hb8⟩
                    obtain ⟨gT, hgq⟩ := HROW.out w8 hb8
                    have hB8 := Tx.below_call hBq hb8
                    have cd := HDE.out w8 hb8
                    clear cg hb8
                    go_wp2_with fail
                    go_at_call 18
                    refine cd.mono ?_
                    rintro e w9 ⟨rfl, hb9⟩
                    have hB9 := Tx.below_call hB8 hb9
                    clear cd hb9 gT hgq
                    go_wp2_with fail
                    go_roundw
                    case rel => exact ⟨q + 1, by omega, by omega, by go_num, hB9⟩
                    case measure => simp [intOf]; omega
                · have hqz : ¬ (q : Int) ≤ (n : Int) := by omega
                  clear og
                  go_wp2_with fail
                  go_roundw
                  case rel => exact ⟨i + 1, C, G, N, V, by omega, by go_num, HGN, hLEN, by omega, HBG.out _ hBq⟩
                  case measure => simp [intOf]; omega
          · obtain rfl : i = n1 := by omega
            have hbel := o.bel
            clear o hlt
            go_wp2_with fail
            go_ret
            exact ⟨rfl, hbel⟩
  · have hB2 := Tx.below_call HB1.out hb2
    have HB2 := Lib.hid hB2
    have c3 := awake_any10 w2 w2 (Below.refl _ _) (HT.out.below hB2)
    clear o1 hb2 hB2
    by_cases hlo : n ≤ 60
    · have z16 : ¬ (60 : Int) < (n : Int) := by omega
      have z40 : (60 : Int) < (n1 : Int) := by omega
      go_wp2_with fail
      go_at_call 8
      refine (c3).mono ?_
      rintro e w3 ⟨rfl, hb3⟩
      have hB3 := Tx.below_call HB2.out hb3
      clear c3 hb3
      go_wp2_with fail
      go_ret
      exact ⟨rfl, hB3⟩
    · have z16 : (60 : Int) < (n : Int) := by omega
      go_wp2_with fail
      go_at_call 8
      refine (c3).mono ?_
      rintro e w3 ⟨rfl, hb3⟩
      have hB3 := Tx.below_call HB2.out hb3
      clear c3 hb3
      go_wp2_with fail
      go_ret
      exact ⟨rfl, hB3⟩
theorem tab_of {W : World} (h : laidMetH Tryz.prog Rows.chainHoldsUptoRow.laid W) : Tab W := tab_laid h
theorem own : ownKnob Tryz.prog.godebug = none := by kernel_rfl
theorem laidOut : laidOutB Tryz.prog = true := by kernel_rfl
set_option maxRecDepth 100000 in
theorem contract (H : Type) (enc : TypeId × Value → H) (W : World) (base : Nat) (args : Array Value) (ds gs : List (DataW H)) (before : List MemPlace)
    (hval0 : ∀ (j : Nat) t v, Tryz.f4.params[j]? = some t → args[j]? = some v → Value.okWide Tryz.prog W .any base t v)
    (hW : DataW.Whole enc Tryz.prog Tryz.f4.params.toList Rows.chainHoldsSpec.vars false W args.toList ds gs before)
    (hk : Rows.uptoSmall H (ds ++ gs) = true)
    (hsz0 : (DataW.weightsEach Tryz.prog (Tryz.f4.params.toList ++ Rows.chainHoldsSpec.plain.varTypes Tryz.prog) (ds ++ gs)).all (· ≤ reachBytes) = true)
    (hL : laidMetH Tryz.prog Rows.chainHoldsUptoRow.laid W) :
    Calls Tryz.prog 4 args W fun e W' => ∃ v, e = .returned v ∧ Rows.chainHoldsSpec.post enc Tryz.prog Tryz.f4 false true false false W args v W' := by
  have hval : ∀ (j : Nat) t v, Tryz.f4.params[j]? = some t → args[j]? = some v → Value.okWide Tryz.prog W .any base t v := hval0
  have hsz := hsz0
  clear hsz0
  have hW' := hW
  obtain ⟨p, q, hA0, hV, rfl, hfz, hnd⟩ := hW
  have hA : DataW.TrodAll enc Tryz.prog W 0 (fun _ => true) true Tryz.f4.params.toList args.toList ds p := hA0
  rw [Tryz.params4] at hA hval hsz
  obtain ⟨v0, vs0, d0, ds0, p0, q0, hargs, rfl, rfl, h0, r0⟩ := trodAll_cons hA
  obtain ⟨v1, vs1, d1, ds1, p1, q1, rfl, rfl, rfl, h1, r1⟩ := trodAll_cons r0
  obtain ⟨rfl, rfl, rfl⟩ := trodAll_nil r1
  obtain rfl : args = #[v0, v1] := by cases args; simp_all
  obtain ⟨rfl, rfl⟩ := trodVars_none hV
  obtain ⟨A0, n0, c0, rfl⟩ := okWide_slice Tryz.underlying45 (hval 0 45 v0 rfl rfl)
  have k0 := h0
  have lt0 : ∀ x ∈ p0, x.block < W.heap.size := by obtain ⟨m, hm⟩ := k0; exact DataW.trod_lt m _ _ _ hm
  obtain ⟨A1, n1, c1, rfl⟩ := okWide_slice Tryz.underlying46 (hval 1 46 v1 rfl rfl)
  have k1 := h1
  have lt1 : ∀ x ∈ p1, x.block < W.heap.size := by obtain ⟨m, hm⟩ := k1; exact DataW.trod_lt m _ _ _ hm
  clear hA0 hval0
  obtain ⟨l0, hS0, hb0, _, hc0, hm0, _⟩ := arg_texts k0
  obtain ⟨z1, hS1, hi1, hc1, hm1⟩ := arg_ints k1
  have hu0 : (l0.map (·.size)).sum ≤ 1048576 := by
    have h1 := of_decide_eq_true hk
    simp only [List.cons_append, List.nil_append, List.append_nil, Rows.uptoBulkAll] at h1
    omega
  refine (walk A0 n0 c0 l0 A1 n1 c1 z1 W hS0 hu0 hc0 hS1 hi1 hc1 (tab_of hL)).mono fun e W' ⟨he, bel⟩ => ?_
  subst he
  exact ⟨_, rfl, _, _, _, [], _, [], hW', trodAll_mk1 (shut_bool Tryz.underlying4 _), (trodAll_cons_mk (Below.trod laidOut (by kernel_rfl) (of_decide_eq_true (by kernel_rfl)) k0 bel lt0) (trodAll_cons_mk (Below.trod laidOut (by kernel_rfl) (of_decide_eq_true (by kernel_rfl)) k1 bel lt1) trodAll_mk0)), rfl, bel.frame _, fun h => by cases h⟩
theorem door_met (os : Os) : laidMetH Tryz.prog Rows.chainHoldsUptoRow.laid ((World.doorLaid Tryz.prog 400 os).forCall (fun _ _ => 0) ⟨#[], #[.slice none 0 0, .slice none 0 0], []⟩).memory :=
  laidMetH_of_parts3 (fuel := 8) (laidMet_of_run' 8 (by kernel_rfl) (by kernel_rfl)) (by kernel_rfl) (by kernel_rfl)
theorem reads (os : Os) {H : Type} (enc : TypeId × Value → H) : ∃ places, DataW.whole enc Tryz.prog ((World.doorLaid Tryz.prog 400 os).forCall (fun _ _ => 0) ⟨#[], #[.slice none 0 0, .slice none 0 0], []⟩).memory Tryz.f4.params.toList Rows.chainHoldsSpec.vars false (#[.slice none 0 0, .slice none 0 0] : Array Value).toList 8 = some ([.nil, .nil], [], places) :=
  ⟨[], by kernel_rfl⟩
set_option maxRecDepth 100000 in
theorem lifted (os : Os) (started : os.Started) (H : Type) (enc : TypeId × Value → H) (F : Stop.Interp) :
    ReturnsInHanded {} Tryz.checked os 4 .any ((Rows.OpenSpec.upto Rows.chainHoldsSpec).preRow enc Tryz.prog Tryz.f4 Rows.chainHoldsUptoRow.domain false Rows.chainHoldsUptoRow.laid) (((Rows.OpenSpec.upto Rows.chainHoldsSpec).at F).post enc Tryz.prog Tryz.f4 false true false false) := by
  obtain ⟨places, hx⟩ := reads os enc
  refine returnsInHanded_of_row (C := Tryz.checked) (s := (Rows.OpenSpec.upto Rows.chainHoldsSpec)) own started (by kernel_rfl) Tryz.func4
    (witness_row_at (enc := enc) (C := Tryz.checked) false (World.doorLaid Tryz.prog 400 os) #[.slice none 0 0, .slice none 0 0] rfl (by kernel_rfl) (by kernel_rfl) (by kernel_rfl)
      (OpenSpec.preRow_of_cond 8 hx (by kernel_rfl) (fun k hk => by cases hk; kernel_rfl) (by kernel_rfl) (door_met os))) ?_
  intro W base args ds gs before hval hW _ hcond hsz0 hL _ _
  exact contract H enc W base args ds gs before hval hW (hcond _ rfl) hsz0 hL
theorem over : Rows.chainHoldsUptoRow.holds Tryz.pinned (Rows.OpenSpec.upto Rows.chainHoldsSpec) :=
  OpenClaim.holds_of_cond 4 Tryz.f4 rfl rfl rfl rfl rfl rfl rfl ⟨rfl, rfl, rfl, rfl, rfl⟩ rfl rfl rfl rfl rfl (by kernel_rfl) Tryz.func4 (by kernel_rfl)
    (of_decide_eq_true (by kernel_rfl)) (by unfold Func.isWrapper; first | (rw [if_pos (by decide +kernel)]; kernel_rfl) | (rw [if_neg (by decide +kernel)]; exact ⟨rfl, rfl⟩))
    (fun os started H enc _ F => by rw [OpenClaim.pre_eq_preRow]; exact lifted os started H enc F)
theorem plain (f : FuncId) (fn : Func) (hf : Tryz.pinned.checked.prog.funcNamed "tether/tetherlaw10.ChainHolds" = some f) (hfn : Tryz.pinned.checked.prog.funcs[f]? = some fn) :
    true = Tryz.pinned.checked.prog.looks [] ∧ ∀ (j : Nat) t, fn.params[j]? = some t → Tryz.pinned.checked.prog.wantsStandIn t = false := by
  obtain rfl : f = 4 := Option.some.inj ((show Tryz.prog.funcNamed "tether/tetherlaw10.ChainHolds" = some 4 by kernel_rfl).symm.trans hf) |>.symm
  obtain rfl : fn = Tryz.f4 := (Option.some.inj (Tryz.func4.symm.trans hfn)).symm
  refine ⟨by kernel_rfl, fun j t ht => ?_⟩
  rw [Tryz.params4] at ht
  have hm : t ∈ [45, 46] := by simpa using Array.mem_of_getElem? ht
  have hall : ([45, 46].all fun u => !Tryz.prog.wantsStandIn u) = true := by kernel_rfl
  exact (show Tryz.prog.wantsStandIn t = false by simpa using List.all_eq_true.1 hall t hm)
theorem card : Rows.ChainHoldsUptoCardSaid :=
  Claim7.holds_tied_plain_at .later [] _ _ _ _ over (fun _ h => by cases h) (by kernel_rfl) (fun _ h => by cases h) chainHoldsUpto_row_tie rfl ⟨rfl, rfl⟩ (by kernel_rfl) rfl plain (by kernel_rfl)
end Go.Proofs.YtdfcbnejnnibpaaGreatDoor.chainHolds
namespace Go.Proofs.YtdfcbnejnnibpaaGreatDoor
theorem chainHoldsUptoCard_holds : Rows.ChainHoldsUptoCardSaid := chainHolds.card
#print axioms chainHoldsUptoCard_holds
end Go.Proofs.YtdfcbnejnnibpaaGreatDoor
