/- The library's sort of entries: contract. -/
import Derived.Test.YthokkobmlhbfgaaTI12
import Derived.Test.YthokkobmlhbfgaaShelf2
import Derived.Lib.OwnBridge
namespace Go.Proofs.Ythokkobmlhbfgaa.En
open Go.RowKit Tx Pm Pr Go.Sort Go.Lib Go.Shelf
set_option linter.unusedVariables false

theorem cmp_less : ∀ a b : List UInt8, decide (Lib.compareBytes a b < 0) = Op.bytesLess a b
  | [], [] => rfl
  | [], _ :: _ => rfl
  | _ :: _, [] => rfl
  | a :: ra, b :: rb => by
    have ih := cmp_less ra rb
    rw [Lib.compareBytes, Op.bytesLess]
    by_cases h1 : a < b
    · simp [h1]
    · by_cases h2 : b < a
      · have hne : a ≠ b := fun e => by rw [e] at h2; exact UInt8.lt_irrefl b h2
        simp [h1, h2, hne]
      · have he : a = b := UInt8.le_antisymm (UInt8.not_lt.1 h2) (UInt8.not_lt.1 h1)
        subst he
        simp [h1, ih]
/-- What the sort asks of two entries. -/
def cfE (x y : Et) : Int := Lib.compareBytes x.path.data.toList y.path.data.toList
theorem cfE_less (x y : Et) : ltOf cfE x y = less x.path y.path := by
  unfold ltOf cfE less
  rw [cmp_less, ByteArray.toList_eq, ByteArray.toList_eq]
theorem swoE : SWO (ltOf cfE) where
  irrefl x := by rw [cfE_less]; exact lt_irr _
  trans x y z h1 h2 := by rw [cfE_less] at *; exact lt_trans h1 h2
  ntrans x y z h1 h2 := by rw [cfE_less] at *; exact le_trans' h2 h1
instance : Inhabited Et := ⟨⟨⟨#[]⟩, ⟨0, ⟨#[]⟩⟩⟩⟩

set_option maxRecDepth 100000 in
set_option maxHeartbeats 1000000 in
theorem cmpC_any (x y : Et) (W : World) : Calls Try.prog 49 #[ev x, ev y] W fun e w' => e = .returned (.int .i64 (cfE x y)) ∧ ∃ q os', w' = grow (W.drewN q) os' := by
  have hcon := fun W' => Any.strings_Compare Try.cmpS x.path y.path W'
  change ∀ W', Calls Try.prog 50 _ _ _ at hcon
  show Calls Try.prog 49 _ W fun e w' => e = .returned (.int .i64 (Lib.compareBytes x.path.data.toList y.path.data.toList)) ∧ ∃ q os', w' = grow (W.drewN q) os'
  generalize Lib.compareBytes x.path.data.toList y.path.data.toList = r at hcon ⊢
  obtain ⟨P, K, D⟩ := x
  obtain ⟨P2, K2, D2⟩ := y
  unfold ev
  simp only at hcon ⊢
  go_enter Try.func49, Try.ntmps49
  go_wp2_with (go_at_call 50; refine (hcon _).mono ?_; rintro e w' ⟨rfl, rfl⟩)
  go_ret
  exact ⟨rfl, 0, _, by rw [alloc_eq_grow, alloc_eq_grow, grow_grow]; rfl⟩

theorem flatK_list (L : List Et) : (flatK cells 3 L.toArray).toList = L.flatMap cells := by
  apply List.ext_getElem?
  intro t
  by_cases ht : t < L.length * 3
  · have hk : t / 3 < L.length := by omega
    obtain ⟨x, hx⟩ : ∃ x, L[t / 3]? = some x := ⟨_, List.getElem?_eq_getElem hk⟩
    have h1 := flat_at L (t / 3) x (t % 3) hx (by omega)
    rw [show t / 3 * 3 + t % 3 = t by omega] at h1
    rw [h1]
    have h2 := get_flatK cells 3 L.toArray t (by simpa using ht)
    have hs : t < (flatK cells 3 L.toArray).size := by simpa using ht
    rw [getElem!_pos (flatK cells 3 L.toArray) t hs] at h2
    have hx2 : L.toArray[t / 3]! = x := by
      rw [getElem!_pos L.toArray (t / 3) (by simpa using hk)]
      have := (List.getElem?_eq_some_iff.1 hx).2
      simpa using this
    rw [Array.getElem?_toList, Array.getElem?_eq_getElem hs, h2, hx2]
    have h3 : t % 3 < (cells x).length := by show _ < 3; omega
    rw [List.getElem?_eq_getElem h3, getElem!_pos (cells x) (t % 3) h3]
  · rw [List.getElem?_eq_none (by simp; omega), List.getElem?_eq_none (by rw [flat_len]; omega)]
theorem own_holds {w : World} {B g n cap : Nat} {L : List Et} (h : Own w B (.slice (some ⟨g, 0, none⟩) n cap) L) : HoldsK cells 3 w g 0 L.toArray := by
  obtain ⟨hlen, h2⟩ := h
  rcases h2 with ⟨e0, _⟩ | ⟨g', cap', cur, hv, hb, hg, hn, hm, hs, ht⟩
  · cases e0
  · injection hv with h1 h2 h3
    injection h1 with h1
    injection h1 with h1
    subst h1
    intro j hj
    have hj' : j < L.length * 3 := by simpa using hj
    refine ⟨?_, by simp [World.frozen?, hg]⟩
    have e1 : (cur.toList.take (L.length * 3))[j]? = (L.flatMap cells)[j]? := by rw [ht]
    rw [List.getElem?_take, if_pos hj', Array.getElem?_toList, ← flatK_list, Array.getElem?_toList] at e1
    simp only [World.cell?, hg, Nat.zero_add]
    simp only [Option.isSome_none, Bool.false_eq_true, if_false]
    rw [e1, Array.getElem?_eq_getElem hj, getElem!_pos (flatK cells 3 L.toArray) j hj]
    rfl
theorem own_put {w : World} {B g n cap q : Nat} {L L' : List Et} {os : Array Obj} (h : Own w B (.slice (some ⟨g, 0, none⟩) n cap) L) (hl : L'.length = L.length) : Own (grow (putRowK cells 3 (Sort.ahead w q) g 0 L'.toArray) os) B (.slice (some ⟨g, 0, none⟩) n cap) L' := by
  obtain ⟨hlen, h2⟩ := h
  rcases h2 with ⟨e0, _⟩ | ⟨g', cap', cur, hv, hb, hg, hn, hm, hs, ht⟩
  · cases e0
  · injection hv with h1 h2 h3
    injection h1 with h1
    injection h1 with h1
    subst h1 h3
    have hlt : g < w.heap.size := (Array.getElem?_eq_some_iff.1 hg).1
    refine ⟨flat_len L', .inr ⟨g, cap, putCells id 0 (flatK cells 3 L'.toArray) cur, by rw [hl, h2], hb, ?_, by rw [hl]; exact hn, hm, by simpa [putCells] using hs, ?_⟩⟩
    · rw [heap_grow_old _ _ (by simpa [putRowK] using hlt)]
      simp [putRowK, putRow, mapBlock, Sort.ahead, Array.getElem?_modify, hg, onCells]
    · rw [← flatK_list]
      apply List.ext_getElem?
      intro j
      have hcap : L.length * 3 ≤ cap * 3 := Nat.mul_le_mul_right _ hn
      by_cases hj : j < L'.length * 3
      · have hjc : j < cur.size := by omega
        have hjf : j < (flatK cells 3 L'.toArray).size := by simpa using hj
        rw [List.getElem?_take, if_pos hj, Array.getElem?_toList, Array.getElem?_toList, putCells, Array.getElem?_mapIdx, Array.getElem?_eq_getElem hjc, Option.map_some, if_pos (by omega), Array.getElem?_eq_getElem hjf]
        rw [Nat.sub_zero, getElem!_pos (flatK cells 3 L'.toArray) j hjf]
        rfl
      · rw [List.getElem?_eq_none (by rw [List.length_take]; omega), List.getElem?_eq_none (by simp; omega)]
theorem below_sort {w : World} {B g q : Nat} {d : Array Et} {os : Array Obj} (hg : B ≤ g) (hB : B ≤ w.heap.size) : RowKit.Below B w (grow (putRowK cells 3 (Sort.ahead w q) g 0 d) os) := by
  have h1 : RowKit.Below B w (putRow id (Sort.ahead w q) g 0 (flatK cells 3 d)) := Lib.below_putRow (RowKit.Below.refl B w) hg
  refine ⟨h1.os, h1.tape, h1.output, by simp [putRowK], fun k hk => ?_⟩
  rw [heap_grow_old _ _ (by have h2 : (putRowK cells 3 (Sort.ahead w q) g 0 d).heap.size = w.heap.size := by simp [putRowK]
                            omega)]
  exact h1.block k hk

theorem sorted_of {L : List Et} (h : SortedIn (ltOf cfE) 0 L.toArray.size L.toArray) : Sorted L := by
  unfold Sorted
  rw [List.pairwise_iff_getElem]
  intro i j hi hj hij
  have := h i j (Nat.zero_le _) hij (by simpa using hj)
  rw [cfE_less, getElem!_pos L.toArray j (by simpa using hj), getElem!_pos L.toArray i (by simpa using hi)] at this
  simpa using this

set_option maxRecDepth 100000 in
set_option maxHeartbeats 1000000 in
theorem sortE_any (v : Value) (L : List Et) (w : World) (B : Nat) (hO : Own w B v L) (hB : B ≤ w.heap.size) (hn : L.length ≤ 4000000000) :
    Calls Try.prog 48 #[v, .func (.func 49) #[] #[]] w fun e w' => e = .returned (.tuple #[]) ∧ ∃ L', L'.Perm L ∧ Sorted L' ∧ Own w' B v L' ∧ RowKit.Below B w w' := by
  have eg : ∀ args w, (callFunc 49 args).run Try.prog w = .ok (.enter 49 args) w := enters_of Try.func49 (by kernel_rfl) rfl
  have hO2 := hO
  obtain ⟨hlen, h2⟩ := hO2
  rcases h2 with ⟨hv, h0⟩ | ⟨g, cap, cur, hv, hb, hg, hc, hm, hs, ht⟩
  · subst hv
    obtain rfl : L = [] := List.length_eq_zero_iff.1 h0
    have h := AnyF.slices_SortFunc_none Try.sortE none 0 (.func (.func 49) #[] #[]) w
    change Calls Try.prog 48 _ _ _ at h
    refine h.mono ?_
    rintro e w' ⟨rfl, rfl⟩
    exact ⟨rfl, [], List.Perm.refl _, List.Pairwise.nil, hO, RowKit.Below.refl _ _⟩
  · subst hv
    have hlt : g < w.heap.size := (Array.getElem?_eq_some_iff.1 hg).1
    have h := AnyQ.slices_SortFunc Try.sortE 3 Try.isAgg51 Try.sizeOf51 cells (fun _ => rfl) cells_one cfE swoE 49 #[] g 0 cap L.toArray w eg (fun _ _ _ _ x y => cmpC_any x y _) (own_holds hO) hlt (by simp; omega)
    change Calls Try.prog 48 _ _ _ at h
    have e1 : L.toArray.size = L.length := by simp
    rw [e1] at h
    refine h.mono ?_
    rintro e w' ⟨rfl, d', q, os, hp, hso, rfl⟩
    refine ⟨rfl, d'.toList, ?_, ?_, ?_, ?_⟩
    · have := hp.2.2
      have e2 : d'.size = L.length := by rw [hp.1]; simp
      have e3 : (d'.extract 0 L.length) = d' := by rw [← e2]; simp
      have e4 : (L.toArray.extract 0 L.length) = L.toArray := by rw [← e1]; exact Array.extract_size
      rw [e3, e4] at this
      simpa using this
    · refine sorted_of ?_
      have e2 : d'.size = L.length := by rw [hp.1]; simp
      simpa [e2] using hso
    · have e2 : d'.toList.length = L.length := by have := hp.1; simp at this; simpa using this
      have := own_put (q := q) (os := os) hO e2
      simpa [sortWorldK] using this
    · exact below_sort hb hB
end Go.Proofs.Ythokkobmlhbfgaa.En
