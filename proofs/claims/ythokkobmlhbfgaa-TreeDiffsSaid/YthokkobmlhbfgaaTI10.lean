/- Put: mathematics and contract. -/
import Derived.Test.YthokkobmlhbfgaaTI9
namespace Go.Proofs.Ythokkobmlhbfgaa.En
open Go.RowKit Tx Pm Pr
set_option linter.unusedVariables false

theorem rise_last {l : List Et} {x : Et} (h : Rise (l ++ [x])) : Rise l ∧ ∀ y ∈ l, less y.path x.path = true := by
  unfold Rise at h ⊢
  rw [List.map_append, List.pairwise_append] at h
  refine ⟨h.1, fun y hy => h.2.2 _ (List.mem_map.2 ⟨y, hy, rfl⟩) _ ?_⟩
  simp
theorem tsort_rise : ∀ (m : Nat) (l : List Et), l.length = m → Rise l → tsort l = l
  | 0, l, hm, h => by
    obtain rfl : l = [] := List.length_eq_zero_iff.1 hm
    rfl
  | m + 1, l, hm, h => by
    rcases List.eq_nil_or_concat l with e | ⟨L, x, e⟩
    · rw [e] at hm; cases hm
    · rw [List.concat_eq_append] at e
      rw [e] at h hm
      obtain ⟨h1, h2⟩ := rise_last h
      have hlen : L.length = m := by rw [List.length_append] at hm; simp at hm; omega
      have hs := tsort_rise m L hlen h1
      rw [e, tsort_snoc, hs, insAt_at x L L.length (Nat.le_refl _) (fun y hy => h2 y (by rwa [List.take_length] at hy)) (fun y hy => by rw [List.getElem?_eq_none (Nat.le_refl _)] at hy; cases hy), List.take_length, List.drop_length]
/-- Where what stands behind a path begins. -/
def tbehind (l : List Et) (p : ByteArray) : Nat := if tstands l (tplace l p) p then tplace l p + 1 else tplace l p
theorem behind_le (l : List Et) (p : ByteArray) : tbehind l p ≤ l.length ∧ tplace l p ≤ tbehind l p ∧ tbehind l p ≤ tplace l p + 1 := by
  have := place_le l p
  unfold tbehind
  cases hs : tstands l (tplace l p) p with
  | true =>
    rw [if_pos rfl]
    unfold tstands at hs
    cases hx : l[tplace l p]? with
    | none => rw [hx] at hs; cases hs
    | some x => have := (List.getElem?_eq_some_iff.1 hx).1; omega
  | false =>
    rw [if_neg (by decide)]
    omega
theorem tdel_cut {l : List Et} (hr : Rise l) (p : ByteArray) : tdel l p = l.take (tplace l p) ++ l.drop (tbehind l p) := by
  have hne : ∀ i x, l[i]? = some x → (x.path = p ↔ (i = tplace l p ∧ tstands l (tplace l p) p = true)) := by
    intro i x hx
    constructor
    · intro e
      have h := place_of hr hx
      rw [e] at h
      refine ⟨h.symm, ?_⟩
      rw [tstands, h, hx]
      exact decide_eq_true e
    · rintro ⟨rfl, h⟩
      rw [tstands, hx] at h
      exact of_decide_eq_true h
  have h1 : (l.take (tplace l p)).filter (fun x => !decide (x.path = p)) = l.take (tplace l p) := by
    refine List.filter_eq_self.2 (fun x hx => ?_)
    obtain ⟨i, hi⟩ := List.getElem?_of_mem hx
    have hlt : i < tplace l p := by
      have := (List.getElem?_eq_some_iff.1 hi).1
      rw [List.length_take] at this
      omega
    rw [List.getElem?_take, if_pos hlt] at hi
    rw [Bool.not_eq_true', decide_eq_false_iff_not, hne i x hi]
    omega
  have h2 : ∀ k, tplace l p ≤ k → (tstands l (tplace l p) p = true → tplace l p < k) → (l.drop k).filter (fun x => !decide (x.path = p)) = l.drop k := by
    intro k hk hs
    refine List.filter_eq_self.2 (fun x hx => ?_)
    obtain ⟨i, hi⟩ := List.getElem?_of_mem hx
    rw [List.getElem?_drop] at hi
    rw [Bool.not_eq_true', decide_eq_false_iff_not, hne _ x hi]
    rintro ⟨e, h⟩
    have := hs h
    omega
  unfold tdel
  conv => lhs; rw [← List.take_append_drop (tplace l p) l]
  rw [List.filter_append, h1]
  congr 1
  unfold tbehind
  cases hs : tstands l (tplace l p) p with
  | false =>
    rw [if_neg (by simp)]
    exact h2 _ (Nat.le_refl _) (fun h => by rw [hs] at h; cases h)
  | true =>
    rw [if_pos rfl]
    have hs' := hs
    unfold tstands at hs'
    cases hx : l[tplace l p]? with
    | none => rw [hx] at hs'; cases hs'
    | some x =>
      rw [hx] at hs'
      simp only at hs'
      obtain ⟨hk, he⟩ := List.getElem?_eq_some_iff.1 hx
      rw [List.drop_eq_getElem_cons hk, he, List.filter_cons_of_neg (by rw [hs']; decide)]
      exact h2 _ (by omega) (fun _ => by omega)
theorem rise_del {l : List Et} (hr : Rise l) (p : ByteArray) : Rise (tdel l p) := by
  unfold Rise at hr ⊢
  exact hr.sublist (List.Sublist.map _ List.filter_sublist)
/-- What is put. -/
def one (p : ByteArray) (n : Nd) : List Et := if isno n = true then [] else [⟨p, n⟩]
theorem put_cut {l : List Et} (hr : Rise l) (p : ByteArray) (n : Nd) (hw : whole n = true) : putList l p n = l.take (tplace l p) ++ one p n ++ l.drop (tbehind l p) := by
  unfold putList one
  rw [whole_no hw]
  by_cases hk : n.kind = 0
  · rw [if_pos hk, if_pos (decide_eq_true hk), List.append_nil, List.append_nil, tsort_rise _ _ rfl (rise_del hr p), tdel_cut hr]
  · rw [if_neg hk, if_neg (by rw [decide_eq_false hk]; decide), tsort_snoc, tsort_rise _ _ rfl (rise_del hr p), tdel_cut hr]
    have hl := place_le l p
    have htl : (l.take (tplace l p)).length = tplace l p := by rw [List.length_take]; omega
    have e := insAt_at ⟨p, n⟩ (l.take (tplace l p) ++ l.drop (tbehind l p)) (tplace l p) (by rw [List.length_append]; omega)
      (fun y hy => by
        rw [List.take_append_of_le_length (by omega), List.take_take, Nat.min_self] at hy
        obtain ⟨i, hi⟩ := List.getElem?_of_mem hy
        have hlt : i < tplace l p := by
          have := (List.getElem?_eq_some_iff.1 hi).1
          omega
        rw [List.getElem?_take, if_pos hlt] at hi
        show less y.path p = true
        rw [place_cut hr p hi, decide_eq_true hlt])
      (fun y hy => by
        rw [List.getElem?_append_right (by omega), htl, Nat.sub_self, List.getElem?_drop] at hy
        show less y.path p = false
        rw [place_cut hr p hy]
        have := (behind_le l p).2.1
        exact decide_eq_false (by omega))
    rw [e, List.take_append_of_le_length (by omega), List.take_take, Nat.min_self, List.drop_append_of_le_length (by omega), List.drop_take, Nat.sub_self, List.take_zero, List.nil_append, List.append_assoc, List.singleton_append]
end Go.Proofs.Ythokkobmlhbfgaa.En
