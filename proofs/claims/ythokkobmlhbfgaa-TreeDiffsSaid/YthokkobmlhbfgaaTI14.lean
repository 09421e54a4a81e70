/- Replace: mathematics and contract. -/
import Derived.Test.YthokkobmlhbfgaaTI13
namespace Go.Proofs.Ythokkobmlhbfgaa.En
open Go.RowKit Tx Pm Pr
set_option linter.unusedVariables false

theorem insAt_perm (x : Et) : ∀ l : List Et, (insAt x l).Perm (x :: l)
  | [] => by
    have := insAt_at x [] 0 (Nat.le_refl _) (fun y hy => by simp at hy) (fun y hy => by simp at hy)
    rw [this]
    exact List.Perm.refl _
  | y :: l => by
    cases h : less y.path x.path with
    | false =>
      have := insAt_at x (y :: l) 0 (by simp) (fun z hz => by simp at hz) (fun z hz => by injection hz with hz; rw [← hz]; exact h)
      rw [this]
      exact List.Perm.refl _
    | true =>
      have e : insAt x (y :: l) = y :: insAt x l := by rw [insAt, if_pos h]
      rw [e]
      exact ((insAt_perm x l).cons y).trans (List.Perm.swap x y l)
theorem tsort_perm : ∀ (m : Nat) (l : List Et), l.length = m → (tsort l).Perm l
  | 0, l, hm => by
    obtain rfl : l = [] := List.length_eq_zero_iff.1 hm
    exact List.Perm.refl _
  | m + 1, l, hm => by
    rcases List.eq_nil_or_concat l with e | ⟨L, x, e⟩
    · rw [e] at hm; cases hm
    · rw [List.concat_eq_append] at e
      rw [e] at hm
      have hlen : L.length = m := by rw [List.length_append] at hm; simp at hm; omega
      rw [e, tsort_snoc]
      refine (insAt_perm x (tsort L)).trans (((tsort_perm m L hlen).cons x).trans ?_)
      exact List.perm_append_comm (l₁ := [x]) (l₂ := L)
theorem rise_nodup {l : List Et} (h : Rise l) : (l.map (·.path)).Nodup := by
  unfold Rise at h
  refine h.imp (fun hab e => ?_)
  rw [e, lt_irr] at hab
  cases hab
/-- A list in order whose paths are all unlike rises. -/
theorem rise_of_sorted {l : List Et} (h : Sorted l) (hn : (l.map (·.path)).Nodup) : Rise l := by
  unfold Rise
  unfold Sorted at h
  rw [List.pairwise_map]
  unfold List.Nodup at hn
  rw [List.pairwise_map] at hn
  exact (h.and hn).imp (fun hab => lt_le hab.1 hab.2)
/-- Two lists of the same entries, in order, are one, if one of them rises. -/
theorem sorted_one {a b : List Et} (hp : a.Perm b) (ha : Rise a) (hb : Sorted b) : a = b := by
  have hb2 : Rise b := rise_of_sorted hb ((hp.map _).nodup_iff.1 (rise_nodup ha))
  unfold Rise at ha hb2
  rw [List.pairwise_map] at ha hb2
  refine hp.eq_of_pairwise (le := fun x y => less x.path y.path = true) (fun x y _ _ h1 h2 => ?_) ha hb2
  rw [lt_asymm h1] at h2
  cases h2
theorem tcheck_three (l : List Et) : tcheck l = (if 200 < l.length then 4 else if tcheck l = 0 then 0 else 3) := by
  unfold tcheck
  split
  · rfl
  · split
    · rfl
    · rfl
theorem sorted_check {a b : List Et} (hp : a.Perm b) (ha : Sorted a) (hb : Sorted b) : tcheck a = tcheck b ∧ (tcheck a = 0 → a = b) := by
  have h1 : tcheck a = 0 → a = b := fun h => sorted_one hp (tree_rises h) hb
  have h2 : tcheck b = 0 → b = a := fun h => sorted_one hp.symm (tree_rises h) ha
  refine ⟨?_, h1⟩
  by_cases h : tcheck a = 0
  · rw [← h1 h]
  · by_cases h' : tcheck b = 0
    · rw [h2 h']
    · rw [tcheck_three a, tcheck_three b, if_neg h, if_neg h', hp.length_eq]
theorem not_under (sub : List Et) (p : ByteArray) : (tnot sub p).length = 0 ↔ allUnder sub p = true := by
  unfold tnot allUnder
  rw [List.length_eq_zero_iff, List.filter_eq_nil_iff, List.all_eq_true]
  constructor
  · intro h x hx
    have := h x hx
    simpa using this
  · intro h x hx
    rw [h x hx]
    decide
theorem repl_code {l sub out : List Et} {p : ByteArray} (hp : out.Perm (tnot l p ++ sub)) (hs : Sorted out) (hc : chk p.data.toList 5 = 0) (hu : allUnder sub p = true) : replCode l p sub = tcheck out ∧ (tcheck out = 0 → tsort (tnot l p ++ sub) = out) := by
  have hq : out.Perm (tsort (tnot l p ++ sub)) := hp.trans (tsort_perm _ _ rfl).symm
  obtain ⟨h1, h2⟩ := sorted_check hq hs (tsort_sorted _)
  refine ⟨?_, fun h => (h2 h).symm⟩
  unfold replCode
  have c1 : ¬ (chk p.data.toList 5 ≠ 0) := fun h => h hc
  have c2 : ¬ (allUnder sub p = false) := by rw [hu]; decide
  rw [if_neg c1, if_neg c2, h1]
  split
  · next hlen =>
    unfold tcheck
    rw [if_pos (by rw [tsort_len, List.length_append]; exact hlen)]
  · rfl

theorem two_cells (w : World) (a b : Value) (t : TypeId) : ∀ (j : Nat) (v : Value), [a, b][j]? = some v → (w.alloc (.cells #[a, b] t)).cell? ⟨w.heap.size, j, none⟩ = some v := by
  intro j v hj
  match j, hj with
  | 0, hj => simp at hj; subst hj; simp
  | 1, hj => simp at hj; subst hj; simp
  | j + 2, hj => simp at hj
theorem concat2 (w : World) (v1 v2 : Value) (l1 l2 : List Et) (h1 : Src w v1 l1) (h2 : Src w v2 l2) (hlen : l1.length + l2.length ≤ 3000000000) :
    Calls Try.prog 45 #[.slice (some ⟨w.heap.size, 0, none⟩) 2 2] (w.alloc (.cells #[v1, v2] 22)) fun e w' => ∃ v, e = .returned v ∧ Own w' w.heap.size v (l1 ++ l2) ∧ Below w.heap.size w w' := by
  have hB : Below w.heap.size w (w.alloc (.cells #[v1, v2] 22)) := (Below.refl _ w).alloc (Nat.le_refl _) _
  have h := concat_any w.heap.size 2 2 [v1, v2] [l1, l2] (w.alloc (.cells #[v1, v2] 22)) (by simp) rfl rfl (by omega)
    (fun j v hj => two_cells w v1 v2 _ j v hj)
    (fun j v l hv hl => by
      match j, hv, hl with
      | 0, hv, hl => injection hv with hv; injection hl with hl; subst hv hl; exact h1.below hB
      | 1, hv, hl => injection hv with hv; injection hl with hl; subst hv hl; exact h2.below hB
      | j + 2, hv, hl => simp at hv)
    (by simp only [total]; omega)
  refine h.mono ?_
  rintro e w' ⟨v, rfl, ho, hb⟩
  refine ⟨v, rfl, ?_, hB.trans (hb.mono (by simp))⟩
  have e1 : [l1, l2].flatten = l1 ++ l2 := by simp
  rw [e1] at ho
  exact row_base ho (by simp)
theorem own_src {w : World} {B : Nat} {v : Value} {l : List Et} (h : Own w B v l) : Src w v l := by
  rcases h.2 with ⟨hv, h0⟩ | ⟨g, cap, cur, hv, _⟩
  · obtain rfl : l = [] := List.length_eq_zero_iff.1 h0
    rw [hv]
    exact src_none
  · obtain ⟨a, c, hv2, he, _⟩ := Own.form h
    refine ⟨a, l.length, c, hv2, he, fun ha => ?_⟩
    rw [hv, ha] at hv2
    cases hv2
end Go.Proofs.Ythokkobmlhbfgaa.En
