/- Check, entry by entry over what stands ahead of each: mathematics and contract. -/
import Derived.Test.YthokkobmlhbfgaaTI3
namespace Go.Proofs.Ythokkobmlhbfgaa.En
open Go.RowKit Tx Pm Pr
set_option linter.unusedVariables false

theorem rise_nil : Rise [] := List.Pairwise.nil
theorem rise_snoc {l : List Et} {x : Et} (h : Rise l) (ha : ahead l x.path = true) : Rise (l ++ [x]) := by
  unfold Rise
  rw [List.map_append]
  refine List.pairwise_append.2 ⟨h, List.pairwise_singleton _ _, fun a hm b hb => ?_⟩
  rw [List.map_cons, List.map_nil, List.mem_singleton] at hb
  subst hb
  obtain ⟨y, hy, rfl⟩ := List.mem_map.1 hm
  obtain ⟨i, hi⟩ := List.getElem?_of_mem hy
  have hlt := (List.getElem?_eq_some_iff.1 hi).1
  obtain ⟨z, hz⟩ : ∃ z, l[l.length - 1]? = some z := ⟨_, List.getElem?_eq_getElem (by omega)⟩
  rw [ahead, hz] at ha
  by_cases e : i = l.length - 1
  · rw [← e, hi] at hz
    injection hz with hz
    rw [hz]
    exact ha
  · exact lt_trans (rise_lt h hi hz (by omega)) ha
/-- The first k entries follow what stands ahead of each. -/
def fols (l : List Et) (k : Nat) : Prop := ∀ i x, i < k → l[i]? = some x → fol (l.take i) x = true
theorem fol_parts {l : List Et} {x : Et} (h : fol l x = true) : chk x.path.data.toList 5 = 0 ∧ ahead l x.path = true ∧ whole x.node = true ∧ isno x.node = false ∧ inF l x.path = true := by
  unfold fol at h
  simp only [Bool.and_eq_true, decide_eq_true_eq, Bool.not_eq_true'] at h
  exact h
theorem take_snoc {l : List Et} {k : Nat} {x : Et} (h : l[k]? = some x) : l.take (k + 1) = l.take k ++ [x] := by
  obtain ⟨hk, he⟩ := List.getElem?_eq_some_iff.1 h
  rw [List.take_succ_eq_append_getElem hk, he]
theorem fols_rise {l : List Et} : ∀ {k : Nat}, k ≤ l.length → fols l k → Rise (l.take k)
  | 0, _, _ => rise_nil
  | k + 1, hk, h => by
    obtain ⟨x, hx⟩ : ∃ x, l[k]? = some x := ⟨_, List.getElem?_eq_getElem (by omega)⟩
    rw [take_snoc hx]
    exact rise_snoc (fols_rise (by omega) (fun i y hi hy => h i y (by omega) hy)) (fol_parts (h k x (by omega) hx)).2.1
theorem fols_next {l : List Et} {k : Nat} {x : Et} (h : fols l k) (hx : l[k]? = some x) (hf : fol (l.take k) x = true) : fols l (k + 1) := by
  intro i y hi hy
  rcases Nat.lt_or_ge i k with h2 | h2
  · exact h i y h2 hy
  · obtain rfl : i = k := by omega
    rw [hx] at hy
    injection hy with hy
    rw [← hy]
    exact hf
theorem tget_take {l : List Et} {p : ByteArray} {k : Nat} (h : (tget (l.take k) p).kind ≠ 0) : tget l p = tget (l.take k) p := by
  unfold tget at h ⊢
  cases hf : (l.take k).find? (fun x => decide (x.path = p)) with
  | none => rw [hf] at h; exact absurd rfl h
  | some x =>
    rw [show l.find? (fun x => decide (x.path = p)) = some x by
      rw [← List.take_append_drop k l, List.find?_append, hf]
      rfl]
theorem isdir_kind {n : Nd} (h : isdir n = true) : n = ⟨1, ⟨#[]⟩⟩ := by
  unfold isdir at h
  simp only [Bool.and_eq_true, decide_eq_true_eq] at h
  obtain ⟨k, d⟩ := n
  simp only at h
  rw [h.1, h.2]
theorem whole_dir {n : Nd} (h : whole n = true) (hk : n.kind = 1) : isdir n = true := by
  unfold whole at h
  rw [if_neg (by omega)] at h
  simp only [Bool.and_eq_true, decide_eq_true_eq] at h
  unfold isdir
  rw [decide_eq_true hk, decide_eq_true (size_zero.1 h.2)]
  rfl
theorem whole_no {n : Nd} (h : whole n = true) : isno n = decide (n.kind = 0) := by
  by_cases hk : n.kind = 0
  · unfold whole at h
    rw [if_neg (by omega)] at h
    simp only [Bool.and_eq_true, decide_eq_true_eq] at h
    unfold isno
    rw [decide_eq_true hk, decide_eq_true (size_zero.1 h.2)]
    rfl
  · unfold isno
    rw [decide_eq_false hk, Bool.false_and]
theorem fols_check {l : List Et} (h : fols l l.length) (hn : l.length ≤ 200) : tcheck l = 0 := by
  refine tcheck_good (fun i hi => ?_) hn
  obtain ⟨x, hx⟩ : ∃ x, l[i]? = some x := ⟨_, List.getElem?_eq_getElem hi⟩
  obtain ⟨h1, h2, h3, h4, h5⟩ := fol_parts (h i x hi hx)
  rw [whole_no h3] at h4
  have e1 : (decide (i = 0) || (match l[i - 1]? with | some y => Op.bytesLess y.path.toList x.path.toList | none => true)) = true := by
    by_cases h0 : i = 0
    · rw [decide_eq_true h0]; rfl
    · obtain ⟨y, hy⟩ : ∃ y, l[i - 1]? = some y := ⟨_, List.getElem?_eq_getElem (by omega)⟩
      have hl : (l.take i).length = i := by rw [List.length_take]; omega
      rw [ahead, hl, List.getElem?_take, if_pos (by omega), hy] at h2
      rw [hy, decide_eq_false h0]
      exact h2
  have e2 : (decide (par x.path.data.toList = []) || decide ((tget l (tb (par x.path.data.toList))).kind = 1)) = true := by
    unfold inF at h5
    rcases Bool.or_eq_true _ _ ▸ h5 with hp | hd
    · rw [hp]; rfl
    · have hk := isdir_kind hd
      have hg := tget_take (l := l) (k := i) (p := tb (par x.path.data.toList)) (by rw [hk]; decide)
      rw [hg, hk]
      simp
  rw [okAt_eq hx]
  simp only [Bool.and_eq_true]
  exact ⟨⟨⟨⟨by rw [h1]; rfl, h3⟩, by rw [h4]; rfl⟩, e1⟩, e2⟩
theorem par_less {p : ByteArray} (h : par p.data.toList ≠ []) : less (tb (par p.data.toList)) p = true := by
  have hb : p.data.toList = par p.data.toList ++ 47 :: bas p.data.toList := by
    rcases par_bas p.data.toList with ⟨_, h2, _⟩ | h2
    · exact absurd h2 h
    · exact h2
  have := less_app (par p.data.toList) (bas p.data.toList) 47
  rw [← hb] at this
  unfold less
  rw [ByteArray.toList_eq, ByteArray.toList_eq, tb_list]
  exact this
theorem tree_par {l : List Et} (h : tcheck l = 0) {i : Nat} {x : Et} (hx : l[i]? = some x) (hp : par x.path.data.toList ≠ []) : (tget l (tb (par x.path.data.toList))).kind = 1 := by
  have hi := (List.getElem?_eq_some_iff.1 hx).1
  have hok : okAt l i = true := by
    unfold tcheck at h
    split at h
    · cases h
    · split at h
      · next hall => exact List.all_eq_true.1 hall i (List.mem_range.2 hi)
      · cases h
  rw [okAt_eq hx] at hok
  simp only [Bool.and_eq_true, Bool.or_eq_true, decide_eq_true_eq, Bool.not_eq_true', decide_eq_false_iff_not] at hok
  exact hok.2.resolve_left hp
theorem tree_rises {l : List Et} (h : tcheck l = 0) : Rise l := tree_paths h
theorem rise_take {l : List Et} (h : Rise l) (k : Nat) : Rise (l.take k) := by
  unfold Rise at h ⊢
  rw [List.map_take]
  exact h.sublist (List.take_sublist k _)
theorem check_fols {l : List Et} (h : tcheck l = 0) : ∀ i x, l[i]? = some x → fol (l.take i) x = true := by
  intro i x hx
  have hi := (List.getElem?_eq_some_iff.1 hx).1
  obtain ⟨h1, h3, h4', h4⟩ := tree_at h hx
  have e1 : ahead (l.take i) x.path = true := by
    have hl : (l.take i).length = i := by rw [List.length_take]; omega
    rcases h4 with rfl | ⟨y, hy, hlt⟩
    · rfl
    · by_cases h0 : i = 0
      · subst h0; rfl
      · rw [ahead, hl, List.getElem?_take, if_pos (by omega), hy]
        exact hlt
  have e2 : inF (l.take i) x.path = true := by
    unfold inF
    by_cases hp : par x.path.data.toList = []
    · rw [decide_eq_true hp]; rfl
    · have hk := tree_par h hx hp
      have hm := (tree_path_mem h (tb (par x.path.data.toList))).2 (by rw [hk]; decide)
      obtain ⟨z, hz, hzp⟩ := List.mem_map.1 hm
      obtain ⟨j, hj⟩ := List.getElem?_of_mem hz
      have hless := par_less hp
      rw [← hzp] at hless
      have hji : j < i := by
        rcases Nat.lt_or_ge j i with h5 | h5
        · exact h5
        · rcases Nat.lt_or_eq_of_le h5 with h6 | h6
          · have := tree_rise h j i x z hx hj h6
            rw [lt_asymm this] at hless
            cases hless
          · subst h6
            rw [hx] at hj
            injection hj with hj
            rw [hj, lt_irr] at hless
            cases hless
      have hg := tree_get h hz
      rw [hzp] at hg
      have hd := whole_dir (tree_at h hj).2.1 (by rw [← hg]; exact hk)
      have hjt : (l.take i)[j]? = some z := by rw [List.getElem?_take, if_pos hji]; exact hj
      have hgt : tget (l.take i) (tb (par x.path.data.toList)) = z.node := by
        refine tget_hit _ _ j z hjt hzp (fun y hy e => ?_)
        obtain ⟨m, hm⟩ := List.getElem?_of_mem hy
        have hmj : m < j := by
          have := (List.getElem?_eq_some_iff.1 hm).1
          rw [List.length_take] at this
          omega
        rw [List.getElem?_take, if_pos hmj, List.getElem?_take, if_pos (by omega)] at hm
        have := tree_rise h j m y z hm hj hmj
        rw [e, hzp, lt_irr] at this
        cases this
      rw [hgt, hd, Bool.or_true]
  unfold fol
  rw [h1, e1, h3, whole_no h3, decide_eq_false h4', e2]
  rfl
theorem check_bad {l : List Et} {i : Nat} {x : Et} (hx : l[i]? = some x) (hf : fol (l.take i) x = false) (hn : l.length ≤ 200) : tcheck l = 3 := by
  have h0 : tcheck l ≠ 0 := fun h => by
    rw [check_fols h i x hx] at hf
    cases hf
  unfold tcheck at h0 ⊢
  rw [if_neg (by omega)] at h0 ⊢
  split
  · next hall => rw [if_pos hall] at h0; exact absurd rfl h0
  · rfl
end Go.Proofs.Ythokkobmlhbfgaa.En
