/- Plain mathematics of trees: the order of paths, sorting, where two trees differ. -/
import Derived.Test.YthokkobmlhbfgaaEnts9
namespace Go.Proofs.Ythokkobmlhbfgaa.En
open Go.RowKit Tx Pm Pr
set_option linter.unusedVariables false

/-! ### the order -/
theorem lt_irr (a : ByteArray) : less a a = false := less_irr _
theorem lt_asymm {a b : ByteArray} (h : less a b = true) : less b a = false := less_asymm _ _ h
theorem less_trans : ∀ (a b c : List UInt8), Op.bytesLess a b = true → Op.bytesLess b c = true → Op.bytesLess a c = true
  | [], [], _, h, _ => by rw [Op.bytesLess] at h; cases h
  | [], _ :: _, [], _, h => by rw [Op.bytesLess] at h; cases h
  | [], _ :: _, _ :: _, _, _ => by rw [Op.bytesLess]
  | _ :: _, [], _, h, _ => by rw [Op.bytesLess] at h; cases h
  | _ :: _, _ :: _, [], _, h => by rw [Op.bytesLess] at h; cases h
  | x :: a, y :: b, z :: c, h1, h2 => by
    have ih := less_trans a b c
    rw [Op.bytesLess] at h1 h2 ⊢
    simp only [Bool.or_eq_true, Bool.and_eq_true, decide_eq_true_eq, beq_iff_eq] at h1 h2 ⊢
    rcases h1 with h1 | ⟨rfl, h1⟩
    · rcases h2 with h2 | ⟨rfl, h2⟩
      · left
        rw [UInt8.lt_iff_toNat_lt] at h1 h2 ⊢
        omega
      · exact .inl h1
    · rcases h2 with h2 | ⟨rfl, h2⟩
      · exact .inl h2
      · exact .inr ⟨rfl, ih h1 h2⟩
theorem less_tri : ∀ (a b : List UInt8), Op.bytesLess a b = false → Op.bytesLess b a = false → a = b
  | [], [], _, _ => rfl
  | [], _ :: _, h, _ => by rw [Op.bytesLess] at h; cases h
  | _ :: _, [], _, h => by rw [Op.bytesLess] at h; cases h
  | x :: a, y :: b, h1, h2 => by
    have ih := less_tri a b
    rw [Op.bytesLess] at h1 h2
    simp only [Bool.or_eq_false_iff, Bool.and_eq_false_iff, decide_eq_false_iff_not, beq_eq_false_iff_ne] at h1 h2
    have e : x = y := by
      apply UInt8.toNat_inj.1
      have a1 := h1.1
      have a2 := h2.1
      rw [UInt8.lt_iff_toNat_lt] at a1 a2
      omega
    subst e
    rw [ih (h1.2.resolve_left (fun h => h rfl)) (h2.2.resolve_left (fun h => h rfl))]
theorem lt_trans {a b c : ByteArray} (h1 : less a b = true) (h2 : less b c = true) : less a c = true := less_trans _ _ _ h1 h2
theorem lt_tri {a b : ByteArray} (h1 : less a b = false) (h2 : less b a = false) : a = b := to_list.1 (less_tri _ _ h1 h2)
/-- Not above. -/
theorem le_trans' {a b c : ByteArray} (h1 : less b a = false) (h2 : less c b = false) : less c a = false := by
  cases h : less c a
  · rfl
  · cases hb : less a b
    · have := lt_tri hb h1
      subst this
      rw [h] at h2
      cases h2
    · have := lt_trans h hb
      rw [this] at h2
      cases h2
theorem lt_le {a b : ByteArray} (h : less b a = false) (hne : a ≠ b) : less a b = true := by
  cases h2 : less a b
  · exact absurd (lt_tri h2 h) hne
  · rfl

/-- Rising lists of the same members are the same. -/
theorem rise_ext : ∀ (l m : List ByteArray), l.Pairwise (fun a b => less a b = true) → m.Pairwise (fun a b => less a b = true) → (∀ p, p ∈ l ↔ p ∈ m) → l = m
  | [], [], _, _, _ => rfl
  | [], y :: m, _, _, h => absurd ((h y).2 (by simp)) (by simp)
  | x :: l, [], _, _, h => absurd ((h x).1 (by simp)) (by simp)
  | x :: l, y :: m, hl, hm, h => by
    rw [List.pairwise_cons] at hl hm
    have e : x = y := by
      rcases List.mem_cons.1 ((h x).1 (by simp)) with h1 | h1
      · exact h1
      · rcases List.mem_cons.1 ((h y).2 (by simp)) with h2 | h2
        · exact h2.symm
        · have a1 := hm.1 x h1
          have a2 := hl.1 y h2
          rw [lt_asymm a1] at a2
          cases a2
    subst e
    rw [rise_ext l m hl.2 hm.2 (fun p => ?_)]
    constructor
    · intro hp
      rcases List.mem_cons.1 ((h p).1 (List.mem_cons_of_mem _ hp)) with h1 | h1
      · subst h1
        have := hl.1 p hp
        rw [lt_irr] at this
        cases this
      · exact h1
    · intro hp
      rcases List.mem_cons.1 ((h p).2 (List.mem_cons_of_mem _ hp)) with h1 | h1
      · subst h1
        have := hm.1 p hp
        rw [lt_irr] at this
        cases this
      · exact h1

/-! ### sorting -/
def Sorted (l : List Et) : Prop := l.Pairwise (fun x y => less y.path x.path = false)
theorem insAt_mem (x y : Et) : ∀ l : List Et, y = x ∨ y ∈ l → y ∈ insAt x l
  | [], h => by
    rw [insAt]
    rcases h with h | h
    · rw [h]; simp
    · cases h
  | z :: l, h => by
    rw [insAt]
    split
    · rcases h with h | h
      · exact List.mem_cons_of_mem _ (insAt_mem x y l (.inl h))
      · rcases List.mem_cons.1 h with h | h
        · rw [h]; simp
        · exact List.mem_cons_of_mem _ (insAt_mem x y l (.inr h))
    · rcases h with h | h
      · rw [h]; simp
      · exact List.mem_cons_of_mem _ h
theorem insAt_sorted (x : Et) : ∀ l : List Et, Sorted l → Sorted (insAt x l)
  | [], _ => by simp [insAt, Sorted]
  | y :: l, h => by
    unfold Sorted at h ⊢
    rw [List.pairwise_cons] at h
    rw [insAt]
    split
    · next hlt =>
      rw [List.pairwise_cons]
      refine ⟨fun z hz => ?_, insAt_sorted x l h.2⟩
      rcases mem_insAt x z l hz with h1 | h1
      · rw [h1]; exact lt_asymm hlt
      · exact h.1 z h1
    · next hlt =>
      have hle : less y.path x.path = false := Bool.eq_false_iff.2 hlt
      rw [List.pairwise_cons]
      refine ⟨fun z hz => ?_, by rw [List.pairwise_cons]; exact h⟩
      rcases List.mem_cons.1 hz with h1 | h1
      · rw [h1]; exact hle
      · exact le_trans' hle (h.1 z h1)
theorem tsort_sorted (l : List Et) : Sorted (tsort l) := by
  have : ∀ (l o : List Et), Sorted o → Sorted (l.foldl (fun o x => insAt x o) o) := by
    intro l
    induction l with
    | nil => intro o h; exact h
    | cons x l ih => intro o h; rw [List.foldl_cons]; exact ih _ (insAt_sorted x o h)
  exact this l [] List.Pairwise.nil
theorem tsort_mem {y : Et} {l : List Et} (h : y ∈ l) : y ∈ tsort l := by
  have : ∀ (l o : List Et), y ∈ o ∨ y ∈ l → y ∈ l.foldl (fun o x => insAt x o) o := by
    intro l
    induction l with
    | nil =>
      intro o h
      rcases h with h | h
      · exact h
      · cases h
    | cons x l ih =>
      intro o h
      rw [List.foldl_cons]
      apply ih
      rcases h with h | h
      · exact .inl (insAt_mem x y o (.inr h))
      · rcases List.mem_cons.1 h with h | h
        · exact .inl (insAt_mem x y o (.inl h))
        · exact .inr h
  exact this l [] (.inr h)

/-! ### where two trees differ -/
theorem sorted_at {l : List Et} (h : Sorted l) {i j : Nat} {x y : Et} (hi : l[i]? = some x) (hj : l[j]? = some y) (hij : i ≤ j) : less y.path x.path = false := by
  rcases Nat.lt_or_eq_of_le hij with hlt | heq
  · obtain ⟨hil, hie⟩ := List.getElem?_eq_some_iff.1 hi
    obtain ⟨hjl, hje⟩ := List.getElem?_eq_some_iff.1 hj
    have := List.pairwise_iff_getElem.1 h i j hil hjl hlt
    rw [hie, hje] at this
    exact this
  · subst heq
    rw [hi] at hj
    injection hj with hj
    rw [hj]
    exact lt_irr _
theorem diffs_inv (la lb all : List Et) (hs : Sorted all) : ∀ k, k ≤ all.length →
    (diffs la lb all k).Pairwise (fun a b => less a b = true) ∧
    (∀ p ∈ diffs la lb all k, ∃ i x, i < k ∧ all[i]? = some x ∧ x.path = p ∧ tget la p ≠ tget lb p) ∧
    (∀ i x, i < k → all[i]? = some x → tget la x.path ≠ tget lb x.path → x.path ∈ diffs la lb all k)
  | 0, _ => ⟨List.Pairwise.nil, fun p hp => (by cases hp), fun i x hi => absurd hi (by omega)⟩
  | k + 1, hk => by
    obtain ⟨h1, h2, h3⟩ := diffs_inv la lb all hs k (by omega)
    obtain ⟨x, hx⟩ : ∃ x, all[k]? = some x := ⟨_, List.getElem?_eq_getElem (by omega)⟩
    rw [diffs_succ]
    by_cases ht : told la lb all k
    · rw [diffAt_yes hx ht]
      obtain ⟨x', hx', hfresh, hdiff⟩ := ht
      rw [hx] at hx'
      injection hx' with hx'
      subst hx'
      refine ⟨?_, fun p hp => ?_, fun i y hi hy hd => ?_⟩
      · rw [List.pairwise_append]
        refine ⟨h1, by simp, fun p hp q hq => ?_⟩
        rw [List.mem_singleton.1 hq]
        obtain ⟨i, y, hi, hy, hyp, _⟩ := h2 p hp
        have hle := sorted_at hs hy hx (by omega)
        rw [hyp] at hle
        refine lt_le hle (fun e => ?_)
        rcases hfresh with h0 | hfr
        · omega
        · obtain ⟨z, hz⟩ : ∃ z, all[k - 1]? = some z := ⟨_, List.getElem?_eq_getElem (by omega)⟩
          have a1 := sorted_at hs hy hz (by omega)
          have a2 := sorted_at hs hz hx (by omega)
          rw [hyp, e] at a1
          exact hfr z hz (lt_tri a1 a2)
      · rcases List.mem_append.1 hp with hp | hp
        · obtain ⟨i, y, hi, r⟩ := h2 p hp
          exact ⟨i, y, by omega, r⟩
        · rw [List.mem_singleton.1 hp]
          exact ⟨k, x, by omega, hx, rfl, hdiff⟩
      · by_cases e : i = k
        · subst e
          rw [hx] at hy
          injection hy with hy
          rw [← hy]
          simp
        · exact List.mem_append.2 (.inl (h3 i y (by omega) hy hd))
    · rw [diffAt_no hx ht, List.append_nil]
      refine ⟨h1, fun p hp => ?_, fun i y hi hy hd => ?_⟩
      · obtain ⟨i, y, hi, r⟩ := h2 p hp
        exact ⟨i, y, by omega, r⟩
      · by_cases e : i = k
        · subst e
          rw [hx] at hy
          injection hy with hy
          subst hy
          have hnf : ¬ (i = 0 ∨ ∀ y, all[i - 1]? = some y → y.path ≠ x.path) := fun hf => ht ⟨x, hx, hf, hd⟩
          have h0 : i ≠ 0 := fun h => hnf (.inl h)
          obtain ⟨z, hz⟩ : ∃ z, all[i - 1]? = some z := ⟨_, List.getElem?_eq_getElem (by omega)⟩
          have hzp : z.path = x.path := Decidable.byContradiction (fun hne => hnf (.inr fun y hy => by
            rw [hz] at hy
            injection hy with hy
            rw [← hy]
            exact hne))
          have := h3 (i - 1) z (by omega) hz (by rw [hzp]; exact hd)
          rw [hzp] at this
          exact this
        · exact h3 i y (by omega) hy hd
theorem tget_zero {l : List Et} {p : ByteArray} (h : ∀ x ∈ l, x.path ≠ p) : tget l p = ⟨0, ⟨#[]⟩⟩ := tget_none l p h
/-- What Diff tells: rising, and just where the two differ. -/
theorem tdiff_all (la lb : List Et) : (tdiff la lb).Pairwise (fun a b => less a b = true) ∧ (∀ p, p ∈ tdiff la lb ↔ tget la p ≠ tget lb p) ∧ ∀ p ∈ tdiff la lb, (∃ x ∈ la, x.path = p) ∨ ∃ x ∈ lb, x.path = p := by
  have hs := tsort_sorted (la ++ lb)
  have hlen : (tsort (la ++ lb)).length = la.length + lb.length := by rw [tsort_len, List.length_append]
  obtain ⟨h1, h2, h3⟩ := diffs_inv la lb (tsort (la ++ lb)) hs (la.length + lb.length) (by omega)
  refine ⟨h1, fun p => ⟨fun hp => ?_, fun hd => ?_⟩, fun p hp => ?_⟩
  · obtain ⟨i, x, _, _, _, hd⟩ := h2 p hp
    exact hd
  · have hex : ∃ x ∈ la ++ lb, x.path = p := by
      apply Classical.byContradiction
      intro hno
      apply hd
      rw [tget_zero (l := la) (fun x hx e => hno ⟨x, List.mem_append.2 (.inl hx), e⟩), tget_zero (l := lb) (fun x hx e => hno ⟨x, List.mem_append.2 (.inr hx), e⟩)]
    obtain ⟨x, hx, rfl⟩ := hex
    obtain ⟨i, hi⟩ := List.getElem?_of_mem (tsort_mem hx)
    exact h3 i x (by have := (List.getElem?_eq_some_iff.1 hi).1; omega) hi hd
  · obtain ⟨i, x, _, hx, hxp, _⟩ := h2 p hp
    have := mem_tsort (List.mem_of_getElem? hx)
    rcases List.mem_append.1 this with h | h
    · exact .inl ⟨x, h, hxp⟩
    · exact .inr ⟨x, h, hxp⟩
theorem tdiff_swap (la lb : List Et) : tdiff lb la = tdiff la lb := by
  obtain ⟨a1, a2, _⟩ := tdiff_all la lb
  obtain ⟨b1, b2, _⟩ := tdiff_all lb la
  exact rise_ext _ _ b1 a1 (fun p => by rw [a2, b2]; exact ⟨fun h e => h e.symm, fun h e => h e.symm⟩)

/-! ### trees -/
theorem tree_at {l : List Et} (h : tcheck l = 0) {i : Nat} {x : Et} (hx : l[i]? = some x) : chk x.path.data.toList 5 = 0 ∧ whole x.node = true ∧ x.node.kind ≠ 0 ∧ (i = 0 ∨ ∃ y, l[i - 1]? = some y ∧ less y.path x.path = true) := by
  have hi := (List.getElem?_eq_some_iff.1 hx).1
  have hok : okAt l i = true := by
    unfold tcheck at h
    split at h
    · cases h
    · split at h
      · next hall => exact List.all_eq_true.1 hall i (List.mem_range.2 hi)
      · cases h
  rw [okAt_eq hx] at hok
  simp only [Bool.and_eq_true, Bool.or_eq_true, decide_eq_true_eq, Bool.not_eq_true', decide_eq_false_iff_not] at hok
  obtain ⟨⟨⟨⟨c1, c2⟩, c3⟩, c4⟩, _⟩ := hok
  refine ⟨c1, c2, c3, ?_⟩
  rcases c4 with c4 | c4
  · exact .inl c4
  · by_cases h0 : i = 0
    · exact .inl h0
    · right
      obtain ⟨y, hy⟩ : ∃ y, l[i - 1]? = some y := ⟨_, List.getElem?_eq_getElem (by omega)⟩
      rw [hy] at c4
      exact ⟨y, hy, c4⟩
theorem tree_rise {l : List Et} (h : tcheck l = 0) : ∀ (j i : Nat) (x y : Et), l[i]? = some x → l[j]? = some y → i < j → less x.path y.path = true
  | 0, i, x, y, _, _, hij => absurd hij (by omega)
  | j + 1, i, x, y, hx, hy, hij => by
    rcases (tree_at h hy).2.2.2 with h0 | ⟨z, hz, hlt⟩
    · omega
    · rw [Nat.add_sub_cancel] at hz
      by_cases e : i = j
      · subst e
        rw [hx] at hz
        injection hz with hz
        rw [hz]
        exact hlt
      · exact lt_trans (tree_rise h j i x z hx hz (by omega)) hlt
theorem tree_get {l : List Et} (h : tcheck l = 0) {x : Et} (hx : x ∈ l) : tget l x.path = x.node := by
  obtain ⟨k, hk⟩ := List.getElem?_of_mem hx
  refine tget_hit l x.path k x hk rfl (fun y hy e => ?_)
  obtain ⟨i, hi⟩ := List.getElem?_of_mem hy
  rw [List.getElem?_take] at hi
  split at hi
  · next hik =>
    have := tree_rise h k i y x hi hk hik
    rw [e, lt_irr] at this
    cases this
  · cases hi
theorem tree_paths {l : List Et} (h : tcheck l = 0) : (l.map (·.path)).Pairwise (fun a b => less a b = true) := by
  rw [List.pairwise_iff_getElem]
  intro i j hi hj hij
  rw [List.length_map] at hi hj
  rw [List.getElem_map, List.getElem_map]
  exact tree_rise h j i _ _ (List.getElem?_eq_getElem hi) (List.getElem?_eq_getElem hj) hij
theorem tree_path_mem {l : List Et} (h : tcheck l = 0) (p : ByteArray) : p ∈ l.map (·.path) ↔ (tget l p).kind ≠ 0 := by
  constructor
  · intro hp
    obtain ⟨x, hx, rfl⟩ := List.mem_map.1 hp
    rw [tree_get h hx]
    obtain ⟨k, hk⟩ := List.getElem?_of_mem hx
    exact (tree_at h hk).2.2.1
  · intro hk
    apply Classical.byContradiction
    intro hno
    apply hk
    rw [tget_zero (fun x hx e => hno (List.mem_map.2 ⟨x, hx, e⟩))]
/-- Trees with the same nodes at all paths are the same. -/
theorem tree_ext {la lb : List Et} (ha : tcheck la = 0) (hb : tcheck lb = 0) (h : ∀ p, tget la p = tget lb p) : la = lb := by
  have hp : la.map (·.path) = lb.map (·.path) := rise_ext _ _ (tree_paths ha) (tree_paths hb) (fun p => by rw [tree_path_mem ha, tree_path_mem hb, h])
  have form : ∀ {l : List Et}, tcheck l = 0 → l = (l.map (·.path)).map (fun p => ⟨p, tget l p⟩) := by
    intro l hl
    rw [List.map_map]
    conv => lhs; rw [← List.map_id l]
    refine List.map_congr_left (fun x hx => ?_)
    show x = ⟨x.path, tget l x.path⟩
    rw [tree_get hl hx]
  rw [form ha, form hb, hp]
  exact List.map_congr_left (fun p _ => by rw [h])
theorem tdiff_nil {la lb : List Et} (ha : tcheck la = 0) (hb : tcheck lb = 0) : (tdiff la lb).length = 0 ↔ la = lb := by
  obtain ⟨_, h2, _⟩ := tdiff_all la lb
  constructor
  · intro h0
    refine tree_ext ha hb (fun p => ?_)
    apply Classical.byContradiction
    intro hne
    have := (h2 p).2 hne
    rw [List.length_eq_zero_iff.1 h0] at this
    cases this
  · intro e
    subst e
    apply List.length_eq_zero_iff.2
    apply List.eq_nil_iff_forall_not_mem.2
    intro p hp
    exact (h2 p).1 hp rfl
theorem tdiff_path {la lb : List Et} (ha : tcheck la = 0) (hb : tcheck lb = 0) {p : ByteArray} (hp : p ∈ tdiff la lb) : chk p.data.toList 5 = 0 := by
  obtain ⟨_, _, h3⟩ := tdiff_all la lb
  rcases h3 p hp with ⟨x, hx, rfl⟩ | ⟨x, hx, rfl⟩
  · obtain ⟨k, hk⟩ := List.getElem?_of_mem hx
    exact (tree_at ha hk).1
  · obtain ⟨k, hk⟩ := List.getElem?_of_mem hx
    exact (tree_at hb hk).1
end Go.Proofs.Ythokkobmlhbfgaa.En
