/- Plain mathematics of paths: joined ones, the order. -/
import Derived.Test.YthokkobmlhbfgaaPMath
namespace Go.Proofs.Ythokkobmlhbfgaa.Pm
set_option linter.unusedVariables false

theorem joi_ne {a b : List UInt8} (ha : a ≠ []) (hb : b ≠ []) : joi a b = a ++ 47 :: b := by rw [joi, if_pos ⟨ha, hb⟩]
theorem spl_app (a b : List UInt8) : spl (a ++ 47 :: b) = spl a ++ spl b := by
  induction a with
  | nil => rw [List.nil_append]; exact if_pos rfl
  | cons c r ih =>
    rw [List.cons_append, spl, spl, ih]
    split
    · rfl
    · cases h : spl r with
      | nil => exact absurd h (spl_ne r)
      | cons x xs => rfl
theorem spl_one {l : List UInt8} (h : lastN l = 0) : spl l = [l] := by
  induction l with
  | nil => rfl
  | cons c r ih =>
    rw [lastN] at h
    split at h
    · rename_i h0
      split at h
      · cases h
      · rename_i hc
        rw [spl, if_neg hc, ih h0]
    · cases h
theorem cut_last {l : List UInt8} {k : Nat} (h : lastN l = k + 1) : l = l.take k ++ 47 :: l.drop (k + 1) := by
  induction l generalizing k with
  | nil => cases h
  | cons c r ih =>
    rw [lastN] at h
    split at h
    · split at h
      · rename_i hc
        obtain rfl : k = 0 := by omega
        rw [hc]
        rfl
      · cases h
    · rename_i h0
      obtain ⟨k', rfl⟩ : ∃ k', k = k' + 1 := ⟨k - 1, by omega⟩
      have := ih (k := k') (by omega)
      rw [List.take_succ_cons, List.drop_succ_cons, List.cons_append, ← this]
theorem last_bas (l : List UInt8) : lastN (bas l) = 0 := by
  unfold bas
  induction l with
  | nil => rfl
  | cons c r ih =>
    by_cases h : lastN r = 0
    · rw [h] at ih
      by_cases hc : c = 47
      · rw [lastN, if_pos h, if_pos hc]
        exact h
      · rw [lastN, if_pos h, if_neg hc, List.drop_zero, lastN, if_pos h, if_neg hc]
    · rw [lastN, if_neg h, List.drop_succ_cons]
      exact ih
/-- A text is its parent, a stroke and its last name; or its last name. -/
theorem par_bas (l : List UInt8) : (lastN l = 0 ∧ par l = [] ∧ bas l = l) ∨ (l = par l ++ 47 :: bas l) := by
  by_cases h : lastN l = 0
  · left
    rw [par, bas, h]
    exact ⟨rfl, rfl, rfl⟩
  · right
    obtain ⟨k, hk⟩ : ∃ k, lastN l = k + 1 := ⟨lastN l - 1, by omega⟩
    have := cut_last hk
    rw [par, bas, hk, Nat.add_sub_cancel]
    exact this
theorem spl_bas (l : List UInt8) : ∃ xs, spl l = xs ++ [bas l] ∧ (par l ≠ [] → xs = spl (par l)) := by
  rcases par_bas l with ⟨h, hp, hb⟩ | h
  · refine ⟨[], ?_, fun hn => absurd hp hn⟩
    rw [spl_one h, hb, List.nil_append]
  · refine ⟨spl (par l), ?_, fun _ => rfl⟩
    conv => lhs; rw [h]
    rw [spl_app, spl_one (last_bas l)]

def good (l : List UInt8) : Prop := (spl l).all isName = true
theorem ok_of {l : List UInt8} {d : Int} (h : chk l d = 0) : ((spl l).length : Int) ≤ d ∧ good l := by
  rw [chk] at h
  split at h
  · rename_i hp
    rw [isPath, Bool.and_eq_true] at hp
    exact ⟨of_decide_eq_true hp.1, hp.2⟩
  · cases h
theorem ok_to {l : List UInt8} {d : Int} (h1 : ((spl l).length : Int) ≤ d) (h2 : good l) : chk l d = 0 := by
  unfold good at h2
  rw [chk, isPath, decide_eq_true h1, Bool.true_and, if_pos h2]
theorem bad_to {l : List UInt8} {d : Int} (h1 : d < ((spl l).length : Int)) : chk l d = 10 := by
  rw [chk, isPath, decide_eq_false (by omega), Bool.false_and, if_neg (by simp)]
theorem chk_two (l : List UInt8) (d : Int) : chk l d = 0 ∨ chk l d = 10 := by
  rw [chk]
  split
  · exact .inl rfl
  · exact .inr rfl
theorem good_ne {l : List UInt8} (h : good l) : l ≠ [] := by
  rintro rfl
  exact absurd (show (spl []).all isName = true from h) (by decide)
theorem name_ne {l : List UInt8} (h : isName l = true) : l ≠ [] := by
  rintro rfl
  exact absurd h (by decide)
theorem good_app {a b : List UInt8} (ha : good a) (hb : good b) : good (a ++ 47 :: b) := by
  unfold good at ha hb ⊢
  rw [spl_app, List.all_append, ha, hb]
  rfl
theorem good_cut {a b : List UInt8} (h : good (a ++ 47 :: b)) : good a ∧ good b := by
  unfold good at h ⊢
  rw [spl_app, List.all_append, Bool.and_eq_true] at h
  exact h
theorem bas_name {l : List UInt8} (h : good l) : isName (bas l) = true := by
  obtain ⟨xs, hx, _⟩ := spl_bas l
  unfold good at h
  rw [hx, List.all_append, Bool.and_eq_true] at h
  simpa using h.2
theorem joi_back {l : List UInt8} (h : good l) : joi (par l) (bas l) = l := by
  have hb := name_ne (bas_name h)
  rcases par_bas l with ⟨_, hp, hl⟩ | hl
  · rw [hp, hl, joi, if_neg (fun h => h.1 rfl)]
    rfl
  · have hp : par l ≠ [] := by
      have := h
      rw [hl] at this
      exact good_ne (good_cut this).1
    rw [joi_ne hp hb]
    exact hl.symm
theorem spl_pos (l : List UInt8) : 0 < (spl l).length := List.length_pos_iff.2 (spl_ne l)
theorem dep_good {l : List UInt8} (h : good l) : dep l = (spl l).length := by rw [dep, if_neg (good_ne h)]
theorem und_self (l : List UInt8) : und l l = true := by rw [und]; simp
theorem und_below (a b : List UInt8) : und (a ++ 47 :: b) a = true := by
  have : (a ++ [47]).isPrefixOf (a ++ 47 :: b) = true := by
    rw [List.isPrefixOf_iff_prefix]
    exact ⟨b, by simp⟩
  rw [und, this, Bool.or_true]
theorem und_above (a b : List UInt8) : und a (a ++ 47 :: b) = false := by
  have h1 : a ++ 47 :: b ≠ [] := by simp
  have h2 : a ≠ a ++ 47 :: b := fun h => by have := congrArg List.length h; simp at this
  have h3 : (a ++ 47 :: b ++ [47]).isPrefixOf a = false := by
    apply Bool.eq_false_iff.2
    intro h
    have := (List.isPrefixOf_iff_prefix.1 h).length_le
    simp at this
    omega
  rw [und, decide_eq_false h1, decide_eq_false h2, h3]
  rfl
theorem und_par (l : List UInt8) : und l (par l) = true := by
  rcases par_bas l with ⟨_, hp, _⟩ | hl
  · rw [und, hp]; simp
  · have := und_below (par l) (bas l)
    rw [← hl] at this
    exact this
theorem par_len (l : List UInt8) : (par l).length ≤ l.length := by rw [par, List.length_take]; omega
theorem bas_len (l : List UInt8) : (bas l).length ≤ l.length := by rw [bas, List.length_drop]; omega

theorem less_app (a b : List UInt8) (c : UInt8) : Op.bytesLess a (a ++ c :: b) = true := by
  induction a with
  | nil => rfl
  | cons x a ih => rw [List.cons_append, Op.bytesLess, ih]; simp
theorem less_irr (a : List UInt8) : Op.bytesLess a a = false := by
  induction a with
  | nil => rfl
  | cons x a ih => rw [Op.bytesLess, ih]; simp
theorem less_asymm : ∀ (a b : List UInt8), Op.bytesLess a b = true → Op.bytesLess b a = false
  | [], [], _ => rfl
  | [], _ :: _, _ => by rw [Op.bytesLess]
  | _ :: _, [], h => by rw [Op.bytesLess] at h; cases h
  | x :: a, y :: b, h => by
    have ih := less_asymm a b
    rw [Op.bytesLess] at h ⊢
    by_cases h1 : x < y
    · have h2 : ¬ y < x := by rw [UInt8.lt_iff_toNat_lt] at h1 ⊢; omega
      have h3 : ¬ y = x := by rintro rfl; rw [UInt8.lt_iff_toNat_lt] at h1; omega
      simp [h2, h3]
    · by_cases h2 : x = y
      · subst h2
        simp at h ⊢
        exact ih h
      · simp [h1, h2] at h
theorem letters {l : List UInt8} (h : ∀ x ∈ spl l, x.all okC = true) : ∀ c ∈ l, okC c = true ∨ c = 47 := by
  induction l with
  | nil => intro c hc; cases hc
  | cons d r ih =>
    intro c hc
    by_cases hd : d = 47
    · rw [spl, if_pos hd] at h
      rcases List.mem_cons.1 hc with rfl | hc
      · exact .inr hd
      · exact ih (fun x hx => h x (List.mem_cons_of_mem _ hx)) c hc
    · rw [spl, if_neg hd] at h
      cases hs : spl r with
      | nil => exact absurd hs (spl_ne r)
      | cons x xs =>
        rw [hs] at h ih
        have h0 := h (d :: x) (List.mem_cons_self ..)
        rw [List.all_cons, Bool.and_eq_true] at h0
        rcases List.mem_cons.1 hc with rfl | hc
        · exact .inl h0.1
        · refine ih (fun y hy => ?_) c hc
          rcases List.mem_cons.1 hy with rfl | hy
          · exact h0.2
          · exact h y (List.mem_cons_of_mem _ hy)
theorem good_letters {l : List UInt8} (h : good l) : ∀ c ∈ l, okC c = true ∨ c = 47 := by
  apply letters
  intro x hx
  unfold good at h
  have := List.all_eq_true.1 h x hx
  rw [isName, Bool.and_eq_true] at this
  exact this.2
theorem above {c : UInt8} (h : okC c = true) : (47 : UInt8) < c := by
  rw [UInt8.lt_iff_toNat_lt]
  show 47 < c.toNat
  simp [okC] at h
  omega
theorem sorts : ∀ (t o b : List UInt8), (∀ c ∈ o, okC c = true ∨ c = 47) → o ≠ t → (t ++ [47]).isPrefixOf o = false → Op.bytesLess o t = true ∨ Op.bytesLess (t ++ 47 :: b) o = true
  | [], [], b, _, hne, _ => absurd rfl hne
  | [], c :: r, b, hl, _, hp => by
    right
    have hc : c ≠ 47 := by
      rintro rfl
      simp at hp
    have := above ((hl c (List.mem_cons_self ..)).resolve_right hc)
    rw [List.nil_append, Op.bytesLess]
    simp [this]
  | x :: t, [], b, _, _, _ => .inl rfl
  | x :: t, c :: r, b, hl, hne, hp => by
    rw [List.cons_append, Op.bytesLess, Op.bytesLess]
    by_cases h1 : c < x
    · left; simp [h1]
    · by_cases h2 : c = x
      · subst h2
        have := sorts t r b (fun d hd => hl d (List.mem_cons_of_mem _ hd)) (fun e => hne (by rw [e])) (by simpa using hp)
        simpa using this
      · right
        have : x < c := by
          rw [UInt8.lt_iff_toNat_lt] at h1 ⊢
          have : c.toNat ≠ x.toNat := fun e => h2 (UInt8.toNat_inj.1 e)
          omega
        simp [this]
theorem und_split {o t : List UInt8} (h : und o t = false) : o ≠ t ∧ (t ++ [47]).isPrefixOf o = false := by
  rw [und, Bool.or_eq_false_iff, Bool.or_eq_false_iff] at h
  exact ⟨of_decide_eq_false h.1.2, h.2⟩
/-- What isn't below stands ahead, or behind all below. -/
theorem order {t o b : List UInt8} (ho : good o) (h : und o t = false) : Op.bytesLess o t = true ∨ (Op.bytesLess o (t ++ 47 :: b) = false ∧ o ≠ t ++ 47 :: b) := by
  obtain ⟨h1, h2⟩ := und_split h
  rcases sorts t o b (good_letters ho) h1 h2 with h3 | h3
  · exact .inl h3
  · refine .inr ⟨less_asymm _ _ h3, ?_⟩
    rintro rfl
    rw [less_irr] at h3
    cases h3
end Go.Proofs.Ythokkobmlhbfgaa.Pm
