/- Texts of this seat, one behind the other. -/
import Derived.Test.YtkenmldiojeooaaGreatT4
import Derived.Laws.StructEq
import Derived.OwnWalk
import Derived.Laws.Rows
import Derived.Laws.ResultCell
import Derived.Lib.AppendZeros
import Derived.OneCell
import Derived.Shelf.Sort.Plain
import Derived.Shelf.Slices.CompactS
import Derived.Test.YtkenmldiojeooaaGreatProg
import Derived.Shelf.Slices.In.SortNone
import Derived.Sort.OwnSorted
import Derived.Lib.OwnBridge
import Derived.Maps.AppendAt
import Derived.Laws.OwnMore
namespace Go.Proofs.YtkenmldiojeooaaGreat.Rc
open Go.RowKit Tx Pm Pr En
set_option linter.unusedVariables false
set_option linter.unusedSimpArgs false
theorem und_forms {p q : List UInt8} (hq : q ≠ []) : und p q = true ↔ p = q ∨ ∃ r, p = q ++ 47 :: r := by
  constructor
  · intro h
    by_cases e : p = q
    · exact .inl e
    · exact .inr (und_form h hq e)
  · rintro (rfl | ⟨r, rfl⟩)
    · exact und_self _
    · exact und_below _ _
theorem und_nil (p : List UInt8) : und p [] = true := by unfold und; simp
theorem und_trans {p q t : List UInt8} (h1 : und p q = true) (h2 : und q t = true) : und p t = true := by
  by_cases ht : t = []
  · rw [ht]; exact und_nil _
  · rcases (und_forms ht).1 h2 with rfl | ⟨r, hr⟩
    · exact h1
    · have hq : q ≠ [] := by rw [hr]; simp
      rcases (und_forms hq).1 h1 with rfl | ⟨s, rfl⟩
      · exact h2
      · exact (und_forms ht).2 (.inr ⟨r ++ 47 :: s, by rw [hr, List.append_assoc]; rfl⟩)
theorem sub_sub {T : List Et} {t p : ByteArray} (h : und p.data.toList t.data.toList = true) : tsub (tsub T t) p = tsub T p := by
  unfold tsub
  rw [List.filter_filter]
  refine List.filter_congr fun x _ => ?_
  cases hx : und x.path.data.toList p.data.toList with
  | false => rfl
  | true => rw [und_trans hx h]; rfl
theorem get_sub {T : List Et} {t p : ByteArray} (h : und p.data.toList t.data.toList = true) : tget (tsub T t) p = tget T p := by
  have e : (tsub T t).find? (fun x => decide (x.path = p)) = T.find? (fun x => decide (x.path = p)) := by
    unfold tsub
    rw [List.find?_filter]
    congr 1
    funext x
    by_cases hx : x.path = p
    · subst hx
      rw [h]; simp
    · simp [hx]
  unfold tget
  rw [e]
theorem same_sub {H S : List Et} {t p : ByteArray} (h : und p.data.toList t.data.toList = true) (e : tsub H t = tsub S t) : tsub H p = tsub S p := by
  rw [← sub_sub h, e, sub_sub h]
theorem same_get {H S : List Et} {t p : ByteArray} (h : und p.data.toList t.data.toList = true) (e : tsub H t = tsub S t) : tget H p = tget S p := by
  rw [← get_sub h, e, get_sub h]
variable (M : Nd → Nd → Nd → Bool)
open Classical in
noncomputable def said (A H S : List Et) (p : ByteArray) : Nat :=
  if tsub H p = tsub S p then (if tsub H p = tsub A p then 0 else 1)
  else if (tget H p).kind = 1 ∧ (tget S p).kind = 1 then (if (tget A p).kind = 1 then 0 else 1)
  else if tsub H p = tsub A p then 3
  else if tsub S p = tsub A p then 2
  else if M (tget A p) (tget H p) (tget S p) = true then 4 else 5
def Opn (H S : List Et) (l : List UInt8) : Prop := ∀ q r, q ≠ [] → l = q ++ 47 :: r → (tget H (tb q)).kind = 1 ∧ (tget S (tb q)).kind = 1 ∧ tsub H (tb q) ≠ tsub S (tb q)
theorem opn_top {H S : List Et} {l : List UInt8} (h : par l = []) : Opn H S l := by
  intro q r hq e
  rcases par_below e with h1 | ⟨a, h1⟩
  · exact absurd (h1.symm.trans h) hq
  · rw [h] at h1
    exact absurd h1.symm (by simp)
theorem opn_par {H S : List Et} {l : List UInt8} (h : par l ≠ []) : Opn H S l ↔ Opn H S (par l) ∧ (tget H (tb (par l))).kind = 1 ∧ (tget S (tb (par l))).kind = 1 ∧ tsub H (tb (par l)) ≠ tsub S (tb (par l)) := by
  have hb : l = par l ++ 47 :: bas l := (par_bas l).resolve_left fun hh => h hh.2.1
  constructor
  · intro ho
    refine ⟨fun q r hq e => ho q (r ++ 47 :: bas l) hq ?_, ho _ _ h hb⟩
    conv => lhs; rw [hb, e]
    rw [List.append_assoc]; rfl
  · rintro ⟨ho, hc⟩ q r hq e
    rcases par_below e with h1 | ⟨a, h1⟩
    · rw [← h1]; exact hc
    · exact ho q a hq h1
structure Its (A H S : List Et) (R : List (ByteArray × Nat)) : Prop where
  rise : (R.map (·.1)).Pairwise (fun a b => less a b = true)
  mem : ∀ x, x ∈ R ↔ ((∃ e, e ∈ A ++ H ++ S ∧ e.path = x.1) ∧ Opn H S x.1.data.toList ∧ x.2 = said M A H S x.1 ∧ x.2 ≠ 0)
variable {M}
theorem pairs_ext {l m : List (ByteArray × Nat)} (hl : (l.map (·.1)).Pairwise (fun a b => less a b = true)) (hm : (m.map (·.1)).Pairwise (fun a b => less a b = true)) (h : ∀ x, x ∈ l ↔ x ∈ m)
    (hf : ∀ x y, x ∈ l → y ∈ l → x.1 = y.1 → x = y) : l = m := by
  induction l generalizing m with
  | nil =>
    cases m with
    | nil => rfl
    | cons y m => exact absurd ((h y).2 (List.mem_cons_self ..)) (by simp)
  | cons x l ih =>
    cases m with
    | nil => exact absurd ((h x).1 (List.mem_cons_self ..)) (by simp)
    | cons y m =>
      rw [List.map_cons, List.pairwise_cons] at hl hm
      have e : x = y := by
        rcases List.mem_cons.1 ((h x).1 (List.mem_cons_self ..)) with h1 | h1
        · exact h1
        · rcases List.mem_cons.1 ((h y).2 (List.mem_cons_self ..)) with h2 | h2
          · exact h2.symm
          · have a1 := hm.1 _ (List.mem_map.2 ⟨x, h1, rfl⟩)
            have a2 := hl.1 _ (List.mem_map.2 ⟨y, h2, rfl⟩)
            rw [lt_asymm a1] at a2
            cases a2
      subst e
      rw [ih hl.2 hm.2 (fun z => ?_) (fun u v hu hv => hf u v (List.mem_cons_of_mem _ hu) (List.mem_cons_of_mem _ hv))]
      constructor
      · intro hz
        rcases List.mem_cons.1 ((h z).1 (List.mem_cons_of_mem _ hz)) with h1 | h1
        · subst h1
          have := hl.1 _ (List.mem_map.2 ⟨z, hz, rfl⟩)
          rw [lt_irr] at this
          cases this
        · exact h1
      · intro hz
        rcases List.mem_cons.1 ((h z).2 (List.mem_cons_of_mem _ hz)) with h1 | h1
        · subst h1
          have := hm.1 _ (List.mem_map.2 ⟨z, hz, rfl⟩)
          rw [lt_irr] at this
          cases this
        · exact h1
theorem Its.one {A H S : List Et} {R R2 : List (ByteArray × Nat)} (h : Its M A H S R) (h2 : Its M A H S R2) : R = R2 := by
  refine pairs_ext h.rise h2.rise (fun x => (h.mem x).trans (h2.mem x).symm) ?_
  intro x y hx hy e
  have h3 := ((h.mem x).1 hx).2.2.1
  have h4 := ((h.mem y).1 hy).2.2.1
  rw [e] at h3
  exact Prod.ext e (h3.trans h4.symm)
theorem Its.nodup {A H S : List Et} {R : List (ByteArray × Nat)} (h : Its M A H S R) : R.Nodup := by
  have h1 := h.rise
  rw [List.pairwise_map] at h1
  exact h1.imp fun hab e => by rw [e, lt_irr] at hab; cases hab
theorem said_all (A : List Et) (p : ByteArray) : said M A A A p = 0 := by unfold said; rw [if_pos rfl, if_pos rfl]
theorem said_both (A S : List Et) (p : ByteArray) : said M A S S p = 0 ∨ said M A S S p = 1 := by
  unfold said
  rw [if_pos rfl]
  by_cases h : tsub S p = tsub A p
  · rw [if_pos h]; exact .inl rfl
  · rw [if_neg h]; exact .inr rfl
theorem said_side (A S : List Et) (p : ByteArray) : said M A A S p = 0 ∨ said M A A S p = 1 ∨ said M A A S p = 3 := by
  unfold said
  by_cases h : tsub A p = tsub S p
  · rw [if_pos h, if_pos rfl]; exact .inl rfl
  · rw [if_neg h]
    by_cases hd : (tget A p).kind = 1 ∧ (tget S p).kind = 1
    · rw [if_pos hd, if_pos hd.1]; exact .inl rfl
    · rw [if_neg hd, if_pos rfl]; exact .inr (.inr rfl)
theorem said_hub (A S : List Et) (p : ByteArray) : said M A S A p = 0 ∨ said M A S A p = 1 ∨ said M A S A p = 2 := by
  unfold said
  by_cases h : tsub S p = tsub A p
  · rw [if_pos h, if_pos h]; exact .inl rfl
  · rw [if_neg h]
    by_cases hd : (tget S p).kind = 1 ∧ (tget A p).kind = 1
    · rw [if_pos hd, if_pos hd.2]; exact .inl rfl
    · rw [if_neg hd, if_neg h, if_pos rfl]; exact .inr (.inr rfl)
theorem quiet_all {A : List Et} {R : List (ByteArray × Nat)} (h : Its M A A A R) : R = [] := by
  cases R with
  | nil => rfl
  | cons x R =>
    obtain ⟨_, _, h3, h4⟩ := (h.mem x).1 (List.mem_cons_self ..)
    rw [said_all] at h3
    exact absurd h3 h4
def tu (n : Nat) : Nat := if n = 3 then 2 else if n = 2 then 3 else n
theorem said_turn (hM : ∀ a h s, M a s h = M a h s) (A H S : List Et) (p : ByteArray) : said M A S H p = tu (said M A H S p) := by
  unfold said
  by_cases h1 : tsub H p = tsub S p
  · rw [if_pos h1, if_pos h1.symm, h1]
    by_cases h2 : tsub S p = tsub A p
    · rw [if_pos h2]; rfl
    · rw [if_neg h2]; rfl
  · rw [if_neg h1, if_neg (fun e => h1 e.symm)]
    by_cases hd : (tget H p).kind = 1 ∧ (tget S p).kind = 1
    · rw [if_pos hd, if_pos ⟨hd.2, hd.1⟩]
      by_cases ha : (tget A p).kind = 1
      · rw [if_pos ha]; rfl
      · rw [if_neg ha]; rfl
    · rw [if_neg hd, if_neg (fun e => hd ⟨e.2, e.1⟩), hM]
      by_cases h2 : tsub H p = tsub A p
      · rw [if_pos h2, if_neg (fun e => h1 (h2.trans e.symm)), if_pos h2]; rfl
      · by_cases h3 : tsub S p = tsub A p
        · simp only [if_neg h2, if_pos h3]; rfl
        · simp only [if_neg h2, if_neg h3]
          by_cases hm : M (tget A p) (tget H p) (tget S p) = true
          · rw [if_pos hm]; rfl
          · rw [if_neg hm]; rfl
theorem tu_tu (n : Nat) : tu (tu n) = n := by
  unfold tu
  by_cases h3 : n = 3
  · subst h3; rfl
  · rw [if_neg h3]
    by_cases h2 : n = 2
    · subst h2; rfl
    · rw [if_neg h2, if_neg h3, if_neg h2]
theorem tu_zero {n : Nat} : tu n = 0 ↔ n = 0 := by
  unfold tu
  by_cases h3 : n = 3
  · subst h3; simp
  · rw [if_neg h3]
    by_cases h2 : n = 2
    · subst h2; simp
    · rw [if_neg h2]
theorem opn_turn {H S : List Et} {l : List UInt8} (h : Opn H S l) : Opn S H l := fun q r hq e => by
  obtain ⟨h1, h2, h3⟩ := h q r hq e
  exact ⟨h2, h1, fun x => h3 x.symm⟩
theorem Its.turn (hM : ∀ a h s, M a s h = M a h s) {A H S : List Et} {R : List (ByteArray × Nat)} (h : Its M A H S R) : Its M A S H (R.map fun x => (x.1, tu x.2)) where
  rise := by rw [List.map_map]; exact h.rise
  mem := by
    intro x
    rw [List.mem_map]
    constructor
    · rintro ⟨y, hy, rfl⟩
      obtain ⟨⟨e, he, hp⟩, ho, hs, hn⟩ := (h.mem y).1 hy
      refine ⟨⟨e, ?_, hp⟩, opn_turn ho, ?_, fun e => hn (tu_zero.1 e)⟩
      · simp only [List.mem_append] at he ⊢
        exact he.elim (fun h => h.elim (fun h => .inl (.inl h)) (fun h => .inr h)) (fun h => .inl (.inr h))
      · show tu y.2 = _
        rw [said_turn hM, hs]
    · rintro ⟨⟨e, he, hp⟩, ho, hs, hn⟩
      refine ⟨(x.1, tu x.2), (h.mem _).2 ⟨⟨e, ?_, hp⟩, opn_turn ho, ?_, fun e => hn (tu_zero.1 e)⟩, ?_⟩
      · simp only [List.mem_append] at he ⊢
        exact he.elim (fun h => h.elim (fun h => .inl (.inl h)) (fun h => .inr h)) (fun h => .inl (.inr h))
      · show tu x.2 = _
        rw [hs, said_turn hM, tu_tu]
      · exact Prod.ext rfl (tu_tu x.2)
def Loud (n : Nat) : Prop := n ≠ 0 ∧ n ≠ 1
theorem said_loud {A H S : List Et} {p : ByteArray} (h : tsub H p ≠ tsub S p) (hd : ¬ ((tget H p).kind = 1 ∧ (tget S p).kind = 1)) : Loud (said M A H S p) := by
  unfold said Loud
  rw [if_neg h, if_neg hd]
  by_cases h2 : tsub H p = tsub A p
  · rw [if_pos h2]; decide
  · rw [if_neg h2]
    by_cases h3 : tsub S p = tsub A p
    · rw [if_pos h3]; decide
    · rw [if_neg h3]
      by_cases hm : M (tget A p) (tget H p) (tget S p) = true
      · rw [if_pos hm]; decide
      · rw [if_neg hm]; decide
theorem said_quiet {A H S : List Et} {p : ByteArray} (h : tsub H p = tsub S p ∨ (tget H p).kind = 1 ∧ (tget S p).kind = 1) : ¬ Loud (said M A H S p) := by
  unfold said Loud
  by_cases h1 : tsub H p = tsub S p
  · rw [if_pos h1]
    by_cases h2 : tsub H p = tsub A p
    · rw [if_pos h2]; simp
    · rw [if_neg h2]; simp
  · rw [if_neg h1, if_pos (h.resolve_left h1)]
    by_cases h2 : (tget A p).kind = 1
    · rw [if_pos h2]; simp
    · rw [if_neg h2]; simp
theorem said_hubs {A H S : List Et} {p : ByteArray} (h : said M A H S p = 3) : tsub H p = tsub A p := by
  unfold said at h
  by_cases h1 : tsub H p = tsub S p
  · rw [if_pos h1] at h
    by_cases h2 : tsub H p = tsub A p
    · exact h2
    · rw [if_neg h2] at h; cases h
  · rw [if_neg h1] at h
    by_cases hd : (tget H p).kind = 1 ∧ (tget S p).kind = 1
    · rw [if_pos hd] at h
      by_cases ha : (tget A p).kind = 1
      · rw [if_pos ha] at h; cases h
      · rw [if_neg ha] at h; cases h
    · rw [if_neg hd] at h
      by_cases h2 : tsub H p = tsub A p
      · exact h2
      · rw [if_neg h2] at h
        by_cases h3 : tsub S p = tsub A p
        · rw [if_pos h3] at h; cases h
        · rw [if_neg h3] at h
          by_cases hm : M (tget A p) (tget H p) (tget S p) = true
          · rw [if_pos hm] at h; cases h
          · rw [if_neg hm] at h; cases h
theorem said_sides {A H S : List Et} {p : ByteArray} (h : said M A H S p = 2) : tsub S p = tsub A p := by
  unfold said at h
  by_cases h1 : tsub H p = tsub S p
  · rw [if_pos h1] at h
    by_cases h2 : tsub H p = tsub A p
    · rw [if_pos h2] at h; cases h
    · rw [if_neg h2] at h; cases h
  · rw [if_neg h1] at h
    by_cases hd : (tget H p).kind = 1 ∧ (tget S p).kind = 1
    · rw [if_pos hd] at h
      by_cases ha : (tget A p).kind = 1
      · rw [if_pos ha] at h; cases h
      · rw [if_neg ha] at h; cases h
    · rw [if_neg hd] at h
      by_cases h2 : tsub H p = tsub A p
      · rw [if_pos h2] at h; cases h
      · rw [if_neg h2] at h
        by_cases h3 : tsub S p = tsub A p
        · exact h3
        · rw [if_neg h3] at h
          by_cases hm : M (tget A p) (tget H p) (tget S p) = true
          · rw [if_pos hm] at h; cases h
          · rw [if_neg hm] at h; cases h
theorem said_meets {A H S : List Et} {p : ByteArray} (h : said M A H S p = 4 ∨ said M A H S p = 5) : tsub H p ≠ tsub A p ∧ tsub S p ≠ tsub A p ∧ tsub H p ≠ tsub S p := by
  unfold said at h
  by_cases h1 : tsub H p = tsub S p
  · rw [if_pos h1] at h
    by_cases h2 : tsub H p = tsub A p
    · rw [if_pos h2] at h; rcases h with h | h <;> cases h
    · rw [if_neg h2] at h; rcases h with h | h <;> cases h
  · rw [if_neg h1] at h
    by_cases hd : (tget H p).kind = 1 ∧ (tget S p).kind = 1
    · rw [if_pos hd] at h
      by_cases ha : (tget A p).kind = 1
      · rw [if_pos ha] at h; rcases h with h | h <;> cases h
      · rw [if_neg ha] at h; rcases h with h | h <;> cases h
    · rw [if_neg hd] at h
      by_cases h2 : tsub H p = tsub A p
      · rw [if_pos h2] at h; rcases h with h | h <;> cases h
      · rw [if_neg h2] at h
        by_cases h3 : tsub S p = tsub A p
        · rw [if_pos h3] at h; rcases h with h | h <;> cases h
        · exact ⟨h2, h3, h1⟩
theorem said_five (A H S : List Et) (p : ByteArray) : said M A H S p ≤ 5 := by
  unfold said
  repeat' split
  all_goals omega
theorem tree_path_ne {T : List Et} (h : tcheck T = 0) {x : Et} (hx : x ∈ T) : chk x.path.data.toList 5 = 0 ∧ x.path.data.toList ≠ [] := by
  obtain ⟨i, hi⟩ := List.getElem?_of_mem hx
  have := (tree_at h hi).1
  exact ⟨this, good_ne (ok_of this).2⟩
theorem three_mem {A H S : List Et} {e : Et} : e ∈ A ++ H ++ S ↔ e ∈ A ∨ e ∈ H ∨ e ∈ S := by simp [or_assoc]
theorem Its.path {A H S : List Et} {R : List (ByteArray × Nat)} (h : Its M A H S R) (ha : tcheck A = 0) (hh : tcheck H = 0) (hs : tcheck S = 0) {x : ByteArray × Nat} (hx : x ∈ R) : chk x.1.data.toList 5 = 0 ∧ x.1.data.toList ≠ [] := by
  obtain ⟨⟨e, he, hp⟩, _⟩ := (h.mem x).1 hx
  rw [← hp]
  rcases three_mem.1 he with h1 | h1 | h1
  · exact tree_path_ne ha h1
  · exact tree_path_ne hh h1
  · exact tree_path_ne hs h1
theorem und_two {p a b : List UInt8} (ha : a ≠ []) (hb : b ≠ []) (h1 : und p a = true) (h2 : und p b = true) : a = b ∨ (∃ r, b = a ++ 47 :: r) ∨ ∃ r, a = b ++ 47 :: r := by
  rcases (und_forms ha).1 h1 with rfl | ⟨r, hr⟩
  · rcases (und_forms hb).1 h2 with h3 | ⟨s, hs⟩
    · exact .inl h3
    · exact .inr (.inr ⟨s, hs⟩)
  · rcases (und_forms hb).1 h2 with rfl | ⟨s, hs⟩
    · exact .inr (.inl ⟨r, hr⟩)
    · rw [hr] at hs
      rcases List.append_eq_append_iff.1 hs with ⟨c, h3, h4⟩ | ⟨c, h3, h4⟩
      · cases c with
        | nil => exact .inl (by rw [h3]; simp)
        | cons u c =>
          rw [List.cons_append] at h4
          injection h4 with h4 h5
          exact .inr (.inl ⟨c, by rw [h3, ← h4]⟩)
      · cases c with
        | nil => exact .inl (by rw [h3]; simp)
        | cons u c =>
          rw [List.cons_append] at h4
          injection h4 with h4 h5
          exact .inr (.inr ⟨c, by rw [h3, ← h4]⟩)
theorem loud_one {A H S : List Et} {R : List (ByteArray × Nat)} (h : Its M A H S R) (ha : tcheck A = 0) (hh : tcheck H = 0) (hs : tcheck S = 0) {p : List UInt8} {x y : ByteArray × Nat} (hx : x ∈ R) (hy : y ∈ R)
    (lx : x.2 ≠ 1) (ly : y.2 ≠ 1) (ux : und p x.1.data.toList = true) (uy : und p y.1.data.toList = true) : x = y := by
  have nx := (h.path ha hh hs hx).2
  have ny := (h.path ha hh hs hy).2
  obtain ⟨_, ox, sx, zx⟩ := (h.mem x).1 hx
  obtain ⟨_, oy, sy, zy⟩ := (h.mem y).1 hy
  rcases und_two nx ny ux uy with e | ⟨r, e⟩ | ⟨r, e⟩
  · have e1 : x.1 = y.1 := path_list.2 e
    refine Prod.ext e1 ?_
    rw [sx, sy, e1]
  · obtain ⟨h1, h2, h3⟩ := oy _ r nx e
    rw [tb_of] at h1 h2 h3
    exact absurd ⟨by rw [← sx]; exact zx, by rw [← sx]; exact lx⟩ (said_quiet (M := M) (A := A) (.inr ⟨h1, h2⟩))
  · obtain ⟨h1, h2, h3⟩ := ox _ r ny e
    rw [tb_of] at h1 h2 h3
    exact absurd ⟨by rw [← sy]; exact zy, by rw [← sy]; exact ly⟩ (said_quiet (M := M) (A := A) (.inr ⟨h1, h2⟩))
theorem loud_at {A H S : List Et} {R : List (ByteArray × Nat)} (h : Its M A H S R) (hh : tcheck H = 0) (hs : tcheck S = 0) : ∀ (n : Nat) (p : ByteArray), p.data.toList.length ≤ n → tsub H p ≠ tsub S p → (∃ e, e ∈ A ++ H ++ S ∧ e.path = p) → ((tget H p).kind ≠ 0 ∨ (tget S p).kind ≠ 0) → p.data.toList ≠ [] →
    (∃ x, x ∈ R ∧ x.2 ≠ 1 ∧ und p.data.toList x.1.data.toList = true) ∨ Opn H S p.data.toList ∧ (tget H p).kind = 1 ∧ (tget S p).kind = 1 := by
  intro n
  induction n with
  | zero =>
    intro p hn _ _ _ hne
    exact absurd (List.length_eq_zero_iff.1 (by omega)) hne
  | succ n ih =>
    intro p hn hu he hk hne
    have fin : Opn H S p.data.toList → (∃ x, x ∈ R ∧ x.2 ≠ 1 ∧ und p.data.toList x.1.data.toList = true) ∨ Opn H S p.data.toList ∧ (tget H p).kind = 1 ∧ (tget S p).kind = 1 := by
      intro ho
      by_cases hd : (tget H p).kind = 1 ∧ (tget S p).kind = 1
      · exact .inr ⟨ho, hd⟩
      · obtain ⟨l0, l1⟩ := said_loud (M := M) (A := A) hu hd
        exact .inl ⟨(p, said M A H S p), (h.mem _).2 ⟨he, ho, rfl, l0⟩, l1, und_self _⟩
    by_cases hp : par p.data.toList = []
    · exact fin (opn_top hp)
    · have hb : p.data.toList = par p.data.toList ++ 47 :: bas p.data.toList := (par_bas p.data.toList).resolve_left fun hh => hp hh.2.1
      have hup : und p.data.toList (tb (par p.data.toList)).data.toList = true := by rw [tb_list]; exact und_par _
      have hlen : (tb (par p.data.toList)).data.toList.length ≤ n := by
        rw [tb_list]
        have := congrArg List.length hb
        rw [List.length_append, List.length_cons] at this
        omega
      have hu2 : tsub H (tb (par p.data.toList)) ≠ tsub S (tb (par p.data.toList)) := fun e => hu (same_sub hup e)
      have hin : ∀ {T : List Et}, tcheck T = 0 → (tget T p).kind ≠ 0 → (tget T (tb (par p.data.toList))).kind = 1 := by
        intro T hT hz
        obtain ⟨z, hz1, hz2⟩ := List.mem_map.1 ((tree_path_mem hT p).2 hz)
        obtain ⟨i, hi⟩ := List.getElem?_of_mem hz1
        have := tree_par hT hi (by rw [hz2]; exact hp)
        rwa [hz2] at this
      have hk2 : (tget H (tb (par p.data.toList))).kind ≠ 0 ∨ (tget S (tb (par p.data.toList))).kind ≠ 0 := hk.imp (fun h => by rw [hin hh h]; decide) (fun h => by rw [hin hs h]; decide)
      have he2 : ∃ e, e ∈ A ++ H ++ S ∧ e.path = tb (par p.data.toList) := by
        rcases hk2 with h1 | h1
        · obtain ⟨z, hz1, hz2⟩ := List.mem_map.1 ((tree_path_mem hh _).2 h1)
          exact ⟨z, three_mem.2 (.inr (.inl hz1)), hz2⟩
        · obtain ⟨z, hz1, hz2⟩ := List.mem_map.1 ((tree_path_mem hs _).2 h1)
          exact ⟨z, three_mem.2 (.inr (.inr hz1)), hz2⟩
      rcases ih _ hlen hu2 he2 hk2 (by rw [tb_list]; exact hp) with ⟨x, hx, h1, h2⟩ | ⟨ho, h1, h2⟩
      · exact .inl ⟨x, hx, h1, und_trans hup h2⟩
      · rw [tb_list] at ho
        exact fin ((opn_par hp).2 ⟨ho, h1, h2, hu2⟩)
theorem whole_folder {n : Nd} (h : whole n = true) (hk : n.kind = 1) : n = ⟨1, ⟨#[]⟩⟩ := isdir_kind (whole_dir h hk)
theorem loud_some {A H S : List Et} {R : List (ByteArray × Nat)} (h : Its M A H S R) (hh : tcheck H = 0) (hs : tcheck S = 0) {p : ByteArray} (hu : tget H p ≠ tget S p) : ∃ x, x ∈ R ∧ x.2 ≠ 1 ∧ und p.data.toList x.1.data.toList = true := by
  have hk : (tget H p).kind ≠ 0 ∨ (tget S p).kind ≠ 0 := by
    by_cases h1 : (tget H p).kind = 0
    · refine .inr fun h2 => hu ?_
      have n1 : tget H p = ⟨0, ⟨#[]⟩⟩ := tget_zero fun x hx e => (tree_path_mem hh p).1 (List.mem_map.2 ⟨x, hx, e⟩) h1
      have n2 : tget S p = ⟨0, ⟨#[]⟩⟩ := tget_zero fun x hx e => (tree_path_mem hs p).1 (List.mem_map.2 ⟨x, hx, e⟩) h2
      rw [n1, n2]
    · exact .inl h1
  have he : (∃ e, e ∈ A ++ H ++ S ∧ e.path = p) ∧ p.data.toList ≠ [] := by
    rcases hk with h1 | h1
    · obtain ⟨z, hz1, hz2⟩ := List.mem_map.1 ((tree_path_mem hh _).2 h1)
      exact ⟨⟨z, three_mem.2 (.inr (.inl hz1)), hz2⟩, by rw [← hz2]; exact (tree_path_ne hh hz1).2⟩
    · obtain ⟨z, hz1, hz2⟩ := List.mem_map.1 ((tree_path_mem hs _).2 h1)
      exact ⟨⟨z, three_mem.2 (.inr (.inr hz1)), hz2⟩, by rw [← hz2]; exact (tree_path_ne hs hz1).2⟩
  have hsub : tsub H p ≠ tsub S p := fun e => hu (same_get (und_self _) e)
  rcases loud_at h hh hs _ p (Nat.le_refl _) hsub he.1 hk he.2 with h1 | ⟨_, h1, h2⟩
  · exact h1
  · exact absurd ((whole_folder (tree_get_whole hh p) h1).trans (whole_folder (tree_get_whole hs p) h2).symm) hu
open Classical in
noncomputable def told (R : List (ByteArray × Nat)) (p : ByteArray) : Nat := (R.filter fun x => decide (x.2 ≠ 1 ∧ und p.data.toList x.1.data.toList = true)).length
theorem one_at_most {α : Type} {l : List α} (hn : l.Nodup) (h : ∀ x y, x ∈ l → y ∈ l → x = y) : l.length ≤ 1 := by
  match l, hn, h with
  | [], _, _ => exact Nat.zero_le _
  | [a], _, _ => exact Nat.le_refl _
  | a :: b :: r, hn, h =>
    rw [List.nodup_cons] at hn
    have := h a b (by simp) (by simp)
    exact absurd (by rw [this]; exact List.mem_cons_self ..) hn.1
theorem told_le {A H S : List Et} {R : List (ByteArray × Nat)} (h : Its M A H S R) (ha : tcheck A = 0) (hh : tcheck H = 0) (hs : tcheck S = 0) (p : ByteArray) : told R p ≤ 1 := by
  unfold told
  refine one_at_most (h.nodup.filter _) fun x y hx hy => ?_
  obtain ⟨x1, x2⟩ := List.mem_filter.1 hx
  obtain ⟨y1, y2⟩ := List.mem_filter.1 hy
  exact loud_one h ha hh hs x1 y1 (of_decide_eq_true x2).1 (of_decide_eq_true y2).1 (of_decide_eq_true x2).2 (of_decide_eq_true y2).2
theorem told_one {A H S : List Et} {R : List (ByteArray × Nat)} (h : Its M A H S R) (ha : tcheck A = 0) (hh : tcheck H = 0) (hs : tcheck S = 0) {p : ByteArray} (hu : tget H p ≠ tget S p) : told R p = 1 := by
  have h1 := told_le h ha hh hs p
  obtain ⟨x, hx, h2, h3⟩ := loud_some h hh hs hu
  have h4 : 0 < told R p := List.length_pos_of_mem (List.mem_filter.2 ⟨hx, decide_eq_true ⟨h2, h3⟩⟩)
  omega
theorem one_no {t : List UInt8} (h : chk t 1 = 0) : t ≠ [] ∧ ∀ a b, t ≠ a ++ 47 :: b := by
  obtain ⟨h1, h2⟩ := ok_of h
  refine ⟨good_ne h2, fun a b e => ?_⟩
  rw [e, spl_app, List.length_append] at h1
  have := spl_pos a
  have := spl_pos b
  omega
theorem und_in {t p q r : List UInt8} (ht : chk t 1 = 0) (hp : und p t = true) (e : p = q ++ 47 :: r) : und q t = true := by
  obtain ⟨h0, hn⟩ := one_no ht
  rcases (und_forms h0).1 hp with h1 | ⟨s, h1⟩
  · exact absurd (h1.symm.trans e) (hn _ _)
  · rw [h1] at e
    rcases List.append_eq_append_iff.1 e with ⟨c, h3, h4⟩ | ⟨c, h3, h4⟩
    · cases c with
      | nil => rw [h3, List.append_nil]; exact und_self _
      | cons u c =>
        rw [List.cons_append] at h4
        injection h4 with h4 h5
        rw [h3, ← h4]
        exact und_below _ _
    · cases c with
      | nil => rw [h3, List.append_nil]; exact und_self _
      | cons u c =>
        rw [List.cons_append] at h4
        injection h4 with h4 h5
        rw [← h4] at h3
        exact absurd h3 (hn _ _)
theorem opn_sub {H S : List Et} {t : ByteArray} {p : List UInt8} (ht : chk t.data.toList 1 = 0) (hp : und p t.data.toList = true) : Opn (tsub H t) (tsub S t) p ↔ Opn H S p := by
  constructor
  · intro h q r hq e
    have hu : und (tb q).data.toList t.data.toList = true := by rw [tb_list]; exact und_in ht hp e
    obtain ⟨h1, h2, h3⟩ := h q r hq e
    rw [get_sub hu] at h1 h2
    rw [sub_sub hu, sub_sub hu] at h3
    exact ⟨h1, h2, h3⟩
  · intro h q r hq e
    have hu : und (tb q).data.toList t.data.toList = true := by rw [tb_list]; exact und_in ht hp e
    obtain ⟨h1, h2, h3⟩ := h q r hq e
    rw [get_sub hu, get_sub hu, sub_sub hu, sub_sub hu]
    exact ⟨h1, h2, h3⟩
theorem said_sub {A H S : List Et} {t p : ByteArray} (hp : und p.data.toList t.data.toList = true) : said M (tsub A t) (tsub H t) (tsub S t) p = said M A H S p := by
  unfold said
  rw [get_sub hp, get_sub hp, get_sub hp, sub_sub hp, sub_sub hp, sub_sub hp]
theorem Its.under {A H S : List Et} {R : List (ByteArray × Nat)} (h : Its M A H S R) {t : ByteArray} (ht : chk t.data.toList 1 = 0) : Its M (tsub A t) (tsub H t) (tsub S t) (R.filter fun x => und x.1.data.toList t.data.toList) where
  rise := by
    have := h.rise
    exact this.sublist (List.Sublist.map _ List.filter_sublist)
  mem := by
    intro x
    rw [List.mem_filter]
    constructor
    · rintro ⟨hx, hu⟩
      obtain ⟨⟨e, he, hp⟩, ho, hs, hn⟩ := (h.mem x).1 hx
      refine ⟨⟨e, ?_, hp⟩, (opn_sub ht hu).2 ho, by rw [said_sub hu]; exact hs, hn⟩
      have hue : und e.path.data.toList t.data.toList = true := by rw [hp]; exact hu
      rcases three_mem.1 he with h1 | h1 | h1
      · exact three_mem.2 (.inl (List.mem_filter.2 ⟨h1, hue⟩))
      · exact three_mem.2 (.inr (.inl (List.mem_filter.2 ⟨h1, hue⟩)))
      · exact three_mem.2 (.inr (.inr (List.mem_filter.2 ⟨h1, hue⟩)))
    · rintro ⟨⟨e, he, hp⟩, ho, hs, hn⟩
      have hu : und x.1.data.toList t.data.toList = true := by
        rw [← hp]
        rcases three_mem.1 he with h1 | h1 | h1
        · exact (List.mem_filter.1 h1).2
        · exact (List.mem_filter.1 h1).2
        · exact (List.mem_filter.1 h1).2
      refine ⟨(h.mem x).2 ⟨⟨e, ?_, hp⟩, (opn_sub ht hu).1 ho, by rw [said_sub hu] at hs; exact hs, hn⟩, hu⟩
      rcases three_mem.1 he with h1 | h1 | h1
      · exact three_mem.2 (.inl (List.mem_filter.1 h1).1)
      · exact three_mem.2 (.inr (.inl (List.mem_filter.1 h1).1))
      · exact three_mem.2 (.inr (.inr (List.mem_filter.1 h1).1))
end Go.Proofs.YtkenmldiojeooaaGreat.Rc

namespace Go.Proofs.YtkenmldiojeooaaGreat.Rc
open Go.RowKit Tx Pm Pr En
set_option linter.unusedVariables false
set_option linter.unusedSimpArgs false
variable (M : Nd → Nd → Nd → Bool)
structure ItsOf (A H S : List Et) (D : ByteArray → Prop) (R : List (ByteArray × Nat)) : Prop where
  rise : (R.map (·.1)).Pairwise (fun a b => less a b = true)
  mem : ∀ x, x ∈ R ↔ (D x.1 ∧ (∃ e, e ∈ A ++ H ++ S ∧ e.path = x.1) ∧ Opn H S x.1.data.toList ∧ x.2 = said M A H S x.1 ∧ x.2 ≠ 0)
def AtP (q : ByteArray) (x : ByteArray) : Prop := und x.data.toList q.data.toList = true
def Blw (q : ByteArray) (x : ByteArray) : Prop := und x.data.toList q.data.toList = true ∧ x ≠ q
variable {M}
open Classical in
noncomputable def own (M : Nd → Nd → Nd → Bool) (A H S : List Et) (q : ByteArray) : List (ByteArray × Nat) := if said M A H S q = 0 then [] else [(q, said M A H S q)]
theorem below_form {q x : ByteArray} (hq : q ≠ ⟨#[]⟩) : Blw q x ↔ ∃ r, x.data.toList = q.data.toList ++ 47 :: r := by
  constructor
  · rintro ⟨h1, h2⟩
    exact ((und_forms (list_ne hq)).1 h1).resolve_left fun e => h2 (path_list.2 e)
  · rintro ⟨r, hr⟩
    refine ⟨by rw [hr]; exact und_below _ _, fun e => ?_⟩
    rw [e] at hr
    have := congrArg List.length hr
    simp at this
theorem own_mem {A H S : List Et} {q : ByteArray} {x : ByteArray × Nat} : x ∈ own M A H S q ↔ x.1 = q ∧ x.2 = said M A H S q ∧ x.2 ≠ 0 := by
  unfold own
  by_cases h : said M A H S q = 0
  · rw [if_pos h]
    constructor
    · intro hx; cases hx
    · rintro ⟨_, h2, h3⟩; exact absurd (h2.trans h) h3
  · rw [if_neg h, List.mem_singleton]
    constructor
    · rintro rfl; exact ⟨rfl, rfl, h⟩
    · rintro ⟨h1, h2, _⟩; exact Prod.ext h1 h2
theorem own_rise (A H S : List Et) (q : ByteArray) : ((own M A H S q).map (·.1)).Pairwise (fun a b => less a b = true) := by
  unfold own
  by_cases h : said M A H S q = 0
  · rw [if_pos h]; exact List.Pairwise.nil
  · rw [if_neg h]; simp
theorem at_leaf {A H S : List Et} {q : ByteArray} (hq : q ≠ ⟨#[]⟩) (ho : Opn H S q.data.toList) (hin : ∃ e, e ∈ A ++ H ++ S ∧ e.path = q) (hc : tsub H q = tsub S q ∨ ¬ ((tget H q).kind = 1 ∧ (tget S q).kind = 1)) : ItsOf M A H S (AtP q) (own M A H S q) where
  rise := own_rise A H S q
  mem := by
    intro x
    rw [own_mem]
    constructor
    · rintro ⟨h1, h2, h3⟩
      rw [h1]
      exact ⟨und_self _, hin, ho, h2, h3⟩
    · rintro ⟨hd, _, hox, h2, h3⟩
      have e : x.1 = q := by
        rcases (und_forms (list_ne hq)).1 hd with h4 | ⟨r, hr⟩
        · exact path_list.2 h4
        · obtain ⟨k1, k2, k3⟩ := hox _ r (list_ne hq) hr
          rw [tb_of] at k1 k2 k3
          exact absurd hc (by rintro (h | h); exact k3 h; exact h ⟨k1, k2⟩)
      exact ⟨e, by rw [← e]; exact h2, h3⟩
theorem at_dir {A H S : List Et} {q : ByteArray} {R : List (ByteArray × Nat)} (hq : q ≠ ⟨#[]⟩) (ho : Opn H S q.data.toList) (hin : ∃ e, e ∈ A ++ H ++ S ∧ e.path = q) (hR : ItsOf M A H S (Blw q) R) : ItsOf M A H S (AtP q) (own M A H S q ++ R) where
  rise := by
    rw [List.map_append, List.pairwise_append]
    refine ⟨own_rise A H S q, hR.rise, fun a ha b hb => ?_⟩
    obtain ⟨u, hu, rfl⟩ := List.mem_map.1 ha
    obtain ⟨v, hv, rfl⟩ := List.mem_map.1 hb
    rw [(own_mem.1 hu).1]
    obtain ⟨r, hr⟩ := (below_form hq).1 ((hR.mem v).1 hv).1
    have := less_app q.data.toList r 47
    unfold less
    rw [ByteArray.toList_eq, ByteArray.toList_eq, hr]
    exact this
  mem := by
    intro x
    rw [List.mem_append, own_mem, hR.mem]
    constructor
    · rintro (⟨h1, h2, h3⟩ | ⟨h1, h2⟩)
      · rw [h1]
        exact ⟨und_self _, hin, ho, h2, h3⟩
      · exact ⟨h1.1, h2⟩
    · rintro ⟨hd, h1, h2, h3, h4⟩
      by_cases e : x.1 = q
      · exact .inl ⟨e, by rw [← e]; exact h3, h4⟩
      · exact .inr ⟨⟨hd, e⟩, h1, h2, h3, h4⟩
theorem tree_kid {T : List Et} (h : tcheck T = 0) {p : ByteArray} : ∀ (n : Nat) (x : Et), x ∈ T → x.path.data.toList.length ≤ n → Blw p x.path → ∃ e, e ∈ T ∧ tb (par e.path.data.toList) = p ∧ und x.path.data.toList e.path.data.toList = true := by
  intro n
  induction n with
  | zero =>
    intro x hx hn hb
    exact absurd (List.length_eq_zero_iff.1 (by omega)) (tree_path_ne h hx).2
  | succ n ih =>
    intro x hx hn hb
    by_cases hp : tb (par x.path.data.toList) = p
    · exact ⟨x, hx, hp, und_self _⟩
    · by_cases hp0 : par x.path.data.toList = []
      · -- at the top: what it stands below is nothing
        have hpe : p ≠ ⟨#[]⟩ := fun e => hp (by rw [hp0, e]; rfl)
        obtain ⟨r, hr⟩ := (below_form hpe).1 hb
        rcases par_below hr with h1 | ⟨a, h1⟩
        · exact absurd (h1.symm.trans hp0) (list_ne hpe)
        · rw [hp0] at h1
          exact absurd h1.symm (by simp)
      · obtain ⟨i, hi⟩ := List.getElem?_of_mem hx
        have hk := tree_par h hi hp0
        obtain ⟨z, hz, hzp⟩ := List.mem_map.1 ((tree_path_mem h (tb (par x.path.data.toList))).2 (by rw [hk]; decide))
        have hcut : x.path.data.toList = par x.path.data.toList ++ 47 :: bas x.path.data.toList := (par_bas x.path.data.toList).resolve_left fun hh => hp0 hh.2.1
        have hlen := congrArg List.length hcut
        rw [List.length_append, List.length_cons] at hlen
        have hzl : z.path.data.toList = par x.path.data.toList := by rw [hzp, tb_list]
        have hbz : Blw p z.path := by
          refine ⟨?_, fun e => hp (by rw [← hzp]; exact e)⟩
          by_cases hpe : p = ⟨#[]⟩
          · rw [hpe]; exact und_nil _
          · obtain ⟨r, hr⟩ := (below_form hpe).1 hb
            rw [hzl]
            rcases par_below hr with h1 | ⟨a, h1⟩
            · rw [h1]; exact und_self _
            · rw [h1]; exact und_below _ _
        obtain ⟨e, he, h1, h2⟩ := ih z hz (by rw [hzl]; omega) hbz
        refine ⟨e, he, h1, und_trans ?_ h2⟩
        rw [hzl]
        exact und_par _
theorem kid_below {p q : ByteArray} (hq : q ≠ ⟨#[]⟩) (h : tb (par q.data.toList) = p) : Blw p q := by
  refine ⟨by rw [← h, tb_list]; exact und_par _, fun e => ?_⟩
  have he : par q.data.toList = q.data.toList := by
    have := congrArg (fun z : ByteArray => z.data.toList) h
    simp only [tb_list] at this
    rw [this, ← e]
  rcases par_bas q.data.toList with ⟨_, h2, _⟩ | h2
  · exact list_ne hq (he.symm.trans h2)
  · have h4 := congrArg List.length h2
    rw [List.length_append, List.length_cons, he] at h4
    omega
theorem kid_apart {p q s : ByteArray} {r : List UInt8} (hq : q ≠ ⟨#[]⟩) (h1 : tb (par q.data.toList) = p) (h2 : tb (par s.data.toList) = p) (h : s.data.toList = q.data.toList ++ 47 :: r) : False := by
  have hb : q.data.toList.length ≤ (par s.data.toList).length := by
    rcases par_below h with h3 | ⟨a, h3⟩
    · rw [h3]; exact Nat.le_refl _
    · rw [h3]; simp
  have he : par q.data.toList = par s.data.toList := by rw [← tb_list (par q.data.toList), ← tb_list (par s.data.toList), h1, h2]
  rw [← he] at hb
  rcases par_bas q.data.toList with ⟨_, h3, _⟩ | h3
  · rw [h3] at hb
    exact list_ne hq (List.length_eq_zero_iff.1 (by simpa using hb))
  · have h4 := congrArg List.length h3
    rw [List.length_append, List.length_cons] at h4
    omega
theorem kid_less {p q s x y : ByteArray} (hq : q ≠ ⟨#[]⟩) (hs : s ≠ ⟨#[]⟩) (h1 : tb (par q.data.toList) = p) (h2 : tb (par s.data.toList) = p) (hl : less q s = true) (hx : und x.data.toList q.data.toList = true) (hy : und y.data.toList s.data.toList = true) (gy : good y.data.toList) : less x y = true := by
  have hsy : less y s = false := by
    rcases (und_forms (list_ne hs)).1 hy with e | ⟨r, e⟩
    · rw [path_list.2 e]; exact lt_irr _
    · refine lt_asymm ?_
      have := less_app s.data.toList r 47
      unfold less
      rw [ByteArray.toList_eq, ByteArray.toList_eq, e]
      exact this
  have hqy : less q y = true := by
    by_cases e : s = y
    · rw [← e]; exact hl
    · exact lt_trans hl (lt_le hsy e)
  rcases (und_forms (list_ne hq)).1 hx with e | ⟨b, e⟩
  · rw [path_list.2 e]; exact hqy
  · have hn : und y.data.toList q.data.toList = false := by
      cases hc : und y.data.toList q.data.toList with
      | false => rfl
      | true =>
        exfalso
        rcases und_two (list_ne hq) (list_ne hs) hc hy with e1 | ⟨r, e1⟩ | ⟨r, e1⟩
        · rw [path_list.2 e1, lt_irr] at hl; cases hl
        · exact kid_apart hq h1 h2 e1
        · exact kid_apart hs h2 h1 e1
    rcases order (b := b) gy hn with h3 | ⟨h3, h4⟩
    · have : less y q = true := by
        unfold less
        rw [ByteArray.toList_eq, ByteArray.toList_eq]
        exact h3
      rw [lt_asymm hqy] at this
      cases this
    · rw [← e] at h3 h4
      refine lt_le ?_ (fun e2 => h4 (by rw [e2]))
      unfold less
      rw [ByteArray.toList_eq, ByteArray.toList_eq]
      exact h3
theorem below_kids {A H S : List Et} (ha : tcheck A = 0) (hh : tcheck H = 0) (hs : tcheck S = 0) {p : ByteArray} {K : List ByteArray} {f : ByteArray → List (ByteArray × Nat)}
    (hK : K.Pairwise (fun a b => less a b = true)) (hm : ∀ q, q ∈ K ↔ ∃ e, e ∈ A ++ H ++ S ∧ e.path = q ∧ tb (par q.data.toList) = p) (hf : ∀ q, q ∈ K → ItsOf M A H S (AtP q) (f q)) : ItsOf M A H S (Blw p) (K.flatMap f) := by
  have hpath : ∀ e, e ∈ A ++ H ++ S → chk e.path.data.toList 5 = 0 ∧ e.path.data.toList ≠ [] := by
    intro e he
    rcases three_mem.1 he with h1 | h1 | h1
    · exact tree_path_ne ha h1
    · exact tree_path_ne hh h1
    · exact tree_path_ne hs h1
  have hkne : ∀ q, q ∈ K → q ≠ ⟨#[]⟩ := by
    intro q hq e
    obtain ⟨z, hz, hzp, _⟩ := (hm q).1 hq
    exact (hpath z hz).2 (by rw [hzp, e])
  have hkpar : ∀ q, q ∈ K → tb (par q.data.toList) = p := fun q hq => by
    obtain ⟨_, _, _, h⟩ := (hm q).1 hq
    exact h
  refine ⟨?_, fun x => ?_⟩
  · have : ∀ L : List ByteArray, L.Pairwise (fun a b => less a b = true) → (∀ q, q ∈ L → q ∈ K) → ((L.flatMap f).map (·.1)).Pairwise (fun a b => less a b = true) := by
      intro L
      induction L with
      | nil => intro _ _; exact List.Pairwise.nil
      | cons q L ih =>
        intro hL hsub
        rw [List.pairwise_cons] at hL
        have hqK := hsub q (List.mem_cons_self ..)
        rw [List.flatMap_cons, List.map_append, List.pairwise_append]
        refine ⟨(hf q hqK).rise, ih hL.2 (fun z hz => hsub z (List.mem_cons_of_mem _ hz)), fun a ha2 b hb2 => ?_⟩
        obtain ⟨u, hu, rfl⟩ := List.mem_map.1 ha2
        obtain ⟨v, hv, rfl⟩ := List.mem_map.1 hb2
        obtain ⟨s, hs2, hv⟩ := List.mem_flatMap.1 hv
        have hsK := hsub s (List.mem_cons_of_mem _ hs2)
        obtain ⟨hu1, _⟩ := ((hf q hqK).mem u).1 hu
        obtain ⟨hv1, ⟨e, he, hep⟩, _⟩ := ((hf s hsK).mem v).1 hv
        exact kid_less (hkne q hqK) (hkne s hsK) (hkpar q hqK) (hkpar s hsK) (hL.1 s hs2) hu1 hv1 (by rw [← hep]; exact (ok_of (hpath e he).1).2)
    exact this K hK fun q hq => hq
  · rw [List.mem_flatMap]
    constructor
    · rintro ⟨q, hq, hx⟩
      obtain ⟨h1, h2⟩ := ((hf q hq).mem x).1 hx
      refine ⟨⟨und_trans h1 (kid_below (hkne q hq) (hkpar q hq)).1, fun e => ?_⟩, h2⟩
      obtain ⟨k1, k2⟩ := kid_below (hkne q hq) (hkpar q hq)
      rw [e] at h1
      by_cases hp0 : p = ⟨#[]⟩
      · obtain ⟨z, hz, hzp⟩ := h2.1
        exact (hpath z hz).2 (by rw [hzp, e, hp0])
      · obtain ⟨r, hr⟩ := (below_form hp0).1 ⟨k1, k2⟩
        rcases (und_forms (list_ne (hkne q hq))).1 h1 with h3 | ⟨s, h3⟩
        · exact k2 (path_list.2 h3).symm
        · have h4 := congrArg List.length hr
          have h5 := congrArg List.length h3
          rw [List.length_append, List.length_cons] at h4 h5
          omega
    · rintro ⟨hb, ⟨e, he, hep⟩, h2⟩
      have hkid : ∃ z, z ∈ A ++ H ++ S ∧ tb (par z.path.data.toList) = p ∧ und x.1.data.toList z.path.data.toList = true := by
        rw [← hep] at hb ⊢
        rcases three_mem.1 he with h1 | h1 | h1
        · obtain ⟨z, hz, r⟩ := tree_kid ha _ e h1 (Nat.le_refl _) hb
          exact ⟨z, three_mem.2 (.inl hz), r⟩
        · obtain ⟨z, hz, r⟩ := tree_kid hh _ e h1 (Nat.le_refl _) hb
          exact ⟨z, three_mem.2 (.inr (.inl hz)), r⟩
        · obtain ⟨z, hz, r⟩ := tree_kid hs _ e h1 (Nat.le_refl _) hb
          exact ⟨z, three_mem.2 (.inr (.inr hz)), r⟩
      obtain ⟨z, hz, hzp, hzu⟩ := hkid
      have hzK := (hm z.path).2 ⟨z, hz, rfl, hzp⟩
      exact ⟨z.path, hzK, ((hf _ hzK).mem x).2 ⟨hzu, ⟨e, he, hep⟩, h2⟩⟩
theorem all_below {A H S : List Et} (ha : tcheck A = 0) (hh : tcheck H = 0) (hs : tcheck S = 0) {R : List (ByteArray × Nat)} (h : ItsOf M A H S (Blw ⟨#[]⟩) R) : Its M A H S R where
  rise := h.rise
  mem := by
    intro x
    rw [h.mem]
    constructor
    · rintro ⟨_, h2⟩; exact h2
    · intro h2
      refine ⟨⟨und_nil _, fun e => ?_⟩, h2⟩
      obtain ⟨⟨z, hz, hzp⟩, _⟩ := h2
      have : z.path.data.toList ≠ [] := by
        rcases three_mem.1 hz with h1 | h1 | h1
        · exact (tree_path_ne ha h1).2
        · exact (tree_path_ne hh h1).2
        · exact (tree_path_ne hs h1).2
      exact this (by rw [hzp, e])
end Go.Proofs.YtkenmldiojeooaaGreat.Rc

namespace Go.Proofs.YtkenmldiojeooaaGreat.Rc
open Go.RowKit Tx Pm Pr En
set_option linter.unusedVariables false
set_option linter.unusedSimpArgs false
variable (M : Nd → Nd → Nd → Bool)
def Fresh (all : List Et) (i : Nat) (x : Et) : Prop := i = 0 ∨ ∀ y, all[i - 1]? = some y → y.path ≠ x.path
open Classical in
noncomputable def itAt (A H S all : List Et) (i : Nat) : List (ByteArray × Nat) := match all[i]? with
  | none => []
  | some x => if Fresh all i x ∧ Opn H S x.path.data.toList ∧ said M A H S x.path ≠ 0 then [(x.path, said M A H S x.path)] else []
noncomputable def itsK (A H S all : List Et) (k : Nat) : List (ByteArray × Nat) := (List.range k).flatMap (itAt M A H S all)
noncomputable def items (A H S : List Et) : List (ByteArray × Nat) := itsK M A H S (tsort (A ++ H ++ S)) (A.length + H.length + S.length)
variable {M}
theorem itsK_succ (A H S all : List Et) (k : Nat) : itsK M A H S all (k + 1) = itsK M A H S all k ++ itAt M A H S all k := by
  rw [itsK, List.range_succ, List.flatMap_append]
  simp [itsK]
theorem itAt_yes {A H S all : List Et} {i : Nat} {x : Et} (h : all[i]? = some x) (hf : Fresh all i x) (ho : Opn H S x.path.data.toList) (hs : said M A H S x.path ≠ 0) : itAt M A H S all i = [(x.path, said M A H S x.path)] := by
  rw [itAt, h]
  exact if_pos ⟨hf, ho, hs⟩
theorem itAt_no {A H S all : List Et} {i : Nat} {x : Et} (h : all[i]? = some x) (hn : ¬ (Fresh all i x ∧ Opn H S x.path.data.toList ∧ said M A H S x.path ≠ 0)) : itAt M A H S all i = [] := by
  rw [itAt, h]
  exact if_neg hn
theorem itAt_len (A H S all : List Et) (i : Nat) : (itAt M A H S all i).length ≤ 1 := by
  unfold itAt
  split
  · exact Nat.zero_le _
  · split
    · exact Nat.le_refl _
    · exact Nat.zero_le _
theorem itsK_len (A H S all : List Et) : ∀ k, (itsK M A H S all k).length ≤ k
  | 0 => Nat.le_refl _
  | k + 1 => by
    have := itsK_len A H S all k
    have := itAt_len (M := M) A H S all k
    rw [itsK_succ, List.length_append]
    omega
theorem itsK_inv (A H S all : List Et) (hs : Sorted all) : ∀ k, k ≤ all.length →
    ((itsK M A H S all k).map (·.1)).Pairwise (fun a b => less a b = true) ∧
    (∀ p ∈ itsK M A H S all k, ∃ i x, i < k ∧ all[i]? = some x ∧ x.path = p.1 ∧ Opn H S x.path.data.toList ∧ p.2 = said M A H S x.path ∧ p.2 ≠ 0) ∧
    (∀ i x, i < k → all[i]? = some x → Opn H S x.path.data.toList → said M A H S x.path ≠ 0 → (x.path, said M A H S x.path) ∈ itsK M A H S all k)
  | 0, _ => ⟨List.Pairwise.nil, fun p hp => (by cases hp), fun i x hi => absurd hi (by omega)⟩
  | k + 1, hk => by
    obtain ⟨h1, h2, h3⟩ := itsK_inv A H S all hs k (by omega)
    obtain ⟨x, hx⟩ : ∃ x, all[k]? = some x := ⟨_, List.getElem?_eq_getElem (by omega)⟩
    rw [itsK_succ]
    by_cases ht : Fresh all k x ∧ Opn H S x.path.data.toList ∧ said M A H S x.path ≠ 0
    · obtain ⟨hfresh, ho, hd⟩ := ht
      rw [itAt_yes hx hfresh ho hd]
      refine ⟨?_, fun p hp => ?_, fun i y hi hy hoy hdy => ?_⟩
      · rw [List.map_append, List.pairwise_append]
        refine ⟨h1, by simp, fun p hp q hq => ?_⟩
        obtain ⟨u, hu, rfl⟩ := List.mem_map.1 hp
        rw [List.map_singleton, List.mem_singleton] at hq
        subst hq
        obtain ⟨i, y, hi, hy, hyp, _⟩ := h2 u hu
        have hle := sorted_at hs hy hx (by omega)
        rw [hyp] at hle
        refine lt_le hle (fun e => ?_)
        rcases hfresh with h0 | hfr
        · omega
        · obtain ⟨z, hz⟩ : ∃ z, all[k - 1]? = some z := ⟨_, List.getElem?_eq_getElem (by omega)⟩
          have a1 := sorted_at hs hy hz (by omega)
          have a2 := sorted_at hs hz hx (by omega)
          rw [hyp, e] at a1
          exact hfr z hz (lt_tri a1 a2)
      · rcases List.mem_append.1 hp with hp | hp
        · obtain ⟨i, y, hi, r⟩ := h2 p hp
          exact ⟨i, y, by omega, r⟩
        · rw [List.mem_singleton.1 hp]
          exact ⟨k, x, by omega, hx, rfl, ho, rfl, hd⟩
      · by_cases e : i = k
        · subst e
          rw [hx] at hy
          injection hy with hy
          rw [← hy]
          simp
        · exact List.mem_append.2 (.inl (h3 i y (by omega) hy hoy hdy))
    · rw [itAt_no hx ht, List.append_nil]
      refine ⟨h1, fun p hp => ?_, fun i y hi hy hoy hdy => ?_⟩
      · obtain ⟨i, y, hi, r⟩ := h2 p hp
        exact ⟨i, y, by omega, r⟩
      · by_cases e : i = k
        · subst e
          rw [hx] at hy
          injection hy with hy
          subst hy
          have hnf : ¬ Fresh all i x := fun hf => ht ⟨hf, hoy, hdy⟩
          have h0 : i ≠ 0 := fun h => hnf (.inl h)
          obtain ⟨z, hz⟩ : ∃ z, all[i - 1]? = some z := ⟨_, List.getElem?_eq_getElem (by omega)⟩
          have hzp : z.path = x.path := Decidable.byContradiction (fun hne => hnf (.inr fun y hy => by
            rw [hz] at hy
            injection hy with hy
            rw [← hy]
            exact hne))
          have := h3 (i - 1) z (by omega) hz (by rw [hzp]; exact hoy) (by rw [hzp]; exact hdy)
          rw [hzp] at this
          exact this
        · exact h3 i y (by omega) hy hoy hdy
theorem items_its (A H S : List Et) : Its M A H S (items M A H S) := by
  have hs := tsort_sorted (A ++ H ++ S)
  have hlen : (tsort (A ++ H ++ S)).length = A.length + H.length + S.length := by rw [tsort_len, List.length_append, List.length_append]
  obtain ⟨h1, h2, h3⟩ := itsK_inv (M := M) A H S (tsort (A ++ H ++ S)) hs (A.length + H.length + S.length) (by omega)
  refine ⟨h1, fun x => ⟨fun hx => ?_, fun hx => ?_⟩⟩
  · obtain ⟨i, y, _, hy, hyp, ho, hs, hn⟩ := h2 x hx
    rw [hyp] at ho hs
    exact ⟨⟨y, mem_tsort (List.mem_of_getElem? hy), hyp⟩, ho, hs, hn⟩
  · obtain ⟨⟨e, he, hp⟩, ho, hs, hn⟩ := hx
    obtain ⟨i, hi⟩ := List.getElem?_of_mem (tsort_mem he)
    have := h3 i e (by have := (List.getElem?_eq_some_iff.1 hi).1; omega) hi (by rw [hp]; exact ho) (by rw [hp, ← hs]; exact hn)
    rw [hp, ← hs] at this
    exact this
theorem items_len (A H S : List Et) : (items M A H S).length ≤ A.length + H.length + S.length := itsK_len A H S _ _
end Go.Proofs.YtkenmldiojeooaaGreat.Rc

namespace Go.Proofs.YtkenmldiojeooaaGreat.Rc
open Go.RowKit Tx Pm Pr En
set_option linter.unusedVariables false
set_option linter.unusedSimpArgs false
theorem good_short5 {l : List UInt8} (h : good l) : l.length + 1 ≤ 13 * (spl l).length := by
  have key : ∀ l : List UInt8, l.length + 1 = ((spl l).map List.length).sum + (spl l).length := by
    intro l
    induction l with
    | nil => rfl
    | cons c r ih =>
      rw [spl]
      split
      · rw [List.map_cons, List.sum_cons, List.length_cons, List.length_cons]
        simp only [List.length_nil]
        omega
      · split
        · rename_i e
          exact absurd e (spl_ne r)
        · rename_i x xs e
          rw [e] at ih
          simp only [List.map_cons, List.sum_cons, List.length_cons] at ih ⊢
          omega
  have sum : ∀ m : List (List UInt8), m.all isName = true → (m.map List.length).sum ≤ 12 * m.length := by
    intro m
    induction m with
    | nil => intro _; exact Nat.zero_le _
    | cons x m ih =>
      intro hm
      rw [List.all_cons, Bool.and_eq_true] at hm
      have h1 := ih hm.2
      have h2 : x.length ≤ 12 := by
        have := hm.1
        unfold isName at this
        simp only [Bool.and_eq_true, decide_eq_true_eq] at this
        exact this.1.2
      rw [List.map_cons, List.sum_cons, List.length_cons]
      omega
  have h1 := key l
  have h2 := sum _ h
  omega
theorem chk_len5 {l : List UInt8} (h : chk l 5 = 0) : l.length ≤ 1000 := by
  obtain ⟨a1, a2⟩ := ok_of h
  have := good_short5 a2
  omega
theorem path_len5 {p : ByteArray} (h : chk p.data.toList 5 = 0) : p.size ≤ 1000 := by
  have := chk_len5 h
  rwa [len_l] at this
end Go.Proofs.YtkenmldiojeooaaGreat.Rc

namespace Go.Proofs.YtkenmldiojeooaaGreat.Rc
open Go.RowKit Tx Pm Pr En
set_option linter.unusedVariables false
set_option linter.unusedSimpArgs false
variable {M : Nd → Nd → Nd → Bool}
theorem ItsOf.one {A H S : List Et} {D : ByteArray → Prop} {R R2 : List (ByteArray × Nat)} (h : ItsOf M A H S D R) (h2 : ItsOf M A H S D R2) : R = R2 :=
  pairs_ext h.rise h2.rise (fun x => (h.mem x).trans (h2.mem x).symm) (fun x y hx hy e => by
    have h3 := ((h.mem x).1 hx).2.2.2.1
    have h4 := ((h.mem y).1 hy).2.2.2.1
    rw [e] at h3
    exact Prod.ext e (h3.trans h4.symm))
open Classical in
noncomputable def itsD (M : Nd → Nd → Nd → Bool) (A H S : List Et) (D : ByteArray → Prop) : List (ByteArray × Nat) := (items M A H S).filter (fun x => decide (D x.1))
open Classical in
theorem itsD_of (A H S : List Et) (D : ByteArray → Prop) : ItsOf M A H S D (itsD M A H S D) where
  rise := (items_its (M := M) A H S).rise.sublist (List.Sublist.map _ List.filter_sublist)
  mem := by
    intro x
    rw [itsD, List.mem_filter, (items_its (M := M) A H S).mem]
    constructor
    · rintro ⟨h1, h2⟩; exact ⟨of_decide_eq_true h2, h1⟩
    · rintro ⟨h1, h2⟩; exact ⟨h2, decide_eq_true h1⟩
open Classical in
theorem itsD_len (A H S : List Et) (D : ByteArray → Prop) : (itsD M A H S D).length ≤ A.length + H.length + S.length := Nat.le_trans (List.length_filter_le _ _) (items_len A H S)
theorem itsD_all {A H S : List Et} (ha : tcheck A = 0) (hh : tcheck H = 0) (hs : tcheck S = 0) : itsD M A H S (Blw ⟨#[]⟩) = items M A H S := (all_below ha hh hs (itsD_of A H S _)).one (items_its A H S)
theorem sub_nil (T : List Et) : tsub T ⟨#[]⟩ = T := List.filter_eq_self.2 (fun x _ => und_nil _)
theorem part_get (T : List Et) (q : ByteArray) : tget (tsub T q) q = tget T q := get_sub (und_self _)
theorem sub_rise {T : List Et} (h : Rise T) (q : ByteArray) : Rise (tsub T q) := List.Pairwise.sublist (List.Sublist.map _ List.filter_sublist) h
theorem tree_len {T : List Et} (h : tcheck T = 0) : T.length ≤ 200 := by
  unfold tcheck at h
  by_cases hc : 200 < T.length
  · rw [if_pos hc] at h; cases h
  · omega
theorem tree_size {T : List Et} (h : tcheck T = 0) {x : Et} (hx : x ∈ T) : x.path.size ≤ 1000 := path_len5 (tree_path_ne h hx).1
theorem opn_kid {H S : List Et} {q top : ByteArray} (h : tb (par q.data.toList) = top) (hO : top = ⟨#[]⟩ ∨ Opn H S top.data.toList ∧ (tget H top).kind = 1 ∧ (tget S top).kind = 1 ∧ tsub H top ≠ tsub S top) : Opn H S q.data.toList := by
  by_cases hp : par q.data.toList = []
  · exact opn_top hp
  · refine (opn_par hp).2 ?_
    rw [h, show par q.data.toList = top.data.toList by rw [← h, tb_list]]
    refine hO.resolve_left fun e => hp ?_
    rw [← tb_list (par q.data.toList), h, e]
theorem up_step {top p : ByteArray} (hp : p ≠ ⟨#[]⟩) (hb : Blw top p) (hne : tb (par p.data.toList) ≠ top) : Blw top (tb (par p.data.toList)) ∧ par p.data.toList ≠ [] ∧ (tb (par p.data.toList)).size < p.size := by
  have hp0 : par p.data.toList ≠ [] := by
    intro e
    by_cases ht : top = ⟨#[]⟩
    · exact hne (by rw [e, ht]; rfl)
    · obtain ⟨r, hr⟩ := (below_form ht).1 hb
      rcases par_below hr with h1 | ⟨a, h1⟩
      · exact list_ne ht (h1.symm.trans e)
      · rw [e] at h1; exact absurd h1.symm (by simp)
  have hcut : p.data.toList = par p.data.toList ++ 47 :: bas p.data.toList := (par_bas p.data.toList).resolve_left fun hh => hp0 hh.2.1
  have hlen := congrArg List.length hcut
  rw [List.length_append, List.length_cons] at hlen
  refine ⟨⟨?_, hne⟩, hp0, by rw [← len_l, ← len_l, tb_list]; omega⟩
  rw [tb_list]
  by_cases ht : top = ⟨#[]⟩
  · rw [ht]; exact Rc.und_nil _
  · obtain ⟨r, hr⟩ := (below_form ht).1 hb
    rcases par_below hr with h1 | ⟨a, h1⟩
    · rw [h1]; exact und_self _
    · rw [h1]; exact und_below _ _
theorem up_und {x p : ByteArray} (h : und x.data.toList p.data.toList = true) : und x.data.toList (tb (par p.data.toList)).data.toList = true := und_trans h (by rw [tb_list]; exact und_par _)
def Right (top x q : ByteArray) : Prop := q ≠ ⟨#[]⟩ ∧ tb (par q.data.toList) = top ∧ und x.data.toList q.data.toList = true
theorem right_one {top x q r : ByteArray} (h : Right top x q) (h2 : Right top x r) : q = r := by
  rcases und_two (list_ne h.1) (list_ne h2.1) h.2.2 h2.2.2 with e1 | ⟨s, e1⟩ | ⟨s, e1⟩
  · exact path_list.2 e1
  · exact (kid_apart h.1 h.2.1 h2.2.1 e1).elim
  · exact (kid_apart h2.1 h2.2.1 h.2.1 e1).elim
theorem right_tree {T : List Et} (h : tcheck T = 0) {top q : ByteArray} {x : Et} (hx : x ∈ T) (hb : Blw top x.path) (hr : Right top x.path q) : ∃ e, e ∈ T ∧ e.path = q := by
  obtain ⟨e, he, h1, h2⟩ := tree_kid h _ x hx (Nat.le_refl _) hb
  have hne : e.path ≠ ⟨#[]⟩ := fun e2 => (tree_path_ne h he).2 (by rw [e2])
  exact ⟨e, he, right_one ⟨hne, h1, h2⟩ hr⟩
theorem kids_mem {A H S : List Et} (ha : tcheck A = 0) (hh : tcheck H = 0) (hs : tcheck S = 0) {top : ByteArray} {ps : List ByteArray}
    (h1 : ∀ q, q ∈ ps → ∃ x, x ∈ tsub A top ++ tsub H top ++ tsub S top ∧ x.path ≠ top ∧ Right top x.path q)
    (h2 : ∀ x, x ∈ tsub A top ++ tsub H top ++ tsub S top → x.path ≠ top → ∃ q, q ∈ ps ∧ Right top x.path q) :
    ∀ q, q ∈ ps ↔ ∃ e, e ∈ A ++ H ++ S ∧ e.path = q ∧ tb (par q.data.toList) = top := by
  intro q
  constructor
  · intro hq
    obtain ⟨x, hx, hne, hr⟩ := h1 q hq
    rcases three_mem.1 hx with h3 | h3 | h3
    · obtain ⟨k1, k2⟩ := List.mem_filter.1 h3
      obtain ⟨e, he, hp⟩ := right_tree ha k1 ⟨k2, hne⟩ hr
      exact ⟨e, three_mem.2 (.inl he), hp, hr.2.1⟩
    · obtain ⟨k1, k2⟩ := List.mem_filter.1 h3
      obtain ⟨e, he, hp⟩ := right_tree hh k1 ⟨k2, hne⟩ hr
      exact ⟨e, three_mem.2 (.inr (.inl he)), hp, hr.2.1⟩
    · obtain ⟨k1, k2⟩ := List.mem_filter.1 h3
      obtain ⟨e, he, hp⟩ := right_tree hs k1 ⟨k2, hne⟩ hr
      exact ⟨e, three_mem.2 (.inr (.inr he)), hp, hr.2.1⟩
  · rintro ⟨e, he, rfl, hp⟩
    have hne : e.path ≠ ⟨#[]⟩ := by
      intro e2
      rcases three_mem.1 he with h3 | h3 | h3
      · exact (tree_path_ne ha h3).2 (by rw [e2])
      · exact (tree_path_ne hh h3).2 (by rw [e2])
      · exact (tree_path_ne hs h3).2 (by rw [e2])
    obtain ⟨k1, k2⟩ := kid_below hne hp
    have hin : e ∈ tsub A top ++ tsub H top ++ tsub S top := by
      rcases three_mem.1 he with h3 | h3 | h3
      · exact three_mem.2 (.inl (List.mem_filter.2 ⟨h3, k1⟩))
      · exact three_mem.2 (.inr (.inl (List.mem_filter.2 ⟨h3, k1⟩)))
      · exact three_mem.2 (.inr (.inr (List.mem_filter.2 ⟨h3, k1⟩)))
    obtain ⟨r, hr, hR⟩ := h2 e hin k2
    rw [right_one (⟨hne, hp, und_self _⟩ : Right top e.path e.path) hR]
    exact hr
theorem at_same {A H S : List Et} {q : ByteArray} (hq : q ≠ ⟨#[]⟩) (ho : Opn H S q.data.toList) (hin : ∃ e, e ∈ A ++ H ++ S ∧ e.path = q) (h : tsub H q = tsub S q) (B : Bool) (hB : B = true ↔ tsub A q = tsub H q) : itsD M A H S (AtP q) = if (!B) = true then [(q, 1)] else [] := by
  refine (itsD_of A H S _).one ?_
  have := at_leaf (M := M) hq ho hin (.inl h)
  have e0 : said M A H S q = if (!B) = true then 1 else 0 := by
    unfold said
    rw [if_pos h]
    cases B with
    | true => rw [if_pos (hB.1 rfl).symm]; rfl
    | false => rw [if_neg (fun e => absurd (hB.2 e.symm) (by decide))]; rfl
  have e : own M A H S q = if (!B) = true then [(q, 1)] else [] := by
    unfold own
    rw [e0]
    cases B <;> rfl
  rw [e] at this
  exact this
theorem at_folder {A H S : List Et} {q : ByteArray} (hq : q ≠ ⟨#[]⟩) (ho : Opn H S q.data.toList) (hin : ∃ e, e ∈ A ++ H ++ S ∧ e.path = q) (h : tsub H q ≠ tsub S q) (h1 : (tget H q).kind = 1) (h2 : (tget S q).kind = 1) (B : Bool) (hB : B = true ↔ (tget A q).kind = 1) : itsD M A H S (AtP q) = (if (!B) = true then [(q, 1)] else []) ++ itsD M A H S (Blw q) := by
  refine (itsD_of A H S _).one ?_
  have := at_dir (M := M) hq ho hin (itsD_of A H S (Blw q))
  have e0 : said M A H S q = if (!B) = true then 1 else 0 := by
    unfold said
    rw [if_neg h, if_pos ⟨h1, h2⟩]
    cases B with
    | true => rw [if_pos (hB.1 rfl)]; rfl
    | false => rw [if_neg (fun e => absurd (hB.2 e) (by decide))]; rfl
  have e : own M A H S q = if (!B) = true then [(q, 1)] else [] := by
    unfold own
    rw [e0]
    cases B <;> rfl
  rw [e] at this
  exact this
def unl (BH BS BM : Bool) : Nat := if BH = true then 3 else if BS = true then 2 else if BM = true then 4 else 5
theorem at_unlike {A H S : List Et} {q : ByteArray} (hq : q ≠ ⟨#[]⟩) (ho : Opn H S q.data.toList) (hin : ∃ e, e ∈ A ++ H ++ S ∧ e.path = q) (h : tsub H q ≠ tsub S q) (hk : ¬ ((tget H q).kind = 1 ∧ (tget S q).kind = 1)) (BH BS : Bool) (hBH : BH = true ↔ tsub H q = tsub A q) (hBS : BS = true ↔ tsub S q = tsub A q) : itsD M A H S (AtP q) = [(q, unl BH BS (M (tget A q) (tget H q) (tget S q)))] := by
  refine (itsD_of A H S _).one ?_
  have := at_leaf (M := M) hq ho hin (.inr hk)
  have e0 : said M A H S q = unl BH BS (M (tget A q) (tget H q) (tget S q)) := by
    unfold said unl
    rw [if_neg h, if_neg hk]
    cases BH with
    | true => rw [if_pos (hBH.1 rfl), if_pos rfl]
    | false =>
      have n1 : ¬ tsub H q = tsub A q := fun e => absurd (hBH.2 e) (by decide)
      rw [if_neg n1, if_neg (show ¬ (false = true) by decide)]
      cases BS with
      | true => rw [if_pos (hBS.1 rfl), if_pos rfl]
      | false =>
        have n2 : ¬ tsub S q = tsub A q := fun e => absurd (hBS.2 e) (by decide)
        rw [if_neg n2, if_neg (show ¬ (false = true) by decide)]
  have e1 : unl BH BS (M (tget A q) (tget H q) (tget S q)) ≠ 0 := by
    unfold unl
    repeat' split
    all_goals decide
  have e : own M A H S q = [(q, unl BH BS (M (tget A q) (tget H q) (tget S q)))] := by
    unfold own
    rw [e0, if_neg e1]
  rw [e] at this
  exact this
theorem below_flat {A H S : List Et} (ha : tcheck A = 0) (hh : tcheck H = 0) (hs : tcheck S = 0) {p : ByteArray} {K : List ByteArray}
    (hK : K.Pairwise (fun a b => less a b = true)) (hm : ∀ q, q ∈ K ↔ ∃ e, e ∈ A ++ H ++ S ∧ e.path = q ∧ tb (par q.data.toList) = p) : itsD M A H S (Blw p) = K.flatMap fun q => itsD M A H S (AtP q) :=
  (itsD_of A H S _).one (below_kids ha hh hs hK hm fun q _ => itsD_of A H S _)
theorem flat_take_len {α β : Type} (K : List α) (f : α → List β) (k : Nat) : ((K.take k).flatMap f).length ≤ (K.flatMap f).length := by
  conv => rhs; rw [← List.take_append_drop k K, List.flatMap_append, List.length_append]
  omega
end Go.Proofs.YtkenmldiojeooaaGreat.Rc

namespace Go.Proofs.YtkenmldiojeooaaGreat.Rc
open Go.RowKit Tx Pm Pr En
set_option linter.unusedVariables false
set_option linter.unusedSimpArgs false
abbrev It := ByteArray × Nat
theorem infoI : (Tryz.prog.info? 31).map (fun i => (i.zero, i.size, i.bytes)) = some (some (.agg #[.string ⟨#[]⟩, .int .i64 0]), 2, 24) := by kernel_rfl
def h2 (x : It) : List Value := [.string x.1, .int .i64 (x.2 : Nat)]
def Io (w : World) (B : Nat) (v : Value) (R : List It) : Prop := w.ownsRow B 31 2 v R.length (R.flatMap h2)
theorem Io.below {w w1 : World} {B : Nat} {v : Value} {l : List It} (h : Io w B v l) (hb : Below w.heap.size w w1) : Io w1 B v l := by
  refine ⟨h.1, ?_⟩
  rcases h.2 with h0 | ⟨g', cap', cur, hv, hg, hh, r⟩
  · exact .inl h0
  · exact .inr ⟨g', cap', cur, hv, hg, (hb.block g' (Array.getElem?_eq_some_iff.1 hh).1).trans hh, r⟩
theorem Io.base {w : World} {B C : Nat} {v : Value} {l : List It} (h : Io w C v l) (hB : B ≤ C) : Io w B v l := by
  refine ⟨h.1, ?_⟩
  rcases h.2 with h0 | ⟨g', cap', cur, hv, hg, r⟩
  · exact .inl h0
  · exact .inr ⟨g', cap', cur, hv, Nat.le_trans hB hg, r⟩
theorem io_nil (w : World) (B : Nat) : Io w B (.slice none 0 0) [] := World.ownsRow_nil _ _ _ _
theorem flat2_len (l : List It) : (l.flatMap h2).length = l.length * 2 := by
  induction l with
  | nil => rfl
  | cons x l ih => rw [List.flatMap_cons, List.length_append, ih, List.length_cons]; show 2 + _ = _; omega
theorem flat2_get (l : List It) (k : Nat) (x : It) (h : l[k]? = some x) : (l.flatMap h2)[k * 2]? = some (.string x.1) ∧ (l.flatMap h2)[k * 2 + 1]? = some (.int .i64 (x.2 : Nat)) := by
  induction l generalizing k with
  | nil => cases h
  | cons y l ih =>
    rw [List.flatMap_cons]
    cases k with
    | zero =>
      injection h with h
      subst h
      exact ⟨rfl, rfl⟩
    | succ k =>
      obtain ⟨k1, k2⟩ := ih k h
      have e : (h2 y).length = 2 := rfl
      rw [List.getElem?_append_right (by omega), List.getElem?_append_right (by omega), e, show (k + 1) * 2 - 2 = k * 2 by omega, show (k + 1) * 2 + 1 - 2 = k * 2 + 1 by omega]
      exact ⟨k1, k2⟩
def ItR (w : World) (a : Option Addr) (n : Nat) (l : List It) : Prop := l.length = n ∧ (n = 0 ∨ ∃ b off, a = some ⟨b, off, none⟩ ∧ b < w.heap.size ∧ ∀ k x, l[k]? = some x → w.cell? ⟨b, off + k * 2, none⟩ = some (.string x.1) ∧ w.cell? ⟨b, off + k * 2 + 1, none⟩ = some (.int .i64 (x.2 : Nat)))
theorem ItR.below {w w1 : World} {a : Option Addr} {n : Nat} {l : List It} (h : ItR w a n l) (hb : Below w.heap.size w w1) : ItR w1 a n l := by
  refine ⟨h.1, ?_⟩
  rcases h.2 with h0 | ⟨b, off, ha, hlt, hc⟩
  · exact .inl h0
  · exact .inr ⟨b, off, ha, Nat.lt_of_lt_of_le hlt hb.size, fun k x hx => ⟨(hb.cell (p := ⟨b, _, none⟩) hlt).trans (hc k x hx).1, (hb.cell (p := ⟨b, _, none⟩) hlt).trans (hc k x hx).2⟩⟩
theorem Io.form {w : World} {B : Nat} {v : Value} {l : List It} (h : Io w B v l) : ∃ a c, v = .slice a l.length c ∧ ItR w a l.length l := by
  have hh := h
  rcases h.2 with ⟨rfl, h0⟩ | ⟨g, cap, cur, rfl, hg, hh2, hn, hc, _⟩
  · exact ⟨none, 0, by rw [h0], rfl, .inl h0⟩
  · refine ⟨some ⟨g, 0, none⟩, cap, rfl, rfl, .inr ⟨g, 0, rfl, (Array.getElem?_eq_some_iff.1 hh2).1, fun k x hx => ?_⟩⟩
    obtain ⟨h1, h2⟩ := flat2_get l k x hx
    have e1 := hh.cells (g := g) rfl _ _ h1
    have e2 := hh.cells (g := g) rfl _ _ h2
    rw [WideShapes.add_plain] at e1 e2
    exact ⟨e1, e2⟩
theorem guardI : Tryz.prog.eqGuardType Tryz.prog.depth 31 = false := by kernel_rfl
theorem it_next {la lb : List It} {k : Nat} {x : It} (hx : la[k]? = some x) (hy : lb[k]? = some x) (h : la.take k = lb.take k) : la.take (k + 1) = lb.take (k + 1) := by
  obtain ⟨ha, ea⟩ := List.getElem?_eq_some_iff.1 hx
  obtain ⟨hb, eb⟩ := List.getElem?_eq_some_iff.1 hy
  rw [List.take_succ_eq_append_getElem ha, List.take_succ_eq_append_getElem hb, h, ea, eb]
theorem it_not {la lb : List It} {k : Nat} {x y : It} (hx : la[k]? = some x) (hy : lb[k]? = some y) (h : x ≠ y) : la ≠ lb := by
  rintro rfl
  rw [hx] at hy
  injection hy with hy
  exact h hy
def ISame (la lb : List It) (w : World) (e : Ending) (w' : World) : Prop := ∃ B, (B = true ↔ la = lb) ∧ e = .returned (.bool B) ∧ Below w.heap.size w w'
set_option maxRecDepth 100000 in
set_option maxHeartbeats 1000000 in
theorem refSame17_any (a b : Option Addr) (n m ca cb : Nat) (la lb : List It) (w : World) (ha : ItR w a n la) (hb : ItR w b m lb) (hn : n ≤ 9223372036854775806) (hm : m ≤ 9223372036854775806) :
    Calls Tryz.prog 14 #[.slice a n ca, .slice b m cb] w (ISame la lb w) := by
  obtain ⟨hla, hca⟩ := ha
  obtain ⟨hlb, hcb⟩ := hb
  by_cases hnm : n = m
  · subst hnm
    have e0 : ((n : Int) == n) = true := beq_self_eq_true _
    by_cases h0 : n = 0
    · subst h0
      obtain rfl : la = [] := List.length_eq_zero_iff.1 hla
      obtain rfl : lb = [] := List.length_eq_zero_iff.1 hlb
      clear hca hcb
      go_enter Tryz.func14, Tryz.ntmps14
      go_wp2
      go_loop [5] (fun i => i = .int .i64 0) (fun _ => 0)
      case atStart => exact rfl
      case round =>
        obtain rfl := hrel
        go_wp2
        go_ret
        exact ⟨true, Iff.intro (fun _ => rfl) (fun _ => rfl), rfl, Below.refl _ _⟩
    · obtain ⟨ba, oa, rfl, hba, hca⟩ := hca.resolve_left h0
      obtain ⟨bb, ob, rfl, hbb, hcb⟩ := hcb.resolve_left h0
      have HA := Lib.hid hca
      have HB := Lib.hid hcb
      clear hca hcb h0
      go_enter Tryz.func14, Tryz.ntmps14
      go_wp2_with fail
      go_loopw [5] (fun i wr => ∃ k : Nat, k ≤ n ∧ i = .int .i64 k ∧ Hid (la.take k = lb.take k) ∧ Below w.heap.size w wr) (fun i _ => n - (intOf i).toNat)
      case atStart => exact ⟨0, Nat.zero_le _, rfl, rfl, Below.refl _ _⟩
      case round =>
        obtain ⟨k, hk, rfl, hT, hW⟩ := hrel
        by_cases hlt : k < n
        · obtain ⟨x, hx⟩ : ∃ x, la[k]? = some x := ⟨_, List.getElem?_eq_getElem (by omega)⟩
          obtain ⟨y, hy⟩ : ∃ y, lb[k]? = some y := ⟨_, List.getElem?_eq_getElem (by omega)⟩
          obtain ⟨c1, c2⟩ := HA.out k x hx
          obtain ⟨d1, d2⟩ := HB.out k y hy
          have f1 := (hW.cell (p := ⟨ba, _, none⟩) hba).trans c1
          have f2 := (hW.cell (p := ⟨ba, _, none⟩) hba).trans c2
          have g1 := (hW.cell (p := ⟨bb, _, none⟩) hbb).trans d1
          have g2 := (hW.cell (p := ⟨bb, _, none⟩) hbb).trans d2
          have hlt1 : (k : Int) < (n : Int) := by omega
          have hgE := guardI
          clear c1 c2 d1 d2
          obtain ⟨P, K⟩ := x
          obtain ⟨P', K'⟩ := y
          simp only at f1 f2 g1 g2
          by_cases e1 : P.toList = P'.toList
          · by_cases e2 : (K : Int) = (K' : Int)
            · obtain rfl := to_list.1 e1
              have e3 : K = K' := by omega
              subst e3
              have HN := Lib.hid (it_next hx hy hT.out)
              clear hx hy hT hla hlb e1 e2
              go_wp2_with fail
              go_quiet (fail)
              go_wp2_with fail
              go_roundw
              case rel => exact ⟨k + 1, by omega, by go_num, HN, below_drewN hW _⟩
              case measure => simp [intOf]; omega
            · have HE := Lib.hid (it_not hx hy (fun h => by injection h with h1 h2; exact e2 (by rw [h2])))
              clear hx hy hT hla hlb
              go_wp2_with fail
              go_quiet (fail)
              go_wp2_with fail
              go_ret
              exact ⟨false, Iff.intro (fun h => by cases h) (fun h => absurd h HE.out), rfl, below_drewN hW _⟩
          · have HE := Lib.hid (it_not hx hy (fun h => by injection h with h1 h2; exact e1 (to_list.2 h1)))
            clear hx hy hT hla hlb
            go_wp2_with fail
            go_quiet (fail)
            go_wp2_with fail
            go_ret
            exact ⟨false, Iff.intro (fun h => by cases h) (fun h => absurd h HE.out), rfl, below_drewN hW _⟩
        · obtain rfl : k = n := by omega
          have h := hT.out
          rw [List.take_of_length_le (by omega), List.take_of_length_le (by omega)] at h
          have HE := Lib.hid h
          clear hT h hla hlb
          go_wp2_with fail
          go_ret
          exact ⟨true, Iff.intro (fun _ => HE.out) (fun _ => rfl), rfl, hW⟩
  · have e0 : ((n : Int) == m) = false := beq_eq_false_iff_ne.2 (by omega)
    have HE : Hid (la ≠ lb) := fun h => hnm (by rw [← hla, ← hlb, h])
    clear hnm hca hcb hla hlb
    go_enter Tryz.func14, Tryz.ntmps14
    go_wp2
    go_ret
    exact ⟨false, Iff.intro (fun h => by cases h) (fun h => absurd h HE.out), rfl, Below.refl _ _⟩
end Go.Proofs.YtkenmldiojeooaaGreat.Rc

namespace Go.Proofs.YtkenmldiojeooaaGreat.Rc
open Go.RowKit Tx Pm Pr En
set_option linter.unusedVariables false
set_option linter.unusedSimpArgs false
abbrev F3 (α : Type) := ByteArray → ByteArray → ByteArray → α
section
variable (er : F3 Nat) (tx : F3 ByteArray) (cf : F3 Nat)
def base (a : Nd) : ByteArray := if a.kind = 2 then a.data else ⟨#[]⟩
def mkE (a h s : Nd) : Nat := if h.kind ≠ 2 ∨ s.kind ≠ 2 then 12 else if er (base a) h.data s.data ≠ 0 then er (base a) h.data s.data else if 4096 < (tx (base a) h.data s.data).size then 4 else 0
def mkT (a h s : Nd) : ByteArray := if mkE er tx a h s = 0 then tx (base a) h.data s.data else ⟨#[]⟩
def mkN (a h s : Nd) : Nat := if mkE er tx a h s = 0 then cf (base a) h.data s.data else 0
def mg (a h s : Nd) : Bool := decide (mkE er tx a h s = 0) && decide (mkN er tx cf a h s = 0)
def mgN (a h s : Nd) : Nd := if mg er tx cf a h s = true then ⟨2, mkT er tx a h s⟩ else ⟨0, ⟨#[]⟩⟩
end
structure Fair (er : F3 Nat) (tx : F3 ByteArray) (cf : F3 Nat) : Prop where
  err : ∀ s t u, er s t u = 0 → er s u t = 0
  cfs : ∀ s t u, er s t u = 0 → cf s u t = cf s t u
  txs : ∀ s t u, er s t u = 0 → cf s t u = 0 → tx s u t = tx s t u
  ers : ∀ s t u, er s t u ≤ 1000
  few : ∀ s t u, cf s t u ≤ 1000000
  big : ∀ s t u, s.size ≤ 1000000 → t.size ≤ 1000000 → u.size ≤ 1000000 → (tx s t u).size ≤ 9223372036854775807
theorem mg_turn {er : F3 Nat} {tx : F3 ByteArray} {cf : F3 Nat} (F : Fair er tx cf) (a h s : Nd) : mg er tx cf a s h = mg er tx cf a h s := by
  have one : ∀ h s : Nd, mg er tx cf a h s = true → mg er tx cf a s h = true := by
    intro h s hm
    unfold mg at hm ⊢
    rw [Bool.and_eq_true, decide_eq_true_eq, decide_eq_true_eq] at hm ⊢
    obtain ⟨h1, h2⟩ := hm
    have hk : ¬ (h.kind ≠ 2 ∨ s.kind ≠ 2) := by
      intro hc
      unfold mkE at h1
      rw [if_pos hc] at h1
      cases h1
    have hk2 : ¬ (s.kind ≠ 2 ∨ h.kind ≠ 2) := fun hc => hk hc.symm
    have he : er (base a) h.data s.data = 0 := by
      unfold mkE at h1
      rw [if_neg hk] at h1
      by_cases hc : er (base a) h.data s.data ≠ 0
      · rw [if_pos hc] at h1; exact absurd h1 hc
      · exact Decidable.not_not.1 hc
    have hn : mkN er tx cf a h s = cf (base a) h.data s.data := by unfold mkN; rw [if_pos h1]
    rw [hn] at h2
    have ht := F.txs _ _ _ he h2
    have he2 := F.err _ _ _ he
    have hE2 : mkE er tx a s h = 0 := by
      unfold mkE at h1 ⊢
      rw [if_neg hk, if_neg (by rw [he]; simp)] at h1
      rw [if_neg hk2, if_neg (by rw [he2]; simp), ht]
      exact h1
    refine ⟨hE2, ?_⟩
    unfold mkN
    rw [if_pos hE2, F.cfs _ _ _ he]
    exact h2
  cases e1 : mg er tx cf a h s with
  | true => exact one h s e1
  | false =>
    cases e2 : mg er tx cf a s h with
    | false => rfl
    | true =>
      have := one s h e2
      rw [e1] at this
      cases this
def MkTo (er : F3 Nat) (tx : F3 ByteArray) (cf : F3 Nat) (a h s : Nd) (w : World) (e : Ending) (w' : World) : Prop := e = .returned (.tuple #[.string (mkT er tx a h s), .int .i64 (mkN er tx cf a h s : Nat), .int .i64 (mkE er tx a h s : Nat)]) ∧ Below w.heap.size w w'
theorem mk_dir {er : F3 Nat} {tx : F3 ByteArray} {cf : F3 Nat} {a h s : Nd} (hk : h.kind ≠ 2 ∨ s.kind ≠ 2) : mkE er tx a h s = 12 ∧ mkT er tx a h s = ⟨#[]⟩ ∧ mkN er tx cf a h s = 0 := by
  have h1 : mkE er tx a h s = 12 := by unfold mkE; rw [if_pos hk]
  exact ⟨h1, by unfold mkT; rw [h1]; rfl, by unfold mkN; rw [h1]; rfl⟩
theorem mk_err {er : F3 Nat} {tx : F3 ByteArray} {cf : F3 Nat} {a h s : Nd} (h2 : h.kind = 2) (s2 : s.kind = 2) (he : er (base a) h.data s.data ≠ 0) : mkE er tx a h s = er (base a) h.data s.data ∧ mkT er tx a h s = ⟨#[]⟩ ∧ mkN er tx cf a h s = 0 := by
  have h1 : mkE er tx a h s = er (base a) h.data s.data := by unfold mkE; rw [if_neg (by rw [h2, s2]; simp), if_pos he]
  exact ⟨h1, by unfold mkT; rw [if_neg (by rw [h1]; exact he)], by unfold mkN; rw [if_neg (by rw [h1]; exact he)]⟩
theorem mk_big {er : F3 Nat} {tx : F3 ByteArray} {cf : F3 Nat} {a h s : Nd} (h2 : h.kind = 2) (s2 : s.kind = 2) (he : er (base a) h.data s.data = 0) (hb : 4096 < (tx (base a) h.data s.data).size) : mkE er tx a h s = 4 ∧ mkT er tx a h s = ⟨#[]⟩ ∧ mkN er tx cf a h s = 0 := by
  have h1 : mkE er tx a h s = 4 := by unfold mkE; rw [if_neg (by rw [h2, s2]; simp), if_neg (by rw [he]; simp), if_pos hb]
  exact ⟨h1, by unfold mkT; rw [h1]; rfl, by unfold mkN; rw [h1]; rfl⟩
theorem mk_ok {er : F3 Nat} {tx : F3 ByteArray} {cf : F3 Nat} {a h s : Nd} (h2 : h.kind = 2) (s2 : s.kind = 2) (he : er (base a) h.data s.data = 0) (hb : ¬ 4096 < (tx (base a) h.data s.data).size) : mkE er tx a h s = 0 ∧ mkT er tx a h s = tx (base a) h.data s.data ∧ mkN er tx cf a h s = cf (base a) h.data s.data := by
  have h1 : mkE er tx a h s = 0 := by unfold mkE; rw [if_neg (by rw [h2, s2]; simp), if_neg (by rw [he]; simp), if_neg hb]
  exact ⟨h1, by unfold mkT; rw [if_pos h1], by unfold mkN; rw [if_pos h1]⟩
theorem below_three (w : World) (a b c : Obj) : Below w.heap.size w (((w.alloc a).alloc b).alloc c) := (((Below.refl _ w).alloc (Nat.le_refl _) a).alloc (by simp) b).alloc (by simp; omega) c
set_option maxRecDepth 100000 in
set_option maxHeartbeats 4000000 in
theorem refMarked_any {er : F3 Nat} {tx : F3 ByteArray} {cf : F3 Nat} (F : Fair er tx cf)
    (hR : ∀ (s t u : ByteArray) (w : World), s.size ≤ 1000000 → t.size ≤ 1000000 → u.size ≤ 1000000 → Calls Tryz.prog 33 #[.string s, .string t, .string u] w fun e w' => e = .returned (.tuple #[.string (if er s t u = 0 then tx s t u else ⟨#[]⟩), .int .i64 ((if er s t u = 0 then cf s t u else 0 : Nat) : Int), .int .i64 (er s t u : Nat)]) ∧ Below w.heap.size w w')
    (a h s : Nd) (w : World) (ha : a.data.size ≤ 1000000) (hh : h.data.size ≤ 1000000) (hs : s.data.size ≤ 1000000) :
    Calls Tryz.prog 20 #[nv a, nv h, nv s] w (MkTo er tx cf a h s w) := by
  have hbs : (base a).size ≤ 1000000 := by
    unfold base
    by_cases h2 : a.kind = 2
    · rw [if_pos h2]; exact ha
    · rw [if_neg h2]; exact Nat.zero_le _
  have cm := fun W => hR (base a) h.data s.data W hbs hh hs
  have hbig := F.big (base a) h.data s.data hbs hh hs
  have hers := F.ers (base a) h.data s.data
  have hfew := F.few (base a) h.data s.data
  unfold MkTo
  have kd := @mk_dir er tx cf a h s
  have ke := @mk_err er tx cf a h s
  have kb := @mk_big er tx cf a h s
  have ko := @mk_ok er tx cf a h s
  have hbase : a.kind = 2 → base a = a.data := fun h => by unfold base; rw [if_pos h]
  have hbase0 : a.kind ≠ 2 → base a = ⟨#[]⟩ := fun h => by unfold base; rw [if_neg h]
  obtain ⟨ka, da⟩ := a
  obtain ⟨kh, dh⟩ := h
  obtain ⟨ks, ds⟩ := s
  generalize mkE er tx ⟨ka, da⟩ ⟨kh, dh⟩ ⟨ks, ds⟩ = ME at kd ke kb ko ⊢
  generalize mkT er tx ⟨ka, da⟩ ⟨kh, dh⟩ ⟨ks, ds⟩ = MT at kd ke kb ko ⊢
  generalize mkN er tx cf ⟨ka, da⟩ ⟨kh, dh⟩ ⟨ks, ds⟩ = MN at kd ke kb ko ⊢
  simp only at kd ke kb ko hbase hbase0 cm hbig ha hh hs
  unfold nv
  by_cases e1 : kh = 2
  case neg =>
    obtain ⟨rfl, rfl, rfl⟩ := kd (.inl e1)
    have f1 : ((kh : Int) == 2) = false := beq_eq_false_iff_ne.2 e1
    clear kd ke kb ko hbase hbase0 cm
    go_enter Tryz.func20, Tryz.ntmps20
    go_wp2_with fail
    go_ret3
    exact ⟨rfl, below_three w _ _ _⟩
  subst e1
  by_cases e2 : ks = 2
  case neg =>
    obtain ⟨rfl, rfl, rfl⟩ := kd (.inr e2)
    have f1 : ((ks : Int) == 2) = false := beq_eq_false_iff_ne.2 e2
    clear kd ke kb ko hbase hbase0 cm
    go_enter Tryz.func20, Tryz.ntmps20
    go_wp2_with fail
    go_ret3
    exact ⟨rfl, below_three w _ _ _⟩
  subst e2
  clear kd
  generalize er (base ⟨ka, da⟩) dh ds = E at cm ke kb ko hers
  generalize tx (base ⟨ka, da⟩) dh ds = T at cm kb ko hbig
  generalize cf (base ⟨ka, da⟩) dh ds = C at cm ko hfew
  by_cases e3 : ka = 2
  · rw [hbase e3] at cm
    subst e3
    clear hbase hbase0
    by_cases he : E = 0
    case neg =>
      rw [if_neg he, if_neg he] at cm
      obtain ⟨rfl, rfl, rfl⟩ := ke (by trivial) (by trivial) he
      have f3 : ((ME : Int) == 0) = false := beq_eq_false_iff_ne.2 (by omega)
      clear ke kb ko
      go_enter Tryz.func20, Tryz.ntmps20
      go_wp2_with fail
      go_at_call 33
      refine (cm _).mono ?_
      rintro e w1 ⟨rfl, b1⟩
      have b1 := (below_three w _ _ _).trans (b1.mono (below_three w _ _ _).size)
      clear cm
      go_wp2_with fail
      go_ret3
      exact ⟨rfl, b1⟩
    subst he
    rw [if_pos rfl, if_pos rfl] at cm
    by_cases hb : 4096 < T.size
    · obtain ⟨rfl, rfl, rfl⟩ := kb (by trivial) (by trivial) (by trivial) hb
      have hb' : (4096 : Int) < (T.size : Int) := by omega
      clear ke kb ko
      go_enter Tryz.func20, Tryz.ntmps20
      go_wp2_with fail
      go_at_call 33
      refine (cm _).mono ?_
      rintro e w1 ⟨rfl, b1⟩
      have b1 := (below_three w _ _ _).trans (b1.mono (below_three w _ _ _).size)
      clear cm
      go_wp2_with fail
      go_ret3
      exact ⟨rfl, b1⟩
    · obtain ⟨rfl, rfl, rfl⟩ := ko (by trivial) (by trivial) (by trivial) hb
      have hb' : ¬ (4096 : Int) < (MT.size : Int) := by omega
      clear ke kb ko
      go_enter Tryz.func20, Tryz.ntmps20
      go_wp2_with fail
      go_at_call 33
      refine (cm _).mono ?_
      rintro e w1 ⟨rfl, b1⟩
      have b1 := (below_three w _ _ _).trans (b1.mono (below_three w _ _ _).size)
      clear cm
      go_wp2_with fail
      go_ret3
      exact ⟨rfl, b1⟩
  · rw [hbase0 e3] at cm
    have f1 : ((ka : Int) == 2) = false := beq_eq_false_iff_ne.2 e3
    clear hbase hbase0
    by_cases he : E = 0
    case neg =>
      rw [if_neg he, if_neg he] at cm
      obtain ⟨rfl, rfl, rfl⟩ := ke (by trivial) (by trivial) he
      have f3 : ((ME : Int) == 0) = false := beq_eq_false_iff_ne.2 (by omega)
      clear ke kb ko
      go_enter Tryz.func20, Tryz.ntmps20
      go_wp2_with fail
      go_at_call 33
      refine (cm _).mono ?_
      rintro e w1 ⟨rfl, b1⟩
      have b1 := (below_three w _ _ _).trans (b1.mono (below_three w _ _ _).size)
      clear cm
      go_wp2_with fail
      go_ret3
      exact ⟨rfl, b1⟩
    subst he
    rw [if_pos rfl, if_pos rfl] at cm
    by_cases hb : 4096 < T.size
    · obtain ⟨rfl, rfl, rfl⟩ := kb (by trivial) (by trivial) (by trivial) hb
      have hb' : (4096 : Int) < (T.size : Int) := by omega
      clear ke kb ko
      go_enter Tryz.func20, Tryz.ntmps20
      go_wp2_with fail
      go_at_call 33
      refine (cm _).mono ?_
      rintro e w1 ⟨rfl, b1⟩
      have b1 := (below_three w _ _ _).trans (b1.mono (below_three w _ _ _).size)
      clear cm
      go_wp2_with fail
      go_ret3
      exact ⟨rfl, b1⟩
    · obtain ⟨rfl, rfl, rfl⟩ := ko (by trivial) (by trivial) (by trivial) hb
      have hb' : ¬ (4096 : Int) < (MT.size : Int) := by omega
      clear ke kb ko
      go_enter Tryz.func20, Tryz.ntmps20
      go_wp2_with fail
      go_at_call 33
      refine (cm _).mono ?_
      rintro e w1 ⟨rfl, b1⟩
      have b1 := (below_three w _ _ _).trans (b1.mono (below_three w _ _ _).size)
      clear cm
      go_wp2_with fail
      go_ret3
      exact ⟨rfl, b1⟩
end Go.Proofs.YtkenmldiojeooaaGreat.Rc

namespace Go.Proofs.YtkenmldiojeooaaGreat.Rc
open Go.RowKit Tx Pm Pr En
set_option linter.unusedVariables false
set_option linter.unusedSimpArgs false
def AsksM (er : F3 Nat) (tx : F3 ByteArray) (cf : F3 Nat) : Prop := ∀ (s t u : ByteArray) (w : World), s.size ≤ 1000000 → t.size ≤ 1000000 → u.size ≤ 1000000 → Calls Tryz.prog 33 #[.string s, .string t, .string u] w fun e w' => e = .returned (.tuple #[.string (if er s t u = 0 then tx s t u else ⟨#[]⟩), .int .i64 ((if er s t u = 0 then cf s t u else 0 : Nat) : Int), .int .i64 (er s t u : Nat)]) ∧ Below w.heap.size w w'
theorem mk_few {er : F3 Nat} {tx : F3 ByteArray} {cf : F3 Nat} (F : Fair er tx cf) (a h s : Nd) : mkE er tx a h s ≤ 1000 ∧ mkN er tx cf a h s ≤ 1000000 := by
  have h1 := F.ers (base a) h.data s.data
  have h2 := F.few (base a) h.data s.data
  constructor
  · unfold mkE
    repeat' split
    all_goals omega
  · unfold mkN
    split
    · exact h2
    · exact Nat.zero_le _
def MgTo (er : F3 Nat) (tx : F3 ByteArray) (cf : F3 Nat) (a h s : Nd) (w : World) (e : Ending) (w' : World) : Prop := e = .returned (.tuple #[nv (mgN er tx cf a h s), .bool (mg er tx cf a h s)]) ∧ Below w.heap.size w w'
theorem below_four (w : World) (a b c d : Obj) : Below w.heap.size w ((((w.alloc a).alloc b).alloc c).alloc d) := (below_three w a b c).alloc (by simp; omega) d
theorem fourth (w : World) (a b c d : Obj) : ((((w.alloc a).alloc b).alloc c).alloc d).heap[w.heap.size + 1 + 1 + 1]? = some d := by
  have h : (((w.alloc a).alloc b).alloc c).heap.size = w.heap.size + 1 + 1 + 1 := by simp
  rw [← h]
  exact heap_alloc_new _ _
theorem res_cell_row {P : Program} {fn : Func} {p u : Tmp} {ty : TypeId} (h : fn.results = #[.cell p ty, .tmp u]) (tmps : Array Value) (w : World) (g : Nat) (t : TypeId) (cs : Array Value) (fr : Nat × Nat) (d : TypeDesc)
    (hp : tmps.getD p undef = .pointer (some ⟨g, 0, none⟩)) (hg : w.heap[g]? = some (.cells cs t fr))
    (hu : P.underlying ty = some d) (hd : (match d with | .struct _ | .array _ _ => true | _ => false) = true) (hi : (P.info? ty).map (·.size) = some cs.size) :
    (results fn tmps).run P w = .ok (.tuple #[.agg cs, tmps.getD u undef]) w := by
  have hp' : tmps[p]?.getD undef = .pointer (some ⟨g, 0, none⟩) := by simpa using hp
  rw [results_cell_tmp h]
  simp [hp', asAddr, run_loadVar_row w g t ty cs fr d hg hu hd hi, Result.andThen]
set_option maxRecDepth 100000 in
set_option maxHeartbeats 4000000 in
theorem refMerge17_any {er : F3 Nat} {tx : F3 ByteArray} {cf : F3 Nat} (F : Fair er tx cf) (hR : AsksM er tx cf)
    (a h s : Nd) (w : World) (ha : a.data.size ≤ 1000000) (hh : h.data.size ≤ 1000000) (hs : s.data.size ≤ 1000000) :
    Calls Tryz.prog 18 #[nv a, nv h, nv s] w (MgTo er tx cf a h s w) := by
  have cm := fun W => refMarked_any F hR a h s W ha hh hs
  unfold MkTo at cm
  obtain ⟨hfE, hfN⟩ := mk_few F a h s
  have g1 : mkE er tx a h s ≠ 0 ∨ mkN er tx cf a h s ≠ 0 → mg er tx cf a h s = false ∧ mgN er tx cf a h s = ⟨0, ⟨#[]⟩⟩ := by
    intro hc
    have : mg er tx cf a h s = false := by
      unfold mg
      rcases hc with hc | hc
      · rw [decide_eq_false hc]; rfl
      · rw [decide_eq_false hc, Bool.and_false]
    exact ⟨this, by unfold mgN; rw [if_neg (by rw [this]; simp)]⟩
  have g2 : mkE er tx a h s = 0 → mkN er tx cf a h s = 0 → mg er tx cf a h s = true ∧ mgN er tx cf a h s = ⟨2, mkT er tx a h s⟩ := by
    intro h1 h2
    have : mg er tx cf a h s = true := by unfold mg; rw [decide_eq_true h1, decide_eq_true h2]; rfl
    exact ⟨this, by unfold mgN; rw [if_pos this]⟩
  unfold MgTo
  generalize mkE er tx a h s = ME at cm g1 g2 hfE
  generalize mkT er tx a h s = MT at cm g2
  generalize mkN er tx cf a h s = MN at cm g1 g2 hfN
  obtain ⟨ka, da⟩ := a
  obtain ⟨kh, dh⟩ := h
  obtain ⟨ks, ds⟩ := s
  generalize mg er tx cf ⟨ka, da⟩ ⟨kh, dh⟩ ⟨ks, ds⟩ = B at g1 g2 ⊢
  generalize mgN er tx cf ⟨ka, da⟩ ⟨kh, dh⟩ ⟨ks, ds⟩ = V at g1 g2 ⊢
  unfold nv at cm ⊢
  by_cases hE : ME = 0
  case neg =>
    obtain ⟨rfl, rfl⟩ := g1 (.inl hE)
    have f3 : ((ME : Int) == 0) = false := beq_eq_false_iff_ne.2 (by omega)
    clear g1 g2
    go_enter Tryz.func18, Tryz.ntmps18
    go_wp2_with fail
    go_at_call 20
    refine (cm _).mono ?_
    rintro e w1 ⟨rfl, b1⟩
    have hblk := (b1.block (w.heap.size + 1 + 1 + 1) (by simp)).trans (fourth w _ _ _ _)
    have hB1 := (below_four w _ _ _ _).trans (b1.mono (below_four w _ _ _ _).size)
    obtain ⟨q1, q2, q3⟩ := cells_two hblk
    clear cm b1
    go_wp2_with fail
    (try simp only [Exit.inBlock, Exit.then])
    refine bodyPost_ret (res_cell_row rfl _ _ _ _ _ _ _ rfl (two_set hblk) Tryz.underlying33 rfl infoN) rfl ?_
    exact ⟨rfl, (hB1.setCell (by show w.heap.size ≤ w.heap.size + 1 + 1 + 1; omega) _).setCell (by show w.heap.size ≤ w.heap.size + 1 + 1 + 1; omega) _⟩
  subst hE
  by_cases hN : MN = 0
  case neg =>
    obtain ⟨rfl, rfl⟩ := g1 (.inr hN)
    have f3 : (0 : Int) < (MN : Int) := by omega
    clear g1 g2
    go_enter Tryz.func18, Tryz.ntmps18
    go_wp2_with fail
    go_at_call 20
    refine (cm _).mono ?_
    rintro e w1 ⟨rfl, b1⟩
    have hblk := (b1.block (w.heap.size + 1 + 1 + 1) (by simp)).trans (fourth w _ _ _ _)
    have hB1 := (below_four w _ _ _ _).trans (b1.mono (below_four w _ _ _ _).size)
    obtain ⟨q1, q2, q3⟩ := cells_two hblk
    clear cm b1
    go_wp2_with fail
    (try simp only [Exit.inBlock, Exit.then])
    refine bodyPost_ret (res_cell_row rfl _ _ _ _ _ _ _ rfl (two_set hblk) Tryz.underlying33 rfl infoN) rfl ?_
    exact ⟨rfl, (hB1.setCell (by show w.heap.size ≤ w.heap.size + 1 + 1 + 1; omega) _).setCell (by show w.heap.size ≤ w.heap.size + 1 + 1 + 1; omega) _⟩
  subst hN
  case pos =>
    obtain ⟨rfl, rfl⟩ := g2 rfl rfl
    clear g1 g2
    go_enter Tryz.func18, Tryz.ntmps18
    go_wp2_with fail
    go_at_call 20
    refine (cm _).mono ?_
    rintro e w1 ⟨rfl, b1⟩
    have hblk := (b1.block (w.heap.size + 1 + 1 + 1) (by simp)).trans (fourth w _ _ _ _)
    have hB1 := (below_four w _ _ _ _).trans (b1.mono (below_four w _ _ _ _).size)
    obtain ⟨q1, q2, q3⟩ := cells_two hblk
    clear cm b1
    go_wp2_with fail
    (try simp only [Exit.inBlock, Exit.then])
    refine bodyPost_ret (res_cell_row rfl _ _ _ _ _ _ _ rfl (two_set hblk) Tryz.underlying33 rfl infoN) rfl ?_
    exact ⟨rfl, (hB1.setCell (by show w.heap.size ≤ w.heap.size + 1 + 1 + 1; omega) _).setCell (by show w.heap.size ≤ w.heap.size + 1 + 1 + 1; omega) _⟩
end Go.Proofs.YtkenmldiojeooaaGreat.Rc

namespace Go.Proofs.YtkenmldiojeooaaGreat.Rc
open Go.RowKit Tx Pm Pr En
set_option linter.unusedVariables false
set_option linter.unusedSimpArgs false
theorem bl_then {a b c : World} (h : Below a.heap.size a b) (k : Below b.heap.size b c) : Below a.heap.size a c := h.trans (k.mono h.size)
def OpTo (H S : List Et) (l : List UInt8) (w : World) (e : Ending) (w' : World) : Prop := ∃ B, (B = true ↔ Opn H S l) ∧ e = .returned (.bool B) ∧ Below w.heap.size w w'
set_option maxRecDepth 100000 in
set_option maxHeartbeats 4000000 in
theorem refOpen_any (aH aS : Option Addr) (nh ns ch cs : Nat) (H S : List Et) (hsH : small H) (hsS : small S) (hn : nh ≤ 1000000000) (hm : ns ≤ 1000000000) : ∀ (n : Nat) (p : ByteArray) (w : World), p.size < n → p.size ≤ 8000000000000 → Ents w aH nh H → Ents w aS ns S →
    Calls Tryz.prog 30 #[.slice aH nh ch, .slice aS ns cs, .string p] w (OpTo H S p.data.toList w) := by
  intro n
  induction n with
  | zero => intro p w h; omega
  | succ n ih =>
    intro p w hpn hps hH hS
    have cp := fun W => refParent_any p W (by omega)
    obtain ⟨q, hq⟩ : ∃ q, q = tb (par p.data.toList) := ⟨_, rfl⟩
    rw [← hq] at cp
    by_cases h0 : par p.data.toList = []
    · have hO : Hid (Opn H S p.data.toList) := opn_top h0
      have e0 : q = ⟨#[]⟩ := by rw [hq, h0]; rfl
      subst e0
      clear hq h0 ih hH hS
      go_enter Tryz.func30, Tryz.ntmps30
      go_wp2_with fail
      go_at_call 36
      refine (cp _).mono ?_
      rintro e w1 ⟨rfl, rfl⟩
      clear cp
      go_wp2_with fail
      go_ret
      exact ⟨true, ⟨fun _ => hO.out, fun _ => rfl⟩, rfl, Below.refl _ _⟩
    · have hql : q.data.toList = par p.data.toList := by rw [hq, tb_list]
      have hqne : q.toList.isEmpty = false := not_empty (fun e => h0 (by rw [← hql, e]))
      have hOP := opn_par (H := H) (S := S) h0
      rw [← hq, ← hql] at hOP
      have HO := Lib.hid hOP
      have hqs : q.size < p.size := by
        have hb : p.data.toList = par p.data.toList ++ 47 :: bas p.data.toList := (par_bas p.data.toList).resolve_left fun hh => h0 hh.2.1
        have := congrArg List.length hb
        rw [List.length_append, List.length_cons, ← hql, len_l, len_l] at this
        omega
      have cr := fun W (hb : Below w.heap.size w W) => ih q W (by omega) (by omega) (hH.below hb) (hS.below hb)
      have gh := fun W (hb : Below w.heap.size w W) => refGet_any aH nh ch H q W (hH.below hb) (by omega)
      have gs := fun W (hb : Below w.heap.size w W) => refGet_any aS ns cs S q W (hS.below hb) (by omega)
      have sh := fun W (hb : Below w.heap.size w W) => refSub_any aH nh ch H q W (hH.below hb) (by omega) hsH (by omega)
      have ss := fun W (hb : Below w.heap.size w W) => refSub_any aS ns cs S q W (hS.below hb) (by omega) hsS (by omega)
      have hlH : (tsub H q).length ≤ 1000000000 := Nat.le_trans (List.length_filter_le _ _) (by rw [hH.1]; exact hn)
      have hlS : (tsub S q).length ≤ 1000000000 := Nat.le_trans (List.length_filter_le _ _) (by rw [hS.1]; exact hm)
      obtain ⟨KH, hKH⟩ : ∃ KH, KH = (tget H q).kind := ⟨_, rfl⟩
      obtain ⟨KS, hKS⟩ : ∃ KS, KS = (tget S q).kind := ⟨_, rfl⟩
      unfold nv at gh gs
      rw [← hKH] at gh
      rw [← hKS] at gs
      have hfd : ∀ (a : Int) (d : ByteArray) (w : World), (Instr.field 33 (.agg #[.int .i64 a, .string d]) 0).run Tryz.prog w = .ok (.int .i64 a) w := fun _ _ _ => by kernel_rfl
      have HKH := Lib.hid hKH
      have HKS := Lib.hid hKS
      have CR := Lib.hid cr
      have GH := Lib.hid gh
      have GS := Lib.hid gs
      have SH := Lib.hid sh
      have SS := Lib.hid ss
      clear hq ih hH hS hql hOP cr gh gs sh ss hKH hKS hqs h0
      go_enter Tryz.func30, Tryz.ntmps30
      go_wp2_with fail
      go_at_call 36
      refine (cp _).mono ?_
      rintro e w1 ⟨rfl, rfl⟩
      clear cp
      go_wp2_with fail
      go_at_call 30
      refine (CR.out _ (Below.refl _ _)).mono ?_
      rintro e w2 ⟨B, hB, rfl, b2⟩
      by_cases hBt : B = true
      case neg =>
        obtain rfl := Bool.eq_false_iff.2 hBt
        go_wp2_with fail
        go_ret
        exact ⟨false, ⟨fun h => by (cases h), fun h => absurd (hB.2 (HO.out.1 h).1) hBt⟩, rfl, b2⟩
      subst hBt
      have HB2 := Lib.hid (hB.1 rfl)
      clear hB
      go_wp2_with fail
      go_at_call 26
      refine (GH.out _ b2).mono ?_
      rintro e w3 ⟨rfl, b3⟩
      have b3 := bl_then b2 b3
      by_cases hk1 : KH = 1
      case neg =>
        have e1 : ((KH : Int) == 1) = false := beq_eq_false_iff_ne.2 hk1
        go_wp2_with fail
        go_ret
        exact ⟨false, ⟨fun h => by (cases h), fun h => absurd (HO.out.1 h).2.1 (by rw [← HKH.out]; exact hk1)⟩, rfl, b3⟩
      have e1 : ((KH : Int) == 1) = true := by simp [hk1]
      have HK1 := Lib.hid hk1
      clear hk1
      go_wp2_with fail
      go_at_call 26
      refine (GS.out _ b3).mono ?_
      rintro e w4 ⟨rfl, b4⟩
      have b4 := bl_then b3 b4
      by_cases hk2 : KS = 1
      case neg =>
        have e2 : ((KS : Int) == 1) = false := beq_eq_false_iff_ne.2 hk2
        go_wp2_with fail
        go_ret
        exact ⟨false, ⟨fun h => by (cases h), fun h => absurd (HO.out.1 h).2.2.1 (by rw [← HKS.out]; exact hk2)⟩, rfl, b4⟩
      have e2 : ((KS : Int) == 1) = true := by simp [hk2]
      have HK2 := Lib.hid hk2
      clear hk2
      go_wp2_with fail
      go_at_call 23
      refine (SH.out _ b4).mono ?_
      rintro e w5 ⟨v5, rfl, o5, b5⟩
      have b5' := bl_then b4 b5
      obtain ⟨a5, c5, rfl, r5, _⟩ := Own.form o5
      clear o5
      go_wp2_with fail
      go_at_call 23
      refine (SS.out _ b5').mono ?_
      rintro e w6 ⟨v6, rfl, o6, b6⟩
      have b6' := bl_then b5' b6
      obtain ⟨a6, c6, rfl, r6, _⟩ := Own.form o6
      have cq := refSame_any a5 a6 _ _ c5 c6 _ _ w6 (r5.below b6) r6 (by omega) (by omega)
      clear o6
      go_wp2_with fail
      go_at_call 24
      refine cq.mono ?_
      rintro e w7 ⟨B, hB, rfl, b7⟩
      have b7' := bl_then b6' b7
      cases B with
      | true =>
        go_wp2_with fail
        go_ret
        exact ⟨false, ⟨fun h => by (cases h), fun h => absurd (hB.1 (by trivial)) (HO.out.1 h).2.2.2⟩, rfl, b7'⟩
      | false =>
        go_wp2_with fail
        go_ret
        exact ⟨true, ⟨fun _ => HO.out.2 ⟨HB2.out, by rw [← HKH.out]; exact HK1.out, by rw [← HKS.out]; exact HK2.out, fun h => by (cases hB.2 h)⟩, fun _ => rfl⟩, rfl, b7'⟩
end Go.Proofs.YtkenmldiojeooaaGreat.Rc

namespace Go.Proofs.YtkenmldiojeooaaGreat.En
open Go.RowKit Tx Pm Pr
set_option linter.unusedVariables false
theorem zeros_size (k n : Nat) (z : Array Value) (hz : z.size = 3) : (Builtin.zeroCells z n ++ Builtin.zeroCells z k).size = (n + k) * 3 := by
  rw [Array.size_append, size_zeroCells, size_zeroCells, hz, Nat.add_mul]
set_option maxRecDepth 100000 in
set_option maxHeartbeats 2000000 in
theorem grow_any (n : Nat) (w : World) (hn : n ≤ 1000000000000) :
    Calls Tryz.prog 53 #[.slice none 0 0, .int .i64 (n : Nat)] w (PartTo [] w) := by
  obtain ⟨i0, hi, hz0, hz1, hz2⟩ := info_parts infoE
  by_cases h0 : n = 0
  · subst h0
    go_enter Tryz.func53, Tryz.ntmps53
    go_wp2_with fail
    go_ret
    exact ⟨_, rfl, World.ownsRow_nil _ _ _ _, Below.refl _ _⟩
  · have hr := Lib.run_append_nil_zeros (P := Tryz.prog) w 22 3 22 50 i0 (.agg #[.string ⟨#[]⟩, .int .i64 0, .string ⟨#[]⟩]) .i64 .i64 Tryz.underlying22 Tryz.underlying3 hi hz0 n (by omega) (by omega) (by omega) (by rw [hz2]; omega)
    have hge := grownCap_ge w n 0 50
    have hle := grownCap_le_maxLen w n 0 50 (by unfold maxLen; omega)
    generalize grownCap w n 0 50 = cap at hr hge hle
    have hown := World.ownsRow_made (base := w.heap.size) (e := 50) (size := 3) w.drew (Builtin.zeroCells (Value.agg #[.string ⟨#[]⟩, .int .i64 0, .string ⟨#[]⟩]).cells n ++ Builtin.zeroCells (Value.agg #[.string ⟨#[]⟩, .int .i64 0, .string ⟨#[]⟩]).cells (cap - n)) cap (Nat.le_refl _) hle (by rw [zeros_size _ _ _ rfl, show n + (cap - n) = cap by omega])
    have hB : Below w.heap.size w (w.drew.alloc (.cells (Builtin.zeroCells (Value.agg #[.string ⟨#[]⟩, .int .i64 0, .string ⟨#[]⟩]).cells n ++ Builtin.zeroCells (Value.agg #[.string ⟨#[]⟩, .int .i64 0, .string ⟨#[]⟩]).cells (cap - n)) 50)) := (Below.refl _ _).drew.alloc (Nat.le_refl _) _
    unfold maxLen at hle
    have hpos : (n : Int) > 0 := by omega
    generalize w.drew.alloc (.cells (Builtin.zeroCells (Value.agg #[.string ⟨#[]⟩, .int .i64 0, .string ⟨#[]⟩]).cells n ++ Builtin.zeroCells (Value.agg #[.string ⟨#[]⟩, .int .i64 0, .string ⟨#[]⟩]).cells (cap - n)) 50) = w1 at hr hown hB
    go_enter Tryz.func53, Tryz.ntmps53
    go_wp2_with (at_builtin; refine Lib.wpList_append_run _ rfl _ _ _ _ rfl _ _ rfl rfl _ _ hr ?_)
    go_ret
    exact ⟨_, rfl, hown, hB⟩
def Src (w : World) (v : Value) (l : List Et) : Prop := ∃ a n c, v = .slice a n c ∧ Ents w a n l ∧ (a = none → c = 0)
theorem Src.below {w w1 : World} {v : Value} {l : List Et} (h : Src w v l) (hb : Below w.heap.size w w1) : Src w1 v l := by
  obtain ⟨a, n, c, h1, h2, h3⟩ := h
  exact ⟨a, n, c, h1, h2.below hb, h3⟩
def total : List (List Et) → Nat
  | [] => 0
  | l :: r => l.length + total r
theorem total_take (ls : List (List Et)) (k : Nat) (l : List Et) (h : ls[k]? = some l) : total (ls.take (k + 1)) = total (ls.take k) + l.length := by
  induction ls generalizing k with
  | nil => cases h
  | cons y ls ih =>
    cases k with
    | zero =>
      injection h with h
      subst h
      simp [total]
    | succ k =>
      have := ih k h
      rw [List.take_succ_cons, List.take_succ_cons, total, total, this]
      omega
theorem total_le (ls : List (List Et)) (k : Nat) : total (ls.take k) ≤ total ls := by
  induction ls generalizing k with
  | nil => simp
  | cons y l ih =>
    cases k with
    | zero => simp [total]
    | succ k => have := ih k; rw [List.take_succ_cons, total, total]; omega
theorem total_len (ls : List (List Et)) : ls.flatten.length = total ls := by
  induction ls with
  | nil => rfl
  | cons l ls ih => rw [List.flatten_cons, List.length_append, ih, total]
theorem flatten_take (ls : List (List Et)) (k : Nat) (l : List Et) (h : ls[k]? = some l) : (ls.take (k + 1)).flatten = (ls.take k).flatten ++ l := by
  obtain ⟨hk, he⟩ := List.getElem?_eq_some_iff.1 h
  rw [List.take_succ_eq_append_getElem hk, he, List.flatten_append, List.flatten_cons, List.flatten_nil, List.append_nil]
set_option maxRecDepth 100000 in
set_option maxHeartbeats 8000000 in
theorem concat_any (b m cc : Nat) (vs : List Value) (ls : List (List Et)) (w : World) (hb : b < w.heap.size) (hvl : vs.length = m) (hll : ls.length = m) (hm : m ≤ 1000)
    (hcell : ∀ (j : Nat) (v : Value), vs[j]? = some v → w.cell? ⟨b, j, none⟩ = some v) (hsrc : ∀ (j : Nat) (v : Value) (l : List Et), vs[j]? = some v → ls[j]? = some l → Src w v l) (htot : total ls ≤ 3000000000) :
    Calls Tryz.prog 37 #[.slice (some ⟨b, 0, none⟩) m cc] w (PartTo ls.flatten w) := by
  obtain ⟨i0, hi, hz0, hz1, hz2⟩ := info_parts infoE
  have HC := Lib.hid hcell
  have HS := Lib.hid hsrc
  have HT := Lib.hid hll
  have HV := Lib.hid hvl
  clear hcell hsrc hll hvl
  go_enter Tryz.func37, Tryz.ntmps37
  go_wp2_with fail
  go_loop [3, 11] (fun s i => ∃ k T : Nat, k ≤ m ∧ i = .int .i64 k ∧ s = .int .i64 (T : Nat) ∧ Hid (T = total (ls.take k))) (fun _ i => m - (intOf i).toNat)
  case atStart => exact ⟨0, 0, Nat.zero_le _, rfl, rfl, rfl⟩
  case round =>
    obtain ⟨k, T, hk, rfl, rfl, hT⟩ := hrel
    by_cases hlt : k < m
    · obtain ⟨v, hv⟩ : ∃ v, vs[k]? = some v := ⟨_, List.getElem?_eq_getElem (by have := HV.out; omega)⟩
      obtain ⟨l, hl⟩ : ∃ l, ls[k]? = some l := ⟨_, List.getElem?_eq_getElem (by have := HT.out; omega)⟩
      have c1 := HC.out k v hv
      obtain ⟨a, n, c, rfl, he, _⟩ := HS.out k v l hv hl
      have hnx := total_take ls k l hl
      have hle := total_le ls (k + 1)
      rw [hnx, ← hT.out, he.1] at hle
      rw [← hT.out, he.1] at hnx
      have HN := Lib.hid hnx
      clear hnx hT hv hl he
      go_wp2_with fail
      go_round
      case rel => exact ⟨k + 1, T + n, by omega, by go_num, by go_num, HN.out.symm⟩
      case measure => simp [intOf]; omega
    · obtain rfl : k = m := by omega
      have hT0 := hT.out
      rw [List.take_of_length_le (by have := HT.out; omega)] at hT0
      have cg := fun W => grow_any T W (by omega)
      have hT3 : T ≤ 3000000000 := by omega
      clear hT hT0 hlt
      go_wp2_with fail
      go_at_call 53
      refine (cg _).mono ?_
      rintro e w1 ⟨v0, rfl, ho0, hb0⟩
      clear cg
      go_wp2_with fail
      go_loopw [6, 27] (fun v i wr => ∃ k' : Nat, k' ≤ k ∧ i = .int .i64 k' ∧ Own wr w.heap.size v (ls.take k').flatten ∧ Below w.heap.size w wr) (fun _ i _ => k - (intOf i).toNat)
      case atStart => exact ⟨0, Nat.zero_le _, rfl, ho0, hb0⟩
      case round =>
        obtain ⟨j, hj, rfl, hown, hB⟩ := hrel
        by_cases hlt : j < k
        · obtain ⟨v, hv⟩ : ∃ v, vs[j]? = some v := ⟨_, List.getElem?_eq_getElem (by have := HV.out; omega)⟩
          obtain ⟨l, hl⟩ : ∃ l, ls[j]? = some l := ⟨_, List.getElem?_eq_getElem (by have := HT.out; omega)⟩
          have c1 := (hB.cell (p := ⟨b, _, none⟩) hb).trans (HC.out j v hv)
          obtain ⟨a, n, c, rfl, he, hnil⟩ := (HS.out j v l hv hl).below hB
          have hfl := flatten_take ls j l hl
          have hlen := total_len (ls.take j)
          have hle := total_le ls (j + 1)
          rw [total_take ls j l hl, he.1] at hle
          have hsz := hB.size
          obtain ⟨L, hL⟩ : ∃ L, L = (ls.take j).flatten := ⟨_, rfl⟩
          rw [← hL] at hown hfl hlen
          have HN := Lib.hid hfl
          have HLN := Lib.hid hlen
          clear hlen
          have hf2 := flat_len l
          rw [he.1] at hf2
          have hln := he.1
          clear hfl hv hl hL
          unfold Own at hown
          cases a with
          | none =>
            obtain rfl := hnil rfl
            have hn0 : n = 0 := by
              rcases he.2 with h | ⟨_, _, h, _⟩
              · exact h
              · cases h
            subst hn0
            obtain rfl : l = [] := List.length_eq_zero_iff.1 hln
            clear he hnil hf2
            go_wp2_with (at_builtin; refine stop_none rfl _ _ 22 rfl w.heap.size 50 i0 3 Tryz.underlying22 hi _ _ _ rfl hown rfl ?_)
            intro v' w2 hown' hb2
            have hb3 := below_call hB hb2
            clear hown hB
            go_wp2_with fail
            go_roundw
            case rel => exact ⟨j + 1, by omega, by go_num, by rw [HN.out, List.append_nil]; exact hown', hb3⟩
            case measure => simp [intOf]; omega
          | some x =>
            have hnews : ∀ q u, (l.flatMap cells)[q]? = some u → wr.cell? (x.add q) = some u := by
              rcases he.2 with h | ⟨bb, off, h, _, hc⟩
              · intro q u hq
                obtain rfl : l = [] := List.length_eq_zero_iff.1 (by omega)
                simp at hq
              · injection h with h
                subst h
                exact ents_flat hc
            have HW := Lib.hid hnews
            clear he hnil hnews
            go_wp2_with (at_builtin; refine wpList_append_own _ rfl _ _ 22 rfl w.heap.size 50 i0 (.agg #[.string ⟨#[]⟩, .int .i64 0, .string ⟨#[]⟩]) 3 40 Tryz.underlying22 hi hz0 hz1 hz2 rfl (by decide) _ _ _ rfl hown x n c (l.flatMap cells) rfl hf2 HW.out (flat_one l) ?c1 ?c2 hsz ?_)
            case c1 => have := HLN.out; unfold maxLen; omega
            case c2 => have := HLN.out; omega
            intro v' w2 hown' hgrow _
            have hb3 : Below w.heap.size w w2 := hB.grown hgrow hsz (fun k hk => (hown.lt k hk).1)
            have ht2 : Own w2 w.heap.size v' (L ++ l) := by
              unfold Own
              rw [List.length_append, List.flatMap_append, hln]
              exact hown'
            clear hown hown' hgrow hB
            go_wp2_with fail
            go_roundw
            case rel => exact ⟨j + 1, by omega, by go_num, by rw [HN.out]; exact ht2, hb3⟩
            case measure => simp [intOf]; omega
        · obtain rfl : j = k := by omega
          rw [List.take_of_length_le (by have := HT.out; omega)] at hown
          go_wp2_with fail
          go_ret
          exact ⟨_, rfl, hown, hB⟩
end Go.Proofs.YtkenmldiojeooaaGreat.En

namespace Go.Proofs.YtkenmldiojeooaaGreat.En
open Go.RowKit Tx Pm Pr
set_option linter.unusedVariables false
def one (p : ByteArray) (n : Nd) : List Et := if isno n = true then [] else [⟨p, n⟩]
end Go.Proofs.YtkenmldiojeooaaGreat.En

namespace Go.Proofs.YtkenmldiojeooaaGreat.En
open Go.RowKit Tx Pm Pr
set_option linter.unusedVariables false
theorem tree_len {l : List Et} (h : tcheck l = 0) : l.length ≤ 200 := by
  unfold tcheck at h
  split at h
  · cases h
  · omega
theorem Ents.drop {w : World} {b off n k : Nat} {l : List Et} (h : Ents w (some ⟨b, off, none⟩) n l) (hk : k ≤ n) : Ents w (some ⟨b, off + k * 3, none⟩) (n - k) (l.drop k) := by
  refine ⟨by rw [List.length_drop, h.1], ?_⟩
  by_cases h0 : n - k = 0
  · exact .inl h0
  · rcases h.2 with h1 | ⟨b', off', ha, hlt, hc⟩
    · omega
    · injection ha with ha
      injection ha with ha1 ha2
      subst ha1 ha2
      refine .inr ⟨b, off + k * 3, rfl, hlt, fun j x hx => ?_⟩
      rw [List.getElem?_drop] at hx
      have := hc _ x hx
      rw [show off + (k + j) * 3 = off + k * 3 + j * 3 by omega] at this
      exact this
theorem src_one {w : World} {x : Et} : Src (w.alloc (.cells #[.string x.path, .int .i64 x.node.kind, .string x.node.data] 50)) (.slice (some ⟨w.heap.size, 0, none⟩) 1 1) [x] := by
  refine ⟨_, _, _, rfl, ⟨rfl, .inr ⟨w.heap.size, 0, rfl, by simp, fun k y hy => ?_⟩⟩, fun h => by cases h⟩
  match k, hy with
  | 0, hy =>
    injection hy with hy
    subst hy
    refine ⟨?_, ?_, ?_⟩ <;> simp
  | k + 1, hy => simp at hy
end Go.Proofs.YtkenmldiojeooaaGreat.En

namespace Go.Proofs.YtkenmldiojeooaaGreat.En
open Go.RowKit Tx Pm Pr
set_option linter.unusedVariables false
set_option maxRecDepth 100000 in
set_option maxHeartbeats 1000000 in
theorem equalE_any (a b : Option Addr) (n m ca cb : Nat) (la lb : List Et) (w : World) (ha : Ents w a n la) (hb : Ents w b m lb) (hn : n ≤ 9223372036854775806) (hm : m ≤ 9223372036854775806) :
    Calls Tryz.prog 88 #[.slice a n ca, .slice b m cb] w (SameTo la lb w) := by
  obtain ⟨hla, hca⟩ := ha
  obtain ⟨hlb, hcb⟩ := hb
  by_cases hnm : n = m
  · subst hnm
    have e0 : ((n : Int) == n) = true := beq_self_eq_true _
    by_cases h0 : n = 0
    · subst h0
      obtain rfl : la = [] := List.length_eq_zero_iff.1 hla
      obtain rfl : lb = [] := List.length_eq_zero_iff.1 hlb
      clear hca hcb
      go_enter Tryz.func88, Tryz.ntmps88
      go_wp2
      go_loop [13] (fun i => i = .int .i64 0) (fun _ => 0)
      case atStart => exact rfl
      case round =>
        obtain rfl := hrel
        go_wp2
        go_ret
        exact ⟨true, Iff.intro (fun _ => rfl) (fun _ => rfl), rfl, Below.refl _ _⟩
    · obtain ⟨ba, oa, rfl, hba, hca⟩ := hca.resolve_left h0
      obtain ⟨bb, ob, rfl, hbb, hcb⟩ := hcb.resolve_left h0
      have HA := Lib.hid hca
      have HB := Lib.hid hcb
      clear hca hcb h0
      go_enter Tryz.func88, Tryz.ntmps88
      go_wp2_with fail
      go_loopw [13] (fun i wr => ∃ k : Nat, k ≤ n ∧ i = .int .i64 k ∧ Hid (la.take k = lb.take k) ∧ Below w.heap.size w wr) (fun i _ => n - (intOf i).toNat)
      case atStart => exact ⟨0, Nat.zero_le _, rfl, rfl, Below.refl _ _⟩
      case round =>
        obtain ⟨k, hk, rfl, hT, hW⟩ := hrel
        by_cases hlt : k < n
        · obtain ⟨x, hx⟩ : ∃ x, la[k]? = some x := ⟨_, List.getElem?_eq_getElem (by omega)⟩
          obtain ⟨y, hy⟩ : ∃ y, lb[k]? = some y := ⟨_, List.getElem?_eq_getElem (by omega)⟩
          obtain ⟨c1, c2, c3⟩ := HA.out k x hx
          obtain ⟨d1, d2, d3⟩ := HB.out k y hy
          have f1 := (hW.cell (p := ⟨ba, _, none⟩) hba).trans c1
          have f2 := (hW.cell (p := ⟨ba, _, none⟩) hba).trans c2
          have f3 := (hW.cell (p := ⟨ba, _, none⟩) hba).trans c3
          have g1 := (hW.cell (p := ⟨bb, _, none⟩) hbb).trans d1
          have g2 := (hW.cell (p := ⟨bb, _, none⟩) hbb).trans d2
          have g3 := (hW.cell (p := ⟨bb, _, none⟩) hbb).trans d3
          have hlt1 : (k : Int) < (n : Int) := by omega
          have hgE := guardE
          clear c1 c2 c3 d1 d2 d3
          obtain ⟨P, K, D⟩ := x
          obtain ⟨P', K', D'⟩ := y
          simp only at f1 f2 f3 g1 g2 g3
          by_cases e1 : P.toList = P'.toList
          · by_cases e2 : K = K'
            · by_cases e3 : D.toList = D'.toList
              · obtain rfl := to_list.1 e1
                obtain rfl := to_list.1 e3
                subst e2
                have HN := Lib.hid (at_next hx hy hT.out)
                clear hx hy hT hla hlb e1 e3
                go_wp2_with fail
                go_quiet (fail)
                go_wp2_with fail
                go_roundw
                case rel => exact ⟨k + 1, by omega, by go_num, HN, below_drewN hW _⟩
                case measure => simp [intOf]; omega
              · have HE := Lib.hid (not_same hx hy (fun h => by injection h with h1 h2; injection h2 with h2 h3; exact e3 (to_list.2 h3)))
                clear hx hy hT hla hlb
                go_wp2_with fail
                go_quiet (fail)
                go_wp2_with fail
                go_ret
                exact ⟨false, Iff.intro (fun h => by cases h) (fun h => absurd h HE.out), rfl, below_drewN hW _⟩
            · have HE := Lib.hid (not_same hx hy (fun h => by injection h with h1 h2; injection h2 with h2 h3; exact e2 h2))
              clear hx hy hT hla hlb
              go_wp2_with fail
              go_quiet (fail)
              go_wp2_with fail
              go_ret
              exact ⟨false, Iff.intro (fun h => by cases h) (fun h => absurd h HE.out), rfl, below_drewN hW _⟩
          · have HE := Lib.hid (not_same hx hy (fun h => by injection h with h1 h2; exact e1 (to_list.2 h1)))
            clear hx hy hT hla hlb
            go_wp2_with fail
            go_quiet (fail)
            go_wp2_with fail
            go_ret
            exact ⟨false, Iff.intro (fun h => by cases h) (fun h => absurd h HE.out), rfl, below_drewN hW _⟩
        · obtain rfl : k = n := by omega
          have h := hT.out
          rw [List.take_of_length_le (by omega), List.take_of_length_le (by omega)] at h
          have HE := Lib.hid h
          clear hT h hla hlb
          go_wp2_with fail
          go_ret
          exact ⟨true, Iff.intro (fun _ => HE.out) (fun _ => rfl), rfl, hW⟩
  · have e0 : ((n : Int) == m) = false := beq_eq_false_iff_ne.2 (by omega)
    have HE : Hid (la ≠ lb) := fun h => hnm (by rw [← hla, ← hlb, h])
    clear hnm hca hcb hla hlb
    go_enter Tryz.func88, Tryz.ntmps88
    go_wp2
    go_ret
    exact ⟨false, Iff.intro (fun h => by cases h) (fun h => absurd h HE.out), rfl, Below.refl _ _⟩
set_option maxRecDepth 100000 in
set_option maxHeartbeats 1000000 in
theorem sameI_any (a b : Option Addr) (n m ca cb : Nat) (la lb : List Et) (w : World) (ha : Ents w a n la) (hb : Ents w b m lb) (hn : n ≤ 9223372036854775806) (hm : m ≤ 9223372036854775806) :
    Calls Tryz.prog 58 #[.slice a n ca, .slice b m cb] w (SameTo la lb w) := by
  have ce := equalE_any a b n m ca cb la lb w ha hb hn hm
  clear ha hb
  go_enter Tryz.func58, Tryz.ntmps58
  go_wp2_with fail
  go_at_call 88
  refine ce.mono ?_
  rintro e w1 ⟨B, hB, rfl, hb1⟩
  have HB := Lib.hid hB
  clear hB
  go_wp2_with fail
  go_ret
  exact ⟨B, HB.out, rfl, hb1⟩
end Go.Proofs.YtkenmldiojeooaaGreat.En

namespace Go.Proofs.YtkenmldiojeooaaGreat.Rg
open Go.RowKit
variable {S : World → Prop} {P : Program}
theorem y_buildQ {o : Oper} {a : Act} {T : TypeId} {parts : Array (Nat × Operand)} {vs : Array (Nat × Value)} {v : Value} (ho : o.op = .build T parts) (hx : (parts.map fun (i, x) => (i, a.eval x)) = vs)
    (hv : ∀ w, S w → (Instr.build T vs).run P w = .ok v w) : ∀ w, S w → (execOp a.eval o).run P w = .ok (.value v) w := by
  intro w hw
  obtain ⟨dst, op, ty, pos, after, guard⟩ := o
  simp only at ho
  subst ho
  have := hv w hw
  simp only [execOp, Sem.run_bind]
  rw [hx, this]
  rfl
theorem y_ext {o : Oper} {a : Act} {k : Nat} {x : Operand} {vx v : Value} (ho : o.op = .extract x k) (hx : a.eval x = vx)
    (hv : ∀ w, S w → (Instr.extract vx k).run P w = .ok v w) : ∀ w, S w → (execOp a.eval o).run P w = .ok (.value v) w := by
  intro w hw
  obtain ⟨dst, op, ty, pos, after, guard⟩ := o
  simp only at ho
  subst ho
  have := hv w hw
  simp only [execOp, Sem.run_bind]
  rw [hx, this]
  rfl
end Go.Proofs.YtkenmldiojeooaaGreat.Rg
namespace Go.Proofs.YtkenmldiojeooaaGreat.Rc
open Go.RowKit Tx
set_option linter.unusedVariables false
def Box3 (b : Nat) (vA vH vS : Value) (W : World) : Prop := W.cell? ⟨b, 0, none⟩ = some vA ∧ W.cell? ⟨b, 1, none⟩ = some vH ∧ W.cell? ⟨b, 2, none⟩ = some vS
set_option maxRecDepth 100000 in
set_option maxHeartbeats 8000000 in
theorem atReg (ops : Array Oper) (hops : ops = (Rg.opsOf Tryz.f41 1)) (id : Nat) (b c na nh ns ca ch cs : Nat) (aA aH aS : Option Addr) (p : ByteArray) {u0 u3 u5 u6 u7 u8 u9 u10 u11 u12 u13 u14 u15 u16 u17 : Value} (w : World)
    (X : World → Prop) (K1 : Value → World → Prop) (K2 : Value → Value → World → Prop) (K3 K4 : Value → Value → Value → World → Prop)
    (hw0 : Box3 b (.slice aA na ca) (.slice aH nh ch) (.slice aS ns cs) w.drew) (hw1 : X w.drew)
    (hA : ∀ W, X W → Calls Tryz.prog 57 #[.slice aA na ca, .string p] W fun e w' => ∃ a n c, e = .returned (.slice a n c) ∧ K1 (.slice a n c) w') (hX1 : ∀ v W, K1 v W → Box3 b (.slice aA na ca) (.slice aH nh ch) (.slice aS ns cs) W)
    (hB : ∀ a n c W, K1 (.slice a n c) W → Calls Tryz.prog 57 #[.slice aH nh ch, .string p] W fun e w' => ∃ a2 n2 c2, e = .returned (.slice a2 n2 c2) ∧ K2 (.slice a n c) (.slice a2 n2 c2) w') (hX2 : ∀ v v' W, K2 v v' W → Box3 b (.slice aA na ca) (.slice aH nh ch) (.slice aS ns cs) W)
    (hC : ∀ a n c a2 n2 c2 W, K2 (.slice a n c) (.slice a2 n2 c2) W → Calls Tryz.prog 57 #[.slice aS ns cs, .string p] W fun e w' => ∃ a3 n3 c3, e = .returned (.slice a3 n3 c3) ∧ K3 (.slice a n c) (.slice a2 n2 c2) (.slice a3 n3 c3) w') (hX3 : ∀ v v' v2 W, K3 v v' v2 W → Box3 b (.slice aA na ca) (.slice aH nh ch) (.slice aS ns cs) W)
    (hSt : ∀ a n c0 a2 n2 c2 a3 n3 c3 W, K3 (.slice a n c0) (.slice a2 n2 c2) (.slice a3 n3 c3) W → ∃ W', (Instr.storeAt 53 (.pointer (some ⟨c, 0, none⟩)) (.agg #[.slice a n c0, .slice a2 n2 c2, .slice a3 n3 c3])).run Tryz.prog W = .ok () W' ∧ Box3 b (.slice aA na ca) (.slice aH nh ch) (.slice aS ns cs) W' ∧ K4 (.slice a n c0) (.slice a2 n2 c2) (.slice a3 n3 c3) W') :
    (Code.region id ops true).wp Tryz.prog (Rg.Only fun a' w' => ∃ a5 n5 c5 a6 n6 c6 a7 n7 c7, a' = ⟨#[u0, (.string p), (.pointer (some ⟨b, 0, none⟩)), u3, (.pointer (some ⟨c, 0, none⟩)), (.pointer (some ⟨b, 0, none⟩)), (.slice aA na ca), (.string p), (.slice a5 n5 c5), (.pointer (some ⟨b, 1, none⟩)), (.slice aH nh ch), (.string p), (.slice a6 n6 c6), (.pointer (some ⟨b, 2, none⟩)), (.slice aS ns cs), (.string p), (.slice a7 n7 c7), (.agg #[.slice a5 n5 c5, .slice a6 n6 c6, .slice a7 n7 c7])], []⟩ ∧ K4 (.slice a5 n5 c5) (.slice a6 n6 c6) (.slice a7 n7 c7) w') ⟨#[u0, (.string p), (.pointer (some ⟨b, 0, none⟩)), u3, (.pointer (some ⟨c, 0, none⟩)), u5, u6, u7, u8, u9, u10, u11, u12, u13, u14, u15, u16, u17], []⟩ w := by
  subst hops
  have hNS : Region.noSelect (Rg.opsOf Tryz.f41 1) = true := by kernel_rfl
  refine wp_region_held_drew (S := Box3 b (.slice aA na ca) (.slice aH nh ch) (.slice aS ns cs)) (by kernel_rfl) hw0 (fun hHeld => ?_)
  rw [show (Rg.opsOf Tryz.f41 1).size = 14 by kernel_rfl]
  refine Rg.take (ops := (Rg.opsOf Tryz.f41 1)) 0 (some 5) ((.pointer (some ⟨b, 0, none⟩))) hNS (by kernel_rfl) (by kernel_rfl) (by kernel_rfl) (by kernel_rfl) (by kernel_rfl) hHeld (Rg.y_field (T := 53) (k := 0) (x := (Operand.tmp 2)) (vx := (.pointer (some ⟨b, 0, none⟩))) (by kernel_rfl) (by kernel_rfl) ?_) ?_
  · (intro W hSw; clear hSw hHeld; go_simp)
  refine Rg.take (ops := (Rg.opsOf Tryz.f41 1)) 1 (some 6) ((.slice aA na ca)) hNS (by kernel_rfl) (by kernel_rfl) (by kernel_rfl) (by kernel_rfl) (by kernel_rfl) hHeld (Rg.y_load (T := 22) (x := (Operand.tmp 5)) (vx := (.pointer (some ⟨b, 0, none⟩))) (by kernel_rfl) (by kernel_rfl) ?_) ?_
  · (intro W hSw; obtain ⟨s0, s1, s2⟩ := hSw; clear hHeld; go_simp)
  refine Rg.take (ops := (Rg.opsOf Tryz.f41 1)) 2 (some 7) ((.string p)) hNS (by kernel_rfl) (by kernel_rfl) (by kernel_rfl) (by kernel_rfl) (by kernel_rfl) hHeld (Rg.y_move (x := (Operand.tmp 1)) (Or.inl (by kernel_rfl)) (by kernel_rfl)) ?_
  refine Rg.take (ops := (Rg.opsOf Tryz.f41 1)) 4 (some 9) ((.pointer (some ⟨b, 1, none⟩))) hNS (by kernel_rfl) (by kernel_rfl) (by kernel_rfl) (by kernel_rfl) (by kernel_rfl) hHeld (Rg.y_field (T := 53) (k := 1) (x := (Operand.tmp 2)) (vx := (.pointer (some ⟨b, 0, none⟩))) (by kernel_rfl) (by kernel_rfl) ?_) ?_
  · (intro W hSw; clear hSw hHeld; go_simp)
  refine Rg.take (ops := (Rg.opsOf Tryz.f41 1)) 5 (some 10) ((.slice aH nh ch)) hNS (by kernel_rfl) (by kernel_rfl) (by kernel_rfl) (by kernel_rfl) (by kernel_rfl) hHeld (Rg.y_load (T := 22) (x := (Operand.tmp 9)) (vx := (.pointer (some ⟨b, 1, none⟩))) (by kernel_rfl) (by kernel_rfl) ?_) ?_
  · (intro W hSw; obtain ⟨s0, s1, s2⟩ := hSw; clear hHeld; go_simp)
  refine Rg.take (ops := (Rg.opsOf Tryz.f41 1)) 6 (some 11) ((.string p)) hNS (by kernel_rfl) (by kernel_rfl) (by kernel_rfl) (by kernel_rfl) (by kernel_rfl) hHeld (Rg.y_move (x := (Operand.tmp 1)) (Or.inl (by kernel_rfl)) (by kernel_rfl)) ?_
  refine Rg.take (ops := (Rg.opsOf Tryz.f41 1)) 8 (some 13) ((.pointer (some ⟨b, 2, none⟩))) hNS (by kernel_rfl) (by kernel_rfl) (by kernel_rfl) (by kernel_rfl) (by kernel_rfl) hHeld (Rg.y_field (T := 53) (k := 2) (x := (Operand.tmp 2)) (vx := (.pointer (some ⟨b, 0, none⟩))) (by kernel_rfl) (by kernel_rfl) ?_) ?_
  · (intro W hSw; clear hSw hHeld; go_simp)
  refine Rg.take (ops := (Rg.opsOf Tryz.f41 1)) 9 (some 14) ((.slice aS ns cs)) hNS (by kernel_rfl) (by kernel_rfl) (by kernel_rfl) (by kernel_rfl) (by kernel_rfl) hHeld (Rg.y_load (T := 22) (x := (Operand.tmp 13)) (vx := (.pointer (some ⟨b, 2, none⟩))) (by kernel_rfl) (by kernel_rfl) ?_) ?_
  · (intro W hSw; obtain ⟨s0, s1, s2⟩ := hSw; clear hHeld; go_simp)
  refine Rg.take (ops := (Rg.opsOf Tryz.f41 1)) 10 (some 15) ((.string p)) hNS (by kernel_rfl) (by kernel_rfl) (by kernel_rfl) (by kernel_rfl) (by kernel_rfl) hHeld (Rg.y_move (x := (Operand.tmp 1)) (Or.inl (by kernel_rfl)) (by kernel_rfl)) ?_
  refine Rg.call (ops := (Rg.opsOf Tryz.f41 1)) (fn := Tryz.f57) (xs := #[Operand.tmp 6, Operand.tmp 7]) (ats := #[22, 9]) 3 (some 8) 57 #[(.slice aA na ca), (.string p)] (by kernel_rfl) (by kernel_rfl) (by kernel_rfl) (by kernel_rfl) (by kernel_rfl) Tryz.func57 (by kernel_rfl) (by kernel_rfl) (by kernel_rfl) ?_
  refine (hA _ hw1).mono ?_
  rintro e w5 ⟨a5, n5, c5, rfl, h5⟩
  refine ⟨_, rfl, hX1 _ _ h5, fun hHeld => ?_⟩
  refine Rg.call (ops := (Rg.opsOf Tryz.f41 1)) (fn := Tryz.f57) (xs := #[Operand.tmp 10, Operand.tmp 11]) (ats := #[22, 9]) 7 (some 12) 57 #[(.slice aH nh ch), (.string p)] (by kernel_rfl) (by kernel_rfl) (by kernel_rfl) (by kernel_rfl) (by kernel_rfl) Tryz.func57 (by kernel_rfl) (by kernel_rfl) (by kernel_rfl) ?_
  refine (hB _ _ _ _ h5).mono ?_
  rintro e w6 ⟨a6, n6, c6, rfl, h6⟩
  refine ⟨_, rfl, hX2 _ _ _ h6, fun hHeld => ?_⟩
  refine Rg.call (ops := (Rg.opsOf Tryz.f41 1)) (fn := Tryz.f57) (xs := #[Operand.tmp 14, Operand.tmp 15]) (ats := #[22, 9]) 11 (some 16) 57 #[(.slice aS ns cs), (.string p)] (by kernel_rfl) (by kernel_rfl) (by kernel_rfl) (by kernel_rfl) (by kernel_rfl) Tryz.func57 (by kernel_rfl) (by kernel_rfl) (by kernel_rfl) ?_
  refine (hC _ _ _ _ _ _ _ h6).mono ?_
  rintro e w7 ⟨a7, n7, c7, rfl, h7⟩
  refine ⟨_, rfl, hX3 _ _ _ _ h7, fun hHeld => ?_⟩
  refine Rg.take (ops := (Rg.opsOf Tryz.f41 1)) 12 (some 17) ((.agg #[.slice a5 n5 c5, .slice a6 n6 c6, .slice a7 n7 c7])) hNS (by kernel_rfl) (by kernel_rfl) (by kernel_rfl) (by kernel_rfl) (by kernel_rfl) hHeld (Rg.y_buildQ (T := 53) (parts := #[(0, Operand.tmp 8), (1, Operand.tmp 12), (2, Operand.tmp 16)]) (vs := #[(0, (.slice a5 n5 c5)), (1, (.slice a6 n6 c6)), (2, (.slice a7 n7 c7))]) (by kernel_rfl) (by kernel_rfl) ?_) ?_
  · (intro W hSw; clear hSw hHeld h5 h6 h7; go_simp)
  obtain ⟨w8, hr8, hX8, h8⟩ := hSt _ _ _ _ _ _ _ _ _ _ h7
  refine Rg.store (ops := (Rg.opsOf Tryz.f41 1)) 13 (T := 53) (x := (Operand.tmp 4)) (y := (Operand.tmp 17)) (vx := (.pointer (some ⟨c, 0, none⟩))) (vy := (.agg #[.slice a5 n5 c5, .slice a6 n6 c6, .slice a7 n7 c7])) (w1 := w8) (by kernel_rfl) (by kernel_rfl) (by kernel_rfl) (by kernel_rfl) (by kernel_rfl) (by kernel_rfl) (by kernel_rfl) ?_ (hX8) (fun hHeld => ?_)
  · exact hr8
  refine Rg.done (ops := (Rg.opsOf Tryz.f41 1)) (by kernel_rfl) ?_
  exact ⟨a5, n5, c5, a6, n6, c6, a7, n7, c7, by kernel_rfl, h8⟩
set_option maxRecDepth 100000 in
set_option maxHeartbeats 8000000 in
theorem weighReg (ops : Array Oper) (hops : ops = (Rg.opsOf Tryz.f42 4)) (id : Nat) (b na nh ns ca ch cs : Nat) (aA aH aS : Option Addr) (p : ByteArray) (BA : Bool) {u0 u3 u4 u5 u6 u7 u8 u9 u10 u11 u12 u13 u14 u15 u16 u17 u18 u19 u20 u21 u22 u23 u24 u25 u26 u27 u28 u29 u30 u31 u32 u33 u34 u35 u36 u37 u38 u39 u40 u41 u42 u43 u44 : Value} (w : World)
    (X K1 : World → Prop) (K2 : Value → World → Prop) (K3 : Value → Value → World → Prop) (K4 : Value → World → Prop)
    (hw0 : Box3 b (.slice aA na ca) (.slice aH nh ch) (.slice aS ns cs) w.drew) (hw1 : X w.drew)
    (hA : ∀ W, X W → Calls Tryz.prog 60 #[.slice aA na ca, .string p] W fun e w' => e = .returned (.bool BA) ∧ K1 w') (hX1 : ∀ W, K1 W → Box3 b (.slice aA na ca) (.slice aH nh ch) (.slice aS ns cs) W)
    (hB : ∀ W, K1 W → Calls Tryz.prog 59 #[.string p, .bool (!BA)] W fun e w' => ∃ v, e = .returned v ∧ K2 v w') (hX2 : ∀ v W, K2 v W → Box3 b (.slice aA na ca) (.slice aH nh ch) (.slice aS ns cs) W)
    (hC : ∀ v W, K2 v W → Calls Tryz.prog 28 #[.agg #[.slice aA na ca, .slice aH nh ch, .slice aS ns cs], .string p] W fun e w' => ∃ v', e = .returned v' ∧ K3 v v' w') (hX3 : ∀ v v' W, K3 v v' W → Box3 b (.slice aA na ca) (.slice aH nh ch) (.slice aS ns cs) W)
    (hE : ∀ v v' W, K3 v v' W → ∀ ty, ∃ v2 W', (Builtin.append_ #[26, 26] ty #[v, v']).run Tryz.prog W = .ok v2 W' ∧ Box3 b (.slice aA na ca) (.slice aH nh ch) (.slice aS ns cs) W' ∧ K4 v2 W') :
    (Code.region id ops true).wp Tryz.prog (Rg.Only fun a' w' => ∃ v6 v7 v8, a' = ⟨#[u0, (.string p), (.pointer (some ⟨b, 0, none⟩)), u3, v8, u5, u6, u7, u8, u9, u10, u11, u12, u13, u14, u15, u16, u17, u18, u19, u20, u21, u22, u23, u24, u25, u26, u27, (.string p), (.pointer (some ⟨b, 0, none⟩)), (.slice aA na ca), (.string p), (.bool BA), (.bool (!BA)), v6, (.agg #[.slice aA na ca, .slice aH nh ch, .slice aS ns cs]), (.string p), v7, v8, u39, u40, u41, u42, u43, u44], []⟩ ∧ K4 v8 w') ⟨#[u0, (.string p), (.pointer (some ⟨b, 0, none⟩)), u3, u4, u5, u6, u7, u8, u9, u10, u11, u12, u13, u14, u15, u16, u17, u18, u19, u20, u21, u22, u23, u24, u25, u26, u27, u28, u29, u30, u31, u32, u33, u34, u35, u36, u37, u38, u39, u40, u41, u42, u43, u44], []⟩ w := by
  subst hops
  have hNS : Region.noSelect (Rg.opsOf Tryz.f42 4) = true := by kernel_rfl
  refine wp_region_held_drew (S := Box3 b (.slice aA na ca) (.slice aH nh ch) (.slice aS ns cs)) (by kernel_rfl) hw0 (fun hHeld => ?_)
  rw [show (Rg.opsOf Tryz.f42 4).size = 12 by kernel_rfl]
  refine Rg.take (ops := (Rg.opsOf Tryz.f42 4)) 0 (some 28) ((.string p)) hNS (by kernel_rfl) (by kernel_rfl) (by kernel_rfl) (by kernel_rfl) (by kernel_rfl) hHeld (Rg.y_move (x := (Operand.tmp 1)) (Or.inl (by kernel_rfl)) (by kernel_rfl)) ?_
  refine Rg.take (ops := (Rg.opsOf Tryz.f42 4)) 1 (some 29) ((.pointer (some ⟨b, 0, none⟩))) hNS (by kernel_rfl) (by kernel_rfl) (by kernel_rfl) (by kernel_rfl) (by kernel_rfl) hHeld (Rg.y_field (T := 53) (k := 0) (x := (Operand.tmp 2)) (vx := (.pointer (some ⟨b, 0, none⟩))) (by kernel_rfl) (by kernel_rfl) ?_) ?_
  · (intro W hSw; clear hSw hHeld; go_simp)
  refine Rg.take (ops := (Rg.opsOf Tryz.f42 4)) 2 (some 30) ((.slice aA na ca)) hNS (by kernel_rfl) (by kernel_rfl) (by kernel_rfl) (by kernel_rfl) (by kernel_rfl) hHeld (Rg.y_load (T := 22) (x := (Operand.tmp 29)) (vx := (.pointer (some ⟨b, 0, none⟩))) (by kernel_rfl) (by kernel_rfl) ?_) ?_
  · (intro W hSw; obtain ⟨s0, s1, s2⟩ := hSw; clear hHeld; go_simp)
  refine Rg.take (ops := (Rg.opsOf Tryz.f42 4)) 3 (some 31) ((.string p)) hNS (by kernel_rfl) (by kernel_rfl) (by kernel_rfl) (by kernel_rfl) (by kernel_rfl) hHeld (Rg.y_move (x := (Operand.tmp 1)) (Or.inl (by kernel_rfl)) (by kernel_rfl)) ?_
  refine Rg.take (ops := (Rg.opsOf Tryz.f42 4)) 7 (some 35) ((.agg #[.slice aA na ca, .slice aH nh ch, .slice aS ns cs])) hNS (by kernel_rfl) (by kernel_rfl) (by kernel_rfl) (by kernel_rfl) (by kernel_rfl) hHeld (Rg.y_load (T := 53) (x := (Operand.tmp 2)) (vx := (.pointer (some ⟨b, 0, none⟩))) (by kernel_rfl) (by kernel_rfl) ?_) ?_
  · (intro W hSw; obtain ⟨s0, s1, s2⟩ := hSw; clear hHeld; go_simp)
  refine Rg.take (ops := (Rg.opsOf Tryz.f42 4)) 8 (some 36) ((.string p)) hNS (by kernel_rfl) (by kernel_rfl) (by kernel_rfl) (by kernel_rfl) (by kernel_rfl) hHeld (Rg.y_move (x := (Operand.tmp 1)) (Or.inl (by kernel_rfl)) (by kernel_rfl)) ?_
  refine Rg.call (ops := (Rg.opsOf Tryz.f42 4)) (fn := Tryz.f60) (xs := #[Operand.tmp 30, Operand.tmp 31]) (ats := #[22, 9]) 4 (some 32) 60 #[(.slice aA na ca), (.string p)] (by kernel_rfl) (by kernel_rfl) (by kernel_rfl) (by kernel_rfl) (by kernel_rfl) Tryz.func60 (by kernel_rfl) (by kernel_rfl) (by kernel_rfl) ?_
  refine (hA _ hw1).mono ?_
  rintro e w5 ⟨rfl, h5⟩
  refine ⟨_, rfl, hX1 _ h5, fun hHeld => ?_⟩
  refine Rg.take (ops := (Rg.opsOf Tryz.f42 4)) 5 (some 33) ((.bool (!BA))) hNS (by kernel_rfl) (by kernel_rfl) (by kernel_rfl) (by kernel_rfl) (by kernel_rfl) hHeld (Rg.y_un (b := UnOp.not) (T := 4) (x := (Operand.tmp 32)) (vx := (.bool BA)) (by kernel_rfl) (by kernel_rfl) ?_) ?_
  · (intro W hSw; clear hSw hHeld; go_simp)
  refine Rg.call (ops := (Rg.opsOf Tryz.f42 4)) (fn := Tryz.f59) (xs := #[Operand.tmp 28, Operand.tmp 33]) (ats := #[9, 4]) 6 (some 34) 59 #[(.string p), (.bool (!BA))] (by kernel_rfl) (by kernel_rfl) (by kernel_rfl) (by kernel_rfl) (by kernel_rfl) Tryz.func59 (by kernel_rfl) (by kernel_rfl) (by kernel_rfl) ?_
  refine (hB _ h5).mono ?_
  rintro e w6 ⟨v6, rfl, h6⟩
  refine ⟨_, rfl, hX2 _ _ h6, fun hHeld => ?_⟩
  refine Rg.call (ops := (Rg.opsOf Tryz.f42 4)) (fn := Tryz.f28) (xs := #[Operand.tmp 35, Operand.tmp 36]) (ats := #[53, 9]) 9 (some 37) 28 #[(.agg #[.slice aA na ca, .slice aH nh ch, .slice aS ns cs]), (.string p)] (by kernel_rfl) (by kernel_rfl) (by kernel_rfl) (by kernel_rfl) (by kernel_rfl) Tryz.func28 (by kernel_rfl) (by kernel_rfl) (by kernel_rfl) ?_
  refine (hC _ _ h6).mono ?_
  rintro e w7 ⟨v7, rfl, h7⟩
  refine ⟨_, rfl, hX3 _ _ _ h7, fun hHeld => ?_⟩
  refine Rg.app1 (ops := (Rg.opsOf Tryz.f42 4)) 10 (some 38) (T := 26) (x := (Operand.tmp 34)) (y := (Operand.tmp 37)) (vx := v6) (vy := v7) (by kernel_rfl) (by kernel_rfl) (by kernel_rfl) (by kernel_rfl) (by kernel_rfl) (by kernel_rfl) (by kernel_rfl) ?_
  intro ty
  obtain ⟨v8, w8, hr8, hX8, h8⟩ := hE _ _ _ h7 ty
  refine ⟨_, w8, hr8, hX8, fun hHeld => ?_⟩
  refine Rg.take (ops := (Rg.opsOf Tryz.f42 4)) 11 (some 4) (v8) hNS (by kernel_rfl) (by kernel_rfl) (by kernel_rfl) (by kernel_rfl) (by kernel_rfl) hHeld (Rg.y_move (x := (Operand.tmp 38)) (Or.inr (by kernel_rfl)) (by kernel_rfl)) ?_
  refine Rg.done (ops := (Rg.opsOf Tryz.f42 4)) (by kernel_rfl) ?_
  exact ⟨v6, v7, v8, by kernel_rfl, h8⟩
set_option maxRecDepth 100000 in
set_option maxHeartbeats 8000000 in
theorem unlikeReg (ops : Array Oper) (hops : ops = (Rg.opsOf Tryz.f61 5)) (id : Nat) (b na nh ns ca ch cs : Nat) (aA aH aS : Option Addr) (p : ByteArray) (n1 n2 n3 n4 : Value) (BM : Bool) {u0 u3 u4 u5 u6 u7 u8 u9 u10 u11 u12 u13 u14 u15 u16 u17 u18 u19 u20 u21 u22 u23 u24 u25 u26 u27 u28 u29 u30 u31 u32 u33 u34 u35 : Value} (w : World)
    (B : Nat → Option Nat → World → Prop) (hBX : ∀ i q W, B i q W → Box3 b (.slice aA na ca) (.slice aH nh ch) (.slice aS ns cs) W) (hq : B 0 none w.drew)
    (hAl : ∀ i W, B i none W → ∃ zz wz, (Instr.alloc 33 true (.tuple #[])).run Tryz.prog W = .ok (.pointer (some ⟨zz, 0, none⟩)) wz ∧ B i (some zz) wz)
    (hA : ∀ q W, B 0 q W → Calls Tryz.prog 89 #[(.slice aA na ca), .string p] W fun e w' => e = .returned n1 ∧ B 1 q w')
    (hB : ∀ q W, B 1 q W → Calls Tryz.prog 89 #[(.slice aH nh ch), .string p] W fun e w' => e = .returned n2 ∧ B 2 q w')
    (hC : ∀ q W, B 2 q W → Calls Tryz.prog 89 #[(.slice aS ns cs), .string p] W fun e w' => e = .returned n3 ∧ B 3 q w')
    (hD : ∀ q W, B 3 q W → Calls Tryz.prog 17 #[n1, n2, n3] W fun e w' => e = .returned (.tuple #[n4, .bool BM]) ∧ B 4 q w')
    (hSt : ∀ zz W, B 4 (some zz) W → ∃ W', (Instr.storeAt 33 (.pointer (some ⟨zz, 0, none⟩)) n4).run Tryz.prog W = .ok () W' ∧ B 5 (some zz) W') :
    (Code.region id ops true).wp Tryz.prog (Rg.Only fun a' w' => ∃ zz, a' = ⟨#[u0, (.string p), (.pointer (some ⟨b, 0, none⟩)), u3, u4, (.pointer (some ⟨zz, 0, none⟩)), (.bool BM), u7, u8, u9, u10, u11, u12, u13, u14, u15, u16, u17, u18, (.tuple #[n4, .bool BM]), (.pointer (some ⟨b, 0, none⟩)), (.slice aA na ca), (.string p), n1, (.pointer (some ⟨b, 1, none⟩)), (.slice aH nh ch), (.string p), n2, (.pointer (some ⟨b, 2, none⟩)), (.slice aS ns cs), (.string p), n3, (.tuple #[n4, .bool BM]), n4, (.bool BM), u35], []⟩ ∧ B 5 (some zz) w') ⟨#[u0, (.string p), (.pointer (some ⟨b, 0, none⟩)), u3, u4, u5, u6, u7, u8, u9, u10, u11, u12, u13, u14, u15, u16, u17, u18, u19, u20, u21, u22, u23, u24, u25, u26, u27, u28, u29, u30, u31, u32, u33, u34, u35], []⟩ w := by
  subst hops
  have hNS : Region.noSelect (Rg.opsOf Tryz.f61 5) = true := by kernel_rfl
  refine wp_region_held_drew (S := Box3 b (.slice aA na ca) (.slice aH nh ch) (.slice aS ns cs)) (by kernel_rfl) (hBX _ _ _ hq) (fun hHeld => ?_)
  rw [show (Rg.opsOf Tryz.f61 5).size = 19 by kernel_rfl]
  refine Rg.take (ops := (Rg.opsOf Tryz.f61 5)) 0 (some 20) ((.pointer (some ⟨b, 0, none⟩))) hNS (by kernel_rfl) (by kernel_rfl) (by kernel_rfl) (by kernel_rfl) (by kernel_rfl) hHeld (Rg.y_field (T := 53) (k := 0) (x := (Operand.tmp 2)) (vx := (.pointer (some ⟨b, 0, none⟩))) (by kernel_rfl) (by kernel_rfl) ?_) ?_
  · (intro W hSw; clear hSw hHeld; go_simp)
  refine Rg.take (ops := (Rg.opsOf Tryz.f61 5)) 1 (some 21) ((.slice aA na ca)) hNS (by kernel_rfl) (by kernel_rfl) (by kernel_rfl) (by kernel_rfl) (by kernel_rfl) hHeld (Rg.y_load (T := 22) (x := (Operand.tmp 20)) (vx := (.pointer (some ⟨b, 0, none⟩))) (by kernel_rfl) (by kernel_rfl) ?_) ?_
  · (intro W hSw; obtain ⟨s0, s1, s2⟩ := hSw; clear hHeld; go_simp)
  refine Rg.take (ops := (Rg.opsOf Tryz.f61 5)) 2 (some 22) ((.string p)) hNS (by kernel_rfl) (by kernel_rfl) (by kernel_rfl) (by kernel_rfl) (by kernel_rfl) hHeld (Rg.y_move (x := (Operand.tmp 1)) (Or.inl (by kernel_rfl)) (by kernel_rfl)) ?_
  refine Rg.take (ops := (Rg.opsOf Tryz.f61 5)) 4 (some 24) ((.pointer (some ⟨b, 1, none⟩))) hNS (by kernel_rfl) (by kernel_rfl) (by kernel_rfl) (by kernel_rfl) (by kernel_rfl) hHeld (Rg.y_field (T := 53) (k := 1) (x := (Operand.tmp 2)) (vx := (.pointer (some ⟨b, 0, none⟩))) (by kernel_rfl) (by kernel_rfl) ?_) ?_
  · (intro W hSw; clear hSw hHeld; go_simp)
  refine Rg.take (ops := (Rg.opsOf Tryz.f61 5)) 5 (some 25) ((.slice aH nh ch)) hNS (by kernel_rfl) (by kernel_rfl) (by kernel_rfl) (by kernel_rfl) (by kernel_rfl) hHeld (Rg.y_load (T := 22) (x := (Operand.tmp 24)) (vx := (.pointer (some ⟨b, 1, none⟩))) (by kernel_rfl) (by kernel_rfl) ?_) ?_
  · (intro W hSw; obtain ⟨s0, s1, s2⟩ := hSw; clear hHeld; go_simp)
  refine Rg.take (ops := (Rg.opsOf Tryz.f61 5)) 6 (some 26) ((.string p)) hNS (by kernel_rfl) (by kernel_rfl) (by kernel_rfl) (by kernel_rfl) (by kernel_rfl) hHeld (Rg.y_move (x := (Operand.tmp 1)) (Or.inl (by kernel_rfl)) (by kernel_rfl)) ?_
  refine Rg.take (ops := (Rg.opsOf Tryz.f61 5)) 8 (some 28) ((.pointer (some ⟨b, 2, none⟩))) hNS (by kernel_rfl) (by kernel_rfl) (by kernel_rfl) (by kernel_rfl) (by kernel_rfl) hHeld (Rg.y_field (T := 53) (k := 2) (x := (Operand.tmp 2)) (vx := (.pointer (some ⟨b, 0, none⟩))) (by kernel_rfl) (by kernel_rfl) ?_) ?_
  · (intro W hSw; clear hSw hHeld; go_simp)
  refine Rg.take (ops := (Rg.opsOf Tryz.f61 5)) 9 (some 29) ((.slice aS ns cs)) hNS (by kernel_rfl) (by kernel_rfl) (by kernel_rfl) (by kernel_rfl) (by kernel_rfl) hHeld (Rg.y_load (T := 22) (x := (Operand.tmp 28)) (vx := (.pointer (some ⟨b, 2, none⟩))) (by kernel_rfl) (by kernel_rfl) ?_) ?_
  · (intro W hSw; obtain ⟨s0, s1, s2⟩ := hSw; clear hHeld; go_simp)
  refine Rg.take (ops := (Rg.opsOf Tryz.f61 5)) 10 (some 30) ((.string p)) hNS (by kernel_rfl) (by kernel_rfl) (by kernel_rfl) (by kernel_rfl) (by kernel_rfl) hHeld (Rg.y_move (x := (Operand.tmp 1)) (Or.inl (by kernel_rfl)) (by kernel_rfl)) ?_
  refine Rg.two (ops := (Rg.opsOf Tryz.f61 5)) (i := 3) (j := 16) (by kernel_rfl) ?_ ?_
  · refine Rg.op_call (ops := (Rg.opsOf Tryz.f61 5)) (fn := Tryz.f89) (xs := #[Operand.tmp 21, Operand.tmp 22]) (ats := #[22, 9]) 3 (some 23) 89 #[(.slice aA na ca), (.string p)] (by kernel_rfl) (by kernel_rfl) (by kernel_rfl) (by kernel_rfl) Tryz.func89 (by kernel_rfl) (by kernel_rfl) (by kernel_rfl) ?_
    refine (hA _ _ hq).mono ?_
    clear hq
    rintro e w5 ⟨rfl, hq⟩
    refine ⟨_, rfl, hBX _ _ _ hq, fun hHeld => ?_⟩
    refine Rg.two (ops := (Rg.opsOf Tryz.f61 5)) (i := 7) (j := 16) (by kernel_rfl) ?_ ?_
    · refine Rg.op_call (ops := (Rg.opsOf Tryz.f61 5)) (fn := Tryz.f89) (xs := #[Operand.tmp 25, Operand.tmp 26]) (ats := #[22, 9]) 7 (some 27) 89 #[(.slice aH nh ch), (.string p)] (by kernel_rfl) (by kernel_rfl) (by kernel_rfl) (by kernel_rfl) Tryz.func89 (by kernel_rfl) (by kernel_rfl) (by kernel_rfl) ?_
      refine (hB _ _ hq).mono ?_
      clear hq
      rintro e w6 ⟨rfl, hq⟩
      refine ⟨_, rfl, hBX _ _ _ hq, fun hHeld => ?_⟩
      refine Rg.two (ops := (Rg.opsOf Tryz.f61 5)) (i := 11) (j := 16) (by kernel_rfl) ?_ ?_
      · refine Rg.op_call (ops := (Rg.opsOf Tryz.f61 5)) (fn := Tryz.f89) (xs := #[Operand.tmp 29, Operand.tmp 30]) (ats := #[22, 9]) 11 (some 31) 89 #[(.slice aS ns cs), (.string p)] (by kernel_rfl) (by kernel_rfl) (by kernel_rfl) (by kernel_rfl) Tryz.func89 (by kernel_rfl) (by kernel_rfl) (by kernel_rfl) ?_
        refine (hC _ _ hq).mono ?_
        clear hq
        rintro e w7 ⟨rfl, hq⟩
        refine ⟨_, rfl, hBX _ _ _ hq, fun hHeld => ?_⟩
        refine Rg.two (ops := (Rg.opsOf Tryz.f61 5)) (i := 12) (j := 16) (by kernel_rfl) ?_ ?_
        · refine Rg.op_call (ops := (Rg.opsOf Tryz.f61 5)) (fn := Tryz.f17) (xs := #[Operand.tmp 23, Operand.tmp 27, Operand.tmp 31]) (ats := #[33, 33, 33]) 12 (some 32) 17 #[n1, n2, n3] (by kernel_rfl) (by kernel_rfl) (by kernel_rfl) (by kernel_rfl) Tryz.func17 (by kernel_rfl) (by kernel_rfl) (by kernel_rfl) ?_
          refine (hD _ _ hq).mono ?_
          clear hq
          rintro e w8 ⟨rfl, hq⟩
          refine ⟨_, rfl, hBX _ _ _ hq, fun hHeld => ?_⟩
          refine Rg.take (ops := (Rg.opsOf Tryz.f61 5)) 13 (some 19) ((.tuple #[n4, .bool BM])) hNS (by kernel_rfl) (by kernel_rfl) (by kernel_rfl) (by kernel_rfl) (by kernel_rfl) hHeld (Rg.y_move (x := (Operand.tmp 32)) (Or.inl (by kernel_rfl)) (by kernel_rfl)) ?_
          refine Rg.take (ops := (Rg.opsOf Tryz.f61 5)) 14 (some 33) (n4) hNS (by kernel_rfl) (by kernel_rfl) (by kernel_rfl) (by kernel_rfl) (by kernel_rfl) hHeld (Rg.y_ext (x := (Operand.tmp 19)) (k := 0) (vx := (.tuple #[n4, .bool BM])) (by kernel_rfl) (by kernel_rfl) ?_) ?_
          · (intro W hSw; clear hSw hHeld hq; go_simp)
          refine Rg.take (ops := (Rg.opsOf Tryz.f61 5)) 15 (some 34) ((.bool BM)) hNS (by kernel_rfl) (by kernel_rfl) (by kernel_rfl) (by kernel_rfl) (by kernel_rfl) hHeld (Rg.y_ext (x := (Operand.tmp 19)) (k := 1) (vx := (.tuple #[n4, .bool BM])) (by kernel_rfl) (by kernel_rfl) ?_) ?_
          · (intro W hSw; clear hSw hHeld hq; go_simp)
          refine Rg.one (ops := (Rg.opsOf Tryz.f61 5)) (i := 16) (by kernel_rfl) ?_
          obtain ⟨zz, wz, hrun, hq⟩ := hAl _ _ hq
          refine Rg.op_alloc (ops := (Rg.opsOf Tryz.f61 5)) 16 (some 5) (T := 33) (v := (.pointer (some ⟨zz, 0, none⟩))) (w1 := wz) (by kernel_rfl) (by kernel_rfl) (by kernel_rfl) (by kernel_rfl) ?_ (hBX _ _ _ hq) (fun hHeld => ?_)
          · exact hrun
          obtain ⟨w9, hr9, hq⟩ := hSt _ _ hq
          refine Rg.store (ops := (Rg.opsOf Tryz.f61 5)) 17 (T := 33) (x := (Operand.tmp 5)) (y := (Operand.tmp 33)) (vx := (.pointer (some ⟨zz, 0, none⟩))) (vy := n4) (w1 := w9) (by kernel_rfl) (by kernel_rfl) (by kernel_rfl) (by kernel_rfl) (by kernel_rfl) (by kernel_rfl) (by kernel_rfl) ?_ (hBX _ _ _ hq) (fun hHeld => ?_)
          · exact hr9
          refine Rg.take (ops := (Rg.opsOf Tryz.f61 5)) 18 (some 6) ((.bool BM)) hNS (by kernel_rfl) (by kernel_rfl) (by kernel_rfl) (by kernel_rfl) (by kernel_rfl) hHeld (Rg.y_move (x := (Operand.tmp 34)) (Or.inr (by kernel_rfl)) (by kernel_rfl)) ?_
          refine Rg.done (ops := (Rg.opsOf Tryz.f61 5)) (by kernel_rfl) ?_
          exact ⟨zz, by kernel_rfl, hq⟩
        · obtain ⟨zz, wz, hrun, hq⟩ := hAl _ _ hq
          refine Rg.op_alloc (ops := (Rg.opsOf Tryz.f61 5)) 16 (some 5) (T := 33) (v := (.pointer (some ⟨zz, 0, none⟩))) (w1 := wz) (by kernel_rfl) (by kernel_rfl) (by kernel_rfl) (by kernel_rfl) ?_ (hBX _ _ _ hq) (fun hHeld => ?_)
          · exact hrun
          refine Rg.call (ops := (Rg.opsOf Tryz.f61 5)) (fn := Tryz.f17) (xs := #[Operand.tmp 23, Operand.tmp 27, Operand.tmp 31]) (ats := #[33, 33, 33]) 12 (some 32) 17 #[n1, n2, n3] (by kernel_rfl) (by kernel_rfl) (by kernel_rfl) (by kernel_rfl) (by kernel_rfl) Tryz.func17 (by kernel_rfl) (by kernel_rfl) (by kernel_rfl) ?_
          refine (hD _ _ hq).mono ?_
          clear hq
          rintro e w8 ⟨rfl, hq⟩
          refine ⟨_, rfl, hBX _ _ _ hq, fun hHeld => ?_⟩
          refine Rg.take (ops := (Rg.opsOf Tryz.f61 5)) 13 (some 19) ((.tuple #[n4, .bool BM])) hNS (by kernel_rfl) (by kernel_rfl) (by kernel_rfl) (by kernel_rfl) (by kernel_rfl) hHeld (Rg.y_move (x := (Operand.tmp 32)) (Or.inl (by kernel_rfl)) (by kernel_rfl)) ?_
          refine Rg.take (ops := (Rg.opsOf Tryz.f61 5)) 14 (some 33) (n4) hNS (by kernel_rfl) (by kernel_rfl) (by kernel_rfl) (by kernel_rfl) (by kernel_rfl) hHeld (Rg.y_ext (x := (Operand.tmp 19)) (k := 0) (vx := (.tuple #[n4, .bool BM])) (by kernel_rfl) (by kernel_rfl) ?_) ?_
          · (intro W hSw; clear hSw hHeld hq; go_simp)
          refine Rg.take (ops := (Rg.opsOf Tryz.f61 5)) 15 (some 34) ((.bool BM)) hNS (by kernel_rfl) (by kernel_rfl) (by kernel_rfl) (by kernel_rfl) (by kernel_rfl) hHeld (Rg.y_ext (x := (Operand.tmp 19)) (k := 1) (vx := (.tuple #[n4, .bool BM])) (by kernel_rfl) (by kernel_rfl) ?_) ?_
          · (intro W hSw; clear hSw hHeld hq; go_simp)
          obtain ⟨w9, hr9, hq⟩ := hSt _ _ hq
          refine Rg.store (ops := (Rg.opsOf Tryz.f61 5)) 17 (T := 33) (x := (Operand.tmp 5)) (y := (Operand.tmp 33)) (vx := (.pointer (some ⟨zz, 0, none⟩))) (vy := n4) (w1 := w9) (by kernel_rfl) (by kernel_rfl) (by kernel_rfl) (by kernel_rfl) (by kernel_rfl) (by kernel_rfl) (by kernel_rfl) ?_ (hBX _ _ _ hq) (fun hHeld => ?_)
          · exact hr9
          refine Rg.take (ops := (Rg.opsOf Tryz.f61 5)) 18 (some 6) ((.bool BM)) hNS (by kernel_rfl) (by kernel_rfl) (by kernel_rfl) (by kernel_rfl) (by kernel_rfl) hHeld (Rg.y_move (x := (Operand.tmp 34)) (Or.inr (by kernel_rfl)) (by kernel_rfl)) ?_
          refine Rg.done (ops := (Rg.opsOf Tryz.f61 5)) (by kernel_rfl) ?_
          exact ⟨zz, by kernel_rfl, hq⟩
      · obtain ⟨zz, wz, hrun, hq⟩ := hAl _ _ hq
        refine Rg.op_alloc (ops := (Rg.opsOf Tryz.f61 5)) 16 (some 5) (T := 33) (v := (.pointer (some ⟨zz, 0, none⟩))) (w1 := wz) (by kernel_rfl) (by kernel_rfl) (by kernel_rfl) (by kernel_rfl) ?_ (hBX _ _ _ hq) (fun hHeld => ?_)
        · exact hrun
        refine Rg.call (ops := (Rg.opsOf Tryz.f61 5)) (fn := Tryz.f89) (xs := #[Operand.tmp 29, Operand.tmp 30]) (ats := #[22, 9]) 11 (some 31) 89 #[(.slice aS ns cs), (.string p)] (by kernel_rfl) (by kernel_rfl) (by kernel_rfl) (by kernel_rfl) (by kernel_rfl) Tryz.func89 (by kernel_rfl) (by kernel_rfl) (by kernel_rfl) ?_
        refine (hC _ _ hq).mono ?_
        clear hq
        rintro e w7 ⟨rfl, hq⟩
        refine ⟨_, rfl, hBX _ _ _ hq, fun hHeld => ?_⟩
        refine Rg.call (ops := (Rg.opsOf Tryz.f61 5)) (fn := Tryz.f17) (xs := #[Operand.tmp 23, Operand.tmp 27, Operand.tmp 31]) (ats := #[33, 33, 33]) 12 (some 32) 17 #[n1, n2, n3] (by kernel_rfl) (by kernel_rfl) (by kernel_rfl) (by kernel_rfl) (by kernel_rfl) Tryz.func17 (by kernel_rfl) (by kernel_rfl) (by kernel_rfl) ?_
        refine (hD _ _ hq).mono ?_
        clear hq
        rintro e w8 ⟨rfl, hq⟩
        refine ⟨_, rfl, hBX _ _ _ hq, fun hHeld => ?_⟩
        refine Rg.take (ops := (Rg.opsOf Tryz.f61 5)) 13 (some 19) ((.tuple #[n4, .bool BM])) hNS (by kernel_rfl) (by kernel_rfl) (by kernel_rfl) (by kernel_rfl) (by kernel_rfl) hHeld (Rg.y_move (x := (Operand.tmp 32)) (Or.inl (by kernel_rfl)) (by kernel_rfl)) ?_
        refine Rg.take (ops := (Rg.opsOf Tryz.f61 5)) 14 (some 33) (n4) hNS (by kernel_rfl) (by kernel_rfl) (by kernel_rfl) (by kernel_rfl) (by kernel_rfl) hHeld (Rg.y_ext (x := (Operand.tmp 19)) (k := 0) (vx := (.tuple #[n4, .bool BM])) (by kernel_rfl) (by kernel_rfl) ?_) ?_
        · (intro W hSw; clear hSw hHeld hq; go_simp)
        refine Rg.take (ops := (Rg.opsOf Tryz.f61 5)) 15 (some 34) ((.bool BM)) hNS (by kernel_rfl) (by kernel_rfl) (by kernel_rfl) (by kernel_rfl) (by kernel_rfl) hHeld (Rg.y_ext (x := (Operand.tmp 19)) (k := 1) (vx := (.tuple #[n4, .bool BM])) (by kernel_rfl) (by kernel_rfl) ?_) ?_
        · (intro W hSw; clear hSw hHeld hq; go_simp)
        obtain ⟨w9, hr9, hq⟩ := hSt _ _ hq
        refine Rg.store (ops := (Rg.opsOf Tryz.f61 5)) 17 (T := 33) (x := (Operand.tmp 5)) (y := (Operand.tmp 33)) (vx := (.pointer (some ⟨zz, 0, none⟩))) (vy := n4) (w1 := w9) (by kernel_rfl) (by kernel_rfl) (by kernel_rfl) (by kernel_rfl) (by kernel_rfl) (by kernel_rfl) (by kernel_rfl) ?_ (hBX _ _ _ hq) (fun hHeld => ?_)
        · exact hr9
        refine Rg.take (ops := (Rg.opsOf Tryz.f61 5)) 18 (some 6) ((.bool BM)) hNS (by kernel_rfl) (by kernel_rfl) (by kernel_rfl) (by kernel_rfl) (by kernel_rfl) hHeld (Rg.y_move (x := (Operand.tmp 34)) (Or.inr (by kernel_rfl)) (by kernel_rfl)) ?_
        refine Rg.done (ops := (Rg.opsOf Tryz.f61 5)) (by kernel_rfl) ?_
        exact ⟨zz, by kernel_rfl, hq⟩
    · obtain ⟨zz, wz, hrun, hq⟩ := hAl _ _ hq
      refine Rg.op_alloc (ops := (Rg.opsOf Tryz.f61 5)) 16 (some 5) (T := 33) (v := (.pointer (some ⟨zz, 0, none⟩))) (w1 := wz) (by kernel_rfl) (by kernel_rfl) (by kernel_rfl) (by kernel_rfl) ?_ (hBX _ _ _ hq) (fun hHeld => ?_)
      · exact hrun
      refine Rg.call (ops := (Rg.opsOf Tryz.f61 5)) (fn := Tryz.f89) (xs := #[Operand.tmp 25, Operand.tmp 26]) (ats := #[22, 9]) 7 (some 27) 89 #[(.slice aH nh ch), (.string p)] (by kernel_rfl) (by kernel_rfl) (by kernel_rfl) (by kernel_rfl) (by kernel_rfl) Tryz.func89 (by kernel_rfl) (by kernel_rfl) (by kernel_rfl) ?_
      refine (hB _ _ hq).mono ?_
      clear hq
      rintro e w6 ⟨rfl, hq⟩
      refine ⟨_, rfl, hBX _ _ _ hq, fun hHeld => ?_⟩
      refine Rg.call (ops := (Rg.opsOf Tryz.f61 5)) (fn := Tryz.f89) (xs := #[Operand.tmp 29, Operand.tmp 30]) (ats := #[22, 9]) 11 (some 31) 89 #[(.slice aS ns cs), (.string p)] (by kernel_rfl) (by kernel_rfl) (by kernel_rfl) (by kernel_rfl) (by kernel_rfl) Tryz.func89 (by kernel_rfl) (by kernel_rfl) (by kernel_rfl) ?_
      refine (hC _ _ hq).mono ?_
      clear hq
      rintro e w7 ⟨rfl, hq⟩
      refine ⟨_, rfl, hBX _ _ _ hq, fun hHeld => ?_⟩
      refine Rg.call (ops := (Rg.opsOf Tryz.f61 5)) (fn := Tryz.f17) (xs := #[Operand.tmp 23, Operand.tmp 27, Operand.tmp 31]) (ats := #[33, 33, 33]) 12 (some 32) 17 #[n1, n2, n3] (by kernel_rfl) (by kernel_rfl) (by kernel_rfl) (by kernel_rfl) (by kernel_rfl) Tryz.func17 (by kernel_rfl) (by kernel_rfl) (by kernel_rfl) ?_
      refine (hD _ _ hq).mono ?_
      clear hq
      rintro e w8 ⟨rfl, hq⟩
      refine ⟨_, rfl, hBX _ _ _ hq, fun hHeld => ?_⟩
      refine Rg.take (ops := (Rg.opsOf Tryz.f61 5)) 13 (some 19) ((.tuple #[n4, .bool BM])) hNS (by kernel_rfl) (by kernel_rfl) (by kernel_rfl) (by kernel_rfl) (by kernel_rfl) hHeld (Rg.y_move (x := (Operand.tmp 32)) (Or.inl (by kernel_rfl)) (by kernel_rfl)) ?_
      refine Rg.take (ops := (Rg.opsOf Tryz.f61 5)) 14 (some 33) (n4) hNS (by kernel_rfl) (by kernel_rfl) (by kernel_rfl) (by kernel_rfl) (by kernel_rfl) hHeld (Rg.y_ext (x := (Operand.tmp 19)) (k := 0) (vx := (.tuple #[n4, .bool BM])) (by kernel_rfl) (by kernel_rfl) ?_) ?_
      · (intro W hSw; clear hSw hHeld hq; go_simp)
      refine Rg.take (ops := (Rg.opsOf Tryz.f61 5)) 15 (some 34) ((.bool BM)) hNS (by kernel_rfl) (by kernel_rfl) (by kernel_rfl) (by kernel_rfl) (by kernel_rfl) hHeld (Rg.y_ext (x := (Operand.tmp 19)) (k := 1) (vx := (.tuple #[n4, .bool BM])) (by kernel_rfl) (by kernel_rfl) ?_) ?_
      · (intro W hSw; clear hSw hHeld hq; go_simp)
      obtain ⟨w9, hr9, hq⟩ := hSt _ _ hq
      refine Rg.store (ops := (Rg.opsOf Tryz.f61 5)) 17 (T := 33) (x := (Operand.tmp 5)) (y := (Operand.tmp 33)) (vx := (.pointer (some ⟨zz, 0, none⟩))) (vy := n4) (w1 := w9) (by kernel_rfl) (by kernel_rfl) (by kernel_rfl) (by kernel_rfl) (by kernel_rfl) (by kernel_rfl) (by kernel_rfl) ?_ (hBX _ _ _ hq) (fun hHeld => ?_)
      · exact hr9
      refine Rg.take (ops := (Rg.opsOf Tryz.f61 5)) 18 (some 6) ((.bool BM)) hNS (by kernel_rfl) (by kernel_rfl) (by kernel_rfl) (by kernel_rfl) (by kernel_rfl) hHeld (Rg.y_move (x := (Operand.tmp 34)) (Or.inr (by kernel_rfl)) (by kernel_rfl)) ?_
      refine Rg.done (ops := (Rg.opsOf Tryz.f61 5)) (by kernel_rfl) ?_
      exact ⟨zz, by kernel_rfl, hq⟩
  · obtain ⟨zz, wz, hrun, hq⟩ := hAl _ _ hq
    refine Rg.op_alloc (ops := (Rg.opsOf Tryz.f61 5)) 16 (some 5) (T := 33) (v := (.pointer (some ⟨zz, 0, none⟩))) (w1 := wz) (by kernel_rfl) (by kernel_rfl) (by kernel_rfl) (by kernel_rfl) ?_ (hBX _ _ _ hq) (fun hHeld => ?_)
    · exact hrun
    refine Rg.call (ops := (Rg.opsOf Tryz.f61 5)) (fn := Tryz.f89) (xs := #[Operand.tmp 21, Operand.tmp 22]) (ats := #[22, 9]) 3 (some 23) 89 #[(.slice aA na ca), (.string p)] (by kernel_rfl) (by kernel_rfl) (by kernel_rfl) (by kernel_rfl) (by kernel_rfl) Tryz.func89 (by kernel_rfl) (by kernel_rfl) (by kernel_rfl) ?_
    refine (hA _ _ hq).mono ?_
    clear hq
    rintro e w5 ⟨rfl, hq⟩
    refine ⟨_, rfl, hBX _ _ _ hq, fun hHeld => ?_⟩
    refine Rg.call (ops := (Rg.opsOf Tryz.f61 5)) (fn := Tryz.f89) (xs := #[Operand.tmp 25, Operand.tmp 26]) (ats := #[22, 9]) 7 (some 27) 89 #[(.slice aH nh ch), (.string p)] (by kernel_rfl) (by kernel_rfl) (by kernel_rfl) (by kernel_rfl) (by kernel_rfl) Tryz.func89 (by kernel_rfl) (by kernel_rfl) (by kernel_rfl) ?_
    refine (hB _ _ hq).mono ?_
    clear hq
    rintro e w6 ⟨rfl, hq⟩
    refine ⟨_, rfl, hBX _ _ _ hq, fun hHeld => ?_⟩
    refine Rg.call (ops := (Rg.opsOf Tryz.f61 5)) (fn := Tryz.f89) (xs := #[Operand.tmp 29, Operand.tmp 30]) (ats := #[22, 9]) 11 (some 31) 89 #[(.slice aS ns cs), (.string p)] (by kernel_rfl) (by kernel_rfl) (by kernel_rfl) (by kernel_rfl) (by kernel_rfl) Tryz.func89 (by kernel_rfl) (by kernel_rfl) (by kernel_rfl) ?_
    refine (hC _ _ hq).mono ?_
    clear hq
    rintro e w7 ⟨rfl, hq⟩
    refine ⟨_, rfl, hBX _ _ _ hq, fun hHeld => ?_⟩
    refine Rg.call (ops := (Rg.opsOf Tryz.f61 5)) (fn := Tryz.f17) (xs := #[Operand.tmp 23, Operand.tmp 27, Operand.tmp 31]) (ats := #[33, 33, 33]) 12 (some 32) 17 #[n1, n2, n3] (by kernel_rfl) (by kernel_rfl) (by kernel_rfl) (by kernel_rfl) (by kernel_rfl) Tryz.func17 (by kernel_rfl) (by kernel_rfl) (by kernel_rfl) ?_
    refine (hD _ _ hq).mono ?_
    clear hq
    rintro e w8 ⟨rfl, hq⟩
    refine ⟨_, rfl, hBX _ _ _ hq, fun hHeld => ?_⟩
    refine Rg.take (ops := (Rg.opsOf Tryz.f61 5)) 13 (some 19) ((.tuple #[n4, .bool BM])) hNS (by kernel_rfl) (by kernel_rfl) (by kernel_rfl) (by kernel_rfl) (by kernel_rfl) hHeld (Rg.y_move (x := (Operand.tmp 32)) (Or.inl (by kernel_rfl)) (by kernel_rfl)) ?_
    refine Rg.take (ops := (Rg.opsOf Tryz.f61 5)) 14 (some 33) (n4) hNS (by kernel_rfl) (by kernel_rfl) (by kernel_rfl) (by kernel_rfl) (by kernel_rfl) hHeld (Rg.y_ext (x := (Operand.tmp 19)) (k := 0) (vx := (.tuple #[n4, .bool BM])) (by kernel_rfl) (by kernel_rfl) ?_) ?_
    · (intro W hSw; clear hSw hHeld hq; go_simp)
    refine Rg.take (ops := (Rg.opsOf Tryz.f61 5)) 15 (some 34) ((.bool BM)) hNS (by kernel_rfl) (by kernel_rfl) (by kernel_rfl) (by kernel_rfl) (by kernel_rfl) hHeld (Rg.y_ext (x := (Operand.tmp 19)) (k := 1) (vx := (.tuple #[n4, .bool BM])) (by kernel_rfl) (by kernel_rfl) ?_) ?_
    · (intro W hSw; clear hSw hHeld hq; go_simp)
    obtain ⟨w9, hr9, hq⟩ := hSt _ _ hq
    refine Rg.store (ops := (Rg.opsOf Tryz.f61 5)) 17 (T := 33) (x := (Operand.tmp 5)) (y := (Operand.tmp 33)) (vx := (.pointer (some ⟨zz, 0, none⟩))) (vy := n4) (w1 := w9) (by kernel_rfl) (by kernel_rfl) (by kernel_rfl) (by kernel_rfl) (by kernel_rfl) (by kernel_rfl) (by kernel_rfl) ?_ (hBX _ _ _ hq) (fun hHeld => ?_)
    · exact hr9
    refine Rg.take (ops := (Rg.opsOf Tryz.f61 5)) 18 (some 6) ((.bool BM)) hNS (by kernel_rfl) (by kernel_rfl) (by kernel_rfl) (by kernel_rfl) (by kernel_rfl) hHeld (Rg.y_move (x := (Operand.tmp 34)) (Or.inr (by kernel_rfl)) (by kernel_rfl)) ?_
    refine Rg.done (ops := (Rg.opsOf Tryz.f61 5)) (by kernel_rfl) ?_
    exact ⟨zz, by kernel_rfl, hq⟩
end Go.Proofs.YtkenmldiojeooaaGreat.Rc

namespace Go.Proofs.YtkenmldiojeooaaGreat.Rc
open Go.RowKit Tx Pm Pr En
set_option linter.unusedVariables false
set_option linter.unusedSimpArgs false
set_option maxRecDepth 100000 in
set_option maxHeartbeats 4000000 in
theorem rightBelow_any (top p : ByteArray) (w : World) (hp : p ≠ ⟨#[]⟩) (hb : Blw top p) (hs : p.size ≤ 1000) :
    Calls Tryz.prog 38 #[.string top, .string p] w fun e w' => ∃ q, e = .returned (.string q) ∧ Right top p q ∧ Below w.heap.size w w' := by
  have HB := Lib.hid hb
  have HP := Lib.hid hp
  clear hb hp
  go_enter Tryz.func38, Tryz.ntmps38
  go_wp2_with fail
  go_loopw [1] (fun v wr => ∃ q : ByteArray, v = .string q ∧ q.size ≤ p.size ∧ Hid (q ≠ ⟨#[]⟩ ∧ Blw top q ∧ und p.data.toList q.data.toList = true) ∧ Below w.heap.size w wr) (fun v _ => match v with | .string q => q.size | _ => 0)
  case atStart => exact ⟨p, rfl, Nat.le_refl _, ⟨HP.out, HB.out, und_self _⟩, Below.refl _ _⟩
  case round =>
    obtain ⟨q, rfl, hq, hQ, hW⟩ := hrel
    have cp := fun W => pParent_any q W (by omega)
    obtain ⟨U, hU⟩ : ∃ U, U = tb (par q.data.toList) := ⟨_, rfl⟩
    rw [← hU] at cp
    by_cases hne : U = top
    · have e1 : (U.toList == top.toList) = true := by rw [hne]; exact beq_self_eq_true _
      have e2 : (U.toList != top.toList) = false := by unfold bne; rw [e1]; rfl
      have HR : Hid (Right top p q) := ⟨hQ.out.1, by rw [← hU]; exact hne, hQ.out.2.2⟩
      clear hU hne hQ
      go_wp2_with fail
      go_at_call 54
      refine (cp _).mono ?_
      rintro e w1 ⟨rfl, b1⟩
      have hW := bl_then hW b1
      clear cp b1
      go_wp2_with fail
      go_ret
      exact ⟨q, rfl, HR.out, hW⟩
    · have e1 : (U.toList == top.toList) = false := bytes_ne hne
      have e2 : (U.toList != top.toList) = true := by unfold bne; rw [e1]; rfl
      have hst := up_step hQ.out.1 hQ.out.2.1 (by rw [← hU]; exact hne)
      have hun := up_und hQ.out.2.2
      rw [← hU] at hst hun
      have hUne : U ≠ ⟨#[]⟩ := fun e => hst.2.1 (by rw [← tb_list (par q.data.toList), ← hU, e])
      have hlt := hst.2.2
      have HN : Hid (U ≠ ⟨#[]⟩ ∧ Blw top U ∧ und p.data.toList U.data.toList = true) := ⟨hUne, hst.1, hun⟩
      clear hU hne hQ hst hun hUne
      go_wp2_with fail
      go_at_call 54
      refine (cp _).mono ?_
      rintro e w1 ⟨rfl, b1⟩
      have hW := bl_then hW b1
      clear b1
      go_wp2_with fail
      go_at_call 54
      refine (cp _).mono ?_
      rintro e w2 ⟨rfl, b2⟩
      have hW := bl_then hW b2
      clear cp b2
      go_wp2_with fail
      go_roundw
      case rel => exact ⟨U, rfl, by omega, HN, hW⟩
      case measure => exact hlt
theorem io_one (w : World) (p : ByteArray) (n : Nat) : Io (w.alloc (.cells #[.string p, .int .i64 (n : Nat)] 31)) w.heap.size (.slice (some ⟨w.heap.size, 0, none⟩) 1 1) [(p, n)] := by
  refine ⟨rfl, .inr ⟨w.heap.size, 1, _, rfl, Nat.le_refl _, heap_alloc_new _ _, Nat.le_refl _, by decide, rfl, rfl⟩⟩
set_option maxRecDepth 100000 in
set_option maxHeartbeats 4000000 in
theorem agreed_any (p : ByteArray) (B : Bool) (w : World) :
    Calls Tryz.prog 59 #[.string p, .bool B] w fun e w' => ∃ v, e = .returned v ∧ Io w' w.heap.size v (if B = true then [(p, 1)] else []) ∧ Below w.heap.size w w' := by
  cases B
  · go_enter Tryz.func59, Tryz.ntmps59
    go_wp2_with fail
    go_ret
    exact ⟨_, rfl, io_nil _ _, Below.refl _ _⟩
  · go_enter Tryz.func59, Tryz.ntmps59
    go_wp2_with fail
    go_ret
    exact ⟨_, rfl, io_one w p 1, (Below.refl _ _).alloc (Nat.le_refl _) _⟩
set_option maxRecDepth 100000 in
set_option maxHeartbeats 4000000 in
theorem isFolder_any (a : Option Addr) (n c : Nat) (l : List Et) (p : ByteArray) (w : World) (hl : Ents w a n l) (hr : Rise l) (hn : n ≤ 1000000) (B : Bool) (hB : B = true ↔ (tget l p).kind = 1) :
    Calls Tryz.prog 60 #[.slice a n c, .string p] w fun e w' => e = .returned (.bool B) ∧ Below w.heap.size w w' := by
  have cg := fun W (hb : Below w.heap.size w W) => getR_any a n c l p W (hl.below hb) hr (by omega)
  unfold nv at cg
  generalize (tget l p).data = D at cg
  generalize (tget l p).kind = K at cg hB
  have hfd : ∀ (a : Int) (d : ByteArray) (w : World), (Instr.field 33 (.agg #[.int .i64 a, .string d]) 0).run Tryz.prog w = .ok (.int .i64 a) w := fun _ _ _ => by kernel_rfl
  have e1 : ((K : Int) == 1) = B := by
    cases B with
    | true => exact beq_iff_eq.2 (hB.1 rfl)
    | false => exact beq_eq_false_iff_ne.2 fun h => absurd (hB.2 h) (by decide)
  have CG := Lib.hid cg
  clear cg hl hr hB
  go_enter Tryz.func60, Tryz.ntmps60
  go_wp2_with fail
  go_at_call 89
  refine (CG.out _ (Below.refl _ _)).mono ?_
  rintro e w1 ⟨rfl, b1⟩
  go_wp2_with fail
  go_ret
  exact ⟨rfl, b1⟩
end Go.Proofs.YtkenmldiojeooaaGreat.Rc

namespace Go.Proofs.YtkenmldiojeooaaGreat.Rc
open Go.RowKit Tx Pm Pr En
set_option linter.unusedVariables false
set_option linter.unusedSimpArgs false
def AsksQ (er : F3 Nat) (tx : F3 ByteArray) (cf : F3 Nat) : Prop := ∀ (s t u : ByteArray) (w : World), s.size ≤ 1000000 → t.size ≤ 1000000 → u.size ≤ 1000000 → Calls Tryz.prog 32 #[.string s, .string t, .string u] w fun e w' => e = .returned (.tuple #[.string (if er s t u = 0 then tx s t u else ⟨#[]⟩), .int .i64 ((if er s t u = 0 then cf s t u else 0 : Nat) : Int), .int .i64 (er s t u : Nat)]) ∧ Below w.heap.size w w'
set_option maxRecDepth 100000 in
set_option maxHeartbeats 4000000 in
theorem rMarked_any {er : F3 Nat} {tx : F3 ByteArray} {cf : F3 Nat} (F : Fair er tx cf)
    (hR : ∀ (s t u : ByteArray) (w : World), s.size ≤ 1000000 → t.size ≤ 1000000 → u.size ≤ 1000000 → Calls Tryz.prog 32 #[.string s, .string t, .string u] w fun e w' => e = .returned (.tuple #[.string (if er s t u = 0 then tx s t u else ⟨#[]⟩), .int .i64 ((if er s t u = 0 then cf s t u else 0 : Nat) : Int), .int .i64 (er s t u : Nat)]) ∧ Below w.heap.size w w')
    (a h s : Nd) (w : World) (ha : a.data.size ≤ 1000000) (hh : h.data.size ≤ 1000000) (hs : s.data.size ≤ 1000000) :
    Calls Tryz.prog 19 #[nv a, nv h, nv s] w (MkTo er tx cf a h s w) := by
  have hbs : (base a).size ≤ 1000000 := by
    unfold base
    by_cases h2 : a.kind = 2
    · rw [if_pos h2]; exact ha
    · rw [if_neg h2]; exact Nat.zero_le _
  have cm := fun W => hR (base a) h.data s.data W hbs hh hs
  have hbig := F.big (base a) h.data s.data hbs hh hs
  have hers := F.ers (base a) h.data s.data
  have hfew := F.few (base a) h.data s.data
  unfold MkTo
  have kd := @mk_dir er tx cf a h s
  have ke := @mk_err er tx cf a h s
  have kb := @mk_big er tx cf a h s
  have ko := @mk_ok er tx cf a h s
  have hbase : a.kind = 2 → base a = a.data := fun h => by unfold base; rw [if_pos h]
  have hbase0 : a.kind ≠ 2 → base a = ⟨#[]⟩ := fun h => by unfold base; rw [if_neg h]
  obtain ⟨ka, da⟩ := a
  obtain ⟨kh, dh⟩ := h
  obtain ⟨ks, ds⟩ := s
  generalize mkE er tx ⟨ka, da⟩ ⟨kh, dh⟩ ⟨ks, ds⟩ = ME at kd ke kb ko ⊢
  generalize mkT er tx ⟨ka, da⟩ ⟨kh, dh⟩ ⟨ks, ds⟩ = MT at kd ke kb ko ⊢
  generalize mkN er tx cf ⟨ka, da⟩ ⟨kh, dh⟩ ⟨ks, ds⟩ = MN at kd ke kb ko ⊢
  simp only at kd ke kb ko hbase hbase0 cm hbig ha hh hs
  unfold nv
  by_cases e1 : kh = 2
  case neg =>
    obtain ⟨rfl, rfl, rfl⟩ := kd (.inl e1)
    have f1 : ((kh : Int) == 2) = false := beq_eq_false_iff_ne.2 e1
    clear kd ke kb ko hbase hbase0 cm
    go_enter Tryz.func19, Tryz.ntmps19
    go_wp2_with fail
    go_ret3
    exact ⟨rfl, below_three w _ _ _⟩
  subst e1
  by_cases e2 : ks = 2
  case neg =>
    obtain ⟨rfl, rfl, rfl⟩ := kd (.inr e2)
    have f1 : ((ks : Int) == 2) = false := beq_eq_false_iff_ne.2 e2
    clear kd ke kb ko hbase hbase0 cm
    go_enter Tryz.func19, Tryz.ntmps19
    go_wp2_with fail
    go_ret3
    exact ⟨rfl, below_three w _ _ _⟩
  subst e2
  clear kd
  generalize er (base ⟨ka, da⟩) dh ds = E at cm ke kb ko hers
  generalize tx (base ⟨ka, da⟩) dh ds = T at cm kb ko hbig
  generalize cf (base ⟨ka, da⟩) dh ds = C at cm ko hfew
  by_cases e3 : ka = 2
  · rw [hbase e3] at cm
    subst e3
    clear hbase hbase0
    by_cases he : E = 0
    case neg =>
      rw [if_neg he, if_neg he] at cm
      obtain ⟨rfl, rfl, rfl⟩ := ke (by trivial) (by trivial) he
      have f3 : ((ME : Int) == 0) = false := beq_eq_false_iff_ne.2 (by omega)
      clear ke kb ko
      go_enter Tryz.func19, Tryz.ntmps19
      go_wp2_with fail
      go_at_call 32
      refine (cm _).mono ?_
      rintro e w1 ⟨rfl, b1⟩
      have b1 := (below_three w _ _ _).trans (b1.mono (below_three w _ _ _).size)
      clear cm
      go_wp2_with fail
      go_ret3
      exact ⟨rfl, b1⟩
    subst he
    rw [if_pos rfl, if_pos rfl] at cm
    by_cases hb : 4096 < T.size
    · obtain ⟨rfl, rfl, rfl⟩ := kb (by trivial) (by trivial) (by trivial) hb
      have hb' : (4096 : Int) < (T.size : Int) := by omega
      clear ke kb ko
      go_enter Tryz.func19, Tryz.ntmps19
      go_wp2_with fail
      go_at_call 32
      refine (cm _).mono ?_
      rintro e w1 ⟨rfl, b1⟩
      have b1 := (below_three w _ _ _).trans (b1.mono (below_three w _ _ _).size)
      clear cm
      go_wp2_with fail
      go_ret3
      exact ⟨rfl, b1⟩
    · obtain ⟨rfl, rfl, rfl⟩ := ko (by trivial) (by trivial) (by trivial) hb
      have hb' : ¬ (4096 : Int) < (MT.size : Int) := by omega
      clear ke kb ko
      go_enter Tryz.func19, Tryz.ntmps19
      go_wp2_with fail
      go_at_call 32
      refine (cm _).mono ?_
      rintro e w1 ⟨rfl, b1⟩
      have b1 := (below_three w _ _ _).trans (b1.mono (below_three w _ _ _).size)
      clear cm
      go_wp2_with fail
      go_ret3
      exact ⟨rfl, b1⟩
  · rw [hbase0 e3] at cm
    have f1 : ((ka : Int) == 2) = false := beq_eq_false_iff_ne.2 e3
    clear hbase hbase0
    by_cases he : E = 0
    case neg =>
      rw [if_neg he, if_neg he] at cm
      obtain ⟨rfl, rfl, rfl⟩ := ke (by trivial) (by trivial) he
      have f3 : ((ME : Int) == 0) = false := beq_eq_false_iff_ne.2 (by omega)
      clear ke kb ko
      go_enter Tryz.func19, Tryz.ntmps19
      go_wp2_with fail
      go_at_call 32
      refine (cm _).mono ?_
      rintro e w1 ⟨rfl, b1⟩
      have b1 := (below_three w _ _ _).trans (b1.mono (below_three w _ _ _).size)
      clear cm
      go_wp2_with fail
      go_ret3
      exact ⟨rfl, b1⟩
    subst he
    rw [if_pos rfl, if_pos rfl] at cm
    by_cases hb : 4096 < T.size
    · obtain ⟨rfl, rfl, rfl⟩ := kb (by trivial) (by trivial) (by trivial) hb
      have hb' : (4096 : Int) < (T.size : Int) := by omega
      clear ke kb ko
      go_enter Tryz.func19, Tryz.ntmps19
      go_wp2_with fail
      go_at_call 32
      refine (cm _).mono ?_
      rintro e w1 ⟨rfl, b1⟩
      have b1 := (below_three w _ _ _).trans (b1.mono (below_three w _ _ _).size)
      clear cm
      go_wp2_with fail
      go_ret3
      exact ⟨rfl, b1⟩
    · obtain ⟨rfl, rfl, rfl⟩ := ko (by trivial) (by trivial) (by trivial) hb
      have hb' : ¬ (4096 : Int) < (MT.size : Int) := by omega
      clear ke kb ko
      go_enter Tryz.func19, Tryz.ntmps19
      go_wp2_with fail
      go_at_call 32
      refine (cm _).mono ?_
      rintro e w1 ⟨rfl, b1⟩
      have b1 := (below_three w _ _ _).trans (b1.mono (below_three w _ _ _).size)
      clear cm
      go_wp2_with fail
      go_ret3
      exact ⟨rfl, b1⟩
set_option maxRecDepth 100000 in
set_option maxHeartbeats 4000000 in
theorem rMerge_any {er : F3 Nat} {tx : F3 ByteArray} {cf : F3 Nat} (F : Fair er tx cf) (hR : AsksQ er tx cf)
    (a h s : Nd) (w : World) (ha : a.data.size ≤ 1000000) (hh : h.data.size ≤ 1000000) (hs : s.data.size ≤ 1000000) :
    Calls Tryz.prog 17 #[nv a, nv h, nv s] w (MgTo er tx cf a h s w) := by
  have cm := fun W => rMarked_any F hR a h s W ha hh hs
  unfold MkTo at cm
  obtain ⟨hfE, hfN⟩ := mk_few F a h s
  have g1 : mkE er tx a h s ≠ 0 ∨ mkN er tx cf a h s ≠ 0 → mg er tx cf a h s = false ∧ mgN er tx cf a h s = ⟨0, ⟨#[]⟩⟩ := by
    intro hc
    have : mg er tx cf a h s = false := by
      unfold mg
      rcases hc with hc | hc
      · rw [decide_eq_false hc]; rfl
      · rw [decide_eq_false hc, Bool.and_false]
    exact ⟨this, by unfold mgN; rw [if_neg (by rw [this]; simp)]⟩
  have g2 : mkE er tx a h s = 0 → mkN er tx cf a h s = 0 → mg er tx cf a h s = true ∧ mgN er tx cf a h s = ⟨2, mkT er tx a h s⟩ := by
    intro h1 h2
    have : mg er tx cf a h s = true := by unfold mg; rw [decide_eq_true h1, decide_eq_true h2]; rfl
    exact ⟨this, by unfold mgN; rw [if_pos this]⟩
  unfold MgTo
  generalize mkE er tx a h s = ME at cm g1 g2 hfE
  generalize mkT er tx a h s = MT at cm g2
  generalize mkN er tx cf a h s = MN at cm g1 g2 hfN
  obtain ⟨ka, da⟩ := a
  obtain ⟨kh, dh⟩ := h
  obtain ⟨ks, ds⟩ := s
  generalize mg er tx cf ⟨ka, da⟩ ⟨kh, dh⟩ ⟨ks, ds⟩ = B at g1 g2 ⊢
  generalize mgN er tx cf ⟨ka, da⟩ ⟨kh, dh⟩ ⟨ks, ds⟩ = V at g1 g2 ⊢
  unfold nv at cm ⊢
  by_cases hE : ME = 0
  case neg =>
    obtain ⟨rfl, rfl⟩ := g1 (.inl hE)
    have f3 : ((ME : Int) == 0) = false := beq_eq_false_iff_ne.2 (by omega)
    clear g1 g2
    go_enter Tryz.func17, Tryz.ntmps17
    go_wp2_with fail
    go_at_call 19
    refine (cm _).mono ?_
    rintro e w1 ⟨rfl, b1⟩
    have hblk := (b1.block (w.heap.size + 1 + 1 + 1) (by simp)).trans (fourth w _ _ _ _)
    have hB1 := (below_four w _ _ _ _).trans (b1.mono (below_four w _ _ _ _).size)
    obtain ⟨q1, q2, q3⟩ := cells_two hblk
    clear cm b1
    go_wp2_with fail
    (try simp only [Exit.inBlock, Exit.then])
    refine bodyPost_ret (res_cell_row rfl _ _ _ _ _ _ _ rfl (two_set hblk) Tryz.underlying33 rfl infoN) rfl ?_
    exact ⟨rfl, (hB1.setCell (by show w.heap.size ≤ w.heap.size + 1 + 1 + 1; omega) _).setCell (by show w.heap.size ≤ w.heap.size + 1 + 1 + 1; omega) _⟩
  subst hE
  by_cases hN : MN = 0
  case neg =>
    obtain ⟨rfl, rfl⟩ := g1 (.inr hN)
    have f3 : (0 : Int) < (MN : Int) := by omega
    clear g1 g2
    go_enter Tryz.func17, Tryz.ntmps17
    go_wp2_with fail
    go_at_call 19
    refine (cm _).mono ?_
    rintro e w1 ⟨rfl, b1⟩
    have hblk := (b1.block (w.heap.size + 1 + 1 + 1) (by simp)).trans (fourth w _ _ _ _)
    have hB1 := (below_four w _ _ _ _).trans (b1.mono (below_four w _ _ _ _).size)
    obtain ⟨q1, q2, q3⟩ := cells_two hblk
    clear cm b1
    go_wp2_with fail
    (try simp only [Exit.inBlock, Exit.then])
    refine bodyPost_ret (res_cell_row rfl _ _ _ _ _ _ _ rfl (two_set hblk) Tryz.underlying33 rfl infoN) rfl ?_
    exact ⟨rfl, (hB1.setCell (by show w.heap.size ≤ w.heap.size + 1 + 1 + 1; omega) _).setCell (by show w.heap.size ≤ w.heap.size + 1 + 1 + 1; omega) _⟩
  subst hN
  case pos =>
    obtain ⟨rfl, rfl⟩ := g2 rfl rfl
    clear g1 g2
    go_enter Tryz.func17, Tryz.ntmps17
    go_wp2_with fail
    go_at_call 19
    refine (cm _).mono ?_
    rintro e w1 ⟨rfl, b1⟩
    have hblk := (b1.block (w.heap.size + 1 + 1 + 1) (by simp)).trans (fourth w _ _ _ _)
    have hB1 := (below_four w _ _ _ _).trans (b1.mono (below_four w _ _ _ _).size)
    obtain ⟨q1, q2, q3⟩ := cells_two hblk
    clear cm b1
    go_wp2_with fail
    (try simp only [Exit.inBlock, Exit.then])
    refine bodyPost_ret (res_cell_row rfl _ _ _ _ _ _ _ rfl (two_set hblk) Tryz.underlying33 rfl infoN) rfl ?_
    exact ⟨rfl, (hB1.setCell (by show w.heap.size ≤ w.heap.size + 1 + 1 + 1; omega) _).setCell (by show w.heap.size ≤ w.heap.size + 1 + 1 + 1; omega) _⟩
end Go.Proofs.YtkenmldiojeooaaGreat.Rc

namespace Go.Proofs.YtkenmldiojeooaaGreat.Rc
open Go.RowKit Tx Pm Pr En
set_option linter.unusedVariables false
set_option linter.unusedSimpArgs false
theorem txt_le (s : ByteArray) : Ln.txt s ≤ 21 := by
  unfold Ln.txt
  repeat' split
  all_goals omega
theorem fair : Fair Mg.err3 Mg.mtx Mg.mcf where
  err := fun s t u h => by
    obtain ⟨h1, h2, h3, _⟩ := Mg.err_lines h
    unfold Mg.err3
    rw [if_neg (by omega), if_neg (by omega)]
    exact h2
  cfs := fun s t u h => by
    have h' : Mg.err3 s u t = 0 := by
      obtain ⟨h1, h2, h3, _⟩ := Mg.err_lines h
      unfold Mg.err3
      rw [if_neg (by omega), if_neg (by omega)]
      exact h2
    rw [(Mg.mg_ok h).2.1, (Mg.mg_ok h').2.1]
    exact (Mg.merge_flip s t u).1
  txs := fun s t u h hc => by
    have h' : Mg.err3 s u t = 0 := by
      obtain ⟨h1, h2, h3, _⟩ := Mg.err_lines h
      unfold Mg.err3
      rw [if_neg (by omega), if_neg (by omega)]
      exact h2
    rw [(Mg.mg_ok h).2.1] at hc
    rw [(Mg.mg_ok h).1, (Mg.mg_ok h').1]
    exact (Mg.merge_flip s t u).2 hc
  ers := fun s t u => by
    have := txt_le s
    have := txt_le t
    have := txt_le u
    unfold Mg.err3
    repeat' split
    all_goals omega
  few := fun s t u => by
    by_cases h : Mg.err3 s t u = 0
    · rw [(Mg.mg_ok h).2.1]
      obtain ⟨_, k2, k3⟩ := Mg.txs_size s t u
      obtain ⟨_, _, _, l1, l2, l3⟩ := Mg.err_lines h
      omega
    · rw [(Mg.mg_err h).2]; exact Nat.zero_le _
  big := fun s t u hs ht hu => by
    by_cases h : Mg.err3 s t u = 0
    · rw [(Mg.mg_ok h).1]
      obtain ⟨k1, k2, k3⟩ := Mg.txs_size s t u
      obtain ⟨_, _, _, l1, l2, l3⟩ := Mg.err_lines h
      omega
    · rw [(Mg.mg_err h).1]; exact Nat.zero_le _
theorem answers (s t u : ByteArray) : (if Mg.err3 s t u = 0 then Mg.mtx s t u else ⟨#[]⟩) = Mg.mtx s t u ∧ (if Mg.err3 s t u = 0 then Mg.mcf s t u else 0) = Mg.mcf s t u := by
  by_cases h : Mg.err3 s t u = 0
  · rw [if_pos h, if_pos h]; exact ⟨rfl, rfl⟩
  · rw [if_neg h, if_neg h, (Mg.mg_err h).1, (Mg.mg_err h).2]; exact ⟨rfl, rfl⟩
theorem asks_doc : AsksM Mg.err3 Mg.mtx Mg.mcf := fun s t u w hs ht hu => by
  have := Mg.refMerge_any s t u w (by omega) (by omega) (by omega)
  rw [(answers s t u).1, (answers s t u).2]
  exact this
theorem asks_own : AsksQ Mg.err3 Mg.mtx Mg.mcf := fun s t u w hs ht hu => by
  have := Mg.merge_any s t u w (by omega)
  rw [(answers s t u).1, (answers s t u).2]
  exact this
end Go.Proofs.YtkenmldiojeooaaGreat.Rc

namespace Go.Proofs.YtkenmldiojeooaaGreat.Rc
open Go.RowKit Tx Pm Pr En
set_option linter.unusedVariables false
set_option linter.unusedSimpArgs false
theorem own_src {w : World} {B : Nat} {v : Value} {l : List Et} (h : Own w B v l) : ∃ a n c, v = .slice a n c ∧ Ents w a n l ∧ (a = none → c = 0) := by
  obtain ⟨a, c, rfl, he, _, _⟩ := h.form
  refine ⟨a, _, c, rfl, he, fun e => ?_⟩
  subst e
  rcases h.2 with ⟨h0, _⟩ | ⟨g, cap, cur, h0, _⟩
  · injection h0
  · injection h0 with h0; cases h0
theorem cells_three {w1 : World} {b : Nat} {u v z : Value} {t : TypeId} (h : w1.heap[b]? = some (.cells #[u, v, z] t)) : w1.cell? ⟨b, 0, none⟩ = some u ∧ w1.cell? ⟨b, 1, none⟩ = some v ∧ w1.cell? ⟨b, 2, none⟩ = some z ∧ ∀ k, w1.frozen? ⟨b, k, none⟩ = false := by
  refine ⟨?_, ?_, ?_, fun k => frozen_of_row w1 b k _ _ h⟩ <;> simp [World.cell?, h]
theorem three_set {w1 : World} {b : Nat} {u v z x y s : Value} {t : TypeId} (h : w1.heap[b]? = some (.cells #[u, v, z] t)) : (((w1.setCell ⟨b, 0, none⟩ x).setCell ⟨b, 1, none⟩ y).setCell ⟨b, 2, none⟩ s).heap[b]? = some (.cells #[x, y, s] t) :=
  Go.heap_setCell_same _ b 2 _ _ _ (Go.heap_setCell_same _ b 1 _ _ _ (Go.heap_setCell_same _ b 0 _ _ x h))
theorem own_far {w : World} {B : Nat} {v : Value} {l : List Et} (h : Own w B v l) : ∀ g, v.ownBlock = some g → B ≤ g := by
  intro g hg
  rcases h.2 with ⟨rfl, _⟩ | ⟨g', cap, cur, rfl, hb, _⟩
  · cases hg
  · injection hg with hg
    rw [← hg]; exact hb
theorem own_set {w : World} {B b k : Nat} {v u : Value} {l : List Et} (h : Own w B v l) (hb : b < B) : Own (w.setCell ⟨b, k, none⟩ u) B v l :=
  ownsRow_setCell_other (a := ⟨b, k, none⟩) h (fun e => by
    have := own_far h _ e
    simp only at this
    omega) u
theorem infoP : (Tryz.prog.info? 53).map (·.size) = some 3 := by kernel_rfl
def AtTo (A H S : List Et) (p : ByteArray) (w : World) (e : Ending) (w' : World) : Prop := ∃ aA na ca aH nh ch aS ns cs, e = .returned (.agg #[.slice aA na ca, .slice aH nh ch, .slice aS ns cs]) ∧ Ents w' aA na (tsub A p) ∧ Ents w' aH nh (tsub H p) ∧ Ents w' aS ns (tsub S p) ∧ (aA = none → ca = 0) ∧ (aH = none → ch = 0) ∧ (aS = none → cs = 0) ∧ Below w.heap.size w w'
set_option maxRecDepth 100000 in
set_option maxHeartbeats 4000000 in
theorem at_any (aA aH aS : Option Addr) (na nh ns ca ch cs : Nat) (A H S : List Et) (p : ByteArray) (w : World) (hA : Ents w aA na A) (hH : Ents w aH nh H) (hS : Ents w aS ns S) (ka : na ≤ 1000000) (kh : nh ≤ 1000000) (ks : ns ≤ 1000000) (sA : Small A) (sH : Small H) (sS : Small S) (hp : p.size ≤ 1000) :
    Calls Tryz.prog 41 #[.agg #[.slice aA na ca, .slice aH nh ch, .slice aS ns cs], .string p] w (AtTo A H S p w) := by
  obtain ⟨W1, hW1⟩ : ∃ W1, W1 = (w.alloc (.cells #[.slice aA na ca, .slice aH nh ch, .slice aS ns cs] 53)).alloc (.cells #[.slice none 0 0, .slice none 0 0, .slice none 0 0] 53) := ⟨_, rfl⟩
  have hb0 : Below w.heap.size w W1 := by rw [hW1]; exact ((Below.refl _ w).alloc (Nat.le_refl _) _).alloc (by simp) _
  have hsz : W1.heap.size = w.heap.size + 1 + 1 := by rw [hW1]; simp
  have hbx : W1.heap[w.heap.size]? = some (.cells #[.slice aA na ca, .slice aH nh ch, .slice aS ns cs] 53) := by
    rw [hW1, ((Below.refl (w.alloc (.cells #[.slice aA na ca, .slice aH nh ch, .slice aS ns cs] 53)).heap.size (w.alloc (.cells #[.slice aA na ca, .slice aH nh ch, .slice aS ns cs] 53))).alloc (Nat.le_refl _) _).block _ (by simp)]
    exact heap_alloc_new _ _
  have hcx : W1.heap[w.heap.size + 1]? = some (.cells #[.slice none 0 0, .slice none 0 0, .slice none 0 0] 53) := by
    have h0 : (w.alloc (.cells #[.slice aA na ca, .slice aH nh ch, .slice aS ns cs] 53)).heap.size = w.heap.size + 1 := by simp
    rw [hW1, ← h0]
    exact heap_alloc_new _ _
  have hX : ∀ W, Below W1.heap.size W1 W → Box3 w.heap.size (.slice aA na ca) (.slice aH nh ch) (.slice aS ns cs) W := fun W h => by
    obtain ⟨c1, c2, c3, _⟩ := cells_three ((h.block _ (by omega)).trans hbx)
    exact ⟨c1, c2, c3⟩
  have CA := fun W (h : Below W1.heap.size W1 W) => subI_any aA na ca A p W ((hA.below hb0).below h) (by omega) sA (by omega)
  have CH := fun W (h : Below W1.heap.size W1 W) => subI_any aH nh ch H p W ((hH.below hb0).below h) (by omega) sH (by omega)
  have CS := fun W (h : Below W1.heap.size W1 W) => subI_any aS ns cs S p W ((hS.below hb0).below h) (by omega) sS (by omega)
  have HB0 := Lib.hid hb0
  have HX := Lib.hid hX
  have HCX := Lib.hid hcx
  have H1 := Lib.hid CA
  have H2 := Lib.hid CH
  have H3 := Lib.hid CS
  clear hA hH hS sA sH sS hb0 hX CA CH CS hbx hcx
  go_enter Tryz.func41, Tryz.ntmps41
  go_wp2_with fail
  rw [← hW1]
  clear hW1
  refine Rg.wp_only ?_ (atReg _ (by kernel_rfl) _ w.heap.size (w.heap.size + 1) na nh ns ca ch cs aA aH aS p W1 (fun W => Below W1.heap.size W1 W) (fun v W => Below W1.heap.size W1 W ∧ Own W W1.heap.size v (tsub A p)) (fun v v' W => Below W1.heap.size W1 W ∧ Own W W1.heap.size v (tsub A p) ∧ Own W W1.heap.size v' (tsub H p)) (fun v v' v2 W => Below W1.heap.size W1 W ∧ Own W W1.heap.size v (tsub A p) ∧ Own W W1.heap.size v' (tsub H p) ∧ Own W W1.heap.size v2 (tsub S p))
    (fun v v' v2 W => (∃ W2, Below W1.heap.size W1 W2 ∧ Own W2 W1.heap.size v (tsub A p) ∧ Own W2 W1.heap.size v' (tsub H p) ∧ Own W2 W1.heap.size v2 (tsub S p) ∧ W = ((W2.setCell ⟨w.heap.size + 1, 0, none⟩ v).setCell ⟨w.heap.size + 1, 1, none⟩ v').setCell ⟨w.heap.size + 1, 2, none⟩ v2))
    (HX.out _ (Below.refl _ _).drew) (Below.refl _ _).drew ?hA (fun v W h => HX.out W h.1) ?hB (fun v v' W h => HX.out W h.1) ?hC (fun v v' v2 W h => HX.out W h.1) ?hSt)
  case hA =>
    intro W h
    refine (H1.out W h).mono ?_
    rintro e w5 ⟨v, rfl, ho, k⟩
    obtain ⟨a, n, c, rfl, he, hn⟩ := own_src ho
    exact ⟨a, n, c, rfl, below_call h k, row_base ho h.size⟩
  case hB =>
    intro a0 n0 c0 W ⟨h, hs⟩
    refine (H2.out W h).mono ?_
    rintro e w5 ⟨v, rfl, ho, k⟩
    obtain ⟨a, n, c, rfl, he, hn⟩ := own_src ho
    exact ⟨a, n, c, rfl, below_call h k, hs.below k, row_base ho h.size⟩
  case hC =>
    intro a0 n0 c0 a1 n1 c1 W ⟨h, hs, hs2⟩
    refine (H3.out W h).mono ?_
    rintro e w5 ⟨v, rfl, ho, k⟩
    obtain ⟨a, n, c, rfl, he, hn⟩ := own_src ho
    exact ⟨a, n, c, rfl, below_call h k, hs.below k, hs2.below k, row_base ho h.size⟩
  case hSt =>
    intro a0 n0 c0 a1 n1 c1 a2 n2 c2 W ⟨h, hs, hs2, hs3⟩
    obtain ⟨e0, e1, e2, e3⟩ := cells_three ((h.block _ (by omega)).trans HCX.out)
    refine ⟨_, ?_, ?_, W, h, hs, hs2, hs3, rfl⟩
    · go_simp
    · have hk : Below (w.heap.size + 1) W (((W.setCell ⟨w.heap.size + 1, 0, none⟩ (.slice a0 n0 c0)).setCell ⟨w.heap.size + 1, 1, none⟩ (.slice a1 n1 c1)).setCell ⟨w.heap.size + 1, 2, none⟩ (.slice a2 n2 c2)) :=
        (((Below.refl _ W).setCell (by exact Nat.le_refl _) _).setCell (by exact Nat.le_refl _) _).setCell (by exact Nat.le_refl _) _
      obtain ⟨x1, x2, x3⟩ := HX.out W h
      have hlt : w.heap.size < w.heap.size + 1 := by omega
      exact ⟨(hk.cell (p := ⟨w.heap.size, 0, none⟩) hlt).trans x1, (hk.cell (p := ⟨w.heap.size, 1, none⟩) hlt).trans x2, (hk.cell (p := ⟨w.heap.size, 2, none⟩) hlt).trans x3⟩
  rintro _ w9 ⟨a5, n5, c5, a6, n6, c6, a7, n7, c7, rfl, W2, h2, s1, s2, s3, rfl⟩
  have hblk := (h2.block _ (by omega)).trans HCX.out
  have hB9 : Below w.heap.size w (((W2.setCell ⟨w.heap.size + 1, 0, none⟩ (.slice a5 n5 c5)).setCell ⟨w.heap.size + 1, 1, none⟩ (.slice a6 n6 c6)).setCell ⟨w.heap.size + 1, 2, none⟩ (.slice a7 n7 c7)) :=
    (((HB0.out.trans (h2.mono HB0.out.size)).setCell (by show w.heap.size ≤ w.heap.size + 1; omega) _).setCell (by show w.heap.size ≤ w.heap.size + 1; omega) _).setCell (by show w.heap.size ≤ w.heap.size + 1; omega) _
  have s1 := own_set (k := 2) (u := .slice a7 n7 c7) (own_set (k := 1) (u := .slice a6 n6 c6) (own_set (k := 0) (u := .slice a5 n5 c5) s1 (show w.heap.size + 1 < W1.heap.size by omega)) (show w.heap.size + 1 < W1.heap.size by omega)) (show w.heap.size + 1 < W1.heap.size by omega)
  have s2 := own_set (k := 2) (u := .slice a7 n7 c7) (own_set (k := 1) (u := .slice a6 n6 c6) (own_set (k := 0) (u := .slice a5 n5 c5) s2 (show w.heap.size + 1 < W1.heap.size by omega)) (show w.heap.size + 1 < W1.heap.size by omega)) (show w.heap.size + 1 < W1.heap.size by omega)
  have s3 := own_set (k := 2) (u := .slice a7 n7 c7) (own_set (k := 1) (u := .slice a6 n6 c6) (own_set (k := 0) (u := .slice a5 n5 c5) s3 (show w.heap.size + 1 < W1.heap.size by omega)) (show w.heap.size + 1 < W1.heap.size by omega)) (show w.heap.size + 1 < W1.heap.size by omega)
  obtain ⟨a5', n5', c5', e5, r5, z5⟩ := own_src s1
  obtain ⟨a6', n6', c6', e6, r6, z6⟩ := own_src s2
  obtain ⟨a7', n7', c7', e7, r7, z7⟩ := own_src s3
  injection e5 with e51 e52 e53
  injection e6 with e61 e62 e63
  injection e7 with e71 e72 e73
  subst e51 e52 e53 e61 e62 e63 e71 e72 e73
  have hset := three_set (x := .slice a5 n5 c5) (y := .slice a6 n6 c6) (s := .slice a7 n7 c7) hblk
  have HR : Hid (AtTo A H S p w (.returned (.agg #[.slice a5 n5 c5, .slice a6 n6 c6, .slice a7 n7 c7])) (((W2.setCell ⟨w.heap.size + 1, 0, none⟩ (.slice a5 n5 c5)).setCell ⟨w.heap.size + 1, 1, none⟩ (.slice a6 n6 c6)).setCell ⟨w.heap.size + 1, 2, none⟩ (.slice a7 n7 c7))) :=
    ⟨_, _, _, _, _, _, _, _, _, rfl, r5, r6, r7, z5, z6, z7, hB9⟩
  clear s1 s2 s3 r5 r6 r7 z5 z6 z7 hB9 h2 hblk
  go_wp2_with fail
  (try simp only [Exit.inBlock, Exit.then])
  refine bodyPost_ret (results_cell_row rfl _ _ _ _ _ _ _ rfl hset Tryz.underlying53 rfl infoP) rfl ?_
  exact HR.out
end Go.Proofs.YtkenmldiojeooaaGreat.Rc

namespace Go.Proofs.YtkenmldiojeooaaGreat.Rc
open Go.RowKit Tx Pm Pr En
set_option linter.unusedVariables false
set_option linter.unusedSimpArgs false
theorem box_keep {w W : World} {u v z : Value} {t : TypeId} (h : Below (w.alloc (.cells #[u, v, z] t)).heap.size (w.alloc (.cells #[u, v, z] t)) W) : Box3 w.heap.size u v z W := by
  obtain ⟨c1, c2, c3, _⟩ := cells_three ((h.block w.heap.size (by simp)).trans (heap_alloc_new _ _))
  exact ⟨c1, c2, c3⟩
def NdVar (q : Option Nat) (W : World) : Prop := ∀ z, q = some z → ∃ u v, W.heap[z]? = some (.cells #[u, v] 33)
theorem NdVar.below {q : Option Nat} {W W' : World} (h : NdVar q W) (hb : Below W.heap.size W W') : NdVar q W' := fun z hz => by
  obtain ⟨u, v, h1⟩ := h z hz
  exact ⟨u, v, (hb.block z (Array.getElem?_eq_some_iff.1 h1).1).trans h1⟩
def UnlTo (M : Nd → Nd → Nd → Bool) (LA LH LS : List Et) (p : ByteArray) (w : World) (e : Ending) (w' : World) : Prop := ∃ BH BS, (BH = true ↔ LH = LA) ∧ (BS = true ↔ LS = LA) ∧ e = .returned (.int .i64 (unl BH BS (M (tget LA p) (tget LH p) (tget LS p)) : Nat)) ∧ Below w.heap.size w w'
set_option maxRecDepth 100000 in
set_option maxHeartbeats 4000000 in
theorem unlike_any {er : F3 Nat} {tx : F3 ByteArray} {cf : F3 Nat} (F : Fair er tx cf) (hQ : AsksQ er tx cf) (aA aH aS : Option Addr) (na nh ns ca ch cs : Nat) (A H S : List Et) (p : ByteArray) (w : World) (hA : Ents w aA na A) (hH : Ents w aH nh H) (hS : Ents w aS ns S) (ka : na ≤ 1000000) (kh : nh ≤ 1000000) (ks : ns ≤ 1000000)
    (rA : Rise A) (rH : Rise H) (rS : Rise S) (dA : (tget A p).data.size ≤ 1000000) (dH : (tget H p).data.size ≤ 1000000) (dS : (tget S p).data.size ≤ 1000000) :
    Calls Tryz.prog 61 #[.agg #[.slice aA na ca, .slice aH nh ch, .slice aS ns cs], .string p] w (UnlTo (mg er tx cf) A H S p w) := by
  obtain ⟨W1, hW1⟩ : ∃ W1, W1 = w.alloc (.cells #[.slice aA na ca, .slice aH nh ch, .slice aS ns cs] 53) := ⟨_, rfl⟩
  have hb0 : Below w.heap.size w W1 := by rw [hW1]; exact (Below.refl _ w).alloc (Nat.le_refl _) _
  have hX : ∀ W, Below W1.heap.size W1 W → Box3 w.heap.size (.slice aA na ca) (.slice aH nh ch) (.slice aS ns cs) W := fun W h => by rw [hW1] at h; exact box_keep h
  have S1 := fun W (h : Below W1.heap.size W1 W) => sameI_any aH aA nh na ch ca H A W ((hH.below hb0).below h) ((hA.below hb0).below h) (by omega) (by omega)
  have S2 := fun W (h : Below W1.heap.size W1 W) => sameI_any aS aA ns na cs ca S A W ((hS.below hb0).below h) ((hA.below hb0).below h) (by omega) (by omega)
  have GA := fun W (h : Below W1.heap.size W1 W) => getR_any aA na ca A p W ((hA.below hb0).below h) rA (by omega)
  have GH := fun W (h : Below W1.heap.size W1 W) => getR_any aH nh ch H p W ((hH.below hb0).below h) rH (by omega)
  have GS := fun W (h : Below W1.heap.size W1 W) => getR_any aS ns cs S p W ((hS.below hb0).below h) rS (by omega)
  have CM := fun W => rMerge_any F hQ (tget A p) (tget H p) (tget S p) W dA dH dS
  unfold MgTo at CM
  unfold UnlTo
  obtain ⟨BS0, hBS0⟩ : ∃ B : Bool, B = true ↔ S = A := by classical exact ⟨decide (S = A), decide_eq_true_iff⟩
  generalize tget A p = nA at GA CM dA ⊢
  generalize tget H p = nH at GH CM dH ⊢
  generalize tget S p = nS at GS CM dS ⊢
  generalize mgN er tx cf nA nH nS = n4 at CM
  generalize mg er tx cf nA nH nS = BM at CM ⊢
  have HB0 := Lib.hid hb0
  have HX := Lib.hid hX
  have H1 := Lib.hid S1
  have H2 := Lib.hid S2
  have H3 := Lib.hid GA
  have H4 := Lib.hid GH
  have H5 := Lib.hid GS
  have H6 := Lib.hid CM
  clear hA hH hS hb0 hX S1 S2 GA GH GS CM rA rH rS dA dH dS hQ F
  go_enter Tryz.func61, Tryz.ntmps61
  go_wp2_with fail
  rw [← hW1]
  go_at_call 58
  refine (H1.out _ (Below.refl _ _)).mono ?_
  rintro e w1 ⟨BH, hBH, rfl, b1⟩
  have HBH := Lib.hid hBH
  have HB1 := Lib.hid b1
  clear hBH b1
  cases BH with
  | true =>
    go_wp2_with fail
    go_ret
    exact ⟨true, BS0, Iff.intro (fun _ => HBH.out.1 (by trivial)) (fun _ => rfl), hBS0, rfl, HB0.out.trans (HB1.out.mono HB0.out.size)⟩
  | false =>
    obtain ⟨x1, x2, x3⟩ := HX.out _ HB1.out
    go_wp2_with fail
    go_at_call 58
    refine (H2.out _ HB1.out).mono ?_
    rintro e w2 ⟨BS, hBS, rfl, b2⟩
    have HBS := Lib.hid hBS
    have HB2 := Lib.hid (below_call HB1.out b2)
    clear hBS b2 x1 x2 x3
    cases BS with
    | true =>
      go_wp2_with fail
      go_ret
      exact ⟨false, true, HBH.out, Iff.intro (fun _ => HBS.out.1 (by trivial)) (fun _ => rfl), rfl, HB0.out.trans (HB2.out.mono HB0.out.size)⟩
    | false =>
      go_wp2_with fail
      refine Rg.wp_only ?_ (unlikeReg _ (by kernel_rfl) _ w.heap.size na nh ns ca ch cs aA aH aS p (nv nA) (nv nH) (nv nS) (nv n4) BM w2 (fun _ q W => Below W1.heap.size W1 W ∧ NdVar q W ∧ ∀ z, q = some z → W1.heap.size ≤ z) (fun i q W h => HX.out W h.1) ⟨HB2.out.drew, (fun z h => by cases h), (fun z h => by cases h)⟩ ?hAl ?hA ?hB ?hC ?hD ?hSt)
      case hAl =>
        intro i W ⟨h, _⟩
        refine ⟨W.heap.size, W.alloc (.cells #[.int .i64 0, .string ⟨#[]⟩] 33), ?_, h.alloc h.size _, fun z hz => ?_, fun z hz => ?_⟩
        · go_simp
        · injection hz with hz
          subst hz
          exact ⟨_, _, heap_alloc_new _ _⟩
        · injection hz with hz
          subst hz
          exact h.size
      case hA =>
        intro q W ⟨h, hq, hz⟩
        refine (H3.out W h).mono ?_
        rintro e w5 ⟨rfl, k⟩
        exact ⟨rfl, below_call h k, hq.below k, hz⟩
      case hB =>
        intro q W ⟨h, hq, hz⟩
        refine (H4.out W h).mono ?_
        rintro e w5 ⟨rfl, k⟩
        exact ⟨rfl, below_call h k, hq.below k, hz⟩
      case hC =>
        intro q W ⟨h, hq, hz⟩
        refine (H5.out W h).mono ?_
        rintro e w5 ⟨rfl, k⟩
        exact ⟨rfl, below_call h k, hq.below k, hz⟩
      case hD =>
        intro q W ⟨h, hq, hz⟩
        refine (H6.out W).mono ?_
        rintro e w5 ⟨rfl, k⟩
        exact ⟨rfl, below_call h k, hq.below k, hz⟩
      case hSt =>
        intro z W ⟨h, hq, hz⟩
        obtain ⟨u, v, hh⟩ := hq z rfl
        have hzz := hz z rfl
        obtain ⟨q1, q2, q3⟩ := cells_two hh
        obtain ⟨k4, d4⟩ := n4
        refine ⟨(W.setCell ⟨z, 0, none⟩ (.int .i64 k4)).setCell ⟨z, 1, none⟩ (.string d4), ?_, (h.setCell (by exact hzz) _).setCell (by exact hzz) _, fun z' hz' => ?_, hz⟩
        · unfold nv
          clear H1 H2 H3 H4 H5 H6 hz HX HB0
          go_simp
        · injection hz' with hz'
          subst hz'
          exact ⟨_, _, two_set hh⟩
      rintro _ w9 ⟨zz, rfl, h9, _, _⟩
      have HB9 := Lib.hid h9
      clear h9
      cases BM with
      | true =>
        go_wp2_with fail
        go_ret
        exact ⟨false, false, HBH.out, HBS.out, rfl, HB0.out.trans (HB9.out.mono HB0.out.size)⟩
      | false =>
        go_wp2_with fail
        go_ret
        exact ⟨false, false, HBH.out, HBS.out, rfl, HB0.out.trans (HB9.out.mono HB0.out.size)⟩
end Go.Proofs.YtkenmldiojeooaaGreat.Rc

namespace Go.Proofs
open Go.Shelf
def Tryz.sortS_ren : Go.Shelf.Ren := ⟨fun | 190 => 39 | 125 => 56 | 258 => 55 | 128 => 83 | 129 => 84 | 302 => 74 | 303 => 75 | 304 => 76 | 305 => 77 | 306 => 78 | 307 => 79 | 308 => 80 | 309 => 81 | 310 => 82 | 333 => 101 | 329 => 102 | 330 => 103 | 334 => 104 | 335 => 105 | 336 => 106 | 344 => 121 | n => n, fun | 31 => 59 | 9 => 9 | 3 => 3 | 46 => 94 | 0 => 0 | 51 => 120 | 53 => 122 | 4 => 4 | 183 => 113 | 182 => 112 | 131 => 117 | 5 => 5 | 218 => 137 | 222 => 141 | 228 => 156 | 229 => 157 | n => n, fun | n => n⟩
theorem Tryz.sortS : Go.Proofs.Lays.n190 Tryz.prog Tryz.sortS_ren := {
  mixed := by kernel_rfl
  f125 := Tryz.func56.trans (congrArg some (by kernel_rfl))
  f128 := Tryz.func83.trans (congrArg some (by kernel_rfl))
  f129 := Tryz.func84.trans (congrArg some (by kernel_rfl))
  f190 := Tryz.func39.trans (congrArg some (by kernel_rfl))
  f258 := Tryz.func55.trans (congrArg some (by kernel_rfl))
  f302 := Tryz.func74.trans (congrArg some (by kernel_rfl))
  f303 := Tryz.func75.trans (congrArg some (by kernel_rfl))
  f304 := Tryz.func76.trans (congrArg some (by kernel_rfl))
  f305 := Tryz.func77.trans (congrArg some (by kernel_rfl))
  f306 := Tryz.func78.trans (congrArg some (by kernel_rfl))
  f307 := Tryz.func79.trans (congrArg some (by kernel_rfl))
  f308 := Tryz.func80.trans (congrArg some (by kernel_rfl))
  f309 := Tryz.func81.trans (congrArg some (by kernel_rfl))
  f310 := Tryz.func82.trans (congrArg some (by kernel_rfl))
  f329 := Tryz.func102.trans (congrArg some (by kernel_rfl))
  f330 := Tryz.func103.trans (congrArg some (by kernel_rfl))
  f333 := Tryz.func101.trans (congrArg some (by kernel_rfl))
  f334 := Tryz.func104.trans (congrArg some (by kernel_rfl))
  f335 := Tryz.func105.trans (congrArg some (by kernel_rfl))
  f336 := Tryz.func106.trans (congrArg some (by kernel_rfl))
  f344 := Tryz.func121.trans (congrArg some (by kernel_rfl))
  t0 := Tryz.underlying0
  a0 := Tryz.isAgg0
  z0 := Tryz.sizeOf0
  v0 := Tryz.zeroValue0
  t3 := Tryz.underlying3
  a3 := Tryz.isAgg3
  z3 := Tryz.sizeOf3
  v3 := Tryz.zeroValue3
  t4 := Tryz.underlying4
  a4 := Tryz.isAgg4
  z4 := Tryz.sizeOf4
  v4 := Tryz.zeroValue4
  t5 := Tryz.underlying5
  a5 := Tryz.isAgg5
  z5 := Tryz.sizeOf5
  v5 := Tryz.zeroValue5
  t9 := Tryz.underlying9
  a9 := Tryz.isAgg9
  z9 := Tryz.sizeOf9
  v9 := Tryz.zeroValue9
  t31 := Tryz.underlying59
  a31 := Tryz.isAgg59
  z31 := Tryz.sizeOf59
  v31 := Tryz.zeroValue59
  t46 := Tryz.underlying94
  a46 := Tryz.isAgg94
  z46 := Tryz.sizeOf94
  v46 := Tryz.zeroValue94
  t51 := Tryz.underlying120
  a51 := Tryz.isAgg120
  z51 := Tryz.sizeOf120
  v51 := Tryz.zeroValue120
  t53 := Tryz.underlying122
  a53 := Tryz.isAgg122
  z53 := Tryz.sizeOf122
  v53 := Tryz.zeroValue122
  t131 := Tryz.underlying117
  a131 := Tryz.isAgg117
  z131 := Tryz.sizeOf117
  v131 := Tryz.zeroValue117
  t182 := Tryz.underlying112
  a182 := Tryz.isAgg112
  z182 := Tryz.sizeOf112
  v182 := Tryz.zeroValue112
  t183 := Tryz.underlying113
  a183 := Tryz.isAgg113
  z183 := Tryz.sizeOf113
  v183 := Tryz.zeroValue113
  t218 := Tryz.underlying137
  a218 := Tryz.isAgg137
  z218 := Tryz.sizeOf137
  v218 := Tryz.zeroValue137
  t222 := Tryz.underlying141
  a222 := Tryz.isAgg141
  z222 := Tryz.sizeOf141
  v222 := Tryz.zeroValue141
  t228 := Tryz.underlying156
  a228 := Tryz.isAgg156
  z228 := Tryz.sizeOf156
  v228 := Tryz.zeroValue156
  t229 := Tryz.underlying157
  a229 := Tryz.isAgg157
  z229 := Tryz.sizeOf157
  v229 := Tryz.zeroValue157 }
def Tryz.compS_ren : Go.Shelf.Ren := ⟨fun | 194 => 40 | n => n, fun | 31 => 59 | 9 => 9 | 3 => 3 | 4 => 4 | 0 => 0 | n => n, fun | n => n⟩
theorem Tryz.compS : Go.Proofs.Lays.n194 Tryz.prog Tryz.compS_ren := {
  mixed := by kernel_rfl
  f194 := Tryz.func40.trans (congrArg some (by kernel_rfl))
  t0 := Tryz.underlying0
  a0 := Tryz.isAgg0
  z0 := Tryz.sizeOf0
  v0 := Tryz.zeroValue0
  t3 := Tryz.underlying3
  a3 := Tryz.isAgg3
  z3 := Tryz.sizeOf3
  v3 := Tryz.zeroValue3
  t4 := Tryz.underlying4
  a4 := Tryz.isAgg4
  z4 := Tryz.sizeOf4
  v4 := Tryz.zeroValue4
  t9 := Tryz.underlying9
  a9 := Tryz.isAgg9
  z9 := Tryz.sizeOf9
  v9 := Tryz.zeroValue9
  t31 := Tryz.underlying59
  a31 := Tryz.isAgg59
  z31 := Tryz.sizeOf59
  v31 := Tryz.zeroValue59 }
end Go.Proofs

namespace Go.Proofs.YtkenmldiojeooaaGreat.Rc
open Go.RowKit Tx Pm Pr En Go.Sort Go.Lib Go.Shelf
set_option linter.unusedVariables false
set_option linter.unusedSimpArgs false
theorem less_iff (a b : ByteArray) : less a b = decide (a.data.toList < b.data.toList) := by
  unfold less
  rw [bytesLess_eq, ByteArray.toList_eq, ByteArray.toList_eq]
theorem merge_sorted (l : List (List UInt8)) : (l.mergeSort fun x y => decide (x ≤ y)).Pairwise (fun a b => ¬ b < a) := by
  have h := List.pairwise_mergeSort (le := fun x y : List UInt8 => decide (x ≤ y)) (fun a b c h1 h2 => decide_eq_true (List.le_trans (of_decide_eq_true h1) (of_decide_eq_true h2))) (fun a b => by
    rcases List.le_total a b with h | h
    · simp [h]
    · simp [h]) l
  exact h.imp (fun hab => of_decide_eq_true hab)
theorem encS (l : List ByteArray) : (l.map (·.data.toList)).map encStr = l.map sv := by
  rw [List.map_map]
  refine List.map_congr_left (fun x _ => ?_)
  rfl
theorem encT (l : List (List UInt8)) : l.map encStr = (l.map tb).map sv := by
  rw [List.map_map]
  rfl
theorem below_sortS {w : World} {B g q : Nat} {d : Array (List UInt8)} {os : Array Obj} (hg : B ≤ g) (hB : B ≤ w.heap.size) : RowKit.Below B w (grow (putRow encStr (Sort.ahead w q) g 0 d) os) := by
  have h1 : RowKit.Below B w (putRow encStr (Sort.ahead w q) g 0 d) := Lib.below_putRow (RowKit.Below.refl B w) hg
  refine ⟨h1.os, h1.tape, h1.output, by simp, fun k hk => ?_⟩
  rw [heap_grow_old _ _ (by have h2 : (putRow encStr (Sort.ahead w q) g 0 d).heap.size = w.heap.size := by simp
                            omega)]
  exact h1.block k hk
set_option maxRecDepth 100000 in
set_option maxHeartbeats 1000000 in
theorem sortS_any (v : Value) (ss : List ByteArray) (w : World) (B : Nat) (hT : Texts w B v ss) (hB : B ≤ w.heap.size) (hn : ss.length ≤ 4000000000) :
    Calls Tryz.prog 39 #[v] w fun e w' => e = .returned (.tuple #[]) ∧ ∃ ts : List ByteArray, ts.Perm ss ∧ ts.Pairwise (fun a b => less b a = false) ∧ Texts w' B v ts ∧ RowKit.Below B w w' := by
  have hT2 := hT
  obtain ⟨hlen, h2⟩ := hT2
  rcases h2 with ⟨hv, h0⟩ | ⟨g, cap, cur, hv, hb, hg, hc, hm, hs, ht⟩
  · subst hv
    obtain rfl : ss = [] := List.length_eq_zero_iff.1 h0
    have h := Any.slices_Sort_string_none Tryz.sortS none 0 w
    change Calls Tryz.prog 39 _ _ _ at h
    refine h.mono ?_
    rintro e w' ⟨rfl, rfl⟩
    exact ⟨rfl, [], List.Perm.refl _, List.Pairwise.nil, hT, RowKit.Below.refl _ _⟩
  · subst hv
    have hlt : g < w.heap.size := (Array.getElem?_eq_some_iff.1 hg).1
    obtain ⟨zs, hz⟩ : ∃ zs, zs = ss.map (·.data.toList) := ⟨_, rfl⟩
    have hzl : zs.length = ss.length := by rw [hz, List.length_map]
    have hH : Holds encStr w g 0 zs.toArray := holds_of_block hg (by
      rw [Nat.mul_one] at ht
      rw [hzl, ht, hz, encS])
    have h := Any.slices_Sort_string Tryz.sortS g 0 cap zs w hH hlt (by omega)
    change Calls Tryz.prog 39 _ _ _ at h
    rw [hzl] at h
    refine h.mono ?_
    rintro e w' ⟨rfl, q, os, rfl⟩
    have hml : (zs.mergeSort fun x y => decide (x ≤ y)).length = zs.length := List.length_mergeSort zs
    refine ⟨rfl, (zs.mergeSort fun x y => decide (x ≤ y)).map tb, ?_, ?_, ?_, below_sortS hb hB⟩
    · have h1 := (List.mergeSort_perm zs (fun x y => decide (x ≤ y))).map tb
      have h2 : zs.map tb = ss := by
        rw [hz, List.map_map]
        conv => rhs; rw [← List.map_id ss]
        exact List.map_congr_left (fun x _ => tb_of x)
      rwa [h2] at h1
    · rw [List.pairwise_map]
      refine (merge_sorted zs).imp (fun hab => ?_)
      rw [less_iff]
      exact decide_eq_false hab
    · have h1 := ownsRow_sorted (ss := zs) (ts := zs.mergeSort fun x y => decide (x ≤ y)) (n := q) (os := os) hml hb hg (by rw [hzl]; exact hc) hm hs
      unfold Texts
      rw [List.length_map, hml, ← encT, hzl]
      rw [hzl] at h1
      exact h1
theorem compact_len (zs : List (List UInt8)) : (Lib.compact zs).length ≤ zs.length := by
  unfold Lib.compact Lib.compactUpTo
  rw [List.length_map]
  exact Nat.le_trans (List.length_filter_le _ _) (by rw [List.length_range]; exact Nat.le_refl _)
theorem compact_rise {d : Array (List UInt8)} (hs : ∀ i j, i ≤ j → j < d.size → ¬ d[j]! < d[i]!) : ∀ m, m ≤ d.size →
    (Lib.compactUpTo d m).Pairwise (fun a b => a < b) ∧ (∀ x, x ∈ Lib.compactUpTo d m ↔ ∃ j, j < m ∧ d[j]! = x)
  | 0, _ => ⟨List.Pairwise.nil, fun x => ⟨fun h => (by cases h), fun ⟨j, h, _⟩ => (by omega)⟩⟩
  | m + 1, hm => by
    obtain ⟨h1, h2⟩ := compact_rise hs m (by omega)
    rw [Lib.compactUpTo_succ]
    by_cases hk : Lib.keeps d m = true
    · rw [if_pos hk]
      have hk2 : m = 0 ∨ d[m]! ≠ d[m - 1]! := of_decide_eq_true hk
      refine ⟨?_, fun x => ?_⟩
      · rw [List.pairwise_append]
        refine ⟨h1, by simp, fun a ha b hb => ?_⟩
        rw [List.mem_singleton.1 hb]
        obtain ⟨j, hj, rfl⟩ := (h2 a).1 ha
        have h3 := hs j m (by omega) (by omega)
        have h4 := hs j (m - 1) (by omega) (by omega)
        have h5 := hs (m - 1) m (by omega) (by omega)
        rcases hk2 with h0 | hne
        · omega
        · rcases Std.lt_trichotomy d[j]! d[m]! with h6 | h6 | h6
          · exact h6
          · exfalso
            rw [h6] at h4
            rcases Std.lt_trichotomy d[m]! d[m - 1]! with h7 | h7 | h7
            · exact h5 h7
            · exact hne h7
            · exact h4 h7
          · exact absurd h6 h3
      · rw [List.mem_append, h2, List.mem_singleton]
        constructor
        · rintro (⟨j, hj, e⟩ | rfl)
          · exact ⟨j, by omega, e⟩
          · exact ⟨m, by omega, rfl⟩
        · rintro ⟨j, hj, rfl⟩
          by_cases e : j = m
          · subst e; exact .inr rfl
          · exact .inl ⟨j, by omega, rfl⟩
    · rw [if_neg hk, List.append_nil]
      have hk2 : m ≠ 0 ∧ d[m]! = d[m - 1]! := by
        refine ⟨fun e => hk (decide_eq_true (.inl e)), ?_⟩
        by_cases e : d[m]! = d[m - 1]!
        · exact e
        · exact absurd (decide_eq_true (.inr e)) hk
      refine ⟨h1, fun x => ?_⟩
      rw [h2]
      constructor
      · rintro ⟨j, hj, e⟩; exact ⟨j, by omega, e⟩
      · rintro ⟨j, hj, rfl⟩
        by_cases e : j = m
        · subst e; exact ⟨j - 1, by omega, hk2.2.symm⟩
        · exact ⟨j, by omega, rfl⟩
theorem sorted_idx {zs : List (List UInt8)} (h : zs.Pairwise (fun a b => ¬ b < a)) : ∀ i j, i ≤ j → j < zs.toArray.size → ¬ zs.toArray[j]! < zs.toArray[i]! := by
  intro i j hij hj
  have hj' : j < zs.length := by simpa using hj
  rw [getElem!_pos zs.toArray j (by simpa using hj'), getElem!_pos zs.toArray i (by simp; omega)]
  simp only [List.getElem_toArray]
  by_cases e : i = j
  · subst e; exact List.lt_irrefl _
  · exact List.pairwise_iff_getElem.1 h i j (by omega) hj' (by omega)
theorem compact_facts {zs : List (List UInt8)} (h : zs.Pairwise (fun a b => ¬ b < a)) : (Lib.compact zs).Pairwise (fun a b => a < b) ∧ ∀ x, x ∈ Lib.compact zs ↔ x ∈ zs := by
  obtain ⟨h1, h2⟩ := compact_rise (sorted_idx h) zs.length (by simp)
  refine ⟨h1, fun x => ?_⟩
  rw [show Lib.compact zs = Lib.compactUpTo zs.toArray zs.length from rfl, h2]
  constructor
  · rintro ⟨j, hj, rfl⟩
    rw [getElem!_pos zs.toArray j (by simpa using hj)]
    simp
  · intro hx
    obtain ⟨j, hj, e⟩ := List.getElem_of_mem hx
    exact ⟨j, hj, by rw [getElem!_pos zs.toArray j (by simpa using hj)]; simpa using e⟩
set_option maxRecDepth 100000 in
set_option maxHeartbeats 1000000 in
theorem compS_any (v : Value) (ss : List ByteArray) (w : World) (B : Nat) (hT : Texts w B v ss) (hB : B ≤ w.heap.size) (hn : ss.length ≤ 4000000000) (hS : ss.Pairwise (fun a b => less b a = false)) :
    Calls Tryz.prog 40 #[v] w fun e w' => ∃ v' ts, e = .returned v' ∧ ts.Pairwise (fun a b => less a b = true) ∧ (∀ x, x ∈ ts ↔ x ∈ ss) ∧ Texts w' B v' ts ∧ ts.length ≤ ss.length ∧ RowKit.Below B w w' := by
  have hT2 := hT
  obtain ⟨hlen, h2⟩ := hT2
  rcases h2 with ⟨hv, h0⟩ | ⟨g, cap, cur, hv, hb, hg, hc, hm, hs, ht⟩
  · subst hv
    obtain rfl : ss = [] := List.length_eq_zero_iff.1 h0
    have h := Any.slices_Compact_string_empty Tryz.compS none 0 w
    change Calls Tryz.prog 40 _ _ _ at h
    refine h.mono ?_
    rintro e w' ⟨rfl, rfl⟩
    exact ⟨_, [], rfl, List.Pairwise.nil, fun _ => Iff.rfl, hT, Nat.le_refl _, RowKit.Below.refl _ _⟩
  · subst hv
    obtain ⟨zs, hz⟩ : ∃ zs, zs = ss.map (·.data.toList) := ⟨_, rfl⟩
    have hzl : zs.length = ss.length := by rw [hz, List.length_map]
    have hH : Holds encStr w g 0 zs.toArray := holds_of_block hg (by
      rw [Nat.mul_one] at ht
      rw [hzl, ht, hz, encS])
    have hzs : zs.Pairwise (fun a b => ¬ b < a) := by
      rw [hz, List.pairwise_map]
      refine hS.imp (fun {a b} hab => ?_)
      rw [less_iff] at hab
      exact of_decide_eq_false hab
    obtain ⟨c1, c2⟩ := compact_facts hzs
    have c3 := compact_len zs
    have h := Any.slices_Compact_string Tryz.compS g 0 cap zs w hH (by omega) (by omega)
    change Calls Tryz.prog 40 _ _ _ at h
    rw [hzl] at h
    refine h.mono ?_
    rintro e w' ⟨rfl, q, rfl⟩
    refine ⟨_, (Lib.compact zs).map tb, rfl, ?_, ?_, ?_, by rw [List.length_map]; omega, below_putRow (RowKit.Below.refl _ _) hb⟩
    · rw [List.pairwise_map]
      refine c1.imp (fun {a b} hab => ?_)
      rw [less_iff, tb_list, tb_list]
      exact decide_eq_true hab
    · intro x
      rw [List.mem_map]
      constructor
      · rintro ⟨y, hy, rfl⟩
        have := (c2 y).1 hy
        rw [hz, List.mem_map] at this
        obtain ⟨u, hu, rfl⟩ := this
        rw [tb_of]
        exact hu
      · intro hx
        exact ⟨x.data.toList, (c2 _).2 (by rw [hz]; exact List.mem_map.2 ⟨x, hx, rfl⟩), tb_of x⟩
    · have hrow : w.ownsRow B 9 1 (.slice (some ⟨g, 0, none⟩) ss.length cap) ss.length (zs.map encStr) := by
        have := hT
        unfold Texts at this
        rw [hz, encS]
        exact this
      have h5 := ownsRow_putRow (q := q) (k := (Lib.compact zs).length) (ys := Lib.compact zs ++ List.replicate (ss.length - (Lib.compact zs).length) []) hrow (by rw [List.length_append, List.length_replicate]; omega) (by omega)
      rw [List.take_left] at h5
      unfold Texts
      rw [List.length_map, ← encT]
      exact h5
end Go.Proofs.YtkenmldiojeooaaGreat.Rc

namespace Go.Proofs.YtkenmldiojeooaaGreat.Rc
open Go.RowKit Tx Pm Pr En
set_option linter.unusedVariables false
set_option linter.unusedSimpArgs false
theorem h2_one (l : List It) : ∀ u ∈ l.flatMap h2, u.oneCell' = true := by
  intro u hu
  obtain ⟨x, _, hx⟩ := List.mem_flatMap.1 hu
  rcases List.mem_cons.1 hx with rfl | hx
  · rfl
  · rw [List.mem_singleton.1 hx]; rfl
theorem grow_io {w0 w w1 : World} {B C : Nat} {v : Value} {L : List It} (hBC : B ≤ C) (hb : Below B w0 w) (hs : B ≤ w.heap.size) (h : Io w C v L) (hg : w.grownBy w1 v.ownBlock) : Below B w0 w1 :=
  hb.grown hg hs (fun k hk => Nat.le_trans hBC (h.lt k hk).1)
theorem run_app_items (W : World) (B C : Nat) (v v2 : Value) (L R : List It) (h : Io W B v L) (hr : Io W C v2 R) (hB : B ≤ W.heap.size) (hl : L.length + R.length ≤ 1000000) :
    ∀ ty, ∃ v' W', (Builtin.append_ #[26, 26] ty #[v, v2]).run Tryz.prog W = .ok v' W' ∧ Io W' B v' (L ++ R) ∧ W.grownBy W' v.ownBlock := by
  obtain ⟨i0, hi, hz0, hz1, hz2⟩ := info_parts infoI
  intro ty
  have hr2 := hr
  rcases hr.2 with ⟨rfl, h0⟩ | ⟨g, cap, cur, rfl, hg, hh, hn, hc, _⟩
  · obtain rfl : R = [] := List.length_eq_zero_iff.1 h0
    refine ⟨v, W, run_append_owned_none (P := Tryz.prog) W B 26 ty 31 i0 2 Tryz.underlying26 hi v L.length _ h, by rw [List.append_nil]; exact h, rfl, rfl, rfl, Nat.le_refl _, fun _ _ _ => rfl⟩
  · obtain ⟨v', W', h1, h3, h4, _⟩ := run_append_own_at (P := Tryz.prog) W B 26 ty 31 i0 (.agg #[.string ⟨#[]⟩, .int .i64 0]) 2 24 Tryz.underlying26 hi hz0 hz1 hz2 rfl (by decide) v L.length _ h ⟨g, 0, none⟩ R.length cap (R.flatMap h2) (flat2_len R) (hr2.cells (g := g) rfl) (h2_one R) (by unfold maxLen; omega) (by omega) hB
    refine ⟨v', W', h1, ?_, h4⟩
    unfold Io
    rw [List.length_append, List.flatMap_append]
    exact h3
theorem wp_app_items {w : World} {ops : Array Oper} {rest : List Oper} {o : Oper} {a : Act} {Q : Exit → Act → World → Prop} (hgd : o.guard = none) (s x : Operand)
    (ho : o.op = .call { callee := .builtin .append, args := #[s, x], argTypes := #[26, 26] })
    (w0 : World) (v v2 : Value) (L R : List It) (C : Nat) (hs : a.eval s = v) (hx : a.eval x = v2) (h : Io w w0.heap.size v L) (hr : Io w C v2 R) (hB : Below w0.heap.size w0 w) (hl : L.length + R.length ≤ 1000000)
    (hk : ∀ v' w2, Io w2 w0.heap.size v' (L ++ R) → Below w0.heap.size w0 w2 → wpList Tryz.prog ops Q rest (a.put o.dst v') w2) : wpList Tryz.prog ops Q (o :: rest) a w := by
  refine wpList_plain hgd fun K hK => ?_
  obtain ⟨v', w', e1, h3, h4⟩ := run_app_items w w0.heap.size C v v2 L R h hr hB.size hl o.type
  unfold Oper.wp execOp
  simp only [ho, resolve, invoke, builtin, Sem.run_bind, Sem.run_pure, Result.andThen_ok, List.map_toArray, List.map_cons, List.map_nil, hs, hx, e1]
  exact hK _ _ (hk v' w' h3 (grow_io (Nat.le_refl _) hB hB.size h h4))
set_option maxRecDepth 100000 in
theorem wp_app_text {w : World} {ops : Array Oper} {rest : List Oper} {o : Oper} {a : Act} {Q : Exit → Act → World → Prop} (hgd : o.guard = none) (s x : Operand)
    (ho : o.op = .call { callee := .builtin .append, args := #[s, x], argTypes := #[59, 59] })
    (w0 : World) (v : Value) (L : List ByteArray) (g : Nat) (p : ByteArray) (hs : a.eval s = v) (hx : a.eval x = .slice (some ⟨g, 0, none⟩) 1 1) (h : Texts w w0.heap.size v L) (hc : w.cell? ⟨g, 0, none⟩ = some (.string p)) (hB : Below w0.heap.size w0 w) (hl : L.length ≤ 1000000)
    (hk : ∀ v' w2, Texts w2 w0.heap.size v' (L ++ [p]) → Below w0.heap.size w0 w2 → wpList Tryz.prog ops Q rest (a.put o.dst v') w2) : wpList Tryz.prog ops Q (o :: rest) a w := by
  obtain ⟨i0, hi, hz0, hz1, hz2⟩ := info_parts info9
  refine wpList_append_own_at w hgd s x 59 ho w0.heap.size 9 i0 (.string ⟨#[]⟩) 1 16 Tryz.underlying59 hi hz0 hz1 hz2 rfl (by decide) v L.length (L.map sv) hs h ⟨g, 0, none⟩ 1 1 [.string p] hx rfl ?c1 ?c2 ?c3 ?c4 hB.size ?_
  case c1 =>
    intro j u hj
    match j, hj with
    | 0, hj =>
      injection hj with hj
      subst hj
      rw [WideShapes.add_plain]
      exact hc
  case c2 =>
    intro u hu
    rw [List.mem_singleton.1 hu]; rfl
  case c3 => unfold maxLen; omega
  case c4 => omega
  intro v2 w2 ho2 hg2 _ _
  refine hk v2 w2 ?_ (hB.grown hg2 hB.size (fun k hk => (World.ownsRow.lt h k hk).1))
  unfold Texts
  rw [List.length_append, List.map_append]
  exact ho2
end Go.Proofs.YtkenmldiojeooaaGreat.Rc

namespace Go.Proofs.YtkenmldiojeooaaGreat.Rc
open Go.RowKit Tx Pm Pr En
set_option linter.unusedVariables false
set_option linter.unusedSimpArgs false
theorem node_small {T : List Et} (h : tcheck T = 0) (p : ByteArray) : (tget T p).data.size ≤ 1000000 := by
  have := tree_get_whole h p
  unfold whole at this
  split at this
  · have := of_decide_eq_true this
    omega
  · rw [Bool.and_eq_true, decide_eq_true_eq] at this
    omega
def ItTo (R : List It) (w : World) (e : Ending) (w' : World) : Prop := ∃ v, e = .returned v ∧ Io w' w.heap.size v R ∧ Below w.heap.size w w'
theorem three_at (w : World) (a b c : Obj) : (((w.alloc a).alloc b).alloc c).heap[w.heap.size]? = some a ∧ (((w.alloc a).alloc b).alloc c).heap[w.heap.size + 1]? = some b ∧ (((w.alloc a).alloc b).alloc c).heap[w.heap.size + 1 + 1]? = some c := by
  refine ⟨?_, ?_, ?_⟩
  · have h1 : ((w.alloc a).alloc b).heap.size = w.heap.size + 1 + 1 := by simp
    have h0 : (w.alloc a).heap.size = w.heap.size + 1 := by simp
    rw [((Below.refl ((w.alloc a).alloc b).heap.size ((w.alloc a).alloc b)).alloc (Nat.le_refl _) c).block _ (by omega), ((Below.refl (w.alloc a).heap.size (w.alloc a)).alloc (Nat.le_refl _) b).block _ (by omega)]
    exact heap_alloc_new _ _
  · have h1 : ((w.alloc a).alloc b).heap.size = w.heap.size + 1 + 1 := by simp
    have h0 : (w.alloc a).heap.size = w.heap.size + 1 := by simp
    rw [((Below.refl ((w.alloc a).alloc b).heap.size ((w.alloc a).alloc b)).alloc (Nat.le_refl _) c).block _ (by omega), ← h0]
    exact heap_alloc_new _ _
  · have h1 : ((w.alloc a).alloc b).heap.size = w.heap.size + 1 + 1 := by simp
    rw [← h1]
    exact heap_alloc_new _ _
set_option maxRecDepth 100000 in
set_option maxHeartbeats 4000000 in
theorem refSaid_any {er : F3 Nat} {tx : F3 ByteArray} {cf : F3 Nat} (F : Fair er tx cf) (hR : AsksM er tx cf) (aA aH aS : Option Addr) (na nh ns ca ch cs : Nat) (A H S : List Et) (ta : tcheck A = 0) (th : tcheck H = 0) (ts : tcheck S = 0) (sA : small A) (sH : small H) (sS : small S)
    (ka : na ≤ 1000000000) (kh : nh ≤ 1000000000) (ks : ns ≤ 1000000000) (p : ByteArray) (w : World) (hp : p.size ≤ 8000000000000) (hA : Ents w aA na A) (hH : Ents w aH nh H) (hS : Ents w aS ns S) :
    Calls Tryz.prog 31 #[.slice aA na ca, .slice aH nh ch, .slice aS ns cs, .string p] w fun e w' => e = .returned (.int .i64 (said (mg er tx cf) A H S p : Nat)) ∧ Below w.heap.size w w' := by
  have ga := fun W (hb : Below w.heap.size w W) => refGet_any aA na ca A p W (hA.below hb) (by omega)
  have gh := fun W (hb : Below w.heap.size w W) => refGet_any aH nh ch H p W (hH.below hb) (by omega)
  have gs := fun W (hb : Below w.heap.size w W) => refGet_any aS ns cs S p W (hS.below hb) (by omega)
  have sa := fun W (hb : Below w.heap.size w W) => refSub_any aA na ca A p W (hA.below hb) (by omega) sA (by omega)
  have sh := fun W (hb : Below w.heap.size w W) => refSub_any aH nh ch H p W (hH.below hb) (by omega) sH (by omega)
  have ss := fun W (hb : Below w.heap.size w W) => refSub_any aS ns cs S p W (hS.below hb) (by omega) sS (by omega)
  have lA : (tsub A p).length ≤ 1000000000 := Nat.le_trans (List.length_filter_le _ _) (by rw [hA.1]; exact ka)
  have lH : (tsub H p).length ≤ 1000000000 := Nat.le_trans (List.length_filter_le _ _) (by rw [hH.1]; exact kh)
  have lS : (tsub S p).length ≤ 1000000000 := Nat.le_trans (List.length_filter_le _ _) (by rw [hS.1]; exact ks)
  have cm := fun W => refMerge17_any F hR (tget A p) (tget H p) (tget S p) W (node_small ta p) (node_small th p) (node_small ts p)
  unfold MgTo at cm
  obtain ⟨N, hN⟩ : ∃ N, N = said (mg er tx cf) A H S p := ⟨_, rfl⟩
  have hN2 := hN
  unfold said at hN2
  have HN := Lib.hid hN2
  rw [← hN]
  unfold SubTo at sa sh ss
  generalize tsub A p = LA at sa lA hN2 HN
  generalize tsub H p = LH at sh lH hN2 HN
  generalize tsub S p = LS at ss lS hN2 HN
  generalize mgN er tx cf (tget A p) (tget H p) (tget S p) = VN at cm
  generalize mg er tx cf (tget A p) (tget H p) (tget S p) = BM at cm hN2 HN
  generalize tget A p = NA at ga cm hN2 HN
  generalize tget H p = NH at gh cm hN2 HN
  generalize tget S p = NS at gs cm hN2 HN
  obtain ⟨KA, DA⟩ := NA
  obtain ⟨KH, DH⟩ := NH
  obtain ⟨KS, DS⟩ := NS
  unfold nv at ga gh gs cm
  simp only at HN
  have GA := Lib.hid ga
  have GH := Lib.hid gh
  have GS := Lib.hid gs
  have SA := Lib.hid sa
  have SH := Lib.hid sh
  have SS := Lib.hid ss
  have CM := Lib.hid cm
  clear ga gh gs sa sh ss cm hN hN2 hA hH hS ta th ts sA sH sS hR F
  go_enter Tryz.func31, Tryz.ntmps31
  go_wp2_with fail
  go_at_call 23
  refine (SA.out _ (Below.refl _ _)).mono ?_
  rintro e w1 ⟨v1, rfl, o1, b1⟩
  obtain ⟨a1, c1, rfl, r1, _⟩ := Own.form o1
  clear o1
  go_wp2_with fail
  go_at_call 23
  refine (SH.out _ b1).mono ?_
  rintro e w2 ⟨v2, rfl, o2, b2⟩
  obtain ⟨a2, c2, rfl, r2, _⟩ := Own.form o2
  have r1 := r1.below b2
  have b2 := bl_then b1 b2
  clear o2
  go_wp2_with fail
  go_at_call 23
  refine (SS.out _ b2).mono ?_
  rintro e w3 ⟨v3, rfl, o3, b3⟩
  obtain ⟨a3, c3, rfl, r3, _⟩ := Own.form o3
  have r1 := r1.below b3
  have r2 := r2.below b3
  have b3 := bl_then b2 b3
  clear o3 SA SH SS
  go_wp2_with fail
  go_at_call 26
  refine (GA.out _ b3).mono ?_
  rintro e w4 ⟨rfl, b4⟩
  have r1 := r1.below b4
  have r2 := r2.below b4
  have r3 := r3.below b4
  have b4 := bl_then b3 b4
  go_wp2_with fail
  go_at_call 26
  refine (GH.out _ b4).mono ?_
  rintro e w5 ⟨rfl, b5⟩
  have r1 := r1.below b5
  have r2 := r2.below b5
  have r3 := r3.below b5
  have b5 := bl_then b4 b5
  go_wp2_with fail
  go_at_call 26
  refine (GS.out _ b5).mono ?_
  rintro e w6 ⟨rfl, b6⟩
  have r1 := r1.below b6
  have r2 := r2.below b6
  have r3 := r3.below b6
  have b6 := bl_then b5 b6
  clear GA GH GS
  go_wp2_with fail
  have b7 := bl_then b6 (below_three w6 (.cells #[.int .i64 KA, .string DA] 33) (.cells #[.int .i64 KH, .string DH] 33) (.cells #[.int .i64 KS, .string DS] 33))
  have bx := below_three w6 (.cells #[.int .i64 KA, .string DA] 33) (.cells #[.int .i64 KH, .string DH] 33) (.cells #[.int .i64 KS, .string DS] 33)
  obtain ⟨t1, t2, t3⟩ := three_at w6 (.cells #[.int .i64 KA, .string DA] 33) (.cells #[.int .i64 KH, .string DH] 33) (.cells #[.int .i64 KS, .string DS] 33)
  have hz7 : w6.heap.size + 1 + 1 < (((w6.alloc (.cells #[.int .i64 KA, .string DA] 33)).alloc (.cells #[.int .i64 KH, .string DH] 33)).alloc (.cells #[.int .i64 KS, .string DS] 33)).heap.size := by simp
  generalize (((w6.alloc (.cells #[.int .i64 KA, .string DA] 33)).alloc (.cells #[.int .i64 KH, .string DH] 33)).alloc (.cells #[.int .i64 KS, .string DS] 33)) = W7 at b7 bx t1 t2 t3 hz7 ⊢
  have r1 := r1.below bx
  have r2 := r2.below bx
  have r3 := r3.below bx
  have T1 : Hid (∀ W, Below W7.heap.size W7 W → W.cell? ⟨w6.heap.size, 0, none⟩ = some (.int .i64 KA) ∧ W.cell? ⟨w6.heap.size, 1, none⟩ = some (.string DA)) := fun W hW => by
    obtain ⟨x1, x2, _⟩ := cells_two ((hW.block _ (by omega)).trans t1)
    exact ⟨x1, x2⟩
  have T2 : Hid (∀ W, Below W7.heap.size W7 W → W.cell? ⟨w6.heap.size + 1, 0, none⟩ = some (.int .i64 KH) ∧ W.cell? ⟨w6.heap.size + 1, 1, none⟩ = some (.string DH)) := fun W hW => by
    obtain ⟨x1, x2, _⟩ := cells_two ((hW.block _ (by omega)).trans t2)
    exact ⟨x1, x2⟩
  have T3 : Hid (∀ W, Below W7.heap.size W7 W → W.cell? ⟨w6.heap.size + 1 + 1, 0, none⟩ = some (.int .i64 KS) ∧ W.cell? ⟨w6.heap.size + 1 + 1, 1, none⟩ = some (.string DS)) := fun W hW => by
    obtain ⟨x1, x2, _⟩ := cells_two ((hW.block _ (by omega)).trans t3)
    exact ⟨x1, x2⟩
  have Qhs : Hid (∀ W, Below W7.heap.size W7 W → Calls Tryz.prog 24 #[.slice a2 LH.length c2, .slice a3 LS.length c3] W (SameTo LH LS W)) := fun W hW => refSame_any a2 a3 _ _ c2 c3 _ _ W (r2.below hW) (r3.below hW) (by omega) (by omega)
  have Qha : Hid (∀ W, Below W7.heap.size W7 W → Calls Tryz.prog 24 #[.slice a2 LH.length c2, .slice a1 LA.length c1] W (SameTo LH LA W)) := fun W hW => refSame_any a2 a1 _ _ c2 c1 _ _ W (r2.below hW) (r1.below hW) (by omega) (by omega)
  have Qsa : Hid (∀ W, Below W7.heap.size W7 W → Calls Tryz.prog 24 #[.slice a3 LS.length c3, .slice a1 LA.length c1] W (SameTo LS LA W)) := fun W hW => refSame_any a3 a1 _ _ c3 c1 _ _ W (r3.below hW) (r1.below hW) (by omega) (by omega)
  clear t1 t2 t3 hz7 r1 r2 r3 bx b6
  generalize w6.heap.size = g6 at T1 T2 T3 ⊢
  generalize LA.length = nA at Qha Qsa ⊢
  generalize LH.length = nH at Qhs Qha ⊢
  generalize LS.length = nS at Qhs Qsa ⊢
  go_at_call 24
  refine (Qhs.out _ (Below.refl _ _)).mono ?_
  rintro e w8 ⟨B, hB, rfl, b8⟩
  cases B with
  | true =>
    have h1 := hB.1 (by trivial)
    go_wp2_with fail
    go_at_call 24
    refine (Qha.out _ b8).mono ?_
    rintro e w9 ⟨B2, hB2, rfl, b9⟩
    have b9 := bl_then b7 (bl_then b8 b9)
    cases B2 with
    | true =>
      have hv : N = 0 := by rw [HN.out, if_pos h1, if_pos (hB2.1 (by trivial))]
      subst hv
      go_wp2_with fail
      go_ret
      exact ⟨rfl, b9⟩
    | false =>
      have hv : N = 1 := by rw [HN.out, if_pos h1, if_neg (fun h => by (cases hB2.2 h))]
      subst hv
      go_wp2_with fail
      go_ret
      exact ⟨rfl, b9⟩
  | false =>
    have h1 : ¬ LH = LS := fun h => by (cases hB.2 h)
    obtain ⟨x1, x2⟩ := T1.out _ b8
    obtain ⟨y1, y2⟩ := T2.out _ b8
    obtain ⟨z1, z2⟩ := T3.out _ b8
    by_cases hkH : KH = 1
    · have e1 : ((KH : Int) == 1) = true := by simp [hkH]
      by_cases hkS : KS = 1
      · have e2 : ((KS : Int) == 1) = true := by simp [hkS]
        by_cases hkA : KA = 1
        · have e3 : ((KA : Int) == 1) = true := by simp [hkA]
          have hv : N = 0 := by rw [HN.out, if_neg h1, if_pos ⟨hkH, hkS⟩, if_pos hkA]
          subst hv
          clear hkH hkS hkA
          go_wp2_with fail
          go_ret
          exact ⟨rfl, bl_then b7 b8⟩
        · have e3 : ((KA : Int) == 1) = false := beq_eq_false_iff_ne.2 hkA
          have hv : N = 1 := by rw [HN.out, if_neg h1, if_pos ⟨hkH, hkS⟩, if_neg hkA]
          subst hv
          clear hkH hkS hkA
          go_wp2_with fail
          go_ret
          exact ⟨rfl, bl_then b7 b8⟩
      · have e2 : ((KS : Int) == 1) = false := beq_eq_false_iff_ne.2 hkS
        have hkk : ¬ (KH = 1 ∧ KS = 1) := fun h => hkS h.2
        clear hkH hkS
        go_wp2_with fail
        go_at_call 24
        refine (Qha.out _ b8).mono ?_
        rintro e w9 ⟨B2, hB2, rfl, b9⟩
        have b9 := bl_then b8 b9
        cases B2 with
        | true =>
          have hv : N = 3 := by rw [HN.out, if_neg h1, if_neg hkk, if_pos (hB2.1 (by trivial))]
          subst hv
          go_wp2_with fail
          go_ret
          exact ⟨rfl, bl_then b7 b9⟩
        | false =>
          have h2 : ¬ LH = LA := fun h => by (cases hB2.2 h)
          clear x1 x2 y1 y2 z1 z2
          obtain ⟨x1, x2⟩ := T1.out _ b9
          obtain ⟨y1, y2⟩ := T2.out _ b9
          obtain ⟨z1, z2⟩ := T3.out _ b9
          go_wp2_with fail
          go_at_call 24
          refine (Qsa.out _ b9).mono ?_
          rintro e w10 ⟨B3, hB3, rfl, b10⟩
          have b10 := bl_then b9 b10
          cases B3 with
          | true =>
            have hv : N = 2 := by rw [HN.out, if_neg h1, if_neg hkk, if_neg h2, if_pos (hB3.1 (by trivial))]
            subst hv
            go_wp2_with fail
            go_ret
            exact ⟨rfl, bl_then b7 b10⟩
          | false =>
            have h3 : ¬ LS = LA := fun h => by (cases hB3.2 h)
            clear x1 x2 y1 y2 z1 z2
            obtain ⟨x1, x2⟩ := T1.out _ b10
            obtain ⟨y1, y2⟩ := T2.out _ b10
            obtain ⟨z1, z2⟩ := T3.out _ b10
            go_wp2_with fail
            go_at_call 18
            refine (CM.out _).mono ?_
            rintro e w11 ⟨rfl, b11⟩
            have b11 := bl_then b10 b11
            cases BM with
            | true =>
              have hv : N = 4 := by rw [HN.out, if_neg h1, if_neg hkk, if_neg h2, if_neg h3, if_pos rfl]
              subst hv
              go_wp2_with fail
              go_ret
              exact ⟨rfl, bl_then b7 (b11.alloc b11.size _)⟩
            | false =>
              have hv : N = 5 := by rw [HN.out, if_neg h1, if_neg hkk, if_neg h2, if_neg h3, if_neg (by simp)]
              subst hv
              go_wp2_with fail
              go_ret
              exact ⟨rfl, bl_then b7 (b11.alloc b11.size _)⟩
    · have e1 : ((KH : Int) == 1) = false := beq_eq_false_iff_ne.2 hkH
      have hkk : ¬ (KH = 1 ∧ KS = 1) := fun h => hkH h.1
      clear hkH
      go_wp2_with fail
      go_at_call 24
      refine (Qha.out _ b8).mono ?_
      rintro e w9 ⟨B2, hB2, rfl, b9⟩
      have b9 := bl_then b8 b9
      cases B2 with
      | true =>
        have hv : N = 3 := by rw [HN.out, if_neg h1, if_neg hkk, if_pos (hB2.1 (by trivial))]
        subst hv
        go_wp2_with fail
        go_ret
        exact ⟨rfl, bl_then b7 b9⟩
      | false =>
        have h2 : ¬ LH = LA := fun h => by (cases hB2.2 h)
        clear x1 x2 y1 y2 z1 z2
        obtain ⟨x1, x2⟩ := T1.out _ b9
        obtain ⟨y1, y2⟩ := T2.out _ b9
        obtain ⟨z1, z2⟩ := T3.out _ b9
        go_wp2_with fail
        go_at_call 24
        refine (Qsa.out _ b9).mono ?_
        rintro e w10 ⟨B3, hB3, rfl, b10⟩
        have b10 := bl_then b9 b10
        cases B3 with
        | true =>
          have hv : N = 2 := by rw [HN.out, if_neg h1, if_neg hkk, if_neg h2, if_pos (hB3.1 (by trivial))]
          subst hv
          go_wp2_with fail
          go_ret
          exact ⟨rfl, bl_then b7 b10⟩
        | false =>
          have h3 : ¬ LS = LA := fun h => by (cases hB3.2 h)
          clear x1 x2 y1 y2 z1 z2
          obtain ⟨x1, x2⟩ := T1.out _ b10
          obtain ⟨y1, y2⟩ := T2.out _ b10
          obtain ⟨z1, z2⟩ := T3.out _ b10
          go_wp2_with fail
          go_at_call 18
          refine (CM.out _).mono ?_
          rintro e w11 ⟨rfl, b11⟩
          have b11 := bl_then b10 b11
          cases BM with
          | true =>
            have hv : N = 4 := by rw [HN.out, if_neg h1, if_neg hkk, if_neg h2, if_neg h3, if_pos rfl]
            subst hv
            go_wp2_with fail
            go_ret
            exact ⟨rfl, bl_then b7 (b11.alloc b11.size _)⟩
          | false =>
            have hv : N = 5 := by rw [HN.out, if_neg h1, if_neg hkk, if_neg h2, if_neg h3, if_neg (by simp)]
            subst hv
            go_wp2_with fail
            go_ret
            exact ⟨rfl, bl_then b7 (b11.alloc b11.size _)⟩
end Go.Proofs.YtkenmldiojeooaaGreat.Rc

namespace Go.Proofs.YtkenmldiojeooaaGreat.Rc
open Go.RowKit Tx Pm Pr En
set_option linter.unusedVariables false
set_option linter.unusedSimpArgs false
structure Pt (w : World) (aA aH aS : Option Addr) (na nh ns ca ch cs : Nat) (A H S : List Et) (p : ByteArray) : Prop where
  a : Ents w aA na (tsub A p)
  h : Ents w aH nh (tsub H p)
  s : Ents w aS ns (tsub S p)
  za : aA = none → ca = 0
  zh : aH = none → ch = 0
  zs : aS = none → cs = 0
theorem Pt.below {w w1 : World} {aA aH aS : Option Addr} {na nh ns ca ch cs : Nat} {A H S : List Et} {p : ByteArray} (h : Pt w aA aH aS na nh ns ca ch cs A H S p) (hb : Below w.heap.size w w1) : Pt w1 aA aH aS na nh ns ca ch cs A H S p := ⟨h.a.below hb, h.h.below hb, h.s.below hb, h.za, h.zh, h.zs⟩
theorem sub_len {T : List Et} (h : tcheck T = 0) (p : ByteArray) : (tsub T p).length ≤ 200 := Nat.le_trans (List.length_filter_le _ _) (tree_len h)
theorem part_data {T : List Et} (h : tcheck T = 0) (p : ByteArray) : (tget (tsub T p) p).data.size ≤ 1000000 := by rw [part_get]; exact node_small h p
theorem Pt.len {w : World} {aA aH aS : Option Addr} {na nh ns ca ch cs : Nat} {A H S : List Et} {p : ByteArray} (h : Pt w aA aH aS na nh ns ca ch cs A H S p) (ta : tcheck A = 0) (th : tcheck H = 0) (ts : tcheck S = 0) : na ≤ 200 ∧ nh ≤ 200 ∧ ns ≤ 200 := by
  have h1 := h.a.1
  have h2 := h.h.1
  have h3 := h.s.1
  have k1 := sub_len ta p
  have k2 := sub_len th p
  have k3 := sub_len ts p
  omega
def BelAt (M : Nd → Nd → Nd → Bool) (A H S : List Et) (p : ByteArray) : Prop := ∀ (aA aH aS : Option Addr) (na nh ns ca ch cs : Nat) (w : World), Pt w aA aH aS na nh ns ca ch cs A H S p →
  Calls Tryz.prog 28 #[.agg #[.slice aA na ca, .slice aH nh ch, .slice aS ns cs], .string p] w (ItTo (itsD M A H S (Blw p)) w)
set_option maxRecDepth 100000 in
set_option maxHeartbeats 4000000 in
theorem weigh_any {er : F3 Nat} {tx : F3 ByteArray} {cf : F3 Nat} (F : Fair er tx cf) (hQ : AsksQ er tx cf) {A H S : List Et} (ta : tcheck A = 0) (th : tcheck H = 0) (ts : tcheck S = 0) (q : ByteArray) (hq : q ≠ ⟨#[]⟩) (ho : Opn H S q.data.toList) (hin : ∃ e, e ∈ A ++ H ++ S ∧ e.path = q)
    (hbel : (tget H q).kind = 1 → (tget S q).kind = 1 → tsub H q ≠ tsub S q → BelAt (mg er tx cf) A H S q) (aA aH aS : Option Addr) (na nh ns ca ch cs : Nat) (w : World) (hP : Pt w aA aH aS na nh ns ca ch cs A H S q) :
    Calls Tryz.prog 42 #[.agg #[.slice aA na ca, .slice aH nh ch, .slice aS ns cs], .string q] w (ItTo (itsD (mg er tx cf) A H S (AtP q)) w) := by
  obtain ⟨W1, hW1⟩ : ∃ W1, W1 = w.alloc (.cells #[.slice aA na ca, .slice aH nh ch, .slice aS ns cs] 53) := ⟨_, rfl⟩
  have hb0 : Below w.heap.size w W1 := by rw [hW1]; exact (Below.refl _ w).alloc (Nat.le_refl _) _
  have hX : ∀ W, Below W1.heap.size W1 W → Box3 w.heap.size (.slice aA na ca) (.slice aH nh ch) (.slice aS ns cs) W := fun W h => by rw [hW1] at h; exact box_keep h
  obtain ⟨la, lh, ls⟩ := hP.len ta th ts
  have hP1 := hP.below hb0
  have rA := sub_rise (tree_rises ta) q
  have rH := sub_rise (tree_rises th) q
  have rS := sub_rise (tree_rises ts) q
  have S1 := fun W (h : Below W1.heap.size W1 W) => sameI_any aH aS nh ns ch cs (tsub H q) (tsub S q) W ((hP1.below h).h) ((hP1.below h).s) (by omega) (by omega)
  have S2 := fun W (h : Below W1.heap.size W1 W) => sameI_any aA aH na nh ca ch (tsub A q) (tsub H q) W ((hP1.below h).a) ((hP1.below h).h) (by omega) (by omega)
  have AG := fun B W => agreed_any q B W
  have IA := fun B (hB : B = true ↔ (tget (tsub A q) q).kind = 1) W (h : Below W1.heap.size W1 W) => isFolder_any aA na ca (tsub A q) q W ((hP1.below h).a) rA (by omega) B hB
  have IH := fun B (hB : B = true ↔ (tget (tsub H q) q).kind = 1) W (h : Below W1.heap.size W1 W) => isFolder_any aH nh ch (tsub H q) q W ((hP1.below h).h) rH (by omega) B hB
  have IS := fun B (hB : B = true ↔ (tget (tsub S q) q).kind = 1) W (h : Below W1.heap.size W1 W) => isFolder_any aS ns cs (tsub S q) q W ((hP1.below h).s) rS (by omega) B hB
  have UN := fun W (h : Below W1.heap.size W1 W) => unlike_any F hQ aA aH aS na nh ns ca ch cs (tsub A q) (tsub H q) (tsub S q) q W ((hP1.below h).a) ((hP1.below h).h) ((hP1.below h).s) (by omega) (by omega) (by omega) rA rH rS (part_data ta q) (part_data th q) (part_data ts q)
  unfold UnlTo at UN
  simp only [part_get] at IA IH IS UN
  have C1 := @at_same (mg er tx cf) A H S q hq ho hin
  have C2 := @at_folder (mg er tx cf) A H S q hq ho hin
  have C3 := @at_unlike (mg er tx cf) A H S q hq ho hin
  have BL := fun h1 h2 h3 W (h : Below W1.heap.size W1 W) => hbel h1 h2 h3 aA aH aS na nh ns ca ch cs W (hP1.below h)
  have hlen := itsD_len (M := mg er tx cf) A H S (Blw q)
  have l1 := tree_len ta
  have l2 := tree_len th
  have l3 := tree_len ts
  have hlen2 : (itsD (mg er tx cf) A H S (Blw q)).length ≤ 600 := by omega
  obtain ⟨BA, hBA⟩ : ∃ B : Bool, B = true ↔ (tget A q).kind = 1 := ⟨decide ((tget A q).kind = 1), decide_eq_true_iff⟩
  obtain ⟨BH, hBH⟩ : ∃ B : Bool, B = true ↔ (tget H q).kind = 1 := ⟨decide ((tget H q).kind = 1), decide_eq_true_iff⟩
  obtain ⟨BS, hBS⟩ : ∃ B : Bool, B = true ↔ (tget S q).kind = 1 := ⟨decide ((tget S q).kind = 1), decide_eq_true_iff⟩
  have IA := IA BA hBA
  have IH := IH BH hBH
  have IS := IS BS hBS
  have C2 := fun h h1 h2 => C2 h (hBH.1 h1) (hBS.1 h2) BA hBA
  have BL := fun h1 h2 h3 => BL (hBH.1 h1) (hBS.1 h2) h3
  have C3 := fun h (hk : ¬ (BH = true ∧ BS = true)) => C3 h (fun hc => hk ⟨hBH.2 hc.1, hBS.2 hc.2⟩)
  generalize itsD (mg er tx cf) A H S (AtP q) = R0 at C1 C2 C3 ⊢
  generalize itsD (mg er tx cf) A H S (Blw q) = R1 at C2 BL hlen2
  generalize mg er tx cf (tget A q) (tget H q) (tget S q) = BM at C3 UN
  generalize tsub A q = LA at S1 S2 UN C1 C2 C3 BL
  generalize tsub H q = LH at S1 S2 UN C1 C2 C3 BL
  generalize tsub S q = LS at S1 S2 UN C1 C2 C3 BL
  have HB0 := Lib.hid hb0
  have HX := Lib.hid hX
  have HS1 := Lib.hid S1
  have HS2 := Lib.hid S2
  have HAG := Lib.hid AG
  have HIA := Lib.hid IA
  have HIH := Lib.hid IH
  have HIS := Lib.hid IS
  have HUN := Lib.hid UN
  have HC1 := Lib.hid C1
  have HC2 := Lib.hid C2
  have HC3 := Lib.hid C3
  have HBL := Lib.hid BL
  clear hP hP1 hb0 hX S1 S2 AG IA IH IS UN C1 C2 C3 BL hbel hq ho hin rA rH rS hBA hBH hBS la lh ls l1 l2 l3 hlen ta th ts hQ F
  unfold ItTo
  go_enter Tryz.func42, Tryz.ntmps42
  go_wp2_with fail
  rw [← hW1]
  go_at_call 58
  refine (HS1.out _ (Below.refl _ _)).mono ?_
  rintro e w1 ⟨B1, hB1, rfl, b1⟩
  have HBB1 := Lib.hid hB1
  have HB1 := Lib.hid b1
  obtain ⟨x1, x2, x3⟩ := HX.out _ b1
  clear hB1 b1
  cases B1 with
  | true =>
    have HE : Hid (LH = LS) := HBB1.out.1 rfl
    clear HBB1
    go_wp2_with fail
    go_at_call 58
    refine (HS2.out _ HB1.out).mono ?_
    rintro e w2 ⟨B2, hB2, rfl, b2⟩
    have HC := Lib.hid (HC1.out HE.out B2 hB2)
    have HB2 := Lib.hid (below_call HB1.out b2)
    clear hB2 b2 x1 x2 x3
    go_wp2_with fail
    go_at_call 59
    refine (HAG.out (!B2) _).mono ?_
    rintro e w3 ⟨v3, rfl, o3, b3⟩
    have HB3 := Lib.hid (below_call HB2.out b3)
    have HO := Lib.hid (o3.base (B := w.heap.size) (Nat.le_trans HB0.out.size HB2.out.size))
    clear o3 b3
    go_wp2_with fail
    go_ret
    exact ⟨v3, rfl, by rw [HC.out]; exact HO.out, HB0.out.trans (HB3.out.mono HB0.out.size)⟩
  | false =>
    have HE : Hid (LH ≠ LS) := fun h => absurd (HBB1.out.2 h) (by decide)
    clear HBB1
    go_wp2_with fail
    go_at_call 60
    refine (HIH.out _ HB1.out).mono ?_
    rintro e w2 ⟨rfl, b2⟩
    have HB2 := Lib.hid (below_call HB1.out b2)
    clear b2 x1 x2 x3
    obtain ⟨x1, x2, x3⟩ := HX.out _ HB2.out
    by_cases hBH : BH = true
    case neg =>
      obtain rfl := Bool.eq_false_iff.2 hBH
      clear hBH HS1 HS2 HC1 HC2 HIH HIS HIA HBL HB1
      go_wp2_with fail
      go_at_call 61
      refine (HUN.out _ HB2.out).mono ?_
      rintro e w4 ⟨U1, U2, hU1, hU2, rfl, b4⟩
      have HC := Lib.hid (HC3.out HE.out (by simp) U1 U2 hU1 hU2)
      have HB4 := Lib.hid (below_call HB2.out b4)
      clear hU1 hU2 b4 HC3 x1 x2 x3
      generalize unl U1 U2 BM = n at HC
      go_wp2_with fail
      go_ret
      exact ⟨_, rfl, by rw [HC.out]; exact (io_one w4 q n).base (Nat.le_trans HB0.out.size HB4.out.size), HB0.out.trans ((HB4.out.alloc HB4.out.size _).mono HB0.out.size)⟩
    subst hBH
    go_wp2_with fail
    go_at_call 60
    refine (HIS.out _ HB2.out).mono ?_
    rintro e w3 ⟨rfl, b3⟩
    have HB2 := Lib.hid (below_call HB2.out b3)
    clear b3 x1 x2 x3
    obtain ⟨x1, x2, x3⟩ := HX.out _ HB2.out
    by_cases hBS : BS = true
    case neg =>
      obtain rfl := Bool.eq_false_iff.2 hBS
      clear hBS HS1 HS2 HC1 HC2 HIH HIS HIA HBL HB1
      go_wp2_with fail
      go_at_call 61
      refine (HUN.out _ HB2.out).mono ?_
      rintro e w4 ⟨U1, U2, hU1, hU2, rfl, b4⟩
      have HC := Lib.hid (HC3.out HE.out (by simp) U1 U2 hU1 hU2)
      have HB4 := Lib.hid (below_call HB2.out b4)
      clear hU1 hU2 b4 HC3 x1 x2 x3
      generalize unl U1 U2 BM = n at HC
      go_wp2_with fail
      go_ret
      exact ⟨_, rfl, by rw [HC.out]; exact (io_one w4 q n).base (Nat.le_trans HB0.out.size HB4.out.size), HB0.out.trans ((HB4.out.alloc HB4.out.size _).mono HB0.out.size)⟩
    subst hBS
    clear HS1 HS2 HC1 HC3 HIH HIS HUN HB1 x1 x2 x3
    have HC := Lib.hid (HC2.out HE.out (by trivial) (by trivial))
    have HBl := Lib.hid (HBL.out (by trivial) (by trivial) HE.out)
    clear HC2 HBL
    go_wp2_with fail
    refine Rg.wp_only ?_ (weighReg _ (by kernel_rfl) _ w.heap.size na nh ns ca ch cs aA aH aS q BA w3 (fun W => Below W1.heap.size W1 W) (fun W => Below W1.heap.size W1 W) (fun v W => Below W1.heap.size W1 W ∧ Io W W1.heap.size v (if (!BA) = true then [(q, 1)] else []))
      (fun v v' W => Below W1.heap.size W1 W ∧ Io W W1.heap.size v (if (!BA) = true then [(q, 1)] else []) ∧ Io W W1.heap.size v' R1) (fun v W => Below W1.heap.size W1 W ∧ Io W W1.heap.size v ((if (!BA) = true then [(q, 1)] else []) ++ R1))
      (HX.out _ HB2.out.drew) HB2.out.drew ?hA (fun W h => HX.out W h) ?hB (fun v W h => HX.out W h.1) ?hC (fun v v' W h => HX.out W h.1) ?hE)
    case hA =>
      intro W h
      refine (HIA.out W h).mono ?_
      rintro e w5 ⟨rfl, k⟩
      exact ⟨rfl, below_call h k⟩
    case hB =>
      intro W h
      refine (HAG.out _ W).mono ?_
      rintro e w5 ⟨v, rfl, o, k⟩
      exact ⟨v, rfl, below_call h k, o.base h.size⟩
    case hC =>
      intro v W ⟨h, o1⟩
      refine (HBl.out W h).mono ?_
      rintro e w5 ⟨v', rfl, o, k⟩
      exact ⟨v', rfl, below_call h k, o1.below k, o.base h.size⟩
    case hE =>
      intro v v' W ⟨h, o1, o2⟩ ty
      obtain ⟨v2, W2, e1, o3, g⟩ := run_app_items W W1.heap.size W1.heap.size v v' _ _ o1 o2 h.size (by
        have : (if (!BA) = true then [(q, 1)] else [] : List It).length ≤ 1 := by cases BA <;> simp
        omega) ty
      have hb := grow_io (Nat.le_refl _) h h.size o1 g
      exact ⟨v2, W2, e1, HX.out _ hb, hb, o3⟩
    rintro _ w9 ⟨v6, v7, v8, rfl, h9, o9⟩
    have HB9 := Lib.hid h9
    have HO9 := Lib.hid o9
    clear h9 o9
    go_wp2_with fail
    go_ret
    exact ⟨v8, rfl, by rw [HC.out]; exact HO9.out.base HB0.out.size, HB0.out.trans (HB9.out.mono HB0.out.size)⟩
end Go.Proofs.YtkenmldiojeooaaGreat.Rc
