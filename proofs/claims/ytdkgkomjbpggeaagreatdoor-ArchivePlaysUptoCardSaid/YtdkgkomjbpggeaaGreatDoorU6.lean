/- Texts of this seat, one behind the other. -/
import Derived.Test.YtdkgkomjbpggeaaGreatDoorU5
import Derived.Maps.AppendAt
import Derived.Shelf.SlSorted.Search
import Derived.Test.YtdkgkomjbpggeaaGreatDoorProg
import Derived.Deep.RegionWith
namespace Go.Proofs.YtdkgkomjbpggeaaGreatDoor.Az
open Go.RowKit Tx Pm Dk Wm Wr Wl Pl Tb Bl Fm
open En (Et tcheck)
open Ac (Ar upd upd_same upd_other files saveA turnA backA forgetA calm)
set_option linter.unusedVariables false
set_option linter.unusedSimpArgs false
set_option linter.unnecessarySimpa false
theorem has_ref {C : List On} {M : Nat} (hg : Good8 C M) {d : ByteArray} : (of8 C d).isSome = true ↔ 1 ≤ refD C d := by
  constructor
  · intro h
    obtain ⟨x, hx, _, _, e⟩ := of8_mem h
    have := (hg.each x hx).2.1
    omega
  · intro h
    unfold refD at h
    cases hf : of8 C d with
    | none => rw [hf] at h; simp at h
    | some x => rfl
def putsC (C : List On) (l : List ByteArray) : List On := l.foldl (fun C t => (putC C t).1) C
theorem putsC_snoc (C : List On) (l : List ByteArray) (t : ByteArray) : putsC C (l ++ [t]) = (putC (putsC C l) t).1 := by unfold putsC; rw [List.foldl_append]; rfl
theorem cnt_app (l m : List ByteArray) (d : ByteArray) : cnt (l ++ m) d = cnt l d + cnt m d := by unfold cnt; rw [List.countP_append]
theorem cnt_pos {l : List ByteArray} {d : ByteArray} : 1 ≤ cnt l d ↔ d ∈ l := by
  unfold cnt
  rw [Nat.one_le_iff_ne_zero, ← Nat.pos_iff_ne_zero, List.countP_pos_iff]
  simp
theorem cnt_nil (d : ByteArray) : cnt [] d = 0 := rfl
theorem putsC_good {C : List On} {M : Nat} (hg : Good8 C M) (l : List ByteArray) (h : ∀ x ∈ l, x.size ≤ 140737488351232) : Good8 (putsC C l) (M + l.length) := by
  refine snoc7 (P := fun l => (∀ x ∈ l, x.size ≤ 140737488351232) → Good8 (putsC C l) (M + l.length)) (fun _ => hg) (fun l t ih h => ?_) l h
  rw [putsC_snoc, List.length_append, ← Nat.add_assoc]
  exact good_put (ih (fun x hx => h x (List.mem_append_left _ hx))) (h t (by simp))
theorem putsC_ref {C : List On} {M : Nat} (hg : Good8 C M) (l : List ByteArray) (h : ∀ x ∈ l, x.size ≤ 140737488351232) (d : ByteArray) : refD (putsC C l) d = refD C d + cnt l d ∧ ((of8 C d).isSome = true → keyD (putsC C l) d = keyD C d) := by
  refine snoc7 (P := fun l => (∀ x ∈ l, x.size ≤ 140737488351232) → refD (putsC C l) d = refD C d + cnt l d ∧ ((of8 C d).isSome = true → keyD (putsC C l) d = keyD C d)) (fun _ => ⟨rfl, fun _ => rfl⟩) (fun l t ih h => ?_) l h
  have hl := fun x hx => h x (List.mem_append_left _ hx)
  obtain ⟨h1, h2⟩ := ih hl
  have hgl := putsC_good hg l hl
  rw [putsC_snoc, put_refD hgl, h1, cnt_snoc]
  refine ⟨by omega, fun hd => ?_⟩
  rw [put_keyD hgl, h2 hd]
  rw [has_ref hgl, h1]
  have := (has_ref hg).1 hd
  omega
def relsC (C : List On) (l : List ByteArray) : List On := l.foldl (fun C t => (relC C (keyD C t)).1) C
theorem relsC_snoc (C : List On) (l : List ByteArray) (t : ByteArray) : relsC C (l ++ [t]) = (relC (relsC C l) (keyD (relsC C l) t)).1 := by unfold relsC; rw [List.foldl_append]; rfl
theorem relsC_good {C : List On} {M : Nat} (hg : Good8 C M) (l : List ByteArray) : Good8 (relsC C l) M := by
  refine snoc7 (P := fun l => Good8 (relsC C l) M) hg (fun l t ih => ?_) l
  rw [relsC_snoc]
  exact good_rel ih
theorem relsC_ref {C : List On} {M : Nat} (hg : Good8 C M) (l : List ByteArray) (h : ∀ d, cnt l d ≤ refD C d) (d : ByteArray) : refD (relsC C l) d = refD C d - cnt l d ∧ ((of8 (relsC C l) d).isSome = true → keyD (relsC C l) d = keyD C d) := by
  refine snoc7 (P := fun l => (∀ d, cnt l d ≤ refD C d) → ∀ d, refD (relsC C l) d = refD C d - cnt l d ∧ ((of8 (relsC C l) d).isSome = true → keyD (relsC C l) d = keyD C d)) (fun _ d => ⟨rfl, fun _ => rfl⟩) (fun l t ih h d => ?_) l h d
  have hl : ∀ d, cnt l d ≤ refD C d := fun d => by have := h d; rw [cnt_snoc] at this; omega
  have hgl := relsC_good hg l
  have ht : (of8 (relsC C l) t).isSome = true := by
    rw [has_ref hgl, (ih hl t).1]
    have := h t
    rw [cnt_snoc, if_pos rfl] at this
    omega
  obtain ⟨_, r2, r3, _⟩ := rel_of hgl ht
  rw [relsC_snoc, r2, (ih hl d).1, cnt_snoc]
  refine ⟨by split <;> omega, fun hd => ?_⟩
  rw [r3 d hd]
  refine (ih hl d).2 ?_
  have h1 := (has_ref (good_rel hgl)).1 hd
  rw [r2] at h1
  rw [has_ref hgl]
  omega
theorem relsC_at {C : List On} {M i : Nat} (hg : Good8 C M) {l : List ByteArray} {t : ByteArray} (h : ∀ d, cnt l d ≤ refD C d) (hi : l[i]? = some t) : (of8 (relsC C (l.take i)) t).isSome = true ∧ keyD (relsC C (l.take i)) t = keyD C t ∧ relsC C (l.take (i + 1)) = (relC (relsC C (l.take i)) (keyD C t)).1 := by
  have htk := take_snoc hi
  have hp : ∀ d, cnt (l.take (i + 1)) d ≤ refD C d := fun d => by
    have h1 := h d
    have h2 : cnt l d = cnt (l.take (i + 1)) d + cnt (l.drop (i + 1)) d := by rw [← cnt_app, List.take_append_drop]
    omega
  have hp0 : ∀ d, cnt (l.take i) d ≤ refD C d := fun d => by have := hp d; rw [htk, cnt_snoc] at this; omega
  obtain ⟨h1, h2⟩ := relsC_ref hg (l.take i) hp0 t
  have ht : (of8 (relsC C (l.take i)) t).isSome = true := by
    rw [has_ref (relsC_good hg _), h1]
    have := hp t
    rw [htk, cnt_snoc, if_pos rfl] at this
    omega
  exact ⟨ht, h2 ht, by rw [htk, relsC_snoc, h2 ht]⟩
def tot (f : Nat → List ByteArray) (d : ByteArray) : Nat := ((List.range 7).map fun j => cnt (f j) d).sum
def swF (held : List ByteArray) (y : On) : Option On := if cnt held (keyO y) = 0 then none else some { y with refs := cnt held (keyO y) }
theorem swC_of {C : List On} (held : List ByteArray) (d : ByteArray) (h : C.Pairwise (fun x y => x.data ≠ y.data)) : of8 (swC C held) d = (of8 C d).bind (swF held) := by
  show of8 (C.filterMap (swF held)) d = _
  induction C with
  | nil => rfl
  | cons y C ih =>
    obtain ⟨h1, h2⟩ := List.pairwise_cons.1 h
    have ih := ih h2
    unfold of8 at ih ⊢
    by_cases hy : y.data = d
    · rw [List.find?_cons_of_pos (by simpa using hy)]
      show _ = swF held y
      cases hf : swF held y with
      | none =>
        rw [List.filterMap_cons_none hf, ih]
        have : C.find? (fun x => decide (x.data = d)) = none := List.find?_eq_none.2 (fun z hz => by
          have := h1 z hz
          rw [hy] at this
          simpa using fun e => this e.symm)
        rw [this]
        rfl
      | some y' =>
        have hd : y'.data = d := by
          unfold swF at hf
          split at hf
          · cases hf
          · injection hf with hf; subst hf; exact hy
        rw [List.filterMap_cons_some hf, List.find?_cons_of_pos (by simpa using hd)]
    · rw [List.find?_cons_of_neg (by simpa using hy)]
      cases hf : swF held y with
      | none => rw [List.filterMap_cons_none hf, ih]
      | some y' =>
        have hd : y'.data = y.data := by
          unfold swF at hf
          split at hf
          · cases hf
          · injection hf with hf; subst hf; rfl
        rw [List.filterMap_cons_some hf, List.find?_cons_of_neg (by simpa [hd] using hy), ih]
theorem swC_ref {C : List On} {M : Nat} (hg : Good8 C M) (held : List ByteArray) (d : ByteArray) : refD (swC C held) d = (if (of8 C d).isSome then cnt held (keyD C d) else 0) ∧ ((of8 (swC C held) d).isSome = true → keyD (swC C held) d = keyD C d) := by
  have e := swC_of held d hg.datas
  unfold refD keyD
  rw [e]
  cases hf : of8 C d with
  | none => exact ⟨rfl, fun h => by cases h⟩
  | some y =>
    simp only [Option.bind_some, Option.isSome_some, if_true]
    unfold swF
    by_cases h0 : cnt held (keyO y) = 0
    · rw [if_pos h0]
      exact ⟨h0.symm, fun h => by cases h⟩
    · rw [if_neg h0]
      exact ⟨rfl, fun _ => rfl⟩
theorem cnt_map {C : List On} {M : Nat} (hg : Good8 C M) {d : ByteArray} (hd : (of8 C d).isSome = true) : ∀ {l : List ByteArray}, (∀ e ∈ l, (of8 C e).isSome = true) → cnt (l.map (keyD C)) (keyD C d) = cnt l d
  | [], _ => rfl
  | e :: l, h => by
    have ih := cnt_map hg hd (l := l) (fun x hx => h x (List.mem_cons_of_mem _ hx))
    have hk := keyD_inj hg (h e List.mem_cons_self) hd
    unfold cnt at ih ⊢
    rw [List.map_cons, List.countP_cons, List.countP_cons, ih]
    congr 1
    by_cases he : e = d
    · simp [he]
    · have : keyD C e ≠ keyD C d := fun h => he (hk.1 h)
      simp [he, this]
def heldK (κ : ByteArray → ByteArray) (f : Nat → List ByteArray) (n : Nat) : List ByteArray := (List.range n).flatMap fun j => (f (j + 1)).map κ
theorem heldK_succ (κ : ByteArray → ByteArray) (f : Nat → List ByteArray) (n : Nat) : heldK κ f (n + 1) = heldK κ f n ++ (f (n + 1)).map κ := by
  unfold heldK
  rw [List.range_succ, List.flatMap_append]
  simp
theorem heldK_cnt {C : List On} {M : Nat} (hg : Good8 C M) {d : ByteArray} (hd : (of8 C d).isSome = true) {f : Nat → List ByteArray} (h0 : f 0 = []) (h : ∀ j, j ≤ 6 → ∀ e ∈ f j, (of8 C e).isSome = true) : cnt (heldK (keyD C) f 6) (keyD C d) = tot f d := by
  have e : List.range 7 = [0, 1, 2, 3, 4, 5, 6] := rfl
  have e6 : heldK (keyD C) f 6 = (f 1).map (keyD C) ++ ((f 2).map (keyD C) ++ ((f 3).map (keyD C) ++ ((f 4).map (keyD C) ++ ((f 5).map (keyD C) ++ (f 6).map (keyD C))))) := by
    unfold heldK
    have : List.range 6 = [0, 1, 2, 3, 4, 5] := rfl
    rw [this]
    simp
  rw [e6]
  simp only [cnt_app]
  rw [cnt_map hg hd (h 1 (by omega)), cnt_map hg hd (h 2 (by omega)), cnt_map hg hd (h 3 (by omega)), cnt_map hg hd (h 4 (by omega)), cnt_map hg hd (h 5 (by omega)), cnt_map hg hd (h 6 (by omega))]
  unfold tot
  rw [e]
  simp only [List.map_cons, List.map_nil, List.sum_cons, List.sum_nil, h0, cnt_nil]
  omega
theorem heldK_mem {κ : ByteArray → ByteArray} {f : Nat → List ByteArray} {n : Nat} {p : ByteArray} (h : p ∈ heldK κ f n) : ∃ j d, 1 ≤ j ∧ j ≤ n ∧ d ∈ f j ∧ p = κ d := by
  unfold heldK at h
  obtain ⟨j, hj, hp⟩ := List.mem_flatMap.1 h
  obtain ⟨d, hd, rfl⟩ := List.mem_map.1 hp
  have := List.mem_range.1 hj
  exact ⟨j + 1, d, by omega, by omega, hd, rfl⟩
theorem heldK_len {κ : ByteArray → ByteArray} {f : Nat → List ByteArray} {N : Nat} (h : ∀ j, (f j).length ≤ N) : ∀ n, (heldK κ f n).length ≤ n * N
  | 0 => by rw [Nat.zero_mul]; exact Nat.le_refl 0
  | n + 1 => by
    rw [heldK_succ, List.length_append, List.length_map, Nat.succ_mul]
    have := heldK_len (κ := κ) h n
    have := h (n + 1)
    omega
def cz (C : List On) : Nat := (C.map fun y => y.data.size + 74).sum
theorem cz_put (C : List On) (d : ByteArray) : cz (putC C d).1 ≤ cz C + d.size + 74 := by
  unfold putC
  cases of8 C d with
  | some x =>
    show cz (setR C _ _) ≤ _
    have e : cz (setR C (keyO x) (x.refs + 1)) = cz C := by
      unfold cz
      have : ∀ D : List On, (D.map fun y => y.data.size + 74) = (D.map On.data).map (fun d => d.size + 74) := fun D => by rw [List.map_map]; rfl
      rw [this, this C, setR_datas]
    omega
  | none =>
    show cz (C ++ [newO C d]) ≤ _
    unfold cz
    rw [List.map_append, List.sum_append]
    show _ + (d.size + 74 + 0) ≤ _
    omega
theorem cz_puts (C : List On) : ∀ l : List ByteArray, cz (putsC C l) ≤ cz C + (l.map fun d => d.size + 74).sum := fun l => by
  refine snoc7 (P := fun l => cz (putsC C l) ≤ cz C + (l.map fun d => d.size + 74).sum) (Nat.le_refl _) (fun l t ih => ?_) l
  rw [putsC_snoc, List.map_append, List.sum_append]
  have := cz_put (putsC C l) t
  show _ ≤ _ + (_ + (t.size + 74 + 0))
  omega
theorem sum_sub {f : On → Nat} {p : On → Bool} : ∀ l : List On, ((l.filter p).map f).sum ≤ (l.map f).sum
  | [] => Nat.le_refl _
  | x :: l => by
    have := sum_sub (f := f) (p := p) l
    rw [List.filter_cons]
    split
    · rw [List.map_cons, List.map_cons, List.sum_cons, List.sum_cons]; omega
    · rw [List.map_cons, List.sum_cons]; omega
theorem cz_set (C : List On) (p : ByteArray) (k : Nat) : cz (setR C p k) = cz C := by
  unfold cz
  have : ∀ D : List On, (D.map fun y => y.data.size + 74) = (D.map On.data).map (fun d => d.size + 74) := fun D => by rw [List.map_map]; rfl
  rw [this, this C, setR_datas]
theorem cz_rel (C : List On) (p : ByteArray) : cz (relC C p).1 ≤ cz C := by
  unfold relC
  cases at8 C p with
  | none => exact Nat.le_refl _
  | some x =>
    show cz (if x.refs = 1 then delR C p else setR C p (x.refs - 1)) ≤ _
    split
    · exact sum_sub C
    · rw [cz_set]; exact Nat.le_refl _
theorem cz_rels (C : List On) (l : List ByteArray) : cz (relsC C l) ≤ cz C := by
  refine snoc7 (P := fun l => cz (relsC C l) ≤ cz C) (Nat.le_refl _) (fun l t ih => ?_) l
  rw [relsC_snoc]
  exact Nat.le_trans (cz_rel _ _) ih
theorem cz_sw (C : List On) (held : List ByteArray) : cz (swC C held) ≤ cz C := by
  show cz (C.filterMap (swF held)) ≤ _
  induction C with
  | nil => exact Nat.le_refl _
  | cons y C ih =>
    unfold cz at ih ⊢
    cases hf : swF held y with
    | none => rw [List.filterMap_cons_none hf, List.map_cons, List.sum_cons]; omega
    | some y' =>
      have hd : y'.data = y.data := by
        unfold swF at hf
        split at hf
        · cases hf
        · injection hf with hf; subst hf; rfl
      rw [List.filterMap_cons_some hf, List.map_cons, List.sum_cons, List.map_cons, List.sum_cons, hd]
      omega
def hold (A : Ar) (i : Nat) : List ByteArray := match A.tr i with
  | some t => if (A.tu i).isNone || A.wh then files t else []
  | none => []
def rdl (A : Ar) (i : Nat) : List ByteArray := match A.tr i with
  | some t => if (A.tu i).isNone then files t else []
  | none => []
theorem tot_upd (f : Nat → List ByteArray) {i : Nat} (hi : i ≤ 6) (x : List ByteArray) (d : ByteArray) : tot (upd f i x) d + cnt (f i) d = tot f d + cnt x d := by
  have e : List.range 7 = [0, 1, 2, 3, 4, 5, 6] := rfl
  unfold tot
  rw [e]
  simp only [List.map_cons, List.map_nil, List.sum_cons, List.sum_nil]
  obtain rfl | rfl | rfl | rfl | rfl | rfl | rfl : i = 0 ∨ i = 1 ∨ i = 2 ∨ i = 3 ∨ i = 4 ∨ i = 5 ∨ i = 6 := by omega
  all_goals
    simp [upd]
    omega
theorem tot_le (f : Nat → List ByteArray) {i : Nat} (hi : i ≤ 6) (d : ByteArray) : cnt (f i) d ≤ tot f d := by
  have h := tot_upd f hi [] d
  rw [cnt_nil] at h
  omega
theorem tot_congr {f g : Nat → List ByteArray} (h : ∀ j, j ≤ 6 → f j = g j) (d : ByteArray) : tot f d = tot g d := by
  unfold tot
  congr 1
  refine List.map_congr_left (fun j hj => ?_)
  rw [h j (by have := List.mem_range.1 hj; omega)]
theorem hold_save (A : Ar) (i : Nat) (t : List Et) : hold (saveA A i t) = upd (hold A) i (files t) := by
  funext j
  unfold hold saveA upd
  by_cases h : j = i
  · subst h; simp
  · simp [h]
theorem hold_back {A : Ar} {i : Nat} (hw : A.wh = true) : hold (backA A i) = hold A := by
  funext j
  unfold hold backA
  simp only [hw, Bool.or_true, if_true]
theorem hold_turn (A : Ar) (i : Nat) (b : Int) (d : ByteArray) : cnt (hold (turnA A i b) i) d ≤ cnt (hold A i) d ∨ A.tu i ≠ none := by
  by_cases ht : A.tu i = none
  · left
    unfold hold turnA
    simp only [ht, upd_same]
    cases A.tr i with
    | none => exact Nat.le_refl _
    | some t =>
      simp only [Option.isNone_none, Bool.true_or, if_true, Option.isNone_some, Bool.false_or]
      split
      · exact Nat.le_refl _
      · exact Nat.zero_le _
  · exact .inr ht
theorem hold_turn_other (A : Ar) (b : Int) {i j : Nat} (h : j ≠ i) : hold (turnA A i b) j = hold A j := by
  unfold hold turnA
  simp only [upd_other _ _ h]
theorem hold_turn_wh {A : Ar} {i : Nat} {b : Int} (hw : A.wh = true) : hold (turnA A i b) = hold A := by
  funext j
  unfold hold turnA
  simp only [hw, Bool.or_true, if_true]
theorem hold_forget (A : Ar) (i : Nat) {j : Nat} (hj : j ≤ 6) : hold (forgetA A i) j = upd (rdl A) i [] j := by
  unfold hold forgetA rdl upd
  by_cases h : j = i
  · subst h; simp
  · simp only [if_neg h]
    cases ht : A.tr j with
    | none => rfl
    | some t =>
      cases hu : A.tu j with
      | none => simp
      | some b =>
        have : calm (fun k => if k = i then none else A.tu k) = false := by
          unfold calm
          rw [List.all_eq_false]
          exact ⟨j, List.mem_range.2 (by omega), by simp [h, hu]⟩
        simp [this]
end Go.Proofs.YtdkgkomjbpggeaaGreatDoor.Az

namespace Go.Proofs.YtdkgkomjbpggeaaGreatDoor.Tb
open Go.RowKit Tx Pm Dk Wm Wr Wl
set_option linter.unusedVariables false
set_option linter.unusedSimpArgs false
set_option linter.unnecessarySimpa false
def tot (S : List (ByteArray × ByteArray)) : Nat := (S.map fun s => s.1.size + s.2.size + 40).sum
theorem tot_cons (s : ByteArray × ByteArray) (S : List (ByteArray × ByteArray)) : tot (s :: S) = s.1.size + s.2.size + 40 + tot S := by unfold tot; rw [List.map_cons, List.sum_cons]
def FromC (S : List (ByteArray × ByteArray)) (c : Ch) : Prop := c.gone = false → (c.key, c.val) ∈ S
def FromL (S : List (ByteArray × ByteArray)) (L : List It) : Prop := ∀ x ∈ L, (x.path, x.data) ∈ S
def Rc (S : List (ByteArray × ByteArray)) (r : ByteArray) : Prop := (opsS r).2 = 0 ∧ r.size ≤ 1100010 ∧ ∀ c ∈ (opsS r).1, FromC S c
section
variable {S : List (ByteArray × ByteArray)}
theorem from_app {L : List It} {c : Ch} (hL : FromL S L) (hc : FromC S c) : FromL S (app L c) := fun x hx => by
  unfold app at hx
  cases hg : c.gone with
  | true =>
    rw [hg] at hx
    exact hL x (List.mem_filter.1 hx).1
  | false =>
    rw [hg] at hx
    rcases mem_ins hx with rfl | hx
    · exact hc hg
    · exact hL x hx
theorem from_all {L : List It} : ∀ {l : List Ch}, FromL S L → (∀ c ∈ l, FromC S c) → FromL S (all7 L l) := fun {l} => by
  induction l generalizing L with
  | nil => exact fun h _ => h
  | cons c l ih => exact fun h hc => ih (from_app h (hc c List.mem_cons_self)) (fun d hd => hc d (List.mem_cons_of_mem _ hd))
theorem from_rows {L : List It} {R : List ByteArray} (hL : FromL S L) (hR : ∀ r ∈ R, Rc S r) : FromL S (rows7 L R) := by
  induction R generalizing L with
  | nil => exact hL
  | cons r R ih => exact ih (from_all hL (hR r List.mem_cons_self).2.2) (fun d hd => hR d (List.mem_cons_of_mem _ hd))
theorem ws_pick : ∀ {L : List It} {x : It}, L.Pairwise (fun a b => a.path ≠ b.path) → x ∈ L → ws L = ws (L.filter fun y => !decide (y.path = x.path)) + (x.path.size + x.data.size + 40)
  | [], _, _, h => by cases h
  | y :: L, x, hp, h => by
    obtain ⟨h1, h2⟩ := List.pairwise_cons.1 hp
    by_cases he : y.path = x.path
    · have hyx : x = y := by
        rcases List.mem_cons.1 h with h | h
        · exact h
        · exact absurd he (h1 x h)
      subst hyx
      have hf : L.filter (fun y => !decide (y.path = x.path)) = L := List.filter_eq_self.2 (fun z hz => by have := h1 z hz; simp [Ne.symm this])
      rw [List.filter_cons_of_neg (by simp), hf, ws_cons]
      omega
    · have hx : x ∈ L := by
        rcases List.mem_cons.1 h with h | h
        · exact absurd (by rw [h]) he
        · exact h
      rw [List.filter_cons_of_pos (by simp [he]), ws_cons, ws_cons, ws_pick h2 hx]
      omega
theorem ws_from : ∀ {S : List (ByteArray × ByteArray)} {L : List It}, L.Pairwise (fun a b => a.path ≠ b.path) → FromL S L → ws L ≤ tot S
  | [], L, _, h => by
    cases L with
    | nil => exact Nat.le_refl _
    | cons x L => exact absurd (h x List.mem_cons_self) (by simp)
  | s :: S, L, hp, h => by
    rw [tot_cons]
    by_cases hx : ∃ x ∈ L, (x.path, x.data) = s
    · obtain ⟨x, hx, rfl⟩ := hx
      rw [ws_pick hp hx]
      have ih := ws_from (S := S) (L := L.filter fun y => !decide (y.path = x.path)) (hp.filter _) (fun y hy => by
        obtain ⟨hy1, hy2⟩ := List.mem_filter.1 hy
        rcases List.mem_cons.1 (h y hy1) with e | e
        · simp only [Prod.mk.injEq] at e
          rw [e.1] at hy2
          simp at hy2
        · exact e)
      show _ ≤ x.path.size + x.data.size + 40 + tot S
      omega
    · have ih := ws_from (S := S) (L := L) hp (fun y hy => by
        rcases List.mem_cons.1 (h y hy) with e | e
        · exact absurd ⟨y, hy, e⟩ hx
        · exact e)
      omega
theorem rises_ne {L : List It} (h : Rises L) : L.Pairwise (fun a b => a.path ≠ b.path) := List.Pairwise.imp (fun {a b} hab e => by rw [e, less_irrefl] at hab; cases hab) h
theorem ws_len (L : List It) : L.length * 40 ≤ ws L := by
  induction L with
  | nil => exact Nat.le_refl _
  | cons x L ih => rw [ws_cons, List.length_cons, Nat.succ_mul]; omega
theorem sum_le : ∀ {l : List Nat} {N : Nat}, (∀ x ∈ l, x ≤ N) → l.sum ≤ l.length * N
  | [], _, _ => Nat.zero_le _
  | x :: l, N, h => by
    have h1 := h x List.mem_cons_self
    have h2 := sum_le (l := l) (fun y hy => h y (List.mem_cons_of_mem _ hy))
    rw [List.sum_cons, List.length_cons, Nat.succ_mul]
    omega
theorem based_rises {B : Option Fi} {L : List It} (h : Based B L) : Rises L ∧ Plain L := by
  rcases h with ⟨_, rfl⟩ | ⟨r, n, ops, _, _, _, rfl⟩
  · exact ⟨List.Pairwise.nil, fun x hx => by cases hx⟩
  · exact ⟨rises_all List.Pairwise.nil _, plain_all (fun x hx => by cases hx) _⟩
theorem ins_end {acc : List It} {x : It} (h : ∀ y ∈ acc, Op.bytesLess y.path.toList x.path.toList = true) : ins acc x = acc ++ [x] := by
  have h1 : acc.takeWhile (fun y => Op.bytesLess y.path.toList x.path.toList) = acc ∧ acc.dropWhile (fun y => Op.bytesLess y.path.toList x.path.toList) = [] := by
    induction acc with
    | nil => exact ⟨rfl, rfl⟩
    | cons y acc ih =>
      have hy := h y List.mem_cons_self
      obtain ⟨i1, i2⟩ := ih (fun z hz => h z (List.mem_cons_of_mem _ hz))
      rw [List.takeWhile_cons, List.dropWhile_cons, hy]
      simp only [if_true, i1, i2]
      exact ⟨trivial, trivial⟩
  unfold ins
  rw [h1.1, h1.2]
theorem all_asc : ∀ (L acc : List It), Rises (acc ++ L) → Plain L → all7 acc (whole7 L) = acc ++ L
  | [], acc, _, _ => by rw [List.append_nil]; rfl
  | x :: L, acc, hr, hp => by
    have hx : rw7 x.path x.data = x := (hp x List.mem_cons_self).symm
    have e : acc ++ x :: L = (acc ++ [x]) ++ L := by simp
    rw [e] at hr ⊢
    have ih := all_asc L (acc ++ [x]) hr (fun y hy => hp y (List.mem_cons_of_mem _ hy))
    have hlow : ∀ y ∈ acc, Op.bytesLess y.path.toList x.path.toList = true := fun y hy => by
      have h1 := (List.pairwise_append.1 hr).1
      exact (List.pairwise_append.1 h1).2.2 y hy x (by simp)
    show all7 (app acc ⟨x.path, x.data, false⟩) (whole7 L) = _
    have ha : app acc ⟨x.path, x.data, false⟩ = acc ++ [x] := by
      unfold app
      show ins acc (rw7 x.path x.data) = _
      rw [hx]
      exact ins_end hlow
    rw [ha]
    exact ih
structure Cx (S : List (ByteArray × ByteArray)) (K M : Nat) (B BT G GT : Option Fi) (st sm : Nat) (L0 : List It) (R : List ByteArray) (r : ByteArray) : Prop where
  sz : Sz B BT G GT st sm
  bs : B = none ∨ ∃ d n, B = some (sy d n)
  based : Based B L0
  from0 : FromL S L0
  recs : ∀ x ∈ R ++ [r], Rc S x
  len : R.length ≤ M
  st : st ≤ K
  sm : sm ≤ K
  log : ∀ G', Re G G' → ∃ c n, G' = some (sy c n) ∧ Torn R r c
def Wk (S : List (ByteArray × ByteArray)) (K M : Nat) (x : Tst) : Prop := ∃ B BT n GT st sm a L0 R, x = ⟨⟨T7 B BT (some (sy (PK R) n)) GT st sm a false, R, false⟩, rows7 L0 R⟩ ∧ Rng a ∧ Cx S K M B BT (some (sy (PK R) n)) GT st sm L0 R (rec7 [])
theorem Wk.rows {K M : Nat} {x : Tst} (h : Wk S K M x) (hS : tot S ≤ 1100000) : Rises x.L ∧ Plain x.L ∧ FromL S x.L ∧ ws x.L ≤ 1100000 := by
  obtain ⟨B, BT, n, GT, st, sm, a, L0, R, rfl, ha, hc⟩ := h
  obtain ⟨h1, h2⟩ := based_rises hc.based
  have hr := rises_rows h1 R
  have hf := from_rows hc.from0 (fun r hr => hc.recs r (List.mem_append_left _ hr))
  have := ws_from (rises_ne hr) hf
  exact ⟨hr, plain_rows h2 R, hf, by show ws (rows7 L0 R) ≤ _; omega⟩
end
end Go.Proofs.YtdkgkomjbpggeaaGreatDoor.Tb

namespace Go.Proofs.YtdkgkomjbpggeaaGreatDoor.Az
open Go.RowKit Tx Pm Dk Wm Wr Wl Pl Tb Bl Fm
open Fr hiding sv Texts cnt cnt_snoc
set_option linter.unusedVariables false
set_option linter.unusedSimpArgs false
set_option linter.unnecessarySimpa false
theorem ws_mid (s t : List It) (x : It) : ws (s ++ x :: t) = ws (s ++ t) + (x.path.size + x.data.size + 40) := by
  rw [ws_append, ws_append, ws_cons]
  omega
theorem ws_sub : ∀ (R L : List It), R.Nodup → (∀ x ∈ R, x ∈ L) → ws R ≤ ws L
  | [], L, _, _ => Nat.zero_le _
  | x :: R, L, hn, h => by
    obtain ⟨h1, h2⟩ := List.nodup_cons.1 hn
    obtain ⟨s, t, rfl⟩ := List.append_of_mem (h x List.mem_cons_self)
    have ih := ws_sub R (s ++ t) h2 (fun y hy => by
      have hm := h y (List.mem_cons_of_mem _ hy)
      have hne : y ≠ x := fun e => h1 (e ▸ hy)
      rw [List.mem_append, List.mem_cons] at hm
      rw [List.mem_append]
      exact hm.elim .inl (fun hh => hh.elim (fun e => absurd e hne) .inr))
    rw [ws_cons, ws_mid]
    omega
theorem wt_sub : ∀ (l : List Ch) (R : List It), (l.map (·.key)).Nodup → (∀ c ∈ l, c.gone = false → rw7 c.key c.val ∈ R) → (∀ c ∈ l, c.gone = true → c.key.size ≤ 14 ∧ c.val.size = 0) → wt l ≤ ws R + 54 * l.length
  | [], R, _, _, _ => Nat.zero_le _
  | c :: l, R, hn, h, hg => by
    rw [List.map_cons] at hn
    obtain ⟨h1, h2⟩ := List.nodup_cons.1 hn
    have hg2 := fun c' (hc' : c' ∈ l) => hg c' (List.mem_cons_of_mem _ hc')
    rw [wt_cons, List.length_cons]
    cases hgc : c.gone with
    | true =>
      obtain ⟨g1, g2⟩ := hg c List.mem_cons_self hgc
      have ih := wt_sub l R h2 (fun c' hc' => h c' (List.mem_cons_of_mem _ hc')) hg2
      omega
    | false =>
      obtain ⟨s, t, rfl⟩ := List.append_of_mem (h c List.mem_cons_self hgc)
      have ih := wt_sub l (s ++ t) h2 (fun c' hc' hg' => by
        have hm := h c' (List.mem_cons_of_mem _ hc') hg'
        have hne : rw7 c'.key c'.val ≠ rw7 c.key c.val := fun e => h1 (by
          have : (rw7 c'.key c'.val).path = (rw7 c.key c.val).path := by rw [e]
          have e2 : c'.key = c.key := this
          exact List.mem_map.2 ⟨c', hc', e2⟩)
        rw [List.mem_append, List.mem_cons] at hm
        rw [List.mem_append]
        exact hm.elim .inl (fun hh => hh.elim (fun e => absurd e hne) .inr)) hg2
      rw [ws_mid]
      have e1 : (rw7 c.key c.val).path = c.key := rfl
      have e2 : (rw7 c.key c.val).data = c.val := rfl
      rw [e1, e2]
      omega
theorem rises_nodup {L : List It} (h : Rises L) : L.Nodup := List.Pairwise.imp (fun {a b} hab e => hab (by rw [e])) (rises_ne h)
theorem find_of {L : List It} (h : Rises L) {x : It} (hx : x ∈ L) : find L x.path = some x := by
  have hne := rises_ne h
  induction L with
  | nil => cases hx
  | cons y L ih =>
    obtain ⟨h1, h2⟩ := List.pairwise_cons.1 hne
    unfold find at ih ⊢
    rcases List.mem_cons.1 hx with rfl | hx
    · exact List.find?_cons_of_pos (by simp)
    · rw [List.find?_cons_of_neg (by simpa using h1 x hx)]
      exact ih (List.pairwise_cons.1 h).2 hx h2
theorem wt_rows {L : List It} {l : List Ch} {C : List On} {N : Nat} (hr : Rises L) (ho : Once l) (hk : Ks l C N) : wt l ≤ ws (all7 L l) + 54 * N := by
  have hlen := hk.len ho
  obtain ⟨S, s1, s2, s3, s4, s5⟩ := hk
  have h := wt_sub l (all7 L l) (once_keys.1 ho) (fun c hc hg => ?_) (fun c hc hg => ⟨s5 _ (s2 c hc).1, (s2 c hc).2 hg⟩)
  · have := Nat.mul_le_mul_left 54 hlen
    omega
  · have hf : lastOf l c.key = some c := by
      have hu : ∀ {m : List Ch}, m.Pairwise (fun a b => a.key ≠ b.key) → c ∈ m → m.find? (fun d => decide (d.key = c.key)) = some c := fun {m} hm hc => by
        induction m with
        | nil => cases hc
        | cons y m ih =>
          obtain ⟨h1, h2⟩ := List.pairwise_cons.1 hm
          rcases List.mem_cons.1 hc with rfl | hc
          · exact List.find?_cons_of_pos (by simp)
          · rw [List.find?_cons_of_neg (by simpa using h1 c hc)]
            exact ih h2 hc
      unfold lastOf
      refine hu ?_ (List.mem_reverse.2 hc)
      rw [List.pairwise_reverse]
      exact List.Pairwise.imp (fun h e => h e.symm) ho
    have := find_all L l c.key
    rw [hf] at this
    have e : after (find L c.key) (some c) = some (rw7 c.key c.val) := by unfold after; simp [hg]
    rw [e] at this
    exact (find_mem this).1
def Zr (Z : List It) (vals : Nat → Option ByteArray) : Prop := (∀ i, 1 ≤ i → i ≤ 6 → find Z (keyA i) = (vals i).map (rw7 (keyA i))) ∧ ∀ p, beg pB2 p = false → (∀ i, 1 ≤ i → i ≤ 6 → p ≠ keyA i) → find Z p = none
theorem zr_put {Z : List It} {vals : Nat → Option ByteArray} (h : Zr Z vals) {i : Nat} (v : ByteArray) (h1 : 1 ≤ i) (h6 : i ≤ 6) : Zr (app Z ⟨keyA i, v, false⟩) (Ac.upd vals i (some v)) := by
  refine ⟨fun j j1 j6 => ?_, fun p hp hn => ?_⟩
  · rw [find_app7]
    by_cases e : i = j
    · subst e
      rw [if_pos rfl, Ac.upd_same]
      rfl
    · rw [if_neg (fun hh => e (keyA_inj hh)), Ac.upd_other _ _ (fun hh => e hh.symm)]
      exact h.1 j j1 j6
  · rw [find_app7, if_neg (fun hh => hn i h1 h6 hh.symm)]
    exact h.2 p hp hn
theorem zr_drop {Z : List It} {vals : Nat → Option ByteArray} (h : Zr Z vals) {i : Nat} (h1 : 1 ≤ i) (h6 : i ≤ 6) : Zr (app Z ⟨keyA i, ⟨#[]⟩, true⟩) (Ac.upd vals i none) := by
  refine ⟨fun j j1 j6 => ?_, fun p hp hn => ?_⟩
  · rw [find_app7]
    by_cases e : i = j
    · subst e
      rw [if_pos rfl, Ac.upd_same]
      rfl
    · rw [if_neg (fun hh => e (keyA_inj hh)), Ac.upd_other _ _ (fun hh => e hh.symm)]
      exact h.1 j j1 j6
  · rw [find_app7, if_neg (fun hh => hn i h1 h6 hh.symm)]
    exact h.2 p hp hn
def rowO (y : On) : It := rw7 (keyO y) (enc y.refs y.data)
def zl (vals : Nat → Option ByteArray) : List It := (List.range 6).filterMap fun i => (vals (i + 1)).map (rw7 (keyA (i + 1)))
theorem ws_rowO {C : List On} {M : Nat} (hg : Good8 C M) (hM : M ≤ 100000000) : ws (C.map rowO) ≤ cz C := by
  have h : ∀ y ∈ C, (rowO y).path.size + (rowO y).data.size + 40 ≤ y.data.size + 74 := fun y hy => by
    obtain ⟨_, _, h3, _, h5⟩ := hg.each y hy
    have h1 := keyO_size hg hM hy
    have h2 := enc_size (h := y.refs) (d := y.data) (by omega) (by omega)
    show (keyO y).size + (enc y.refs y.data).size + 40 ≤ _
    omega
  clear hg
  unfold ws cz
  induction C with
  | nil => exact Nat.le_refl _
  | cons y C ih =>
    simp only [List.map_cons, List.sum_cons]
    have h1 := h y List.mem_cons_self
    have h2 := ih (fun z hz => h z (List.mem_cons_of_mem _ hz))
    omega
theorem ws_zl {vals : Nat → Option ByteArray} {b : Nat} (h : ∀ i v, vals i = some v → v.size ≤ b) : ws (zl vals) ≤ 6 * (b + 54) := by
  have hl : (zl vals).length ≤ 6 := by
    unfold zl
    exact Nat.le_trans (List.length_filterMap_le _ _) (by rw [List.length_range]; exact Nat.le_refl _)
  have hm : ∀ x ∈ zl vals, x.path.size + x.data.size + 40 ≤ b + 54 := fun x hx => by
    unfold zl at hx
    obtain ⟨i, hi, e⟩ := List.mem_filterMap.1 hx
    have hi6 := List.mem_range.1 hi
    cases hv : vals (i + 1) with
    | none => rw [hv] at e; cases e
    | some v =>
      rw [hv] at e
      injection e with e
      subst e
      have h1 := h _ _ hv
      have h2 := keyA_size (i := i + 1) (by omega)
      show (keyA (i + 1)).size + v.size + 40 ≤ _
      omega
  unfold ws
  have := sum_le (l := (zl vals).map fun x => x.path.size + x.data.size + 40) (N := b + 54) (fun k hk => by
    obtain ⟨x, hx, rfl⟩ := List.mem_map.1 hk
    exact hm x hx)
  rw [List.length_map] at this
  have := Nat.mul_le_mul_right (b + 54) hl
  omega
theorem ws_state {R Z : List It} {C : List On} {M b : Nat} {vals : Nat → Option ByteArray} (hR : Rep R C) (hg : Good8 C M) (hM : M ≤ 100000000) (hZ : ∀ p, beg pB2 p = false → find R p = find Z p) (hz : Zr Z vals) (hb : ∀ i v, vals i = some v → v.size ≤ b) : ws R ≤ cz C + 6 * (b + 54) := by
  have h := ws_sub R (C.map rowO ++ zl vals) (rises_nodup hR.rises) (fun x hx => by
    have hf := find_of hR.rises hx
    rw [List.mem_append]
    cases hp : beg pB2 x.path with
    | true =>
      rw [hR.look _ hp] at hf
      cases ha : at8 C x.path with
      | none => rw [ha] at hf; cases hf
      | some y =>
        rw [ha] at hf
        injection hf with hf
        exact .inl (List.mem_map.2 ⟨y, (at8_some ha).1, hf⟩)
    | false =>
      rw [hZ _ hp] at hf
      by_cases he : ∃ i, 1 ≤ i ∧ i ≤ 6 ∧ x.path = keyA i
      · obtain ⟨i, h1, h6, e⟩ := he
        rw [e, hz.1 i h1 h6] at hf
        refine .inr (List.mem_filterMap.2 ⟨i - 1, List.mem_range.2 (by omega), ?_⟩)
        rw [show i - 1 + 1 = i by omega]
        exact hf
      · rw [hz.2 _ hp (fun i h1 h6 e => he ⟨i, h1, h6, e⟩)] at hf
        cases hf)
  rw [ws_append] at h
  have h1 := ws_rowO hg hM
  have h2 := ws_zl hb
  omega
end Go.Proofs.YtdkgkomjbpggeaaGreatDoor.Az

namespace Go.Proofs.YtdkgkomjbpggeaaGreatDoor.Az
open Go.RowKit Tx Pm Dk Wm Wr Wl Pl Tb
set_option linter.unusedVariables false
set_option linter.unusedSimpArgs false
set_option linter.unnecessarySimpa false
def Ht (y : Tst) (K : Nat) : Prop := ∃ B n st sm R L0, y = ⟨⟨T7 B none (some (sy (PK R) n)) none st sm (-1) false, R, false⟩, rows7 L0 R⟩ ∧ Based B L0 ∧ Ook B ∧ (∀ r ∈ R, (opsS r).2 = 0 ∧ r.size ≤ 25000010) ∧ L0.length ≤ 10000000 ∧ R.length ≤ 15 ∧ st ≤ 4 + 8 * K ∧ sm ≤ 2 + 8 * K ∧ Rises L0 ∧ Plain L0
theorem ht_new : Ht ⟨⟨s0T, [], false⟩, []⟩ 0 := ⟨none, 2, 4, 2, [], [], rfl, .inl ⟨rfl, rfl⟩, ook_none, (fun r h => by cases h), Nat.zero_le _, Nat.zero_le _, Nat.le_refl _, Nat.le_refl _, List.Pairwise.nil, fun x h => by cases h⟩
theorem sumZ : ∀ {l : List Nat} {N : Nat}, (∀ x ∈ l, x ≤ N) → l.sum ≤ l.length * N
  | [], _, _ => Nat.zero_le _
  | x :: l, N, h => by
    have h1 := h x List.mem_cons_self
    have h2 := sumZ (l := l) (fun y hy => h y (List.mem_cons_of_mem _ hy))
    rw [List.sum_cons, List.length_cons, Nat.succ_mul]
    omega
theorem pk_sum : ∀ {R : List ByteArray}, (∀ r ∈ R, r.size ≤ 25000010) → (PK R).size ≤ R.length * 25000100 := by
  intro R
  refine snoc7 (P := fun R => (∀ r ∈ R, r.size ≤ 25000010) → (PK R).size ≤ R.length * 25000100) (fun _ => Nat.le_refl _) (fun l v ih h => ?_) R
  have h1 := ih (fun x hx => h x (List.mem_append_left _ hx))
  have hv := h v (by simp)
  have h3 := pk_bound (r := v) (by omega)
  rw [PK_snoc, ByteArray.size_append, List.length_append]
  show _ ≤ (l.length + 1) * 25000100
  omega
theorem recok_Z {L : List It} {R : List ByteArray} (h : ∀ r ∈ R, (opsS r).2 = 0 ∧ r.size ≤ 25000010) (hL : L.length ≤ 10000000) (hR : R.length ≤ 15) : RecOk L R := by
  have h2 := sumZ (l := R.map (·.size)) (N := 25000010) (fun x hx => by
    obtain ⟨r, hr, rfl⟩ := List.mem_map.1 hx
    exact (h r hr).2)
  rw [List.length_map] at h2
  have := Nat.mul_le_mul_right 25000010 hR
  exact ⟨fun r hr => ⟨(h r hr).1, by have := (h r hr).2; omega⟩, by omega, by omega⟩
theorem ht_sz {B : Option Fi} {n st sm K : Nat} {R : List ByteArray} (hB : Ook B) (h : ∀ r ∈ R, (opsS r).2 = 0 ∧ r.size ≤ 25000010) (hR : R.length ≤ 15) (hK : K ≤ 1000) (hst : st ≤ 4 + 8 * K) (hsm : sm ≤ 2 + 8 * K) : Sz B none (some (sy (PK R) n)) none st sm := by
  have h1 := pk_sum (fun r hr => (h r hr).2)
  have := Nat.mul_le_mul_right 25000100 hR
  exact ⟨hB, ook_none, ook_sy (by omega), ook_none, by omega, by omega⟩
theorem ht_open {y : Tst} {K : Nat} (h : Ht y K) (hK : K ≤ 1000) : Open7Ok y.j.s pS pB pG ∧ open7 y.j.s pS pB pG = (0, y) := by
  obtain ⟨B, n, st, sm, R, L0, rfl, hb, hB, hr, hL, hR, hst, hsm, _, _⟩ := h
  exact open_W hb (ht_sz hB hr hR hK hst hsm) rng_m1 (recok_Z hr hL hR) (by omega) (by omega) (by omega)
theorem based_Z {L : List It} {n : Nat} (hr : Rises L) (hP : Plain L) (hw : ws L ≤ 25000000) : Based (some (sy (Fm.pk (rec7 (whole7 L))) n)) L := by
  have hww := wt_whole L
  have hb := ops_back (l := whole7 L) (by omega)
  have hrs := rec7_le (l := whole7 L) (by omega)
  refine .inr ⟨rec7 (whole7 L), n, (whole7 L).map norm, rfl, hb, by omega, ?_⟩
  rw [all_norm]
  have := all_asc L [] hr hP
  rw [List.nil_append] at this
  exact this.symm
theorem ht_commit {y : Tst} {K : Nat} {l : List Ch} (h : Ht y K) (hK : K ≤ 1000) (hw : wt l ≤ 25000000) (hs : ws (all7 y.L l) ≤ 25000000) (hyl : y.L.length ≤ 10000000) : CommitOk y l pB pG ∧ ∃ y', commitS y l pB pG = (0, y') ∧ Ht y' (K + 1) ∧ y'.L = all7 y.L l := by
  obtain ⟨B, n, st, sm, R, L0, rfl, hb, hB, hre, hL, hR, hst, hsm, h0, hP⟩ := h
  simp only at hs hyl ⊢
  have hpk := pk_sum (fun r hr => (hre r hr).2)
  have hpk2 := Nat.mul_le_mul_right 25000100 hR
  have hz := ht_sz (n := n) hB hre hR hK hst hsm
  have hr := rec7_le (l := l) (by omega)
  have hp := pk_bound (r := rec7 l) (by omega)
  have hwl := wt_len l
  have hops := ops_back (l := l) (by omega)
  obtain ⟨k, x', hadd, hcases⟩ := add7 (B := B) (BT := none) (GT := none) (c := PK R) (r := rec7 l) (n := n) (st := st) (sm := sm) (R := R) (dm := false) rng_m1
  have hao := addok7 (B := B) (BT := none) (GT := none) (c := PK R) (r := rec7 l) (n := n) (st := st) (sm := sm) (R := R) (dm := false) hz rng_m1 (by omega) (by omega) (by omega) (by omega) (by omega)
  have hrow : rows7 L0 (R ++ [rec7 l]) = all7 (rows7 L0 R) l := by rw [rows7_snoc, hops]; exact all_norm _ _
  have hre2 : ∀ r ∈ R ++ [rec7 l], (opsS r).2 = 0 ∧ r.size ≤ 25000010 := fun r hr => by
    rcases List.mem_append.1 hr with hr | hr
    · exact hre r hr
    · rw [List.mem_singleton.1 hr, hops]; exact ⟨rfl, by omega⟩
  rcases hcases with ⟨rfl, a', rfl, ra, rm⟩ | ⟨_, hne, _⟩
  · obtain rfl := rm rfl
    have hlenS : (R ++ [rec7 l]).length = R.length + 1 := by rw [List.length_append]; rfl
    have hz2 : Sz B none (some (sy (PK R ++ Fm.pk (rec7 l)) (sm + 1))) none (st + 2) (sm + 1) := ⟨hB, ook_none, ook_sy (by rw [ByteArray.size_append]; omega), ook_none, by omega, by omega⟩
    obtain ⟨hpo, hpa⟩ := pack_U (B := B) (BT := none) (GT := none) (c := PK R ++ Fm.pk (rec7 l)) (n := sm + 1) (st := st + 2) (sm := sm + 1) (R := R ++ [rec7 l]) (dm := false) (L := all7 (rows7 L0 R) l) hz2 (by omega) (by omega) (by omega)
    refine ⟨⟨by omega, hao, by show (rows7 L0 R).length + l.length ≤ _; omega, by decide, ?_, fun _ => ?_⟩, ?_⟩
    · show (addS _ pG (rec7 l)).2.R.length ≤ _
      rw [hadd]
      show (R ++ [rec7 l]).length ≤ _
      omega
    · show PackOk ⟨(addS _ pG (rec7 l)).2, all7 (rows7 L0 R) l⟩ pB pG
      rw [hadd]
      exact hpo
    · by_cases hl : l = []
      · subst hl
        exact ⟨_, commit_0, ⟨B, n, st, sm, R, L0, rfl, hb, hB, hre, hL, hR, by omega, by omega, h0, hP⟩, rfl⟩
      · by_cases h16 : 16 ≤ (R ++ [rec7 l]).length
        · have hc3 := commit_3 (x := ⟨⟨T7 B none (some (sy (PK R) n)) none st sm (-1) false, R, false⟩, rows7 L0 R⟩) (p := pB) hl hadd h16
          rw [hpa] at hc3
          have hwh := wt_whole (all7 (rows7 L0 R) l)
          have hrw := rec7_le (l := whole7 (all7 (rows7 L0 R) l)) (by omega)
          have hpw := pk_bound (r := rec7 (whole7 (all7 (rows7 L0 R) l))) (by omega)
          have hri := rises_all (rises_rows h0 R) l
          have hpl := plain_all (plain_rows hP R) l
          have hln := ws_len (all7 (rows7 L0 R) l)
          exact ⟨_, hc3, ⟨_, _, _, _, [], _, rfl, based_Z hri hpl hs, ook_sy (by omega), (fun r h => by cases h), by show (all7 (rows7 L0 R) l).length ≤ _; omega, Nat.zero_le _, by omega, by omega, hri, hpl⟩, rfl⟩
        · have hc2 := commit_2 (x := ⟨⟨T7 B none (some (sy (PK R) n)) none st sm (-1) false, R, false⟩, rows7 L0 R⟩) (p := pB) hl hadd h16
          exact ⟨_, hc2, ⟨B, sm + 1, st + 2, sm + 1, R ++ [rec7 l], L0, by rw [hrow, PK_snoc], hb, hB, hre2, hL, by rw [hlenS]; omega, by omega, by omega, h0, hP⟩, rfl⟩
  · exact absurd rfl hne
end Go.Proofs.YtdkgkomjbpggeaaGreatDoor.Az

namespace Go.Proofs.YtdkgkomjbpggeaaGreatDoor.Az
open Go.RowKit Tx Pm Dk Wm Wr Wl Pl Tb Bl
set_option linter.unusedVariables false
set_option linter.unusedSimpArgs false
set_option linter.unnecessarySimpa false
section
variable {w0 : World × (Nat → Prop)} {W : World} {b j t m u M N : Nat} {x : Tst} {l : List Ch} {C : List On} {Z : List It} {key : ByteArray}
set_option maxRecDepth 100000 in
set_option maxHeartbeats 2000000 in
theorem bzrel (h : Bz b j t m u x Z w0 C M N W) (hM : M ≤ 10000000) (hN : N ≤ 100000000) (hk : key.size ≤ 500000000000000) :
    Calls Tryz.prog 36 #[.pointer (some ⟨u, 0, none⟩), .string key] W fun e w' => e = .returned (.int .i64 (relE (relC C key).2)) ∧ Bz b j t m u x Z w0 (relC C key).1 M N w' := by
  have cf := bzfind h (by omega) hk
  have HBO := Lib.hid h
  unfold relC
  cases ha : at8 C key with
  | none =>
    rw [ha] at cf
    simp only at cf
    unfold onV at cf
    clear h ha
    go_enter Tryz.func36, Tryz.ntmps36
    go_wp2_with fail
    go_at_call 75
    refine cf.mono ?_
    rintro e w1 ⟨rfl, hb1⟩
    have HB := Lib.hid hb1
    clear hb1 cf
    go_wp2_with fail
    go_ret
    exact ⟨rfl, HBO.out.below (HB.out.alloc HB.out.size _)⟩
  | some y =>
    obtain ⟨hy, hye⟩ := at8_some ha
    obtain ⟨l, h1, h2, h3, h4, h7⟩ := h
    have h5 := h7.len (f_facts h1).2
    have h6 := h7.short
    obtain ⟨y1, y2, y3, y4, y5⟩ := h3.each y hy
    have hks := keyO_size h3 (by omega) hy
    have hkb := keyO_beg y
    rw [hye] at hks hkb
    have HF := Lib.hid (f_facts h1)
    have HO := Lib.hid h1
    have HR := Lib.hid h2
    have HG := Lib.hid h3
    have HZ := Lib.hid h4
    have HL := Lib.hid h5
    have HKS := Lib.hid h6
    have HW := Lib.hid h7
    have HY := Lib.hid hy
    have HYE := Lib.hid hye
    have HKB := Lib.hid hkb
    rw [ha] at cf
    simp only at cf
    unfold onV at cf
    clear h1 h2 h3 h4 h5 h6 h7 ha hy hye hkb y1
    by_cases hone : y.refs = 1
    · simp only [if_pos hone]
      have e9 : ((1 : Nat) : Int) = 1 := rfl
      rw [hone, e9] at cf
      clear e9 hone
      go_enter Tryz.func36, Tryz.ntmps36
      go_wp2_with fail
      go_at_call 75
      refine cf.mono ?_
      rintro e w1 ⟨rfl, hb1⟩
      have cd := f_drop (key := key) (owf_below HO.out (hb1.alloc hb1.size (.cells #[.int .i64 1, .string y.data] 126))) (by omega) (by have := HL.out; omega)
      clear hb1 cf
      go_wp2_with fail
      go_at_call 43
      refine cd.mono ?_
      rintro e w2 ⟨rfl, ho2⟩
      go_wp2_with fail
      go_ret
      exact ⟨rfl, bz_drop ho2 HF.out (rep_del HR.out) (good_del HG.out) HZ.out HKB.out (HW.out.old HY.out HYE.out.symm (fun _ => rfl) delR_from)⟩
    · simp only [if_neg hone]
      have hb : ((y.refs : Int) == 1) = false := by simp; omega
      have e1 : ((y.refs - 1 : Nat) : Int) = (y.refs : Int) - 1 := by omega
      have hnum1 : -9223372036854775808 ≤ (y.refs : Int) - 1 := by omega
      have hnum2 : (y.refs : Int) - 1 ≤ 9223372036854775807 := by omega
      have cp := fun V hV => keep_any (W := V) (h := y.refs - 1) (d := y.data) (key := key) (owf_below HO.out (w' := V) hV) (by omega) (by have := HL.out; omega) (by omega) y5
      unfold onV at cp
      rw [e1] at cp
      clear e1
      go_enter Tryz.func36, Tryz.ntmps36
      go_wp2_with fail
      go_at_call 75
      refine cf.mono ?_
      rintro e w1 ⟨rfl, hb1⟩
      have cp1 := cp _ (hb1.alloc hb1.size (.cells #[.int .i64 ((y.refs : Int) - 1), .string y.data] 126))
      clear hb1 cf cp
      go_wp2_with fail
      go_at_call 76
      refine cp1.mono ?_
      rintro e w2 ⟨rfl, ho2⟩
      go_wp2_with fail
      go_ret
      have hrs := rep_set (k := y.refs - 1) HR.out HY.out HG.out
      rw [HYE.out] at hrs
      exact ⟨rfl, bz_keep ho2 HF.out hrs (good_set HG.out (by omega) (by omega)) HZ.out HKB.out (HW.out.old HY.out HYE.out.symm (fun e => by cases e) setR_from)⟩
end
section
variable {w0 : World × (Nat → Prop)} {W : World} {b j t m u M N : Nat} {x : Tst} {C : List On} {Z : List It} {key : ByteArray}
theorem Bz.fresh (h : Bz b j t m u x Z w0 C M N W) : ∃ F : Nat → Prop, (∀ i, F i → w0.2 i ∨ w0.1.heap.size ≤ i) ∧ (∀ i, F i → i < W.heap.size) ∧ ∀ W', Below W.heap.size W W' → Bz b j t m u x Z (W', F) C M N W' := by
  obtain ⟨l, ⟨F, h1, h2, h3⟩, hh⟩ := h
  exact ⟨F, h3, tu_lt h1, fun W' hb => ⟨l, ⟨F, tb_below h1 hb, Chg.refl F W', fun g hg => .inl hg⟩, hh⟩⟩
theorem Bz.back {W2 : World} {F : Nat → Prop} (h : Bz b j t m u x Z (W2, F) C M N W) (hc : Chg w0.2 w0.1 W2) (hF : ∀ i, F i → w0.2 i ∨ w0.1.heap.size ≤ i) : Bz b j t m u x Z w0 C M N W := by
  obtain ⟨l, ⟨F', h1, h2, h3⟩, hh⟩ := h
  refine ⟨l, ⟨F', h1, hc.trans h2 hF, fun g hg => ?_⟩, hh⟩
  rcases h3 g hg with h4 | h4
  · exact hF g h4
  · exact .inr (Nat.le_trans hc.size h4)
theorem bzdrop {y : On} (h : Bz b j t m u x Z w0 C M N W) (hN : N ≤ 100000000) (hM : M ≤ 100000000) (hy : y ∈ C) : Calls Tryz.prog 43 #[.pointer (some ⟨u, 0, none⟩), .string (keyO y)] W fun e w' => e = .returned (.tuple #[]) ∧ Bz b j t m u x Z w0 (delR C (keyO y)) M N w' := by
  obtain ⟨l, h1, h2, h3, h4, h7⟩ := h
  have h5 := h7.len (f_facts h1).2
  have hs := keyO_size h3 hM hy
  exact (f_drop (key := keyO y) h1 (by omega) (by omega)).mono fun e w' hh => ⟨hh.1, bz_drop hh.2 (f_facts h1) (rep_del h2) (good_del h3) h4 (keyO_beg y) (h7.old hy rfl (fun _ => rfl) delR_from)⟩
theorem bzkeep_set {y : On} {k M' : Nat} (h : Bz b j t m u x Z w0 C M N W) (hN : N ≤ 100000000) (hM : M ≤ M') (hM' : M' ≤ 100000000) (hy : y ∈ C) (h1k : 1 ≤ k) (hkM : k ≤ M') : Calls Tryz.prog 76 #[.pointer (some ⟨u, 0, none⟩), .string (keyO y), onV k y.data] W fun e w' => e = .returned (.tuple #[]) ∧ Bz b j t m u x Z w0 (setR C (keyO y) k) M' N w' := by
  obtain ⟨l, h1, h2, h3, h4, h7⟩ := h
  have h5 := h7.len (f_facts h1).2
  obtain ⟨_, _, _, _, y5⟩ := h3.each y hy
  have hs := keyO_size h3 (by omega) hy
  exact (keep_any (key := keyO y) (h := k) (d := y.data) h1 (by omega) (by omega) (by omega) y5).mono fun e w' hh => ⟨hh.1, bz_keep hh.2 (f_facts h1) (rep_set h2 hy h3) (good_set (h3.mono hM) h1k hkM) h4 (keyO_beg y) (h7.old hy rfl (fun e => by cases e) setR_from)⟩
theorem bzkeys (h : Bz b j t m u x Z w0 C M N W) (hx : Xk x) (hN : N ≤ 100000000) : ∃ K : List ByteArray, K.Perm (C.map keyO) ∧ Calls Tryz.prog 20 #[.pointer (some ⟨u, 0, none⟩), .string ⟨#[98, 47]⟩] W (ListTo K W) := by
  obtain ⟨V, h⟩ := h.bo
  exact bkeys_list h hx hN
theorem bzfind_mem {y : On} (h : Bz b j t m u x Z w0 C M N W) (hM : M ≤ 100000000) (hy : y ∈ C) :
    Calls Tryz.prog 75 #[.pointer (some ⟨u, 0, none⟩), .string (keyO y)] W fun e w' => e = .returned (.tuple #[onV y.refs y.data, .bool true]) ∧ Below W.heap.size W w' := by
  obtain ⟨V, h⟩ := h.bo
  exact bo_find_mem h hM hy
end
set_option maxRecDepth 100000 in
set_option maxHeartbeats 8000000 in
theorem bzsweep {w0 : World × (Nat → Prop)} {W : World} {b j t m u M N : Nat} {x : Tst} {C : List On} {Z : List It} (A : Option Addr) (hn hc : Nat) (held : List ByteArray) (h : Bz b j t m u x Z w0 C M N W) (hx : Xk x) (hM : M ≤ 1000000) (hN : N ≤ 1000000) (hS : Strs W A hn held) (hcap : hn ≤ hc) (hhn : hn ≤ 1000000) (hks : ∀ p ∈ held, p.size ≤ 1000) :
    Calls Tryz.prog 45 #[.pointer (some ⟨u, 0, none⟩), .slice A hn hc] W fun e w' => e = .returned (.int .i64 ((C.length - (swC C held).length : Nat) : Nat)) ∧ Bz b j t m u x Z w0 (swC C held) (M + hn) N w' := by
  have HST := Lib.hid (fun V (hV : Below W.heap.size W V) => hS.below hV)
  have HL := Lib.hid hS.1
  have HKS := Lib.hid hks
  have HX := Lib.hid hx
  have HG := Lib.hid h.good
  obtain ⟨F, f1, f2, f3⟩ := h.fresh
  have HCH := Lib.hid h.chg
  have HF1 := Lib.hid f1
  have HF2 := Lib.hid f2
  have HF3 := Lib.hid f3
  have hB0 : Below W.heap.size W (W.alloc (.map #[] 0)) := (Below.refl _ W).alloc (Nat.le_refl _) _
  have hT0 := tc_made W
  have hlt0 : W.heap.size < (W.alloc (.map #[] 0)).heap.size := by simp
  clear hS hks hx h f1 f2 f3
  have hmm := @run_makeMap Tryz.prog
  go_enter Tryz.func45, Tryz.ntmps45
  go_wp2_with fail
  go_loopw [17] (fun iv wr => ∃ k : Nat, k ≤ hn ∧ iv = .int .i64 k ∧ Tc wr W.heap.size (held.take k) ∧ Below W.heap.size W wr ∧ W.heap.size < wr.heap.size) (fun iv _ => hn - (intOf iv).toNat)
  case atStart => exact ⟨0, Nat.zero_le _, rfl, hT0, hB0, hlt0⟩
  case round =>
    clear hB0 hT0 hlt0
    obtain ⟨k, hk, rfl, hT, hB, hlt⟩ := hrel
    by_cases hlk : k < hn
    · obtain ⟨p, hp⟩ : ∃ p, held[k]? = some p := ⟨_, List.getElem?_eq_getElem (by rw [HL.out]; exact hlk)⟩
      obtain ⟨bk, off, rfl, _, g0⟩ := Strs.at2 (HST.out _ hB) hp hlk
      have hkz : (k : Int) < (hn : Int) := by omega
      have hps := HKS.out p (List.mem_of_getElem? hp)
      have hlk1 := hT.look (p := p) (by unfold maxLen; omega)
      have hcl : cnt (held.take k) p ≤ k := by
        have := List.countP_le_length (p := fun x => decide (x = p)) (l := held.take k)
        have h2 := List.length_take_le k held
        unfold cnt
        omega
      obtain ⟨w4, hrun, hT4, hturn⟩ := hT.store (p := p) (by unfold maxLen; omega) (by rw [List.length_take]; omega)
      rw [← take_snoc hp] at hT4
      obtain ⟨q, hq⟩ : ∃ q, q = cnt (held.take k) p := ⟨_, rfl⟩
      rw [← hq] at hlk1 hrun hcl
      have hch := turned_chg hturn
      have hB4 : Below W.heap.size W w4 := hB.trans (hch.below hB.size (fun i hi => by omega))
      have hs4 : W.heap.size < w4.heap.size := Nat.lt_of_lt_of_le hlt hch.size
      clear hp hq hturn hch hT
      go_wp2_with fail
      go_roundw
      case rel => exact ⟨k + 1, by omega, by go_num, hT4, hB4, hs4⟩
      case measure => simp [intOf]; omega
    · obtain rfl : k = hn := by omega
      have eA : held.take k = held := List.take_of_length_le (by rw [HL.out]; exact Nat.le_refl _)
      rw [eA] at hT
      obtain ⟨K, hKP, ck⟩ := bzkeys (HF3.out _ hB) HX.out (by omega)
      obtain ⟨n, hnK⟩ : ∃ n, n = K.length := ⟨_, rfl⟩
      have hnC : n ≤ M := by rw [hnK, hKP.length_eq, List.length_map]; exact HG.out.len
      have HKP := Lib.hid hKP
      have HNK := Lib.hid hnK
      have hltm : W.heap.size < wr.heap.size := hlt
      clear eA hlk hnK hKP
      go_wp2_with fail
      go_at_call 20
      refine ck.mono ?_
      rintro e w2 ⟨vK, rfl, hK, hb2⟩
      obtain ⟨aK, cK, hv, hsK, hcK, _⟩ := hK.form
      rw [← HNK.out] at hv hsK hcK
      have hT2 := hT.kept (hb2.block _ hltm)
      have hB2 := Tx.below_call hB hb2
      have hs2 : W.heap.size < w2.heap.size := Nat.lt_of_lt_of_le hltm hb2.size
      have hKo : w2.ownsRow W.heap.size 9 1 (.slice aK n cK) n (K.map sv) := by
        have this : w2.ownsRow wr.heap.size 9 1 vK K.length (K.map sv) := hK
        rw [hv, ← HNK.out] at this
        exact own_less this hB.size
      have HTV := Lib.hid (fun V (hV : Chg F w2 V) => hT2.kept (hV.block _ hs2 (fun hf => by have := HF2.out _ hf; omega)))
      have HSV := Lib.hid (fun V (hV : Chg F w2 V) => strs_row (own_chg hKo hV (fun g hg hf => by have := HF2.out _ hf; have := (hKo.lt g hg).1; omega)))
      have HB2 := Lib.hid hB2
      have o2 := (HF3.out _ hB2).mono (Nat.le_add_right M k) (Nat.le_refl N)
      have HND : Hid (∀ k p, K[k]? = some p → inL (K.take k) p = false) := Lib.hid (fun k p hp => by
        have hnd : K.Nodup := HKP.out.nodup_iff.2 (List.pairwise_map.2 HG.out.keys)
        cases hin : inL (K.take k) p with
        | false => rfl
        | true =>
          obtain ⟨i, hi⟩ := List.getElem?_of_mem (inL_iff.1 hin)
          have hik : i < k := by
            have := (List.getElem?_eq_some_iff.1 hi).1
            rw [List.length_take] at this
            omega
          rw [List.getElem?_take_of_lt hik] at hi
          have := (List.getElem?_inj (List.getElem?_eq_some_iff.1 hi).1 hnd).1 (hi.trans hp.symm)
          omega)
      clear hT hK hsK ck hb2 hT2 hKo
      subst hv
      go_wp2_with fail
      go_loopw [8, 29] (fun gv iv wr => ∃ q : Nat, q ≤ n ∧ iv = .int .i64 q ∧ gv = .int .i64 (goneN held (K.take q) : Nat) ∧ Bz b j t m u x Z (w2, F) (many8 C held (K.take q)) (M + k) N wr) (fun _ iv _ => n - (intOf iv).toNat)
      case atStart => exact ⟨0, Nat.zero_le _, rfl, rfl, o2⟩
      case round =>
        clear o2
        obtain ⟨q, hq, rfl, rfl, o⟩ := hrel
        have hcg : goneN held (K.take q) ≤ q := by
          have := List.countP_le_length (p := fun p => decide (cnt held p = 0)) (l := K.take q)
          have h2 := List.length_take_le q K
          unfold goneN
          omega
        by_cases hlq : q < n
        · obtain ⟨p, hp⟩ : ∃ p, K[q]? = some p := ⟨_, List.getElem?_eq_getElem (by rw [← HNK.out]; exact hlq)⟩
          obtain ⟨bk, off, rfl, _, g0⟩ := Strs.at2 (HSV.out _ o.chg) hp hlq
          have hqz : (q : Int) < (n : Int) := by omega
          obtain ⟨y, hy, hye⟩ := List.mem_map.1 (HKP.out.mem_iff.1 (List.mem_of_getElem? hp))
          have hps : p.size ≤ 14 := by rw [← hye]; exact keyO_size HG.out (by omega) hy
          have hpb : beg pB2 p = true := by rw [← hye]; exact keyO_beg y
          have hlk1 := (HTV.out _ o.chg).look (p := p) (by unfold maxLen; omega)
          have htk := take_snoc hp
          have hgn : goneN held (K.take (q + 1)) = goneN held (K.take q) + if cnt held p = 0 then 1 else 0 := by
            unfold goneN
            rw [htk, List.countP_append, List.countP_singleton]
            by_cases hc : cnt held p = 0 <;> simp [hc]
          have hmn := many8_snoc C held (K.take q) p
          rw [← htk] at hmn
          unfold one8 at hmn
          have hym := many8_keep (held := held) hy (K := K.take q) (by rw [hye]; exact HND.out q p hp)
          obtain ⟨G, hG⟩ : ∃ G, G = goneN held (K.take q) := ⟨_, rfl⟩
          rw [← hG] at hgn hcg ⊢
          have hqM : cnt held p ≤ k := by
            have := List.countP_le_length (p := fun x => decide (x = p)) (l := held)
            have h2 := HL.out
            unfold cnt
            omega
          by_cases h0 : cnt held p = 0
          · rw [h0] at hlk1
            rw [if_pos h0] at hgn hmn
            have e0 : ((0 : Nat) : Int) = 0 := rfl
            rw [e0] at hlk1
            have cd := bzdrop o (by omega) (by omega) hym
            rw [hye, ← hmn] at cd
            have HGN := Lib.hid hgn
            clear hp hy hye hpb hps htk hmn hym hgn hG o h0 e0 hqM
            go_wp2_with fail
            go_at_call 43
            refine cd.mono ?_
            rintro e w4 ⟨rfl, o4⟩
            go_wp2_with fail
            go_roundw
            case rel => exact ⟨q + 1, by omega, by go_num, by rw [HGN.out]; go_num, o4⟩
            case measure => simp [intOf]; omega
          · rw [if_neg h0] at hgn hmn
            obtain ⟨r, hr⟩ : ∃ r, r = cnt held p := ⟨_, rfl⟩
            rw [← hr] at hlk1 hmn h0 hqM
            have hb0 : ((r : Int) == 0) = false := by simp; omega
            have HGN := Lib.hid (show goneN held (K.take (q + 1)) = G by rw [hgn]; rfl)
            have cf := bzfind_mem o (by omega) hym
            have hyr := (o.good.each y hym).2.2.1
            rw [hye] at cf
            unfold onV at cf
            have HYM := Lib.hid hym
            have HYE := Lib.hid hye
            have HMN := Lib.hid hmn
            clear hp hy hye hpb hps htk hmn hym hgn hG hr
            by_cases he : y.refs = r
            · have hbe : ((y.refs : Int) == (r : Int)) = true := by simp; omega
              have hC : many8 C held (K.take (q + 1)) = many8 C held (K.take q) := by
                rw [HMN.out, ← HYE.out, ← he]
                exact one8_id o.good HYM.out
              have HC := Lib.hid hC
              have HO := Lib.hid o
              clear hC o he
              go_wp2_with fail
              go_at_call 75
              refine cf.mono ?_
              rintro e w4 ⟨rfl, hb4⟩
              have o4 := HO.out.below (hb4.alloc hb4.size (.cells #[.int .i64 (y.refs : Nat), .string y.data] 126))
              clear hb4 cf
              go_wp2_with fail
              go_roundw
              case rel => exact ⟨q + 1, by omega, by go_num, by rw [HGN.out], by rw [HC.out]; exact o4⟩
              case measure => simp [intOf]; omega
            · have hbe : ((y.refs : Int) == (r : Int)) = false := by simp; omega
              have HO := Lib.hid o
              clear o he
              go_wp2_with fail
              go_at_call 75
              refine cf.mono ?_
              rintro e w4 ⟨rfl, hb4⟩
              have ck := bzkeep_set (k := r) (HO.out.below (hb4.alloc hb4.size (.cells #[.int .i64 (y.refs : Nat), .string y.data] 126))) (by omega) (Nat.le_refl _) (by omega) HYM.out (by omega) (by omega)
              rw [HYE.out, ← HMN.out] at ck
              unfold onV at ck
              clear hb4 cf
              go_wp2_with fail
              go_at_call 76
              refine ck.mono ?_
              rintro e w5 ⟨rfl, o5⟩
              clear ck
              go_wp2_with fail
              go_roundw
              case rel => exact ⟨q + 1, by omega, by go_num, by rw [HGN.out], o5⟩
              case measure => simp [intOf]; omega
        · obtain rfl : q = n := by omega
          have eA : K.take q = K := List.take_of_length_le (by rw [← HNK.out]; exact Nat.le_refl _)
          have hall : ∀ y ∈ C, keyO y ∈ K := fun y hy => HKP.out.mem_iff.2 (List.mem_map.2 ⟨y, hy, rfl⟩)
          have hsw := many8_all (held := held) hall
          have hgi := gone_is (held := held) HKP.out
          rw [eA, hsw] at o
          rw [eA]
          have hG : goneN held K = C.length - (swC C held).length := by omega
          have HG2 := Lib.hid hG
          clear hsw hgi hG eA hcg
          go_wp2_with fail
          go_ret
          rw [HG2.out]
          exact ⟨rfl, o.back (HCH.out.then (Chg.of_below HB2.out)) HF1.out⟩
end Go.Proofs.YtdkgkomjbpggeaaGreatDoor.Az

namespace Go.Proofs.YtdkgkomjbpggeaaGreatDoor.Az
open Go.RowKit Tx Pm Dk Wm Wr Wl Pl Tb Bl Fm
open Fr hiding sv Texts cnt cnt_snoc
open En (Et tcheck)
open Ac (Ar upd upd_same upd_other files saveA turnA backA forgetA calm Kd)
set_option linter.unusedVariables false
set_option linter.unusedSimpArgs false
set_option linter.unnecessarySimpa false
def Slot (κ : ByteArray → ByteArray) (wh : Bool) (o : Option (List Et)) (b : Option Int) (v : Option ByteArray) : Prop := match o with
  | none => v = none
  | some t => ∃ x, v = some x ∧ 0 < x.size ∧ (b = none → x = val16 κ t) ∧ ∀ c, b = some c → Bad x ∧ (wh = true → x = tn (val16 κ t) c)
structure Hv (A : Ar) (k : Nat) (C : List On) (vals : Nat → Option ByteArray) (M N : Nat) : Prop where
  good : Good8 C M
  mB : 8 * M ≤ k
  nB : 50 * N ≤ k + 300
  czB : cz C ≤ 2 * k
  ga : Ac.Good A
  bk : ∀ i t, A.tr i = some t → Ac.bk t ≤ k
  slot : ∀ i, 1 ≤ i → i ≤ 6 → Slot (keyD C) A.wh (A.tr i) (A.tu i) (vals i)
  out : ∀ i v, vals i = some v → 1 ≤ i ∧ i ≤ 6 ∧ v.size ≤ k + 5810
  ge : ∀ d, tot (hold A) d ≤ refD C d
  eq : A.cl = true → A.wh = true → ∀ d, refD C d = tot (hold A) d
  jj : A.cl = true → A.wh = false → ∃ i, A.tu i ≠ none
def Rw (R : List It) (l : List Ch) (C : List On) (Z : List It) (vals : Nat → Option ByteArray) (N : Nat) : Prop := Rep R C ∧ (∀ p, beg pB2 p = false → find R p = find Z p) ∧ Zr Z vals ∧ Ks l C N
def Tk (x : Tst) (k : Nat) : Prop := ∃ K, Ht x K ∧ 10000 * K ≤ k ∧ ws x.L ≤ 25000000 ∧ ∀ z ∈ x.L, z.path.size ≤ 1000
theorem Tk.xk {x : Tst} {k : Nat} (h : Tk x k) : Xk x := by
  obtain ⟨K, _, _, h1, h2⟩ := h
  have := ws_len x.L
  exact ⟨by omega, h2⟩
theorem Tk.mono {x : Tst} {k k' : Nat} (h : Tk x k) (hk : k ≤ k') : Tk x k' := by
  obtain ⟨K, h1, h2, h3⟩ := h
  exact ⟨K, h1, by omega, h3⟩
def OZ (d u : Nat) : Ac.Ob := fun W F y => ∃ j t m x l C Z vals M N, Tu d j t m u W F (x, l) ∧ ¬ F 0 ∧ Rw (all7 x.L l) l C Z vals N ∧ Hv y.1 y.2 C vals M N ∧ Tk x y.2
def PZ (d t : Nat) : Ac.Ob := fun W F y => ∃ j m x C Z vals M N, Tt d j t m W F x ∧ ¬ F 0 ∧ Rw x.L [] C Z vals N ∧ Hv y.1 y.2 C vals M N ∧ Tk x y.2
def CZ (d : Nat) : Ac.Ob := fun W F y => ∃ s x C Z vals M N, ImpAt d W F s ∧ ¬ F 0 ∧ Open7Ok s pS pB pG ∧ open7 s pS pB pG = (0, x) ∧ Rw x.L [] C Z vals N ∧ Hv y.1 y.2 C vals M N ∧ Tk x y.2
theorem kd_oz (d u : Nat) : Kd (OZ d u) := by
  refine ⟨fun {w F s} h => ?_, fun {w w1 F s} h hk => ?_⟩
  · obtain ⟨j, t, m, x, l, C, Z, vals, M, N, h1, _⟩ := h
    exact tu_lt h1
  · obtain ⟨j, t, m, x, l, C, Z, vals, M, N, h1, h2⟩ := h
    refine ⟨j, t, m, x, l, C, Z, vals, M, N, ?_, h2⟩
    obtain ⟨F1, G, ⟨Fj, h1⟩, ⟨pm, vO, h2⟩, hd, hH⟩ := h1
    exact ⟨F1, G, ⟨Fj, h1.kept (fun i hi => hk i ((hH i).2 (.inl hi)))⟩, ⟨pm, vO, h2.kept (fun i hi => hk i ((hH i).2 (.inr hi)))⟩, hd, hH⟩
theorem kd_pz (d t : Nat) : Kd (PZ d t) := by
  refine ⟨fun {w F s} h => ?_, fun {w w1 F s} h hk => ?_⟩
  · obtain ⟨j, m, x, C, Z, vals, M, N, ⟨Fj, h1⟩, _⟩ := h
    exact h1.lt
  · obtain ⟨j, m, x, C, Z, vals, M, N, ⟨Fj, h1⟩, h2⟩ := h
    exact ⟨j, m, x, C, Z, vals, M, N, ⟨Fj, h1.kept hk⟩, h2⟩
theorem kd_cz (d : Nat) : Kd (CZ d) := by
  refine ⟨fun {w F s} h => ?_, fun {w w1 F s} h hk => ?_⟩
  · obtain ⟨s, x, C, Z, vals, M, N, h1, _⟩ := h
    exact (imp_kind d).lt h1
  · obtain ⟨s, x, C, Z, vals, M, N, h1, h2⟩ := h
    exact ⟨s, x, C, Z, vals, M, N, (imp_kind d).kept h1 hk, h2⟩
theorem gTabZ : Tryz.prog.globalNamed "internal/strconv.uint64pow10" = some 0 := by kernel_rfl
theorem tab_kept {w w1 : World} (h : Tab w) (he : w1.heap[0]? = w.heap[0]?) : Tab w1 := by
  unfold Tab Lib.TabIs World.var? at h ⊢
  rw [gTabZ] at h ⊢
  simp only [Option.bind_some] at h ⊢
  rw [he]
  exact h
theorem tab_pos {w : World} (h : Tab w) : 0 < w.heap.size := by
  unfold Tab Lib.TabIs World.var? at h
  rw [gTabZ] at h
  simp only [Option.bind_some] at h
  cases hh : w.heap[0]? with
  | none => rw [hh] at h; cases h
  | some o => exact (Array.getElem?_eq_some_iff.1 hh).1
theorem tab_chg {w w1 : World} {F : Nat → Prop} (h : Tab w) (hc : Chg F w w1) (hF : ¬ F 0) : Tab w1 := tab_kept h (hc.block 0 (tab_pos h) hF)
section
variable {d u k : Nat} {W W' : World} {F : Nat → Prop} {A : Ar}
def Work (d j t m u : Nat) (x : Tst) (w0 : World × (Nat → Prop)) (A : Ar) (k : Nat) (C : List On) (Z : List It) (vals : Nat → Option ByteArray) (M N : Nat) (W : World) : Prop := Bz d j t m u x Z w0 C M N W ∧ Zr Z vals ∧ Hv A k C vals M N ∧ Tk x k
theorem oz_out (h : OZ d u W F (A, k)) (hT : Tab W) : ∃ j t m x C Z vals M N, Work d j t m u x (W, F) A k C Z vals M N W ∧ TabZ (W, F) ∧ (∀ i, F i → i < W.heap.size) ∧ ¬ F 0 := by
  have hl := (kd_oz d u).lt h
  obtain ⟨j, t, m, x, l, C, Z, vals, M, N, h1, h2, ⟨r1, r2, r3, r4⟩, h4, h5⟩ := h
  exact ⟨j, t, m, x, C, Z, vals, M, N, ⟨⟨l, ⟨F, h1, Chg.refl F W, fun g hg => .inl hg⟩, r1, h4.good, r2, r4⟩, r3, h4, h5⟩, fun V hc => tab_chg hT hc h2, hl, h2⟩
theorem oz_in {j t m M N : Nat} {x : Tst} {C : List On} {Z : List It} {vals : Nat → Option ByteArray} (h : Bz d j t m u x Z (W, F) C M N W') (hz : Zr Z vals) (hv : Hv A k C vals M N) (ht : Tk x k) (hT : Tab W) (h0 : ¬ F 0) : Ac.Lf (OZ d u) W F (A, k) W' := by
  obtain ⟨l, ⟨F', q1, q2, q3⟩, r1, _, r2, r4⟩ := h
  exact ⟨F', ⟨j, t, m, x, l, C, Z, vals, M, N, q1, fun hf => (q3 0 hf).elim h0 (fun hh => by have := tab_pos hT; have hh : W.heap.size ≤ 0 := hh; omega), ⟨r1, r2, hz, r4⟩, hv, ht⟩, q2, q3⟩
end
end Go.Proofs.YtdkgkomjbpggeaaGreatDoor.Az

namespace Go.Proofs.YtdkgkomjbpggeaaGreatDoor.Rg
open Go.RowKit
set_option linter.unusedVariables false
section
variable {P : Program} {ops : Array Oper} {R : Act → World → Prop} {S : World → Prop}
theorem op_conv (i : Nat) (d : Option Tmp) {T U : TypeId} {x : Operand} {vx v : Value} {fuel : Nat} {listed : Array Bool} {a : Act} {w : World}
    (hi : decide (i < ops.size) = true) (hd : (opOf ops i).dst = d)
    (hw : Region.wanted (opOf ops i) (yielded ops a.tmps) = true) (ho : (opOf ops i).op = .convert T U x) (hx : a.eval x = vx)
    (hv : (Go.convert T U vx).run P w = .ok v w) (hS : S w)
    (h : wpAnyH P .any ops (Only R) S fuel (listed.setIfInBounds i true) (a.put d v) w) :
    wpOp P ops (Only R) i (fun a' w' => S w' ∧ wpAnyH P .any ops (Only R) S fuel (listed.setIfInBounds i true) a' w') a w := by
  subst hd
  unfold wpOp
  rw [opOf_some hi]
  simp only [hw, if_true]
  refine .inl ?_
  have he : (execOp a.eval (opOf ops i)).run P w = .ok (.value v) w := by
    generalize opOf ops i = o at ho
    obtain ⟨dst, op, ty, pos, after, guard⟩ := o
    simp only at ho
    subst ho
    simp only [execOp, hx, Sem.run_bind]
    rw [hv]
    rfl
  unfold Oper.wp
  rw [he, Oper.upon_value]
  exact ⟨hS, h⟩
theorem op_convk (i : Nat) (d : Option Tmp) {T U : TypeId} {x : Operand} {vx v : Value} {fuel : Nat} {listed : Array Bool} {a : Act} {w : World} (hv : (Go.convert T U vx).run P w = .ok v w) (hS : S w) (h : wpAnyH P .any ops (Only R) S fuel (listed.setIfInBounds i true) (a.put d v) w) (hi : decide (i < ops.size) = true := by kernel_rfl) (hd : (opOf ops i).dst = d := by kernel_rfl) (hw : Region.wanted (opOf ops i) (yielded ops a.tmps) = true := by kernel_rfl) (ho : (opOf ops i).op = .convert T U x := by kernel_rfl) (hx : a.eval x = vx := by kernel_rfl) : wpOp P ops (Only R) i (fun a' w' => S w' ∧ wpAnyH P .any ops (Only R) S fuel (listed.setIfInBounds i true) a' w') a w := op_conv i d hi hd hw ho hx hv hS h
end
end Go.Proofs.YtdkgkomjbpggeaaGreatDoor.Rg

namespace Go.Proofs.YtdkgkomjbpggeaaGreatDoor.Az
open Go.RowKit Tx
set_option linter.unusedVariables false
set_option linter.unusedSimpArgs false
set_option linter.unnecessarySimpa false
def CellsE (z : Nat) (p : ByteArray) (k : Int) (d : ByteArray) (W : World) : Prop := W.cell? ⟨z, 0, none⟩ = some (.string p) ∧ W.cell? ⟨z, 1, none⟩ = some (.int .i64 k) ∧ W.cell? ⟨z, 2, none⟩ = some (.string d)
set_option maxRecDepth 100000 in
set_option maxHeartbeats 4000000 in
theorem regRecord (ops : Array Oper) (hops : ops = (Rg.opsOf Tryz.f35 8)) (id : Nat) (z ub : Nat) (p d k1 k2 k3 : ByteArray) (k : Int) (sl : Value) {u1 u2 u3 u4 u6 u8 u9 u10 u11 u12 u13 u14 u15 u16 u17 u18 u19 u20 u21 u22 u23 u24 u25 u26 u27 u28 u29 u30 u31 u32 u33 u34 u35 u36 u37 u38 u39 u40 u41 u42 u43 u44 u45 u46 u47 u48 u49 : Value} (w : World) (B1 B2 B3 : World → Prop) (B4 : Value → World → Prop)
    (hS : CellsE z p k d w) (hA : Calls Tryz.prog 73 #[.pointer (some ⟨ub, 0, none⟩), .string d] w.drew fun e w' => e = .returned (.string k1) ∧ B1 w') (hAS : ∀ W, B1 W → CellsE z p k d W)
    (hB : ∀ W, B1 W → Calls Tryz.prog 70 #[.string k1] W fun e w' => e = .returned (.string k2) ∧ B2 w') (hBS : ∀ W, B2 W → CellsE z p k d W)
    (hC : ∀ W, B2 W → Calls Tryz.prog 74 #[.string d] W fun e w' => e = .returned (.string k3) ∧ B3 w') (hCS : ∀ W, B3 W → CellsE z p k d W)
    (hES : ∀ W, B3 W → CellsE z p k d (W.alloc (.cells #[(.string k2), (.string k3)] 9)))
    (hE : ∀ W, B3 W → ∀ ty, ∃ v8 w8, (Builtin.append_ #[52, 52] ty #[sl, .slice (some ⟨W.heap.size, 0, none⟩) 2 2]).run Tryz.prog (W.alloc (.cells #[(.string k2), (.string k3)] 9)) = .ok v8 w8 ∧ CellsE z p k d w8 ∧ B4 v8 w8) :
    (Code.region id ops true).wp Tryz.prog (Rg.Only fun a' w' => ∃ (z8 : Nat) (v8 : Value), a' = ⟨#[(.pointer (some ⟨ub, 0, none⟩)), u1, u2, u3, u4, v8, u6, (.pointer (some ⟨z, 0, none⟩)), u8, u9, u10, u11, u12, u13, u14, u15, u16, u17, u18, u19, u20, u21, u22, u23, u24, u25, u26, u27, u28, u29, u30, u31, u32, u33, sl, (.pointer (some ⟨ub, 0, none⟩)), (.pointer (some ⟨z, 1, none⟩)), (.pointer (some ⟨z, 1 + 1, none⟩)), (.string d), (.string k1), (.string k2), (.pointer (some ⟨z, 1, none⟩)), (.pointer (some ⟨z, 1 + 1, none⟩)), (.string d), (.string k3), (.slice (some ⟨z8, 0, none⟩) 2 2), v8, u47, u48, u49], []⟩ ∧ B4 v8 w') ⟨#[(.pointer (some ⟨ub, 0, none⟩)), u1, u2, u3, u4, sl, u6, (.pointer (some ⟨z, 0, none⟩)), u8, u9, u10, u11, u12, u13, u14, u15, u16, u17, u18, u19, u20, u21, u22, u23, u24, u25, u26, u27, u28, u29, u30, u31, u32, u33, u34, u35, u36, u37, u38, u39, u40, u41, u42, u43, u44, u45, u46, u47, u48, u49], []⟩ w := by
  subst hops
  have hNS : Region.noSelect (Rg.opsOf Tryz.f35 8) = true := by kernel_rfl
  refine wp_region_held_drew (S := CellsE z p k d) (by kernel_rfl) hS (fun hHeld => ?_)
  rw [show (Rg.opsOf Tryz.f35 8).size = 14 by kernel_rfl]
  refine Rg.takek 0 (some 34) (sl) hNS hHeld (Rg.y_movekL (x := .tmp 5)) ?_
  refine Rg.takek 1 (some 35) (.pointer (some ⟨ub, 0, none⟩)) hNS hHeld (Rg.y_movekL (x := .tmp 0)) ?_
  refine Rg.takek 2 (some 36) (.pointer (some ⟨z, 1, none⟩)) hNS hHeld (Rg.y_fieldk (T := 73) (k := 1) (x := .tmp 7) (vx := (.pointer (some ⟨z, 0, none⟩))) ?_) ?_
  · (intro w hSw; clear hSw; go_simp)
  refine Rg.takek 3 (some 37) (.pointer (some ⟨z, 1 + 1, none⟩)) hNS hHeld (Rg.y_fieldk (T := 71) (k := 1) (x := .tmp 36) (vx := (.pointer (some ⟨z, 1, none⟩))) ?_) ?_
  · (intro w hSw; clear hSw; go_simp)
  refine Rg.takek 4 (some 38) (.string d) hNS hHeld (Rg.y_loadk (T := 9) (x := .tmp 37) (vx := (.pointer (some ⟨z, 1 + 1, none⟩))) ?_) ?_
  · (intro w hSw; obtain ⟨s0, s1, s2⟩ := hSw; have s3 : w.cell? ⟨z, 1 + 1, none⟩ = some (.string d) := s2; go_simp)
  refine Rg.takek 7 (some 41) (.pointer (some ⟨z, 1, none⟩)) hNS hHeld (Rg.y_fieldk (T := 73) (k := 1) (x := .tmp 7) (vx := (.pointer (some ⟨z, 0, none⟩))) ?_) ?_
  · (intro w hSw; clear hSw; go_simp)
  refine Rg.takek 8 (some 42) (.pointer (some ⟨z, 1 + 1, none⟩)) hNS hHeld (Rg.y_fieldk (T := 71) (k := 1) (x := .tmp 41) (vx := (.pointer (some ⟨z, 1, none⟩))) ?_) ?_
  · (intro w hSw; clear hSw; go_simp)
  refine Rg.takek 9 (some 43) (.string d) hNS hHeld (Rg.y_loadk (T := 9) (x := .tmp 42) (vx := (.pointer (some ⟨z, 1 + 1, none⟩))) ?_) ?_
  · (intro w hSw; obtain ⟨s0, s1, s2⟩ := hSw; have s3 : w.cell? ⟨z, 1 + 1, none⟩ = some (.string d) := s2; go_simp)
  refine Rg.callk (fn := Tryz.f73) (xs := #[.tmp 35, .tmp 38]) (ats := #[30, 9]) 5 (some 39) 73 #[(.pointer (some ⟨ub, 0, none⟩)), (.string d)] Tryz.func73 ?_
  refine hA.mono ?_
  rintro e w5 ⟨rfl, h5⟩
  refine ⟨_, rfl, hAS _ h5, fun hHeld => ?_⟩
  refine Rg.callk (fn := Tryz.f70) (xs := #[.tmp 39]) (ats := #[9]) 6 (some 40) 70 #[(.string k1)] Tryz.func70 ?_
  refine (hB _ h5).mono ?_
  rintro e w6 ⟨rfl, h6⟩
  refine ⟨_, rfl, hBS _ h6, fun hHeld => ?_⟩
  refine Rg.callk (fn := Tryz.f74) (xs := #[.tmp 43]) (ats := #[9]) 10 (some 44) 74 #[(.string d)] Tryz.func74 ?_
  refine (hC _ h6).mono ?_
  rintro e w7 ⟨rfl, h7⟩
  refine ⟨_, rfl, hCS _ h7, fun hHeld => ?_⟩
  refine Rg.bldk 11 (some 45) (T := 52) (len := 2) (parts := #[(0, .tmp 40), (1, .tmp 44)]) (vs := #[(0, (.string k2)), (1, (.string k3))]) (v := (.slice (some ⟨w7.heap.size, 0, none⟩) 2 2)) (w1 := w7.alloc (.cells #[(.string k2), (.string k3)] 9)) ?_ (hES _ h7) (fun hHeld => ?_)
  · (clear hHeld; go_simp)
  refine Rg.app1k 12 (some 46) (T := 52) (x := .tmp 34) (y := .tmp 45) (vx := sl) (vy := (.slice (some ⟨w7.heap.size, 0, none⟩) 2 2)) ?_
  intro ty
  obtain ⟨v8, w8, hr8, hs8, h8⟩ := hE _ h7 ty
  refine ⟨_, w8, hr8, hs8, fun hHeld => ?_⟩
  refine Rg.takek 13 (some 5) (v8) hNS hHeld (Rg.y_movekR (x := .tmp 46)) ?_
  refine Rg.donek ?_
  exact ⟨w7.heap.size, v8, by kernel_rfl, h8⟩
set_option maxRecDepth 100000 in
set_option maxHeartbeats 8000000 in
theorem regSaveZ (ops : Array Oper) (hops : ops = (Rg.opsOf Tryz.f11 7)) (id : Nat) (ub : Nat) (n : Int) (k0 k1 k2 : ByteArray) (sl : Value) {u3 u4 u5 u6 u7 u8 u9 u10 u11 u12 u13 u14 u15 u16 u17 u18 u19 u20 u21 u22 u23 u24 u25 u26 u27 u28 u29 u30 u31 u32 u33 u34 u35 u36 u37 u38 u39 u40 u41 u42 u43 u44 u45 u46 u47 : Value} (w : World) (B : Nat → Option Nat → World → Prop) (hq : B 0 none w.drew)
    (hAl : ∀ i W, B i none W → ∃ zz wz, (Instr.buildSlice 87 1 #[(0, .int .u8 0)]).run Tryz.prog W = .ok (.slice (some ⟨zz, 0, none⟩) 1 1) wz ∧ B i (some zz) wz)
    (hCv : ∀ i zz W, B i (some zz) W → (Go.convert 87 9 (.slice (some ⟨zz, 0, none⟩) 1 1)).run Tryz.prog W = .ok (.string ⟨#[0]⟩) W)
    (hA : ∀ q W, B 0 q W → Calls Tryz.prog 33 #[.int .i64 n] W fun e w' => e = .returned (.string k0) ∧ B 1 q w')
    (hB : ∀ q W, B 1 q W → Calls Tryz.prog 35 #[.pointer (some ⟨ub, 0, none⟩), sl] W fun e w' => e = .returned (.string k1) ∧ B 2 q w')
    (hC : ∀ q W, B 2 q W → Calls Tryz.prog 34 #[.string k1] W fun e w' => e = .returned (.string k2) ∧ B 3 q w')
    (hk2 : k2.size ≤ 9000000000000) (hP : ∀ q W, B 3 q W → Calls Tryz.prog 32 #[.pointer (some ⟨ub, 0, none⟩), .string k0, .string (k2 ++ ⟨#[0]⟩)] W fun e w' => e = .returned (.tuple #[]) ∧ B 4 q w') :
    (Code.region id ops true).wp Tryz.prog (Rg.Only fun a' w' => ∃ z8 : Nat, a' = ⟨#[(.pointer (some ⟨ub, 0, none⟩)), (.int .i64 n), sl, u3, u4, u5, u6, u7, u8, u9, u10, u11, u12, u13, u14, u15, u16, u17, u18, u19, u20, u21, u22, u23, u24, u25, (.pointer (some ⟨ub, 0, none⟩)), (.int .i64 n), (.string k0), (.pointer (some ⟨ub, 0, none⟩)), sl, (.string k1), (.string k2), (.slice (some ⟨z8, 0, none⟩) 1 1), (.string ⟨#[0]⟩), (.string (k2 ++ ⟨#[0]⟩)), (.tuple #[]), u37, u38, u39, u40, u41, u42, u43, u44, u45, u46, u47], []⟩ ∧ ∃ q, B 4 q w') ⟨#[(.pointer (some ⟨ub, 0, none⟩)), (.int .i64 n), sl, u3, u4, u5, u6, u7, u8, u9, u10, u11, u12, u13, u14, u15, u16, u17, u18, u19, u20, u21, u22, u23, u24, u25, u26, u27, u28, u29, u30, u31, u32, u33, u34, u35, u36, u37, u38, u39, u40, u41, u42, u43, u44, u45, u46, u47], []⟩ w := by
  subst hops
  have hNS : Region.noSelect (Rg.opsOf Tryz.f11 7) = true := by kernel_rfl
  refine wp_region_held_drew (S := fun _ => True) (by kernel_rfl) trivial (fun hHeld => ?_)
  rw [show (Rg.opsOf Tryz.f11 7).size = 11 by kernel_rfl]
  refine Rg.takek 0 (some 26) (.pointer (some ⟨ub, 0, none⟩)) hNS hHeld (Rg.y_movekL (x := .tmp 0)) ?_
  refine Rg.takek 1 (some 27) (.int .i64 n) hNS hHeld (Rg.y_movekL (x := .tmp 1)) ?_
  refine Rg.takek 3 (some 29) (.pointer (some ⟨ub, 0, none⟩)) hNS hHeld (Rg.y_movekL (x := .tmp 0)) ?_
  refine Rg.takek 4 (some 30) (sl) hNS hHeld (Rg.y_movekL (x := .tmp 2)) ?_
  refine Rg.twok (i := 2) (j := 7) ?_ ?_
  · refine Rg.op_callk (fn := Tryz.f33) (xs := #[.tmp 27]) (ats := #[3]) 2 (some 28) 33 #[(.int .i64 n)] Tryz.func33 ?_
    refine (hA _ _ hq).mono ?_
    clear hq
    rintro e w5 ⟨rfl, hq⟩
    refine ⟨_, rfl, trivial, fun hHeld => ?_⟩
    refine Rg.twok (i := 5) (j := 7) ?_ ?_
    · refine Rg.op_callk (fn := Tryz.f35) (xs := #[.tmp 29, .tmp 30]) (ats := #[30, 33]) 5 (some 31) 35 #[(.pointer (some ⟨ub, 0, none⟩)), sl] Tryz.func35 ?_
      refine (hB _ _ hq).mono ?_
      clear hq
      rintro e w6 ⟨rfl, hq⟩
      refine ⟨_, rfl, trivial, fun hHeld => ?_⟩
      refine Rg.twok (i := 6) (j := 7) ?_ ?_
      · refine Rg.op_callk (fn := Tryz.f34) (xs := #[.tmp 31]) (ats := #[9]) 6 (some 32) 34 #[(.string k1)] Tryz.func34 ?_
        refine (hC _ _ hq).mono ?_
        clear hq
        rintro e w7 ⟨rfl, hq⟩
        refine ⟨_, rfl, trivial, fun hHeld => ?_⟩
        obtain ⟨zz, wz, hrun, hq⟩ := hAl _ _ hq
        refine Rg.bldk 7 (some 33) (T := 87) (len := 1) (parts := #[(0, .const (Value.int IntKind.u8 0))]) (vs := #[(0, (Value.int IntKind.u8 0))]) (v := (.slice (some ⟨zz, 0, none⟩) 1 1)) (w1 := wz) ?_ (trivial) (fun hHeld => ?_)
        · exact hrun
        refine Rg.onek (i := 8) ?_
        refine Rg.op_convk 8 (some 34) (T := 87) (U := 9) (x := .tmp 33) (vx := (.slice (some ⟨zz, 0, none⟩) 1 1)) (v := (.string ⟨#[0]⟩)) ?_ hHeld ?_
        · exact hCv _ _ _ hq
        refine Rg.takek 9 (some 35) (.string (k2 ++ ⟨#[0]⟩)) hNS hHeld (Rg.y_bink (b := BinOp.add) (T := 9) (R' := 9) (x := .tmp 32) (y := .tmp 34) (vx := (.string k2)) (vy := (.string ⟨#[0]⟩)) ?_) ?_
        · (intro w hSw; clear hSw hAl hCv hA hB hC hP; go_simp; omega)
        refine Rg.callk (fn := Tryz.f32) (xs := #[.tmp 26, .tmp 28, .tmp 35]) (ats := #[30, 9, 9]) 10 (some 36) 32 #[(.pointer (some ⟨ub, 0, none⟩)), (.string k0), (.string (k2 ++ ⟨#[0]⟩))] Tryz.func32 ?_
        refine (hP _ _ hq).mono ?_
        clear hq
        rintro e w8 ⟨rfl, hq⟩
        refine ⟨_, rfl, trivial, fun hHeld => ?_⟩
        refine Rg.donek ?_
        exact ⟨zz, by kernel_rfl, _, hq⟩
      · obtain ⟨zz, wz, hrun, hq⟩ := hAl _ _ hq
        refine Rg.op_bldk 7 (some 33) (T := 87) (len := 1) (parts := #[(0, .const (Value.int IntKind.u8 0))]) (vs := #[(0, (Value.int IntKind.u8 0))]) (v := (.slice (some ⟨zz, 0, none⟩) 1 1)) (w1 := wz) ?_ (trivial) (fun hHeld => ?_)
        · exact hrun
        refine Rg.twok (i := 6) (j := 8) ?_ ?_
        · refine Rg.op_callk (fn := Tryz.f34) (xs := #[.tmp 31]) (ats := #[9]) 6 (some 32) 34 #[(.string k1)] Tryz.func34 ?_
          refine (hC _ _ hq).mono ?_
          clear hq
          rintro e w7 ⟨rfl, hq⟩
          refine ⟨_, rfl, trivial, fun hHeld => ?_⟩
          refine Rg.onek (i := 8) ?_
          refine Rg.op_convk 8 (some 34) (T := 87) (U := 9) (x := .tmp 33) (vx := (.slice (some ⟨zz, 0, none⟩) 1 1)) (v := (.string ⟨#[0]⟩)) ?_ hHeld ?_
          · exact hCv _ _ _ hq
          refine Rg.takek 9 (some 35) (.string (k2 ++ ⟨#[0]⟩)) hNS hHeld (Rg.y_bink (b := BinOp.add) (T := 9) (R' := 9) (x := .tmp 32) (y := .tmp 34) (vx := (.string k2)) (vy := (.string ⟨#[0]⟩)) ?_) ?_
          · (intro w hSw; clear hSw hAl hCv hA hB hC hP; go_simp; omega)
          refine Rg.callk (fn := Tryz.f32) (xs := #[.tmp 26, .tmp 28, .tmp 35]) (ats := #[30, 9, 9]) 10 (some 36) 32 #[(.pointer (some ⟨ub, 0, none⟩)), (.string k0), (.string (k2 ++ ⟨#[0]⟩))] Tryz.func32 ?_
          refine (hP _ _ hq).mono ?_
          clear hq
          rintro e w8 ⟨rfl, hq⟩
          refine ⟨_, rfl, trivial, fun hHeld => ?_⟩
          refine Rg.donek ?_
          exact ⟨zz, by kernel_rfl, _, hq⟩
        · refine Rg.op_convk 8 (some 34) (T := 87) (U := 9) (x := .tmp 33) (vx := (.slice (some ⟨zz, 0, none⟩) 1 1)) (v := (.string ⟨#[0]⟩)) ?_ hHeld ?_
          · exact hCv _ _ _ hq
          refine Rg.callk (fn := Tryz.f34) (xs := #[.tmp 31]) (ats := #[9]) 6 (some 32) 34 #[(.string k1)] Tryz.func34 ?_
          refine (hC _ _ hq).mono ?_
          clear hq
          rintro e w7 ⟨rfl, hq⟩
          refine ⟨_, rfl, trivial, fun hHeld => ?_⟩
          refine Rg.takek 9 (some 35) (.string (k2 ++ ⟨#[0]⟩)) hNS hHeld (Rg.y_bink (b := BinOp.add) (T := 9) (R' := 9) (x := .tmp 32) (y := .tmp 34) (vx := (.string k2)) (vy := (.string ⟨#[0]⟩)) ?_) ?_
          · (intro w hSw; clear hSw hAl hCv hA hB hC hP; go_simp; omega)
          refine Rg.callk (fn := Tryz.f32) (xs := #[.tmp 26, .tmp 28, .tmp 35]) (ats := #[30, 9, 9]) 10 (some 36) 32 #[(.pointer (some ⟨ub, 0, none⟩)), (.string k0), (.string (k2 ++ ⟨#[0]⟩))] Tryz.func32 ?_
          refine (hP _ _ hq).mono ?_
          clear hq
          rintro e w8 ⟨rfl, hq⟩
          refine ⟨_, rfl, trivial, fun hHeld => ?_⟩
          refine Rg.donek ?_
          exact ⟨zz, by kernel_rfl, _, hq⟩
    · obtain ⟨zz, wz, hrun, hq⟩ := hAl _ _ hq
      refine Rg.op_bldk 7 (some 33) (T := 87) (len := 1) (parts := #[(0, .const (Value.int IntKind.u8 0))]) (vs := #[(0, (Value.int IntKind.u8 0))]) (v := (.slice (some ⟨zz, 0, none⟩) 1 1)) (w1 := wz) ?_ (trivial) (fun hHeld => ?_)
      · exact hrun
      refine Rg.twok (i := 5) (j := 8) ?_ ?_
      · refine Rg.op_callk (fn := Tryz.f35) (xs := #[.tmp 29, .tmp 30]) (ats := #[30, 33]) 5 (some 31) 35 #[(.pointer (some ⟨ub, 0, none⟩)), sl] Tryz.func35 ?_
        refine (hB _ _ hq).mono ?_
        clear hq
        rintro e w6 ⟨rfl, hq⟩
        refine ⟨_, rfl, trivial, fun hHeld => ?_⟩
        refine Rg.twok (i := 6) (j := 8) ?_ ?_
        · refine Rg.op_callk (fn := Tryz.f34) (xs := #[.tmp 31]) (ats := #[9]) 6 (some 32) 34 #[(.string k1)] Tryz.func34 ?_
          refine (hC _ _ hq).mono ?_
          clear hq
          rintro e w7 ⟨rfl, hq⟩
          refine ⟨_, rfl, trivial, fun hHeld => ?_⟩
          refine Rg.onek (i := 8) ?_
          refine Rg.op_convk 8 (some 34) (T := 87) (U := 9) (x := .tmp 33) (vx := (.slice (some ⟨zz, 0, none⟩) 1 1)) (v := (.string ⟨#[0]⟩)) ?_ hHeld ?_
          · exact hCv _ _ _ hq
          refine Rg.takek 9 (some 35) (.string (k2 ++ ⟨#[0]⟩)) hNS hHeld (Rg.y_bink (b := BinOp.add) (T := 9) (R' := 9) (x := .tmp 32) (y := .tmp 34) (vx := (.string k2)) (vy := (.string ⟨#[0]⟩)) ?_) ?_
          · (intro w hSw; clear hSw hAl hCv hA hB hC hP; go_simp; omega)
          refine Rg.callk (fn := Tryz.f32) (xs := #[.tmp 26, .tmp 28, .tmp 35]) (ats := #[30, 9, 9]) 10 (some 36) 32 #[(.pointer (some ⟨ub, 0, none⟩)), (.string k0), (.string (k2 ++ ⟨#[0]⟩))] Tryz.func32 ?_
          refine (hP _ _ hq).mono ?_
          clear hq
          rintro e w8 ⟨rfl, hq⟩
          refine ⟨_, rfl, trivial, fun hHeld => ?_⟩
          refine Rg.donek ?_
          exact ⟨zz, by kernel_rfl, _, hq⟩
        · refine Rg.op_convk 8 (some 34) (T := 87) (U := 9) (x := .tmp 33) (vx := (.slice (some ⟨zz, 0, none⟩) 1 1)) (v := (.string ⟨#[0]⟩)) ?_ hHeld ?_
          · exact hCv _ _ _ hq
          refine Rg.callk (fn := Tryz.f34) (xs := #[.tmp 31]) (ats := #[9]) 6 (some 32) 34 #[(.string k1)] Tryz.func34 ?_
          refine (hC _ _ hq).mono ?_
          clear hq
          rintro e w7 ⟨rfl, hq⟩
          refine ⟨_, rfl, trivial, fun hHeld => ?_⟩
          refine Rg.takek 9 (some 35) (.string (k2 ++ ⟨#[0]⟩)) hNS hHeld (Rg.y_bink (b := BinOp.add) (T := 9) (R' := 9) (x := .tmp 32) (y := .tmp 34) (vx := (.string k2)) (vy := (.string ⟨#[0]⟩)) ?_) ?_
          · (intro w hSw; clear hSw hAl hCv hA hB hC hP; go_simp; omega)
          refine Rg.callk (fn := Tryz.f32) (xs := #[.tmp 26, .tmp 28, .tmp 35]) (ats := #[30, 9, 9]) 10 (some 36) 32 #[(.pointer (some ⟨ub, 0, none⟩)), (.string k0), (.string (k2 ++ ⟨#[0]⟩))] Tryz.func32 ?_
          refine (hP _ _ hq).mono ?_
          clear hq
          rintro e w8 ⟨rfl, hq⟩
          refine ⟨_, rfl, trivial, fun hHeld => ?_⟩
          refine Rg.donek ?_
          exact ⟨zz, by kernel_rfl, _, hq⟩
      · refine Rg.op_convk 8 (some 34) (T := 87) (U := 9) (x := .tmp 33) (vx := (.slice (some ⟨zz, 0, none⟩) 1 1)) (v := (.string ⟨#[0]⟩)) ?_ hHeld ?_
        · exact hCv _ _ _ hq
        refine Rg.callk (fn := Tryz.f35) (xs := #[.tmp 29, .tmp 30]) (ats := #[30, 33]) 5 (some 31) 35 #[(.pointer (some ⟨ub, 0, none⟩)), sl] Tryz.func35 ?_
        refine (hB _ _ hq).mono ?_
        clear hq
        rintro e w6 ⟨rfl, hq⟩
        refine ⟨_, rfl, trivial, fun hHeld => ?_⟩
        refine Rg.callk (fn := Tryz.f34) (xs := #[.tmp 31]) (ats := #[9]) 6 (some 32) 34 #[(.string k1)] Tryz.func34 ?_
        refine (hC _ _ hq).mono ?_
        clear hq
        rintro e w7 ⟨rfl, hq⟩
        refine ⟨_, rfl, trivial, fun hHeld => ?_⟩
        refine Rg.takek 9 (some 35) (.string (k2 ++ ⟨#[0]⟩)) hNS hHeld (Rg.y_bink (b := BinOp.add) (T := 9) (R' := 9) (x := .tmp 32) (y := .tmp 34) (vx := (.string k2)) (vy := (.string ⟨#[0]⟩)) ?_) ?_
        · (intro w hSw; clear hSw hAl hCv hA hB hC hP; go_simp; omega)
        refine Rg.callk (fn := Tryz.f32) (xs := #[.tmp 26, .tmp 28, .tmp 35]) (ats := #[30, 9, 9]) 10 (some 36) 32 #[(.pointer (some ⟨ub, 0, none⟩)), (.string k0), (.string (k2 ++ ⟨#[0]⟩))] Tryz.func32 ?_
        refine (hP _ _ hq).mono ?_
        clear hq
        rintro e w8 ⟨rfl, hq⟩
        refine ⟨_, rfl, trivial, fun hHeld => ?_⟩
        refine Rg.donek ?_
        exact ⟨zz, by kernel_rfl, _, hq⟩
  · obtain ⟨zz, wz, hrun, hq⟩ := hAl _ _ hq
    refine Rg.op_bldk 7 (some 33) (T := 87) (len := 1) (parts := #[(0, .const (Value.int IntKind.u8 0))]) (vs := #[(0, (Value.int IntKind.u8 0))]) (v := (.slice (some ⟨zz, 0, none⟩) 1 1)) (w1 := wz) ?_ (trivial) (fun hHeld => ?_)
    · exact hrun
    refine Rg.twok (i := 2) (j := 8) ?_ ?_
    · refine Rg.op_callk (fn := Tryz.f33) (xs := #[.tmp 27]) (ats := #[3]) 2 (some 28) 33 #[(.int .i64 n)] Tryz.func33 ?_
      refine (hA _ _ hq).mono ?_
      clear hq
      rintro e w5 ⟨rfl, hq⟩
      refine ⟨_, rfl, trivial, fun hHeld => ?_⟩
      refine Rg.twok (i := 5) (j := 8) ?_ ?_
      · refine Rg.op_callk (fn := Tryz.f35) (xs := #[.tmp 29, .tmp 30]) (ats := #[30, 33]) 5 (some 31) 35 #[(.pointer (some ⟨ub, 0, none⟩)), sl] Tryz.func35 ?_
        refine (hB _ _ hq).mono ?_
        clear hq
        rintro e w6 ⟨rfl, hq⟩
        refine ⟨_, rfl, trivial, fun hHeld => ?_⟩
        refine Rg.twok (i := 6) (j := 8) ?_ ?_
        · refine Rg.op_callk (fn := Tryz.f34) (xs := #[.tmp 31]) (ats := #[9]) 6 (some 32) 34 #[(.string k1)] Tryz.func34 ?_
          refine (hC _ _ hq).mono ?_
          clear hq
          rintro e w7 ⟨rfl, hq⟩
          refine ⟨_, rfl, trivial, fun hHeld => ?_⟩
          refine Rg.onek (i := 8) ?_
          refine Rg.op_convk 8 (some 34) (T := 87) (U := 9) (x := .tmp 33) (vx := (.slice (some ⟨zz, 0, none⟩) 1 1)) (v := (.string ⟨#[0]⟩)) ?_ hHeld ?_
          · exact hCv _ _ _ hq
          refine Rg.takek 9 (some 35) (.string (k2 ++ ⟨#[0]⟩)) hNS hHeld (Rg.y_bink (b := BinOp.add) (T := 9) (R' := 9) (x := .tmp 32) (y := .tmp 34) (vx := (.string k2)) (vy := (.string ⟨#[0]⟩)) ?_) ?_
          · (intro w hSw; clear hSw hAl hCv hA hB hC hP; go_simp; omega)
          refine Rg.callk (fn := Tryz.f32) (xs := #[.tmp 26, .tmp 28, .tmp 35]) (ats := #[30, 9, 9]) 10 (some 36) 32 #[(.pointer (some ⟨ub, 0, none⟩)), (.string k0), (.string (k2 ++ ⟨#[0]⟩))] Tryz.func32 ?_
          refine (hP _ _ hq).mono ?_
          clear hq
          rintro e w8 ⟨rfl, hq⟩
          refine ⟨_, rfl, trivial, fun hHeld => ?_⟩
          refine Rg.donek ?_
          exact ⟨zz, by kernel_rfl, _, hq⟩
        · refine Rg.op_convk 8 (some 34) (T := 87) (U := 9) (x := .tmp 33) (vx := (.slice (some ⟨zz, 0, none⟩) 1 1)) (v := (.string ⟨#[0]⟩)) ?_ hHeld ?_
          · exact hCv _ _ _ hq
          refine Rg.callk (fn := Tryz.f34) (xs := #[.tmp 31]) (ats := #[9]) 6 (some 32) 34 #[(.string k1)] Tryz.func34 ?_
          refine (hC _ _ hq).mono ?_
          clear hq
          rintro e w7 ⟨rfl, hq⟩
          refine ⟨_, rfl, trivial, fun hHeld => ?_⟩
          refine Rg.takek 9 (some 35) (.string (k2 ++ ⟨#[0]⟩)) hNS hHeld (Rg.y_bink (b := BinOp.add) (T := 9) (R' := 9) (x := .tmp 32) (y := .tmp 34) (vx := (.string k2)) (vy := (.string ⟨#[0]⟩)) ?_) ?_
          · (intro w hSw; clear hSw hAl hCv hA hB hC hP; go_simp; omega)
          refine Rg.callk (fn := Tryz.f32) (xs := #[.tmp 26, .tmp 28, .tmp 35]) (ats := #[30, 9, 9]) 10 (some 36) 32 #[(.pointer (some ⟨ub, 0, none⟩)), (.string k0), (.string (k2 ++ ⟨#[0]⟩))] Tryz.func32 ?_
          refine (hP _ _ hq).mono ?_
          clear hq
          rintro e w8 ⟨rfl, hq⟩
          refine ⟨_, rfl, trivial, fun hHeld => ?_⟩
          refine Rg.donek ?_
          exact ⟨zz, by kernel_rfl, _, hq⟩
      · refine Rg.op_convk 8 (some 34) (T := 87) (U := 9) (x := .tmp 33) (vx := (.slice (some ⟨zz, 0, none⟩) 1 1)) (v := (.string ⟨#[0]⟩)) ?_ hHeld ?_
        · exact hCv _ _ _ hq
        refine Rg.callk (fn := Tryz.f35) (xs := #[.tmp 29, .tmp 30]) (ats := #[30, 33]) 5 (some 31) 35 #[(.pointer (some ⟨ub, 0, none⟩)), sl] Tryz.func35 ?_
        refine (hB _ _ hq).mono ?_
        clear hq
        rintro e w6 ⟨rfl, hq⟩
        refine ⟨_, rfl, trivial, fun hHeld => ?_⟩
        refine Rg.callk (fn := Tryz.f34) (xs := #[.tmp 31]) (ats := #[9]) 6 (some 32) 34 #[(.string k1)] Tryz.func34 ?_
        refine (hC _ _ hq).mono ?_
        clear hq
        rintro e w7 ⟨rfl, hq⟩
        refine ⟨_, rfl, trivial, fun hHeld => ?_⟩
        refine Rg.takek 9 (some 35) (.string (k2 ++ ⟨#[0]⟩)) hNS hHeld (Rg.y_bink (b := BinOp.add) (T := 9) (R' := 9) (x := .tmp 32) (y := .tmp 34) (vx := (.string k2)) (vy := (.string ⟨#[0]⟩)) ?_) ?_
        · (intro w hSw; clear hSw hAl hCv hA hB hC hP; go_simp; omega)
        refine Rg.callk (fn := Tryz.f32) (xs := #[.tmp 26, .tmp 28, .tmp 35]) (ats := #[30, 9, 9]) 10 (some 36) 32 #[(.pointer (some ⟨ub, 0, none⟩)), (.string k0), (.string (k2 ++ ⟨#[0]⟩))] Tryz.func32 ?_
        refine (hP _ _ hq).mono ?_
        clear hq
        rintro e w8 ⟨rfl, hq⟩
        refine ⟨_, rfl, trivial, fun hHeld => ?_⟩
        refine Rg.donek ?_
        exact ⟨zz, by kernel_rfl, _, hq⟩
    · refine Rg.op_convk 8 (some 34) (T := 87) (U := 9) (x := .tmp 33) (vx := (.slice (some ⟨zz, 0, none⟩) 1 1)) (v := (.string ⟨#[0]⟩)) ?_ hHeld ?_
      · exact hCv _ _ _ hq
      refine Rg.callk (fn := Tryz.f33) (xs := #[.tmp 27]) (ats := #[3]) 2 (some 28) 33 #[(.int .i64 n)] Tryz.func33 ?_
      refine (hA _ _ hq).mono ?_
      clear hq
      rintro e w5 ⟨rfl, hq⟩
      refine ⟨_, rfl, trivial, fun hHeld => ?_⟩
      refine Rg.callk (fn := Tryz.f35) (xs := #[.tmp 29, .tmp 30]) (ats := #[30, 33]) 5 (some 31) 35 #[(.pointer (some ⟨ub, 0, none⟩)), sl] Tryz.func35 ?_
      refine (hB _ _ hq).mono ?_
      clear hq
      rintro e w6 ⟨rfl, hq⟩
      refine ⟨_, rfl, trivial, fun hHeld => ?_⟩
      refine Rg.callk (fn := Tryz.f34) (xs := #[.tmp 31]) (ats := #[9]) 6 (some 32) 34 #[(.string k1)] Tryz.func34 ?_
      refine (hC _ _ hq).mono ?_
      clear hq
      rintro e w7 ⟨rfl, hq⟩
      refine ⟨_, rfl, trivial, fun hHeld => ?_⟩
      refine Rg.takek 9 (some 35) (.string (k2 ++ ⟨#[0]⟩)) hNS hHeld (Rg.y_bink (b := BinOp.add) (T := 9) (R' := 9) (x := .tmp 32) (y := .tmp 34) (vx := (.string k2)) (vy := (.string ⟨#[0]⟩)) ?_) ?_
      · (intro w hSw; clear hSw hAl hCv hA hB hC hP; go_simp; omega)
      refine Rg.callk (fn := Tryz.f32) (xs := #[.tmp 26, .tmp 28, .tmp 35]) (ats := #[30, 9, 9]) 10 (some 36) 32 #[(.pointer (some ⟨ub, 0, none⟩)), (.string k0), (.string (k2 ++ ⟨#[0]⟩))] Tryz.func32 ?_
      refine (hP _ _ hq).mono ?_
      clear hq
      rintro e w8 ⟨rfl, hq⟩
      refine ⟨_, rfl, trivial, fun hHeld => ?_⟩
      refine Rg.donek ?_
      exact ⟨zz, by kernel_rfl, _, hq⟩
end Go.Proofs.YtdkgkomjbpggeaaGreatDoor.Az

namespace Go.Proofs.YtdkgkomjbpggeaaGreatDoor.Az
open Go.RowKit Tx Pm Dk Wm Wr Wl Pl Tb Bl Fm
open Fr hiding sv Texts cnt cnt_snoc
open En (Et tcheck)
set_option linter.unusedVariables false
set_option linter.unusedSimpArgs false
set_option linter.unnecessarySimpa false
section
variable {w0 : World × (Nat → Prop)} {V V' : World} {d j t m u M N M' N' : Nat} {x : Tst} {C C' : List On} {Z Z' : List It} {Q Q' : Nat → Prop}
theorem bz_freshF (h : Bz d j t m u x Z w0 C M N V) : ∃ F' : Nat → Prop, (∀ i, F' i → w0.2 i ∨ w0.1.heap.size ≤ i) ∧ (∀ i, F' i → i < V.heap.size) ∧ ∀ V', (∀ i, F' i → V'.heap[i]? = V.heap[i]?) → Bz d j t m u x Z (V', F') C M N V' := by
  obtain ⟨l, ⟨F', h1, h2, h3⟩, hh⟩ := h
  refine ⟨F', h3, tu_lt h1, fun V' hk => ⟨l, ⟨F', ?_, Chg.refl F' V', fun g hg => .inl hg⟩, hh⟩⟩
  obtain ⟨F1, G, ⟨Fj, h1⟩, ⟨pm, vO, h2⟩, hd, hH⟩ := h1
  exact ⟨F1, G, ⟨Fj, h1.kept (fun i hi => hk i ((hH i).2 (.inl hi)))⟩, ⟨pm, vO, h2.kept (fun i hi => hk i ((hH i).2 (.inr hi)))⟩, hd, hH⟩
def Bq (d j t m u : Nat) (x : Tst) (Z : List It) (w0 : World × (Nat → Prop)) (C : List On) (M N : Nat) (Q : Nat → Prop) (V : World) : Prop :=
  ∃ F : Nat → Prop, (∀ i, F i → w0.2 i ∨ w0.1.heap.size ≤ i) ∧ (∀ i, F i → i < V.heap.size) ∧ Chg w0.2 w0.1 V ∧ (∀ V', (∀ i, F i → V'.heap[i]? = V.heap[i]?) → Bz d j t m u x Z (V', F) C M N V') ∧ ∀ i, Q i → i < V.heap.size ∧ ¬ F i ∧ w0.1.heap.size ≤ i
theorem bq_first (h : Bz d j t m u x Z w0 C M N V) : Bq d j t m u x Z w0 C M N (fun _ => False) V := by
  obtain ⟨F, h1, h2, h3⟩ := bz_freshF h
  exact ⟨F, h1, h2, h.chg, h3, fun i hi => hi.elim⟩
theorem Bq.chg (h : Bq d j t m u x Z w0 C M N Q V) : Chg w0.2 w0.1 V := by
  obtain ⟨F, _, _, h3, _⟩ := h
  exact h3
theorem Bq.bz (h : Bq d j t m u x Z w0 C M N Q V) : Bz d j t m u x Z w0 C M N V := by
  obtain ⟨F, h1, h2, h3, h4, _⟩ := h
  exact (h4 V (fun _ _ => rfl)).back h3 h1
theorem Bq.go (h : Bq d j t m u x Z w0 C M N Q V) (hc : Chg Q V V') (hq : ∀ i, Q' i → Q i ∨ (V.heap.size ≤ i ∧ i < V'.heap.size)) : Bq d j t m u x Z w0 C M N Q' V' := by
  obtain ⟨F, h1, h2, h3, h4, h5⟩ := h
  have hs := hc.size
  have hk : ∀ i, F i → V'.heap[i]? = V.heap[i]? := fun i hi => hc.block i (h2 i hi) (fun hq => (h5 i hq).2.1 hi)
  refine ⟨F, h1, fun i hi => Nat.lt_of_lt_of_le (h2 i hi) hs, h3.trans hc (fun i hi => .inr (h5 i hi).2.2), fun V2 h6 => h4 V2 (fun i hi => (h6 i hi).trans (hk i hi)), fun i hi => ?_⟩
  rcases hq i hi with hh | ⟨hh, hh2⟩
  · exact ⟨Nat.lt_of_lt_of_le (h5 i hh).1 hs, (h5 i hh).2⟩
  · exact ⟨hh2, fun hf => by have := h2 i hf; omega, by have := h3.size; omega⟩
theorem Bq.below (h : Bq d j t m u x Z w0 C M N Q V) (hb : Below V.heap.size V V') : Bq d j t m u x Z w0 C M N Q V' := h.go (Chg.of_below hb) (fun i hi => .inl hi)
theorem Bq.call {f : FuncId} {args : Array Value} {P : Ending → Prop} (h : Bq d j t m u x Z w0 C M N Q V) (hT : TabZ w0) (hc : ∀ F, (∀ i, F i → w0.2 i ∨ w0.1.heap.size ≤ i) → TabZ (V, F) → Bz d j t m u x Z (V, F) C M N V → Calls Tryz.prog f args V fun e w' => P e ∧ Bz d j t m u x Z' (V, F) C' M' N' w') :
    Calls Tryz.prog f args V fun e w' => P e ∧ Bq d j t m u x Z' w0 C' M' N' Q w' ∧ (∀ i, Q i → w'.heap[i]? = V.heap[i]?) ∧ V.heap.size ≤ w'.heap.size := by
  obtain ⟨F, h1, h2, h3, h4, h5⟩ := h
  refine (hc F h1 (fun V2 hV => hT V2 (h3.trans hV h1)) (h4 V (fun _ _ => rfl))).mono fun e w' ⟨hp, hb⟩ => ⟨hp, ?_, ?_, hb.chg.size⟩
  · obtain ⟨F', k1, k2, k3⟩ := bz_freshF hb
    have hcg := hb.chg
    have hs := hcg.size
    refine ⟨F', fun i hi => ?_, k2, h3.trans hcg h1, k3, fun i hi => ⟨Nat.lt_of_lt_of_le (h5 i hi).1 hs, fun hf => ?_, (h5 i hi).2.2⟩⟩
    · rcases k1 i hi with hh | hh
      · exact h1 i hh
      · exact .inr (Nat.le_trans h3.size hh)
    · rcases k1 i hf with hh | hh
      · exact (h5 i hi).2.1 hh
      · have := (h5 i hi).1
        have hh : V.heap.size ≤ i := hh
        omega
  · intro i hi
    exact hb.chg.block i (h5 i hi).1 (h5 i hi).2.1
end
set_option maxRecDepth 100000 in
theorem joinZ_nil (w : World) : Calls Tryz.prog 69 #[.slice none 0 0] w fun e w' => e = .returned (.string ⟨#[]⟩) ∧ Below w.heap.size w w' := by
  go_enter Tryz.func69, Tryz.ntmps69
  go_wp2
  go_ret
  exact ⟨rfl, Below.refl _ _⟩
theorem joinZ_any {B n : Nat} {v : Value} {xs : List ByteArray} (w : World) (hxl : xs.length ≤ 140737488355328) (h : w.ownsRow B 9 1 v n (xs.map sv)) (hlen : (cat xs).size ≤ 140737488355328) :
    Calls Tryz.prog 69 #[v] w fun e w' => e = .returned (.string (cat xs)) ∧ Below w.heap.size w w' := by
  have hl : xs.length = n := by
    have := h.1
    simpa using this
  have hT : Texts w B v xs := own_toT h hl
  obtain ⟨a, c, rfl, hs, hnc, hcm⟩ := hT.form
  rcases hs.2 with h0 | ⟨b, off, rfl, hb, hc⟩
  · obtain rfl : xs = [] := List.eq_nil_of_length_eq_zero h0
    rcases h.2 with ⟨e, _⟩ | ⟨g, cap, cur, e, hg, hh, _⟩
    · injection e with e1 e2 e3
      subst e1 e3
      exact joinZ_nil w
    · injection e with e1 e2 e3
      subst e1
      exact join_any g 0 c [] w (fun j x hx => by cases hx) (Array.getElem?_eq_some_iff.1 hh).1 (Nat.zero_le _) hnc hlen
  · exact join_any b off c xs w hc hb hxl hnc hlen
end Go.Proofs.YtdkgkomjbpggeaaGreatDoor.Az

namespace Go.Proofs.YtdkgkomjbpggeaaGreatDoor.Az
open Go.RowKit Tx Pm Dk Wm Wr Wl Pl Tb Bl Fm
open Fr hiding sv Texts cnt cnt_snoc
open En (Et tcheck)
open Ac (files)
set_option linter.unusedVariables false
set_option linter.unusedSimpArgs false
set_option linter.unnecessarySimpa false
theorem chg_eq {w w1 w2 : World} {b : Nat} (h : Chg (· = b) w w1) (hg : w1.grownBy w2 (some b)) : Chg (· = b) w w2 := h.then (chg_grown hg)
set_option maxRecDepth 100000 in
set_option maxHeartbeats 1000000 in
theorem content_any {r ub : Nat} {key d : ByteArray} {m : List UInt8} {w : World} (h : Rat w r (La (tl key ++ (vb (sumN d) ++ m)))) (hs : (tl key ++ (vb (sumN d) ++ m)).length ≤ 100000000) (hk : key.size ≤ 14) (hd : d.size ≤ 10000000)
    (hg : ∀ V, Chg (· = r) w V → Calls Tryz.prog 144 #[.pointer (some ⟨ub, 0, none⟩), .string key] V fun e w' => e = .returned (.tuple #[.string d, .int .i64 0]) ∧ Below V.heap.size V w') :
    Calls Tryz.prog 112 #[.pointer (some ⟨ub, 0, none⟩), .pointer (some ⟨r, 0, none⟩)] w fun e w' => e = .returned (.tuple #[.string key, .string d, .bool true]) ∧ Rat w' r (La m) ∧ Chg (· = r) w w' := by
  have c1 := rd_text h (by omega) (by omega)
  have hsl : (vb (sumN d) ++ m).length ≤ 100000000000 := by rw [List.length_append] at hs; omega
  have hsd : sumN d ≤ 9223372036854775807 := by have := fsum_lt d.data.toList; unfold sumN; omega
  have c2 := fun V (hR : Rat V r (La (vb (sumN d) ++ m))) => rd_uint hR hsl hsd
  have c4 := fun V => fSum_any d V (by unfold maxLen; omega)
  have e4 : fsum d.data.toList = sumN d := rfl
  rw [e4] at c4
  generalize sumN d = f at c1 c2 c4 hsd
  have HG := Lib.hid hg
  have HC := Lib.hid (Chg.refl (· = r) w)
  clear h hs hsl hg e4
  go_enter Tryz.func112, Tryz.ntmps112
  go_wp2_with fail
  go_at_call 97
  refine c1.mono ?_
  rintro e w1 ⟨rfl, hR1, hg1⟩
  have HC1 := Lib.hid (chg_eq HC.out hg1)
  have c2a := c2 w1 hR1
  clear c1 c2 hR1 hg1
  go_wp2_with fail
  go_at_call 111
  refine c2a.mono ?_
  rintro e w2 ⟨rfl, hR2, hg2⟩
  have HC2 := Lib.hid (chg_eq HC1.out hg2)
  have HR2 := Lib.hid hR2
  have c3 := HG.out w2 HC2.out
  clear c2a hR2 hg2
  go_wp2_with fail
  go_at_call 144
  refine c3.mono ?_
  rintro e w3 ⟨rfl, hb3⟩
  have HB3 := Lib.hid hb3
  have c4a := c4 w3
  clear c3 c4 hb3
  go_wp2_with fail
  go_at_call 108
  refine c4a.mono ?_
  rintro e w4 ⟨rfl, hb4⟩
  have HB4 := Lib.hid hb4
  clear c4a hb4
  go_wp2_with fail
  go_ret3
  have hb := Tx.below_call HB3.out HB4.out
  exact ⟨rfl, rat_kept HR2.out (hb.block _ (rat_lt HR2.out)), HC2.out.then (Chg.of_below hb)⟩
def restN (w : World) (b : Nat) : Nat := match w.cell? ⟨b, 0, none⟩ with
  | some (.string s) => s.size
  | _ => 0
theorem rest_la {w : World} {b : Nat} {l : List UInt8} (h : Rat w b (La l)) : restN w b = l.length := by unfold restN; rw [h.1]; exact la_size l
def kO (v vk : Value) : Obj := .cells #[v, vk] 80 (0, 0)
theorem infoKp : (Tryz.prog.info? 80).map (·.size) = some 2 := by kernel_rfl
theorem infoEz : (Tryz.prog.info? 73).map (fun i => (i.zero, i.size, i.bytes)) = some (some (.agg #[.string ⟨#[]⟩, .int .i64 0, .string ⟨#[]⟩]), 3, 40) := by kernel_rfl
theorem infoSz : (Tryz.prog.info? 9).map (fun i => (i.zero, i.size, i.bytes)) = some (some (.string ⟨#[]⟩), 1, 16) := by kernel_rfl
theorem kO_set0 {w : World} {B : Nat} {v vk : Value} (h : w.heap[B]? = some (kO v vk)) (v' : Value) : w.cell? ⟨B, 0, none⟩ = some v ∧ w.frozen? ⟨B, 0, none⟩ = false ∧ (w.setCell ⟨B, 0, none⟩ v').heap[B]? = some (kO v' vk) ∧ Chg (· = B) w (w.setCell ⟨B, 0, none⟩ v') := by
  unfold kO at h ⊢
  refine ⟨?_, ?_, by rw [set_block h]; rfl, chg_set (b := B) (k := 0) v'⟩
  · unfold World.cell?; rw [h]; rfl
  · unfold World.frozen?; rw [h]; simp
theorem kO_set1 {w : World} {B : Nat} {v vk : Value} (h : w.heap[B]? = some (kO v vk)) (v' : Value) : w.cell? ⟨B, 1, none⟩ = some vk ∧ w.frozen? ⟨B, 1, none⟩ = false ∧ (w.setCell ⟨B, 1, none⟩ v').heap[B]? = some (kO v v') ∧ Chg (· = B) w (w.setCell ⟨B, 1, none⟩ v') := by
  unfold kO at h ⊢
  refine ⟨?_, ?_, by rw [set_block h]; rfl, chg_set (b := B) (k := 1) v'⟩
  · unfold World.cell?; rw [h]; rfl
  · unfold World.frozen?; rw [h]; simp
theorem row_chg {w w1 : World} {B n size b : Nat} {e : TypeId} {v : Value} {xs : List Value} (h : w.ownsRow B e size v n xs) (hc : Chg (· = b) w w1) (hb : b < B) : w1.ownsRow B e size v n xs := own_chg h hc (fun g hg => by have := (h.lt g hg).1; omega)
theorem rows_ne {V : World} {B n m : Nat} {v u : Value} {xs ys : List Value} (h : V.ownsRow B 9 1 v n xs) (h2 : V.ownsRow B 73 3 u m ys) {g : Nat} (hg : v.ownBlock = some g) : u.ownBlock ≠ some g := fun hg2 => by
  rcases h.2 with ⟨rfl, _⟩ | ⟨g', cap, cur, rfl, _, hh, _⟩
  · cases hg
  · rcases h2.2 with ⟨rfl, _⟩ | ⟨g2, cap2, cur2, rfl, _, hh2, _⟩
    · cases hg2
    · injection hg with hg
      injection hg2 with hg2
      subst hg
      subst hg2
      rw [hh] at hh2
      injection hh2 with hh2
      injection hh2 with _ h2
      exact absurd h2 (by decide)
theorem row_form {w : World} {B n size : Nat} {e : TypeId} {v : Value} {xs : List Value} (h : w.ownsRow B e size v n xs) : ∃ a c, v = .slice a n c := by
  rcases h.2 with ⟨hv, h0⟩ | ⟨g, cap, cur, hv, _⟩
  · exact ⟨none, 0, by rw [hv, h0]⟩
  · exact ⟨_, _, hv⟩
theorem blk_grow {w w1 : World} {b : Nat} {r : Option Nat} (hg : w.grownBy w1 r) (hb : b < w.heap.size) (hn : r ≠ some b) : w1.heap[b]? = w.heap[b]? := hg.block b hb (fun e => hn e.symm)
theorem row_grow {w w1 : World} {B n size : Nat} {e : TypeId} {v : Value} {xs : List Value} {r : Option Nat} (h : w.ownsRow B e size v n xs) (hg : w.grownBy w1 r) (hn : ∀ g, v.ownBlock = some g → r ≠ some g) : w1.ownsRow B e size v n xs := own_kept h (fun g hg2 => blk_grow hg (h.lt g hg2).2 (hn g hg2))
def nO (k : Int) (d : ByteArray) : Obj := .cells #[.int .i64 k, .string d] 71 (0, 0)
theorem nO_set1 {w : World} {B : Nat} {k : Int} {d : ByteArray} (h : w.heap[B]? = some (nO k d)) (d' : ByteArray) : w.cell? ⟨B, 0, none⟩ = some (.int .i64 k) ∧ w.cell? ⟨B, 1, none⟩ = some (.string d) ∧ w.frozen? ⟨B, 1, none⟩ = false ∧ (w.setCell ⟨B, 1, none⟩ (.string d')).heap[B]? = some (nO k d') ∧ Chg (· = B) w (w.setCell ⟨B, 1, none⟩ (.string d')) := by
  unfold nO at h ⊢
  refine ⟨?_, ?_, ?_, by rw [set_block h]; rfl, chg_set (b := B) (k := 1) _⟩
  · unfold World.cell?; rw [h]; rfl
  · unfold World.cell?; rw [h]; rfl
  · unfold World.frozen?; rw [h]; simp
theorem rows_not_node {V : World} {B n g z : Nat} {k : Int} {d : ByteArray} {v : Value} {xs : List Value} (h : V.ownsRow B 73 3 v n xs) (hz : V.heap[z]? = some (nO k d)) (hg : v.ownBlock = some g) : g ≠ z := by
  rintro rfl
  rcases h.2 with ⟨rfl, _⟩ | ⟨g', cap, cur, rfl, _, hh, _⟩
  · cases hg
  · injection hg with hg
    subst hg
    rw [hz] at hh
    injection hh with hh
    injection hh with _ h2
    exact absurd h2 (by decide)
theorem texts_not_node {V : World} {B n g z : Nat} {k : Int} {d : ByteArray} {v : Value} {xs : List Value} (h : V.ownsRow B 9 1 v n xs) (hz : V.heap[z]? = some (nO k d)) (hg : v.ownBlock = some g) : g ≠ z := by
  rintro rfl
  rcases h.2 with ⟨rfl, _⟩ | ⟨g', cap, cur, rfl, _, hh, _⟩
  · cases hg
  · injection hg with hg
    subst hg
    rw [hz] at hh
    injection hh with hh
    injection hh with _ h2
    exact absurd h2 (by decide)
set_option maxRecDepth 100000 in
set_option maxHeartbeats 4000000 in
theorem parse_any {ub : Nat} {κ : ByteArray → ByteArray} (t : List Et) (w : World) (hok : ∀ x ∈ t, Eok x) (hlen : t.length ≤ 200) (hκ : ∀ x ∈ t, x.node.kind = 2 → (κ x.node.data).size ≤ 14) (hbk : Ac.bk t ≤ 10000000)
    (hg : ∀ x ∈ t, x.node.kind = 2 → ∀ V, Below w.heap.size w V → Calls Tryz.prog 144 #[.pointer (some ⟨ub, 0, none⟩), .string (κ x.node.data)] V fun e w' => e = .returned (.tuple #[.string x.node.data, .int .i64 0]) ∧ Below V.heap.size V w') :
    Calls Tryz.prog 78 #[.pointer (some ⟨ub, 0, none⟩), .string (La (rpL κ t))] w fun e w' => ∃ v vk, e = .returned (.tuple #[.agg #[v, vk], .bool true]) ∧ En.Own w' w.heap.size v t ∧ Texts w' w.heap.size vk ((files t).map κ) ∧ Below w.heap.size w w' := by
  have hlL : ∀ i, (rpL κ (t.drop i)).length ≤ 100000000 := fun i => by
    have h1 := rpL_le (κ := κ) (t := t.drop i) (fun x hx => hok x (List.mem_of_mem_drop hx)) (fun x hx => hκ x (List.mem_of_mem_drop hx))
    have h2 : Ac.bk (t.drop i) ≤ Ac.bk t := by
      unfold Ac.bk
      conv => rhs; rw [← List.take_append_drop i t, List.map_append, List.sum_append]
      omega
    have h3 : (t.drop i).length ≤ 200 := by rw [List.length_drop]; omega
    omega
  obtain ⟨n, hn⟩ : ∃ n, n = t.length := ⟨_, rfl⟩
  rw [← hn] at hlen
  have HN := Lib.hid hn
  have HL := Lib.hid hlL
  have HOK := Lib.hid hok
  have HK := Lib.hid hκ
  have HG := Lib.hid hg
  obtain ⟨B, hB⟩ : ∃ B, B = w.heap.size := ⟨_, rfl⟩
  have cn := fun V => new_any (La (rpL κ t)) V
  have HB0 := Lib.hid ((((Below.refl _ w).alloc (Nat.le_refl _) (kO (.slice none 0 0) (.slice none 0 0))).alloc (by simp) (kO (.slice none 0 0) (.slice none 0 0))).alloc (by simp; omega) (.cells #[.string (La (rpL κ t))] 172))
  clear hlL hok hκ hbk hg hn
  go_enter Tryz.func78, Tryz.ntmps78
  go_wp2_with fail
  go_at_call 96
  refine (cn _).mono ?_
  rintro e w1 ⟨rfl, rfl⟩
  go_wp2_with fail
  have eK : (w.alloc (kO (.slice none 0 0) (.slice none 0 0))).heap.size = w.heap.size + 1 := by simp
  have hR0 := rat_new ((w.alloc (kO (.slice none 0 0) (.slice none 0 0))).alloc (kO (.slice none 0 0) (.slice none 0 0))) (La (rpL κ t))
  have eK2 : ((w.alloc (kO (.slice none 0 0) (.slice none 0 0))).alloc (kO (.slice none 0 0) (.slice none 0 0))).heap.size = w.heap.size + 2 := by simp
  rw [eK2] at hR0
  have hN0 := new_at w (kO (.slice none 0 0) (.slice none 0 0)) (g := w.heap.size) rfl
  have hN1 := new_at (w.alloc (kO (.slice none 0 0) (.slice none 0 0))) (kO (.slice none 0 0) (.slice none 0 0)) (g := w.heap.size + 1) (by simp)
  go_loopw [] (fun wr => ∃ (i : Nat) (v vk : Value), i ≤ n ∧ Rat wr (w.heap.size + 2) (La (rpL κ (t.drop i))) ∧ wr.heap[w.heap.size + 1]? = some (kO v vk) ∧ wr.heap[w.heap.size]? = some (kO (.slice none 0 0) (.slice none 0 0)) ∧ wr.ownsRow (w.heap.size + 3) 73 3 v i ((t.take i).flatMap En.cells) ∧ wr.ownsRow (w.heap.size + 3) 9 1 vk (files (t.take i)).length (((files (t.take i)).map κ).map sv) ∧ Below w.heap.size w wr) (fun wr => restN wr (w.heap.size + 2))
  case atStart =>
    refine ⟨0, .slice none 0 0, .slice none 0 0, Nat.zero_le _, hR0, ?_, ?_, World.ownsRow_nil _ _ _ _, World.ownsRow_nil _ _ _ _, HB0.out⟩
    · exact (((Below.refl _ _).alloc (Nat.le_refl _) _).block _ (by simp)).trans hN1
    · exact (((Below.refl _ _).alloc (Nat.le_refl _) _).block _ (by simp; omega)).trans ((((Below.refl _ _).alloc (Nat.le_refl _) _).block _ (by simp)).trans hN0)
  case round =>
    obtain ⟨i, v, vk, hi, hR, hk1, hk0, ho, hok, hB⟩ := hrel
    clear hR0 hN0 hN1 eK eK2 HB0 cn
    by_cases hlt : i < n
    · obtain ⟨x, hx⟩ : ∃ x, t[i]? = some x := ⟨_, List.getElem?_eq_getElem (by rw [← HN.out]; exact hlt)⟩
      have hxm := List.mem_of_getElem? hx
      have hE := HOK.out x hxm
      have hL := HL.out i
      obtain ⟨hkN, hkN2⟩ := hE.kn
      rw [rpL_drop κ hx] at hR hL
      unfold bytesE at hR hL
      rw [List.append_assoc, List.append_assoc] at hR hL
      have c0 := rd_left hR (by omega)
      have hpos : 0 < (tl x.path ++ (vb (kN x) ++ ((if x.node.kind = 2 then tl (κ x.node.data) ++ vb (sumN x.node.data) else []) ++ rpL κ (t.drop (i + 1))))).length := by
        have := vb_pos (kN x)
        simp only [List.length_append]
        omega
      have c1 := rd_text hR (by omega) (by have := hE.path; omega)
      have hL2 : (vb (kN x) ++ ((if x.node.kind = 2 then tl (κ x.node.data) ++ vb (sumN x.node.data) else []) ++ rpL κ (t.drop (i + 1)))).length ≤ 100000000000 := by rw [List.length_append] at hL; omega
      have c2 := fun V (hV : Rat V (w.heap.size + 2) (La (vb (kN x) ++ ((if x.node.kind = 2 then tl (κ x.node.data) ++ vb (sumN x.node.data) else []) ++ rpL κ (t.drop (i + 1)))))) => rd_uint hV hL2 (by omega)
      obtain ⟨q, hq⟩ : ∃ q, q = (tl x.path ++ (vb (kN x) ++ ((if x.node.kind = 2 then tl (κ x.node.data) ++ vb (sumN x.node.data) else []) ++ rpL κ (t.drop (i + 1))))).length := ⟨_, rfl⟩
      rw [← hq] at c0 hpos
      have hqz : (0 : Int) < (q : Int) := by omega
      have HX := Lib.hid hx
      have HQL := Lib.hid (show (rpL κ (t.drop (i + 1))).length < q by
        have h1 := vb_pos (kN x)
        have h2 := hq
        simp only [List.length_append] at h2
        omega)
      have HQ := Lib.hid (show restN wr (w.heap.size + 2) = q by rw [hq]; exact rest_la hR)
      have HE := Lib.hid hE
      have HBr := Lib.hid hB
      have HO := Lib.hid ho
      have HOK2 := Lib.hid hok
      have HK1 := Lib.hid hk1
      have HK0 := Lib.hid hk0
      have HL3 := Lib.hid hL2
      have HL5 := Lib.hid hL
      have hlr : w.heap.size + 2 < wr.heap.size := rat_lt hR
      clear hB ho hok hk1 hk0 hR hL hx hxm hq hL2
      go_wp2_with fail
      go_at_call 98
      refine c0.mono ?_
      rintro e w1 ⟨rfl, rfl⟩
      clear c0
      go_wp2_with fail
      go_at_call 97
      refine c1.mono ?_
      rintro e w2 ⟨rfl, hR2, hg2⟩
      have c2a := c2 w2 hR2
      have HC2 := Lib.hid (chg_grown hg2)
      clear c1 c2 hR2 hg2
      go_wp2_with fail
      go_at_call 111
      refine c2a.mono ?_
      rintro e w3 ⟨rfl, hR3, hg3⟩
      have HC3 := Lib.hid (chg_eq HC2.out hg3)
      clear c2a hg3
      have hs3 := HC3.out.size
      rcases hE.kind with hkd | hkd
      · rw [if_neg (by rw [hkd]; decide)] at hR3
        rw [List.nil_append] at hR3
        have e1 : kN x = 1 := by omega
        rw [e1]
        have HR3 := Lib.hid hR3
        have hd := hE.dir hkd
        have hk1a : w3.heap[w.heap.size + 1]? = some (kO v vk) := (HC3.out.block _ (by omega) (by omega)).trans HK1.out
        have hO3 := own_chg HO.out HC3.out (fun g hg => by have := (HO.out.lt g hg).1; omega)
        have hz3 : w.heap.size + 1 < w3.heap.size := by omega
        have hk1b : (w3.alloc (.cells #[.int .i64 1, .string ⟨#[]⟩] 71)).heap[w.heap.size + 1]? = some (kO v vk) := (((Below.refl w3.heap.size w3).alloc (Nat.le_refl _) _).block _ hz3).trans hk1a
        have k0 : (w3.alloc (.cells #[.int .i64 1, .string ⟨#[]⟩] 71)).cell? ⟨w.heap.size + 1, 0, none⟩ = some v := by unfold World.cell?; rw [hk1b]; rfl
        have hO4 := hO3.alloc (.cells #[.int .i64 1, .string ⟨#[]⟩] 71)
        obtain ⟨iE, hI, hI0, hI1, hI2⟩ := info_parts infoEz
        have hil : (i + 1) * 40 ≤ 140737488355328 := by omega
        clear hR3 hE hO3
        go_wp2_with (at_builtin; refine wpList_append_own _ rfl (.tmp 61) (.tmp 65) 33 rfl (w.heap.size + 3) 73 iE (.agg #[.string ⟨#[]⟩, .int .i64 0, .string ⟨#[]⟩]) 3 40 Tryz.underlying33 hI hI0 hI1 hI2 rfl (by decide) _ _ _ rfl (hO4.alloc _) ⟨w3.heap.size + 1, 0, none⟩ 1 1 (En.cells ⟨x.path, 1, ⟨#[]⟩⟩) rfl rfl ?c1 ?c2 ?c3 ?c4 ?c5 ?_)
        case c1 =>
          rw [show w3.heap.size + 1 = (w3.alloc (.cells #[.int .i64 1, .string ⟨#[]⟩] 71)).heap.size by simp]
          exact En.cell_three_new (w3.alloc (.cells #[.int .i64 1, .string ⟨#[]⟩] 71)) _ _ _ _
        case c2 => exact En.cells_one _
        case c3 => unfold maxLen; omega
        case c4 => exact hil
        case c5 => simp; omega
        intro v' w5 ho5 hg5 hn5
        obtain ⟨a5, c5, rfl⟩ := row_form ho5
        clear hn5
        have hB4 := HBr.out
        have hne : ∀ b, b < w.heap.size + 3 → v.ownBlock ≠ some b := fun b hb e => by have := (hO4.lt b e).1; omega
        have hb4 : Below w3.heap.size w3 ((w3.alloc (.cells #[.int .i64 1, .string ⟨#[]⟩] 71)).alloc (.cells #[.string x.path, .int .i64 1, .string ⟨#[]⟩] 73)) := ((Below.refl _ _).alloc (Nat.le_refl _) _).alloc (by simp) _
        have hs4 := hb4.size
        have hold : ∀ b, b < w3.heap.size → v.ownBlock ≠ some b → w5.heap[b]? = w3.heap[b]? := fun b hb hn => (hg5.block b (by omega) (fun e => hn e.symm)).trans (hb4.block b hb)
        obtain ⟨s0, s1, s2, s3⟩ := kO_set0 ((hold _ hz3 (hne _ (by omega))).trans hk1a) (.slice a5 (i + 1) c5)
        have hs5 := hg5.size
        have hk3 : w3.ownsRow (w.heap.size + 3) 9 1 vk (files (t.take i)).length (((files (t.take i)).map κ).map sv) := row_chg HOK2.out HC3.out (by omega)
        have hk5 : w5.ownsRow (w.heap.size + 3) 9 1 vk (files (t.take i)).length (((files (t.take i)).map κ).map sv) := own_kept hk3 (fun g hg => hold g (hk3.lt g hg).2 (rows_ne hk3 (row_chg HO.out HC3.out (by omega)) hg))
        have hB3 : Below w.heap.size w w3 := HBr.out.trans (HC3.out.below HBr.out.size (fun b hb => by omega))
        have hB5 : Below w.heap.size w w5 := (Tx.below_call hB3 hb4).grown hg5 (by have := hB3.size; omega) (fun g hg => by have := (hO4.lt g hg).1; omega)
        have HF : Hid (files (t.take (i + 1)) = files (t.take i)) := Lib.hid (by rw [files_snoc HX.out, if_neg (by rw [hkd]; decide), List.append_nil])
        have HT : Hid ((t.take (i + 1)).flatMap En.cells = (t.take i).flatMap En.cells ++ En.cells ⟨x.path, ⟨1, ⟨#[]⟩⟩⟩) := Lib.hid (by
          obtain ⟨hil', ex⟩ := List.getElem?_eq_some_iff.1 HX.out
          rw [List.take_succ_eq_append_getElem hil', List.flatMap_append, ex]
          obtain ⟨xp, ⟨xk, xd⟩⟩ := x
          have e2 : xk = 1 := hkd
          have e3 : xd = ⟨#[]⟩ := hd
          subst e2 e3
          simp)
        have hR5 : Rat w5 (w.heap.size + 2) (La (rpL κ (t.drop (i + 1)))) := rat_kept HR3.out (hold _ (by omega) (hne _ (by omega)))
        have h05 : w5.heap[w.heap.size]? = some (kO (.slice none 0 0) (.slice none 0 0)) := (hold _ (by omega) (hne _ (by omega))).trans ((HC3.out.block _ (by omega) (by omega)).trans HK0.out)
        rw [← HT.out] at ho5
        rw [← HF.out] at hk5
        have hmes := fun (V : World) (hV : Rat V (w.heap.size + 2) (La (rpL κ (t.drop (i + 1))))) => rest_la hV
        have HALL : Hid (∃ (i' : Nat) (v'' vk' : Value), i' ≤ n ∧ Rat (w5.setCell ⟨w.heap.size + 1, 0, none⟩ (.slice a5 (i + 1) c5)) (w.heap.size + 2) (La (rpL κ (t.drop i'))) ∧ (w5.setCell ⟨w.heap.size + 1, 0, none⟩ (.slice a5 (i + 1) c5)).heap[w.heap.size + 1]? = some (kO v'' vk') ∧ (w5.setCell ⟨w.heap.size + 1, 0, none⟩ (.slice a5 (i + 1) c5)).heap[w.heap.size]? = some (kO (.slice none 0 0) (.slice none 0 0)) ∧ (w5.setCell ⟨w.heap.size + 1, 0, none⟩ (.slice a5 (i + 1) c5)).ownsRow (w.heap.size + 3) 73 3 v'' i' ((t.take i').flatMap En.cells) ∧ (w5.setCell ⟨w.heap.size + 1, 0, none⟩ (.slice a5 (i + 1) c5)).ownsRow (w.heap.size + 3) 9 1 vk' (files (t.take i')).length (((files (t.take i')).map κ).map sv) ∧ Below w.heap.size w (w5.setCell ⟨w.heap.size + 1, 0, none⟩ (.slice a5 (i + 1) c5))) := Lib.hid ⟨i + 1, (.slice a5 (i + 1) c5), vk, by omega, rat_kept hR5 (s3.block _ (rat_lt hR5) (by omega)), s2, (s3.block _ (by omega) (by omega)).trans h05, row_chg ho5 s3 (by omega), row_chg hk5 s3 (by omega), hB5.trans (s3.below hB5.size (fun b hb => by omega))⟩
        have HM : Hid (restN (w5.setCell ⟨w.heap.size + 1, 0, none⟩ (.slice a5 (i + 1) c5)) (w.heap.size + 2) < q) := Lib.hid (by
          rw [hmes _ (rat_kept hR5 (s3.block _ (rat_lt hR5) (by omega)))]
          exact HQL.out)
        clear hmes h05 hR5 hB5 hB3 hk5 hk3 s2 s3 hold hb4 hs4 hne hB4 hg5 ho5 hO4 hk1a hk1b k0
        go_wp2_with fail
        go_roundw
        case rel => exact HALL.out
        case measure => rw [HQ.out]; exact HM.out
      · rw [if_pos hkd, List.append_assoc] at hR3
        have e1 : kN x = 2 := by omega
        rw [e1]
        have hz3 : w.heap.size + 1 < w3.heap.size := by omega
        have hB3 : Below w.heap.size w w3 := HBr.out.trans (HC3.out.below HBr.out.size (fun b hb => by omega))
        have hB3a : Below w.heap.size w (w3.alloc (nO 2 ⟨#[]⟩)) := Tx.below_call hB3 ((Below.refl _ _).alloc (Nat.le_refl _) _)
        have hR3a := rat_alloc hR3 (nO 2 ⟨#[]⟩)
        have hLL : (tl (κ x.node.data) ++ (vb (sumN x.node.data) ++ rpL κ (t.drop (i + 1)))).length ≤ 100000000 := by
          have h2 := HL5.out
          rw [if_pos hkd] at h2
          simp only [List.length_append] at h2 ⊢
          omega
        have cc := content_any (ub := ub) hR3a hLL (HK.out x (List.mem_of_getElem? HX.out) hkd) hE.data (fun V hV => HG.out x (List.mem_of_getElem? HX.out) hkd V (hB3a.trans (hV.below hB3a.size (fun b hb => by omega))))
        have hzN : (w3.alloc (nO 2 ⟨#[]⟩)).heap[w3.heap.size]? = some (nO 2 ⟨#[]⟩) := new_at w3 (nO 2 ⟨#[]⟩) rfl
        have hk1a : (w3.alloc (nO 2 ⟨#[]⟩)).heap[w.heap.size + 1]? = some (kO v vk) := (((Below.refl w3.heap.size w3).alloc (Nat.le_refl _) _).block _ hz3).trans ((HC3.out.block _ (by omega) (by omega)).trans HK1.out)
        have hk0a : (w3.alloc (nO 2 ⟨#[]⟩)).heap[w.heap.size]? = some (kO (.slice none 0 0) (.slice none 0 0)) := (((Below.refl w3.heap.size w3).alloc (Nat.le_refl _) _).block _ (by omega)).trans ((HC3.out.block _ (by omega) (by omega)).trans HK0.out)
        have ho4 := (row_chg HO.out HC3.out (by omega)).alloc (nO 2 ⟨#[]⟩)
        have hk4 := (row_chg HOK2.out HC3.out (by omega)).alloc (nO 2 ⟨#[]⟩)
        have hs4 : (w3.alloc (nO 2 ⟨#[]⟩)).heap.size = w3.heap.size + 1 := by simp
        have HL4 := Lib.hid hLL
        clear hR3 hR3a hLL hpos hB3
        go_wp2_with fail
        go_at_call 112
        refine cc.mono ?_
        rintro e w5 ⟨rfl, hR5, hC5⟩
        have hs5 := hC5.size
        rw [hs4] at hs5
        have hzN5 := (hC5.block _ (by omega) (by omega)).trans hzN
        have hk15 := (hC5.block _ (by omega) (by omega)).trans hk1a
        have hk05 := (hC5.block _ (by omega) (by omega)).trans hk0a
        have ho5 := row_chg ho4 hC5 (by omega)
        have hk5 := row_chg hk4 hC5 (by omega)
        have hB5 : Below w.heap.size w w5 := hB3a.trans (hC5.below hB3a.size (fun b hb => by omega))
        clear cc hC5 hzN hk1a hk0a ho4 hk4 hB3a
        obtain ⟨z0, z1', z2, z3, z4⟩ := nO_set1 hzN5 x.node.data
        have hk16 := (z4.block _ (by omega) (by omega)).trans hk15
        have hk06 := (z4.block _ (by omega) (by omega)).trans hk05
        have ho6 := own_chg ho5 z4 (fun g hg e => by have := rows_not_node ho5 hzN5 hg; omega)
        have hk6 := own_chg hk5 z4 (fun g hg e => by have := texts_not_node hk5 hzN5 hg; omega)
        have hR6 : Rat (w5.setCell ⟨w3.heap.size, 1, none⟩ (.string x.node.data)) (w.heap.size + 2) (La (rpL κ (t.drop (i + 1)))) := rat_kept hR5 (z4.block _ (rat_lt hR5) (by omega))
        have hB6 : Below w.heap.size w (w5.setCell ⟨w3.heap.size, 1, none⟩ (.string x.node.data)) := hB5.trans (z4.below hB5.size (fun b hb => by omega))
        have hs6 : (w5.setCell ⟨w3.heap.size, 1, none⟩ (.string x.node.data)).heap.size = w5.heap.size := by simp [World.setCell]
        have hkc6 : (w5.setCell ⟨w3.heap.size, 1, none⟩ (.string x.node.data)).cell? ⟨w.heap.size + 1, 1, none⟩ = some vk := (kO_set1 hk16 vk).1
        obtain ⟨iS, hS, hS0, hS1, hS2⟩ := info_parts infoSz
        obtain ⟨av, cv, rfl⟩ := row_form ho5
        have hkl : (files (t.take i)).length ≤ 200 := by
          have h1 := Ac.files_len (t.take i)
          have h2 := List.length_take_le i t
          omega
        obtain ⟨mk, hmk⟩ : ∃ mk, mk = (files (t.take i)).length := ⟨_, rfl⟩
        rw [← hmk] at hk6 hk5 hkl
        have HMK := Lib.hid hmk
        have HZ4 := Lib.hid z3
        have HR6 := Lib.hid hR6
        have HK16 := Lib.hid hk16
        have HK06 := Lib.hid hk06
        have HO6 := Lib.hid ho6
        have HK6 := Lib.hid hk6
        have HB6 := Lib.hid hB6
        clear hk16 hk06 ho6 hB6 hR6 z3 z4 hk5 ho5 hB5 hR5 hk15 hk05 hmk
        go_wp2_with (at_builtin; refine wpList_append_own _ rfl (.tmp 55) (.tmp 57) 52 rfl (w.heap.size + 3) 9 iS (.string ⟨#[]⟩) 1 16 Tryz.underlying52 hS hS0 hS1 hS2 rfl (by decide) _ _ _ rfl (hk6.alloc _) ⟨w5.heap.size, 0, none⟩ 1 1 [sv (κ x.node.data)] rfl rfl ?d1 ?d2 ?d3 ?d4 ?d5 ?_)
        case d1 =>
          intro j u hu
          match j, hu with
          | 0, hu => simp at hu; subst hu; rw [WideShapes.add_plain, World.cell?_alloc_at _ _ _ _ hs6.symm]; simp [sv]
          | j + 1, hu => simp at hu
        case d2 => exact fun u hu => by simp at hu; subst hu; rfl
        case d3 => unfold maxLen; omega
        case d4 => omega
        case d5 => simp; omega
        intro vk' w7 hk7 hg7 hn7
        obtain ⟨a7, c7, rfl⟩ := row_form hk7
        clear hn7
        have hsA : ((w5.setCell ⟨w3.heap.size, 1, none⟩ (.string x.node.data)).alloc (.cells #[.string (κ x.node.data)] 9)).heap.size = w5.heap.size + 1 := by rw [← hs6]; simp
        have hs7 := hg7.size
        rw [hsA] at hs7
        have hnk : ∀ b, b < w.heap.size + 3 → vk.ownBlock ≠ some b := fun b hb e => by have := (HK6.out.lt b e).1; omega
        have hold7 : ∀ b, b < w5.heap.size → vk.ownBlock ≠ some b → w7.heap[b]? = (w5.setCell ⟨w3.heap.size, 1, none⟩ (.string x.node.data)).heap[b]? := fun b hb hn => (blk_grow hg7 (by omega) hn).trans (((Below.refl _ _).alloc (Nat.le_refl _) _).block b (by omega))
        obtain ⟨t0, t1, t2, t3⟩ := kO_set1 ((hold7 _ (by omega) (hnk _ (by omega))).trans HK16.out) (.slice a7 (mk + 1) c7)
        have hz7 := (hold7 w3.heap.size (by omega) (fun e => texts_not_node HK6.out HZ4.out e rfl)).trans HZ4.out
        have h07 := (hold7 _ (by omega) (hnk _ (by omega))).trans HK06.out
        have hR7 : Rat w7 (w.heap.size + 2) (La (rpL κ (t.drop (i + 1)))) := rat_kept HR6.out (hold7 _ (by omega) (hnk _ (by omega)))
        have ho7 := row_grow (HO6.out.alloc (.cells #[.string (κ x.node.data)] 9)) hg7 (fun g hg e => rows_ne HK6.out HO6.out e hg)
        have hB7 : Below w.heap.size w w7 := (HB6.out.alloc HB6.out.size _).grown hg7 (by omega) (fun g hg => by have := (HK6.out.lt g hg).1; omega)
        have hz8 := (t3.block _ (by omega) (by omega)).trans hz7
        have h08 := (t3.block _ (by omega) (by omega)).trans h07
        have hR8 := rat_kept hR7 (t3.block _ (rat_lt hR7) (by omega))
        have ho8 := row_chg ho7 t3 (by omega)
        have hk8 := row_chg hk7 t3 (by omega)
        have hB8 : Below w.heap.size w (w7.setCell ⟨w.heap.size + 1, 1, none⟩ (.slice a7 (mk + 1) c7)) := hB7.trans (t3.below hB7.size (fun b hb => by omega))
        have hs8 : (w7.setCell ⟨w.heap.size + 1, 1, none⟩ (.slice a7 (mk + 1) c7)).heap.size = w7.heap.size := by simp [World.setCell]
        obtain ⟨y0, _⟩ := kO_set0 t2 (.slice none 0 0)
        obtain ⟨y1, y2, _⟩ := nO_set1 hz8 ⟨#[]⟩
        have HT2 := Lib.hid t2
        have HZ8 := Lib.hid hz8
        have H08 := Lib.hid h08
        have HR8 := Lib.hid hR8
        have HO8 := Lib.hid ho8
        have HK8 := Lib.hid hk8
        have HB8 := Lib.hid hB8
        obtain ⟨iE, hI, hI0, hI1, hI2⟩ := info_parts infoEz
        have hil : (i + 1) * 40 ≤ 140737488355328 := by omega
        clear t2 t3 hz7 h07 hR7 ho7 hB7 hz8 h08 hR8 hk8 hB8 hold7 hg7 hk7
        go_wp2_with (at_builtin; refine wpList_append_own _ rfl (.tmp 61) (.tmp 65) 33 rfl (w.heap.size + 3) 73 iE (.agg #[.string ⟨#[]⟩, .int .i64 0, .string ⟨#[]⟩]) 3 40 Tryz.underlying33 hI hI0 hI1 hI2 rfl (by decide) _ _ _ rfl (ho8.alloc _) ⟨w7.heap.size, 0, none⟩ 1 1 (En.cells ⟨x.path, 2, x.node.data⟩) rfl rfl ?e1 ?e2 ?e3 ?e4 ?e5 ?_)
        case e1 =>
          rw [← hs8]
          exact En.cell_three_new _ _ _ _ _
        case e2 => exact En.cells_one _
        case e3 => unfold maxLen; omega
        case e4 => exact hil
        case e5 => simp; omega
        intro v' w9 ho9 hg9 hn9
        obtain ⟨a9, c9, rfl⟩ := row_form ho9
        clear hn9
        have hsB : ((w7.setCell ⟨w.heap.size + 1, 1, none⟩ (.slice a7 (mk + 1) c7)).alloc (.cells #[.string x.path, .int .i64 2, .string x.node.data] 73)).heap.size = w7.heap.size + 1 := by rw [← hs8]; simp
        have hs9 := hg9.size
        rw [hsB] at hs9
        have hnv : ∀ b, b < w.heap.size + 3 → (Value.slice av i cv).ownBlock ≠ some b := fun b hb e => by have := (HO8.out.lt b e).1; omega
        have hold9 : ∀ b, b < w7.heap.size → (Value.slice av i cv).ownBlock ≠ some b → w9.heap[b]? = (w7.setCell ⟨w.heap.size + 1, 1, none⟩ (.slice a7 (mk + 1) c7)).heap[b]? := fun b hb hn => (blk_grow hg9 (by omega) hn).trans (((Below.refl _ _).alloc (Nat.le_refl _) _).block b (by omega))
        obtain ⟨r0, r1, r2, r3⟩ := kO_set0 ((hold9 _ (by omega) (hnv _ (by omega))).trans HT2.out) (.slice a9 (i + 1) c9)
        have h09 := (hold9 _ (by omega) (hnv _ (by omega))).trans H08.out
        have hR9 : Rat w9 (w.heap.size + 2) (La (rpL κ (t.drop (i + 1)))) := rat_kept HR8.out (hold9 _ (by omega) (hnv _ (by omega)))
        have hk9 := row_grow (HK8.out.alloc (.cells #[.string x.path, .int .i64 2, .string x.node.data] 73)) hg9 (fun g hg => rows_ne HK8.out HO8.out hg)
        have hB9 : Below w.heap.size w w9 := (HB8.out.alloc HB8.out.size _).grown hg9 (by omega) (fun g hg => by have := (HO8.out.lt g hg).1; omega)
        have HF : Hid (files (t.take (i + 1)) = files (t.take i) ++ [x.node.data]) := Lib.hid (by rw [files_snoc HX.out, if_pos hkd])
        have HT : Hid ((t.take (i + 1)).flatMap En.cells = (t.take i).flatMap En.cells ++ En.cells ⟨x.path, ⟨2, x.node.data⟩⟩) := Lib.hid (by
          obtain ⟨hil', ex⟩ := List.getElem?_eq_some_iff.1 HX.out
          rw [List.take_succ_eq_append_getElem hil', List.flatMap_append, ex]
          obtain ⟨xp, ⟨xk, xd⟩⟩ := x
          have e2 : xk = 2 := hkd
          subst e2
          simp)
        rw [← HT.out] at ho9
        have hkk : ((files (t.take i)).map (sv ∘ κ) ++ [sv (κ x.node.data)]) = ((files (t.take (i + 1))).map κ).map sv := by rw [HF.out]; simp
        have hkn : mk + 1 = (files (t.take (i + 1))).length := by rw [HF.out, HMK.out, List.length_append]; rfl
        rw [hkk] at hk9
        rw [hkn] at hk9 r2
        have HALL : Hid (∃ (i' : Nat) (v'' vk' : Value), i' ≤ n ∧ Rat (w9.setCell ⟨w.heap.size + 1, 0, none⟩ (.slice a9 (i + 1) c9)) (w.heap.size + 2) (La (rpL κ (t.drop i'))) ∧ (w9.setCell ⟨w.heap.size + 1, 0, none⟩ (.slice a9 (i + 1) c9)).heap[w.heap.size + 1]? = some (kO v'' vk') ∧ (w9.setCell ⟨w.heap.size + 1, 0, none⟩ (.slice a9 (i + 1) c9)).heap[w.heap.size]? = some (kO (.slice none 0 0) (.slice none 0 0)) ∧ (w9.setCell ⟨w.heap.size + 1, 0, none⟩ (.slice a9 (i + 1) c9)).ownsRow (w.heap.size + 3) 73 3 v'' i' ((t.take i').flatMap En.cells) ∧ (w9.setCell ⟨w.heap.size + 1, 0, none⟩ (.slice a9 (i + 1) c9)).ownsRow (w.heap.size + 3) 9 1 vk' (files (t.take i')).length (((files (t.take i')).map κ).map sv) ∧ Below w.heap.size w (w9.setCell ⟨w.heap.size + 1, 0, none⟩ (.slice a9 (i + 1) c9))) := Lib.hid ⟨i + 1, _, _, by omega, rat_kept hR9 (r3.block _ (rat_lt hR9) (by omega)), r2, (r3.block _ (by omega) (by omega)).trans h09, row_chg ho9 r3 (by omega), row_chg hk9 r3 (by omega), hB9.trans (r3.below hB9.size (fun b hb => by omega))⟩
        have HM : Hid (restN (w9.setCell ⟨w.heap.size + 1, 0, none⟩ (.slice a9 (i + 1) c9)) (w.heap.size + 2) < q) := Lib.hid (by
          rw [rest_la (rat_kept hR9 (r3.block _ (rat_lt hR9) (by omega)))]
          exact HQL.out)
        clear hkk hkn hB9 hk9 hR9 h09 r2 r3 hold9 hnv hg9 ho9 ho8 hsB
        go_wp2_with fail
        go_roundw
        case rel => exact HALL.out
        case measure => rw [HQ.out]; exact HM.out
    · obtain rfl : i = n := by omega
      have eD : t.drop i = [] := List.drop_eq_nil_of_le (by rw [← HN.out]; exact Nat.le_refl _)
      have eT : t.take i = t := List.take_of_length_le (by rw [← HN.out]; exact Nat.le_refl _)
      rw [eD] at hR
      rw [eT] at ho hok
      have c0 := rd_left hR (by show 0 ≤ _; omega)
      have e0 : ((rpL κ ([] : List Et)).length : Int) = 0 := rfl
      rw [e0] at c0
      obtain ⟨a1, c1, rfl⟩ := row_form ho
      obtain ⟨a2, c2, rfl⟩ := row_form hok
      have f0 : wr.cell? ⟨w.heap.size + 1, 0, none⟩ = some (.slice a1 i c1) := (kO_set0 hk1 (.slice none 0 0)).1
      have f1 : wr.cell? ⟨w.heap.size + 1, 1, none⟩ = some (.slice a2 (files t).length c2) := (kO_set1 hk1 (.slice none 0 0)).1
      have hO : En.Own wr (w.heap.size + 3) (.slice a1 i c1) t := by unfold En.Own; rw [← HN.out]; exact ho
      have hTx : Texts wr (w.heap.size + 3) (.slice a2 (files t).length c2) ((files t).map κ) := by unfold Texts; rw [List.length_map]; exact hok
      have s2 := store2 (w1 := wr) (B := w.heap.size) (T := 80) (v0 := .slice none 0 0) (v1 := .slice none 0 0) hk0 (.slice a1 i c1) (.slice a2 (files t).length c2)
      obtain ⟨⟨s00, s01⟩, ⟨s10, s11⟩, s3, s4⟩ := s2
      have hB2 : Below w.heap.size w (((wr.setCell ⟨w.heap.size, 0, none⟩ (.slice a1 i c1)).setCell ⟨w.heap.size, 1, none⟩ (.slice a2 (files t).length c2))) := hB.trans (s4.below hB.size (fun b hb => by omega))
      have HOO := Lib.hid ((own_chg hO s4 (fun g hg => by have := (hO.lt g hg).1; omega)))
      have HTT := Lib.hid (own_chg hTx s4 (fun g hg => by have := (hTx.lt g hg).1; omega))
      have HB2 := Lib.hid hB2
      have HS3 := Lib.hid s3
      clear hO hTx hB2 s3 s4 hB ho hok hk0 hk1 hR
      go_wp2_with fail
      go_at_call 98
      refine c0.mono ?_
      rintro e w1 ⟨rfl, rfl⟩
      clear c0
      go_wp2_with fail
      refine bodyPost_ret (results_cell_row_tmp rfl _ _ _ _ _ _ _ rfl HS3.out Tryz.underlying80 rfl infoKp) rfl ?_
      refine ⟨_, _, rfl, ?_, own_less HTT.out (by omega), HB2.out⟩
      exact own_less HOO.out (by omega)
end Go.Proofs.YtdkgkomjbpggeaaGreatDoor.Az

namespace Go.Proofs.YtdkgkomjbpggeaaGreatDoor.Am
open Go.RowKit Tx
set_option linter.unusedVariables false
section
variable {P : Program}
theorem append_many (w : World) (base : Nat) (t ty e : TypeId) (i : TypeInfo) (z : Value) (size bytes : Nat) (ht : P.underlying t = some (.slice e)) (hi : P.info? e = some i) (hz : i.zero = some z)
    (hsize : i.size = size) (hby : i.bytes = bytes) (hzs : z.cells.size = size) (hsp : 0 < size) (hs16 : size ≤ 16)
    (v : Value) (n : Nat) (xs : List Value) (hown : w.ownsRow base e size v n xs)
    (a : Addr) (m c : Nat) (hm1 : 1 ≤ m) (us : List Value) (hul : us.length = m * size) (hnews : ∀ j x, us[j]? = some x → w.cell? (a.add j) = some x) (hone : ∀ x ∈ us, x.oneCell' = true)
    (hn : n + m ≤ 57646075230342348) (hbytes : (n + m) * bytes ≤ 140737488355328) (hbase : base ≤ w.heap.size) :
    ∃ v' w', (Builtin.append_ #[t, t] ty #[v, .slice (some a) m c]).run P w = .ok v' w' ∧ w'.ownsRow base e size v' (n + m) (xs ++ us) ∧
      ((v'.ownBlock = v.ownBlock ∧ w.grownBy w' v.ownBlock) ∨ (v'.ownBlock = some w.heap.size ∧ w.grownBy w' none)) := by
  have hlen : (xs ++ us).length = (n + m) * size := by rw [List.length_append, hown.1, hul, Nat.add_mul]
  have made : ∀ old, old < n + m → (w.drew.alloc (.cells (xs.toArray ++ us.toArray ++ Builtin.zeroCells z.cells (grownCap w (n + m) old e - (n + m))) e)).ownsRow base e size (.slice (some ⟨w.heap.size, 0, none⟩) (n + m) (grownCap w (n + m) old e)) (n + m) (xs ++ us) ∧
      w.grownBy (w.drew.alloc (.cells (xs.toArray ++ us.toArray ++ Builtin.zeroCells z.cells (grownCap w (n + m) old e - (n + m))) e)) none := by
    intro old _
    have hge := grownCap_ge w (n + m) old e
    have hcm := grownCap_le_maxLen w (n + m) old e (by unfold maxLen; omega)
    refine ⟨⟨hlen, .inr ⟨w.heap.size, _, _, rfl, hbase, heap_alloc_new w.drew _, hge, hcm, ?_, ?_⟩⟩, ⟨rfl, rfl, rfl, by simp, fun k hk _ => Below.heap_alloc w.drew _ k hk⟩⟩
    · have h0 := hown.1
      simp only [Array.size_append, List.size_toArray, size_zeroCells, hzs, hul]
      obtain ⟨d, hd⟩ : ∃ d, grownCap w (n + m) old e = n + m + d := ⟨grownCap w (n + m) old e - (n + m), by omega⟩
      rw [hd, h0, show n + m + d - (n + m) = d by omega, Nat.add_mul, Nat.add_mul]
    · simp only [Array.toList_append, List.append_assoc]
      rw [← List.append_assoc]
      exact List.take_left' hlen
  rcases hown.2 with ⟨rfl, rfl⟩ | ⟨g, cap, cur, rfl, hbg, hg, hnc, hcm, hcs, htake⟩
  · have hx : xs = [] := List.eq_nil_of_length_eq_zero (by simpa using hown.1)
    subst hx
    have hr := run_append_nil (P := P) w t ty e i z ht hi hz a m c us (by rw [hsize, hul]) hnews (by omega) (by omega) (by rw [hby]; have h2 := hbytes; simp only [Nat.zero_add] at h2; omega)
    have hm := made 0 (by omega)
    simp only [Nat.zero_add, List.nil_append, Array.empty_append] at hm ⊢
    exact ⟨_, _, hr, hm.1, .inr ⟨rfl, hm.2⟩⟩
  · by_cases hroom : n + m ≤ cap
    · have hle : (n + m) * size ≤ cap * size := Nat.mul_le_mul_right _ hroom
      have hfit : n * i.size + us.length ≤ cur.size := by rw [hsize, hcs, hul]; rw [Nat.add_mul] at hle; exact hle
      have hr := run_append_room (P := P) w t ty e i ht hi g n cap cur hg a m c us (by rw [hsize, hul]) hnews hone hroom hfit
      refine ⟨_, _, hr, ⟨hlen, .inr ⟨g, cap, _, rfl, hbg, setRow_heap w g cur _ e _ hg, hroom, hcm, ?_, ?_⟩⟩, .inl ⟨rfl, ⟨rfl, rfl, rfl, by simp, fun k _ hk => setRow_other w g k _ (fun e => hk (by simp [Value.ownBlock, e]))⟩⟩⟩
      · simp only [List.size_toArray, List.length_append, List.length_take, List.length_drop, Array.length_toList]
        omega
      · rw [hsize, htake]
        exact List.take_left' hlen
    · have hr := run_append_grow (P := P) w t ty e i z ht hi hz ⟨g, 0, none⟩ n cap xs (by rw [hsize]; exact hown.1) (hown.cells (g := g) rfl) a m c us (by rw [hsize, hul]) hnews (by omega) (by omega) (growslice_fits (by omega) (by rw [hby]; exact hbytes))
      have hm := made cap (by omega)
      exact ⟨_, _, hr, hm.1, .inr ⟨rfl, hm.2⟩⟩
end
theorem wpList_append_many {P : Program} (w : World) {ops : Array Oper} {rest : List Oper} {o : Oper} {a : Act} {Q : Exit → Act → World → Prop} (hgd : o.guard = none) (s x : Operand) (t : TypeId)
    (ho : o.op = .call { callee := .builtin .append, args := #[s, x], argTypes := #[t, t] })
    (base : Nat) (e : TypeId) (i : TypeInfo) (z : Value) (size bytes : Nat) (ht : P.underlying t = some (.slice e)) (hi : P.info? e = some i) (hz : i.zero = some z)
    (hsize : i.size = size) (hby : i.bytes = bytes) (hzs : z.cells.size = size) (hsp : 0 < size) (hs16 : size ≤ 16)
    (v : Value) (n : Nat) (xs : List Value) (hs : a.eval s = v) (hown : w.ownsRow base e size v n xs)
    (ad : Addr) (m c : Nat) (hm1 : 1 ≤ m) (us : List Value) (hx : a.eval x = .slice (some ad) m c) (hul : us.length = m * size) (hnews : ∀ j x, us[j]? = some x → w.cell? (ad.add j) = some x) (hone : ∀ x ∈ us, x.oneCell' = true)
    (hn : n + m ≤ 57646075230342348) (hbytes : (n + m) * bytes ≤ 140737488355328) (hbase : base ≤ w.heap.size)
    (h : ∀ v' w', w'.ownsRow base e size v' (n + m) (xs ++ us) → ((v'.ownBlock = v.ownBlock ∧ w.grownBy w' v.ownBlock) ∨ (v'.ownBlock = some w.heap.size ∧ w.grownBy w' none)) → wpList P ops Q rest (a.put o.dst v') w') :
    wpList P ops Q (o :: rest) a w := by
  refine wpList_plain hgd fun K hK => ?_
  obtain ⟨v', w', hr, h2, h3⟩ := append_many (P := P) w base t o.type e i z size bytes ht hi hz hsize hby hzs hsp hs16 v n xs hown ad m c hm1 us hul hnews hone hn hbytes hbase
  unfold Oper.wp execOp
  simp only [ho, resolve, invoke, builtin, Sem.run_bind, Sem.run_pure, Result.andThen_ok, List.map_toArray, List.map_cons, List.map_nil, hs, hx, hr]
  exact hK _ _ (h v' w' h2 h3)
end Go.Proofs.YtdkgkomjbpggeaaGreatDoor.Am

namespace Go.Proofs.YtdkgkomjbpggeaaGreatDoor.Az
open Go.RowKit Go.ChangeShapes Go.WideShapes Tx Pm Dk Wm Wr Wl Pl Tb Bl Fm
open Fr hiding sv Texts cnt cnt_snoc
open En (Et tcheck Ents)
open Ac (files)
set_option linter.unusedVariables false
set_option linter.unusedSimpArgs false
set_option linter.unnecessarySimpa false
theorem infoSt : (Tryz.prog.info? 9).map (fun i => (i.zero, i.size, i.bytes)) = some (some (.string ⟨#[]⟩), 1, 16) := by kernel_rfl
theorem row_ne {V : World} {B n g z : Nat} {v : Value} {xs : List Value} {cs : Array Value} {fr : Nat × Nat} (h : V.ownsRow B 9 1 v n xs) (hz : V.heap[z]? = some (.cells cs 73 fr)) (hg : v.ownBlock = some g) : g ≠ z := by
  rintro rfl
  rcases h.2 with ⟨rfl, _⟩ | ⟨g', cap, cur, rfl, _, hh, _⟩
  · cases hg
  · injection hg with hg
    subst hg
    rw [hz] at hh
    injection hh with hh
    injection hh with _ h2
    exact absurd h2 (by decide)
def entO (p : ByteArray) (k : Int) (d : ByteArray) : Obj := .cells #[.string p, .int .i64 k, .string d] 73 (0, 0)
theorem ent_cells {V : World} {z : Nat} {p d : ByteArray} {k : Int} (h : V.heap[z]? = some (entO p k d)) : CellsE z p k d V := by
  refine ⟨?_, ?_, ?_⟩ <;> (unfold World.cell?; rw [h]; rfl)
theorem Bq.row {w0 : World × (Nat → Prop)} {V V' : World} {d j t m u M N B n : Nat} {x : Tst} {C : List On} {Z : List It} {Q Q' : Nat → Prop} {v v' : Value} {xs : List Value} (h : Bq d j t m u x Z w0 C M N Q V) (ho : V'.ownsRow B 9 1 v' n xs)
    (hg : (v'.ownBlock = v.ownBlock ∧ V.grownBy V' v.ownBlock) ∨ (v'.ownBlock = some V.heap.size ∧ V.grownBy V' none)) (hQ : ∀ g, v.ownBlock = some g → Q g) (hQ' : ∀ g, Q' g → Q g ∨ v'.ownBlock = some g) : Bq d j t m u x Z w0 C M N Q' V' := by
  have hc : Chg Q V V' := by
    rcases hg with ⟨_, g⟩ | ⟨_, g⟩
    · exact ⟨g.os, g.tape, g.output, g.size, fun i hi hn => g.block i hi (fun e => hn (hQ i e.symm))⟩
    · exact ⟨g.os, g.tape, g.output, g.size, fun i hi hn => g.block i hi (by simp)⟩
  refine h.go hc (fun i hi => ?_)
  rcases hQ' i hi with hh | hh
  · exact .inl hh
  · rcases hg with ⟨e, _⟩ | ⟨e, _⟩
    · exact .inl (hQ i (by rw [← e]; exact hh))
    · rw [e] at hh
      injection hh with hh
      have := (ho.lt i (by rw [e, hh])).2
      exact .inr ⟨by omega, this⟩
theorem ent_row {V V' : World} {z B n : Nat} {p d : ByteArray} {k : Int} {v v' : Value} {xs : List Value} (hz : V.heap[z]? = some (entO p k d)) (h : V.ownsRow B 9 1 v n xs) (hg : (v'.ownBlock = v.ownBlock ∧ V.grownBy V' v.ownBlock) ∨ (v'.ownBlock = some V.heap.size ∧ V.grownBy V' none)) : V'.heap[z]? = some (entO p k d) := by
  have hl := (Array.getElem?_eq_some_iff.1 hz).1
  rcases hg with ⟨_, g⟩ | ⟨_, g⟩
  · exact (g.block z hl (fun e => row_ne h hz e.symm rfl)).trans hz
  · exact (g.block z hl (by simp)).trans hz
structure Rb (d j t m u : Nat) (x : Tst) (Z : List It) (w0 : World × (Nat → Prop)) (C : List On) (M N : Nat) (v : Value) (z : Nat) (p dd : ByteArray) (B k : Nat) (xs : List Value) (V : World) : Prop where
  q : Bq d j t m u x Z w0 C M N (fun g => v.ownBlock = some g ∨ g = z) V
  ent : V.heap[z]? = some (entO p 2 dd)
  row : V.ownsRow B 9 1 v k xs
  le : B ≤ V.heap.size
section
variable {w0 : World × (Nat → Prop)} {d j t m u M N z B k : Nat} {x : Tst} {C : List On} {Z : List It} {v : Value} {p dd : ByteArray} {xs : List Value} {V V' : World}
theorem Rb.below (h : Rb d j t m u x Z w0 C M N v z p dd B k xs V) (hb : Below V.heap.size V V') : Rb d j t m u x Z w0 C M N v z p dd B k xs V' :=
  ⟨h.q.below hb, (hb.block z (Array.getElem?_eq_some_iff.1 h.ent).1).trans h.ent, own_kept h.row (fun g hg => hb.block g (h.row.lt g hg).2), Nat.le_trans h.le hb.size⟩
theorem Rb.cells (h : Rb d j t m u x Z w0 C M N v z p dd B k xs V) : CellsE z p 2 dd V := ent_cells h.ent
theorem Rb.app {s1 s2 : ByteArray} (h : Rb d j t m u x Z w0 C M N v z p dd B k xs V) (hk : (k + 2) * 16 ≤ 140737488355328) (ty : TypeId) : ∃ v8 w8, (Builtin.append_ #[52, 52] ty #[v, .slice (some ⟨V.heap.size, 0, none⟩) 2 2]).run Tryz.prog (V.alloc (.cells #[.string s1, .string s2] 9)) = .ok v8 w8 ∧ CellsE z p 2 dd w8 ∧ Bq d j t m u x Z w0 C M N (fun g => v8.ownBlock = some g) w8 ∧ w8.ownsRow B 9 1 v8 (k + 2) (xs ++ [sv s1, sv s2]) ∧ B ≤ w8.heap.size := by
  obtain ⟨i0, h1, h2, h3, h4⟩ := info_parts infoSt
  have ha := h.below ((Below.refl V.heap.size V).alloc (Nat.le_refl _) (.cells #[.string s1, .string s2] 9))
  obtain ⟨v8, w8, r1, r2, r3⟩ := Am.append_many (P := Tryz.prog) (V.alloc (.cells #[.string s1, .string s2] 9)) B 52 ty 9 i0 (.string ⟨#[]⟩) 1 16 Tryz.underlying52 h1 h2 h3 h4 rfl (by decide) (by decide) v k xs ha.row ⟨V.heap.size, 0, none⟩ 2 2 (by decide) [sv s1, sv s2] rfl (fun q v hv => by
    rw [WideShapes.add_plain, World.cell?_alloc_at _ _ _ _ rfl]
    match q, hv with
    | 0, hv => simpa [sv] using hv
    | 1, hv => simpa [sv] using hv
    | q + 2, hv => simp at hv) (fun v hv => by simp at hv; rcases hv with rfl | rfl <;> rfl) (by omega) hk ha.le
  refine ⟨v8, w8, r1, ent_cells (ent_row ha.ent ha.row r3), ha.q.row r2 r3 (fun g hg => .inl hg) (fun g hg => .inr hg), r2, ?_⟩
  have hl := ha.le
  rcases r3 with ⟨_, g⟩ | ⟨_, g⟩
  · have := g.size; omega
  · have := g.size; omega
end
theorem putKey_size {C : List On} {M : Nat} (hg : Good8 C M) (hM : M ≤ 10000000) {dd : ByteArray} (hd : dd.size ≤ 140737488351232) : (putC C dd).2.size ≤ 14 := by
  have h2 := good_put hg hd
  have hh : (of8 (putC C dd).1 dd).isSome = true := by rw [put_has hg]; simp
  obtain ⟨y, hy, _, e, _⟩ := of8_mem hh
  rw [put_key hg, e]
  exact keyO_size h2 (by omega) hy
set_option maxRecDepth 100000 in
set_option maxHeartbeats 8000000 in
theorem record_any {w0 : World × (Nat → Prop)} {W : World} {d j t m u M N : Nat} {x : Tst} {C : List On} {Z : List It} (a : Option Addr) (n c : Nat) (l : List Et) (h : Bz d j t m u x Z w0 C M N W) (hx : Xk x) (hT : TabZ w0) (hM : M + 200 ≤ 10000000) (hN : N + 200 ≤ 10000000)
    (he : ∀ V, Chg w0.2 w0.1 V → Ents V a n l) (hnc : n ≤ c) (hn2 : n ≤ 200) (hok : ∀ y ∈ l, Eok y) (hbk : Ac.bk l ≤ 10000000) :
    Calls Tryz.prog 35 #[.pointer (some ⟨u, 0, none⟩), .slice a n c] W fun e w' => e = .returned (.string (cat (rpP (keyD (putsC C (files l))) l))) ∧ Bz d j t m u x Z w0 (putsC C (files l)) (M + (files l).length) (N + (files l).length) w' := by
  have hln := (he W h.chg).1
  have HE := Lib.hid he
  have HT := Lib.hid hT
  have HOK := Lib.hid hok
  have HX := Lib.hid hx
  have HLN := Lib.hid hln
  have HG := Lib.hid h.good
  have hB0 := h.chg.size
  have hq0 := bq_first h
  have HBK := Lib.hid hbk
  clear he hT hok hx h hln hbk
  go_enter Tryz.func35, Tryz.ntmps35
  go_wp2_with fail
  go_loopw [5, 12] (fun vp iv wr => ∃ (i k : Nat), i ≤ n ∧ iv = .int .i64 i ∧ Bq d j t m u x Z w0 (putsC C (files (l.take i))) (M + (files (l.take i)).length) (N + (files (l.take i)).length) (fun g => vp.ownBlock = some g) wr ∧ Hid (k = (rpP (keyD (putsC C (files (l.take i)))) (l.take i)).length) ∧ k ≤ i * 4 ∧ wr.ownsRow W.heap.size 9 1 vp k ((rpP (keyD (putsC C (files (l.take i)))) (l.take i)).map sv) ∧ W.heap.size ≤ wr.heap.size) (fun _ iv _ => n - (intOf iv).toNat)
  case atStart => exact ⟨0, 0, Nat.zero_le _, rfl, hq0.go (Chg.refl _ _) (fun i hi => by cases hi), rfl, Nat.zero_le _, World.ownsRow_nil _ _ _ _, Nat.le_refl _⟩
  case round =>
    clear hq0
    obtain ⟨i, k, hi, rfl, hq, hk, hk4, hrow, hsz⟩ := hrel
    by_cases hlt : i < n
    · obtain ⟨y, hy⟩ : ∃ y, l[i]? = some y := ⟨_, List.getElem?_eq_getElem (by rw [HLN.out]; exact hlt)⟩
      have hEn := HE.out wr hq.chg
      rcases hEn.2 with h0 | ⟨b, off, rfl, hb, hc⟩
      · omega
      obtain ⟨c0, e1, c2⟩ := hc i y hy
      have hyE := HOK.out y (List.mem_of_getElem? hy)
      have hiz : (i : Int) < (n : Int) := by omega
      clear hc
      rcases hyE.kind with hkd | hkd
      · have HND := Lib.hid (hyE.dir hkd)
        have hkd1 : kN y = 1 := by have := hyE.kn.1; rw [hkd] at this; omega
        have c1 : wr.cell? ⟨b, off + i * 3 + 1, none⟩ = some (.int .i64 1) := by rw [e1, hkd]
        have cu := fun V => putUint_any 1 V (by omega) (by omega)
        have eus : us 1 = vs 1 := by unfold us; rw [if_neg (by decide)]; rfl
        have eue : ue 1 = 0 := by unfold ue; rw [if_neg (by decide)]
        rw [eus, eue] at cu
        have ct := fun V => putText_any y.path V (by have := hyE.path; omega)
        have HY := Lib.hid hy
        have HYE := Lib.hid hyE
        have HKD := Lib.hid hkd
        have HK1 := Lib.hid hkd1
        have hz1 : (wr.alloc (entO y.path 1 y.node.data)).heap[wr.heap.size]? = some (entO y.path 1 y.node.data) := new_at wr (entO y.path 1 y.node.data) rfl
        have hbA := (Below.refl wr.heap.size wr).alloc (Nat.le_refl _) (entO y.path 1 y.node.data)
        have hq1 : Bq d j t m u x Z w0 (putsC C (files (l.take i))) (M + (files (l.take i)).length) (N + (files (l.take i)).length) (fun g => u5.ownBlock = some g ∨ g = wr.heap.size) (wr.alloc (entO y.path 1 y.node.data)) := hq.go (Chg.of_below hbA) (fun g hg => hg.elim .inl (fun e => .inr (by simp [e])))
        have hr1 := hrow.alloc (entO y.path 1 y.node.data)
        obtain ⟨z0, z1', z2⟩ := ent_cells hz1
        have HZ1 := Lib.hid hz1
        have HQ1 := Lib.hid hq1
        have HR1 := Lib.hid hr1
        have HS1 := Lib.hid (show W.heap.size ≤ (wr.alloc (entO y.path 1 y.node.data)).heap.size by simp; omega)
        unfold entO at z0 z1' z2
        clear hq hrow hz1 hbA hq1 hr1 hy hyE hkd hkd1 e1 eus eue hEn
        go_wp2_with fail
        go_at_call 72
        refine (cu _).mono ?_
        rintro e w2 ⟨rfl, hb2⟩
        have HZ2 := Lib.hid ((hb2.block _ (Array.getElem?_eq_some_iff.1 HZ1.out).1).trans HZ1.out)
        have HQ2 := Lib.hid (HQ1.out.below hb2)
        have HR2 := Lib.hid (own_kept HR1.out (fun g hg => hb2.block g (HR1.out.lt g hg).2))
        have HS2 := Lib.hid (Nat.le_trans HS1.out hb2.size)
        obtain ⟨z20, z21, z22⟩ := ent_cells HZ2.out
        clear hb2 cu
        go_wp2_with fail
        go_at_call 70
        refine (ct _).mono ?_
        rintro e w3 ⟨rfl, hb3⟩
        have HZ3 := Lib.hid ((hb3.block _ (Array.getElem?_eq_some_iff.1 HZ2.out).1).trans HZ2.out)
        have HQ3 := Lib.hid (HQ2.out.below hb3)
        have hr3 := own_kept HR2.out (fun g hg => hb3.block g (HR2.out.lt g hg).2)
        have HS3 := Lib.hid (Nat.le_trans HS2.out hb3.size)
        have hs3 := HS3.out
        obtain ⟨iS, hS, hS0, hS1, hS2⟩ := info_parts infoSt
        have hk8 : (k + 2) * 16 ≤ 140737488355328 := by omega
        clear hb3 ct z20 z21 z22 z0 z1' z2
        go_wp2_with (at_builtin; refine Am.wpList_append_many _ rfl (.tmp 23) (.tmp 28) 52 rfl W.heap.size 9 iS (.string ⟨#[]⟩) 1 16 Tryz.underlying52 hS hS0 hS1 hS2 rfl (by decide) (by decide) _ _ _ rfl (hr3.alloc _) ⟨w3.heap.size, 0, none⟩ 2 2 (by decide) [sv (ts y.path), sv (vs 1)] rfl rfl ?c1 ?c2 ?c3 ?c4 ?c5 ?_)
        case c1 =>
          intro q v hv
          rw [WideShapes.add_plain, World.cell?_alloc_at _ _ _ _ rfl]
          match q, hv with
          | 0, hv => simpa [sv] using hv
          | 1, hv => simpa [sv] using hv
          | q + 2, hv => simp at hv
        case c2 => exact fun v hv => by simp at hv; rcases hv with rfl | rfl <;> rfl
        case c3 => omega
        case c4 => exact hk8
        case c5 => simp; omega
        intro v5 w5 hr5 hg5
        obtain ⟨a5, c5, rfl⟩ := row_form hr5
        rw [show w3.heap.size + 1 = (w3.alloc (.cells #[.string (ts y.path), .string (vs 1)] 9)).heap.size by simp] at hg5
        have hbB := (Below.refl w3.heap.size w3).alloc (Nat.le_refl _) (.cells #[.string (ts y.path), .string (vs 1)] 9)
        have hr3b := hr3.alloc (.cells #[.string (ts y.path), .string (vs 1)] 9)
        have hq5 : Bq d j t m u x Z w0 (putsC C (files (l.take i))) (M + (files (l.take i)).length) (N + (files (l.take i)).length) (fun g => (Value.slice a5 (k + 2) c5).ownBlock = some g ∨ g = wr.heap.size) w5 := (HQ3.out.below hbB).row hr5 hg5 (fun g hg => .inl hg) (fun g hg => hg.elim .inr (fun e => .inl (.inr e)))
        have hz5 := ent_row ((hbB.block _ (Array.getElem?_eq_some_iff.1 HZ3.out).1).trans HZ3.out) hr3b hg5
        obtain ⟨y0, y1, y2⟩ := ent_cells hz5
        have HF : Hid (files (l.take (i + 1)) = files (l.take i)) := Lib.hid (by rw [files_snoc HY.out, if_neg (by rw [HKD.out]; decide), List.append_nil])
        have HP : Hid (rpP (keyD (putsC C (files (l.take (i + 1))))) (l.take (i + 1)) = rpP (keyD (putsC C (files (l.take i)))) (l.take i) ++ [ts y.path, vs 1]) := Lib.hid (by
          rw [HF.out, rpP_snoc _ HY.out]
          congr 1
          unfold partsE
          rw [if_neg (by rw [HKD.out]; decide), HK1.out]
          rfl)
        have hs5 : W.heap.size ≤ w5.heap.size := by
          have h1 := hq5.chg.size
          rcases hg5 with ⟨_, g⟩ | ⟨_, g⟩
          · have := g.size; have := hbB.size; omega
          · have := g.size; have := hbB.size; omega
        have hr5b : w5.ownsRow W.heap.size 9 1 (.slice a5 (k + 2) c5) (k + 2) ((rpP (keyD (putsC C (files (l.take (i + 1))))) (l.take (i + 1))).map sv) := by rw [HP.out, List.map_append]; exact hr5
        have hq5b : Bq d j t m u x Z w0 (putsC C (files (l.take (i + 1)))) (M + (files (l.take (i + 1))).length) (N + (files (l.take (i + 1))).length) (fun g => (Value.slice a5 (k + 2) c5).ownBlock = some g) w5 := by rw [HF.out]; exact hq5.go (Chg.refl _ _) (fun g hg => .inl (.inl hg))
        have HK5 : Hid (k + 2 = (rpP (keyD (putsC C (files (l.take (i + 1))))) (l.take (i + 1))).length) := Lib.hid (by rw [HP.out, List.length_append, ← hk.out]; rfl)
        clear hq5 hz5 hr5 hg5 hbB hr3b hr3 y2
        go_wp2_with fail
        go_roundw
        case rel => exact ⟨i + 1, k + 2, by omega, by go_num, hq5b, HK5, by omega, hr5b, hs5⟩
        case measure => simp [intOf]; omega
      · skip
        have hkd1 : kN y = 2 := by have := hyE.kn.1; rw [hkd] at this; omega
        have c1 : wr.cell? ⟨b, off + i * 3 + 1, none⟩ = some (.int .i64 2) := by rw [e1, hkd]
        have cu := fun V => putUint_any 2 V (by omega) (by omega)
        have eus : us 2 = vs 2 := by unfold us; rw [if_neg (by decide)]; rfl
        have eue : ue 2 = 0 := by unfold ue; rw [if_neg (by decide)]
        rw [eus, eue] at cu
        have ct := fun V => putText_any y.path V (by have := hyE.path; omega)
        have HY := Lib.hid hy
        have HYE := Lib.hid hyE
        have HKD := Lib.hid hkd
        have HK1 := Lib.hid hkd1
        have hz1 : (wr.alloc (entO y.path 2 y.node.data)).heap[wr.heap.size]? = some (entO y.path 2 y.node.data) := new_at wr (entO y.path 2 y.node.data) rfl
        have hbA := (Below.refl wr.heap.size wr).alloc (Nat.le_refl _) (entO y.path 2 y.node.data)
        have hq1 : Bq d j t m u x Z w0 (putsC C (files (l.take i))) (M + (files (l.take i)).length) (N + (files (l.take i)).length) (fun g => u5.ownBlock = some g ∨ g = wr.heap.size) (wr.alloc (entO y.path 2 y.node.data)) := hq.go (Chg.of_below hbA) (fun g hg => hg.elim .inl (fun e => .inr (by simp [e])))
        have hr1 := hrow.alloc (entO y.path 2 y.node.data)
        obtain ⟨z0, z1', z2⟩ := ent_cells hz1
        have HZ1 := Lib.hid hz1
        have HQ1 := Lib.hid hq1
        have HR1 := Lib.hid hr1
        have HS1 := Lib.hid (show W.heap.size ≤ (wr.alloc (entO y.path 2 y.node.data)).heap.size by simp; omega)
        unfold entO at z0 z1' z2
        clear hq hrow hz1 hbA hq1 hr1 hy hyE hkd hkd1 e1 eus eue hEn
        go_wp2_with fail
        go_at_call 72
        refine (cu _).mono ?_
        rintro e w2 ⟨rfl, hb2⟩
        have HZ2 := Lib.hid ((hb2.block _ (Array.getElem?_eq_some_iff.1 HZ1.out).1).trans HZ1.out)
        have HQ2 := Lib.hid (HQ1.out.below hb2)
        have HR2 := Lib.hid (own_kept HR1.out (fun g hg => hb2.block g (HR1.out.lt g hg).2))
        have HS2 := Lib.hid (Nat.le_trans HS1.out hb2.size)
        obtain ⟨z20, z21, z22⟩ := ent_cells HZ2.out
        clear hb2 cu
        go_wp2_with fail
        go_at_call 70
        refine (ct _).mono ?_
        rintro e w3 ⟨rfl, hb3⟩
        have HZ3 := Lib.hid ((hb3.block _ (Array.getElem?_eq_some_iff.1 HZ2.out).1).trans HZ2.out)
        have HQ3 := Lib.hid (HQ2.out.below hb3)
        have hr3 := own_kept HR2.out (fun g hg => hb3.block g (HR2.out.lt g hg).2)
        have HS3 := Lib.hid (Nat.le_trans HS2.out hb3.size)
        have hs3 := HS3.out
        obtain ⟨iS, hS, hS0, hS1, hS2⟩ := info_parts infoSt
        have hk8 : (k + 2) * 16 ≤ 140737488355328 := by omega
        clear hb3 ct z20 z21 z22 z0 z1' z2
        go_wp2_with (at_builtin; refine Am.wpList_append_many _ rfl (.tmp 23) (.tmp 28) 52 rfl W.heap.size 9 iS (.string ⟨#[]⟩) 1 16 Tryz.underlying52 hS hS0 hS1 hS2 rfl (by decide) (by decide) _ _ _ rfl (hr3.alloc _) ⟨w3.heap.size, 0, none⟩ 2 2 (by decide) [sv (ts y.path), sv (vs 2)] rfl rfl ?c1 ?c2 ?c3 ?c4 ?c5 ?_)
        case c1 =>
          intro q v hv
          rw [WideShapes.add_plain, World.cell?_alloc_at _ _ _ _ rfl]
          match q, hv with
          | 0, hv => simpa [sv] using hv
          | 1, hv => simpa [sv] using hv
          | q + 2, hv => simp at hv
        case c2 => exact fun v hv => by simp at hv; rcases hv with rfl | rfl <;> rfl
        case c3 => omega
        case c4 => exact hk8
        case c5 => simp; omega
        intro v5 w5 hr5 hg5
        obtain ⟨a5, c5, rfl⟩ := row_form hr5
        rw [show w3.heap.size + 1 = (w3.alloc (.cells #[.string (ts y.path), .string (vs 2)] 9)).heap.size by simp] at hg5
        have hbB := (Below.refl w3.heap.size w3).alloc (Nat.le_refl _) (.cells #[.string (ts y.path), .string (vs 2)] 9)
        have hr3b := hr3.alloc (.cells #[.string (ts y.path), .string (vs 2)] 9)
        have hq5 : Bq d j t m u x Z w0 (putsC C (files (l.take i))) (M + (files (l.take i)).length) (N + (files (l.take i)).length) (fun g => (Value.slice a5 (k + 2) c5).ownBlock = some g ∨ g = wr.heap.size) w5 := (HQ3.out.below hbB).row hr5 hg5 (fun g hg => .inl hg) (fun g hg => hg.elim .inr (fun e => .inl (.inr e)))
        have hz5 := ent_row ((hbB.block _ (Array.getElem?_eq_some_iff.1 HZ3.out).1).trans HZ3.out) hr3b hg5
        have hcz5 := ent_cells hz5
        obtain ⟨y0, y1, y2⟩ := hcz5
        have HQ5 := Lib.hid hq5
        have HZ5 := Lib.hid hz5
        have HR5 := Lib.hid hr5
        have HG5 := Lib.hid hg5
        have HBB := Lib.hid hbB
        clear hq5 hz5 hr5 hg5 hbB hr3b hr3
        go_wp2_with fail
        have hq5 := HQ5.out
        have hz5 := HZ5.out
        have hr5 := HR5.out
        have hg5 := HG5.out
        have hbB := HBB.out
        have hfl : (files (l.take i)).length ≤ 200 := by
          have h1 := Ac.files_len (l.take i)
          have h2 := List.length_take_le i l
          omega
        have hgi := putsC_good HG.out (files (l.take i)) (fun e he => by
          obtain ⟨z, hz, _, rfl⟩ := mem_files.1 he
          have := (HOK.out z (List.mem_of_mem_take hz)).data
          omega)
        have HF : Hid (files (l.take (i + 1)) = files (l.take i) ++ [y.node.data]) := Lib.hid (by rw [files_snoc HY.out, if_pos HKD.out])
        have HC2 : Hid (putsC C (files (l.take (i + 1))) = (putC (putsC C (files (l.take i))) y.node.data).1) := Lib.hid (by rw [HF.out, putsC_snoc])
        have hsize5 : W.heap.size ≤ w5.heap.size := by
          rcases hg5 with ⟨_, g⟩ | ⟨_, g⟩
          · have := g.size; have := hbB.size; omega
          · have := g.size; have := hbB.size; omega
        have HP : Hid (rpP (keyD (putsC C (files (l.take (i + 1))))) (l.take (i + 1)) = (rpP (keyD (putsC C (files (l.take i)))) (l.take i) ++ [ts y.path, vs 2]) ++ [ts (putC (putsC C (files (l.take i))) y.node.data).2, vs (sumN y.node.data)]) := Lib.hid (by
          rw [rpP_snoc _ HY.out]
          have e1 : partsE (keyD (putsC C (files (l.take (i + 1))))) y = [ts y.path, vs 2] ++ [ts (putC (putsC C (files (l.take i))) y.node.data).2, vs (sumN y.node.data)] := by
            unfold partsE
            rw [if_pos HKD.out, HK1.out, HC2.out, ← put_key hgi]
          rw [e1, ← List.append_assoc]
          congr 2
          refine (val16_congr (fun z hz hzk => ?_)).1
          rw [HC2.out]
          refine put_keyD hgi _ ?_
          rw [has_ref hgi, (putsC_ref HG.out (files (l.take i)) (fun e he => by
            obtain ⟨z, hz, _, rfl⟩ := mem_files.1 he
            have := (HOK.out z (List.mem_of_mem_take hz)).data
            omega) z.node.data).1]
          have := cnt_pos.2 (mem_files.2 ⟨z, hz, hzk, rfl⟩)
          omega)
        obtain ⟨Ci, hCi⟩ : ∃ Ci, Ci = putsC C (files (l.take i)) := ⟨_, rfl⟩
        obtain ⟨Mi, hMi⟩ : ∃ Mi, Mi = (files (l.take i)).length := ⟨_, rfl⟩
        rw [← hCi, ← hMi] at hq5
        rw [← hMi] at hfl
        obtain ⟨z, hz⟩ : ∃ z, z = wr.heap.size := ⟨_, rfl⟩
        rw [← hz] at hq5 hz5 ⊢
        obtain ⟨xs5, hxs5⟩ : ∃ xs5, xs5 = (rpP (keyD (putsC C (files (l.take i)))) (l.take i)).map sv ++ [sv (ts y.path), sv (vs 2)] := ⟨_, rfl⟩
        rw [← hxs5] at hr5
        have hA := (hq5.below ((Below.refl _ w5).drew)).call HT.out (fun F hF hTF hBz => bzput (d := y.node.data) hBz HX.out (by omega) (by omega) (by have := HYE.out.data; omega) hTF)
        have hA2 : Calls Tryz.prog 73 #[.pointer (some ⟨u, 0, none⟩), .string y.node.data] w5.drew fun e w' => e = .returned (.string (putC Ci y.node.data).2) ∧ Rb d j t m u x Z w0 (putC Ci y.node.data).1 (M + Mi + 1) (N + Mi + 1) (.slice a5 (k + 2) c5) z y.path y.node.data W.heap.size (k + 2) xs5 w' := hA.mono fun e w' ⟨h1, h2, h3, h4⟩ => ⟨h1, h2, (h3 z (.inr rfl)).trans hz5, own_kept hr5 (fun g hg => h3 g (.inl hg)), Nat.le_trans hsize5 h4⟩
        have hk1s : (putC Ci y.node.data).2.size ≤ 14 := by
          rw [hCi]
          exact putKey_size hgi (by omega) (by have := HYE.out.data; omega)
        have HCI := Lib.hid hCi
        have HMI := Lib.hid hMi
        have HXS := Lib.hid hxs5
        obtain ⟨k1, hk1⟩ : ∃ k1, k1 = (putC Ci y.node.data).2 := ⟨_, rfl⟩
        rw [← hk1] at hA2 hk1s
        have HK11 := Lib.hid hk1
        have hk16 : (k + 2 + 2) * 16 ≤ 140737488355328 := by omega
        clear hA hr5 hg5 hbB hq5 hxs5 hCi hMi hz hk1 HQ5 HZ5 HR5 HG5 HBB HZ1 HQ1 HR1 HS1 HZ2 HQ2 HR2 HS2 HZ3 HQ3
        refine Rg.wp_only ?_ (regRecord _ (by kernel_rfl) _ z u y.path y.node.data k1 (ts k1) (vs (sumN y.node.data)) 2 (.slice a5 (k + 2) c5) w5 (Rb d j t m u x Z w0 (putC Ci y.node.data).1 (M + Mi + 1) (N + Mi + 1) (.slice a5 (k + 2) c5) z y.path y.node.data W.heap.size (k + 2) xs5) (Rb d j t m u x Z w0 (putC Ci y.node.data).1 (M + Mi + 1) (N + Mi + 1) (.slice a5 (k + 2) c5) z y.path y.node.data W.heap.size (k + 2) xs5) (Rb d j t m u x Z w0 (putC Ci y.node.data).1 (M + Mi + 1) (N + Mi + 1) (.slice a5 (k + 2) c5) z y.path y.node.data W.heap.size (k + 2) xs5) (fun v8 V => Bq d j t m u x Z w0 (putC Ci y.node.data).1 (M + Mi + 1) (N + Mi + 1) (fun g => v8.ownBlock = some g) V ∧ V.ownsRow W.heap.size 9 1 v8 (k + 2 + 2) (xs5 ++ [sv (ts k1), sv (vs (sumN y.node.data))]) ∧ W.heap.size ≤ V.heap.size)
          (ent_cells hz5) hA2 (fun V hV => hV.cells) (fun V hV => (putText_any k1 V (by omega)).mono fun e w' ⟨h1, h2⟩ => ⟨h1, hV.below h2⟩) (fun V hV => hV.cells)
          (fun V hV => (sumOf_anyA y.node.data V (by have := HYE.out.data; unfold maxLen; omega)).mono fun e w' ⟨h1, h2⟩ => ⟨h1, hV.below h2⟩) (fun V hV => hV.cells)
          (fun V hV => (hV.below ((Below.refl _ V).alloc (Nat.le_refl _) _)).cells) (fun V hV ty => hV.app hk16 ty))
        rintro a' w9 ⟨z8, v8, rfl, hq9, hr9, hs9⟩
        obtain ⟨a9, c9, rfl⟩ := row_form hr9
        have HQ9 : Hid (Bq d j t m u x Z w0 (putsC C (files (l.take (i + 1)))) (M + (files (l.take (i + 1))).length) (N + (files (l.take (i + 1))).length) (fun g => (Value.slice a9 (k + 2 + 2) c9).ownBlock = some g) w9) := Lib.hid (by
          rw [HC2.out, HF.out, List.length_append, ← HCI.out, ← HMI.out]
          exact hq9)
        have HR9 : Hid (w9.ownsRow W.heap.size 9 1 (.slice a9 (k + 2 + 2) c9) (k + 2 + 2) ((rpP (keyD (putsC C (files (l.take (i + 1))))) (l.take (i + 1))).map sv)) := Lib.hid (by
          rw [HP.out, List.map_append, List.map_append, ← HCI.out, ← HK11.out]
          rw [HXS.out, ← HCI.out] at hr9
          exact hr9)
        have HK9 : Hid (k + 2 + 2 = (rpP (keyD (putsC C (files (l.take (i + 1))))) (l.take (i + 1))).length) := Lib.hid (by rw [HP.out, List.length_append, List.length_append, ← hk.out]; rfl)
        clear hq9 hr9 hA2 hk1s
        go_wp2_with fail
        go_roundw
        case rel => exact ⟨i + 1, k + 2 + 2, by omega, by go_num, HQ9.out, HK9.out, by omega, HR9.out, hs9⟩
        case measure => simp [intOf]; omega
    · obtain rfl : i = n := by omega
      have eT : l.take i = l := List.take_of_length_le (by rw [HLN.out]; exact Nat.le_refl _)
      rw [eT] at hq hrow hk
      have hll : (rpP (keyD (putsC C (files l))) l).length ≤ 800 := by rw [← hk.out]; omega
      have hgl := putsC_good HG.out (files l) (fun e he => by
        obtain ⟨z, hz, _, rfl⟩ := mem_files.1 he
        have := (HOK.out z hz).data
        omega)
      have hcs : (cat (rpP (keyD (putsC C (files l))) l)).size ≤ 140737488355328 := by
        have h3 := rpL_le (κ := keyD (putsC C (files l))) HOK.out (fun y hy hyk => by
          have hh : (of8 (putsC C (files l)) y.node.data).isSome = true := by
            rw [has_ref hgl, (putsC_ref HG.out (files l) (fun e he => by
              obtain ⟨z, hz, _, rfl⟩ := mem_files.1 he
              have := (HOK.out z hz).data
              omega) y.node.data).1]
            have := cnt_pos.2 (mem_files.2 ⟨y, hy, hyk, rfl⟩)
            omega
          obtain ⟨q, hq, _, e, _⟩ := of8_mem hh
          rw [e]
          have h1 := Ac.files_len l
          have h2 := HLN.out
          exact keyO_size hgl (by omega) hq)
        have e : (cat (rpP (keyD (putsC C (files l))) l)).size = (rpL (keyD (putsC C (files l))) l).length := by rw [cat_rp]; exact List.size_toArray
        have h4 := HBK.out
        have h5 := HLN.out
        omega
      have cj := joinZ_any wr (by omega) hrow hcs
      have HQ := Lib.hid hq.bz
      have HBq := Lib.hid (fun V (hV : Below wr.heap.size wr V) => hq.bz.below hV)
      clear hq hrow hcs hgl hll hk
      go_wp2_with fail
      go_at_call 69
      refine cj.mono ?_
      rintro e w5 ⟨rfl, hb5⟩
      have HB5 := Lib.hid (HBq.out _ hb5)
      clear cj hb5
      go_wp2_with fail
      go_ret
      exact ⟨rfl, HB5.out⟩
end Go.Proofs.YtdkgkomjbpggeaaGreatDoor.Az

namespace Go.Proofs.YtdkgkomjbpggeaaGreatDoor.En
open Go.RowKit Tx Pm Pr
set_option linter.unusedVariables false
def told (la lb all : List Et) (i : Nat) : Prop := ∃ x, all[i]? = some x ∧ (i = 0 ∨ ∀ y, all[i - 1]? = some y → y.path ≠ x.path) ∧ tget la x.path ≠ tget lb x.path
open Classical in
noncomputable def diffAt (la lb all : List Et) (i : Nat) : List ByteArray := match all[i]? with
  | none => []
  | some x => if told la lb all i then [x.path] else []
noncomputable def diffs (la lb all : List Et) (k : Nat) : List ByteArray := (List.range k).flatMap (diffAt la lb all)
theorem diffs_succ (la lb all : List Et) (k : Nat) : diffs la lb all (k + 1) = diffs la lb all k ++ diffAt la lb all k := by
  rw [diffs, List.range_succ, List.flatMap_append]
  simp [diffs]
theorem diffAt_yes {la lb all : List Et} {i : Nat} {x : Et} (h : all[i]? = some x) (ht : told la lb all i) : diffAt la lb all i = [x.path] := by
  rw [diffAt, h]
  exact if_pos ht
theorem diffAt_no {la lb all : List Et} {i : Nat} {x : Et} (h : all[i]? = some x) (ht : ¬ told la lb all i) : diffAt la lb all i = [] := by
  rw [diffAt, h]
  exact if_neg ht
end Go.Proofs.YtdkgkomjbpggeaaGreatDoor.En

namespace Go.Proofs.YtdkgkomjbpggeaaGreatDoor.En
open Go.RowKit Tx Pm Pr
set_option linter.unusedVariables false
theorem lt_irr (a : ByteArray) : less a a = false := less_irr _
theorem lt_asymm {a b : ByteArray} (h : less a b = true) : less b a = false := less_asymm _ _ h
theorem less_trans : ∀ (a b c : List UInt8), Op.bytesLess a b = true → Op.bytesLess b c = true → Op.bytesLess a c = true
  | [], [], _, h, _ => by rw [Op.bytesLess] at h; cases h
  | [], _ :: _, [], _, h => by rw [Op.bytesLess] at h; cases h
  | [], _ :: _, _ :: _, _, _ => by rw [Op.bytesLess]
  | _ :: _, [], _, h, _ => by rw [Op.bytesLess] at h; cases h
  | _ :: _, _ :: _, [], _, h => by rw [Op.bytesLess] at h; cases h
  | x :: a, y :: b, z :: c, h1, h2 => by
    have ih := less_trans a b c
    rw [Op.bytesLess] at h1 h2 ⊢
    simp only [Bool.or_eq_true, Bool.and_eq_true, decide_eq_true_eq, beq_iff_eq] at h1 h2 ⊢
    rcases h1 with h1 | ⟨rfl, h1⟩
    · rcases h2 with h2 | ⟨rfl, h2⟩
      · left
        rw [UInt8.lt_iff_toNat_lt] at h1 h2 ⊢
        omega
      · exact .inl h1
    · rcases h2 with h2 | ⟨rfl, h2⟩
      · exact .inl h2
      · exact .inr ⟨rfl, ih h1 h2⟩
theorem less_tri : ∀ (a b : List UInt8), Op.bytesLess a b = false → Op.bytesLess b a = false → a = b
  | [], [], _, _ => rfl
  | [], _ :: _, h, _ => by rw [Op.bytesLess] at h; cases h
  | _ :: _, [], _, h => by rw [Op.bytesLess] at h; cases h
  | x :: a, y :: b, h1, h2 => by
    have ih := less_tri a b
    rw [Op.bytesLess] at h1 h2
    simp only [Bool.or_eq_false_iff, Bool.and_eq_false_iff, decide_eq_false_iff_not, beq_eq_false_iff_ne] at h1 h2
    have e : x = y := by
      apply UInt8.toNat_inj.1
      have a1 := h1.1
      have a2 := h2.1
      rw [UInt8.lt_iff_toNat_lt] at a1 a2
      omega
    subst e
    rw [ih (h1.2.resolve_left (fun h => h rfl)) (h2.2.resolve_left (fun h => h rfl))]
theorem lt_trans {a b c : ByteArray} (h1 : less a b = true) (h2 : less b c = true) : less a c = true := less_trans _ _ _ h1 h2
theorem tget_zero {l : List Et} {p : ByteArray} (h : ∀ x ∈ l, x.path ≠ p) : tget l p = ⟨0, ⟨#[]⟩⟩ := tget_none l p h
theorem tree_at {l : List Et} (h : tcheck l = 0) {i : Nat} {x : Et} (hx : l[i]? = some x) : chk x.path.data.toList 5 = 0 ∧ whole x.node = true ∧ x.node.kind ≠ 0 ∧ (i = 0 ∨ ∃ y, l[i - 1]? = some y ∧ less y.path x.path = true) := by
  have hi := (List.getElem?_eq_some_iff.1 hx).1
  have hok : okAt l i = true := by
    unfold tcheck at h
    split at h
    · cases h
    · split at h
      · next hall => exact List.all_eq_true.1 hall i (List.mem_range.2 hi)
      · cases h
  rw [okAt_eq hx] at hok
  simp only [Bool.and_eq_true, Bool.or_eq_true, decide_eq_true_eq, Bool.not_eq_true', decide_eq_false_iff_not] at hok
  obtain ⟨⟨⟨⟨c1, c2⟩, c3⟩, c4⟩, _⟩ := hok
  refine ⟨c1, c2, c3, ?_⟩
  rcases c4 with c4 | c4
  · exact .inl c4
  · by_cases h0 : i = 0
    · exact .inl h0
    · right
      obtain ⟨y, hy⟩ : ∃ y, l[i - 1]? = some y := ⟨_, List.getElem?_eq_getElem (by omega)⟩
      rw [hy] at c4
      exact ⟨y, hy, c4⟩
theorem tree_rise {l : List Et} (h : tcheck l = 0) : ∀ (j i : Nat) (x y : Et), l[i]? = some x → l[j]? = some y → i < j → less x.path y.path = true
  | 0, i, x, y, _, _, hij => absurd hij (by omega)
  | j + 1, i, x, y, hx, hy, hij => by
    rcases (tree_at h hy).2.2.2 with h0 | ⟨z, hz, hlt⟩
    · omega
    · rw [Nat.add_sub_cancel] at hz
      by_cases e : i = j
      · subst e
        rw [hx] at hz
        injection hz with hz
        rw [hz]
        exact hlt
      · exact lt_trans (tree_rise h j i x z hx hz (by omega)) hlt
theorem tree_get {l : List Et} (h : tcheck l = 0) {x : Et} (hx : x ∈ l) : tget l x.path = x.node := by
  obtain ⟨k, hk⟩ := List.getElem?_of_mem hx
  refine tget_hit l x.path k x hk rfl (fun y hy e => ?_)
  obtain ⟨i, hi⟩ := List.getElem?_of_mem hy
  rw [List.getElem?_take] at hi
  split at hi
  · next hik =>
    have := tree_rise h k i y x hi hk hik
    rw [e, lt_irr] at this
    cases this
  · cases hi
theorem tree_path_mem {l : List Et} (h : tcheck l = 0) (p : ByteArray) : p ∈ l.map (·.path) ↔ (tget l p).kind ≠ 0 := by
  constructor
  · intro hp
    obtain ⟨x, hx, rfl⟩ := List.mem_map.1 hp
    rw [tree_get h hx]
    obtain ⟨k, hk⟩ := List.getElem?_of_mem hx
    exact (tree_at h hk).2.2.1
  · intro hk
    apply Classical.byContradiction
    intro hno
    apply hk
    rw [tget_zero (fun x hx e => hno (List.mem_map.2 ⟨x, hx, e⟩))]
end Go.Proofs.YtdkgkomjbpggeaaGreatDoor.En

namespace Go.Proofs.YtdkgkomjbpggeaaGreatDoor.En
open Go.RowKit Tx Pm Pr
set_option linter.unusedVariables false
def isno (n : Nd) : Bool := decide (n.kind = 0) && decide (n.data = ⟨#[]⟩)
set_option maxRecDepth 100000 in
set_option maxHeartbeats 1000000 in
theorem isNone_any (n : Nd) (w : World) :
    Calls Tryz.prog 103 #[nv n] w fun e w' => e = .returned (.bool (isno n)) ∧ Below w.heap.size w w' := by
  obtain ⟨K, D⟩ := n
  have hgN := guardN
  unfold nv
  by_cases hk : K = 0
  · by_cases hd : D.toList = (⟨#[]⟩ : ByteArray).toList
    · have hv : isno ⟨K, D⟩ = true := by rw [isno, decide_eq_true hk, decide_eq_true (to_list.1 hd)]; rfl
      rw [hv]
      obtain rfl := to_list.1 hd
      subst hk
      clear hv hd
      go_enter Tryz.func103, Tryz.ntmps103
      go_wp2
      go_ret
      exact ⟨rfl, (Below.refl _ _).alloc (Nat.le_refl _) _⟩
    · have hv : isno ⟨K, D⟩ = false := by rw [isno, decide_eq_false (fun h => hd (to_list.2 h)), Bool.and_false]
      have e := bytes_ne (fun h => hd (to_list.2 h))
      have e2 := not_empty (fun h => hd (to_list.2 h))
      rw [hv]
      subst hk
      clear hv hd
      go_enter Tryz.func103, Tryz.ntmps103
      go_wp2
      go_ret
      exact ⟨rfl, (Below.refl _ _).alloc (Nat.le_refl _) _⟩
  · have hv : isno ⟨K, D⟩ = false := by rw [isno, decide_eq_false hk, Bool.false_and]
    rw [hv]
    clear hv
    go_enter Tryz.func103, Tryz.ntmps103
    go_wp2
    go_ret
    exact ⟨rfl, (Below.refl _ _).alloc (Nat.le_refl _) _⟩
set_option maxRecDepth 100000 in
set_option maxHeartbeats 1000000 in
theorem tWhole_any (n : Nd) (w : World) (hs : n.data.size ≤ 9223372036854775807) :
    Calls Tryz.prog 102 #[nv n] w fun e w' => e = .returned (.bool (whole n)) ∧ Below w.heap.size w w' := by
  obtain ⟨K, D⟩ := n
  unfold nv
  by_cases h2 : K = 2
  · have hw : whole ⟨K, D⟩ = decide (D.size ≤ 4096) := by unfold whole; rw [if_pos h2]
    rw [hw]
    subst h2
    clear hw
    go_enter Tryz.func102, Tryz.ntmps102
    go_wp2
    go_ret
    exact ⟨congrArg (fun b => Ending.returned (Value.bool b)) (decide_eq_decide.2 (by omega)), (Below.refl _ _).alloc (Nat.le_refl _) _⟩
  · have e2 : ((K : Int) == 2) = false := beq_eq_false_iff_ne.2 h2
    by_cases h01 : K = 0 ∨ K = 1
    · by_cases hd : D = ⟨#[]⟩
      · have hw : whole ⟨K, D⟩ = true := by
          unfold whole
          rw [if_neg h2, hd]
          rcases h01 with h | h <;> rw [h] <;> rfl
        have e := is_empty hd
        rw [hw]
        clear hw hd h2
        rcases h01 with rfl | rfl
        all_goals
          go_enter Tryz.func102, Tryz.ntmps102
          go_wp2
          go_ret
          exact ⟨rfl, (Below.refl _ _).alloc (Nat.le_refl _) _⟩
      · have hw : whole ⟨K, D⟩ = false := by
          unfold whole
          rw [if_neg h2, decide_eq_false (fun h => hd (size_zero.1 h)), Bool.and_false]
        have e := not_empty hd
        rw [hw]
        clear hw hd h2
        rcases h01 with rfl | rfl
        all_goals
          go_enter Tryz.func102, Tryz.ntmps102
          go_wp2
          go_ret
          exact ⟨rfl, (Below.refl _ _).alloc (Nat.le_refl _) _⟩
    · have h0 : K ≠ 0 := fun h => h01 (.inl h)
      have h1 : K ≠ 1 := fun h => h01 (.inr h)
      have hw : whole ⟨K, D⟩ = false := by
        unfold whole
        rw [if_neg h2, decide_eq_false h0, decide_eq_false h1]
        rfl
      have e0 : ((K : Int) == 0) = false := beq_eq_false_iff_ne.2 h0
      have e1 : ((K : Int) == 1) = false := beq_eq_false_iff_ne.2 h1
      rw [hw]
      clear hw h2 h01 h0 h1
      go_enter Tryz.func102, Tryz.ntmps102
      go_wp2
      go_ret
      exact ⟨rfl, (Below.refl _ _).alloc (Nat.le_refl _) _⟩
def tplace (l : List Et) (p : ByteArray) : Nat := l.countP (fun x => less x.path p)
def Rise (l : List Et) : Prop := (l.map (·.path)).Pairwise (fun a b => less a b = true)
end Go.Proofs.YtdkgkomjbpggeaaGreatDoor.En

namespace Go.Proofs
open Go.Shelf
def Tryz.search_ren : Go.Shelf.Ren := ⟨fun | 16 => 177 | n => n, fun | 3 => 3 | 35 => 77 | 4 => 4 | 38 => 139 | n => n, fun | n => n⟩
theorem Tryz.search : Go.Proofs.SlLaysO.n16 Tryz.prog Tryz.search_ren := {
  mixed := by kernel_rfl
  f16 := Tryz.func177.trans (congrArg some (by kernel_rfl))
  t3 := Tryz.underlying3
  a3 := Tryz.isAgg3
  z3 := Tryz.sizeOf3
  v3 := Tryz.zeroValue3
  t4 := Tryz.underlying4
  a4 := Tryz.isAgg4
  z4 := Tryz.sizeOf4
  v4 := Tryz.zeroValue4
  t35 := Tryz.underlying77
  a35 := Tryz.isAgg77
  z35 := Tryz.sizeOf77
  v35 := Tryz.zeroValue77
  t38 := Tryz.underlying139
  a38 := Tryz.isAgg139
  z38 := Tryz.sizeOf139
  v38 := Tryz.zeroValue139 }
end Go.Proofs

namespace Go.Proofs.YtdkgkomjbpggeaaGreatDoor.En
open Go.RowKit Tx Pm Pr Go.Sort Go.Lib Go.Shelf
set_option linter.unusedVariables false
theorem Ents.nth {w : World} {a : Option Addr} {n : Nat} {l : List Et} (h : Ents w a n l) {k : Nat} {x : Et} (hx : l[k]? = some x) : ∃ b off, a = some ⟨b, off, none⟩ ∧ b < w.heap.size ∧ w.cell? ⟨b, off + k * 3, none⟩ = some (.string x.path) ∧ w.cell? ⟨b, off + k * 3 + 1, none⟩ = some (.int .i64 x.node.kind) ∧ w.cell? ⟨b, off + k * 3 + 1 + 1, none⟩ = some (.string x.node.data) := by
  have hk := (List.getElem?_eq_some_iff.1 hx).1
  rcases h.2 with h0 | ⟨b, off, ha, hlt, hc⟩
  · rw [h.1] at hk; omega
  · exact ⟨b, off, ha, hlt, hc k x hx⟩
set_option maxRecDepth 100000 in
set_option maxHeartbeats 1000000 in
theorem placeC_any (ba bx : Nat) (a : Option Addr) (n c : Nat) (l : List Et) (p : ByteArray) (W : World) (i : Nat) (x : Et) (hi : l[i]? = some x) (ha : W.cell? ⟨ba, 0, none⟩ = some (.slice a n c)) (hx : W.cell? ⟨bx, 0, none⟩ = some (.string p)) (hl : Ents W a n l) :
    Calls Tryz.prog 178 (#[.int .i64 i] ++ #[.pointer (some ⟨ba, 0, none⟩), .pointer (some ⟨bx, 0, none⟩)]) W fun e w' => e = .returned (.bool (!less x.path p)) ∧ ∃ q, w' = W.drewN q := by
  obtain ⟨b, off, rfl, hb, c1, _⟩ := hl.nth hi
  have hlt : i < n := by rw [← hl.1]; exact (List.getElem?_eq_some_iff.1 hi).1
  have hiz : (i : Int) < (n : Int) := by omega
  obtain ⟨P, N⟩ := x
  simp only at c1
  unfold less
  clear hi hl
  go_enter Tryz.func178, Tryz.ntmps178
  go_wp2
  go_region
  all_goals go_wp2
  all_goals go_ret
  all_goals exact ⟨rfl, 1, rfl⟩
theorem rise_le {l : List Et} (h : Rise l) (p : ByteArray) {i j : Nat} {x y : Et} (hi : l[i]? = some x) (hj : l[j]? = some y) (hij : i ≤ j) (hx : less x.path p = false) : less y.path p = false := by
  rcases Nat.lt_or_eq_of_le hij with hlt | rfl
  · have hm := List.pairwise_iff_getElem.1 h i j (by rw [List.length_map]; exact (List.getElem?_eq_some_iff.1 hi).1) (by rw [List.length_map]; exact (List.getElem?_eq_some_iff.1 hj).1) hlt
    rw [List.getElem_map, List.getElem_map, (List.getElem?_eq_some_iff.1 hi).2, (List.getElem?_eq_some_iff.1 hj).2] at hm
    cases hc : less y.path p with
    | false => rfl
    | true => rw [lt_trans hm hc] at hx; cases hx
  · rw [hi] at hj
    injection hj with hj
    rw [← hj]
    exact hx
theorem count_at (l : List Et) (f : Et → Bool) (g : Nat → Bool) (hg : ∀ i x, l[i]? = some x → g i = f x) : (List.range l.length).countP g = l.countP f := by
  have h : (List.range l.length).map g = l.map f := by
    apply List.ext_getElem
    · simp
    · intro i h1 h2
      simp only [List.getElem_map, List.getElem_range]
      exact hg i _ (List.getElem?_eq_getElem (by simpa using h2))
  have e1 : (List.range l.length).countP g = ((List.range l.length).map g).countP id := by rw [List.countP_map]; rfl
  have e2 : l.countP f = (l.map f).countP id := by rw [List.countP_map]; rfl
  rw [e1, e2, h]
theorem below_boxes {w : World} (o1 o2 : Obj) : Below w.heap.size w ((w.alloc o1).alloc o2) := ((Below.refl _ w).alloc (Nat.le_refl _) o1).alloc (by simp) o2
set_option maxRecDepth 100000 in
set_option maxHeartbeats 2000000 in
theorem place_any (a : Option Addr) (n c : Nat) (l : List Et) (p : ByteArray) (w : World) (hl : Ents w a n l) (hr : Rise l) (hn : n ≤ 1000000000000) :
    Calls Tryz.prog 162 #[.slice a n c, .string p] w fun e w' => e = .returned (.int .i64 (tplace l p : Nat)) ∧ Below w.heap.size w w' := by
  obtain ⟨W0, hW0⟩ : ∃ W0, W0 = (w.alloc (.cells #[.slice a n c] 33)).alloc (.cells #[.string p] 9) := ⟨_, rfl⟩
  have hsize : W0.heap.size = w.heap.size + 1 + 1 := by rw [hW0]; simp
  have ca : W0.cell? ⟨w.heap.size, 0, none⟩ = some (.slice a n c) := by rw [hW0]; exact cell_alloc_sl _ (cell_new_sl w _ _)
  have cx : W0.cell? ⟨w.heap.size + 1, 0, none⟩ = some (.string p) := by rw [hW0]; have := cell_new_sl (w.alloc (.cells #[.slice a n c] 33)) (.string p) 9; rwa [World.size_alloc] at this
  have hB0 : Below w.heap.size w W0 := by rw [hW0]; exact below_boxes _ _
  have eg : ∀ args w, (callFunc 178 args).run Tryz.prog w = .ok (.enter 178 args) w := enters_of Tryz.func178 (by kernel_rfl) rfl
  have hln := hl.1
  have hS := Any.sort_Search Tryz.search 178 #[.pointer (some ⟨w.heap.size, 0, none⟩), .pointer (some ⟨w.heap.size + 1, 0, none⟩)] n (fun i => match l[i]? with | some x => !less x.path p | none => true) W0 eg (by omega)
    (fun m os i hi => by
      obtain ⟨x, hx⟩ : ∃ x, l[i]? = some x := ⟨_, List.getElem?_eq_getElem (by omega)⟩
      have hg := below_grown_sl w.heap.size W0 m os (by omega)
      have h := placeC_any w.heap.size (w.heap.size + 1) a n c l p (grow (W0.drewN m) os) i x hx (cell_grown (by simp [hsize]; omega) ca m os) (cell_grown (by simp [hsize]) cx m os) (hl.below (hB0.trans hg))
      rw [hx]
      exact h.mono fun _ _ ⟨he, q, hq⟩ => ⟨he, q, #[], by rw [hq, grow_empty]⟩)
    (fun i j hij hj h => by
      obtain ⟨x, hx⟩ : ∃ x, l[i]? = some x := ⟨_, List.getElem?_eq_getElem (by omega)⟩
      obtain ⟨y, hy⟩ : ∃ y, l[j]? = some y := ⟨_, List.getElem?_eq_getElem (by omega)⟩
      rw [hx] at h
      rw [hy]
      simp only [Bool.not_eq_true'] at h ⊢
      exact rise_le hr p hx hy hij h)
  have hcnt : (List.range n).countP (fun i => !(match l[i]? with | some x => !less x.path p | none => true)) = tplace l p := by
    rw [← hln]
    exact count_at l _ _ (fun i x hx => by simp only [hx, Bool.not_not])
  rw [hcnt] at hS
  change Calls Tryz.prog 177 _ _ _ at hS
  clear ca cx hcnt hr hl
  generalize tplace l p = r at hS ⊢
  go_enter Tryz.func162, Tryz.ntmps162
  go_wp2_with (go_at_call 177; rw [← hW0]; refine hS.mono ?_; rintro e w' ⟨rfl, q, os, rfl⟩)
  go_ret
  rw [← hW0]
  exact ⟨rfl, hB0.trans (below_grown_sl w.heap.size W0 q os (by omega))⟩
def tstands (l : List Et) (k : Nat) (p : ByteArray) : Bool := match l[k]? with
  | some x => decide (x.path = p)
  | none => false
set_option maxRecDepth 100000 in
set_option maxHeartbeats 1000000 in
theorem stands_any (a : Option Addr) (n c : Nat) (l : List Et) (k : Nat) (p : ByteArray) (w : World) (hl : Ents w a n l) (hn : n ≤ 1000000000000) (hk : k ≤ 1000000000000) :
    Calls Tryz.prog 163 #[.slice a n c, .int .i64 (k : Nat), .string p] w fun e w' => e = .returned (.bool (tstands l k p)) ∧ w = w' := by
  have hln := hl.1
  by_cases hlt : k < n
  · obtain ⟨x, hx⟩ : ∃ x, l[k]? = some x := ⟨_, List.getElem?_eq_getElem (by omega)⟩
    obtain ⟨b, off, rfl, hb, c1, _⟩ := hl.nth hx
    obtain ⟨P, N⟩ := x
    simp only at c1
    have hlz : (k : Int) < (n : Int) := by omega
    have hv : tstands l k p = decide (P = p) := by rw [tstands, hx]
    rw [hv]
    by_cases hp : P = p
    · have e : (P.toList == p.toList) = true := by rw [hp]; exact beq_self_eq_true _
      rw [decide_eq_true hp]
      clear hv hx hl hln hp
      go_enter Tryz.func163, Tryz.ntmps163
      go_wp2
      go_ret
      exact ⟨rfl, rfl⟩
    · have e := bytes_ne hp
      rw [decide_eq_false hp]
      clear hv hx hl hln hp
      go_enter Tryz.func163, Tryz.ntmps163
      go_wp2
      go_ret
      exact ⟨rfl, rfl⟩
  · have hv : tstands l k p = false := by rw [tstands, List.getElem?_eq_none (by omega)]
    rw [hv]
    clear hv hl hln
    go_enter Tryz.func163, Tryz.ntmps163
    go_wp2
    go_ret
    exact ⟨rfl, rfl⟩
theorem count_cut (f : Et → Bool) : ∀ (l : List Et), (∀ (i j : Nat) (x y : Et), l[i]? = some x → l[j]? = some y → i ≤ j → f x = false → f y = false) → ∀ (i : Nat) (x : Et), l[i]? = some x → f x = decide (i < l.countP f)
  | [], _, i, x, h => by cases h
  | z :: r, hm, i, x, h => by
    have hr := count_cut f r (fun i j x y hx hy hij => hm (i + 1) (j + 1) x y hx hy (by omega))
    cases hz : f z with
    | true =>
      rw [List.countP_cons_of_pos hz]
      cases i with
      | zero => injection h with h; rw [← h, hz]; rw [decide_eq_true (by omega)]
      | succ i => rw [hr i x h]; exact decide_eq_decide.2 (by omega)
    | false =>
      have h0 : r.countP f = 0 := by
        rw [List.countP_eq_zero]
        intro y hy
        obtain ⟨j, hj⟩ := List.getElem?_of_mem hy
        rw [hm 0 (j + 1) z y rfl hj (by omega) hz]
        exact Bool.false_ne_true
      rw [List.countP_cons_of_neg (by rw [hz]; exact Bool.false_ne_true), h0, decide_eq_false (by omega)]
      exact hm 0 i z x rfl h (by omega) hz
theorem place_cut {l : List Et} (hr : Rise l) (p : ByteArray) {i : Nat} {x : Et} (hx : l[i]? = some x) : less x.path p = decide (i < tplace l p) :=
  count_cut (fun x => less x.path p) l (fun i j x y hi hj hij h => rise_le hr p hi hj hij h) i x hx
theorem place_le (l : List Et) (p : ByteArray) : tplace l p ≤ l.length := List.countP_le_length
theorem rise_lt {l : List Et} (h : Rise l) {i j : Nat} {x y : Et} (hi : l[i]? = some x) (hj : l[j]? = some y) (hij : i < j) : less x.path y.path = true := by
  have hm := List.pairwise_iff_getElem.1 h i j (by rw [List.length_map]; exact (List.getElem?_eq_some_iff.1 hi).1) (by rw [List.length_map]; exact (List.getElem?_eq_some_iff.1 hj).1) hij
  rwa [List.getElem_map, List.getElem_map, (List.getElem?_eq_some_iff.1 hi).2, (List.getElem?_eq_some_iff.1 hj).2] at hm
theorem place_of {l : List Et} (hr : Rise l) {i : Nat} {x : Et} (hx : l[i]? = some x) : tplace l x.path = i := by
  have h1 := place_cut hr x.path hx
  rw [lt_irr] at h1
  have h2 := of_decide_eq_false h1.symm
  rcases Nat.lt_or_ge (tplace l x.path) i with h | h
  · obtain ⟨y, hy⟩ : ∃ y, l[tplace l x.path]? = some y := ⟨_, List.getElem?_eq_getElem (by have := (List.getElem?_eq_some_iff.1 hx).1; omega)⟩
    have h3 := place_cut hr x.path hy
    rw [rise_lt hr hy hx h] at h3
    have := of_decide_eq_true h3.symm
    omega
  · omega
theorem get_place {l : List Et} (hr : Rise l) (p : ByteArray) : (∃ x, l[tplace l p]? = some x ∧ x.path = p ∧ tstands l (tplace l p) p = true ∧ tget l p = x.node) ∨ (tstands l (tplace l p) p = false ∧ tget l p = ⟨0, ⟨#[]⟩⟩) := by
  cases hs : tstands l (tplace l p) p with
  | true =>
    left
    rw [tstands] at hs
    cases hx : l[tplace l p]? with
    | none => rw [hx] at hs; cases hs
    | some x =>
      rw [hx] at hs
      refine ⟨x, rfl, of_decide_eq_true hs, rfl, tget_hit l p _ x hx (of_decide_eq_true hs) ?_⟩
      intro y hy he
      obtain ⟨j, hj⟩ := List.getElem?_of_mem hy
      have hjk : j < tplace l p := by
        have := (List.getElem?_eq_some_iff.1 hj).1
        rw [List.length_take] at this
        omega
      rw [List.getElem?_take, if_pos hjk] at hj
      have := place_of hr hj
      rw [he] at this
      omega
  | false =>
    right
    refine ⟨rfl, tget_none l p ?_⟩
    intro y hy he
    obtain ⟨j, hj⟩ := List.getElem?_of_mem hy
    have h := place_of hr hj
    rw [he] at h
    rw [tstands, h, hj] at hs
    exact of_decide_eq_false hs he
theorem cells_two {w1 : World} {b : Nat} {u v : Value} {t : TypeId} (h : w1.heap[b]? = some (.cells #[u, v] t)) : w1.cell? ⟨b, 0, none⟩ = some u ∧ w1.cell? ⟨b, 1, none⟩ = some v ∧ ∀ k, w1.frozen? ⟨b, k, none⟩ = false := by
  refine ⟨?_, ?_, fun k => frozen_of_row w1 b k _ _ h⟩ <;> simp [World.cell?, h]
theorem two_set {w1 : World} {b : Nat} {u v x y : Value} {t : TypeId} (h : w1.heap[b]? = some (.cells #[u, v] t)) : ((w1.setCell ⟨b, 0, none⟩ x).setCell ⟨b, 1, none⟩ y).heap[b]? = some (.cells #[x, y] t) :=
  Go.heap_setCell_same _ b 1 _ _ _ (Go.heap_setCell_same _ b 0 _ _ x h)
set_option maxRecDepth 100000 in
set_option maxHeartbeats 2000000 in
theorem getR_any (a : Option Addr) (n c : Nat) (l : List Et) (p : ByteArray) (w : World) (hl : Ents w a n l) (hr : Rise l) (hn : n ≤ 1000000000000) :
    Calls Tryz.prog 139 #[.slice a n c, .string p] w fun e w' => e = .returned (nv (tget l p)) ∧ Below w.heap.size w w' := by
  have hB : ∀ o, Below w.heap.size w (w.alloc o) := fun o => (Below.refl _ _).alloc (Nat.le_refl _) _
  have hln := hl.1
  have hle := place_le l p
  have cp := fun W (h : Below w.heap.size w W) => place_any a n c l p W (hl.below h) hr hn
  have cs := fun W (h : Below w.heap.size w W) => stands_any a n c l (tplace l p) p W (hl.below h) hn (by omega)
  have hgp := get_place hr p
  have HL := Lib.hid hl
  obtain ⟨r, hR⟩ : ∃ r, r = tplace l p := ⟨_, rfl⟩
  rw [← hR] at cp cs hgp hle
  have HR := Lib.hid hr
  clear hr hR hl
  rcases hgp with ⟨x, hx, hp, hs, hg⟩ | ⟨hs, hg⟩
  · obtain ⟨b, off, rfl, hb, c1, c2, c3⟩ := HL.out.nth hx
    have hlt : r < n := by rw [← hln]; exact (List.getElem?_eq_some_iff.1 hx).1
    have hltz : (r : Int) < (n : Int) := by omega
    rw [hg]
    rw [hs] at cs
    obtain ⟨P, K, D⟩ := x
    simp only at c1 c2 c3
    clear hx hp hg hs hln
    go_enter Tryz.func139, Tryz.ntmps139
    go_wp2_with fail
    go_at_call 162
    refine (cp _ (hB _)).mono ?_
    rintro e w1 ⟨rfl, hb1⟩
    have hB1 := below_call (hB _) hb1
    have hblk := hb1.block w.heap.size (by simp)
    rw [heap_alloc_new] at hblk
    obtain ⟨e1, e2, e3⟩ := cells_two hblk
    have d2 := (hB1.cell (p := ⟨b, _, none⟩) hb).trans c2
    have d3 := (hB1.cell (p := ⟨b, _, none⟩) hb).trans c3
    clear c1 c2 c3
    go_wp2_with fail
    go_at_call 163
    refine (cs _ hB1).mono ?_
    rintro e w2 ⟨rfl, rfl⟩
    go_wp2_with fail
    refine bodyPost_ret (results_cell_row rfl _ _ _ _ _ _ _ rfl (two_set hblk) Tryz.underlying71 rfl infoN) rfl ?_
    exact ⟨rfl, (hB1.setCell (Nat.le_refl _) _).setCell (Nat.le_refl _) _⟩
  · rw [hg]
    rw [hs] at cs
    clear hg hs hln
    go_enter Tryz.func139, Tryz.ntmps139
    go_wp2_with fail
    go_at_call 162
    refine (cp _ (hB _)).mono ?_
    rintro e w1 ⟨rfl, hb1⟩
    have hB1 := below_call (hB _) hb1
    have hblk := hb1.block w.heap.size (by simp)
    rw [heap_alloc_new] at hblk
    obtain ⟨e1, e2, e3⟩ := cells_two hblk
    go_wp2_with fail
    go_at_call 163
    refine (cs _ hB1).mono ?_
    rintro e w2 ⟨rfl, rfl⟩
    go_wp2_with fail
    refine bodyPost_ret (results_cell_row rfl _ _ _ _ _ _ _ rfl (two_set hblk) Tryz.underlying71 rfl infoN) rfl ?_
    exact ⟨rfl, (hB1.setCell (Nat.le_refl _) _).setCell (Nat.le_refl _) _⟩
end Go.Proofs.YtdkgkomjbpggeaaGreatDoor.En

namespace Go.Proofs.YtdkgkomjbpggeaaGreatDoor.En
open Go.RowKit Tx Pm Pr
set_option linter.unusedVariables false
def isdir (n : Nd) : Bool := decide (n.kind = 1) && decide (n.data = ⟨#[]⟩)
def inF (l : List Et) (p : ByteArray) : Bool := decide (par p.data.toList = []) || isdir (tget l (tb (par p.data.toList)))
set_option maxRecDepth 100000 in
set_option maxHeartbeats 2000000 in
theorem inFolder_any (a : Option Addr) (n c : Nat) (l : List Et) (p : ByteArray) (w : World) (hl : Ents w a n l) (hr : Rise l) (hn : n ≤ 1000000000000) (hp : p.size ≤ 8000000000000) :
    Calls Tryz.prog 104 #[.slice a n c, .string p] w fun e w' => e = .returned (.bool (inF l p)) ∧ Below w.heap.size w w' := by
  have cp := fun W => pParent_any p W (by omega)
  have cg := fun W (h : Below w.heap.size w W) => getR_any a n c l (tb (par p.data.toList)) W (hl.below h) hr hn
  have hgN := guardN
  unfold nv at cg
  by_cases hpar : par p.data.toList = []
  · have hv : inF l p = true := by rw [inF, decide_eq_true hpar]; rfl
    have e := tb_nil hpar
    rw [hv]
    obtain ⟨R, hR⟩ : ∃ R, R = tb (par p.data.toList) := ⟨_, rfl⟩
    rw [← hR] at cp e
    clear cg hv hpar hR hl hr
    go_enter Tryz.func104, Tryz.ntmps104
    go_wp2_with fail
    go_at_call 132
    refine (cp _).mono ?_
    rintro e w1 ⟨rfl, hb1⟩
    go_wp2_with fail
    go_ret
    exact ⟨rfl, hb1⟩
  · have hv : inF l p = isdir (tget l (tb (par p.data.toList))) := by rw [inF, decide_eq_false hpar, Bool.false_or]
    have e := tb_ne hpar
    rw [hv]
    obtain ⟨R, hR⟩ : ∃ R, R = tb (par p.data.toList) := ⟨_, rfl⟩
    rw [← hR] at cp e cg ⊢
    obtain ⟨N, hN⟩ : ∃ N, N = tget l R := ⟨_, rfl⟩
    rw [← hN] at cg ⊢
    obtain ⟨K, D⟩ := N
    simp only at cg
    clear hv hpar hR hl hr hN
    by_cases hK : K = 1
    · by_cases hD : D = ⟨#[]⟩
      · have hv : isdir ⟨K, D⟩ = true := by rw [isdir, decide_eq_true hK, decide_eq_true hD]; rfl
        have e2 := is_empty hD
        rw [hv]
        subst hK hD
        clear hv
        go_enter Tryz.func104, Tryz.ntmps104
        go_wp2_with fail
        go_at_call 132
        refine (cp _).mono ?_
        rintro e w1 ⟨rfl, hb1⟩
        go_wp2_with fail
        go_at_call 139
        refine (cg _ hb1).mono ?_
        rintro e w2 ⟨rfl, hb2⟩
        go_wp2_with fail
        go_ret
        exact ⟨rfl, below_call hb1 hb2⟩
      · have hv : isdir ⟨K, D⟩ = false := by rw [isdir, decide_eq_false hD, Bool.and_false]
        have e2 := not_empty hD
        have e3 := bytes_ne hD
        rw [hv]
        subst hK
        clear hv hD
        go_enter Tryz.func104, Tryz.ntmps104
        go_wp2_with fail
        go_at_call 132
        refine (cp _).mono ?_
        rintro e w1 ⟨rfl, hb1⟩
        go_wp2_with fail
        go_at_call 139
        refine (cg _ hb1).mono ?_
        rintro e w2 ⟨rfl, hb2⟩
        go_wp2_with fail
        go_ret
        exact ⟨rfl, below_call hb1 hb2⟩
    · have hv : isdir ⟨K, D⟩ = false := by rw [isdir, decide_eq_false hK, Bool.false_and]
      have e2 : ((K : Int) == 1) = false := beq_eq_false_iff_ne.2 hK
      rw [hv]
      clear hv hK
      go_enter Tryz.func104, Tryz.ntmps104
      go_wp2_with fail
      go_at_call 132
      refine (cp _).mono ?_
      rintro e w1 ⟨rfl, hb1⟩
      go_wp2_with fail
      go_at_call 139
      refine (cg _ hb1).mono ?_
      rintro e w2 ⟨rfl, hb2⟩
      go_wp2_with fail
      go_ret
      exact ⟨rfl, below_call hb1 hb2⟩
def ahead (l : List Et) (p : ByteArray) : Bool := match l[l.length - 1]? with
  | some y => less y.path p
  | none => true
def fol (l : List Et) (x : Et) : Bool := decide (chk x.path.data.toList 5 = 0) && (ahead l x.path && (whole x.node && (!isno x.node && inF l x.path)))
set_option maxRecDepth 100000 in
set_option maxHeartbeats 4000000 in
theorem follows_any (a : Option Addr) (n c : Nat) (l : List Et) (x : Et) (w : World) (hl : Ents w a n l) (hr : Rise l) (hn : n ≤ 1000000000000) (hs : x.path.size ≤ 8000000000000 ∧ x.node.data.size ≤ 8000000000000) :
    Calls Tryz.prog 66 #[.slice a n c, ev x] w fun e w' => e = .returned (.bool (fol l x)) ∧ Below w.heap.size w w' := by
  obtain ⟨P, K, D⟩ := x
  simp only at hs
  obtain ⟨hs1, hs2⟩ := hs
  have hB : ∀ o, Below w.heap.size w (w.alloc o) := fun o => (Below.refl _ _).alloc (Nat.le_refl _) _
  have cc := fun W => pCheck_any P 5 W (by omega) (by omega) (by omega)
  have cw := fun W => tWhole_any ⟨K, D⟩ W (by show D.size ≤ _; omega)
  have ci := fun W => isNone_any ⟨K, D⟩ W
  have cf := fun W (h : Below w.heap.size w W) => inFolder_any a n c l P W (hl.below h) hr hn hs1
  have htwo := chk_two P.data.toList 5
  have hln := hl.1
  have hfol : fol l ⟨P, K, D⟩ = (decide (chk P.data.toList 5 = 0) && (ahead l P && (whole ⟨K, D⟩ && (!isno ⟨K, D⟩ && inF l P)))) := rfl
  rw [hfol]
  unfold ev
  unfold nv at cw ci
  obtain ⟨C, hC⟩ : ∃ C, C = chk P.data.toList 5 := ⟨_, rfl⟩
  obtain ⟨V, hV⟩ : ∃ V, V = whole ⟨K, D⟩ := ⟨_, rfl⟩
  obtain ⟨O, hO⟩ : ∃ O, O = isno ⟨K, D⟩ := ⟨_, rfl⟩
  obtain ⟨F, hF⟩ : ∃ F, F = inF l P := ⟨_, rfl⟩
  rw [← hC] at cc htwo
  rw [← hV] at cw
  rw [← hO] at ci
  rw [← hC, ← hV, ← hO, ← hF]
  rw [← hF] at cf
  have HL := Lib.hid hl
  clear hC hV hO hF hfol hl hr
  obtain ⟨blk, hblk⟩ : ∃ o, o = Obj.cells #[.string P, .int .i64 K, .string D] 73 := ⟨_, rfl⟩
  have hfr : ∀ W, Below (w.alloc blk).heap.size (w.alloc blk) W → W.cell? ⟨w.heap.size, 0, none⟩ = some (.string P) ∧ W.cell? ⟨w.heap.size, 1, none⟩ = some (.int .i64 K) ∧ W.cell? ⟨w.heap.size, 2, none⟩ = some (.string D) := by
    intro W hW
    subst hblk
    have hlt : w.heap.size < (w.alloc (.cells #[.string P, .int .i64 K, .string D] 73)).heap.size := by simp
    refine ⟨(hW.cell (p := ⟨w.heap.size, _, none⟩) hlt).trans ?_, (hW.cell (p := ⟨w.heap.size, _, none⟩) hlt).trans ?_, (hW.cell (p := ⟨w.heap.size, _, none⟩) hlt).trans ?_⟩ <;> simp
  have HFR := Lib.hid hfr
  have HBL := Lib.hid hblk
  clear hfr
  rcases htwo with rfl | rfl
  case inr =>
    clear cw ci cf HFR HBL hblk
    go_enter Tryz.func66, Tryz.ntmps66
    go_wp2_with fail
    go_at_call 101
    refine (cc _).mono ?_
    rintro e w1 ⟨rfl, hb1⟩
    have hB1 := below_call (hB _) hb1
    go_wp2_with fail
    go_ret
    exact ⟨rfl, hB1⟩
  rw [show decide ((0 : Nat) = 0) = true from rfl, Bool.true_and]
  by_cases h0 : n = 0
  · have ha : ahead l P = true := by
      obtain rfl : l = [] := List.length_eq_zero_iff.1 (by omega)
      rfl
    rw [ha, Bool.true_and]
    subst h0
    clear ha hln
    go_enter Tryz.func66, Tryz.ntmps66
    go_wp2_with fail
    go_at_call 101
    refine (cc _).mono ?_
    rintro e w1 ⟨rfl, hb1⟩
    have hB1 := below_call (hB _) hb1
    rw [← hblk] at hb1
    obtain ⟨f1, f2, f3⟩ := HFR.out w1 hb1
    go_wp2_with fail
    go_quiet (fail)
    have hb2 := below_drewN hb1 nq
    have hB2 := below_drewN hB1 nq
    clear f1 f2 f3
    obtain ⟨f1, f2, f3⟩ := HFR.out _ hb2
    go_wp2_with fail
    go_at_call 102
    refine (cw _).mono ?_
    rintro e w3 ⟨rfl, hb⟩
    have hb3 := below_call hb2 hb
    have hB3 := below_call hB2 hb
    clear hb hb1 hb2 hB1 hB2 f1 f2 f3
    obtain ⟨f1, f2, f3⟩ := HFR.out _ hb3
    cases V with
    | false =>
      go_wp2_with fail
      go_ret
      exact ⟨rfl, hB3⟩
    | true =>
      go_wp2_with fail
      go_at_call 103
      refine (ci _).mono ?_
      rintro e w4 ⟨rfl, hb⟩
      have hb4 := below_call hb3 hb
      have hB4 := below_call hB3 hb
      clear hb hb3 hB3 f1 f2 f3
      obtain ⟨f1, f2, f3⟩ := HFR.out _ hb4
      cases O with
      | true =>
        go_wp2_with fail
        go_ret
        exact ⟨rfl, hB4⟩
      | false =>
        go_wp2_with fail
        go_at_call 104
        refine (cf _ hB4).mono ?_
        rintro e w5 ⟨rfl, hb⟩
        go_wp2_with fail
        go_ret
        exact ⟨rfl, below_call hB4 hb⟩
  · obtain ⟨y, hy⟩ : ∃ y, l[l.length - 1]? = some y := ⟨_, List.getElem?_eq_getElem (by omega)⟩
    have ha : ahead l P = less y.path P := by rw [ahead, hy]
    obtain ⟨b, off, rfl, hb, c1, _⟩ := HL.out.nth hy
    obtain ⟨m, rfl⟩ : ∃ m, n = m + 1 := ⟨n - 1, by omega⟩
    rw [hln, Nat.add_sub_cancel] at c1
    have hsub : ((m + 1 : Nat) : Int) - 1 = m := by omega
    have hpos : ((m + 1 : Nat) : Int) > 0 := by omega
    obtain ⟨Y, hY⟩ : ∃ Y, Y = y.path := ⟨_, rfl⟩
    rw [← hY] at c1 ha
    rw [ha]
    cases hless : less Y P with
    | false =>
      have hless2 : Op.bytesLess Y.toList P.toList = false := hless
      clear ha hln hy hY hless h0
      go_enter Tryz.func66, Tryz.ntmps66
      go_wp2_with fail
      go_at_call 101
      refine (cc _).mono ?_
      rintro e w1 ⟨rfl, hb1⟩
      have hB1 := below_call (hB _) hb1
      rw [← hblk] at hb1
      obtain ⟨f1, f2, f3⟩ := HFR.out w1 hb1
      have d1 := (hB1.cell (p := ⟨b, _, none⟩) hb).trans c1
      clear c1
      go_wp2_with fail
      go_quiet (fail)
      have hb2 := below_drewN hb1 nq
      have hB2 := below_drewN hB1 nq
      clear f1 f2 f3
      obtain ⟨f1, f2, f3⟩ := HFR.out _ hb2
      go_wp2_with fail
      go_ret
      exact ⟨rfl, hB2⟩
    | true =>
      have hless2 : Op.bytesLess Y.toList P.toList = true := hless
      rw [Bool.true_and]
      clear ha hln hy hY hless h0
      go_enter Tryz.func66, Tryz.ntmps66
      go_wp2_with fail
      go_at_call 101
      refine (cc _).mono ?_
      rintro e w1 ⟨rfl, hb1⟩
      have hB1 := below_call (hB _) hb1
      rw [← hblk] at hb1
      obtain ⟨f1, f2, f3⟩ := HFR.out w1 hb1
      have d1 := (hB1.cell (p := ⟨b, _, none⟩) hb).trans c1
      clear c1
      go_wp2_with fail
      go_quiet (fail)
      have hb2 := below_drewN hb1 nq
      have hB2 := below_drewN hB1 nq
      clear f1 f2 f3
      obtain ⟨f1, f2, f3⟩ := HFR.out _ hb2
      go_wp2_with fail
      go_at_call 102
      refine (cw _).mono ?_
      rintro e w3 ⟨rfl, hb⟩
      have hb3 := below_call hb2 hb
      have hB3 := below_call hB2 hb
      clear hb hb1 hb2 hB1 hB2 f1 f2 f3
      obtain ⟨f1, f2, f3⟩ := HFR.out _ hb3
      cases V with
      | false =>
        go_wp2_with fail
        go_ret
        exact ⟨rfl, hB3⟩
      | true =>
        go_wp2_with fail
        go_at_call 103
        refine (ci _).mono ?_
        rintro e w4 ⟨rfl, hb⟩
        have hb4 := below_call hb3 hb
        have hB4 := below_call hB3 hb
        clear hb hb3 hB3 f1 f2 f3
        obtain ⟨f1, f2, f3⟩ := HFR.out _ hb4
        cases O with
        | true =>
          go_wp2_with fail
          go_ret
          exact ⟨rfl, hB4⟩
        | false =>
          go_wp2_with fail
          go_at_call 104
          refine (cf _ hB4).mono ?_
          rintro e w5 ⟨rfl, hb⟩
          go_wp2_with fail
          go_ret
          exact ⟨rfl, below_call hB4 hb⟩
end Go.Proofs.YtdkgkomjbpggeaaGreatDoor.En

namespace Go.Proofs.YtdkgkomjbpggeaaGreatDoor.En
open Go.RowKit Tx Pm Pr
set_option linter.unusedVariables false
theorem rise_nil : Rise [] := List.Pairwise.nil
theorem rise_snoc {l : List Et} {x : Et} (h : Rise l) (ha : ahead l x.path = true) : Rise (l ++ [x]) := by
  unfold Rise
  rw [List.map_append]
  refine List.pairwise_append.2 ⟨h, List.pairwise_singleton _ _, fun a hm b hb => ?_⟩
  rw [List.map_cons, List.map_nil, List.mem_singleton] at hb
  subst hb
  obtain ⟨y, hy, rfl⟩ := List.mem_map.1 hm
  obtain ⟨i, hi⟩ := List.getElem?_of_mem hy
  have hlt := (List.getElem?_eq_some_iff.1 hi).1
  obtain ⟨z, hz⟩ : ∃ z, l[l.length - 1]? = some z := ⟨_, List.getElem?_eq_getElem (by omega)⟩
  rw [ahead, hz] at ha
  by_cases e : i = l.length - 1
  · rw [← e, hi] at hz
    injection hz with hz
    rw [hz]
    exact ha
  · exact lt_trans (rise_lt h hi hz (by omega)) ha
def fols (l : List Et) (k : Nat) : Prop := ∀ i x, i < k → l[i]? = some x → fol (l.take i) x = true
theorem fol_parts {l : List Et} {x : Et} (h : fol l x = true) : chk x.path.data.toList 5 = 0 ∧ ahead l x.path = true ∧ whole x.node = true ∧ isno x.node = false ∧ inF l x.path = true := by
  unfold fol at h
  simp only [Bool.and_eq_true, decide_eq_true_eq, Bool.not_eq_true'] at h
  exact h
theorem take_snoc {l : List Et} {k : Nat} {x : Et} (h : l[k]? = some x) : l.take (k + 1) = l.take k ++ [x] := by
  obtain ⟨hk, he⟩ := List.getElem?_eq_some_iff.1 h
  rw [List.take_succ_eq_append_getElem hk, he]
theorem fols_rise {l : List Et} : ∀ {k : Nat}, k ≤ l.length → fols l k → Rise (l.take k)
  | 0, _, _ => rise_nil
  | k + 1, hk, h => by
    obtain ⟨x, hx⟩ : ∃ x, l[k]? = some x := ⟨_, List.getElem?_eq_getElem (by omega)⟩
    rw [take_snoc hx]
    exact rise_snoc (fols_rise (by omega) (fun i y hi hy => h i y (by omega) hy)) (fol_parts (h k x (by omega) hx)).2.1
theorem fols_next {l : List Et} {k : Nat} {x : Et} (h : fols l k) (hx : l[k]? = some x) (hf : fol (l.take k) x = true) : fols l (k + 1) := by
  intro i y hi hy
  rcases Nat.lt_or_ge i k with h2 | h2
  · exact h i y h2 hy
  · obtain rfl : i = k := by omega
    rw [hx] at hy
    injection hy with hy
    rw [← hy]
    exact hf
theorem tget_take {l : List Et} {p : ByteArray} {k : Nat} (h : (tget (l.take k) p).kind ≠ 0) : tget l p = tget (l.take k) p := by
  unfold tget at h ⊢
  cases hf : (l.take k).find? (fun x => decide (x.path = p)) with
  | none => rw [hf] at h; exact absurd rfl h
  | some x =>
    rw [show l.find? (fun x => decide (x.path = p)) = some x by
      rw [← List.take_append_drop k l, List.find?_append, hf]
      rfl]
theorem isdir_kind {n : Nd} (h : isdir n = true) : n = ⟨1, ⟨#[]⟩⟩ := by
  unfold isdir at h
  simp only [Bool.and_eq_true, decide_eq_true_eq] at h
  obtain ⟨k, d⟩ := n
  simp only at h
  rw [h.1, h.2]
theorem whole_dir {n : Nd} (h : whole n = true) (hk : n.kind = 1) : isdir n = true := by
  unfold whole at h
  rw [if_neg (by omega)] at h
  simp only [Bool.and_eq_true, decide_eq_true_eq] at h
  unfold isdir
  rw [decide_eq_true hk, decide_eq_true (size_zero.1 h.2)]
  rfl
theorem whole_no {n : Nd} (h : whole n = true) : isno n = decide (n.kind = 0) := by
  by_cases hk : n.kind = 0
  · unfold whole at h
    rw [if_neg (by omega)] at h
    simp only [Bool.and_eq_true, decide_eq_true_eq] at h
    unfold isno
    rw [decide_eq_true hk, decide_eq_true (size_zero.1 h.2)]
    rfl
  · unfold isno
    rw [decide_eq_false hk, Bool.false_and]
theorem fols_check {l : List Et} (h : fols l l.length) (hn : l.length ≤ 200) : tcheck l = 0 := by
  refine tcheck_good (fun i hi => ?_) hn
  obtain ⟨x, hx⟩ : ∃ x, l[i]? = some x := ⟨_, List.getElem?_eq_getElem hi⟩
  obtain ⟨h1, h2, h3, h4, h5⟩ := fol_parts (h i x hi hx)
  rw [whole_no h3] at h4
  have e1 : (decide (i = 0) || (match l[i - 1]? with | some y => Op.bytesLess y.path.toList x.path.toList | none => true)) = true := by
    by_cases h0 : i = 0
    · rw [decide_eq_true h0]; rfl
    · obtain ⟨y, hy⟩ : ∃ y, l[i - 1]? = some y := ⟨_, List.getElem?_eq_getElem (by omega)⟩
      have hl : (l.take i).length = i := by rw [List.length_take]; omega
      rw [ahead, hl, List.getElem?_take, if_pos (by omega), hy] at h2
      rw [hy, decide_eq_false h0]
      exact h2
  have e2 : (decide (par x.path.data.toList = []) || decide ((tget l (tb (par x.path.data.toList))).kind = 1)) = true := by
    unfold inF at h5
    rcases Bool.or_eq_true _ _ ▸ h5 with hp | hd
    · rw [hp]; rfl
    · have hk := isdir_kind hd
      have hg := tget_take (l := l) (k := i) (p := tb (par x.path.data.toList)) (by rw [hk]; decide)
      rw [hg, hk]
      simp
  rw [okAt_eq hx]
  simp only [Bool.and_eq_true]
  exact ⟨⟨⟨⟨by rw [h1]; rfl, h3⟩, by rw [h4]; rfl⟩, e1⟩, e2⟩
theorem par_less {p : ByteArray} (h : par p.data.toList ≠ []) : less (tb (par p.data.toList)) p = true := by
  have hb : p.data.toList = par p.data.toList ++ 47 :: bas p.data.toList := by
    rcases par_bas p.data.toList with ⟨_, h2, _⟩ | h2
    · exact absurd h2 h
    · exact h2
  have := less_app (par p.data.toList) (bas p.data.toList) 47
  rw [← hb] at this
  unfold less
  rw [ByteArray.toList_eq, ByteArray.toList_eq, tb_list]
  exact this
theorem tree_par {l : List Et} (h : tcheck l = 0) {i : Nat} {x : Et} (hx : l[i]? = some x) (hp : par x.path.data.toList ≠ []) : (tget l (tb (par x.path.data.toList))).kind = 1 := by
  have hi := (List.getElem?_eq_some_iff.1 hx).1
  have hok : okAt l i = true := by
    unfold tcheck at h
    split at h
    · cases h
    · split at h
      · next hall => exact List.all_eq_true.1 hall i (List.mem_range.2 hi)
      · cases h
  rw [okAt_eq hx] at hok
  simp only [Bool.and_eq_true, Bool.or_eq_true, decide_eq_true_eq, Bool.not_eq_true', decide_eq_false_iff_not] at hok
  exact hok.2.resolve_left hp
theorem check_fols {l : List Et} (h : tcheck l = 0) : ∀ i x, l[i]? = some x → fol (l.take i) x = true := by
  intro i x hx
  have hi := (List.getElem?_eq_some_iff.1 hx).1
  obtain ⟨h1, h3, h4', h4⟩ := tree_at h hx
  have e1 : ahead (l.take i) x.path = true := by
    have hl : (l.take i).length = i := by rw [List.length_take]; omega
    rcases h4 with rfl | ⟨y, hy, hlt⟩
    · rfl
    · by_cases h0 : i = 0
      · subst h0; rfl
      · rw [ahead, hl, List.getElem?_take, if_pos (by omega), hy]
        exact hlt
  have e2 : inF (l.take i) x.path = true := by
    unfold inF
    by_cases hp : par x.path.data.toList = []
    · rw [decide_eq_true hp]; rfl
    · have hk := tree_par h hx hp
      have hm := (tree_path_mem h (tb (par x.path.data.toList))).2 (by rw [hk]; decide)
      obtain ⟨z, hz, hzp⟩ := List.mem_map.1 hm
      obtain ⟨j, hj⟩ := List.getElem?_of_mem hz
      have hless := par_less hp
      rw [← hzp] at hless
      have hji : j < i := by
        rcases Nat.lt_or_ge j i with h5 | h5
        · exact h5
        · rcases Nat.lt_or_eq_of_le h5 with h6 | h6
          · have := tree_rise h j i x z hx hj h6
            rw [lt_asymm this] at hless
            cases hless
          · subst h6
            rw [hx] at hj
            injection hj with hj
            rw [hj, lt_irr] at hless
            cases hless
      have hg := tree_get h hz
      rw [hzp] at hg
      have hd := whole_dir (tree_at h hj).2.1 (by rw [← hg]; exact hk)
      have hjt : (l.take i)[j]? = some z := by rw [List.getElem?_take, if_pos hji]; exact hj
      have hgt : tget (l.take i) (tb (par x.path.data.toList)) = z.node := by
        refine tget_hit _ _ j z hjt hzp (fun y hy e => ?_)
        obtain ⟨m, hm⟩ := List.getElem?_of_mem hy
        have hmj : m < j := by
          have := (List.getElem?_eq_some_iff.1 hm).1
          rw [List.length_take] at this
          omega
        rw [List.getElem?_take, if_pos hmj, List.getElem?_take, if_pos (by omega)] at hm
        have := tree_rise h j m y z hm hj hmj
        rw [e, hzp, lt_irr] at this
        cases this
      rw [hgt, hd, Bool.or_true]
  unfold fol
  rw [h1, e1, h3, whole_no h3, decide_eq_false h4', e2]
  rfl
theorem check_bad {l : List Et} {i : Nat} {x : Et} (hx : l[i]? = some x) (hf : fol (l.take i) x = false) (hn : l.length ≤ 200) : tcheck l = 3 := by
  have h0 : tcheck l ≠ 0 := fun h => by
    rw [check_fols h i x hx] at hf
    cases hf
  unfold tcheck at h0 ⊢
  rw [if_neg (by omega)] at h0 ⊢
  split
  · next hall => rw [if_pos hall] at h0; exact absurd rfl h0
  · rfl
end Go.Proofs.YtdkgkomjbpggeaaGreatDoor.En

namespace Go.Proofs.YtdkgkomjbpggeaaGreatDoor.En
open Go.RowKit Tx Pm Pr
set_option linter.unusedVariables false
set_option maxRecDepth 100000 in
set_option maxHeartbeats 4000000 in
theorem tCheck_any (a : Option Addr) (n c : Nat) (l : List Et) (w : World) (hl : Ents w a n l) (hcap : n ≤ c) (hcm : c ≤ 9223372036854775807) (hn : n ≤ 1000000000) (hs : Small l) :
    Calls Tryz.prog 30 #[.slice a n c] w fun e w' => e = .returned (.int .i64 (tcheck l : Nat)) ∧ Below w.heap.size w w' := by
  have hln := hl.1
  by_cases hbig : 200 < n
  · have e : tcheck l = 4 := by rw [tcheck, if_pos (by omega)]
    rw [e]
    clear e hln hl
    go_enter Tryz.func30, Tryz.ntmps30
    go_wp2
    go_ret
    exact ⟨rfl, Below.refl _ _⟩
  by_cases h0 : n = 0
  · subst h0
    obtain rfl : l = [] := List.length_eq_zero_iff.1 hln
    have e : tcheck [] = 0 := rfl
    rw [e]
    clear hl hs e hbig
    go_enter Tryz.func30, Tryz.ntmps30
    go_wp2
    go_loop [10] (fun i => i = .int .i64 0) (fun _ => 0)
    case atStart => exact rfl
    case round =>
      obtain rfl := hrel
      go_wp2
      go_ret
      exact ⟨rfl, Below.refl _ _⟩
  have hE : Hid (Ents w a n l) := hl
  obtain ⟨b, off, rfl, hb, hc⟩ := hl.2.resolve_left h0
  have HC := Lib.hid hc
  have HS := Lib.hid hs
  have HBAD := Lib.hid (fun i x (hx : l[i]? = some x) (hf : fol (l.take i) x = false) => check_bad hx hf (by omega))
  have HGOOD := Lib.hid (fun h : fols l l.length => fols_check h (by omega))
  obtain ⟨T, hT⟩ : ∃ T, T = tcheck l := ⟨_, rfl⟩
  rw [← hT] at HBAD HGOOD
  rw [← hT]
  clear hc h0 hs hT hl
  go_enter Tryz.func30, Tryz.ntmps30
  go_wp2_with fail
  go_loopw [10] (fun i wr => ∃ k : Nat, k ≤ n ∧ i = .int .i64 k ∧ Hid (fols l k) ∧ Below w.heap.size w wr) (fun i _ => n - (intOf i).toNat)
  case atStart => exact ⟨0, Nat.zero_le _, rfl, (fun i x hi _ => absurd hi (Nat.not_lt_zero _)), Below.refl _ _⟩
  case round =>
    obtain ⟨k, hk, rfl, hgood, hB⟩ := hrel
    by_cases hlt : k < n
    · obtain ⟨x, hx⟩ : ∃ x, l[k]? = some x := ⟨_, List.getElem?_eq_getElem (by omega)⟩
      obtain ⟨c1, c2, c3⟩ := HC.out k x hx
      have hxs := HS.out x (List.mem_of_getElem? hx)
      have hri := Lib.hid (fols_rise (by omega) hgood.out)
      have cf := fun W (hW : Below w.heap.size w W) => follows_any (some ⟨b, off, none⟩) k c (l.take k) x W ((hE.out.below hW).take (by omega)) hri.out (by omega) hxs
      have hbad := HBAD.out k x hx
      have hnext := fun hf => fols_next hgood.out hx hf
      have d1 := (hB.cell (p := ⟨b, _, none⟩) hb).trans c1
      have d2 := (hB.cell (p := ⟨b, _, none⟩) hb).trans c2
      have d3 := (hB.cell (p := ⟨b, _, none⟩) hb).trans c3
      obtain ⟨F, hF⟩ : ∃ F, F = fol (l.take k) x := ⟨_, rfl⟩
      rw [← hF] at cf hbad hnext
      obtain ⟨P, K, D⟩ := x
      unfold ev at cf
      simp only at d1 d2 d3 cf
      have hltz : (k : Int) < (n : Int) := by omega
      have hkc : k ≤ c := by omega
      clear c1 c2 c3 hx hxs hF hgood hln
      cases F with
      | true =>
        have HN := Lib.hid (hnext rfl)
        clear hnext hbad
        go_wp2_with fail
        have hB2 := hB.alloc hB.size (.cells #[.string P, .int .i64 K, .string D] 73)
        go_region_with (go_at_call 66; refine (cf _ hB2.drew).mono ?_; rintro e w2 ⟨rfl, hb2⟩)
        all_goals
          have hB3 := below_call hB2.drew hb2
          go_wp2_with fail
          go_roundw
          case rel => exact ⟨k + 1, by omega, by go_num, HN, hB3⟩
          case measure => simp [intOf]; omega
      | false =>
        have hT := hbad rfl
        subst hT
        clear hnext hbad
        go_wp2_with fail
        have hB2 := hB.alloc hB.size (.cells #[.string P, .int .i64 K, .string D] 73)
        go_region_with (go_at_call 66; refine (cf _ hB2.drew).mono ?_; rintro e w2 ⟨rfl, hb2⟩)
        all_goals
          have hB3 := below_call hB2.drew hb2
          go_wp2_with fail
          go_ret
          exact ⟨rfl, hB3⟩
    · obtain rfl : k = n := by omega
      have hT := HGOOD.out (fun i x hi hx => hgood.out i x (by omega) hx)
      subst hT
      clear hgood hln
      go_wp2_with fail
      go_ret
      exact ⟨rfl, hB⟩
end Go.Proofs.YtdkgkomjbpggeaaGreatDoor.En

namespace Go.Proofs.YtdkgkomjbpggeaaGreatDoor.Az
open Go.RowKit Tx Pm Dk Wm Wr Wl Pl Tb Bl Fm
open Fr hiding sv Texts cnt cnt_snoc
open En (Et tcheck)
open Ac (Ar upd upd_same upd_other files saveA turnA backA forgetA calm Kd)
set_option linter.unusedVariables false
set_option linter.unusedSimpArgs false
set_option linter.unnecessarySimpa false
theorem ext_all (v : ByteArray) : v.extract 0 v.size = v := by
  apply ba_ext
  rw [ByteArray.data_extract, Array.toList_extract]
  simp only [List.extract_eq_take_drop, List.drop_zero, Nat.sub_zero]
  rw [← Wm.len_l v, List.take_length]
theorem zero_list : (⟨#[0]⟩ : ByteArray).toList = [0] := by rw [ByteArray.toList_eq]
def nilK : Value := .agg #[.slice none 0 0, .slice none 0 0]
theorem kept_at {W W1 : World} {B : Nat} {u v : Value} (h : W.heap[B]? = some (kO u v)) (hb : Below W.heap.size W W1) : W1.heap[B]? = some (kO u v) := (hb.block B (Array.getElem?_eq_some_iff.1 h).1).trans h
set_option maxRecDepth 100000 in
set_option maxHeartbeats 2000000 in
theorem read_bad (ub : Nat) (v : ByteArray) (w : World) (hb : Bad v) (hs : v.size ≤ 100000000) : Calls Tryz.prog 40 #[.pointer (some ⟨ub, 0, none⟩), .string v] w fun e w' => e = .returned (.tuple #[nilK, .bool false]) ∧ Below w.heap.size w w' := by
  have c := fun V => fRead_any v 0 V (by omega) (by omega) (by omega)
  obtain ⟨t, n, e0, h⟩ := trip (fr v)
  have hf : fr (v.extract 0 v.size) = (t, n, e0) := by rw [ext_all]; exact h
  have HB0 := Lib.hid ((Below.refl _ w).alloc (Nat.le_refl _) (kO (.slice none 0 0) (.slice none 0 0)))
  have HN0 := Lib.hid (new_at w (kO (.slice none 0 0) (.slice none 0 0)) (g := w.heap.size) rfl)
  unfold nilK
  by_cases he : e0 = 0
  · subst he
    have hfa := frAt_ok (s := v) (a := 0) (Nat.zero_le _) hf
    have hn : n ≤ v.size := by have := fr_le v; rw [h] at this; exact this
    have hbr := bad_read hb h
    rw [show ((0 : Nat) : Int) = 0 from rfl] at hfa
    rw [hfa] at c
    simp only [Int.zero_add] at c
    clear hb hf hfa h
    have hne : ((v.extract n v.size).toList == (⟨#[0]⟩ : ByteArray).toList) = false := Tx.bytes_ne hbr
    have hne3 : ((v.extract n v.size).toList == [0]) = false := by rw [← zero_list]; exact hne
    clear hbr
    go_enter Tryz.func40, Tryz.ntmps40
    go_wp2_with fail
    go_at_call 63
    refine (c _).mono ?_
    rintro e w1 ⟨rfl, hb1⟩
    have hn2 : (n : Int) ≤ (v.size : Int) := by omega
    have hcz := conv_zero (w1.alloc (.cells #[.int .u8 0] 5)).drew w1.heap.size (by go_simp)
    have hb2 := ((Below.refl w1.heap.size w1).alloc (Nat.le_refl _) (.cells #[.int .u8 0] 5))
    have hz := kept_at (kept_at HN0.out hb1) hb2
    have hB2 := Tx.below_call (Tx.below_call HB0.out hb1) hb2
    obtain ⟨⟨s00, s01⟩, ⟨s10, s11⟩, s3, s4⟩ := store2 (T := 80) (v0 := .slice none 0 0) (v1 := .slice none 0 0) hz (.slice none 0 0) (.slice none 0 0)
    have HB2 := Lib.hid ((hB2.trans (s4.below hB2.size (fun b hb => by omega))).drew)
    have HS3 := Lib.hid s3
    clear c hb1 hb2 hz hB2 s3 s4
    go_wp2_with fail
    go_region
    all_goals
      go_wp2_with fail
      refine bodyPost_ret (results_cell_row_tmp rfl _ _ _ _ _ _ _ rfl HS3.out Tryz.underlying80 rfl infoKp) rfl ?_
      exact ⟨rfl, HB2.out⟩
  · have hfa := frAt_bad (s := v) (a := 0) (Nat.zero_le _) hf he
    rw [show ((0 : Nat) : Int) = 0 from rfl] at hfa
    rw [hfa] at c
    have hne := neZ he
    have hne2 : ((e0 : Int) != 0) = true := by simp; omega
    clear hb hf hfa h he
    go_enter Tryz.func40, Tryz.ntmps40
    go_wp2_with fail
    go_at_call 63
    refine (c _).mono ?_
    rintro e w1 ⟨rfl, hb1⟩
    have hb2 := Below.refl w1.heap.size w1
    have hz := kept_at (kept_at HN0.out hb1) hb2
    have hB2 := Tx.below_call (Tx.below_call HB0.out hb1) hb2
    obtain ⟨⟨s00, s01⟩, ⟨s10, s11⟩, s3, s4⟩ := store2 (T := 80) (v0 := .slice none 0 0) (v1 := .slice none 0 0) hz (.slice none 0 0) (.slice none 0 0)
    have HB2 := Lib.hid ((hB2.trans (s4.below hB2.size (fun b hb => by omega))).drew)
    have HS3 := Lib.hid s3
    clear c hb1 hb2 hz hB2 s3 s4
    go_wp2_with fail
    go_region
    all_goals
      go_wp2_with fail
      refine bodyPost_ret (results_cell_row_tmp rfl _ _ _ _ _ _ _ rfl HS3.out Tryz.underlying80 rfl infoKp) rfl ?_
      exact ⟨rfl, HB2.out⟩
theorem small_of {t : List Et} (h : ∀ x ∈ t, Eok x) : En.Small t := fun x hx => ⟨by have := (h x hx).path; omega, by have := (h x hx).data; omega⟩
set_option maxRecDepth 100000 in
set_option maxHeartbeats 4000000 in
theorem read_ok {ub : Nat} {κ : ByteArray → ByteArray} (t : List Et) (w : World) (ht : tcheck t = 0) (hκ : ∀ x ∈ t, x.node.kind = 2 → (κ x.node.data).size ≤ 14) (hbk : Ac.bk t ≤ 10000000)
    (hg : ∀ x ∈ t, x.node.kind = 2 → ∀ V, Below w.heap.size w V → Calls Tryz.prog 144 #[.pointer (some ⟨ub, 0, none⟩), .string (κ x.node.data)] V fun e w' => e = .returned (.tuple #[.string x.node.data, .int .i64 0]) ∧ Below V.heap.size V w') :
    Calls Tryz.prog 40 #[.pointer (some ⟨ub, 0, none⟩), .string (val16 κ t)] w fun e w' => ∃ v vk, e = .returned (.tuple #[.agg #[v, vk], .bool true]) ∧ En.Own w' w.heap.size v t ∧ Texts w' w.heap.size vk ((files t).map κ) ∧ Below w.heap.size w w' := by
  obtain ⟨hlen, hok⟩ := ok_all ht hbk
  obtain ⟨z1, z2, z3⟩ := val16_size (κ := κ) ht hbk hκ
  have hfr := fr_vz (cat (rpP κ t)) (by omega)
  have hrest := vz_rest (cat (rpP κ t))
  have hn : (Fm.pk (cat (rpP κ t))).size ≤ (val16 κ t).size := by unfold val16 vz; rw [ByteArray.size_append]; omega
  have c := fun V => fRead_any (val16 κ t) 0 V (by omega) (by omega) (by omega)
  have hfa := frAt_ok (s := val16 κ t) (a := 0) (Nat.zero_le _) (t := cat (rpP κ t)) (n := (Fm.pk (cat (rpP κ t))).size) (by rw [ext_all]; exact hfr)
  rw [show ((0 : Nat) : Int) = 0 from rfl] at hfa
  rw [hfa] at c
  simp only [Int.zero_add] at c
  have HR2 : Hid ((val16 κ t).extract (Fm.pk (cat (rpP κ t))).size (val16 κ t).size = ⟨#[0]⟩) := Lib.hid hrest
  have hcp := fun V (hV : Below w.heap.size w V) => parse_any (ub := ub) (κ := κ) t V hok hlen hκ hbk (fun x hx hk W hW => hg x hx hk W (Tx.below_call hV hW))
  rw [← show cat (rpP κ t) = La (rpL κ t) from cat_rp κ t] at hcp
  have HB0 := Lib.hid ((Below.refl _ w).alloc (Nat.le_refl _) (kO (.slice none 0 0) (.slice none 0 0)))
  have HN0 := Lib.hid (new_at w (kO (.slice none 0 0) (.slice none 0 0)) (g := w.heap.size) rfl)
  have hck := fun V a c (hE : En.Ents V a t.length t) (h1 : t.length ≤ c) (h2 : c ≤ maxLen) => En.tCheck_any a t.length c t V hE h1 (by unfold maxLen at h2; omega) (by omega) (small_of hok)
  rw [ht] at hck
  generalize val16 κ t = v at *
  generalize cat (rpP κ t) = r at *
  obtain ⟨n, hn3⟩ : ∃ n, n = (Fm.pk r).size := ⟨_, rfl⟩
  rw [← hn3] at c hn HR2
  have hne : ((v.extract n v.size).toList == (⟨#[0]⟩ : ByteArray).toList) = true := by rw [HR2.out]; exact beq_self_eq_true _
  have hne3 : ((v.extract n v.size).toList == [0]) = true := by rw [← zero_list]; exact hne
  clear hfr hrest hfa z1 z2 z3 hn3 hg hok hκ hlen ht hbk
  go_enter Tryz.func40, Tryz.ntmps40
  go_wp2_with fail
  go_at_call 63
  refine (c _).mono ?_
  rintro e w1 ⟨rfl, hb1⟩
  have hn2 : (n : Int) ≤ (v.size : Int) := by omega
  have hcz := conv_zero (w1.alloc (.cells #[.int .u8 0] 5)).drew w1.heap.size (by go_simp)
  have hb2 := (((Below.refl w1.heap.size w1).alloc (Nat.le_refl _) (.cells #[.int .u8 0] 5))).drew
  have HZ := Lib.hid (kept_at (kept_at HN0.out hb1) hb2)
  have HB2 := Lib.hid (Tx.below_call (Tx.below_call HB0.out hb1) hb2)
  have hp := hcp _ HB2.out
  clear c hb1 hb2 hcp
  go_wp2_with fail
  go_region
  all_goals
    go_wp2_with fail
    go_at_call 78
    refine hp.mono ?_
    rintro e w3 ⟨v3, vk, rfl, hO, hTx, hb3⟩
    obtain ⟨a, c, rfl, hE, hlc, hcm⟩ := hO.form
    have hck2 := hck (w3.alloc (kO (.slice a t.length c) vk)) a c (hE.below ((Below.refl _ _).alloc (Nat.le_refl _) _)) hlc hcm
    obtain ⟨ak, ck, hvk, _⟩ := hTx.form
    rw [List.length_map] at hvk
    subst hvk
    have hz3 := kept_at HZ.out hb3
    have hN3 := new_at w3 (kO (.slice a t.length c) (.slice ak (files t).length ck)) (g := w3.heap.size) rfl
    have hB3 := Tx.below_call HB2.out hb3
    have hgt : w.heap.size < (w1.alloc (.cells #[.int .u8 0] 5)).drew.heap.size := (Array.getElem?_eq_some_iff.1 HZ.out).1
    have HO2 := Lib.hid hO
    have HT2 := Lib.hid hTx
    have HB3 := Lib.hid hB3
    have HZ3 := Lib.hid hz3
    have HN3 := Lib.hid hN3
    clear hO hTx hE hB3 hz3 hN3 hb3
    go_wp2_with fail
    go_at_call 30
    refine hck2.mono ?_
    rintro e w4 ⟨rfl, hb4⟩
    have hb34 := Tx.below_call ((Below.refl w3.heap.size w3).alloc (Nat.le_refl _) (kO (.slice a t.length c) (.slice ak (files t).length ck))) hb4
    have hz4 := kept_at HZ3.out hb34
    have hN4 := kept_at HN3.out hb4
    have hB4 := Tx.below_call HB3.out hb34
    have k0 : w4.cell? ⟨w3.heap.size, 0, none⟩ = some (.slice a t.length c) := by unfold World.cell?; rw [hN4]; rfl
    have k1 : w4.cell? ⟨w3.heap.size, 1, none⟩ = some (.slice ak (files t).length ck) := by unfold World.cell?; rw [hN4]; rfl
    obtain ⟨⟨s00, s01⟩, ⟨s10, s11⟩, s3, s4⟩ := store2 (T := 80) (v0 := .slice none 0 0) (v1 := .slice none 0 0) hz4 (.slice a t.length c) (.slice ak (files t).length ck)
    have HB4 := Lib.hid (hB4.trans (s4.below hB4.size (fun b hb => by omega)))
    have HS3 := Lib.hid s3
    have hO4 := HO2.out.below hb34
    have hT4 := HT2.out.below hb34
    have HO4 := Lib.hid (own_less (own_chg hO4 s4 (fun g hg e => by have := (hO4.lt g hg).1; omega)) (Nat.le_of_lt hgt))
    have HT4 := Lib.hid (own_less (own_chg hT4 s4 (fun g hg e => by have := (hT4.lt g hg).1; omega)) (Nat.le_of_lt hgt))
    clear hO4 hT4 s4
    clear hck2 hck hz4 hN4 hB4 hb34 hb4 s3
    go_wp2_with fail
    refine bodyPost_ret (results_cell_row_tmp rfl _ _ _ _ _ _ _ rfl HS3.out Tryz.underlying80 rfl infoKp) rfl ?_
    exact ⟨_, _, rfl, HO4.out, HT4.out, HB4.out⟩
end Go.Proofs.YtdkgkomjbpggeaaGreatDoor.Az
