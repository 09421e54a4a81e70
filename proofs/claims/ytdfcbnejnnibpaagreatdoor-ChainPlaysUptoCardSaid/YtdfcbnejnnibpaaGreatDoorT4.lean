/- Texts of this seat, one behind the other. -/
import Derived.Test.YtdfcbnejnnibpaaGreatDoorT3
import Derived.Maps.Own
import Derived.Laws.OwnMore
import Derived.OwnWalk
import Derived.Lib.AppendStr
import Derived.Sort.OwnSortedInts
import Derived.Lib.AtoiErrMem
namespace Go.Proofs.YtdfcbnejnnibpaaGreatDoor.Dm
open Wm
def pc (base l : List UInt8) (room : Nat) : List UInt8 × Nat × Nat :=
  if (rdU l).2.2 ≠ 0 then ([], 0, (rdU l).2.2)
  else if (rdU l).1 / 2 = 0 ∨ room < (rdU l).1 / 2 then ([], 0, 3)
  else if (rdU l).1 % 2 = 1 then
    (if (rdU (l.drop (rdU l).2.1)).2.2 ≠ 0 then ([], 0, (rdU (l.drop (rdU l).2.1)).2.2)
    else if base.length < (rdU (l.drop (rdU l).2.1)).1 + (rdU l).1 / 2 then ([], 0, 3)
    else ((base.drop (rdU (l.drop (rdU l).2.1)).1).take ((rdU l).1 / 2), (rdU l).2.1 + (rdU (l.drop (rdU l).2.1)).2.1, 0))
  else if l.length - (rdU l).2.1 < (rdU l).1 / 2 then ([], 0, 2)
  else ((l.drop (rdU l).2.1).take ((rdU l).1 / 2), (rdU l).2.1 + (rdU l).1 / 2, 0)
theorem rdU_pos {l : List UInt8} (h : (rdU l).2.2 = 0) : 0 < (rdU l).2.1 ∧ (rdU l).2.1 ≤ l.length ∧ (rdU l).1 ≤ 9223372036854775807 := by
  rcases rdU_cases l with ⟨h1, _⟩ | ⟨h1, _⟩ | ⟨_, _, _, _, h1⟩ | ⟨x, n, h2, hx, h1⟩
  · rw [h1] at h; simp at h
  · rw [h1] at h; simp at h
  · rw [h1] at h; simp at h
  · rw [h1]
    have := rd_ok h2
    exact ⟨this.2.2.1, this.1, hx⟩
theorem pc_ok {base l : List UInt8} {room : Nat} (h : (pc base l room).2.2 = 0) : 0 < (pc base l room).2.1 ∧ (pc base l room).2.1 ≤ l.length ∧ (pc base l room).1.length ≤ room ∧ 0 < (pc base l room).1.length := by
  unfold pc at h ⊢
  split at h
  · rename_i h1; exact absurd h h1
  · rename_i h1
    have p1 := rdU_pos (by simpa using h1)
    split at h
    · simp at h
    · rename_i h2
      split at h
      · rename_i h3
        split at h
        · rename_i h4; exact absurd h h4
        · rename_i h4
          have p2 := rdU_pos (by simpa using h4)
          rw [List.length_drop] at p2
          split at h
          · simp at h
          · rename_i h5
            rw [if_neg h1, if_neg h2, if_pos h3, if_neg h4, if_neg h5]
            simp only [List.length_take, List.length_drop]
            omega
      · rename_i h3
        split at h
        · simp at h
        · rename_i h4
          rw [if_neg h1, if_neg h2, if_neg h3, if_neg h4]
          simp only [List.length_take, List.length_drop]
          omega
def apR (base : List UInt8) (size : Nat) (text rest : List UInt8) : List UInt8 × Nat :=
  if rest = [] then (if text.length < size then ([], 2) else (text, 0))
  else if _h : (pc base rest (size - text.length)).2.2 ≠ 0 then ([], (pc base rest (size - text.length)).2.2)
  else apR base size (text ++ (pc base rest (size - text.length)).1) (rest.drop (pc base rest (size - text.length)).2.1)
termination_by rest.length
decreasing_by
  have := pc_ok (by simpa using _h)
  rw [List.length_drop]
  omega
def ap (base d : List UInt8) : List UInt8 × Nat :=
  if (rdU d).2.2 ≠ 0 then ([], (rdU d).2.2)
  else if 4096 < (rdU d).1 then ([], 4)
  else apR base (rdU d).1 [] (d.drop (rdU d).2.1)
theorem apR_end (base : List UInt8) (size : Nat) (text : List UInt8) : apR base size text [] = if text.length < size then ([], 2) else (text, 0) := by
  rw [apR, if_pos rfl]
theorem apR_bad {base : List UInt8} {size : Nat} {text rest : List UInt8} {e : Nat} (h : rest ≠ []) (h2 : (pc base rest (size - text.length)).2.2 = e) (h3 : e ≠ 0) : apR base size text rest = ([], e) := by
  subst h2
  rw [apR, if_neg h, dif_pos h3]
theorem apR_more {base : List UInt8} {size : Nat} {text rest p : List UInt8} {m : Nat} (h : rest ≠ []) (h2 : pc base rest (size - text.length) = (p, m, 0)) : apR base size text rest = apR base size (text ++ p) (rest.drop m) := by
  rw [apR, if_neg h, dif_neg (by rw [h2]; simp), h2]
theorem rdU_vb (x : Nat) (r : List UInt8) (h : x ≤ 9223372036854775807) : rdU (vb x ++ r) = (x, (vb x).length, 0) := by
  have := rd_vb x r (by omega)
  unfold rdU
  rw [this, if_neg (by simp; omega)]
theorem vb_ne (x : Nat) (r : List UInt8) : vb x ++ r ≠ [] := by
  intro h
  have := congrArg List.length h
  have h2 := vb_pos x
  rw [List.length_append, List.length_nil] at this
  omega
def put (x : List UInt8) : List UInt8 := if x = [] then [] else vb (2 * x.length) ++ x
def cop (i n : Nat) : List UInt8 := vb (2 * n + 1) ++ vb i
theorem ap_put {base : List UInt8} {size : Nat} {text x r : List UInt8} (hx : text.length + x.length ≤ size) (hs : x.length ≤ 4611686018427387903) : apR base size text (put x ++ r) = apR base size (text ++ x) r := by
  unfold put
  by_cases h : x = []
  · subst h
    simp
  · have hl : 0 < x.length := List.length_pos_iff.2 h
    rw [if_neg h, List.append_assoc]
    have hr := rdU_vb (2 * x.length) (x ++ r) (by omega)
    have hp : pc base (vb (2 * x.length) ++ (x ++ r)) (size - text.length) = (x, (vb (2 * x.length)).length + x.length, 0) := by
      unfold pc
      rw [hr]
      simp only
      rw [if_neg (by simp), if_neg (by omega), if_neg (by omega), if_neg (by rw [List.length_append, List.length_append]; omega), List.drop_left, show 2 * x.length / 2 = x.length by omega, List.take_left]
    rw [apR_more (vb_ne _ _) hp, ← List.append_assoc, ← List.length_append, List.drop_left]
theorem ap_cop {base : List UInt8} {size i n : Nat} {text r : List UInt8} (h0 : 0 < n) (hx : text.length + n ≤ size) (hn : n ≤ 4611686018427387903) (hb : i + n ≤ base.length) (hbl : base.length ≤ 9223372036854775807) :
    apR base size text (cop i n ++ r) = apR base size (text ++ (base.drop i).take n) r := by
  unfold cop
  rw [List.append_assoc]
  have hr := rdU_vb (2 * n + 1) (vb i ++ r) (by omega)
  have hr2 := rdU_vb i r (by omega)
  have hp : pc base (vb (2 * n + 1) ++ (vb i ++ r)) (size - text.length) = ((base.drop i).take n, (vb (2 * n + 1)).length + (vb i).length, 0) := by
    unfold pc
    rw [hr]
    simp only
    rw [if_neg (by simp), if_neg (by omega), if_pos (by omega), List.drop_left, hr2]
    simp only
    rw [if_neg (by simp), if_neg (by omega), show (2 * n + 1) / 2 = n by omega]
  rw [apR_more (vb_ne _ _) hp, ← List.append_assoc, ← List.length_append, List.drop_left]
def cp : List UInt8 → List UInt8 → Nat
  | a :: r, b :: s => if a = b then cp r s + 1 else 0
  | _, _ => 0
theorem cp_le : ∀ (a b : List UInt8), cp a b ≤ a.length ∧ cp a b ≤ b.length
  | [], b => by simp [cp]
  | _ :: _, [] => by simp [cp]
  | a :: r, b :: s => by
    have := cp_le r s
    unfold cp
    split <;> simp <;> omega
theorem cp_take : ∀ (a b : List UInt8) (n : Nat), n ≤ cp a b → a.take n = b.take n
  | [], b, n, h => by simp [cp] at h; subst h; simp
  | _ :: _, [], n, h => by simp [cp] at h; subst h; simp
  | a :: r, b :: s, 0, h => by simp
  | a :: r, b :: s, n + 1, h => by
    unfold cp at h
    split at h
    · rename_i he
      have := cp_take r s n (by omega)
      subst he
      simp [this]
    · omega
theorem cp_self : ∀ a : List UInt8, cp a a = a.length
  | [] => rfl
  | a :: r => by simp [cp, cp_self r]
theorem cp_stop : ∀ (a b : List UInt8) (n : Nat) , n < b.length → (a.length ≤ n ∨ a.getD n 0 ≠ b.getD n 0) → cp a b ≤ n
  | [], b, n, _, _ => by simp [cp]
  | _ :: _, [], n, _, _ => by simp [cp]
  | a :: r, b :: s, 0, _, h => by
    unfold cp
    split
    · rename_i he
      subst he
      simp at h
    · omega
  | a :: r, b :: s, n + 1, h1, h => by
    unfold cp
    split
    · have := cp_stop r s n (by simpa using h1) (by simpa using h)
      omega
    · omega
theorem cp_step : ∀ (a b : List UInt8) (n : Nat), n ≤ cp a b → n < a.length → n < b.length → (a.getD n 0 = b.getD n 0) → n + 1 ≤ cp a b
  | [], b, n, _, h, _, _ => by simp at h
  | _ :: _, [], n, _, _, h, _ => by simp at h
  | a :: r, b :: s, 0, _, _, _, h => by
    unfold cp
    rw [if_pos (by simpa using h)]
    omega
  | a :: r, b :: s, n + 1, h, h1, h2, h3 => by
    unfold cp at h ⊢
    split at h
    · rename_i he
      have := cp_step r s n (by omega) (by simpa using h1) (by simpa using h2) (by simpa using h3)
      rw [if_pos he]
      omega
    · omega
def blk (l : List UInt8) (i : Nat) : Nat := (l.getD i 0).toNat + 256 * (l.getD (i + 1) 0).toNat + 65536 * (l.getD (i + 2) 0).toNat + 16777216 * (l.getD (i + 3) 0).toNat
theorem blk_lt (l : List UInt8) (i : Nat) : blk l i < 4294967296 := by
  unfold blk
  have h0 := getD_lt l i
  have h1 := getD_lt l (i + 1)
  have h2 := getD_lt l (i + 2)
  have h3 := getD_lt l (i + 3)
  omega
def fs (l : List UInt8) (m : Nat) : Nat → Nat → Nat
  | 0, _ => 0
  | k + 1, key => if blk l (m - 1 - k) = key then m - 1 - k + 1 else fs l m k key
def pl (l : List UInt8) : Nat := l.length - 3
def nx (l : List UInt8) (i : Nat) : Nat := if i < pl l then fs l (pl l) (pl l - 1 - i) (blk l i) else 0
theorem fs_le (l : List UInt8) (m : Nat) : ∀ k key, k ≤ m → fs l m k key ≤ m
  | 0, _, _ => by simp [fs]
  | k + 1, key, h => by
    unfold fs
    split
    · omega
    · exact fs_le l m k key (by omega)
theorem nx_le (l : List UInt8) (i : Nat) : nx l i ≤ pl l := by
  unfold nx
  split
  · exact fs_le _ _ _ _ (by omega)
  · omega
def lgL (base s : List UInt8) : Nat → Nat → Nat → Nat → Nat × Nat
  | 0, _, i, n => (i, n)
  | _ + 1, 0, i, n => (i, n)
  | t + 1, a + 1, i, n => if n < s.length then (if n < cp (base.drop a) s then lgL base s t (nx base a) a (cp (base.drop a) s) else lgL base s t (nx base a) i n) else (i, n)
def lg0 (base s : List UInt8) (k : Int) : Nat × Nat := if 0 ≤ k ∧ k < base.length then (k.toNat, cp (base.drop k.toNat) s) else (0, 0)
def lg (base s : List UInt8) (k : Int) : Nat × Nat := if s.length < 4 then (0, 0) else lgL base s 256 (fs base (pl base) (pl base) (blk s 0)) (lg0 base s k).1 (lg0 base s k).2
def Run (base s : List UInt8) (r : Nat × Nat) : Prop := r.1 + r.2 ≤ base.length ∧ r.2 ≤ s.length ∧ (base.drop r.1).take r.2 = s.take r.2
theorem run_none (base s : List UInt8) : Run base s (0, 0) := ⟨by simp, by simp, by simp⟩
theorem run_cp {base s : List UInt8} {i : Nat} (h : i ≤ base.length) : Run base s (i, cp (base.drop i) s) := by
  have h1 := cp_le (base.drop i) s
  rw [List.length_drop] at h1
  exact ⟨by simp only; omega, h1.2, cp_take _ _ _ (Nat.le_refl _)⟩
theorem run_lgL {base s : List UInt8} : ∀ (t a i n : Nat), a ≤ base.length → Run base s (i, n) → Run base s (lgL base s t a i n)
  | 0, _, _, _, _, h => by simpa [lgL] using h
  | _ + 1, 0, _, _, _, h => by simpa [lgL] using h
  | t + 1, a + 1, i, n, ha, h => by
    have hn : nx base a ≤ base.length := by have := nx_le base a; unfold pl at this; omega
    unfold lgL
    split
    · split
      · exact run_lgL t _ _ _ hn (run_cp (by omega))
      · exact run_lgL t _ _ _ hn h
    · exact h
theorem run_lg0 (base s : List UInt8) (k : Int) : Run base s (lg0 base s k) := by
  unfold lg0
  split
  · exact run_cp (by omega)
  · exact run_none _ _
theorem run_lg (base s : List UInt8) (k : Int) : Run base s (lg base s k) := by
  unfold lg
  split
  · exact run_none _ _
  · refine run_lgL _ _ _ _ ?_ (run_lg0 _ _ _)
    have := fs_le base (pl base) (pl base) (blk s 0) (Nat.le_refl _)
    unfold pl at this ⊢
    omega
def enR (base text : List UInt8) (at_ told : Nat) (shift : Int) (out : List UInt8) : List UInt8 :=
  if at_ < text.length then
    (if h : (lg base (text.drop at_) (at_ + shift)).2 < (cop (lg base (text.drop at_) (at_ + shift)).1 (lg base (text.drop at_) (at_ + shift)).2).length + 2 then enR base text (at_ + 1) told shift out
    else enR base text (at_ + (lg base (text.drop at_) (at_ + shift)).2) (at_ + (lg base (text.drop at_) (at_ + shift)).2) ((lg base (text.drop at_) (at_ + shift)).1 - at_) (out ++ put ((text.take at_).drop told) ++ cop (lg base (text.drop at_) (at_ + shift)).1 (lg base (text.drop at_) (at_ + shift)).2))
  else out ++ put (text.drop told)
termination_by text.length - at_
def en (base text : List UInt8) : List UInt8 := enR base text 0 0 0 (vb text.length)
theorem en_tells (base text : List UInt8) (hb : base.length ≤ 4611686018427387903) (ht : text.length ≤ 4611686018427387903) : ∀ (f at_ told : Nat) (shift : Int) (out : List UInt8), text.length - at_ ≤ f → told ≤ at_ → at_ ≤ text.length →
    ∃ suf, enR base text at_ told shift out = out ++ suf ∧ apR base text.length (text.take told) suf = (text, 0) ∧ (base.length ≤ 8191 → text.length ≤ 8191 → told + suf.length ≤ text.length + 2)
  | f, at_, told, shift, out, hf, h1, h2 => by
    rw [enR]
    by_cases hlt : at_ < text.length
    · rw [if_pos hlt]
      have hrun := run_lg base (text.drop at_) (at_ + shift)
      obtain ⟨r, hr⟩ : ∃ r, r = lg base (text.drop at_) (at_ + shift) := ⟨_, rfl⟩
      rw [← hr] at hrun ⊢
      obtain ⟨i, n⟩ := r
      simp only
      cases f with
      | zero => omega
      | succ f =>
        split
        · exact en_tells base text hb ht f (at_ + 1) told shift out (by omega) (by omega) (by omega)
        · rename_i hp
          obtain ⟨ha, hn, he⟩ := hrun
          simp only [List.length_drop] at ha hn he hp
          have hcop : 0 < (cop i n).length := by unfold cop; rw [List.length_append]; have := vb_pos (2 * n + 1); omega
          obtain ⟨suf, e1, e2, e3⟩ := en_tells base text hb ht f (at_ + n) (at_ + n) (i - at_) (out ++ put ((text.take at_).drop told) ++ cop i n) (by omega) (by omega) (by omega)
          refine ⟨put ((text.take at_).drop told) ++ cop i n ++ suf, by rw [e1]; simp [List.append_assoc], ?_, ?_⟩
          · have hd : text.take told ++ (text.take at_).drop told = text.take at_ := by
              have := List.take_append_drop told (text.take at_)
              rwa [List.take_take, Nat.min_eq_left h1] at this
            have hl : (text.take told).length + ((text.take at_).drop told).length ≤ text.length := by
              rw [← List.length_append, hd, List.length_take]
              omega
            rw [List.append_assoc, ap_put hl (by omega), hd, ap_cop (by omega) (by rw [List.length_take]; omega) (by omega) ha (by omega), he]
            rw [List.take_add] at e2
            exact e2
          · intro hb8 ht8
            have e3 := e3 hb8 ht8
            have hput : (put ((text.take at_).drop told)).length ≤ at_ - told + 2 := by
              unfold put
              split
              · simp
              · rw [List.length_append, List.length_drop, List.length_take]
                have := vb_len_le 1 (2 * (min at_ text.length - told)) (by omega)
                omega
            rw [List.length_append, List.length_append]
            omega
    · rw [if_neg hlt]
      refine ⟨put (text.drop told), rfl, ?_, ?_⟩
      · have := ap_put (base := base) (size := text.length) (text := text.take told) (x := text.drop told) (r := []) (by rw [List.length_take, List.length_drop]; omega) (by rw [List.length_drop]; omega)
        rw [List.append_nil] at this
        rw [this, List.take_append_drop, apR_end, if_neg (by omega)]
      · intro _ ht8
        unfold put
        split
        · simp; omega
        · rw [List.length_append, List.length_drop]
          have := vb_len_le 1 (2 * (text.length - told)) (by omega)
          omega
theorem ap_en (base text : List UInt8) (hb : base.length ≤ 4611686018427387903) (ht : text.length ≤ 4611686018427387903) : ap base (en base text) = if 4096 < text.length then ([], 4) else (text, 0) := by
  obtain ⟨suf, h1, h2, _⟩ := en_tells base text hb ht text.length 0 0 0 (vb text.length) (by omega) (by omega) (by omega)
  unfold ap en
  rw [h1, rdU_vb _ _ (by omega)]
  simp only
  rw [if_neg (by simp), List.drop_left]
  split
  · rfl
  · simpa using h2
theorem lgL_full (base s : List UInt8) (t a i n : Nat) (h : s.length ≤ n) : lgL base s t a i n = (i, n) := by
  cases t with
  | zero => rfl
  | succ t =>
    cases a with
    | zero => rfl
    | succ a => rw [lgL, if_neg (by omega)]
theorem en_same (base : List UInt8) (h8 : 8 ≤ base.length) (hb : base.length ≤ 4096) : (en base base).length ≤ 8 := by
  have h0 : lg base (base.drop 0) (((0 : Nat) : Int) + 0) = (0, base.length) := by
    unfold lg
    rw [if_neg (by simp; omega)]
    have : lg0 base (base.drop 0) (((0 : Nat) : Int) + 0) = (0, base.length) := by
      unfold lg0
      rw [if_pos ⟨by omega, by omega⟩]
      simp [cp_self]
    rw [this]
    exact lgL_full _ _ _ _ _ _ (by simp)
  have hc : (cop 0 base.length).length ≤ 3 := by
    unfold cop
    rw [List.length_append]
    have h1 := vb_len_le 1 (2 * base.length + 1) (by omega)
    have h2 := vb_len_le 0 0 (by omega)
    omega
  have hv := vb_len_le 1 base.length (by omega)
  unfold en
  rw [enR, if_pos (by omega), h0]
  simp only
  rw [dif_neg (by omega), enR, if_neg (by omega)]
  simp [put]
  omega
end Go.Proofs.YtdfcbnejnnibpaaGreatDoor.Dm

namespace Go.Proofs.YtdfcbnejnnibpaaGreatDoor.Cn
open Go.RowKit Tx Pm Dk Wm Wr Wl Pl Tb Bl
set_option linter.unusedVariables false
set_option linter.unusedSimpArgs false
set_option linter.unnecessarySimpa false
theorem dec_dig (n : Nat) : ∀ b ∈ Lib.decDigits n, 48 ≤ b.toNat ∧ b.toNat ≤ 57 := by
  induction n using Nat.strongRecOn with
  | _ n ih =>
    have hd : ∀ k, k < 10 → 48 ≤ (UInt8.ofNat (48 + k)).toNat ∧ (UInt8.ofNat (48 + k)).toNat ≤ 57 := fun k hk => by
      rw [UInt8.toNat_ofNat']
      omega
    by_cases h : n < 10
    · rw [Lib.decDigits_one h]
      intro b hb
      rw [List.mem_singleton.1 hb]
      exact hd n h
    · rw [Lib.decDigits, dif_neg h]
      intro b hb
      rcases List.mem_append.1 hb with hb | hb
      · exact ih (n / 10) (by omega) b hb
      · rw [List.mem_singleton.1 hb]
        exact hd _ (by omega)
theorem dec_ne (n : Nat) : Lib.decDigits n ≠ [] := fun h => by
  have h1 := Lib.decDigits_length n
  have h2 := Lib.nDigits_pos n
  rw [h] at h1
  simp at h1
  omega
theorem itoa_inj {a b : Int} (h : Lib.itoa a = Lib.itoa b) : a = b := by
  have hno : ∀ (k : Nat) (r : List UInt8), Lib.decDigits k ≠ 45 :: r := fun k r e => by
    have := dec_dig k 45 (by rw [e]; exact List.mem_cons_self ..)
    revert this
    decide
  unfold Lib.itoa at h
  split at h
  · split at h
    · injection h with _ h
      have := dec_inj h
      omega
    · exact absurd h.symm (hno _ _)
  · split at h
    · exact absurd h (hno _ _)
    · have := dec_inj h
      omega
theorem decFrom_snoc (b : UInt8) (d : Nat) (hd : Lib.digitVal b = some d) : ∀ (l : List UInt8) (acc n : Nat), Lib.decFrom acc l = some n → Lib.decFrom acc (l ++ [b]) = some (n * 10 + d)
  | [], acc, n, h => by
    simp only [Lib.decFrom, Option.some.injEq] at h
    subst h
    simp [Lib.decFrom, hd]
  | a :: t, acc, n, h => by
    simp only [Lib.decFrom, List.cons_append] at h ⊢
    cases ha : Lib.digitVal a with
    | none => simp [ha] at h
    | some e =>
      simp only [ha] at h ⊢
      exact decFrom_snoc b d hd t _ n h
theorem dig_some {k : Nat} (h : k < 10) : Lib.digitVal (UInt8.ofNat (48 + k)) = some k := by
  unfold Lib.digitVal
  have e : (UInt8.ofNat (48 + k)).toNat = 48 + k := by rw [UInt8.toNat_ofNat']; omega
  rw [e, if_pos (by omega)]
  congr 1
  omega
theorem decFrom_dec (n : Nat) : Lib.decFrom 0 (Lib.decDigits n) = some n := by
  induction n using Nat.strongRecOn with
  | _ n ih =>
    by_cases h : n < 10
    · rw [Lib.decDigits_one h]
      simp only [Lib.decFrom, dig_some h, Nat.zero_mul, Nat.zero_add]
    · rw [Lib.decDigits, dif_neg h, decFrom_snoc _ _ (dig_some (Nat.mod_lt n (by omega))) _ _ _ (ih (n / 10) (by omega))]
      congr 1
      omega
theorem atoi_dec (n : Nat) : Lib.atoi (Lib.decDigits n) = some (n : Int) := by
  have hne := dec_ne n
  have hdg := dec_dig n
  have hdf := decFrom_dec n
  generalize Lib.decDigits n = l at hne hdg hdf
  cases l with
  | nil => exact absurd rfl hne
  | cons b r =>
    have hb := hdg b (List.mem_cons_self ..)
    have h1 : (b == 45) = false := by
      rw [beq_eq_false_iff_ne]
      rintro rfl
      revert hb
      decide
    have h2 : (b == 43) = false := by
      rw [beq_eq_false_iff_ne]
      rintro rfl
      revert hb
      decide
    simp only [Lib.atoi, h1, h2, Bool.false_eq_true, if_false, Lib.decNat, hdf, List.isEmpty_cons]
    rfl
def pV : ByteArray := ⟨#[118, 47]⟩
def nK : ByteArray := ⟨#[110, 101, 120, 116]⟩
def itoaB (n : Int) : ByteArray := ⟨(Lib.itoa n).toArray⟩
def keyI (n : Int) : ByteArray := pV ++ itoaB n
theorem keyI_list (n : Int) : (keyI n).data.toList = [118, 47] ++ Lib.itoa n := by
  unfold keyI
  rw [app_l]
  rfl
theorem keyI_inj {a b : Int} (h : keyI a = keyI b) : a = b := by
  have h1 := congrArg (·.data.toList) h
  simp only [keyI_list, List.cons_append, List.nil_append, List.cons.injEq, true_and] at h1
  exact itoa_inj h1
theorem beg_keyI (n : Int) : beg pV (keyI n) = true := (beg_iff _ _).2 ⟨Lib.itoa n, keyI_list n⟩
theorem beg_nK : beg pV nK = false := by decide +kernel
theorem itoa_nat (n : Nat) : Lib.itoa (n : Int) = Lib.decDigits n := by unfold Lib.itoa; rw [if_neg (by omega)]; rfl
theorem itoaB_size {n : Int} (h : -9223372036854775808 ≤ n ∧ n ≤ 9223372036854775807) : (itoaB n).size ≤ 20 := by
  have e : (itoaB n).size = (Lib.itoa n).length := by simp [itoaB, ByteArray.size]
  rw [e]
  unfold Lib.itoa
  split
  · rw [List.length_cons, Lib.decDigits_length]
    have := nDigits_le 19 n.natAbs (by omega) (by omega)
    omega
  · rw [Lib.decDigits_length]
    have := nDigits_le 19 n.toNat (by omega) (by omega)
    omega
theorem keyI_size {n : Int} (h : -9223372036854775808 ≤ n ∧ n ≤ 9223372036854775807) : (keyI n).size ≤ 22 := by
  have := itoaB_size h
  unfold keyI
  rw [ByteArray.size_append]
  have e : pV.size = 2 := rfl
  omega
structure Vn where
  id : Nat
  near : Nat
  kept : ByteArray
def atI (C : List Vn) (n : Int) : Option Vn := C.find? (fun v => decide ((v.id : Int) = n))
theorem atI_some {C : List Vn} {n : Int} {v : Vn} (h : atI C n = some v) : v ∈ C ∧ (v.id : Int) = n := ⟨List.mem_of_find?_eq_some h, of_decide_eq_true (List.find?_some (p := fun v : Vn => decide ((v.id : Int) = n)) h)⟩
def vrow (v : Vn) : It := rw7 (keyI v.id) (enc v.near v.kept)
structure Rp (R : List It) (C : List Vn) (M : Nat) : Prop where
  rises : Rises R
  look : ∀ p, beg pV p = true → find R p = (C.find? (fun v => decide (keyI v.id = p))).map vrow
  next : find R nK = if M = 0 then none else some (rw7 nK (vs (M + 1)))
def ln (C : List Vn) : Nat → Int → List Vn
  | 0, _ => []
  | f + 1, n => match atI C n with
    | none => []
    | some v => v :: ln C f v.near
def ct : List Vn → ByteArray
  | [] => ⟨#[]⟩
  | [v] => v.kept
  | v :: u :: r => tb (Dm.ap (ct (u :: r)).data.toList v.kept.data.toList).1
structure Gv (C : List Vn) (D : Nat → ByteArray) (r : Nat → Nat) (M S : Nat) : Prop where
  rise : C.Pairwise (fun x y => x.id < y.id)
  each : ∀ x ∈ C, 1 ≤ x.id ∧ x.id ≤ M ∧ r x.id ≤ 4 ∧ (D x.id).size ≤ S ∧ x.kept.size ≤ (D x.id).size
  whole : ∀ x ∈ C, x.near = 0 → x.kept = D x.id
  told : ∀ x ∈ C, x.near ≠ 0 → ∃ y ∈ C, y.id = x.near ∧ r y.id < r x.id ∧ Dm.ap (D y.id).data.toList x.kept.data.toList = ((D x.id).data.toList, 0) ∧ (D x.id).size ≤ 4096
section
variable {C : List Vn} {D : Nat → ByteArray} {r : Nat → Nat} {M S : Nat} {x y v : Vn} {R : List It}
theorem find_uniqI {C : List Vn} (h : C.Pairwise (fun x y => x.id < y.id)) (hx : x ∈ C) : atI C (x.id : Int) = some x := by
  unfold atI
  induction C with
  | nil => cases hx
  | cons y C ih =>
    obtain ⟨h1, h2⟩ := List.pairwise_cons.1 h
    rcases List.mem_cons.1 hx with rfl | hx
    · exact List.find?_cons_of_pos (by simp)
    · have := h1 x hx
      rw [List.find?_cons_of_neg (by simp; omega)]
      exact ih h2 hx
theorem Gv.at (h : Gv C D r M S) (hx : x ∈ C) : atI C (x.id : Int) = some x := find_uniqI h.rise hx
theorem Gv.uniq (h : Gv C D r M S) (hx : x ∈ C) (hy : y ∈ C) (he : x.id = y.id) : x = y := by
  have h1 := h.at hx
  rw [he, h.at hy] at h1
  injection h1 with h1
  exact h1.symm
theorem atK (C : List Vn) (n : Int) : C.find? (fun v => decide (keyI v.id = keyI n)) = atI C n := by
  unfold atI
  congr 1
  funext v
  rw [Bool.eq_iff_iff, decide_eq_true_iff, decide_eq_true_iff]
  exact ⟨keyI_inj, fun e => by rw [e]⟩
theorem Rp.at (h : Rp R C M) (n : Int) : find R (keyI n) = (atI C n).map vrow := by rw [h.look _ (beg_keyI n), atK]
theorem atI_0 (h : Gv C D r M S) {n : Int} (hn : n ≤ 0) : atI C n = none := by
  cases ha : atI C n with
  | none => rfl
  | some v =>
    obtain ⟨hv, he⟩ := atI_some ha
    have := (h.each v hv).1
    omega
theorem ln_step {f : Nat} {n : Int} (ha : atI C n = some x) : ln C (f + 1) n = x :: ln C f (x.near : Int) := by rw [ln, ha]
theorem ln_stop {f : Nat} {n : Int} (ha : atI C n = none) : ln C f n = [] := by
  cases f with
  | zero => rfl
  | succ f => rw [ln, ha]
theorem find_one (p : Vn → Bool) (v : Vn) : [v].find? p = if p v = true then some v else none := by
  cases h : p v <;> simp [List.find?_cons, h]
theorem ln_good (h : Gv C D r M S) : ∀ (f : Nat) (x : Vn), x ∈ C → r x.id < f → ∃ l, ln C f (x.id : Int) = x :: l ∧ ct (x :: l) = D x.id ∧ l.length ≤ r x.id ∧ (∀ y ∈ x :: l, y ∈ C) ∧ (x.near = 0 → l = []) ∧ (x.near ≠ 0 → l = ln C (f - 1) (x.near : Int) ∧ l ≠ [])
  | 0, x, hx, hf => by omega
  | f + 1, x, hx, hf => by
    have ha := h.at hx
    have hE := h.each x hx
    rw [ln_step ha]
    by_cases hn : x.near = 0
    · have h0 : ln C f (x.near : Int) = [] := ln_stop (atI_0 h (by omega))
      rw [h0]
      exact ⟨[], rfl, h.whole x hx hn, Nat.zero_le _, fun y hy => by rw [List.mem_singleton.1 hy]; exact hx, fun _ => rfl, fun hh => absurd hn hh⟩
    · obtain ⟨y, hy, he, hr, hap, _⟩ := h.told x hx hn
      obtain ⟨l, e1, e2, e3, e4, _⟩ := ln_good h f y hy (by omega)
      rw [← he, e1]
      refine ⟨y :: l, rfl, ?_, ?_, ?_, fun hh => absurd (he.symm.trans hh) hn, fun _ => ⟨?_, by simp⟩⟩
      · show tb (Dm.ap (ct (y :: l)).data.toList x.kept.data.toList).1 = _
        rw [e2, hap]
        exact tb_of _
      · rw [List.length_cons]
        omega
      · intro z hz
        rcases List.mem_cons.1 hz with rfl | hz
        · exact hx
        · exact e4 z hz
      · show y :: l = ln C f (y.id : Int)
        exact e1.symm
def lnC (C : List Vn) (n : Int) : List Vn := ln C 5 n
theorem ln_len (C : List Vn) : ∀ (f : Nat) (n : Int), (ln C f n).length ≤ f
  | 0, _ => Nat.le_refl _
  | f + 1, n => by
    unfold ln
    cases atI C n with
    | none => exact Nat.zero_le _
    | some v =>
      have := ln_len C f v.near
      simp only [List.length_cons]
      omega
theorem lnC_none {n : Int} (h : atI C n = none) : lnC C n = [] := ln_stop h
theorem lnC_some (h : Gv C D r M S) (hx : x ∈ C) : ∃ l, lnC C (x.id : Int) = x :: l ∧ ct (x :: l) = D x.id ∧ l.length ≤ 4 ∧ (∀ y ∈ x :: l, y ∈ C) := by
  have hE := h.each x hx
  obtain ⟨l, h1, h2, h3, h4, _⟩ := ln_good h 5 x hx (by omega)
  exact ⟨l, h1, h2, by omega, h4⟩
def dp (C : List Vn) (n : Nat) : Nat := (lnC C (n : Int)).length - 1
theorem ln_fuel (h : Gv C D r M S) (f g : Nat) (hx : x ∈ C) (hf : r x.id < f) (hg : r x.id < g) : ln C f (x.id : Int) = ln C g (x.id : Int) := by
  induction f generalizing g x with
  | zero => omega
  | succ f ih =>
    cases g with
    | zero => omega
    | succ g =>
      rw [ln_step (h.at hx), ln_step (h.at hx)]
      by_cases hn : x.near = 0
      · have h0 : ∀ f, ln C f (x.near : Int) = [] := fun f => ln_stop (atI_0 h (by omega))
        rw [h0, h0]
      · obtain ⟨y, hy, he, hr, _⟩ := h.told x hx hn
        rw [← he, ih g hy (by omega) (by omega)]
theorem dp_whole (h : Gv C D r M S) (hx : x ∈ C) (hn : x.near = 0) : dp C x.id = 0 := by
  have hE := h.each x hx
  obtain ⟨l, h1, _, _, _, h5, _⟩ := ln_good h 5 x hx (by omega)
  unfold dp lnC
  rw [h1, h5 hn]
  rfl
theorem dp_told (h : Gv C D r M S) (hx : x ∈ C) (hn : x.near ≠ 0) : dp C x.id = dp C x.near + 1 := by
  have hE := h.each x hx
  obtain ⟨y, hy, he, hr, _⟩ := h.told x hx hn
  obtain ⟨l, h1, _, _, _, _, h6⟩ := ln_good h 5 x hx (by omega)
  obtain ⟨h7, h8⟩ := h6 hn
  unfold dp lnC
  rw [h1, ← he, ← ln_fuel h 4 5 hy (by omega) (by omega)]
  rw [show (5 : Nat) - 1 = 4 from rfl, ← he] at h7
  rw [← h7]
  have := List.length_pos_iff.2 h8
  simp only [List.length_cons]
  omega
theorem dp_le (h : Gv C D r M S) (hx : x ∈ C) : dp C x.id ≤ r x.id := by
  have hE := h.each x hx
  obtain ⟨l, h1, _, h3, _⟩ := ln_good h 5 x hx (by omega)
  unfold dp lnC
  rw [h1]
  simpa using h3
theorem Gv.re (h : Gv C D r M S) : Gv C D (dp C) M S := by
  refine ⟨h.rise, fun x hx => ?_, h.whole, fun x hx hn => ?_⟩
  · obtain ⟨h1, h2, h3, h4, h5⟩ := h.each x hx
    have := dp_le h hx
    exact ⟨h1, h2, by omega, h4, h5⟩
  · obtain ⟨y, hy, he, hr, h1, h2⟩ := h.told x hx hn
    refine ⟨y, hy, he, ?_, h1, h2⟩
    rw [dp_told h hx hn, he]
    omega
theorem lnC_len (h : Gv C D r M S) (hx : x ∈ C) : (lnC C (x.id : Int)).length = dp C x.id + 1 := by
  obtain ⟨l, h1, _⟩ := lnC_some h hx
  unfold dp
  rw [h1]
  simp
theorem Gv.mono {M' S' : Nat} (h : Gv C D r M S) (hM : M ≤ M') (hS : S ≤ S') : Gv C D r M' S' :=
  ⟨h.rise, fun x hx => by obtain ⟨h1, h2, h3, h4, h5⟩ := h.each x hx; exact ⟨h1, by omega, h3, by omega, h5⟩, h.whole, h.told⟩
def tell (C : List Vn) (d : ByteArray) (n : Int) : Nat × ByteArray :=
  if (lnC C n).length = 0 ∨ 4 < (lnC C n).length ∨ 4096 < d.size then (0, d)
  else if d.size ≤ (Dm.en (ct (lnC C n)).data.toList d.data.toList).length then (0, d)
  else (n.toNat, tb (Dm.en (ct (lnC C n)).data.toList d.data.toList))
theorem tell_good (h : Gv C D r M S) (hS : S ≤ 4611686018427387903) (d : ByteArray) (n : Int) (hd : d.size ≤ S) :
    (tell C d n).2.size ≤ d.size ∧ ((tell C d n).1 = 0 → (tell C d n).2 = d) ∧ ((tell C d n).1 ≠ 0 → ∃ y ∈ C, y.id = (tell C d n).1 ∧ (y.id : Int) = n ∧ dp C y.id < 4 ∧ Dm.ap (D y.id).data.toList (tell C d n).2.data.toList = (d.data.toList, 0) ∧ d.size ≤ 4096) := by
  unfold tell
  split
  · exact ⟨Nat.le_refl _, fun _ => rfl, fun hh => absurd rfl hh⟩
  · rename_i h1
    split
    · exact ⟨Nat.le_refl _, fun _ => rfl, fun hh => absurd rfl hh⟩
    · rename_i h2
      cases ha : atI C n with
      | none => rw [lnC_none ha] at h1; simp at h1
      | some y =>
        obtain ⟨hy, he⟩ := atI_some ha
        have hlen := lnC_len h hy
        have hE := h.each y hy
        obtain ⟨l, g1, g2, _⟩ := lnC_some h hy
        rw [he] at hlen g1
        rw [g1, g2] at h2 ⊢
        rw [hlen] at h1
        have hsz : (tb (Dm.en (D y.id).data.toList d.data.toList)).size = (Dm.en (D y.id).data.toList d.data.toList).length := tb_size _
        have hap := Dm.ap_en (D y.id).data.toList d.data.toList (by rw [Wm.len_l]; omega) (by rw [Wm.len_l]; omega)
        rw [if_neg (by rw [Wm.len_l]; omega)] at hap
        refine ⟨by show (tb _).size ≤ _; rw [hsz]; omega, fun hh => ?_, fun _ => ⟨y, hy, ?_, he, by omega, hap, by omega⟩⟩
        · have hh : n.toNat = 0 := hh
          omega
        · show y.id = n.toNat
          omega
theorem good_add (h : Gv C D r M S) {d : ByteArray} {q : Nat × ByteArray} (hd : d.size ≤ S) (hq : q.2.size ≤ d.size) (h0 : q.1 = 0 → q.2 = d)
    (h1 : q.1 ≠ 0 → ∃ y ∈ C, y.id = q.1 ∧ r y.id < 4 ∧ Dm.ap (D y.id).data.toList q.2.data.toList = (d.data.toList, 0) ∧ d.size ≤ 4096) :
    Gv (C ++ [⟨M + 1, q.1, q.2⟩]) (fun i => if i = M + 1 then d else D i) (fun i => if i = M + 1 then (if q.1 = 0 then 0 else r q.1 + 1) else r i) (M + 1) S := by
  have hold : ∀ x ∈ C, x.id ≠ M + 1 := fun x hx => by have := (h.each x hx).2.1; omega
  refine ⟨?_, ?_, ?_, ?_⟩
  · refine List.pairwise_append.2 ⟨h.rise, List.pairwise_singleton _ _, fun x hx y hy => ?_⟩
    rw [List.mem_singleton.1 hy]
    have := (h.each x hx).2.1
    show x.id < M + 1
    omega
  · intro x hx
    rcases List.mem_append.1 hx with hx | hx
    · obtain ⟨e1, e2, e3, e4, e5⟩ := h.each x hx
      have := hold x hx
      simp only [if_neg this]
      exact ⟨e1, by omega, e3, e4, e5⟩
    · rw [List.mem_singleton.1 hx]
      simp only [if_true]
      refine ⟨by omega, Nat.le_refl _, ?_, hd, hq⟩
      by_cases hn : q.1 = 0
      · rw [if_pos hn]; omega
      · rw [if_neg hn]
        obtain ⟨y, _, e, hr, _⟩ := h1 hn
        rw [e] at hr
        omega
  · intro x hx hn
    rcases List.mem_append.1 hx with hx | hx
    · simp only [if_neg (hold x hx)]
      exact h.whole x hx hn
    · rw [List.mem_singleton.1 hx] at hn ⊢
      simp only [if_true]
      exact h0 hn
  · intro x hx hn
    rcases List.mem_append.1 hx with hx | hx
    · obtain ⟨y, hy, e1, e2, e3, e4⟩ := h.told x hx hn
      simp only [if_neg (hold x hx)]
      refine ⟨y, List.mem_append.2 (.inl hy), e1, ?_, ?_, e4⟩
      · simp only [if_neg (hold y hy)]; exact e2
      · simp only [if_neg (hold y hy)]; exact e3
    · rw [List.mem_singleton.1 hx] at hn ⊢
      obtain ⟨y, hy, e1, e2, e3, e4⟩ := h1 hn
      simp only [if_true]
      refine ⟨y, List.mem_append.2 (.inl hy), e1, ?_, ?_, e4⟩
      · have hn : q.1 ≠ 0 := hn
        simp only [if_neg (hold y hy), if_neg hn]
        rw [e1]
        omega
      · simp only [if_neg (hold y hy)]; exact e3
theorem rp_add (h : Rp R C M) (hg : Gv C D r M S) {q : Nat × ByteArray} : Rp (app (app R ⟨nK, vs (M + 2), false⟩) ⟨keyI (M + 1 : Nat), enc q.1 q.2, false⟩) (C ++ [⟨M + 1, q.1, q.2⟩]) (M + 1) := by
  refine ⟨rises_app (rises_app h.rises _) _, fun p hp => ?_, ?_⟩
  · rw [find_app7, find_app7]
    simp only [Bool.false_eq_true, if_false]
    have e : (C ++ [(⟨M + 1, q.1, q.2⟩ : Vn)]).find? (fun v => decide (keyI v.id = p)) = (C.find? (fun v => decide (keyI v.id = p))).or (if keyI (M + 1 : Nat) = p then some ⟨M + 1, q.1, q.2⟩ else none) := by
      rw [List.find?_append, find_one]
      simp only [decide_eq_true_iff]
    rw [e]
    by_cases hk : keyI (M + 1 : Nat) = p
    · rw [if_pos hk, if_pos hk]
      have hno : C.find? (fun v => decide (keyI v.id = p)) = none := List.find?_eq_none.2 (fun v hv he => by
        have he := of_decide_eq_true he
        have := keyI_inj (he.trans hk.symm)
        have := (hg.each v hv).2.1
        omega)
      rw [hno]
      rfl
    · rw [if_neg hk, if_neg hk, if_neg (fun e => by rw [← e, beg_nK] at hp; cases hp), Option.or_none]
      exact h.look p hp
  · rw [find_app7, if_neg (fun e => by have := beg_keyI (M + 1 : Nat); rw [show keyI (M + 1 : Nat) = nK from e, beg_nK] at this; cases this), find_app7, if_pos rfl]
    simp only [Bool.false_eq_true, if_false]
    rw [if_neg (by omega)]
def setV (C : List Vn) (i : Nat) (q : Nat × ByteArray) : List Vn := C.map (fun x => if x.id = i then ⟨i, q.1, q.2⟩ else x)
theorem setV_ids (C : List Vn) (i : Nat) (q : Nat × ByteArray) : (setV C i q).map Vn.id = C.map Vn.id := by
  unfold setV
  rw [List.map_map]
  refine List.map_congr_left (fun y _ => ?_)
  show Vn.id (if y.id = i then ⟨i, q.1, q.2⟩ else y) = _
  split
  · rename_i h; exact h.symm
  · rfl
theorem setV_mem {C : List Vn} {i : Nat} {q : Nat × ByteArray} (hx : x ∈ setV C i q) : (x = ⟨i, q.1, q.2⟩ ∧ ∃ y ∈ C, y.id = i) ∨ (x ∈ C ∧ x.id ≠ i) := by
  obtain ⟨y, hy, rfl⟩ := List.mem_map.1 hx
  by_cases h : y.id = i
  · simp only [if_pos h]
    exact .inl ⟨trivial, y, hy, h⟩
  · simp only [if_neg h]
    exact .inr ⟨hy, h⟩
theorem mem_setV {C : List Vn} {i : Nat} {q : Nat × ByteArray} (hy : y ∈ C) : ∃ z ∈ setV C i q, z.id = y.id := by
  have : y.id ∈ (setV C i q).map Vn.id := by rw [setV_ids]; exact List.mem_map.2 ⟨y, hy, rfl⟩
  obtain ⟨z, hz, e⟩ := List.mem_map.1 this
  exact ⟨z, hz, e⟩
theorem good_set10 (h : Gv C D r M S) {q : Nat × ByteArray} (hx : x ∈ C) (hq : q.2.size ≤ (D x.id).size) (h0 : q.1 = 0 → q.2 = D x.id)
    (h1 : q.1 ≠ 0 → ∃ y ∈ C, y.id = q.1 ∧ r y.id < r x.id ∧ Dm.ap (D y.id).data.toList q.2.data.toList = ((D x.id).data.toList, 0) ∧ (D x.id).size ≤ 4096) : Gv (setV C x.id q) D r M S := by
  refine ⟨?_, fun z hz => ?_, fun z hz hn => ?_, fun z hz hn => ?_⟩
  · have e : (C.map Vn.id).Pairwise (· < ·) := List.pairwise_map.2 h.rise
    rw [← setV_ids C x.id q] at e
    exact List.pairwise_map.1 e
  · rcases setV_mem hz with ⟨rfl, _⟩ | ⟨hz, _⟩
    · obtain ⟨e1, e2, e3, e4, e5⟩ := h.each x hx
      exact ⟨e1, e2, e3, e4, hq⟩
    · exact h.each z hz
  · rcases setV_mem hz with ⟨rfl, _⟩ | ⟨hz, _⟩
    · exact h0 hn
    · exact h.whole z hz hn
  · rcases setV_mem hz with ⟨rfl, _⟩ | ⟨hz, hne⟩
    · obtain ⟨y, hy, e1, e2, e3, e4⟩ := h1 hn
      obtain ⟨u, hu, e5⟩ := mem_setV (i := x.id) (q := q) hy
      exact ⟨u, hu, e5.trans e1, by rw [e5]; exact e2, by rw [e5]; exact e3, e4⟩
    · obtain ⟨y, hy, e1, e2, e3, e4⟩ := h.told z hz hn
      obtain ⟨u, hu, e5⟩ := mem_setV (i := x.id) (q := q) hy
      exact ⟨u, hu, e5.trans e1, by rw [e5]; exact e2, by rw [e5]; exact e3, e4⟩
theorem rp_set (h : Rp R C M) {q : Nat × ByteArray} (hx : x ∈ C) (hg : Gv C D r M S) : Rp (app R ⟨keyI x.id, enc q.1 q.2, false⟩) (setV C x.id q) M := by
  refine ⟨rises_app h.rises _, fun p hp => ?_, ?_⟩
  · rw [find_app7]
    simp only [Bool.false_eq_true, if_false]
    unfold setV
    rw [List.find?_map]
    have e : ((fun v : Vn => decide (keyI v.id = p)) ∘ fun y => if y.id = x.id then (⟨x.id, q.1, q.2⟩ : Vn) else y) = (fun y : Vn => decide (keyI y.id = p)) := by
      funext y
      show decide (keyI (Vn.id (if y.id = x.id then ⟨x.id, q.1, q.2⟩ else y)) = p) = _
      split
      · rename_i hh
        rw [hh]
      · rfl
    rw [e]
    by_cases hk : keyI x.id = p
    · rw [if_pos hk]
      have : C.find? (fun v => decide (keyI v.id = p)) = some x := by rw [← hk, atK]; exact hg.at hx
      rw [this]
      show _ = some (vrow (if x.id = x.id then _ else x))
      rw [if_pos rfl]
      rfl
    · rw [if_neg hk, h.look p hp]
      cases hf : C.find? (fun v => decide (keyI v.id = p)) with
      | none => rfl
      | some y =>
        show some (vrow y) = some (vrow (if y.id = x.id then _ else y))
        have hy := of_decide_eq_true (List.find?_some (p := fun v : Vn => decide (keyI v.id = p)) hf)
        rw [if_neg (fun e => hk (by rw [← e]; exact hy))]
  · rw [find_app7, if_neg (fun e => by have := beg_keyI x.id; rw [show keyI x.id = nK from e, beg_nK] at this; cases this)]
    exact h.next
def delV (C : List Vn) (i : Nat) : List Vn := C.filter (fun y => !decide (y.id = i))
theorem good_del10 (h : Gv C D r M S) {i : Nat} (hno : ∀ x ∈ C, x.near ≠ i) (hi : i ≠ 0) : Gv (delV C i) D r M S := by
  refine ⟨h.rise.filter _, fun x hx => h.each x (List.mem_filter.1 hx).1, fun x hx => h.whole x (List.mem_filter.1 hx).1, fun x hx hn => ?_⟩
  obtain ⟨y, hy, e1, e2⟩ := h.told x (List.mem_filter.1 hx).1 hn
  refine ⟨y, List.mem_filter.2 ⟨hy, ?_⟩, e1, e2⟩
  have := hno x (List.mem_filter.1 hx).1
  rw [← e1] at this
  simp [this]
theorem find_delK {C : List Vn} {i : Nat} {p : ByteArray} (hk : ¬ keyI i = p) : C.find? (fun v => decide (keyI v.id = p)) = (delV C i).find? (fun v => decide (keyI v.id = p)) := by
  unfold delV
  induction C with
  | nil => rfl
  | cons y C ih =>
    by_cases hy : y.id = i
    · rw [List.filter_cons_of_neg (by simp [hy]), List.find?_cons_of_neg (by rw [hy]; simpa using hk)]
      exact ih
    · rw [List.filter_cons_of_pos (by simp [hy])]
      by_cases hyp : keyI y.id = p
      · rw [List.find?_cons_of_pos (by simpa using hyp), List.find?_cons_of_pos (by simpa using hyp)]
      · rw [List.find?_cons_of_neg (by simpa using hyp), List.find?_cons_of_neg (by simpa using hyp)]
        exact ih
theorem rp_del (h : Rp R C M) (i : Nat) : Rp (app R ⟨keyI i, ⟨#[]⟩, true⟩) (delV C i) M := by
  refine ⟨rises_app h.rises _, fun p hp => ?_, ?_⟩
  · rw [find_app7]
    by_cases hk : keyI i = p
    · rw [if_pos hk, if_pos rfl]
      have : (delV C i).find? (fun v => decide (keyI v.id = p)) = none := List.find?_eq_none.2 (fun v hv he => by
        have h1 := (List.mem_filter.1 hv).2
        have h2 := keyI_inj ((of_decide_eq_true he).trans hk.symm)
        have h2 : v.id = i := by omega
        simp [h2] at h1)
      rw [this]
      rfl
    · rw [if_neg hk, h.look p hp, find_delK hk]
  · rw [find_app7, if_neg (fun e => by have := beg_keyI i; rw [show keyI i = nK from e, beg_nK] at this; cases this)]
    exact h.next
end
end Go.Proofs.YtdfcbnejnnibpaaGreatDoor.Cn

namespace Go.Proofs.YtdfcbnejnnibpaaGreatDoor.Cn
open Go.RowKit Tx
set_option linter.unusedVariables false
set_option linter.unusedSimpArgs false
set_option linter.unnecessarySimpa false
def Cells2 (z h : Nat) (d : ByteArray) (W : World) : Prop := W.cell? ⟨z, 0, none⟩ = some (.int .i64 (h : Nat)) ∧ W.cell? ⟨z, 0 + 1, none⟩ = some (.string d)
set_option maxRecDepth 100000 in
set_option maxHeartbeats 4000000 in
theorem regKeep (ops : Array Oper) (hops : ops = (Rg.opsOf Tryz.f28 1)) (id : Nat) (z h ub : Nat) (n : Int) (d k0 k1 k2 k3 : ByteArray) {u2 u3 u4 u6 u7 u8 u9 u10 u11 u12 u13 u14 u15 u16 u17 : Value} (w : World) (B1 B2 B3 B4 B5 : World → Prop)
    (hS : Cells2 z h d w) (hA : Calls Tryz.prog 33 #[.int .i64 n] w.drew fun e w' => e = .returned (.string k0) ∧ B1 w') (hAS : ∀ W, B1 W → Cells2 z h d W)
    (hB : ∀ W, B1 W → Calls Tryz.prog 27 #[.int .i64 (h : Nat)] W fun e w' => e = .returned (.string k1) ∧ B2 w') (hBS : ∀ W, B2 W → Cells2 z h d W)
    (hC : ∀ W, B2 W → Calls Tryz.prog 55 #[.string d] W fun e w' => e = .returned (.string k2) ∧ B3 w') (hCS : ∀ W, B3 W → Cells2 z h d W)
    (hES : ∀ W, B3 W → Cells2 z h d (W.alloc (.cells #[(.string k1), (.string k2)] 9)))
    (hD : ∀ W, B3 W → Calls Tryz.prog 54 #[.slice (some ⟨W.heap.size, 0, none⟩) 2 2] (W.alloc (.cells #[(.string k1), (.string k2)] 9)) fun e w' => e = .returned (.string k3) ∧ B4 w') (hDS : ∀ W, B4 W → Cells2 z h d W)
    (hP : ∀ W, B4 W → Calls Tryz.prog 26 #[.pointer (some ⟨ub, 0, none⟩), .string k0, .string k3] W fun e w' => e = .returned (.tuple #[]) ∧ B5 w') (hPS : ∀ W, B5 W → Cells2 z h d W) :
    (Code.region id ops true).wp Tryz.prog (Rg.Only fun a' w' => ∃ z8 : Nat, a' = ⟨#[(.pointer (some ⟨ub, 0, none⟩)), (.int .i64 n), u2, u3, u4, (.pointer (some ⟨z, 0, none⟩)), (.pointer (some ⟨ub, 0, none⟩)), (.int .i64 n), (.string k0), (.pointer (some ⟨z, 0, none⟩)), (.int .i64 (h : Nat)), (.string k1), (.pointer (some ⟨z, 0 + 1, none⟩)), (.string d), (.string k2), (.slice (some ⟨z8, 0, none⟩) 2 2), (.string k3), (.tuple #[])], []⟩ ∧ B5 w') ⟨#[(.pointer (some ⟨ub, 0, none⟩)), (.int .i64 n), u2, u3, u4, (.pointer (some ⟨z, 0, none⟩)), u6, u7, u8, u9, u10, u11, u12, u13, u14, u15, u16, u17], []⟩ w := by
  subst hops
  have hNS : Region.noSelect (Rg.opsOf Tryz.f28 1) = true := by kernel_rfl
  refine wp_region_held_drew (S := Cells2 z h d) (by kernel_rfl) hS (fun hHeld => ?_)
  rw [show (Rg.opsOf Tryz.f28 1).size = 12 by kernel_rfl]
  refine Rg.take (ops := (Rg.opsOf Tryz.f28 1)) 0 (some 6) ((.pointer (some ⟨ub, 0, none⟩))) hNS (by kernel_rfl) (by kernel_rfl) (by kernel_rfl) (by kernel_rfl) (by kernel_rfl) hHeld (Rg.y_move (x := (Operand.tmp 0)) (Or.inl (by kernel_rfl)) (by kernel_rfl)) ?_
  refine Rg.take (ops := (Rg.opsOf Tryz.f28 1)) 1 (some 7) ((.int .i64 n)) hNS (by kernel_rfl) (by kernel_rfl) (by kernel_rfl) (by kernel_rfl) (by kernel_rfl) hHeld (Rg.y_move (x := (Operand.tmp 1)) (Or.inl (by kernel_rfl)) (by kernel_rfl)) ?_
  refine Rg.take (ops := (Rg.opsOf Tryz.f28 1)) 3 (some 9) ((.pointer (some ⟨z, 0, none⟩))) hNS (by kernel_rfl) (by kernel_rfl) (by kernel_rfl) (by kernel_rfl) (by kernel_rfl) hHeld (Rg.y_field (T := 71) (k := 0) (x := (Operand.tmp 5)) (vx := (.pointer (some ⟨z, 0, none⟩))) (by kernel_rfl) (by kernel_rfl) ?_) ?_
  · (intro w hSw; clear hSw; go_simp)
  refine Rg.take (ops := (Rg.opsOf Tryz.f28 1)) 4 (some 10) ((.int .i64 (h : Nat))) hNS (by kernel_rfl) (by kernel_rfl) (by kernel_rfl) (by kernel_rfl) (by kernel_rfl) hHeld (Rg.y_load (T := 3) (x := (Operand.tmp 9)) (vx := (.pointer (some ⟨z, 0, none⟩))) (by kernel_rfl) (by kernel_rfl) ?_) ?_
  · (intro w hSw; obtain ⟨s0, s1⟩ := hSw; go_simp)
  refine Rg.take (ops := (Rg.opsOf Tryz.f28 1)) 6 (some 12) ((.pointer (some ⟨z, 0 + 1, none⟩))) hNS (by kernel_rfl) (by kernel_rfl) (by kernel_rfl) (by kernel_rfl) (by kernel_rfl) hHeld (Rg.y_field (T := 71) (k := 1) (x := (Operand.tmp 5)) (vx := (.pointer (some ⟨z, 0, none⟩))) (by kernel_rfl) (by kernel_rfl) ?_) ?_
  · (intro w hSw; clear hSw; go_simp)
  refine Rg.take (ops := (Rg.opsOf Tryz.f28 1)) 7 (some 13) ((.string d)) hNS (by kernel_rfl) (by kernel_rfl) (by kernel_rfl) (by kernel_rfl) (by kernel_rfl) hHeld (Rg.y_load (T := 9) (x := (Operand.tmp 12)) (vx := (.pointer (some ⟨z, 0 + 1, none⟩))) (by kernel_rfl) (by kernel_rfl) ?_) ?_
  · (intro w hSw; obtain ⟨s0, s1⟩ := hSw; go_simp)
  refine Rg.call (ops := (Rg.opsOf Tryz.f28 1)) (fn := Tryz.f33) (xs := #[Operand.tmp 7]) (ats := #[3]) 2 (some 8) 33 #[(.int .i64 n)] (by kernel_rfl) (by kernel_rfl) (by kernel_rfl) (by kernel_rfl) (by kernel_rfl) Tryz.func33 (by kernel_rfl) (by kernel_rfl) (by kernel_rfl) ?_
  refine hA.mono ?_
  rintro e w5 ⟨rfl, h5⟩
  refine ⟨_, rfl, hAS _ h5, fun hHeld => ?_⟩
  refine Rg.call (ops := (Rg.opsOf Tryz.f28 1)) (fn := Tryz.f27) (xs := #[Operand.tmp 10]) (ats := #[3]) 5 (some 11) 27 #[(.int .i64 (h : Nat))] (by kernel_rfl) (by kernel_rfl) (by kernel_rfl) (by kernel_rfl) (by kernel_rfl) Tryz.func27 (by kernel_rfl) (by kernel_rfl) (by kernel_rfl) ?_
  refine (hB _ h5).mono ?_
  rintro e w6 ⟨rfl, h6⟩
  refine ⟨_, rfl, hBS _ h6, fun hHeld => ?_⟩
  refine Rg.call (ops := (Rg.opsOf Tryz.f28 1)) (fn := Tryz.f55) (xs := #[Operand.tmp 13]) (ats := #[9]) 8 (some 14) 55 #[(.string d)] (by kernel_rfl) (by kernel_rfl) (by kernel_rfl) (by kernel_rfl) (by kernel_rfl) Tryz.func55 (by kernel_rfl) (by kernel_rfl) (by kernel_rfl) ?_
  refine (hC _ h6).mono ?_
  rintro e w7 ⟨rfl, h7⟩
  refine ⟨_, rfl, hCS _ h7, fun hHeld => ?_⟩
  refine Rg.bld (ops := (Rg.opsOf Tryz.f28 1)) 9 (some 15) (T := 45) (len := 2) (parts := #[(0, Operand.tmp 11), (1, Operand.tmp 14)]) (vs := #[(0, (.string k1)), (1, (.string k2))]) (v := (.slice (some ⟨w7.heap.size, 0, none⟩) 2 2)) (w1 := w7.alloc (.cells #[(.string k1), (.string k2)] 9)) (by kernel_rfl) (by kernel_rfl) (by kernel_rfl) (by kernel_rfl) (by kernel_rfl) (by kernel_rfl) ?_ (hES _ h7) (fun hHeld => ?_)
  · (clear hHeld; go_simp)
  refine Rg.call (ops := (Rg.opsOf Tryz.f28 1)) (fn := Tryz.f54) (xs := #[Operand.tmp 15]) (ats := #[45]) 10 (some 16) 54 #[(.slice (some ⟨w7.heap.size, 0, none⟩) 2 2)] (by kernel_rfl) (by kernel_rfl) (by kernel_rfl) (by kernel_rfl) (by kernel_rfl) Tryz.func54 (by kernel_rfl) (by kernel_rfl) (by kernel_rfl) ?_
  refine (hD _ h7).mono ?_
  rintro e w8 ⟨rfl, h8⟩
  refine ⟨_, rfl, hDS _ h8, fun hHeld => ?_⟩
  refine Rg.call (ops := (Rg.opsOf Tryz.f28 1)) (fn := Tryz.f26) (xs := #[Operand.tmp 6, Operand.tmp 8, Operand.tmp 16]) (ats := #[30, 9, 9]) 11 (some 17) 26 #[(.pointer (some ⟨ub, 0, none⟩)), (.string k0), (.string k3)] (by kernel_rfl) (by kernel_rfl) (by kernel_rfl) (by kernel_rfl) (by kernel_rfl) Tryz.func26 (by kernel_rfl) (by kernel_rfl) (by kernel_rfl) ?_
  refine (hP _ h8).mono ?_
  rintro e w9 ⟨rfl, h9⟩
  refine ⟨_, rfl, hPS _ h9, fun hHeld => ?_⟩
  refine Rg.done (ops := (Rg.opsOf Tryz.f28 1)) (by kernel_rfl) ?_
  exact ⟨w7.heap.size, by kernel_rfl, h9⟩
end Go.Proofs.YtdfcbnejnnibpaaGreatDoor.Cn

namespace Go.Proofs.YtdfcbnejnnibpaaGreatDoor.Cn
open Go.RowKit Tx Pm Dk Wm Wr Wl Pl Tb Bl
set_option linter.unusedVariables false
set_option linter.unusedSimpArgs false
set_option linter.unnecessarySimpa false
theorem tu_lt {b j t m u : Nat} {w : World} {F : Nat → Prop} {y : Tst × List Ch} (h : Tu b j t m u w F y) : ∀ i, F i → i < w.heap.size := by
  obtain ⟨F1, G, ⟨Fj, h1⟩, ⟨pm, vO, h2⟩, hd, hH⟩ := h
  exact fun i hi => ((hH i).1 hi).elim (h1.lt i) (h2.lt i)
theorem cell_same10 {w w1 : World} {b k : Nat} (h : w1.heap[b]? = w.heap[b]?) : w1.cell? ⟨b, k, none⟩ = w.cell? ⟨b, k, none⟩ := by
  unfold World.cell?
  rw [h]
def i64 (n : Int) : Prop := -9223372036854775808 ≤ n ∧ n ≤ 9223372036854775807
section
variable {w0 : World × (Nat → Prop)} {W : World} {b j t m u : Nat} {x : Tst} {l : List Ch}
theorem itoaI_any (n : Int) (w : World) (hn : i64 n) (ht : Tab w) : Calls Tryz.prog 61 #[.int .i64 n] w fun e w' => e = .returned (.string (itoaB n)) ∧ Below w.heap.size w w' := by
  refine (Any.strconv_Itoa Tryz.itoa n hn.1 hn.2 w ht).mono ?_
  rintro e w' ⟨rfl, k, os, rfl⟩
  exact ⟨rfl, grow_below k os⟩
set_option maxRecDepth 100000 in
set_option maxHeartbeats 1000000 in
theorem keyOf_any (n : Int) (w : World) (hn : i64 n) (ht : Tab w) : Calls Tryz.prog 33 #[.int .i64 n] w fun e w' => e = .returned (.string (keyI n)) ∧ Below w.heap.size w w' := by
  have c := itoaI_any n w hn ht
  have hs := itoaB_size hn
  have hp : pV.size = 2 := rfl
  have hsum : pV.size + (itoaB n).size ≤ 9223372036854775807 := by omega
  have HK := Lib.hid (show keyI n = pV ++ itoaB n from rfl)
  generalize itoaB n = s at c hs hsum HK
  unfold pV at hsum HK
  clear hp
  go_enter Tryz.func33, Tryz.ntmps33
  go_wp2_with fail
  go_at_call 61
  refine c.mono ?_
  rintro e w1 ⟨rfl, hb1⟩
  go_wp2_with fail
  go_ret
  rw [HK.out]
  exact ⟨rfl, hb1⟩
set_option maxRecDepth 100000 in
set_option maxHeartbeats 1000000 in
theorem number_any (n : Nat) (w : World) (hn : n ≤ 4611686018427387904) : Calls Tryz.prog 27 #[.int .i64 (n : Nat)] w fun e w' => e = .returned (.string (vs n)) ∧ Below w.heap.size w w' := by
  have c := putUint_any (n : Nat) w (by omega) (by omega)
  have eus : us (n : Nat) = vs n := by unfold us; rw [if_neg (by omega)]; rfl
  rw [eus] at c
  generalize vs n = s at c ⊢
  go_enter Tryz.func27, Tryz.ntmps27
  go_wp2_with fail
  go_at_call 53
  refine c.mono ?_
  rintro e w1 ⟨rfl, hb1⟩
  go_wp2_with fail
  go_ret
  exact ⟨rfl, hb1⟩
theorem vs_rdU {n : Nat} (hn : n ≤ 9223372036854775807) : rdU (vs n).data.toList = (n, (vs n).size, 0) := by
  have h := rdU_back n [] hn
  rw [List.append_nil] at h
  rw [vs_list, h]
  have e : (vs n).size = (vb n).length := by rw [← Wm.len_l, vs_list]
  rw [e]
set_option maxRecDepth 100000 in
set_option maxHeartbeats 2000000 in
theorem next_any {C : List Vn} {M : Nat} (h : OwF (Tu b j t m u) w0 (x, l) W) (hR : Rp (all7 x.L l) C M) (hM : M ≤ 1000000000) :
    Calls Tryz.prog 25 #[.pointer (some ⟨u, 0, none⟩)] W fun e w' => e = .returned (.int .i64 ((M + 1 : Nat) : Nat)) ∧ Below W.heap.size W w' := by
  have cg := f_bget (key := nK) h (by decide)
  have hn := hR.next
  by_cases h0 : M = 0
  · rw [if_pos h0] at hn
    have e1 : overB x.L l nK = false := by rw [over_find, hn]; rfl
    rw [e1] at cg
    generalize overV x.L l nK = V at cg
    unfold nK at cg
    subst h0
    clear h hR hn e1
    go_enter Tryz.func25, Tryz.ntmps25
    go_wp2_with fail
    go_at_call 49
    refine cg.mono ?_
    rintro e w1 ⟨rfl, hb1⟩
    go_wp2_with fail
    go_ret
    exact ⟨rfl, hb1⟩
  · rw [if_neg h0] at hn
    have e1 : overB x.L l nK = true := by rw [over_find, hn]; rfl
    have e2 : overV x.L l nK = vs (M + 1) := over_val hn
    rw [e1, e2] at cg
    have hsz : (vs (M + 1)).size ≤ maxLen := by
      have e : (vs (M + 1)).size = (vb (M + 1)).length := by rw [← Wm.len_l, vs_list]
      have := vb_len (x := M + 1) (by omega)
      unfold maxLen
      omega
    have H1 := Lib.hid (vs_rdU (n := M + 1) (by omega))
    have HS := Lib.hid hsz
    generalize vs (M + 1) = E at cg H1 HS
    unfold nK at cg
    clear h hR hn e1 e2 hsz
    go_enter Tryz.func25, Tryz.ntmps25
    go_wp2_with fail
    go_at_call 49
    refine cg.mono ?_
    rintro e w2 ⟨rfl, hb2⟩
    have cn := new_any E w2
    have HB2 := Lib.hid hb2
    clear hb2
    go_wp2_with fail
    go_at_call 50
    refine cn.mono ?_
    rintro e w3 ⟨rfl, rfl⟩
    have cu := uint_any w2.heap.size E _ (rat_new w2 E) HS.out
    rw [H1.out] at cu
    clear cg cn
    go_wp2_with fail
    go_at_call 51
    refine cu.mono ?_
    rintro e w4 ⟨rfl, hR4, hg4⟩
    have hB3 : Below W.heap.size W (w2.alloc (.cells #[.string E] 127)) := HB2.out.alloc HB2.out.size _
    have hB4 := below_chgB hB3 (chg_grown hg4) HB2.out.size
    have HB4 := Lib.hid hB4
    clear hB3 hB4 hR4 hg4 cu
    go_wp2_with fail
    go_ret
    exact ⟨rfl, HB4.out⟩
def vnV (h : Nat) (d : ByteArray) : Value := .agg #[.int .i64 (h : Nat), .string d]
abbrev nV : Obj := .cells #[.int .i64 0, .string ⟨#[]⟩] 71
theorem infoVt : (Tryz.prog.info? 71).map (·.size) = some 2 := by kernel_rfl
set_option maxRecDepth 100000 in
set_option maxHeartbeats 2000000 in
theorem vfind_not {n : Int} (h : OwF (Tu b j t m u) w0 (x, l) W) (hn : i64 n) (ht : Tab W) (hf : find (all7 x.L l) (keyI n) = none) :
    Calls Tryz.prog 30 #[.pointer (some ⟨u, 0, none⟩), .int .i64 n] W fun e w' => e = .returned (.tuple #[vnV 0 ⟨#[]⟩, .bool false]) ∧ Below W.heap.size W w' := by
  have hks := keyI_size hn
  have hB0 : Below W.heap.size W (W.alloc nV) := (Below.refl _ W).alloc (Nat.le_refl _) _
  have hnew : (W.alloc nV).heap[W.heap.size]? = some nV := heap_alloc_new _ _
  have ck := keyOf_any n (W.alloc nV) hn (ht.below hB0)
  have e1 : overB x.L l (keyI n) = false := by rw [over_find, hf]; rfl
  have cg := fun V hV => f_bget (key := keyI n) (owf_below h (w' := V) hV) (by omega)
  rw [e1] at cg
  generalize overV x.L l (keyI n) = V0 at cg
  generalize keyI n = K at ck cg hks
  have HB := Lib.hid hB0
  have HN := Lib.hid hnew
  clear hf h hB0 hnew e1 ht
  go_enter Tryz.func30, Tryz.ntmps30
  go_wp2_with fail
  go_at_call 33
  refine ck.mono ?_
  rintro e w1 ⟨rfl, hb1⟩
  have hB1 := Tx.below_call HB.out hb1
  have cg1 := cg w1 hB1
  have hn1 : w1.heap[W.heap.size]? = some nV := (hb1.block _ (by simp)).trans HN.out
  have HS1 := Lib.hid (show W.heap.size < w1.heap.size from Nat.lt_of_lt_of_le (by simp) hb1.size)
  have HN1 := Lib.hid hn1
  have HB1 := Lib.hid hB1
  clear cg ck hb1 hB1 hn1
  go_wp2_with fail
  go_at_call 49
  refine cg1.mono ?_
  rintro e w2 ⟨rfl, hb2⟩
  have hn2 : w2.heap[W.heap.size]? = some nV := (hb2.block _ HS1.out).trans HN1.out
  obtain ⟨⟨a0, b0⟩, ⟨a1, b1⟩, hb3, hc3⟩ := store2 hn2 (.int .i64 0) (.string ⟨#[]⟩)
  have HC := Lib.hid hc3
  have HB2 := Lib.hid hb2
  clear hc3 hb2 cg1
  go_wp2_with fail
  (try simp only [Exit.inBlock, Exit.then])
  refine bodyPost_ret (results_cell_row_tmp rfl _ _ _ _ _ _ _ rfl hb3 Tryz.underlying71 rfl infoVt) rfl ?_
  exact ⟨rfl, below_chgB (Tx.below_call HB1.out HB2.out) HC.out (Nat.le_refl _)⟩
set_option maxRecDepth 100000 in
set_option maxHeartbeats 4000000 in
theorem vfind_val {n : Int} {h : Nat} {d : ByteArray} (ho : OwF (Tu b j t m u) w0 (x, l) W) (hn : i64 n) (ht : Tab W) (hf : find (all7 x.L l) (keyI n) = some (rw7 (keyI n) (enc h d))) (hh : h ≤ 1000000000000) (hd : d.size ≤ 140737488351232) :
    Calls Tryz.prog 30 #[.pointer (some ⟨u, 0, none⟩), .int .i64 n] W fun e w' => e = .returned (.tuple #[vnV h d, .bool true]) ∧ Below W.heap.size W w' := by
  have hks := keyI_size hn
  have hB0 : Below W.heap.size W (W.alloc nV) := (Below.refl _ W).alloc (Nat.le_refl _) _
  have hnew : (W.alloc nV).heap[W.heap.size]? = some nV := heap_alloc_new _ _
  have ck := keyOf_any n (W.alloc nV) hn (ht.below hB0)
  have e1 : overB x.L l (keyI n) = true := by rw [over_find, hf]; rfl
  have e2 : overV x.L l (keyI n) = enc h d := over_val hf
  have cg := fun V hV => f_bget (key := keyI n) (owf_below ho (w' := V) hV) (by omega)
  rw [e1, e2] at cg
  have hes := enc_size (h := h) (d := d) (by omega) (by omega)
  have hesm : (enc h d).size ≤ maxLen := by unfold maxLen; omega
  have hts := tl_size (d := d) (by omega)
  have htm : (⟨(tl d).toArray⟩ : ByteArray).size ≤ maxLen := by unfold maxLen; omega
  have H1 := Lib.hid (enc_rdU (h := h) d (by omega))
  have H2 := Lib.hid (enc_rest h d)
  have H3 := Lib.hid (enc_rdT (d := d) (by omega))
  have HES := Lib.hid hesm
  have HTM := Lib.hid htm
  generalize enc h d = E at cg H1 H2 HES
  generalize keyI n = K at ck cg hks
  have HB := Lib.hid hB0
  have HN := Lib.hid hnew
  clear hf ho hB0 hnew e1 e2 hes hts hesm htm ht
  go_enter Tryz.func30, Tryz.ntmps30
  go_wp2_with fail
  go_at_call 33
  refine ck.mono ?_
  rintro e w1 ⟨rfl, hb1⟩
  have hB1 := Tx.below_call HB.out hb1
  have cg1 := cg w1 hB1
  have hn1 : w1.heap[W.heap.size]? = some nV := (hb1.block _ (by simp)).trans HN.out
  have HS1 := Lib.hid (show W.heap.size < w1.heap.size from Nat.lt_of_lt_of_le (by simp) hb1.size)
  have HN1 := Lib.hid hn1
  have HB1 := Lib.hid hB1
  clear cg ck hb1 hB1 hn1
  go_wp2_with fail
  go_at_call 49
  refine cg1.mono ?_
  rintro e w2 ⟨rfl, hb2⟩
  have cn := new_any E w2
  have HB2 := Lib.hid hb2
  clear hb2 cg1
  go_wp2_with fail
  go_at_call 50
  refine cn.mono ?_
  rintro e w3 ⟨rfl, rfl⟩
  have cu := uint_any w2.heap.size E _ (rat_new w2 E) HES.out
  rw [H1.out, H2.out] at cu
  clear cn
  go_wp2_with fail
  go_at_call 51
  refine cu.mono ?_
  rintro e w4 ⟨rfl, hR4, hg4⟩
  have ct := text_any w2.heap.size _ w4 hR4 HTM.out
  rw [H3.out] at ct
  have HG4 := Lib.hid hg4
  clear cu hg4
  go_wp2_with fail
  go_at_call 57
  refine ct.mono ?_
  rintro e w5 ⟨rfl, hR5, hg5⟩
  have hB2w : Below W.heap.size W w2 := Tx.below_call HB1.out HB2.out
  have hs2 : W.heap.size < w2.heap.size := Nat.lt_of_lt_of_le HS1.out HB2.out.size
  have hB3 : Below W.heap.size W (w2.alloc (.cells #[.string E] 127)) := hB2w.alloc hB2w.size _
  have hB4 := below_chgB hB3 (chg_grown HG4.out) (by omega)
  have hB5 := below_chgB hB4 (chg_grown hg5) (by omega)
  have hne : ∀ i, i = W.heap.size → ¬ i = w2.heap.size := fun i hi => by omega
  have hn2 : w2.heap[W.heap.size]? = some nV := (HB2.out.block _ HS1.out).trans HN1.out
  have hn3 : (w2.alloc (.cells #[.string E] 127)).heap[W.heap.size]? = some nV := (((Below.refl w2.heap.size w2).alloc (Nat.le_refl _) _).block _ hs2).trans hn2
  have hn4 := ((chg_grown HG4.out).block W.heap.size (by simp; omega) (by omega)).trans hn3
  have hn5 := ((chg_grown hg5).block W.heap.size (by have := HG4.out.size; simp at this; omega) (by omega)).trans hn4
  obtain ⟨⟨a0, b0⟩, ⟨a1, b1⟩, hb3, hc3⟩ := store2 hn5 (.int .i64 (h : Nat)) (.string d)
  have HC := Lib.hid hc3
  have HB5 := Lib.hid hB5
  clear ct hR4 hR5 hg5 hB2w hB3 hB4 hB5 hn2 hn3 hn4 hn5 hc3
  go_wp2_with fail
  (try simp only [Exit.inBlock, Exit.then])
  refine bodyPost_ret (results_cell_row_tmp rfl _ _ _ _ _ _ _ rfl hb3 Tryz.underlying71 rfl infoVt) rfl ?_
  exact ⟨rfl, below_chgB HB5.out HC.out (Nat.le_refl _)⟩
set_option maxRecDepth 100000 in
set_option maxHeartbeats 2000000 in
theorem vkeep_left {n : Int} {h : Nat} {d : ByteArray} {F : Nat → Prop} (hF : Tu b j t m u W F (x, l)) (hn : i64 n) (ht : ∀ V, Below W.heap.size W V → Tab V) (hl : l.length < 1000000000) (hh : h ≤ 1000000000000) (hd : d.size ≤ 140737488351232) :
    Calls Tryz.prog 28 #[.pointer (some ⟨u, 0, none⟩), .int .i64 n, vnV h d] W fun e w' => e = .returned (.tuple #[]) ∧ LeftA (Tu b j t m u) W F (x, bat l ⟨keyI n, enc h d, false⟩) w' := by
  obtain ⟨W1, hW1⟩ : ∃ W1, W1 = W.alloc (.cells #[.int .i64 (h : Nat), .string d] 71) := ⟨_, rfl⟩
  have hB1 : Below W.heap.size W W1 := by rw [hW1]; exact (Below.refl _ W).alloc (Nat.le_refl _) _
  have hs1 : W.heap.size < W1.heap.size := by rw [hW1]; simp
  have hlt := tu_lt hF
  have ho : OwF (Tu b j t m u) (W1, F) (x, l) W1 := ⟨F, tb_below hF hB1, Chg.refl F W1, fun g hg => .inl hg⟩
  have hks := keyI_size hn
  have ck := fun V (hV : Below W1.heap.size W1 V) => keyOf_any n V hn (ht V (Tx.below_call hB1 hV))
  have cu := fun V => number_any h V (by omega)
  have ct := fun V => putText_any d V (by omega)
  have hes := enc_size (h := h) (d := d) (by omega) (by omega)
  have cj := fun V : World => join_any V.heap.size 0 2 [vs h, ts d] (V.alloc (.cells #[.string (vs h), .string (ts d)] 9)) two_cells (by simp) (by show 2 ≤ _; omega) (Nat.le_refl _) (by show (enc h d).size ≤ _; omega)
  have hc1 : Cells2 W.heap.size h d W1 := by
    rw [hW1]
    exact ⟨by go_simp, by go_simp⟩
  have hcb : ∀ V, Below W1.heap.size W1 V → Cells2 W.heap.size h d V := fun V hV => ⟨(hV.cell (p := ⟨W.heap.size, 0, none⟩) hs1).trans hc1.1, (hV.cell (p := ⟨W.heap.size, 0 + 1, none⟩) hs1).trans hc1.2⟩
  have hfin : ∀ V, OwF (Tu b j t m u) (W1, F) (x, bat l ⟨keyI n, enc h d, false⟩) V → Cells2 W.heap.size h d V ∧ LeftA (Tu b j t m u) W F (x, bat l ⟨keyI n, enc h d, false⟩) V := fun V hV => by
    obtain ⟨F', q1, q2, q3⟩ := hV
    have hb := q2.block W.heap.size hs1 (fun hh => by have := hlt _ hh; omega)
    refine ⟨⟨(cell_same10 hb).trans hc1.1, (cell_same10 hb).trans hc1.2⟩, F', q1, (Chg.of_below hB1).trans q2 (fun g hg => .inl hg), fun g hg => ?_⟩
    rcases q3 g hg with hh | hh
    · exact .inl hh
    · exact .inr (Nat.le_trans hB1.size hh)
  have HR := Lib.hid (fun (W2 : World) (hW2 : Below W1.heap.size W1 W2) => f_put (key := keyI n) (val := enc h d) (owf_below ho hW2) (by omega) hl)
  have HFI := Lib.hid hfin
  have HCB := Lib.hid hcb
  have HCK := Lib.hid ck
  have HCJ := Lib.hid cj
  have HE := Lib.hid (show cat [vs h, ts d] = enc h d from rfl)
  have HW1 := Lib.hid hW1
  clear ho hes hB1 ht hF hfin hcb ck cj hks
  unfold vnV
  go_enter Tryz.func28, Tryz.ntmps28
  go_wp2_with fail
  rw [← HW1.out]
  refine Rg.wp_only ?_ (regKeep _ (by kernel_rfl) _ W.heap.size h u n d (keyI n) (vs h) (ts d) (enc h d) W1 (Below W1.heap.size W1) (Below W1.heap.size W1) (Below W1.heap.size W1) (Below W1.heap.size W1) (OwF (Tu b j t m u) (W1, F) (x, bat l ⟨keyI n, enc h d, false⟩)) hc1 ?hA HCB.out ?hB HCB.out ?hC HCB.out ?hES ?hD HCB.out ?hP (fun V hV => (HFI.out V hV).1))
  case hA => exact (HCK.out _ (Below.refl _ W1).drew).mono fun e w' hh => ⟨hh.1, Tx.below_call (Below.refl _ W1).drew hh.2⟩
  case hB => exact fun V hV => (cu V).mono fun e w' hh => ⟨hh.1, Tx.below_call hV hh.2⟩
  case hC => exact fun V hV => (ct V).mono fun e w' hh => ⟨hh.1, Tx.below_call hV hh.2⟩
  case hES => exact fun V hV => HCB.out _ (hV.alloc hV.size _)
  case hD => exact fun V hV => (HCJ.out V).mono fun e w' hh => ⟨hh.1, Tx.below_call (hV.alloc hV.size _) hh.2⟩
  case hP => exact fun V hV => HR.out V hV
  rintro _ w9 ⟨z8, rfl, ho9⟩
  have h9 := (HFI.out w9 ho9).2
  clear ho9 hc1
  go_wp2_with fail
  go_end0
  exact ⟨rfl, h9⟩
theorem vkeep_any {n : Int} {h : Nat} {d : ByteArray} (ho : OwF (Tu b j t m u) w0 (x, l) W) (hn : i64 n) (ht : ∀ V, Below W.heap.size W V → Tab V) (hl : l.length < 1000000000) (hh : h ≤ 1000000000000) (hd : d.size ≤ 140737488351232) :
    Calls Tryz.prog 28 #[.pointer (some ⟨u, 0, none⟩), .int .i64 n, vnV h d] W fun e w' => e = .returned (.tuple #[]) ∧ OwF (Tu b j t m u) w0 (x, bat l ⟨keyI n, enc h d, false⟩) w' :=
  ho.call (fun F hF => vkeep_left hF hn ht hl hh hd)
end
end Go.Proofs.YtdfcbnejnnibpaaGreatDoor.Cn

namespace Go.Proofs.YtdfcbnejnnibpaaGreatDoor.Dl
open Go.RowKit Wm Wr Dm
open Go.Maps (Keyed)
set_option linter.unusedVariables false
set_option maxRecDepth 100000 in
theorem zeroI (w : World) : (zeroValue 3).run Tryz.prog w = .ok (.int .i64 0) w := by kernel_rfl
set_option maxRecDepth 100000 in
theorem keyU : Keyed Tryz.prog 153 := Go.Maps.int_keyed Tryz.underlying153
set_option maxRecDepth 100000 in
theorem keyAt {k : Nat} (h : k < 4294967296) : keyOf Tryz.prog 153 (.int .u32 (k : Int)) = some (.int .u32 (k : Int)) :=
  Go.Maps.keyOf_int_mk Tryz.underlying153 (by simp [Lit.wf, IntKind.min, IntKind.max, IntKind.signed, IntKind.bits]; omega)
def Mf (w : World) (b n : Nat) (f : Nat → Nat) : Prop := ∃ D : DataW Unit, w.ownsMap Tryz.prog 153 (plainElem Tryz.prog 3) b n D ∧ Go.Maps.IsMap D ∧ ∀ k : Nat, D.atKey (.int .u32 (k : Int)) (.lit (.int .i64 0)) = .lit (.int .i64 (f k : Nat))
set_option maxRecDepth 100000 in
theorem Mf.lt {w : World} {b n : Nat} {f : Nat → Nat} (h : Mf w b n f) : b < w.heap.size := by
  obtain ⟨D, h, _⟩ := h
  exact h.lt
set_option maxRecDepth 100000 in
theorem Mf.kept {w w1 : World} {b n : Nat} {f : Nat → Nat} (h : Mf w b n f) (he : w1.heap[b]? = w.heap[b]?) : Mf w1 b n f := by
  obtain ⟨D, ⟨es, c, h1, h2⟩, r⟩ := h
  exact ⟨D, ⟨es, c, he.trans h1, h2⟩, r⟩
set_option maxRecDepth 100000 in
theorem Mf.look {w : World} {b n : Nat} {f : Nat → Nat} (h : Mf w b n f) {k : Nat} (hk : k < 4294967296) :
    (Instr.lookup 168 (.map (some b)) (.int .u32 (k : Int)) false).run Tryz.prog w = .ok (.int .i64 (f k : Nat)) w := by
  obtain ⟨D, ho, _, hr⟩ := h
  obtain ⟨c, hrun, hat, _⟩ := ho.lookup_int keyU Tryz.underlying168 Tryz.underlying3 (zeroI _) (keyAt hk)
  rw [hr k] at hat
  injection hat with hat
  injection hat with _ hat
  rw [hrun, hat]
set_option maxRecDepth 100000 in
theorem Mf.store {w : World} {b n : Nat} {f : Nat → Nat} (h : Mf w b n f) {k v : Nat} (hk : k < 4294967296) (hv : v ≤ 9223372036854775807) (hn : n < maxLen) :
    ∃ w', (Instr.mapUpdate 168 (.map (some b)) (.int .u32 (k : Int)) (.int .i64 (v : Int))).run Tryz.prog w = .ok () w' ∧ Mf w' b (n + 1) (fun q => if q = k then v else f q) ∧ w.grownBy w' (some b) := by
  obtain ⟨D, ho, hm, hr⟩ := h
  obtain ⟨w', hrun, ho', hg⟩ := ho.update keyU Tryz.underlying168 hn (keyAt hk) (plainElem_int Tryz.underlying3 (a := (v : Int)) (by simp [Lit.wf, IntKind.min, IntKind.max, IntKind.signed, IntKind.bits]; omega))
  refine ⟨w', hrun, ⟨_, ho', hm.put _ _, fun q => ?_⟩, hg⟩
  show _ = DataW.lit (.int .i64 ((if q = k then v else f q : Nat) : Int))
  by_cases he : q = k
  · subst he
    rw [Go.Maps.atKey_put_same hm (keyU.key (keyAt hk)), if_pos rfl]
  · rw [Go.Maps.atKey_put_other (fun e => he (by injection e with _ e; omega)), if_neg he]
    exact hr q
set_option maxRecDepth 100000 in
theorem mf_made (w : World) : Mf (w.alloc (.map #[] 0)) w.heap.size 0 (fun _ => 0) := ⟨_, World.ownsMap_made w _ _ _, ⟨[], rfl⟩, fun k => rfl⟩
end Go.Proofs.YtdfcbnejnnibpaaGreatDoor.Dl

namespace Go.Proofs.YtdfcbnejnnibpaaGreatDoor.Dl
open Go.RowKit Wm Wr Dm
set_option linter.unusedVariables false
theorem ext_l (s : ByteArray) (i j : Nat) : (s.extract i j).data.toList = (s.data.toList.drop i).take (j - i) := by
  rw [ByteArray.data_extract, Array.toList_extract, List.extract_eq_take_drop]
theorem drop_l (s : ByteArray) (i : Nat) : (s.extract i s.size).data.toList = s.data.toList.drop i := by
  rw [ext_l, List.take_of_length_le]
  rw [List.length_drop, Wm.len_l]
  exact Nat.le_refl _
theorem ba_eq {a b : ByteArray} (h : a.data.toList = b.data.toList) : a = b := ByteArray.ext (Array.toList_inj.1 h)
set_option maxRecDepth 100000 in
set_option maxHeartbeats 1000000 in
theorem alike_any (a b : ByteArray) (w : World) (ha : a.size ≤ maxLen) (hb : b.size ≤ maxLen) :
    Calls Tryz.prog 116 #[.string a, .string b] w fun e w' => e = .returned (.int .i64 (cp a.data.toList b.data.toList : Nat)) ∧ Below w.heap.size w w' := by
  have hc := cp_le a.data.toList b.data.toList
  rw [Wm.len_l, Wm.len_l] at hc
  unfold maxLen at ha hb
  go_enter Tryz.func116, Tryz.ntmps116
  go_wp2_with fail
  go_loopw [5] (fun n wr => ∃ k : Nat, k ≤ a.size ∧ k ≤ b.size ∧ Hid (k ≤ cp a.data.toList b.data.toList) ∧ n = .int .i64 k ∧ Below w.heap.size w wr) (fun n _ => a.size - (intOf n).toNat)
  case atStart => exact ⟨0, Nat.zero_le _, Nat.zero_le _, Lib.hid (Nat.zero_le _), rfl, Below.refl _ _⟩
  case round =>
    obtain ⟨k, hka, hkb, hk, rfl, hB⟩ := hrel
    have hB2 := hB.drew
    by_cases h1 : k < a.size
    · by_cases h2 : k < b.size
      · have hga := gd a k h1
        have hgb := gd b k h2
        have h1z : (k : Int) < (a.size : Int) := by omega
        have h2z : (k : Int) < (b.size : Int) := by omega
        by_cases h3 : a[k].toNat = b[k].toNat
        · have hk2 : Hid (k + 1 ≤ cp a.data.toList b.data.toList) := Lib.hid (cp_step _ _ k hk.out (by rw [Wm.len_l]; exact h1) (by rw [Wm.len_l]; exact h2) (by rw [hga, hgb]; exact UInt8.toNat_inj.1 h3))
          clear hga hgb
          have h3z : ((a[k].toNat : Int) == (b[k].toNat : Int)) = true := by simp [h3]
          go_wp2_with fail
          go_region
          go_wp2_with fail
          go_roundw
          case rel => exact ⟨k + 1, by omega, by omega, hk2, by go_num, hB2⟩
          case measure => simp [intOf]; omega
        · have he : cp a.data.toList b.data.toList = k := by
            have := cp_stop a.data.toList b.data.toList k (by rw [Wm.len_l]; exact h2) (.inr (by rw [hga, hgb]; intro e; exact h3 (by rw [e])))
            have := hk.out
            omega
          have HE := Lib.hid he
          clear hga hgb he
          have h3z : ((a[k].toNat : Int) == (b[k].toNat : Int)) = false := by simp; omega
          go_wp2_with fail
          go_region
          go_wp2_with fail
          go_ret
          rw [HE.out]
          exact ⟨rfl, hB2⟩
      · have he : cp a.data.toList b.data.toList = k := by have := hk.out; omega
        have HE := Lib.hid he
        clear he
        have h1z : (k : Int) < (a.size : Int) := by omega
        have h2z : ¬ (k : Int) < (b.size : Int) := by omega
        go_wp2_with fail
        go_region
        go_wp2_with fail
        go_ret
        rw [HE.out]
        exact ⟨rfl, hB2⟩
    · have he : cp a.data.toList b.data.toList = k := by have := hk.out; omega
      have HE := Lib.hid he
      clear he
      have h1z : ¬ (k : Int) < (a.size : Int) := by omega
      go_wp2_with fail
      go_region
      go_wp2_with fail
      go_ret
      rw [HE.out]
      exact ⟨rfl, hB2⟩
theorem rdU_alt (l : List UInt8) : (∃ e, e ≠ 0 ∧ e ≤ 3 ∧ rdU l = (0, 0, e)) ∨ ∃ x n, rdU l = (x, n, 0) ∧ x ≤ 9223372036854775807 ∧ n ≤ l.length ∧ 0 < n := by
  rcases rdU_cases l with ⟨h, _⟩ | ⟨h, _⟩ | ⟨_, _, _, _, h⟩ | ⟨x, n, h2, hx, h⟩
  · exact .inl ⟨2, by omega, by omega, h⟩
  · exact .inl ⟨3, by omega, by omega, h⟩
  · exact .inl ⟨3, by omega, by omega, h⟩
  · exact .inr ⟨x, n, h, hx, (rd_ok h2).1, (rd_ok h2).2.2.1⟩
def rst (s : ByteArray) : ByteArray := if (rdU s.data.toList).2.2 = 0 then s.extract (rdU s.data.toList).2.1 s.size else ⟨#[]⟩
set_option maxRecDepth 100000 in
theorem num_any (s : ByteArray) (w : World) (hs : s.size ≤ maxLen) :
    Calls Tryz.prog 102 #[.string s] w fun e w' => e = .returned (.tuple #[.int .i64 ((rdU s.data.toList).1 : Int), .string (rst s), .int .i64 ((rdU s.data.toList).2.2 : Int)]) ∧ Below w.heap.size w w' := by
  have cn := new_any s w
  have hr := rat_new w s
  have hB : Below w.heap.size w (w.alloc (.cells #[.string s] 127)) := (Below.refl _ w).alloc (Nat.le_refl _) _
  have cu := uint_any w.heap.size s _ hr hs
  have cl := fun W h => left_any w.heap.size (s.extract (rdU s.data.toList).2.1 s.size) W h (by simp; omega)
  unfold rst
  rcases rdU_alt s.data.toList with ⟨r, hr0, hr3, h⟩ | ⟨x, n, h, hx, hn, hn0⟩
  · rw [h] at cu ⊢
    simp only at cu ⊢
    rw [if_neg hr0]
    have hne : ((r : Int) == 0) = false := by simp; omega
    clear h cl hr hr0
    go_enter Tryz.func102, Tryz.ntmps102
    go_wp2_with fail
    go_at_call 50
    refine cn.mono ?_
    rintro e w1 ⟨rfl, rfl⟩
    go_wp2_with fail
    go_at_call 51
    refine cu.mono ?_
    rintro e w2 ⟨rfl, _, hg⟩
    have hB2 : Below w.heap.size w w2 := Wr.below_at hB hg (Nat.le_refl _)
    go_wp2_with fail
    go_ret3
    exact ⟨rfl, hB2⟩
  · rw [Wm.len_l] at hn
    rw [h] at cu cl ⊢
    simp only at cu cl ⊢
    rw [if_pos trivial]
    rw [extract_le s n hn] at cl
    have hx2 : (s.size : Int) - ((s.size - n : Nat) : Int) = (n : Int) := by omega
    obtain ⟨m, hm⟩ : ∃ m, m = s.size - n := ⟨_, rfl⟩
    rw [← hm] at cl hx2
    have hm2 : (m : Int) ≤ (s.size : Int) := by omega
    have hn2 : (n : Int) ≤ (s.size : Int) := by omega
    unfold maxLen at hs
    have hwr : IntKind.i64.wrap ((s.size : Int) - (m : Int)) = (n : Int) := by rw [IntKind.wrap_i64]; omega
    clear hx2
    clear h hr hm
    go_enter Tryz.func102, Tryz.ntmps102
    go_wp2_with fail
    go_at_call 50
    refine cn.mono ?_
    rintro e w1 ⟨rfl, rfl⟩
    go_wp2_with fail
    go_at_call 51
    refine cu.mono ?_
    rintro e w2 ⟨rfl, hr2, hg⟩
    have hB2 : Below w.heap.size w w2 := Wr.below_at hB hg (Nat.le_refl _)
    have cl2 := cl w2.drew hr2
    clear hr2 hg cl cu cn
    have hB3 := hB2.drew
    go_wp2_with fail
    go_region_with (go_at_call 74; refine cl2.mono ?_; rintro e w3 ⟨rfl, rfl⟩)
    all_goals
      go_wp2_with fail
      go_ret3
      exact ⟨by kernel_rfl, hB3⟩
theorem ret3ss {x x' y y' : ByteArray} {z z' : Int} (h : x = x') (h2 : y = y') (h3 : z = z') :
    Ending.returned (.tuple #[.string x, .string y, .int .i64 z]) = .returned (.tuple #[.string x', .string y', .int .i64 z']) := by rw [h, h2, h3]
def cpd (base s : ByteArray) (n : Nat) : ByteArray × ByteArray × Nat :=
  if (rdU s.data.toList).2.2 ≠ 0 then (⟨#[]⟩, ⟨#[]⟩, (rdU s.data.toList).2.2)
  else if base.size < (rdU s.data.toList).1 + n then (⟨#[]⟩, ⟨#[]⟩, 3)
  else (base.extract (rdU s.data.toList).1 ((rdU s.data.toList).1 + n), s.extract (rdU s.data.toList).2.1 s.size, 0)
set_option maxRecDepth 100000 in
theorem copied_any (base s : ByteArray) (n : Nat) (w : World) (hb : base.size ≤ maxLen) (hs : s.size ≤ maxLen) (hn : n ≤ 4611686018427387903) :
    Calls Tryz.prog 143 #[.string base, .string s, .int .i64 (n : Int)] w fun e w' => e = .returned (.tuple #[.string (cpd base s n).1, .string (cpd base s n).2.1, .int .i64 ((cpd base s n).2.2 : Int)]) ∧ Below w.heap.size w w' := by
  have cn := num_any s w hs
  unfold maxLen at hb hs
  unfold cpd
  rcases rdU_alt s.data.toList with ⟨r, hr0, hr3, h⟩ | ⟨x, m, h, hx, hm, hm0⟩
  · unfold rst at cn
    rw [h] at cn ⊢
    simp only at cn ⊢
    rw [if_neg hr0] at cn
    rw [if_pos hr0]
    have hne : ((r : Int) == 0) = false := by simp; omega
    clear h hr0
    go_enter Tryz.func143, Tryz.ntmps143
    go_wp2_with fail
    go_at_call 102
    refine cn.mono ?_
    rintro e w1 ⟨rfl, hB⟩
    go_wp2_with fail
    go_ret3
    exact ⟨rfl, hB⟩
  · unfold rst at cn
    rw [h] at cn ⊢
    simp only at cn ⊢
    rw [if_pos trivial] at cn
    rw [if_neg (by simp)]
    by_cases hbs : base.size < x + n
    · rw [if_pos hbs]
      have hz : (base.size : Int) - (x : Int) < (n : Int) := by omega
      clear h
      go_enter Tryz.func143, Tryz.ntmps143
      go_wp2_with fail
      go_at_call 102
      refine cn.mono ?_
      rintro e w1 ⟨rfl, hB⟩
      go_wp2_with fail
      go_ret3
      exact ⟨rfl, hB⟩
    · rw [if_neg hbs]
      have hz : ¬ ((base.size : Int) - (x : Int) < (n : Int)) := by omega
      have hz2 : (x : Int) + (n : Int) ≤ (base.size : Int) := by omega
      clear h
      go_enter Tryz.func143, Tryz.ntmps143
      go_wp2_with fail
      go_at_call 102
      refine cn.mono ?_
      rintro e w1 ⟨rfl, hB⟩
      go_wp2_with fail
      go_ret3
      exact ⟨ret3ss (by simp) rfl rfl, hB⟩
def lft (base s : ByteArray) (room : Nat) : ByteArray := if (pc base.data.toList s.data.toList room).2.2 = 0 then s.extract (pc base.data.toList s.data.toList room).2.1 s.size else ⟨#[]⟩
theorem tb_ext (s : ByteArray) (i n : Nat) : s.extract i (i + n) = Tx.tb ((s.data.toList.drop i).take n) := by
  apply ba_eq
  rw [ext_l, Tx.tb_list, Nat.add_sub_cancel_left]
theorem ext_ext (s : ByteArray) (i j : Nat) (hi : i ≤ s.size) : (s.extract i s.size).extract j (s.size - i) = s.extract (i + j) s.size := by
  have e : s.size - i = (s.extract i s.size).size := by simp
  apply ba_eq
  rw [e, drop_l, drop_l, drop_l, List.drop_drop]
set_option maxRecDepth 100000 in
set_option maxHeartbeats 1000000 in
theorem piece_any (base s : ByteArray) (room : Nat) (w : World) (hb : base.size ≤ maxLen) (hs : s.size ≤ maxLen) (hr : room ≤ 4611686018427387903) :
    Calls Tryz.prog 103 #[.string base, .string s, .int .i64 (room : Int)] w fun e w' => e = .returned (.tuple #[.string (Tx.tb (pc base.data.toList s.data.toList room).1), .string (lft base s room), .int .i64 ((pc base.data.toList s.data.toList room).2.2 : Int)]) ∧ Below w.heap.size w w' := by
  have cn := num_any s w hs
  have hsl := Wm.len_l s
  have hbl := Wm.len_l base
  unfold lft pc
  rcases rdU_alt s.data.toList with ⟨r, hr0, hr3, h⟩ | ⟨x, m, h, hx, hm, hm0⟩
  · unfold maxLen at hb hs
    unfold rst at cn
    rw [h] at cn ⊢
    simp only at cn ⊢
    rw [if_neg hr0] at cn
    rw [if_pos hr0]
    simp only
    rw [if_neg hr0]
    have hne : ((r : Int) == 0) = false := by simp; omega
    clear h hr0
    go_enter Tryz.func103, Tryz.ntmps103
    go_wp2_with fail
    go_at_call 102
    refine cn.mono ?_
    rintro e w1 ⟨rfl, hB⟩
    go_wp2_with fail
    go_ret3
    exact ⟨rfl, hB⟩
  · rw [Wm.len_l] at hm
    unfold rst at cn
    rw [h] at cn ⊢
    simp only at cn ⊢
    rw [if_pos trivial] at cn
    rw [if_neg (by simp)]
    by_cases h1 : x / 2 = 0 ∨ room < x / 2
    · rw [if_pos h1]
      simp only
      rw [if_neg (by decide)]
      unfold maxLen at hb hs
      clear h
      by_cases h0 : x / 2 = 0
      · have hz : ((x : Int) / 2) = 0 := by omega
        go_enter Tryz.func103, Tryz.ntmps103
        go_wp2_with fail
        go_at_call 102
        refine cn.mono ?_
        rintro e w1 ⟨rfl, hB⟩
        go_wp2_with fail
        go_ret3
        exact ⟨rfl, hB⟩
      · have hz : ¬ ((x : Int) / 2) = 0 := by omega
        have hz2 : (room : Int) < (x : Int) / 2 := by omega
        go_enter Tryz.func103, Tryz.ntmps103
        go_wp2_with fail
        go_at_call 102
        refine cn.mono ?_
        rintro e w1 ⟨rfl, hB⟩
        go_wp2_with fail
        go_ret3
        exact ⟨rfl, hB⟩
    · rw [if_neg h1]
      obtain ⟨n, hn⟩ : ∃ n, n = x / 2 := ⟨_, rfl⟩
      have hz : ((n : Int) == 0) = false := by simp; omega
      have hz2 : ¬ ((room : Int) < (n : Int)) := by omega
      have hz3 : ¬ (room < n) := by omega
      have hz4 : decide (room < n) = false := decide_eq_false hz3
      have hnz : (x : Int) / 2 = (n : Int) := by omega
      by_cases h2 : x % 2 = 1
      · rw [if_pos h2]
        have hodd : (x : Int) % 2 = 1 := by omega
        have cc := fun W => copied_any base (s.extract m s.size) n W hb (by simp; omega) (by omega)
        unfold cpd at cc
        rw [drop_l] at cc
        unfold maxLen at hb hs
        have hmod : ¬ (x : Int) % 2 = 0 := by omega
        rcases rdU_alt (s.data.toList.drop m) with ⟨r, hr0, hr3, h'⟩ | ⟨y, q, h', hy, hq, hq0⟩
        · rw [h'] at cc ⊢
          simp only at cc ⊢
          rw [if_pos hr0] at cc ⊢
          simp only at cc ⊢
          rw [if_neg hr0]
          clear h h' hr0 h1 h2 hn
          go_enter Tryz.func103, Tryz.ntmps103
          go_wp2_with fail
          go_at_call 102
          refine cn.mono ?_
          rintro e w1 ⟨rfl, hB⟩
          go_wp2_with fail
          go_at_call 143
          refine (cc _).mono ?_
          rintro e w2 ⟨rfl, hB2⟩
          have hB3 := Wr.below_call hB hB2
          go_wp2_with fail
          go_ret3
          exact ⟨rfl, hB3⟩
        · rw [h'] at cc ⊢
          simp only at cc ⊢
          rw [if_neg (by simp)] at cc ⊢
          by_cases h4 : base.size < y + n
          · have h4' : base.data.toList.length < y + x / 2 := by rw [hbl, ← hn]; exact h4
            rw [if_pos h4] at cc
            rw [if_pos h4']
            simp only at cc ⊢
            rw [if_neg (by decide)]
            clear h h' h1 h2 hn h4 h4'
            go_enter Tryz.func103, Tryz.ntmps103
            go_wp2_with fail
            go_at_call 102
            refine cn.mono ?_
            rintro e w1 ⟨rfl, hB⟩
            go_wp2_with fail
            go_at_call 143
            refine (cc _).mono ?_
            rintro e w2 ⟨rfl, hB2⟩
            have hB3 := Wr.below_call hB hB2
            go_wp2_with fail
            go_ret3
            exact ⟨rfl, hB3⟩
          · have h4' : ¬ base.data.toList.length < y + x / 2 := by rw [hbl, ← hn]; exact h4
            rw [if_neg h4] at cc
            rw [if_neg h4']
            simp only at cc ⊢
            rw [if_pos trivial]
            have hsz : (s.extract m s.size).size = s.size - m := by simp
            rw [hsz, ext_ext s m q hm, tb_ext] at cc
            rw [← hn]
            clear h h' h1 h2 hn h4 h4' hsz
            go_enter Tryz.func103, Tryz.ntmps103
            go_wp2_with fail
            go_at_call 102
            refine cn.mono ?_
            rintro e w1 ⟨rfl, hB⟩
            go_wp2_with fail
            go_at_call 143
            refine (cc _).mono ?_
            rintro e w2 ⟨rfl, hB2⟩
            have hB3 := Wr.below_call hB hB2
            go_wp2_with fail
            go_ret3
            exact ⟨rfl, hB3⟩
      · rw [if_neg h2]
        unfold maxLen at hb hs
        have hmod : (x : Int) % 2 = 0 := by omega
        have hsz : (s.extract m s.size).size = s.size - m := by simp
        by_cases h4 : s.data.toList.length - m < x / 2
        · rw [if_pos h4]
          simp only
          rw [if_neg (by decide)]
          have h4z : ((s.size - m : Nat) : Int) < (n : Int) := by rw [hsl, ← hn] at h4; omega
          rw [← hsz] at h4z
          clear h h1 h2 hn h4
          go_enter Tryz.func103, Tryz.ntmps103
          go_wp2_with fail
          go_at_call 102
          refine cn.mono ?_
          rintro e w1 ⟨rfl, hB⟩
          have hB3 := hB.drew
          go_wp2_with fail
          go_ret3
          exact ⟨rfl, hB⟩
        · rw [if_neg h4]
          simp only
          rw [if_pos trivial]
          have h4z : ¬ ((s.size - m : Nat) : Int) < (n : Int) := by rw [hsl, ← hn] at h4; omega
          have h4y : (n : Int) ≤ ((s.size - m : Nat) : Int) := by omega
          rw [← hn]
          have e1 : (s.extract m s.size).extract 0 n = Tx.tb ((s.data.toList.drop m).take n) := by
            apply ba_eq
            rw [ext_l, drop_l, Tx.tb_list]
            rfl
          have e2 : (s.extract m s.size).extract n (s.extract m s.size).size = s.extract (m + n) s.size := by rw [hsz]; exact ext_ext s m n hm
          rw [← hsz] at h4z h4y
          rw [← e1, ← e2]
          have hRs : (s.extract m s.size).size ≤ s.size := by rw [hsz]; exact Nat.sub_le _ _
          generalize s.extract m s.size = R at cn h4z h4y hsz hRs ⊢
          clear h h1 h2 hn h4 e1 e2 hsz
          go_enter Tryz.func103, Tryz.ntmps103
          go_wp2_with fail
          go_at_call 102
          refine cn.mono ?_
          rintro e w1 ⟨rfl, hB⟩
          have hB3 := hB.drew
          go_wp2_with fail
          go_region
          go_wp2_with fail
          go_ret3
          exact ⟨rfl, hB3⟩
end Go.Proofs.YtdfcbnejnnibpaaGreatDoor.Dl

namespace Go.Proofs.YtdfcbnejnnibpaaGreatDoor.Dl
open Go.RowKit Wm Wr Dm
set_option linter.unusedVariables false
theorem or2 (x y : Nat) (i : Nat) (h : i = 8 ∨ i = 16 ∨ i = 24) (hx : x < 2 ^ i) (hy : y < 256) : bits .or .u32 (x : Int) ((y * 2 ^ i : Nat) : Int) = ((x + y * 2 ^ i : Nat) : Int) := by
  have h1 : y * 2 ^ i < 4294967296 := by rcases h with rfl | rfl | rfl <;> omega
  have h2 : x < 4294967296 := by rcases h with rfl | rfl | rfl <;> omega
  rw [u32_or_nat x _ h2 h1, Nat.or_comm, nat_join i (y * 2 ^ i) x (Nat.mul_mod_left _ _) hx, Nat.add_comm]
theorem or4 (a b c d : Nat) (ha : a < 256) (hb : b < 256) (hc : c < 256) (hd : d < 256) :
    bits .or .u32 (bits .or .u32 (bits .or .u32 ((a : Int) % 4294967296) ((b : Int) % 4294967296 * 256 % 4294967296)) ((c : Int) % 4294967296 * 65536 % 4294967296)) ((d : Int) % 4294967296 * 16777216 % 4294967296) = ((a + 256 * b + 65536 * c + 16777216 * d : Nat) : Int) := by
  have e1 : ((a : Int) % 4294967296) = (a : Int) := by omega
  have e2 : ((b : Int) % 4294967296 * 256 % 4294967296) = ((b * 2 ^ 8 : Nat) : Int) := by omega
  have e3 : ((c : Int) % 4294967296 * 65536 % 4294967296) = ((c * 2 ^ 16 : Nat) : Int) := by omega
  have e4 : ((d : Int) % 4294967296 * 16777216 % 4294967296) = ((d * 2 ^ 24 : Nat) : Int) := by omega
  rw [e1, e2, e3, e4, or2 a b 8 (.inl rfl) ha hb, or2 _ c 16 (.inr (.inl rfl)) (by omega) hc, or2 _ d 24 (.inr (.inr rfl)) (by omega) hd]
  omega
theorem blk_is (s : ByteArray) (i j k l : Nat) (hj : j = i + 1) (hk : k = i + 2) (hl : l = i + 3) (h0 : i < s.size) (h1 : j < s.size) (h2 : k < s.size) (h3 : l < s.size) :
    blk s.data.toList i = s[i].toNat + 256 * s[j].toNat + 65536 * s[k].toNat + 16777216 * s[l].toNat := by
  subst hj hk hl
  unfold blk
  rw [gd s i h0, gd s _ h1, gd s _ h2, gd s _ h3]
set_option maxRecDepth 100000 in
set_option maxHeartbeats 1000000 in
theorem block_any (s : ByteArray) (i : Nat) (w : World) (hs : s.size ≤ maxLen) (h : i + 3 < s.size) :
    Calls Tryz.prog 115 #[.string s, .int .i64 (i : Int)] w fun e w' => e = .returned (.int .u32 (blk s.data.toList i : Nat)) ∧ Below w.heap.size w w' := by
  unfold maxLen at hs
  have hB : Below w.heap.size w w.drew := (Below.refl _ w).drew
  have h0z : (i : Int) < (s.size : Int) := by omega
  obtain ⟨j, hj⟩ : ∃ j, j = i + 1 := ⟨_, rfl⟩
  obtain ⟨k, hk⟩ : ∃ k, k = i + 2 := ⟨_, rfl⟩
  obtain ⟨l, hl⟩ : ∃ l, l = i + 3 := ⟨_, rfl⟩
  have hjz : (i : Int) + 1 = (j : Int) := by omega
  have hkz : (i : Int) + 2 = (k : Int) := by omega
  have hlz : (i : Int) + 3 = (l : Int) := by omega
  have h1z : (j : Int) < (s.size : Int) := by omega
  have h2z : (k : Int) < (s.size : Int) := by omega
  have h3z : (l : Int) < (s.size : Int) := by omega
  have h1 : j < s.size := by omega
  have h2 : k < s.size := by omega
  have h3 : l < s.size := by omega
  have h0 : i < s.size := by omega
  have hblk := blk_is s i j k l hj hk hl h0 h1 h2 h3
  have hor := or4 _ _ _ _ s[i].toNat_lt s[j].toNat_lt s[k].toNat_lt s[l].toNat_lt
  have HOR := Lib.hid (hor.trans (congrArg (Nat.cast (R := Int)) hblk.symm))
  clear hj hk hl hblk hor h
  go_enter Tryz.func115, Tryz.ntmps115
  go_wp2_with fail
  go_region
  go_wp2_with fail
  go_ret
  exact ⟨Wr.ret1 HOR.out, hB⟩
end Go.Proofs.YtdfcbnejnnibpaaGreatDoor.Dl

namespace Go.Proofs.YtdfcbnejnnibpaaGreatDoor.Dl
open Go.RowKit Wm Wr Dm
set_option linter.unusedVariables false
theorem infoI : (Tryz.prog.info? 3).map (fun i => (i.zero, i.size, i.bytes)) = some (some (.int .i64 0), 1, 8) := by kernel_rfl
theorem cell_same {w w1 : World} {b k : Nat} (h : w1.heap[b]? = w.heap[b]?) : w1.cell? ⟨b, k, none⟩ = w.cell? ⟨b, k, none⟩ := by
  unfold World.cell?
  simp only
  rw [h]
def Ix (w : World) (b : Nat) (base : ByteArray) : Prop := ∃ bm g n, w.cell? ⟨b, 0, none⟩ = some (.string base) ∧ w.cell? ⟨b, 1, none⟩ = some (.map (some bm)) ∧ w.cell? ⟨b, 2, none⟩ = some (.slice (some ⟨g, 0, none⟩) base.size base.size) ∧
  Mf w bm n (fs base.data.toList (Dm.pl base.data.toList) (Dm.pl base.data.toList)) ∧ g < w.heap.size ∧ b < w.heap.size ∧ ∀ i, i < base.size → w.cell? ⟨g, i, none⟩ = some (.int .i64 (nx base.data.toList i : Nat))
theorem Ix.below {w w1 : World} {b : Nat} {base : ByteArray} (h : Ix w b base) (hb : Below w.heap.size w w1) : Ix w1 b base := by
  obtain ⟨bm, g, n, h1, h2, h3, h4, h5, h6, h7⟩ := h
  exact ⟨bm, g, n, (hb.cell (p := ⟨b, 0, none⟩) h6).trans h1, (hb.cell (p := ⟨b, 1, none⟩) h6).trans h2, (hb.cell (p := ⟨b, 2, none⟩) h6).trans h3, h4.kept (hb.block _ h4.lt), Nat.lt_of_lt_of_le h5 hb.size, Nat.lt_of_lt_of_le h6 hb.size, fun i hi => (hb.cell (p := ⟨g, i, none⟩) h5).trans (h7 i hi)⟩
def nxK (l : List UInt8) (k i : Nat) : Nat := if Dm.pl l - k ≤ i ∧ i < Dm.pl l then fs l (Dm.pl l) (Dm.pl l - 1 - i) (blk l i) else 0
def rowK (l : List UInt8) (k n : Nat) : List Value := (List.range n).map fun i => .int .i64 (nxK l k i : Nat)
theorem rowK_at (l : List UInt8) (k n i : Nat) (h : i < n) : (rowK l k n)[i]? = some (.int .i64 (nxK l k i : Nat)) := by
  unfold rowK
  rw [List.getElem?_map, List.getElem?_range h]
  rfl
theorem rowK_made (l : List UInt8) (n : Nat) : (madeCells (Value.int .i64 0).cells (n * 1)).toList = rowK l 0 n := by
  refine List.ext_getElem? fun i => ?_
  by_cases h : i < n
  · rw [rowK_at l 0 n i h]
    have e : nxK l 0 i = 0 := by unfold nxK; rw [if_neg (by omega)]
    rw [e]
    unfold madeCells
    have h1 : (Value.int .i64 0).cells = #[Value.int .i64 0] := rfl
    rw [h1, Nat.mul_one, Array.getElem?_toList, Array.getElem?_map]
    simp [Nat.mod_one, h]
  · rw [List.getElem?_eq_none (by simp [madeCells]; omega), List.getElem?_eq_none (by simp [rowK]; omega)]
theorem rowK_set (l : List UInt8) (k n j : Nat) (hj : j + 1 + k = Dm.pl l) (hn : j < n) : (rowK l k n).set j (.int .i64 (fs l (Dm.pl l) k (blk l j) : Nat)) = rowK l (k + 1) n := by
  refine List.ext_getElem? fun i => ?_
  rw [List.getElem?_set]
  by_cases h : j = i
  · subst h
    rw [if_pos rfl, if_pos (by unfold rowK; simp; exact hn), rowK_at l (k + 1) n j hn]
    have e : nxK l (k + 1) j = fs l (Dm.pl l) k (blk l j) := by
      unfold nxK
      rw [if_pos (by omega), show Dm.pl l - 1 - j = k by omega]
    rw [e]
  · rw [if_neg h]
    by_cases hi : i < n
    · rw [rowK_at _ _ _ _ hi, rowK_at _ _ _ _ hi]
      have e : nxK l (k + 1) i = nxK l k i := by
        unfold nxK
        by_cases h2 : Dm.pl l - k ≤ i ∧ i < Dm.pl l
        · rw [if_pos h2, if_pos (by omega)]
        · rw [if_neg h2, if_neg (by omega)]
      rw [e]
    · rw [List.getElem?_eq_none (by simp [rowK]; omega), List.getElem?_eq_none (by simp [rowK]; omega)]
theorem nxK_all (l : List UInt8) (i : Nat) : nxK l (Dm.pl l) i = nx l i := by
  unfold nxK nx
  by_cases h : i < Dm.pl l
  · rw [if_pos (by omega), if_pos h]
  · rw [if_neg (by omega), if_neg h]
theorem fs_next (l : List UInt8) (m k j : Nat) (hj : j + 1 + k = m) : (fun q => if q = blk l j then j + 1 else fs l m k q) = fs l m (k + 1) := by
  funext q
  rw [fs]
  have e : m - 1 - k = j := by omega
  rw [e]
  by_cases h : q = blk l j
  · rw [if_pos h, if_pos h.symm]
  · rw [if_neg h, if_neg (fun e => h e.symm)]
set_option maxRecDepth 100000 in
set_option maxHeartbeats 4000000 in
theorem indexed_any (base : ByteArray) (w : World) (hb : base.size ≤ 1000000000000) :
    Calls Tryz.prog 82 #[.string base] w fun e w' => ∃ b, e = .returned (.pointer (some ⟨b, 0, none⟩)) ∧ Ix w' b base ∧ Below w.heap.size w w' := by
  obtain ⟨i0, hi, hz0, hz1, hz2⟩ := info_parts infoI
  have hmm := @run_makeMap Tryz.prog
  have hbl := Wm.len_l base
  have hpl : Dm.pl base.data.toList = base.size - 3 := by unfold Dm.pl; rw [hbl]
  generalize hm : Dm.pl base.data.toList = m at hpl
  have HM := Lib.hid hm
  have HMF := Lib.hid (mf_made w)
  have hBm : Below w.heap.size w (w.alloc (.map #[] 0)) := (Below.refl _ w).alloc (Nat.le_refl _) _
  clear hm hbl
  go_enter Tryz.func82, Tryz.ntmps82
  go_wp2_with (at_make; refine wpList_make_full _ rfl _ _ _ rfl w.heap.size 3 i0 (.int .i64 0) 1 Tryz.underlying46 hi hz0 hz1 _ _ _ _ base.size rfl rfl rfl rfl (by rw [hz2]; omega) (by unfold maxLen; omega) hBm.size ?_)
  intro w2 hown2 hgrow2
  have hown2 : w2.ownsRow w.heap.size 3 1 (.slice (some ⟨w.heap.size + 1, 0, none⟩) base.size base.size) base.size (rowK base.data.toList 0 base.size) := by
    rw [← rowK_made, Nat.mul_one]
    simpa [Value.cells] using hown2
  have hgrow3 := hgrow2
  have hB2 : Below w.heap.size w w2 := hBm.grown hgrow2 hBm.size (fun k hk => by cases hk)
  have hM2 : Mf w2 w.heap.size 0 (fun _ => 0) := HMF.out.kept (hgrow2.block w.heap.size (by simp) (by simp))
  have hg2 : w.heap.size + 1 < w2.heap.size := by
    rcases hown2.2 with ⟨h', _⟩ | ⟨g', _, _, h', _, hh, _⟩
    · cases h'
    · injection h' with h' _ _
      injection h' with h'
      injection h' with h'
      rw [h']
      exact (Array.getElem?_eq_some_iff.1 hh).1
  have HO2 := Lib.hid hown2
  have hB3 : Below w.heap.size w (w2.alloc (.cells #[.string base, .map (some w.heap.size), .slice (some ⟨w.heap.size + 1, 0, none⟩) base.size base.size] 170)) := hB2.alloc hB2.size _
  have hM3 : Mf (w2.alloc (.cells #[.string base, .map (some w.heap.size), .slice (some ⟨w.heap.size + 1, 0, none⟩) base.size base.size] 170)) w.heap.size 0 (fs base.data.toList m 0) := hM2.kept (heap_alloc_old w2 _ hM2.lt)
  have hO3 := HO2.out.alloc (.cells #[.string base, .map (some w.heap.size), .slice (some ⟨w.heap.size + 1, 0, none⟩) base.size base.size] 170)
  have a0 : (w2.alloc (.cells #[.string base, .map (some w.heap.size), .slice (some ⟨w.heap.size + 1, 0, none⟩) base.size base.size] 170)).cell? ⟨w2.heap.size, 0, none⟩ = some (.string base) := by go_simp
  have a1 : (w2.alloc (.cells #[.string base, .map (some w.heap.size), .slice (some ⟨w.heap.size + 1, 0, none⟩) base.size base.size] 170)).cell? ⟨w2.heap.size, 1, none⟩ = some (.map (some w.heap.size)) := by go_simp
  have a2 : (w2.alloc (.cells #[.string base, .map (some w.heap.size), .slice (some ⟨w.heap.size + 1, 0, none⟩) base.size base.size] 170)).cell? ⟨w2.heap.size, 2, none⟩ = some (.slice (some ⟨w.heap.size + 1, 0, none⟩) base.size base.size) := by go_simp
  have hlt3 : w2.heap.size < (w2.alloc (.cells #[.string base, .map (some w.heap.size), .slice (some ⟨w.heap.size + 1, 0, none⟩) base.size base.size] 170)).heap.size := by simp
  clear hown2 hgrow2 hgrow3 HO2 hM2 HMF hBm hmm hB2
  go_wp2_with fail
  generalize w2.alloc (.cells #[.string base, .map (some w.heap.size), .slice (some ⟨w.heap.size + 1, 0, none⟩) base.size base.size] 170) = W3 at hB3 hM3 hO3 a0 a1 a2 hlt3 ⊢
  obtain ⟨b, hbq⟩ : ∃ b, b = w2.heap.size := ⟨_, rfl⟩
  rw [← hbq] at a0 a1 a2 hlt3 hg2 ⊢
  clear hbq
  obtain ⟨bm, hbm⟩ : ∃ bm, bm = w.heap.size := ⟨_, rfl⟩
  obtain ⟨g, hg⟩ : ∃ g, g = w.heap.size + 1 := ⟨_, rfl⟩
  have hne : bm ≠ g := by omega
  have hne2 : b ≠ g := by omega
  have hne3 : b ≠ bm := by omega
  have hbb : w.heap.size ≤ bm := by omega
  have hbg : w.heap.size ≤ g := by omega
  rw [← hg] at a2 hO3
  rw [← hbm] at a1 hM3
  have HA0 := Lib.hid a0
  have HA1 := Lib.hid a1
  have HA2 := Lib.hid a2
  clear hg hbm a0 a1 a2 hg2
  go_loopw [4] (fun av wr => ∃ (k n : Nat) (z : Int), av = .int .i64 z ∧ z = (base.size : Int) - 4 - (k : Int) ∧ k ≤ m ∧ n ≤ k ∧ Mf wr bm n (fs base.data.toList m k) ∧ wr.ownsRow w.heap.size 3 1 (.slice (some ⟨g, 0, none⟩) base.size base.size) base.size (rowK base.data.toList k base.size) ∧ wr.heap[b]? = W3.heap[b]? ∧ Below w.heap.size w wr) (fun av _ => (intOf av + 1).toNat)
  case atStart => exact ⟨0, 0, _, rfl, by omega, Nat.zero_le _, Nat.zero_le _, hM3, hO3, rfl, hB3⟩
  case round =>
    obtain ⟨k, n, z, rfl, hz, hk, hnk, hMr, hOr, hbr, hBr⟩ := hrel
    have c0 := (cell_same (k := 0) hbr).trans HA0.out
    have c1 := (cell_same (k := 1) hbr).trans HA1.out
    have c2 := (cell_same (k := 2) hbr).trans HA2.out
    by_cases hz0 : 0 ≤ z
    · obtain ⟨j, rfl⟩ : ∃ j : Nat, z = (j : Int) := ⟨z.toNat, by omega⟩
      have hj : j + 1 + k = m := by omega
      have hj3 : j + 3 < base.size := by omega
      have cb := block_any base j wr (by unfold maxLen; omega) hj3
      have hKl := blk_lt base.data.toList j
      have hfe := fs_le base.data.toList m k (blk base.data.toList j) (by omega)
      have hset := rowK_set base.data.toList k base.size j (by rw [HM.out]; exact hj) (by omega)
      rw [HM.out] at hset
      have hfn := fs_next base.data.toList m k j hj
      have HSET := Lib.hid hset
      have HFN := Lib.hid hfn
      generalize blk base.data.toList j = K at cb hKl hfe HSET HFN
      clear hset hfn hz
      obtain ⟨V, hV⟩ : ∃ V, V = fs base.data.toList m k K := ⟨_, rfl⟩
      go_wp2_with fail
      go_at_call 115
      refine cb.mono ?_
      rintro e w5 ⟨rfl, hb5⟩
      have hM5 := hMr.kept (hb5.block _ hMr.lt)
      have hbl : b < wr.heap.size := World.block_lt_of_cell? wr _ c0
      have hb5e := hb5.block b hbl
      have hO5 : w5.drew.ownsRow w.heap.size 3 1 (.slice (some ⟨g, 0, none⟩) base.size base.size) base.size (rowK base.data.toList k base.size) := by
        refine ⟨hOr.1, ?_⟩
        rcases hOr.2 with h0 | ⟨g', cap', cur, hv, hg', hh, r⟩
        · exact .inl h0
        · exact .inr ⟨g', cap', cur, hv, hg', (hb5.block g' (Array.getElem?_eq_some_iff.1 hh).1).trans hh, r⟩
      have d1 : w5.drew.cell? ⟨b, 1, none⟩ = some (.map (some bm)) := (cell_same (k := 1) hb5e).trans c1
      have d2 : w5.drew.cell? ⟨b, 2, none⟩ = some (.slice (some ⟨g, 0, none⟩) base.size base.size) := (cell_same (k := 2) hb5e).trans c2
      have hlk := Mf.look (w := w5.drew) hM5 hKl
      rw [← hV] at hlk hfe
      have hcell : w5.drew.cell? ⟨g, j, none⟩ = some (.int .i64 (nxK base.data.toList k j : Nat)) := by
        have := hO5.cells (g := g) rfl j _ (rowK_at base.data.toList k base.size j (by omega))
        rw [WideShapes.add_plain, Nat.zero_add] at this
        exact this
      have hfr : w5.drew.frozen? ⟨g, j, none⟩ = false := hO5.frozenAt j
      have hst := hO5.stored j (.int .i64 (V : Int))
      have hB5 := (Wr.below_call hBr hb5).drew
      have hM6 : Mf (w5.drew.setCell ⟨g, j, none⟩ (.int .i64 (V : Int))) bm n (fs base.data.toList m k) := Mf.kept (w := w5.drew) hM5 (hst.2.block bm hM5.lt (fun e => hne (by injection e)))
      have hb6 : (w5.drew.setCell ⟨g, j, none⟩ (.int .i64 (V : Int))).heap[b]? = wr.heap[b]? := (hst.2.block b (Nat.lt_of_lt_of_le hbl hb5.size) (fun e => hne2 (by injection e))).trans hb5e
      have f1 := (cell_same (k := 1) hb6).trans c1
      obtain ⟨w7, hrun, hM7, hg7⟩ := hM6.store (k := K) (v := j + 1) hKl (by omega) (by unfold maxLen; omega)
      rw [HFN.out] at hM7
      have hO7 : w7.ownsRow w.heap.size 3 1 (.slice (some ⟨g, 0, none⟩) base.size base.size) base.size (rowK base.data.toList (k + 1) base.size) := by
        have ho := hst.1
        rw [hV, HSET.out, ← hV] at ho
        refine ⟨ho.1, ?_⟩
        rcases ho.2 with h0 | ⟨g', cap', cur, hv, hg', hh, r⟩
        · exact .inl h0
        · have hgg : g' = g := by injection hv with hv _ _; injection hv with hv; injection hv with hv; exact hv.symm
          exact .inr ⟨g', cap', cur, hv, hg', (hg7.block g' (Array.getElem?_eq_some_iff.1 hh).1 (fun e => hne (by injection e with e; rw [← e, hgg]))).trans hh, r⟩
      have hbl6 : b < (w5.drew.setCell ⟨g, j, none⟩ (.int .i64 (V : Int))).heap.size := World.block_lt_of_cell? _ _ f1
      have hb7 : w7.heap[b]? = W3.heap[b]? := ((hg7.block b hbl6 (fun e => hne3 (by injection e))).trans hb6).trans hbr
      have hB7 : Below w.heap.size w w7 := (hB5.grown hst.2 hB5.size (fun q hq => by cases hq; exact hbg)).grown hg7 (by have := hB5.size; simp [World.setCell]; exact this) (fun q hq => by cases hq; exact hbb)
      have hjz : (j : Int) < (base.size : Int) := by omega
      have hj1 : ((j + 1 : Nat) : Int) = (j : Int) + 1 := by omega
      rw [hj1] at hrun
      have e6 : w5.drew.setCell ⟨g, j, none⟩ (.int .i64 (V : Int)) = (w5.setCell ⟨g, j, none⟩ (.int .i64 (V : Int))).drew := by first | rfl | simp
      rw [e6] at hrun f1
      have HM7 := Lib.hid hM7
      have HO7 := Lib.hid hO7
      have HB7 := Lib.hid hB7
      have HH7 := Lib.hid hb7
      clear hM7 hO7 hB7 hb7 hM6 hst hO5 hM5 hMr hOr hbr hBr hb5 cb hb5e hB5 hV c0 c1 c2 hg7 hb6 hbl6
      go_wp2_with fail
      go_region
      go_wp2_with fail
      go_roundw
      case rel => exact ⟨k + 1, n + 1, _, by go_num, by omega, by omega, by omega, HM7.out, HO7.out, HH7.out, HB7.out⟩
      case measure => first | omega | (simp [intOf]; done) | (simp [intOf]; omega)
    · obtain rfl : k = m := by omega
      have hix : Ix wr b base := by
        refine ⟨bm, g, n, c0, c1, c2, by rw [HM.out]; exact hMr, ?_, World.block_lt_of_cell? wr _ c0, fun i hi' => ?_⟩
        · rcases hOr.2 with ⟨h', _⟩ | ⟨g', _, _, h', _, hh, _⟩
          · cases h'
          · injection h' with h' _ _
            injection h' with h'
            injection h' with h'
            rw [h']
            exact (Array.getElem?_eq_some_iff.1 hh).1
        · have := hOr.cells (g := g) rfl i _ (rowK_at base.data.toList k base.size i hi')
          rw [WideShapes.add_plain, Nat.zero_add] at this
          rw [← HM.out, nxK_all] at this
          exact this
      have HIX := Lib.hid hix
      clear hix hMr hOr c0 c1 c2 hz
      go_wp2_with fail
      go_ret
      exact ⟨b, rfl, HIX.out, hBr⟩
end Go.Proofs.YtdfcbnejnnibpaaGreatDoor.Dl

namespace Go.Proofs.YtdfcbnejnnibpaaGreatDoor.Dl
open Go.RowKit Wm Wr Dm
set_option linter.unusedVariables false
def rch (l : List UInt8) (a n c : Nat) : Bool := decide (a + n < l.length) && decide ((l.getD (a + n) 0).toNat = c)
set_option maxRecDepth 100000 in
set_option maxHeartbeats 1000000 in
theorem reaches_any (b : Nat) (base : ByteArray) (a n c : Nat) (w : World) (h : w.cell? ⟨b, 0, none⟩ = some (.string base)) (hb : base.size ≤ 1000000000000) (ha : a ≤ 1000000000000) (hn : n ≤ 1000000000000) :
    Calls Tryz.prog 117 #[.pointer (some ⟨b, 0, none⟩), .int .i64 (a : Int), .int .i64 (n : Int), .int .u8 (c : Int)] w fun e w' => e = .returned (.bool (rch base.data.toList a n c)) ∧ w = w' := by
  unfold rch
  rw [Wm.len_l]
  obtain ⟨k, hk⟩ : ∃ k, k = a + n := ⟨_, rfl⟩
  have hkz : (a : Int) + (n : Int) = (k : Int) := by omega
  rw [← hk]
  clear hk
  by_cases h1 : k < base.size
  · have hg := gd base k h1
    have h1z : (k : Int) < (base.size : Int) := by omega
    rw [decide_eq_true h1, Bool.true_and, hg]
    by_cases h2 : base[k].toNat = c
    · have h2z : ((base[k].toNat : Int) == (c : Int)) = true := by simp [h2]
      rw [decide_eq_true h2]
      clear hg h2
      go_enter Tryz.func117, Tryz.ntmps117
      go_wp2
      go_ret
      exact ⟨rfl, rfl⟩
    · have h2z : ((base[k].toNat : Int) == (c : Int)) = false := by simp; omega
      rw [decide_eq_false h2]
      clear hg h2
      go_enter Tryz.func117, Tryz.ntmps117
      go_wp2
      go_ret
      exact ⟨rfl, rfl⟩
  · have h1z : ¬ ((k : Int) < (base.size : Int)) := by omega
    rw [decide_eq_false h1, Bool.false_and]
    go_enter Tryz.func117, Tryz.ntmps117
    go_wp2
    go_ret
    exact ⟨rfl, rfl⟩
theorem rch_not {base s : List UInt8} {a n : Nat} (hn : n < s.length) (h : rch base a n (s.getD n 0).toNat = false) : cp (base.drop a) s ≤ n := by
  refine cp_stop _ _ n hn ?_
  unfold rch at h
  by_cases h1 : a + n < base.length
  · right
    rw [decide_eq_true h1, Bool.true_and] at h
    intro e
    have h := of_decide_eq_false h
    apply h
    rw [← e]
    simp [List.getD_eq_getElem?_getD]
  · left
    rw [List.length_drop]
    omega
theorem lgL_none (base s : List UInt8) (t i n : Nat) : lgL base s t 0 i n = (i, n) := by cases t <;> rfl
theorem lgL_more {base s : List UInt8} {t a i n : Nat} (h : n < s.length) : lgL base s (t + 1) (a + 1) i n = if n < cp (base.drop a) s then lgL base s t (nx base a) a (cp (base.drop a) s) else lgL base s t (nx base a) i n := by
  rw [lgL, if_pos h]
end Go.Proofs.YtdfcbnejnnibpaaGreatDoor.Dl

namespace Go.Proofs.YtdfcbnejnnibpaaGreatDoor.Dl
open Go.RowKit Wm Wr Dm
set_option linter.unusedVariables false
set_option maxRecDepth 100000 in
set_option maxHeartbeats 16000000 in
theorem longest_any (b : Nat) (base s : ByteArray) (z : Int) (w : World) (h : Ix w b base) (hb : base.size ≤ 1000000000000) (hs : s.size ≤ 1000000000000) (hz : -4000000000000 ≤ z ∧ z ≤ 4000000000000) :
    Calls Tryz.prog 84 #[.pointer (some ⟨b, 0, none⟩), .string s, .int .i64 z] w fun e w' => e = .returned (.tuple #[.int .i64 ((lg base.data.toList s.data.toList z).1 : Nat), .int .i64 ((lg base.data.toList s.data.toList z).2 : Nat)]) ∧ Below w.heap.size w w' := by
  obtain ⟨bm, g, nn, h1, h2, h3, h4, h5, h6, h7⟩ := h
  have hbl := Wm.len_l base
  have hsl := Wm.len_l s
  obtain ⟨RES, hres⟩ : ∃ R, R = lg base.data.toList s.data.toList z := ⟨_, rfl⟩
  rw [← hres]
  unfold lg at hres
  rw [hsl] at hres
  by_cases hs4 : s.size < 4
  · rw [if_pos hs4] at hres
    rw [hres]
    have hsz : (s.size : Int) < 4 := by omega
    clear hres h7 hbl hsl
    go_enter Tryz.func84, Tryz.ntmps84
    go_wp2_with fail
    go_ret2
    exact ⟨rfl, Below.refl _ _⟩
  · rw [if_neg hs4] at hres
    have hsz : ¬ ((s.size : Int) < 4) := by omega
    have F0 := Lib.hid (fun V (hV : Below w.heap.size w V) => (hV.cell (p := ⟨b, 0, none⟩) h6).trans h1)
    have F1 := Lib.hid (fun V (hV : Below w.heap.size w V) => (hV.cell (p := ⟨b, 1, none⟩) h6).trans h2)
    have F2 := Lib.hid (fun V (hV : Below w.heap.size w V) => (hV.cell (p := ⟨b, 2, none⟩) h6).trans h3)
    have F4 := Lib.hid (fun V (hV : Below w.heap.size w V) => Mf.look (h4.kept (hV.block bm h4.lt)) (blk_lt s.data.toList 0))
    have F7 := Lib.hid (fun V (hV : Below w.heap.size w V) i (hi : i < base.size) => (hV.cell (p := ⟨g, i, none⟩) h5).trans (h7 i hi))
    have hA0 := fs_le base.data.toList (Dm.pl base.data.toList) (Dm.pl base.data.toList) (blk s.data.toList 0) (Nat.le_refl _)
    have hpl : Dm.pl base.data.toList = base.size - 3 := by unfold Dm.pl; rw [hbl]
    have cb := fun V => block_any s 0 V (by unfold maxLen; omega) (by omega)
    have hr0 := run_lg0 base.data.toList s.data.toList z
    obtain ⟨a0, ha0⟩ : ∃ a0, a0 = fs base.data.toList (Dm.pl base.data.toList) (Dm.pl base.data.toList) (blk s.data.toList 0) := ⟨_, rfl⟩
    rw [← ha0] at hres hA0 F4
    generalize blk s.data.toList 0 = K at cb F4
    clear h1 h2 h3 h4 h7 ha0
    have c00 := F0.out w (Below.refl _ _)
    by_cases hlk : 0 ≤ z ∧ z < (base.size : Int)
    · obtain ⟨y, rfl⟩ : ∃ y : Nat, z = (y : Int) := ⟨z.toNat, by omega⟩
      have hl0 : lg0 base.data.toList s.data.toList (y : Int) = (y, cp (base.data.toList.drop y) s.data.toList) := by
        unfold lg0
        rw [hbl, if_pos hlk]
        rfl
      rw [hl0] at hres hr0
      unfold Run at hr0
      simp only at hres hr0
      rw [hbl, hsl] at hr0
      obtain ⟨hr1, hr2, _⟩ := hr0
      have ca := fun V => alike_any (base.extract y base.size) s V (by unfold maxLen; simp; omega) (by unfold maxLen; omega)
      rw [drop_l] at ca
      generalize cp (base.data.toList.drop y) s.data.toList = n0 at ca hres hr1 hr2
      have HRES := Lib.hid hres
      have hy1 : (y : Int) < (base.size : Int) := hlk.2
      clear hres hl0 hlk
      obtain ⟨i0, hi0⟩ : ∃ i0, i0 = y := ⟨_, rfl⟩
      go_enter Tryz.func84, Tryz.ntmps84
      go_wp2_with fail
      go_at_call 116
      refine (ca _).mono ?_
      rintro e wq ⟨rfl, hBq⟩
      subst hi0
      clear ca c00
      have d1 : wq.drew.cell? ⟨b, 1, none⟩ = some (.map (some bm)) := F1.out wq.drew hBq.drew
      go_wp2_with fail
      go_region_with (go_at_call 115; refine (cb _).mono ?_; rintro e w5 ⟨rfl, hb5⟩; have hB5 := Wr.below_call hBq.drew hb5; have d2 := F1.out w5 hB5; have lk := F4.out w5 hB5)
      all_goals
        clear d1 d2 lk hb5 cb
        go_wp2_with fail
        go_loopw [6, 7, 8, 9] (fun fv nv av tv wr => ∃ i n a t : Nat, fv = .int .i64 (i : Nat) ∧ nv = .int .i64 (n : Nat) ∧ av = .int .i64 ((a : Int) - 1) ∧ tv = .int .i64 (t : Nat) ∧ t ≤ 256 ∧ n ≤ s.size ∧ a ≤ base.size - 3 ∧ i ≤ base.size ∧ Hid (RES = lgL base.data.toList s.data.toList (256 - t) a i n) ∧ Below w.heap.size w wr) (fun _ _ _ tv _ => 256 - (intOf tv).toNat)
        case atStart => exact ⟨i0, n0, a0, 0, rfl, rfl, by go_num, rfl, by omega, hr2, by omega, by omega, HRES, hB5⟩
        case round =>
          clear hB5
          obtain ⟨i, n, a, t, rfl, rfl, rfl, rfl, ht, hn, ha, hi, hR, hB⟩ := hrel
          have e0 := F0.out _ hB
          have e2 := F2.out _ hB
          by_cases ha0 : a = 0
          · subst ha0
            have hE : RES = (i, n) := by rw [hR.out, lgL_none]
            have HE := Lib.hid hE
            clear hE hR
            go_wp2_with fail
            go_ret2
            rw [HE.out]
            exact ⟨rfl, hB⟩
          · obtain ⟨q, rfl⟩ : ∃ q, a = q + 1 := ⟨a - 1, by omega⟩
            have hq1 : ((q + 1 : Nat) : Int) - 1 = (q : Int) := by omega
            rw [hq1]
            have hqb : (q : Int) < (base.size : Int) := by omega
            by_cases ht2 : t = 256
            · subst ht2
              have hE : RES = (i, n) := by rw [hR.out]; rfl
              have HE := Lib.hid hE
              clear hE hR
              go_wp2_with fail
              go_ret2
              rw [HE.out]
              exact ⟨rfl, hB⟩
            · have ht3 : (t : Int) < 256 := by omega
              obtain ⟨T, hT⟩ : ∃ T, 256 - t = T + 1 := ⟨255 - t, by omega⟩
              have hT2 : 256 - (t + 1) = T := by omega
              by_cases hns : n < s.size
              · have hnz : (n : Int) < (s.size : Int) := by omega
                have hmore := lgL_more (base := base.data.toList) (s := s.data.toList) (t := T) (a := q) (i := i) (n := n) (by rw [hsl]; exact hns)
                have e7 := F7.out _ hB q (by omega)
                have hnx := nx_le base.data.toList q
                rw [hpl] at hnx
                have cr := fun V (hV : Below w.heap.size w V) => reaches_any b base q n s[n].toNat V (F0.out V hV) hb (by omega) (by omega)
                have hrn := rch_not (base := base.data.toList) (s := s.data.toList) (a := q) (n := n) (by rw [hsl]; exact hns)
                rw [gd s n hns] at hrn
                have hcq := cp_le (base.data.toList.drop q) s.data.toList
                rw [List.length_drop, hbl, hsl] at hcq
                have ca := fun V => alike_any (base.extract q base.size) s V (by unfold maxLen; simp; omega) (by unfold maxLen; omega)
                rw [drop_l] at ca
                generalize nx base.data.toList q = X at hmore e7 hnx
                generalize cp (base.data.toList.drop q) s.data.toList = C at hmore hrn hcq ca
                generalize rch base.data.toList q n s[n].toNat = B at cr hrn
                cases B
                · have hC : ¬ n < C := by have := hrn rfl; omega
                  rw [if_neg hC] at hmore
                  have hE : Hid (RES = lgL base.data.toList s.data.toList (256 - (t + 1)) X i n) := Lib.hid (by rw [hR.out, hT, hmore, hT2])
                  have cr0 := cr _ hB
                  clear hmore hrn hR hT hT2 ca hcq hC cr ha0
                  go_wp2_with fail
                  go_at_call 117
                  refine cr0.mono ?_
                  rintro e w7 ⟨rfl, rfl⟩
                  go_wp2_with fail
                  go_roundw
                  case rel => exact ⟨i, n, X, t + 1, rfl, rfl, by go_num, by go_num, by omega, by omega, by omega, by omega, hE, hB⟩
                  case measure => simp [intOf]; omega
                · have cr0 := cr _ hB
                  by_cases hC : n < C
                  · rw [if_pos hC] at hmore
                    have hE : Hid (RES = lgL base.data.toList s.data.toList (256 - (t + 1)) X q C) := Lib.hid (by rw [hR.out, hT, hmore, hT2])
                    have hCz : (n : Int) < (C : Int) := by omega
                    clear hmore hrn hR hT hT2 cr ha0
                    go_wp2_with fail
                    go_at_call 117
                    refine cr0.mono ?_
                    rintro e w7 ⟨rfl, rfl⟩
                    go_wp2_with fail
                    go_at_call 116
                    refine (ca _).mono ?_
                    rintro e w8 ⟨rfl, hb8⟩
                    have hB8 := Wr.below_call hB hb8
                    have e2' := F2.out _ hB8
                    have e7' := (hb8.cell (p := ⟨g, q, none⟩) (World.block_lt_of_cell? _ _ e7)).trans e7
                    clear hb8 ca cr0 e0 e2 e7
                    go_wp2_with fail
                    go_roundw
                    case rel => exact ⟨q, C, X, t + 1, rfl, rfl, by go_num, by go_num, by omega, by omega, by omega, by omega, hE, hB8⟩
                    case measure => simp [intOf]; omega
                  · rw [if_neg hC] at hmore
                    have hE : Hid (RES = lgL base.data.toList s.data.toList (256 - (t + 1)) X i n) := Lib.hid (by rw [hR.out, hT, hmore, hT2])
                    have hCz : ¬ ((n : Int) < (C : Int)) := by omega
                    clear hmore hrn hR hT hT2 cr ha0
                    go_wp2_with fail
                    go_at_call 117
                    refine cr0.mono ?_
                    rintro e w7 ⟨rfl, rfl⟩
                    go_wp2_with fail
                    go_at_call 116
                    refine (ca _).mono ?_
                    rintro e w8 ⟨rfl, hb8⟩
                    have hB8 := Wr.below_call hB hb8
                    have e2' := F2.out _ hB8
                    have e7' := (hb8.cell (p := ⟨g, q, none⟩) (World.block_lt_of_cell? _ _ e7)).trans e7
                    clear hb8 ca cr0 e0 e2 e7
                    go_wp2_with fail
                    go_roundw
                    case rel => exact ⟨i, n, X, t + 1, rfl, rfl, by go_num, by go_num, by omega, by omega, by omega, by omega, hE, hB8⟩
                    case measure => simp [intOf]; omega
              · have hnz : ¬ ((n : Int) < (s.size : Int)) := by omega
                have hE : RES = (i, n) := by rw [hR.out, hT, lgL, if_neg (by rw [hsl]; exact hns)]
                have HE := Lib.hid hE
                clear hE hR hT hT2
                go_wp2_with fail
                go_ret2
                rw [HE.out]
                exact ⟨rfl, hB⟩
    · have hl0 : lg0 base.data.toList s.data.toList z = (0, 0) := by
        unfold lg0
        rw [hbl, if_neg hlk]
      rw [hl0] at hres
      simp only at hres
      obtain ⟨n0, hn0⟩ : ∃ n0 : Nat, n0 = 0 := ⟨_, rfl⟩
      have HRES := Lib.hid hres
      have hBq := Below.refl w.heap.size w
      have hr1 : 0 + 0 ≤ base.size := Nat.zero_le _
      have hr2 : 0 ≤ s.size := Nat.zero_le _
      clear hres hl0 hn0 hr0
      by_cases hz0 : 0 ≤ z
      · have hz1 : ¬ (z < (base.size : Int)) := fun h => hlk ⟨hz0, h⟩
        clear hlk
        go_enter Tryz.func84, Tryz.ntmps84
        have d1 : w.drew.cell? ⟨b, 1, none⟩ = some (.map (some bm)) := F1.out w.drew hBq.drew
        go_wp2_with fail
        go_region_with (go_at_call 115; refine (cb _).mono ?_; rintro e w5 ⟨rfl, hb5⟩; have hB5 := Wr.below_call hBq.drew hb5; have d2 := F1.out w5 hB5; have lk := F4.out w5 hB5)
        all_goals
          clear d1 d2 lk hb5 cb
          go_wp2_with fail
          go_loopw [6, 7, 8, 9] (fun fv nv av tv wr => ∃ i n a t : Nat, fv = .int .i64 (i : Nat) ∧ nv = .int .i64 (n : Nat) ∧ av = .int .i64 ((a : Int) - 1) ∧ tv = .int .i64 (t : Nat) ∧ t ≤ 256 ∧ n ≤ s.size ∧ a ≤ base.size - 3 ∧ i ≤ base.size ∧ Hid (RES = lgL base.data.toList s.data.toList (256 - t) a i n) ∧ Below w.heap.size w wr) (fun _ _ _ tv _ => 256 - (intOf tv).toNat)
          case atStart => exact ⟨0, 0, a0, 0, rfl, rfl, by go_num, rfl, by omega, hr2, by omega, by omega, HRES, hB5⟩
          case round =>
            clear hB5
            obtain ⟨i, n, a, t, rfl, rfl, rfl, rfl, ht, hn, ha, hi, hR, hB⟩ := hrel
            have e0 := F0.out _ hB
            have e2 := F2.out _ hB
            by_cases ha0 : a = 0
            · subst ha0
              have hE : RES = (i, n) := by rw [hR.out, lgL_none]
              have HE := Lib.hid hE
              clear hE hR
              go_wp2_with fail
              go_ret2
              rw [HE.out]
              exact ⟨rfl, hB⟩
            · obtain ⟨q, rfl⟩ : ∃ q, a = q + 1 := ⟨a - 1, by omega⟩
              have hq1 : ((q + 1 : Nat) : Int) - 1 = (q : Int) := by omega
              rw [hq1]
              have hqb : (q : Int) < (base.size : Int) := by omega
              by_cases ht2 : t = 256
              · subst ht2
                have hE : RES = (i, n) := by rw [hR.out]; rfl
                have HE := Lib.hid hE
                clear hE hR
                go_wp2_with fail
                go_ret2
                rw [HE.out]
                exact ⟨rfl, hB⟩
              · have ht3 : (t : Int) < 256 := by omega
                obtain ⟨T, hT⟩ : ∃ T, 256 - t = T + 1 := ⟨255 - t, by omega⟩
                have hT2 : 256 - (t + 1) = T := by omega
                by_cases hns : n < s.size
                · have hnz : (n : Int) < (s.size : Int) := by omega
                  have hmore := lgL_more (base := base.data.toList) (s := s.data.toList) (t := T) (a := q) (i := i) (n := n) (by rw [hsl]; exact hns)
                  have e7 := F7.out _ hB q (by omega)
                  have hnx := nx_le base.data.toList q
                  rw [hpl] at hnx
                  have cr := fun V (hV : Below w.heap.size w V) => reaches_any b base q n s[n].toNat V (F0.out V hV) hb (by omega) (by omega)
                  have hrn := rch_not (base := base.data.toList) (s := s.data.toList) (a := q) (n := n) (by rw [hsl]; exact hns)
                  rw [gd s n hns] at hrn
                  have hcq := cp_le (base.data.toList.drop q) s.data.toList
                  rw [List.length_drop, hbl, hsl] at hcq
                  have ca := fun V => alike_any (base.extract q base.size) s V (by unfold maxLen; simp; omega) (by unfold maxLen; omega)
                  rw [drop_l] at ca
                  generalize nx base.data.toList q = X at hmore e7 hnx
                  generalize cp (base.data.toList.drop q) s.data.toList = C at hmore hrn hcq ca
                  generalize rch base.data.toList q n s[n].toNat = B at cr hrn
                  cases B
                  · have hC : ¬ n < C := by have := hrn rfl; omega
                    rw [if_neg hC] at hmore
                    have hE : Hid (RES = lgL base.data.toList s.data.toList (256 - (t + 1)) X i n) := Lib.hid (by rw [hR.out, hT, hmore, hT2])
                    have cr0 := cr _ hB
                    clear hmore hrn hR hT hT2 ca hcq hC cr ha0
                    go_wp2_with fail
                    go_at_call 117
                    refine cr0.mono ?_
                    rintro e w7 ⟨rfl, rfl⟩
                    go_wp2_with fail
                    go_roundw
                    case rel => exact ⟨i, n, X, t + 1, rfl, rfl, by go_num, by go_num, by omega, by omega, by omega, by omega, hE, hB⟩
                    case measure => simp [intOf]; omega
                  · have cr0 := cr _ hB
                    by_cases hC : n < C
                    · rw [if_pos hC] at hmore
                      have hE : Hid (RES = lgL base.data.toList s.data.toList (256 - (t + 1)) X q C) := Lib.hid (by rw [hR.out, hT, hmore, hT2])
                      have hCz : (n : Int) < (C : Int) := by omega
                      clear hmore hrn hR hT hT2 cr ha0
                      go_wp2_with fail
                      go_at_call 117
                      refine cr0.mono ?_
                      rintro e w7 ⟨rfl, rfl⟩
                      go_wp2_with fail
                      go_at_call 116
                      refine (ca _).mono ?_
                      rintro e w8 ⟨rfl, hb8⟩
                      have hB8 := Wr.below_call hB hb8
                      have e2' := F2.out _ hB8
                      have e7' := (hb8.cell (p := ⟨g, q, none⟩) (World.block_lt_of_cell? _ _ e7)).trans e7
                      clear hb8 ca cr0 e0 e2 e7
                      go_wp2_with fail
                      go_roundw
                      case rel => exact ⟨q, C, X, t + 1, rfl, rfl, by go_num, by go_num, by omega, by omega, by omega, by omega, hE, hB8⟩
                      case measure => simp [intOf]; omega
                    · rw [if_neg hC] at hmore
                      have hE : Hid (RES = lgL base.data.toList s.data.toList (256 - (t + 1)) X i n) := Lib.hid (by rw [hR.out, hT, hmore, hT2])
                      have hCz : ¬ ((n : Int) < (C : Int)) := by omega
                      clear hmore hrn hR hT hT2 cr ha0
                      go_wp2_with fail
                      go_at_call 117
                      refine cr0.mono ?_
                      rintro e w7 ⟨rfl, rfl⟩
                      go_wp2_with fail
                      go_at_call 116
                      refine (ca _).mono ?_
                      rintro e w8 ⟨rfl, hb8⟩
                      have hB8 := Wr.below_call hB hb8
                      have e2' := F2.out _ hB8
                      have e7' := (hb8.cell (p := ⟨g, q, none⟩) (World.block_lt_of_cell? _ _ e7)).trans e7
                      clear hb8 ca cr0 e0 e2 e7
                      go_wp2_with fail
                      go_roundw
                      case rel => exact ⟨i, n, X, t + 1, rfl, rfl, by go_num, by go_num, by omega, by omega, by omega, by omega, hE, hB8⟩
                      case measure => simp [intOf]; omega
                · have hnz : ¬ ((n : Int) < (s.size : Int)) := by omega
                  have hE : RES = (i, n) := by rw [hR.out, hT, lgL, if_neg (by rw [hsl]; exact hns)]
                  have HE := Lib.hid hE
                  clear hE hR hT hT2
                  go_wp2_with fail
                  go_ret2
                  rw [HE.out]
                  exact ⟨rfl, hB⟩
      · clear hlk
        go_enter Tryz.func84, Tryz.ntmps84
        have d1 : w.drew.cell? ⟨b, 1, none⟩ = some (.map (some bm)) := F1.out w.drew hBq.drew
        go_wp2_with fail
        go_region_with (go_at_call 115; refine (cb _).mono ?_; rintro e w5 ⟨rfl, hb5⟩; have hB5 := Wr.below_call hBq.drew hb5; have d2 := F1.out w5 hB5; have lk := F4.out w5 hB5)
        all_goals
          clear d1 d2 lk hb5 cb
          go_wp2_with fail
          go_loopw [6, 7, 8, 9] (fun fv nv av tv wr => ∃ i n a t : Nat, fv = .int .i64 (i : Nat) ∧ nv = .int .i64 (n : Nat) ∧ av = .int .i64 ((a : Int) - 1) ∧ tv = .int .i64 (t : Nat) ∧ t ≤ 256 ∧ n ≤ s.size ∧ a ≤ base.size - 3 ∧ i ≤ base.size ∧ Hid (RES = lgL base.data.toList s.data.toList (256 - t) a i n) ∧ Below w.heap.size w wr) (fun _ _ _ tv _ => 256 - (intOf tv).toNat)
          case atStart => exact ⟨0, 0, a0, 0, rfl, rfl, by go_num, rfl, by omega, hr2, by omega, by omega, HRES, hB5⟩
          case round =>
            clear hB5
            obtain ⟨i, n, a, t, rfl, rfl, rfl, rfl, ht, hn, ha, hi, hR, hB⟩ := hrel
            have e0 := F0.out _ hB
            have e2 := F2.out _ hB
            by_cases ha0 : a = 0
            · subst ha0
              have hE : RES = (i, n) := by rw [hR.out, lgL_none]
              have HE := Lib.hid hE
              clear hE hR
              go_wp2_with fail
              go_ret2
              rw [HE.out]
              exact ⟨rfl, hB⟩
            · obtain ⟨q, rfl⟩ : ∃ q, a = q + 1 := ⟨a - 1, by omega⟩
              have hq1 : ((q + 1 : Nat) : Int) - 1 = (q : Int) := by omega
              rw [hq1]
              have hqb : (q : Int) < (base.size : Int) := by omega
              by_cases ht2 : t = 256
              · subst ht2
                have hE : RES = (i, n) := by rw [hR.out]; rfl
                have HE := Lib.hid hE
                clear hE hR
                go_wp2_with fail
                go_ret2
                rw [HE.out]
                exact ⟨rfl, hB⟩
              · have ht3 : (t : Int) < 256 := by omega
                obtain ⟨T, hT⟩ : ∃ T, 256 - t = T + 1 := ⟨255 - t, by omega⟩
                have hT2 : 256 - (t + 1) = T := by omega
                by_cases hns : n < s.size
                · have hnz : (n : Int) < (s.size : Int) := by omega
                  have hmore := lgL_more (base := base.data.toList) (s := s.data.toList) (t := T) (a := q) (i := i) (n := n) (by rw [hsl]; exact hns)
                  have e7 := F7.out _ hB q (by omega)
                  have hnx := nx_le base.data.toList q
                  rw [hpl] at hnx
                  have cr := fun V (hV : Below w.heap.size w V) => reaches_any b base q n s[n].toNat V (F0.out V hV) hb (by omega) (by omega)
                  have hrn := rch_not (base := base.data.toList) (s := s.data.toList) (a := q) (n := n) (by rw [hsl]; exact hns)
                  rw [gd s n hns] at hrn
                  have hcq := cp_le (base.data.toList.drop q) s.data.toList
                  rw [List.length_drop, hbl, hsl] at hcq
                  have ca := fun V => alike_any (base.extract q base.size) s V (by unfold maxLen; simp; omega) (by unfold maxLen; omega)
                  rw [drop_l] at ca
                  generalize nx base.data.toList q = X at hmore e7 hnx
                  generalize cp (base.data.toList.drop q) s.data.toList = C at hmore hrn hcq ca
                  generalize rch base.data.toList q n s[n].toNat = B at cr hrn
                  cases B
                  · have hC : ¬ n < C := by have := hrn rfl; omega
                    rw [if_neg hC] at hmore
                    have hE : Hid (RES = lgL base.data.toList s.data.toList (256 - (t + 1)) X i n) := Lib.hid (by rw [hR.out, hT, hmore, hT2])
                    have cr0 := cr _ hB
                    clear hmore hrn hR hT hT2 ca hcq hC cr ha0
                    go_wp2_with fail
                    go_at_call 117
                    refine cr0.mono ?_
                    rintro e w7 ⟨rfl, rfl⟩
                    go_wp2_with fail
                    go_roundw
                    case rel => exact ⟨i, n, X, t + 1, rfl, rfl, by go_num, by go_num, by omega, by omega, by omega, by omega, hE, hB⟩
                    case measure => simp [intOf]; omega
                  · have cr0 := cr _ hB
                    by_cases hC : n < C
                    · rw [if_pos hC] at hmore
                      have hE : Hid (RES = lgL base.data.toList s.data.toList (256 - (t + 1)) X q C) := Lib.hid (by rw [hR.out, hT, hmore, hT2])
                      have hCz : (n : Int) < (C : Int) := by omega
                      clear hmore hrn hR hT hT2 cr ha0
                      go_wp2_with fail
                      go_at_call 117
                      refine cr0.mono ?_
                      rintro e w7 ⟨rfl, rfl⟩
                      go_wp2_with fail
                      go_at_call 116
                      refine (ca _).mono ?_
                      rintro e w8 ⟨rfl, hb8⟩
                      have hB8 := Wr.below_call hB hb8
                      have e2' := F2.out _ hB8
                      have e7' := (hb8.cell (p := ⟨g, q, none⟩) (World.block_lt_of_cell? _ _ e7)).trans e7
                      clear hb8 ca cr0 e0 e2 e7
                      go_wp2_with fail
                      go_roundw
                      case rel => exact ⟨q, C, X, t + 1, rfl, rfl, by go_num, by go_num, by omega, by omega, by omega, by omega, hE, hB8⟩
                      case measure => simp [intOf]; omega
                    · rw [if_neg hC] at hmore
                      have hE : Hid (RES = lgL base.data.toList s.data.toList (256 - (t + 1)) X i n) := Lib.hid (by rw [hR.out, hT, hmore, hT2])
                      have hCz : ¬ ((n : Int) < (C : Int)) := by omega
                      clear hmore hrn hR hT hT2 cr ha0
                      go_wp2_with fail
                      go_at_call 117
                      refine cr0.mono ?_
                      rintro e w7 ⟨rfl, rfl⟩
                      go_wp2_with fail
                      go_at_call 116
                      refine (ca _).mono ?_
                      rintro e w8 ⟨rfl, hb8⟩
                      have hB8 := Wr.below_call hB hb8
                      have e2' := F2.out _ hB8
                      have e7' := (hb8.cell (p := ⟨g, q, none⟩) (World.block_lt_of_cell? _ _ e7)).trans e7
                      clear hb8 ca cr0 e0 e2 e7
                      go_wp2_with fail
                      go_roundw
                      case rel => exact ⟨i, n, X, t + 1, rfl, rfl, by go_num, by go_num, by omega, by omega, by omega, by omega, hE, hB8⟩
                      case measure => simp [intOf]; omega
                · have hnz : ¬ ((n : Int) < (s.size : Int)) := by omega
                  have hE : RES = (i, n) := by rw [hR.out, hT, lgL, if_neg (by rw [hsl]; exact hns)]
                  have HE := Lib.hid hE
                  clear hE hR hT hT2
                  go_wp2_with fail
                  go_ret2
                  rw [HE.out]
                  exact ⟨rfl, hB⟩
end Go.Proofs.YtdfcbnejnnibpaaGreatDoor.Dl

namespace Go.Proofs.YtdfcbnejnnibpaaGreatDoor.Dl
open Go.RowKit Wm Wr Dm
set_option linter.unusedVariables false
def By (w : World) (B : Nat) (v : Value) (l : List UInt8) : Prop := w.ownsRow B 5 1 v l.length (l.map bv)
theorem By.nil (w : World) (B : Nat) : By w B (.slice none 0 0) [] := World.ownsRow_nil _ _ _ _
theorem By.more {w : World} {B : Nat} {v : Value} {l : List UInt8} {s : ByteArray} (h : w.ownsRow B 5 1 v (l.length + s.size) (l.map bv ++ Lib.strCells s)) : By w B v (l ++ s.data.toList) := by
  unfold By
  rw [List.length_append, Wm.len_l, List.map_append]
  exact h
theorem By.kept {w w1 : World} {B : Nat} {v : Value} {l : List UInt8} (h : By w B v l) (hb : Below w.heap.size w w1) : By w1 B v l := by
  refine ⟨h.1, ?_⟩
  rcases h.2 with h0 | ⟨g', cap', cur, hv, hg, hh, r⟩
  · exact .inl h0
  · exact .inr ⟨g', cap', cur, hv, hg, (hb.block g' (Array.getElem?_eq_some_iff.1 hh).1).trans hh, r⟩
theorem By.form {w : World} {B : Nat} {v : Value} {l : List UInt8} (h : By w B v l) : ∃ a c, v = .slice a l.length c ∧ l.length ≤ maxLen ∧ (convert 135 9 (.slice a l.length c)).run Tryz.prog w = .ok (.string (Tx.tb l)) w := by
  rcases h.2 with ⟨hv, h0⟩ | ⟨g, cap, cur, hv, hg, hh, hn, hc, _⟩
  · have hl : l = [] := List.eq_nil_of_length_eq_zero h0
    subst hl
    exact ⟨none, 0, hv, Nat.zero_le _, run_convert_bytes_nil w 135 5 Tryz.underlying135 Tryz.underlying5 0 0 _ Tryz.underlying9⟩
  · refine ⟨some ⟨g, 0, none⟩, cap, hv, by omega, ?_⟩
    refine run_convert_bytes_back w 135 9 5 ⟨g, 0, none⟩ cap l Tryz.underlying135 Tryz.underlying5 Tryz.underlying9 ?_
    intro j hj
    refine World.ownsRow.cells (show w.ownsRow B 5 1 v l.length (l.map bv) from h) (g := g) (by rw [hv]; rfl) j _ ?_
    rw [List.getElem?_map, List.getElem?_eq_getElem hj]
    rfl
theorem empty_is {s : ByteArray} (h : s.size = 0) : s.data.toList = [] := List.eq_nil_of_length_eq_zero (by rw [Wm.len_l]; exact h)
theorem isEmpty_is {s : ByteArray} {b : Bool} (h : decide (s.size = 0) = b) : s.toList.isEmpty = b := by
  rw [ByteArray.toList_eq, ← h]
  cases hl : s.data.toList with
  | nil =>
    have h0 : s.size = 0 := by rw [← Wm.len_l, hl]; rfl
    simp [h0]
  | cons x l =>
    have h0 : s.size ≠ 0 := by rw [← Wm.len_l, hl]; simp
    simp [h0]
def szOf : Value → Nat
  | .string s => s.size
  | _ => 0
theorem pc_err {base l : List UInt8} {room : Nat} : (pc base l room).2.2 ≤ 3 := by
  unfold pc
  split
  · rcases rdU_alt l with ⟨e, _, h3, h⟩ | ⟨_, _, h, _⟩ <;> rw [h] <;> simp <;> omega
  · split
    · simp
    · split
      · split
        · rcases rdU_alt (l.drop (rdU l).2.1) with ⟨e, _, h3, h⟩ | ⟨_, _, h, _⟩ <;> rw [h] <;> simp <;> omega
        · split <;> simp
      · split <;> simp
set_option maxRecDepth 100000 in
set_option maxHeartbeats 2000000 in
theorem apply_any (base d : ByteArray) (w : World) (hb : base.size ≤ maxLen) (hd : d.size ≤ maxLen) :
    Calls Tryz.prog 70 #[.string base, .string d] w fun e w' => e = .returned (.tuple #[.string (Tx.tb (ap base.data.toList d.data.toList).1), .int .i64 ((ap base.data.toList d.data.toList).2 : Int)]) ∧ Below w.heap.size w w' := by
  obtain ⟨i0, hi, hz0, hz1, hz2⟩ := info_parts info5
  have cn := num_any d w hd
  unfold rst at cn
  rcases rdU_alt d.data.toList with ⟨r, hr0, hr3, h⟩ | ⟨N, m, h, hN, hm, hm0⟩
  · have hap : ap base.data.toList d.data.toList = ([], r) := by unfold ap; rw [h]; simp only; rw [if_pos hr0]
    rw [hap]
    rw [h] at cn
    simp only at cn ⊢
    rw [if_neg hr0] at cn
    have hne : ((r : Int) == 0) = false := by simp; omega
    clear h hr0 hap
    unfold maxLen at hb hd
    go_enter Tryz.func70, Tryz.ntmps70
    go_wp2_with fail
    go_at_call 102
    refine cn.mono ?_
    rintro e w1 ⟨rfl, hB⟩
    go_wp2_with fail
    go_ret2
    exact ⟨rfl, hB⟩
  · by_cases hN4 : 4096 < N
    · have hap : ap base.data.toList d.data.toList = ([], 4) := by unfold ap; rw [h]; simp only; rw [if_neg (by simp), if_pos hN4]
      rw [hap]
      rw [h] at cn
      simp only at cn ⊢
      rw [if_pos trivial] at cn
      clear h hap
      unfold maxLen at hb hd
      go_enter Tryz.func70, Tryz.ntmps70
      go_wp2_with fail
      go_at_call 102
      refine cn.mono ?_
      rintro e w1 ⟨rfl, hB⟩
      go_wp2_with fail
      go_ret2
      exact ⟨rfl, hB⟩
    · have hap : ap base.data.toList d.data.toList = apR base.data.toList N [] (d.extract m d.size).data.toList := by unfold ap; rw [h]; simp only; rw [if_neg (by simp), if_neg hN4, drop_l]
      rw [hap]
      rw [h] at cn
      simp only at cn ⊢
      rw [if_pos trivial] at cn
      have hd2 : (d.extract m d.size).size ≤ maxLen := by simp; omega
      generalize d.extract m d.size = rest at cn hap hd2 ⊢
      obtain ⟨RES, hres⟩ : ∃ R, R = apR base.data.toList N [] rest.data.toList := ⟨_, rfl⟩
      rw [← hres]
      have HRES := Lib.hid hres
      clear h hap hres hm hm0
      go_enter Tryz.func70, Tryz.ntmps70
      go_wp2_with fail
      go_at_call 102
      refine cn.mono ?_
      rintro e w1 ⟨rfl, hB⟩
      clear cn
      go_wp2_with fail
      go_loopw [7, 9] (fun rv tv wr => ∃ (r : ByteArray) (t : List UInt8), rv = .string r ∧ Hid (RES = apR base.data.toList N t r.data.toList) ∧ t.length ≤ N ∧ r.size ≤ maxLen ∧ By wr w.heap.size tv t ∧ Below w.heap.size w wr) (fun rv _ _ => szOf rv)
      case atStart => exact ⟨rest, [], rfl, HRES, Nat.zero_le _, hd2, By.nil _ _, hB⟩
      case round =>
        obtain ⟨r, t, rfl, hR, ht, hr, hown, hBr⟩ := hrel
        have hown2 := hown
        obtain ⟨a, c, rfl, htl, hcv⟩ := hown2.form
        by_cases h0 : r.size = 0
        · have hem : r.toList.isEmpty = true := isEmpty_is (decide_eq_true h0)
          have hR2 : RES = if t.length < N then ([], 2) else (t, 0) := by rw [hR.out, empty_is h0, apR_end]
          have hre : ¬ (r.toList = []) ∨ True := .inr trivial
          unfold maxLen at htl hb hr
          by_cases hlt : t.length < N
          · rw [if_pos hlt] at hR2
            have HR2 := Lib.hid hR2
            have hltz : (t.length : Int) < (N : Int) := by omega
            clear hR2 hR hown hown2 hcv h0
            generalize t.length = tn at hlt hltz ht htl ⊢
            go_wp2_with fail
            go_ret2
            rw [HR2.out]
            exact ⟨rfl, hBr⟩
          · rw [if_neg hlt] at hR2
            have HR2 := Lib.hid hR2
            have hltz : ¬ ((t.length : Int) < (N : Int)) := by omega
            clear hR2 hR hown hown2 h0
            generalize t.length = tn at hlt hltz ht htl hcv ⊢
            go_wp2_with fail
            go_ret2
            rw [HR2.out]
            exact ⟨rfl, hBr⟩
        · have hem : r.toList.isEmpty = false := isEmpty_is (decide_eq_false h0)
          have cp := fun W => piece_any base r (N - t.length) W hb hr (by omega)
          have hsub : ((N - t.length : Nat) : Int) = (N : Int) - (t.length : Int) := by omega
          have herr := pc_err (base := base.data.toList) (l := r.data.toList) (room := N - t.length)
          have hrne : r.data.toList ≠ [] := fun e => h0 (by rw [← Wm.len_l, e]; rfl)
          unfold lft at cp
          obtain ⟨p, q, E, hp⟩ : ∃ p q E, pc base.data.toList r.data.toList (N - t.length) = (p, q, E) := ⟨_, _, _, rfl⟩
          rw [hp] at cp herr
          simp only at cp herr
          by_cases hE : E = 0
          · subst hE
            have hok := pc_ok (base := base.data.toList) (l := r.data.toList) (room := N - t.length) (by rw [hp])
            rw [hp] at hok
            obtain ⟨ok1, ok2, ok3, ok4⟩ := hok
            simp only at ok1 ok2 ok3 ok4
            rw [Wm.len_l] at ok2
            rw [if_pos rfl, hsub] at cp
            have hR2 : RES = apR base.data.toList N (t ++ p) (r.extract q r.size).data.toList := by rw [hR.out, apR_more hrne hp, drop_l]
            have HR2 := Lib.hid hR2
            have hrs : (r.extract q r.size).size < r.size := by simp; omega
            have hts : t.length + p.length ≤ N := by omega
            have HS := Lib.hid hrs
            have hps := Tx.tb_size p
            have HTL := Lib.hid (Tx.tb_list p)
            generalize r.extract q r.size = r2 at cp HR2 hrs HS
            generalize Tx.tb p = P at cp hps HTL
            clear hR hR2 hp hcv h0 hrne ok1 ok2 ok3 ok4 herr hsub hown2
            unfold maxLen at htl hb hr
            generalize htn : t.length = tn at cp ht htl hts hown ⊢
            have hBW := Lib.hid (fun V (hV : Below wr.heap.size wr V) => hown.kept hV)
            have HTN := Lib.hid htn
            clear htn
            go_wp2_with fail
            go_at_call 103
            refine (cp _).mono ?_
            rintro e w5 ⟨rfl, hb5⟩
            have hB5 := Wr.below_call hBr hb5
            have hown5 := hBW.out w5 hb5
            unfold By at hown5
            rw [HTN.out] at hown5
            have k3 : tn + P.size ≤ maxLen := by unfold maxLen; omega
            have k4 : tn + P.size ≤ 140737488355328 := by omega
            have k5 := hB5.size
            clear cp hb5 hown
            go_wp2_with (at_builtin; refine Lib.wpList_append_own_string _ rfl _ _ 135 9 rfl w.heap.size 5 i0 Tryz.underlying135 Tryz.underlying9 hi hz0 hz1 hz2 _ _ _ rfl hown5 _ rfl k3 k4 k5 ?_)
            intro v' w6 hown6 hgrow6 _
            have hB6 : Below w.heap.size w w6 := hB5.grown hgrow6 hB5.size (fun k hk => (hown5.lt k hk).1)
            have hO6 : By w6 w.heap.size v' (t ++ p) := by
              rw [← HTL.out]
              refine By.more ?_
              rw [HTN.out, hps]
              exact hown6
            have hL6 : (t ++ p).length ≤ N := by rw [List.length_append, HTN.out, ← hps]; omega
            clear hown6 hgrow6 hown5 hB5
            go_wp2_with fail
            go_roundw
            case rel => exact ⟨r2, t ++ p, rfl, HR2, hL6, by unfold maxLen; omega, hO6, hB6⟩
            case measure => simp [szOf]; omega
          · have hR2 : RES = ([], E) := by rw [hR.out]; exact apR_bad hrne (by rw [hp]) hE
            have HR2 := Lib.hid hR2
            rw [if_neg hE, hsub] at cp
            have hne : ((E : Int) == 0) = false := by simp; omega
            clear hR hR2 hp hcv h0 hrne hsub hown hown2
            unfold maxLen at htl hb hr
            generalize t.length = tn at cp ht htl ⊢
            go_wp2_with fail
            go_at_call 103
            refine (cp _).mono ?_
            rintro e w5 ⟨rfl, hb5⟩
            have hB5 := Wr.below_call hBr hb5
            go_wp2_with fail
            go_ret2
            rw [HR2.out]
            exact ⟨rfl, hB5⟩
end Go.Proofs.YtdfcbnejnnibpaaGreatDoor.Dl

namespace Go.Proofs.YtdfcbnejnnibpaaGreatDoor.Dl
open Go.RowKit Wm Wr Dm
set_option linter.unusedVariables false
theorem app_block {w w' : World} {B n : Nat} {v v' : Value} {xs : List Value} {s : ByteArray} {ty : TypeId} {i : TypeInfo} (hi : Tryz.prog.info? 5 = some i) (hz : i.zero = some (.int .u8 0)) (hs1 : i.size = 1) (hby : i.bytes = 1)
    (hown : w.ownsRow B 5 1 v n xs) (hn : n + s.size ≤ 100000000000000) (hr : (Builtin.append_ #[135, 9] ty #[v, .string s]).run Tryz.prog w = .ok v' w') (hnil : v' = .slice none 0 0 ↔ v = .slice none 0 0 ∧ s.size = 0) :
    v'.ownBlock = v.ownBlock ∨ v'.ownBlock = some w.heap.size := by
  have hxl : xs.length = n := by simpa using hown.1
  rcases hown.2 with ⟨rfl, rfl⟩ | ⟨g, cap, cur, rfl, hbg, hg, hnc, hcm, hcs, htake⟩
  · by_cases hm : s.size = 0
    · rw [hnil.2 ⟨rfl, hm⟩]
      exact .inl rfl
    · have h2 := run_append_nil_string (P := Tryz.prog) w 135 9 ty 5 i (.int .u8 0) Tryz.underlying135 Tryz.underlying9 hi hz s (by omega) (by omega) (by rw [hby]; omega)
      rw [hr] at h2
      injection h2 with h2 _
      rw [h2]
      exact .inr rfl
  · by_cases hroom : n + s.size ≤ cap
    · have h2 := Lib.run_append_room_string (P := Tryz.prog) w 135 9 ty 5 i Tryz.underlying135 Tryz.underlying9 hi hs1 g n cap cur hg s hroom (by rw [hcs]; omega)
      rw [hr] at h2
      injection h2 with h2 _
      rw [h2]
      exact .inl rfl
    · have h2 := Lib.run_append_grow_string (P := Tryz.prog) w 135 9 ty 5 i (.int .u8 0) Tryz.underlying135 Tryz.underlying9 hi hz ⟨g, 0, none⟩ n cap xs (by rw [hs1]; simpa using hxl) (hown.cells (g := g) rfl) s (by omega) (by omega) (by rw [hby]; exact growslice_fits (by omega) (by omega))
      rw [hr] at h2
      injection h2 with h2 _
      rw [h2]
      exact .inr rfl
theorem wp_app {w : World} {ops : Array Oper} {rest : List Oper} {o : Oper} {a : Act} {Q : Exit → Act → World → Prop} (hgd : o.guard = none) (sl x : Operand)
    (ho : o.op = .call { callee := .builtin .append, args := #[sl, x], argTypes := #[135, 9] }) (B : Nat) (v : Value) (l : List UInt8) (hs : a.eval sl = v) (hown : By w B v l) (s : ByteArray) (hx : a.eval x = .string s) (hn : l.length + s.size ≤ 100000000000000) (hB : B ≤ w.heap.size)
    (h : ∀ v' w', By w' B v' (l ++ s.data.toList) → w.grownBy w' v.ownBlock → (v'.ownBlock = v.ownBlock ∨ v'.ownBlock = some w.heap.size) → wpList Tryz.prog ops Q rest (a.put o.dst v') w') : wpList Tryz.prog ops Q (o :: rest) a w := by
  obtain ⟨i0, hi, hz0, hz1, hz2⟩ := info_parts info5
  refine wpList_plain hgd fun K hK => ?_
  obtain ⟨v', w', hr, h2, h3, h4⟩ := Lib.run_append_own_string (P := Tryz.prog) w B 135 9 o.type 5 i0 Tryz.underlying135 Tryz.underlying9 hi hz0 hz1 hz2 v l.length (l.map bv) hown s (by unfold maxLen; omega) (by omega) hB
  have hb := app_block hi hz0 hz1 hz2 hown hn hr h4
  unfold Oper.wp
  simp [execOp, ho, resolve, invoke, builtin, hs, hx, hr, Result.andThen]
  exact hK _ _ (h v' w' (By.more h2) h3 hb)
theorem vs_l (n : Nat) : (vs n).data.toList = vb n := vs_list n
set_option maxRecDepth 100000 in
theorem appNum_any (v : Value) (l : List UInt8) (n B : Nat) (w : World) (h : By w B v l) (hB : B ≤ w.heap.size) (hl : l.length ≤ 10000000000000) (hn : n ≤ 4611686018427387904) :
    Calls Tryz.prog 83 #[v, .int .i64 (n : Int)] w fun e w' => ∃ v', e = .returned v' ∧ By w' B v' (l ++ vb n) ∧ Below B w w' ∧ (v'.ownBlock = v.ownBlock ∨ ∃ k, v'.ownBlock = some k ∧ w.heap.size ≤ k) ∧ ∀ k, k < w.heap.size → some k ≠ v.ownBlock → w'.heap[k]? = w.heap[k]? := by
  obtain ⟨i0, hi, hz0, hz1, hz2⟩ := info_parts info5
  have cp := putUint_any (n : Int) w (by omega) (by omega)
  have hus : us (n : Int) = vs n := by unfold us; rw [if_neg (by omega)]; rfl
  have hue : ue (n : Int) = 0 := by unfold ue; rw [if_neg (by omega)]
  rw [hus, hue] at cp
  have hvl : (vs n).size ≤ 10 := vs_le (by omega)
  have hvs := vs_l n
  generalize vs n = X at cp hvl hvs
  have HVS := Lib.hid hvs
  clear hus hue hvs
  go_enter Tryz.func83, Tryz.ntmps83
  go_wp2_with fail
  go_at_call 53
  refine cp.mono ?_
  rintro e w1 ⟨rfl, hb1⟩
  have h1 := h.kept hb1
  have hs1 : B ≤ w1.heap.size := Nat.le_trans hB hb1.size
  have k3 : l.length + X.size ≤ 100000000000000 := by omega
  clear cp
  go_wp2_with (at_builtin; refine wp_app rfl _ _ rfl B _ l rfl h1 _ rfl k3 hs1 ?_)
  intro v' w2 h2 hg2 hbk
  have hB2 : Below B w w2 := (hb1.mono hB).grown hg2 hs1 (fun k hk => (h1.lt k hk).1)
  have hO : By w2 B v' (l ++ vb n) := by rw [← HVS.out]; exact h2
  have hk2 : v'.ownBlock = v.ownBlock ∨ ∃ k, v'.ownBlock = some k ∧ w.heap.size ≤ k := hbk.imp id (fun e => ⟨_, e, hb1.size⟩)
  have hall : ∀ k, k < w.heap.size → some k ≠ v.ownBlock → w2.heap[k]? = w.heap[k]? := fun k hk hne => (hg2.block k (Nat.lt_of_lt_of_le hk hb1.size) hne).trans (hb1.block k hk)
  have HK2 := Lib.hid hk2
  have HALL := Lib.hid hall
  clear h2 hg2 hbk hk2 hall
  go_wp2_with fail
  go_ret
  exact ⟨_, rfl, hO, hB2, HK2.out, HALL.out⟩
set_option maxRecDepth 100000 in
theorem appCop_any (i n : Nat) (w : World) (hi : i ≤ 4611686018427387904) (hn : n ≤ 2000000000000000000) :
    Calls Tryz.prog 85 #[.slice none 0 0, .int .i64 (i : Int), .int .i64 (n : Int)] w fun e w' => ∃ v', e = .returned v' ∧ By w' w.heap.size v' (cop i n) ∧ Below w.heap.size w w' := by
  have c1 := appNum_any (.slice none 0 0) [] (2 * n + 1) w.heap.size w (By.nil _ _) (Nat.le_refl _) (Nat.zero_le _) (by omega)
  have e1 : ((2 * n + 1 : Nat) : Int) = 2 * (n : Int) + 1 := by omega
  rw [List.nil_append, e1] at c1
  have hv1 : (vb (2 * n + 1)).length ≤ 10 := vb_len (by omega)
  have c2 := fun v W (h : By W w.heap.size v (vb (2 * n + 1))) (hB : w.heap.size ≤ W.heap.size) => appNum_any v _ i w.heap.size W h hB (by omega) hi
  unfold cop
  generalize vb (2 * n + 1) = X at c1 c2 ⊢
  clear hv1 e1
  go_enter Tryz.func85, Tryz.ntmps85
  go_wp2_with fail
  go_at_call 83
  refine c1.mono ?_
  rintro e w1 ⟨v1, rfl, h1, hb1, _, _⟩
  have c3 := c2 v1 w1 h1 hb1.size
  clear c1 c2
  go_wp2_with fail
  go_at_call 83
  refine c3.mono ?_
  rintro e w2 ⟨v2, rfl, h2, hb2, _, _⟩
  have hb3 := hb1.trans hb2
  go_wp2_with fail
  go_ret
  exact ⟨_, rfl, h2, hb3⟩
set_option maxRecDepth 100000 in
theorem appPut_any (v : Value) (l : List UInt8) (s : ByteArray) (B : Nat) (w : World) (h : By w B v l) (hB : B ≤ w.heap.size) (hl : l.length ≤ 9000000000000) (hs : s.size ≤ 1000000000000) :
    Calls Tryz.prog 86 #[v, .string s] w fun e w' => ∃ v', e = .returned v' ∧ By w' B v' (l ++ Dm.put s.data.toList) ∧ Below B w w' ∧ ∀ k, k < w.heap.size → some k ≠ v.ownBlock → w'.heap[k]? = w.heap[k]? := by
  obtain ⟨i0, hi, hz0, hz1, hz2⟩ := info_parts info5
  by_cases h0 : s.size = 0
  · have hem : s.toList.isEmpty = true := isEmpty_is (decide_eq_true h0)
    have hp : l ++ Dm.put s.data.toList = l := by unfold Dm.put; rw [if_pos (empty_is h0), List.append_nil]
    rw [hp]
    clear hp h0
    go_enter Tryz.func86, Tryz.ntmps86
    go_wp2_with fail
    go_ret
    exact ⟨_, rfl, h, Below.refl _ _, fun _ _ _ => rfl⟩
  · have hem : s.toList.isEmpty = false := isEmpty_is (decide_eq_false h0)
    have hne : s.data.toList ≠ [] := fun e => h0 (by rw [← Wm.len_l, e]; rfl)
    have c1 := appNum_any v l (2 * s.size) B w h hB (by omega) (by omega)
    have e1 : ((2 * s.size : Nat) : Int) = 2 * (s.size : Int) := by omega
    have hv1 : (vb (2 * s.size)).length ≤ 10 := vb_len (by omega)
    have hp : l ++ Dm.put s.data.toList = (l ++ vb (2 * s.size)) ++ s.data.toList := by unfold Dm.put; rw [if_neg hne, Wm.len_l, List.append_assoc]
    rw [e1] at c1
    rw [hp]
    have hl2 : (l ++ vb (2 * s.size)).length ≤ 9000000000010 := by rw [List.length_append]; omega
    generalize l ++ vb (2 * s.size) = X at c1 hl2 ⊢
    clear hp hv1 e1 hne
    go_enter Tryz.func86, Tryz.ntmps86
    go_wp2_with fail
    go_at_call 83
    refine c1.mono ?_
    rintro e w1 ⟨v1, rfl, h1, hb1, hk1, ha1⟩
    have hs1 : B ≤ w1.heap.size := Nat.le_trans hB hb1.size
    have HK1 := Lib.hid hk1
    have HA1 := Lib.hid ha1
    have k3 : X.length + s.size ≤ 100000000000000 := by omega
    clear c1 hk1 ha1
    go_wp2_with (at_builtin; refine wp_app rfl _ _ rfl B _ X rfl h1 _ rfl k3 hs1 ?_)
    intro v' w2 h2 hg2 hbk
    have hB2 : Below B w w2 := hb1.grown hg2 hs1 (fun k hk => (h1.lt k hk).1)
    have hall : ∀ k, k < w.heap.size → some k ≠ v.ownBlock → w2.heap[k]? = w.heap[k]? := fun k hk hne => (hg2.block k (Nat.lt_of_lt_of_le hk hb1.size) (fun e => by
      rcases HK1.out with h | ⟨q, h, hq⟩
      · exact hne (e.trans h)
      · rw [h] at e; injection e with e; omega)).trans (HA1.out k hk hne)
    have HALL := Lib.hid hall
    clear hg2 hbk hall
    go_wp2_with fail
    go_ret
    exact ⟨_, rfl, h2, hB2, HALL.out⟩
end Go.Proofs.YtdfcbnejnnibpaaGreatDoor.Dl

namespace Go.Proofs.YtdfcbnejnnibpaaGreatDoor.Dl
open Go.RowKit Wm Wr Dm
set_option linter.unusedVariables false
theorem enR_end {base text : List UInt8} {A T : Nat} {sh : Int} {out : List UInt8} (h : ¬ A < text.length) : enR base text A T sh out = out ++ Dm.put (text.drop T) := by rw [enR, if_neg h]
theorem enR_skip {base text : List UInt8} {A T : Nat} {sh : Int} {out : List UInt8} {i n : Nat} (h : A < text.length) (hr : lg base (text.drop A) ((A : Int) + sh) = (i, n)) (hn : n < (cop i n).length + 2) : enR base text A T sh out = enR base text (A + 1) T sh out := by
  rw [enR, if_pos h, hr]
  exact dif_pos hn
theorem enR_cop {base text : List UInt8} {A T : Nat} {sh : Int} {out : List UInt8} {i n : Nat} (h : A < text.length) (hr : lg base (text.drop A) ((A : Int) + sh) = (i, n)) (hn : ¬ n < (cop i n).length + 2) : enR base text A T sh out = enR base text (A + n) (A + n) ((i : Int) - A) (out ++ Dm.put ((text.take A).drop T) ++ cop i n) := by
  rw [enR, if_pos h, hr]
  exact dif_neg hn
theorem put_len (x : List UInt8) (h : x.length ≤ 4611686018427387904) : (Dm.put x).length ≤ x.length + 10 := by
  unfold Dm.put
  split
  · simp
  · rw [List.length_append]
    have := vb_len (x := 2 * x.length) (by omega)
    omega
theorem cop_len (i n : Nat) (hi : i < 18446744073709551616) (hn : n < 9000000000000000000) : (cop i n).length ≤ 20 ∧ 0 < (cop i n).length := by
  unfold cop
  rw [List.length_append]
  have h1 := vb_len (x := 2 * n + 1) (by omega)
  have h2 := vb_len (x := i) hi
  have h3 := vb_pos i
  omega
theorem By.cut {w : World} {B : Nat} {v : Value} {l : List UInt8} (h : By w B v l) (hl : 0 < l.length) : ∃ g c, v = .slice (some ⟨g, 0, none⟩) l.length c ∧ B ≤ g ∧ g < w.heap.size ∧ ∀ W : World, W.heap[g]? = w.heap[g]? → ∀ j u, (l.map bv)[j]? = some u → W.cell? (Addr.add ⟨g, 0, none⟩ j) = some u := by
  have hh : w.ownsRow B 5 1 v l.length (l.map bv) := h
  rcases h.2 with ⟨_, h0⟩ | ⟨g, cap, cur, hv, hbg, hg, hnc, _⟩
  · omega
  · refine ⟨g, cap, hv, hbg, (Array.getElem?_eq_some_iff.1 hg).1, fun W hW j u hu => ?_⟩
    have := hh.cells (g := g) (by rw [hv]; rfl) j u hu
    rw [WideShapes.add_plain] at this ⊢
    exact (cell_same hW).trans this
theorem bv_one (l : List UInt8) : ∀ u ∈ l.map bv, u.oneCell' = true := by
  intro u hu
  obtain ⟨b, _, rfl⟩ := List.mem_map.1 hu
  rfl
theorem ext_l2 (s : ByteArray) (i j : Nat) : (s.extract i j).data.toList = (s.data.toList.take j).drop i := by
  rw [ByteArray.data_extract, Array.toList_extract, List.extract_eq_take_drop, List.drop_take]
set_option maxRecDepth 100000 in
set_option maxHeartbeats 16000000 in
theorem encode_any (base text : ByteArray) (w : World) (hb : base.size ≤ 100000000000) (ht : text.size ≤ 100000000000) :
    Calls Tryz.prog 56 #[.string base, .string text] w fun e w' => e = .returned (.string (Tx.tb (en base.data.toList text.data.toList))) ∧ Below w.heap.size w w' := by
  obtain ⟨i0, hi, hz0, hz1, hz2⟩ := info_parts info5
  have ci := indexed_any base w (by omega)
  have htl := Wm.len_l text
  have hbl := Wm.len_l base
  obtain ⟨RES, hres⟩ : ∃ R, R = en base.data.toList text.data.toList := ⟨_, rfl⟩
  rw [← hres]
  unfold en at hres
  rw [htl] at hres
  have cn := fun W : World => appNum_any (.slice none 0 0) [] text.size W.heap.size W (By.nil _ _) (Nat.le_refl _) (Nat.zero_le _) (by omega)
  rw [List.nil_append] at cn
  have hv0 : (vb text.size).length ≤ 10 := vb_len (by omega)
  have hop0 := vb_pos text.size
  generalize vb text.size = o0 at cn hres hv0 hop0
  have HRES := Lib.hid hres
  clear hres
  go_enter Tryz.func56, Tryz.ntmps56
  go_wp2_with fail
  go_at_call 82
  refine ci.mono ?_
  rintro e w1 ⟨b, rfl, hix, hb1⟩
  clear ci
  have cn1 := cn w1
  clear cn
  have HIX := Lib.hid (fun V (hV : Below w1.heap.size w1 V) => hix.below hV)
  clear hix
  go_wp2_with fail
  go_at_call 83
  refine cn1.mono ?_
  rintro e w2 ⟨v2, rfl, ho2, hb2, _, _⟩
  clear cn1
  go_wp2_with fail
  go_loopw [6, 7, 8, 9] (fun ov tv sv av wr => ∃ (A T : Nat) (sh : Int) (out : List UInt8), tv = .int .i64 (T : Nat) ∧ sv = .int .i64 sh ∧ av = .int .i64 (A : Nat) ∧ T ≤ A ∧ A ≤ text.size ∧ (-(text.size : Int) ≤ sh ∧ sh ≤ (base.size : Int)) ∧ out.length ≤ 10 + 11 * T ∧ 0 < out.length ∧ Hid (RES = enR base.data.toList text.data.toList A T sh out) ∧ By wr w1.heap.size ov out ∧ Below w1.heap.size w1 wr) (fun _ _ _ av _ => text.size - (intOf av).toNat)
  case atStart => exact ⟨0, 0, 0, o0, rfl, rfl, rfl, Nat.le_refl _, Nat.zero_le _, by omega, by omega, hop0, HRES, ho2, hb2⟩
  case round =>
    obtain ⟨A, T, sh, out, rfl, rfl, rfl, hTA, hA, hsh, hol, hop, hR, ho, hB⟩ := hrel
    clear ho2 hb2
    by_cases hlt : A < text.size
    · have hltz : (A : Int) < (text.size : Int) := by omega
      have cl := longest_any b base (text.extract A text.size) ((A : Int) + sh) wr (HIX.out wr hB) (by omega) (by simp; omega) (by omega)
      rw [drop_l] at cl
      have hrun := run_lg base.data.toList (text.data.toList.drop A) ((A : Int) + sh)
      obtain ⟨i, n, hr⟩ : ∃ i n, lg base.data.toList (text.data.toList.drop A) ((A : Int) + sh) = (i, n) := ⟨_, _, rfl⟩
      rw [hr] at cl hrun
      unfold Run at hrun
      simp only [List.length_drop] at cl hrun
      rw [htl, hbl] at hrun
      obtain ⟨hr1, hr2, _⟩ := hrun
      have hAs : -9223372036854775808 ≤ (A : Int) + sh ∧ (A : Int) + sh ≤ 9223372036854775807 := by omega
      obtain ⟨hAs1, hAs2⟩ := hAs
      have cc := fun W => appCop_any i n W (by omega) (by omega)
      have hcl := cop_len i n (by omega) (by omega)
      have hlt2 : A < text.data.toList.length := by rw [htl]; exact hlt
      by_cases hn : n < (cop i n).length + 2
      · have hE : Hid (RES = enR base.data.toList text.data.toList (A + 1) T sh out) := Lib.hid (by rw [hR.out]; exact enR_skip hlt2 hr hn)
        obtain ⟨hcl1, hcl2⟩ := hcl
        generalize cop i n = P at cc hn hcl1 hcl2
        generalize hpn : P.length = pn at hn hcl1 hcl2
        have hnz : (n : Int) < (pn : Int) + 2 := by omega
        have HPN := Lib.hid hpn
        clear hR hr hlt2 hpn
        go_wp2_with fail
        go_at_call 84
        refine cl.mono ?_
        rintro e w3 ⟨rfl, hb3⟩
        have hB3 := hB.trans (hb3.mono hB.size)
        have ho3 := ho.kept hb3
        have cc3 := cc w3
        clear cl cc ho hB hb3
        go_wp2_with fail
        go_at_call 85
        refine cc3.mono ?_
        rintro e w4 ⟨v4, rfl, ho4, hb4⟩
        have hB4 := hB3.trans (hb4.mono hB3.size)
        have ho5 := ho3.kept hb4
        obtain ⟨a4, c4, rfl, _, _⟩ := ho4.form
        rw [HPN.out]
        clear cc3 ho3 hB3 hb4 ho4
        go_wp2_with fail
        go_roundw
        case rel => exact ⟨A + 1, T, sh, out, rfl, rfl, by go_num, by omega, by omega, hsh, hol, hop, hE, ho5, hB4⟩
        case measure => simp [intOf]; omega
      · have hE : Hid (RES = enR base.data.toList text.data.toList (A + n) (A + n) ((i : Int) - A) (out ++ Dm.put ((text.data.toList.take A).drop T) ++ cop i n)) := Lib.hid (by rw [hR.out]; exact enR_cop hlt2 hr hn)
        obtain ⟨hcl1, hcl2⟩ := hcl
        have cp := fun v W (h : By W w1.heap.size v out) (hB : w1.heap.size ≤ W.heap.size) => appPut_any v out (text.extract T A) w1.heap.size W h hB (by omega) (by simp; omega)
        rw [ext_l2] at cp
        have hputl := put_len ((text.data.toList.take A).drop T) (by rw [List.length_drop, List.length_take, htl]; omega)
        rw [List.length_drop, List.length_take, htl] at hputl
        have hTz : (T : Int) ≤ (A : Int) := by omega
        have hAz : (A : Int) ≤ (text.size : Int) := by omega
        generalize Dm.put ((text.data.toList.take A).drop T) = PT at cp hE hputl
        generalize cop i n = P at cc hn hcl1 hcl2 hE
        generalize hpn : P.length = pn at hn hcl1 hcl2
        have hnz : ¬ ((n : Int) < (pn : Int) + 2) := by omega
        have HPN := Lib.hid hpn
        have hn4 : 2 ≤ n := by omega
        have hbnd : out.length + PT.length + pn ≤ 10 + 11 * (A + n) := by omega
        have HBND := Lib.hid hbnd
        clear hR hr hlt2 hpn hbnd hputl
        go_wp2_with fail
        go_at_call 84
        refine cl.mono ?_
        rintro e w3 ⟨rfl, hb3⟩
        have hB3 := hB.trans (hb3.mono hB.size)
        have ho3 := ho.kept hb3
        have cc3 := cc w3
        clear cl cc ho hB hb3
        go_wp2_with fail
        go_at_call 85
        refine cc3.mono ?_
        rintro e w4 ⟨v4, rfl, ho4, hb4⟩
        have hB4 := hB3.trans (hb4.mono hB3.size)
        have ho5 := ho3.kept hb4
        obtain ⟨g, c4, rfl, hg3, hg4, hcells⟩ := ho4.cut (by rw [HPN.out]; exact hcl2)
        rw [HPN.out]
        have hgo : some g ≠ u6.ownBlock := fun e => by
          have := (ho3.lt g e.symm).2
          omega
        have cp4 := cp u6 w4 ho5 hB4.size
        have HCE := Lib.hid hcells
        have HGO := Lib.hid hgo
        clear cc3 ho3 hB3 hb4 ho4 cp hcells hgo
        go_wp2_with fail
        go_at_call 86
        refine cp4.mono ?_
        rintro e w5 ⟨v5, rfl, ho6, hb6, ha6⟩
        have hB6 := hB4.trans hb6
        have hce := HCE.out w5 (ha6 g hg4 HGO.out)
        have k0 : P.map bv = P.map bv := rfl
        have k1 : (P.map bv).length = pn * 1 := by rw [List.length_map, HPN.out, Nat.mul_one]
        have k2 := bv_one P
        have k3 : (out ++ PT).length + pn ≤ maxLen := by unfold maxLen; have := HBND.out; rw [List.length_append]; omega
        have k4 : ((out ++ PT).length + pn) * 1 ≤ 140737488355328 := by have := HBND.out; rw [List.length_append]; omega
        have k5 := hB6.size
        have HO6 := Lib.hid ho6
        unfold By at ho6
        clear cp4 ha6 hb6 ho5 hB4
        go_wp2_with (at_builtin; refine wpList_append_own _ rfl _ _ 135 rfl w1.heap.size 5 i0 (.int .u8 0) 1 1 Tryz.underlying135 hi hz0 hz1 hz2 rfl (by decide) _ _ _ rfl ho6 ⟨g, 0, none⟩ pn c4 (P.map bv) rfl k1 hce k2 k3 k4 k5 ?_)
        intro v7 w7 ho7 hg7 _
        have hB7 : Below w1.heap.size w1 w7 := hB6.grown hg7 hB6.size (fun k hk => (ho6.lt k hk).1)
        have hO7 : By w7 w1.heap.size v7 (out ++ PT ++ P) := by
          have e1 : (out ++ PT ++ P).length = out.length + PT.length + pn := by rw [List.length_append, List.length_append, HPN.out]
          have e2 : (out ++ PT ++ P).map bv = List.map bv out ++ (List.map bv PT ++ List.map bv P) := by rw [List.map_append, List.map_append, List.append_assoc]
          unfold By
          rw [e1, e2]
          exact ho7
        have hl7 : (out ++ PT ++ P).length ≤ 10 + 11 * (A + n) := by rw [List.length_append, List.length_append, HPN.out]; exact HBND.out
        have hl8 : 0 < (out ++ PT ++ P).length := by rw [List.length_append, List.length_append]; omega
        have HO7 := Lib.hid hO7
        have HL7 := Lib.hid hl7
        have HL8 := Lib.hid hl8
        clear ho7 hg7 hO7 ho6 hB6 hce hl7 hl8 k0 k1 k2 k3 k4 k5
        go_wp2_with fail
        go_roundw
        case rel => exact ⟨A + n, A + n, (i : Int) - A, out ++ PT ++ P, by go_num, by go_num, by go_num, Nat.le_refl _, by omega, by omega, HL7.out, HL8.out, hE, HO7.out, hB7⟩
        case measure => simp [intOf]; omega
    · have hltz : ¬ ((A : Int) < (text.size : Int)) := by omega
      have hE : RES = out ++ Dm.put (text.data.toList.drop T) := by rw [hR.out]; exact enR_end (by rw [htl]; exact hlt)
      have HE := Lib.hid hE
      have cp := appPut_any u6 out (text.extract T text.size) w1.heap.size wr ho hB.size (by omega) (by simp; omega)
      rw [drop_l, ← hE] at cp
      have hTz : (T : Int) ≤ (text.size : Int) := by omega
      clear hR hE ho
      go_wp2_with fail
      go_at_call 86
      refine cp.mono ?_
      rintro e w5 ⟨v5, rfl, ho6, hb6, _⟩
      obtain ⟨a6, c6, rfl, _, hcv⟩ := ho6.form
      have hB6 : Below w.heap.size w w5 := hb1.trans ((hB.trans hb6).mono hb1.size)
      clear cp ho6 hb6
      go_wp2_with fail
      go_ret
      exact ⟨rfl, hB6⟩
end Go.Proofs.YtdfcbnejnnibpaaGreatDoor.Dl

namespace Go.Proofs.YtdfcbnejnnibpaaGreatDoor.Cn
open Go.RowKit Tx Pm Dk Wm Wr Wl Pl Tb Bl
set_option linter.unusedVariables false
set_option linter.unusedSimpArgs false
set_option linter.unnecessarySimpa false
def cellsV (v : Vn) : List Value := [.int .i64 (v.near : Nat), .string v.kept]
theorem infoV : (Tryz.prog.info? 71).map (fun i => (i.zero, i.size, i.bytes)) = some (some (vnV 0 ⟨#[]⟩), 2, 24) := by kernel_rfl
def OwV (w : World) (B : Nat) (v : Value) (L : List Vn) : Prop := w.ownsRow B 71 2 v L.length (L.flatMap cellsV)
def Vsl (w : World) (a : Option Addr) (n : Nat) (L : List Vn) : Prop := L.length = n ∧ (n = 0 ∨ ∃ g off, a = some ⟨g, off, none⟩ ∧ g < w.heap.size ∧ ∀ k x, L[k]? = some x →
  w.cell? ⟨g, off + k * 2, none⟩ = some (.int .i64 (x.near : Nat)) ∧ w.cell? ⟨g, off + k * 2 + 1, none⟩ = some (.string x.kept))
theorem Vsl.below {w w1 : World} {a : Option Addr} {n : Nat} {L : List Vn} (h : Vsl w a n L) (hb : Below w.heap.size w w1) : Vsl w1 a n L := by
  refine ⟨h.1, ?_⟩
  rcases h.2 with h0 | ⟨g, off, ha, hlt, hc⟩
  · exact .inl h0
  · refine .inr ⟨g, off, ha, Nat.lt_of_lt_of_le hlt hb.size, fun k x hx => ?_⟩
    obtain ⟨h1, h2⟩ := hc k x hx
    exact ⟨(hb.cell (p := ⟨g, _, none⟩) hlt).trans h1, (hb.cell (p := ⟨g, _, none⟩) hlt).trans h2⟩
theorem OwV.form {w : World} {B : Nat} {v : Value} {L : List Vn} (h : OwV w B v L) : ∃ a c, v = .slice a L.length c ∧ Vsl w a L.length L ∧ L.length ≤ c ∧ c ≤ maxLen := by
  have hh := h
  rcases h.2 with ⟨rfl, h0⟩ | ⟨g, cap, cur, rfl, hg, hh2, hn, hc, _⟩
  · exact ⟨none, 0, by rw [h0], ⟨rfl, .inl h0⟩, by omega, Nat.zero_le _⟩
  · refine ⟨some ⟨g, 0, none⟩, cap, rfl, ⟨rfl, .inr ⟨g, 0, rfl, (Array.getElem?_eq_some_iff.1 hh2).1, fun k x hx => ?_⟩⟩, hn, hc⟩
    have hc : ∀ j u, j < 2 → (cellsV x)[j]? = some u → w.cell? ⟨g, 0 + k * 2 + j, none⟩ = some u := by
      intro j u hj hu
      have := hh.cells (g := g) rfl (k * 2 + j) u ((flat_at cellsV 2 (fun _ => rfl) L k x j hx hj).trans hu)
      rw [WideShapes.add_plain, Nat.zero_add] at this
      rw [Nat.zero_add]
      exact this
    exact ⟨hc 0 _ (by omega) rfl, hc 1 _ (by omega) rfl⟩
theorem OwV.below {w w1 : World} {B : Nat} {v : Value} {L : List Vn} (h : OwV w B v L) (hb : Below w.heap.size w w1) : OwV w1 B v L := own_belowT h hb
theorem onecellV (x : Vn) : ∀ u ∈ cellsV x, u.oneCell' = true := by
  intro u hu
  simp only [cellsV, List.mem_cons, List.not_mem_nil, or_false] at hu
  rcases hu with rfl | rfl <;> rfl
theorem new2v (W : World) (h : Nat) (d : ByteArray) {z : Nat} (hz : z = W.heap.size) : ∀ (j : Nat) (u : Value), [Value.int .i64 (h : Nat), .string d][j]? = some u → (W.alloc (.cells #[.int .i64 (h : Nat), .string d] 71)).cell? (Addr.add ⟨z, 0, none⟩ j) = some u := by
  subst hz
  intro j u hu
  rw [WideShapes.add_plain, Nat.zero_add, World.cell?_alloc_at _ _ _ _ rfl]
  match j, hu with
  | 0, hu => simpa using hu
  | 1, hu => simpa using hu
  | j + 2, hu => simp at hu
def lenV : Value → Nat
  | .slice _ n _ => n
  | _ => 0
def Nice (C : List Vn) (S : Nat) : Prop := ∀ v ∈ C, v.near ≤ 1000000000 ∧ v.kept.size ≤ S
theorem Gv.nice {C : List Vn} {D : Nat → ByteArray} {r : Nat → Nat} {M S : Nat} (h : Gv C D r M S) (hM : M ≤ 1000000000) : Nice C S := fun v hv => by
  obtain ⟨h1, h2, h3, h4, h5⟩ := h.each v hv
  refine ⟨?_, by omega⟩
  by_cases hn : v.near = 0
  · omega
  · obtain ⟨y, hy, e, _⟩ := h.told v hv hn
    have := (h.each y hy).2.1
    omega
section
variable {w0 : World × (Nat → Prop)} {W : World} {b j t m u M S : Nat} {x : Tst} {l : List Ch} {C : List Vn}
theorem vfind_any {n : Int} (h : OwF (Tu b j t m u) w0 (x, l) W) (hR : Rp (all7 x.L l) C M) (hN : Nice C S) (hS : S ≤ 140737488351232) (hn : i64 n) (ht : Tab W) :
    Calls Tryz.prog 30 #[.pointer (some ⟨u, 0, none⟩), .int .i64 n] W fun e w' => e = .returned (match atI C n with | some v => .tuple #[vnV v.near v.kept, .bool true] | none => .tuple #[vnV 0 ⟨#[]⟩, .bool false]) ∧ Below W.heap.size W w' := by
  have hf := hR.at n
  cases ha : atI C n with
  | none =>
    rw [ha] at hf
    exact vfind_not h hn ht hf
  | some v =>
    rw [ha] at hf
    obtain ⟨hv, e⟩ := atI_some ha
    obtain ⟨h1, h2⟩ := hN v hv
    refine vfind_val h hn ht ?_ (by omega) (by omega)
    rw [hf, ← e]
    rfl
set_option maxRecDepth 100000 in
set_option maxHeartbeats 4000000 in
theorem line_any {n : Int} (h : OwF (Tu b j t m u) w0 (x, l) W) (hR : Rp (all7 x.L l) C M) (hN : Nice C S) (hS : S ≤ 140737488351232) (hn : i64 n) (ht : ∀ V, Below W.heap.size W V → Tab V) :
    Calls Tryz.prog 40 #[.pointer (some ⟨u, 0, none⟩), .int .i64 n] W fun e w' => ∃ v, e = .returned v ∧ OwV w' W.heap.size v (lnC C n) ∧ Below W.heap.size W w' := by
  obtain ⟨i0, hi, hz0, hz1, hz2⟩ := info_parts infoV
  have HF := Lib.hid (fun V (hV : Below W.heap.size W V) (q : Int) (hq : i64 q) => vfind_any (n := q) (owf_below h hV) hR hN hS hq (ht V hV))
  have HN := Lib.hid hN
  clear h hR ht hN
  go_enter Tryz.func40, Tryz.ntmps40
  go_wp2_with fail
  go_loopw [1, 5] (fun nv lv wr => ∃ (q : Int) (L : List Vn), nv = .int .i64 q ∧ i64 q ∧ L.length ≤ 5 ∧ Hid (lnC C n = L ++ ln C (5 - L.length) q) ∧ OwV wr W.heap.size lv L ∧ Below W.heap.size W wr) (fun _ lv _ => 5 - lenV lv)
  case atStart => exact ⟨n, [], rfl, hn, Nat.zero_le _, rfl, World.ownsRow_nil _ _ _ _, Below.refl _ _⟩
  case round =>
    obtain ⟨q, L, rfl, hq, hL, hE, hown, hB⟩ := hrel
    obtain ⟨aL, cL, rfl, hsl, hcl, hcm⟩ := hown.form
    by_cases h5 : L.length ≤ 4
    · have hlz : (L.length : Int) ≤ 4 := by omega
      have cf := HF.out wr hB q hq
      cases ha : atI C q with
      | none =>
        rw [ha] at cf
        simp only at cf
        unfold vnV at cf
        have hE2 : lnC C n = L := by
          rw [hE.out]
          obtain ⟨f, hf⟩ : ∃ f, 5 - L.length = f + 1 := ⟨4 - L.length, by omega⟩
          rw [hf]
          unfold ln
          rw [ha]
          exact List.append_nil _
        have HE2 := Lib.hid hE2
        clear hE hE2 ha hsl
        go_wp2_with fail
        go_at_call 30
        refine cf.mono ?_
        rintro e w3 ⟨rfl, hb3⟩
        have hO3 : OwV (w3.alloc (.cells #[.int .i64 ((0 : Nat) : Int), .string ⟨#[]⟩] 71)) W.heap.size (.slice aL L.length cL) L := OwV.below (hown.below hb3) ((Below.refl _ _).alloc (Nat.le_refl _) _)
        have hB3 := (Tx.below_call hB hb3).alloc (Tx.below_call hB hb3).size (.cells #[.int .i64 ((0 : Nat) : Int), .string ⟨#[]⟩] 71)
        have HO3 := Lib.hid hO3
        have HB3 := Lib.hid hB3
        clear cf hown hB hb3 hO3 hB3
        go_wp2_with fail
        go_ret
        rw [HE2.out]
        exact ⟨_, rfl, HO3.out, HB3.out⟩
      | some v =>
        rw [ha] at cf
        simp only at cf
        unfold vnV at cf
        obtain ⟨hv, _⟩ := atI_some ha
        obtain ⟨n1, n2⟩ := HN.out v hv
        have hE2 : lnC C n = (L ++ [v]) ++ ln C (5 - (L ++ [v]).length) v.near := by
          rw [hE.out]
          obtain ⟨f, hf⟩ : ∃ f, 5 - L.length = f + 1 := ⟨4 - L.length, by omega⟩
          have hf2 : 5 - (L ++ [v]).length = f := by rw [List.length_append, List.length_singleton]; omega
          rw [hf, hf2, List.append_assoc]
          conv => lhs; unfold ln
          rw [ha]
          rfl
        have HE2 := Lib.hid hE2
        have hlen : (L ++ [v]).length = L.length + 1 := by rw [List.length_append]; rfl
        have HLN := Lib.hid hlen
        obtain ⟨vid, near, kept⟩ := v
        simp only at cf n1 n2
        obtain ⟨k, hk⟩ : ∃ k, k = L.length := ⟨_, rfl⟩
        have HK := Lib.hid hk
        rw [← hk] at h5 hlz
        clear hE hE2 ha hsl hv hlen hL
        unfold OwV at hown
        rw [← hk] at hown
        rw [← hk] at hcl
        rw [← hk]
        clear hk
        go_wp2_with fail
        go_at_call 30
        refine cf.mono ?_
        rintro e w3 ⟨rfl, hb3⟩
        have hO3 := own_belowT hown hb3
        have hB3 := Tx.below_call hB hb3
        have hks : k + 1 ≤ 281474976710656 := by omega
        have hc1 := new2v (w3.alloc (.cells #[.int .i64 (near : Nat), .string kept] 71)) near kept (z := w3.heap.size + 1) (by simp)
        have hc2 : ∀ u ∈ [Value.int .i64 (near : Nat), .string kept], u.oneCell' = true := onecellV ⟨vid, near, kept⟩
        have hc5 : W.heap.size ≤ (w3.alloc (.cells #[.int .i64 (near : Nat), .string kept] 71)).heap.size + 1 := by have := hB3.size; simp; omega
        clear cf hown hb3 hB
        go_wp2_with (at_builtin; refine wpList_append_own _ rfl _ _ 83 rfl W.heap.size 71 i0 (vnV 0 ⟨#[]⟩) 2 24 Tryz.underlying83 hi hz0 hz1 hz2 rfl (by decide) _ _ _ rfl ((hO3.alloc (.cells #[.int .i64 (near : Nat), .string kept] 71)).alloc _) ⟨w3.heap.size + 1, 0, none⟩ 1 1 [.int .i64 (near : Nat), .string kept] rfl rfl ?c1 ?c2 ?c3 ?c4 ?c5 ?_)
        case c1 => exact hc1
        case c2 => exact hc2
        case c3 => unfold maxLen; omega
        case c4 => omega
        case c5 => first | exact hc5 | (simp; have := hB3.size; omega)
        intro v' w6 hown6 hgrow6 _
        have hcA : (w3.alloc (.cells #[.int .i64 (near : Nat), .string kept] 71)).cell? ⟨w3.heap.size, 0, none⟩ = some (.int .i64 (near : Nat)) := by go_simp
        have hcB := (((Below.refl (w3.alloc (.cells #[.int .i64 (near : Nat), .string kept] 71)).heap.size (w3.alloc (.cells #[.int .i64 (near : Nat), .string kept] 71))).alloc (Nat.le_refl _) (.cells #[.int .i64 (near : Nat), .string kept] 71)).cell (p := ⟨w3.heap.size, 0, none⟩) (by simp)).trans hcA
        have hc6 : w6.cell? ⟨w3.heap.size, 0, none⟩ = some (.int .i64 (near : Nat)) := (cell_same10 (hgrow6.block w3.heap.size (by simp; omega) (fun e => by have := (hO3.lt _ e.symm).2; omega))).trans hcB
        have hB6 : Below W.heap.size W w6 := ((hB3.alloc hB3.size _).alloc (by simp; have := hB3.size; omega) _).grown hgrow6 (by simp; have := hB3.size; omega) (fun g hg => (hO3.lt g hg).1)
        have hO6 : OwV w6 W.heap.size v' (L ++ [⟨vid, near, kept⟩]) := by
          unfold OwV
          rw [HLN.out, List.flatMap_append, ← HK.out]
          exact hown6
        obtain ⟨a6, c6, rfl, _⟩ := hO6.form
        have HO6 := Lib.hid hO6
        have HB6 := Lib.hid hB6
        clear hown6 hgrow6 hO3 hB3 hc1 hc2 hc5 hO6 hB6 hcA hcB
        go_wp2_with fail
        go_roundw
        case rel => exact ⟨(near : Nat), _, rfl, by unfold i64; omega, by rw [HLN.out, ← HK.out]; omega, HE2, HO6.out, HB6.out⟩
        case measure =>
          show 5 - (L ++ [(⟨vid, near, kept⟩ : Vn)]).length < 5 - k
          rw [HLN.out, ← HK.out]
          omega
    · have hlz : (4 : Int) < (L.length : Int) := by omega
      have hE2 : lnC C n = L := by
        rw [hE.out, show 5 - L.length = 0 by omega]
        exact List.append_nil _
      have HE2 := Lib.hid hE2
      clear hE hE2 hsl
      go_wp2_with fail
      go_ret
      rw [HE2.out]
      exact ⟨_, rfl, hown, hB⟩
end
theorem drop_consV {α : Type} {l : List α} {i : Nat} {t : α} (h : l[i]? = some t) : l.drop i = t :: l.drop (i + 1) := by
  have hi := (List.getElem?_eq_some_iff.1 h).1
  rw [List.drop_eq_getElem_cons hi]
  rw [List.getElem?_eq_getElem hi] at h
  injection h with h
  rw [h]
theorem ct_last {L : List Vn} {k : Nat} {v : Vn} (h : L[k]? = some v) (hk : k + 1 = L.length) : ct (L.drop k) = v.kept := by
  have e : L.drop k = [v] := by
    rw [drop_consV h, List.drop_of_length_le (by omega)]
  rw [e]
  rfl
theorem ct_more {L : List Vn} {k : Nat} {v : Vn} (h : L[k]? = some v) (hk : k + 1 < L.length) : ct (L.drop k) = tb (Dm.ap (ct (L.drop (k + 1))).data.toList v.kept.data.toList).1 := by
  have hne : L.drop (k + 1) ≠ [] := by
    intro e
    have := congrArg List.length e
    rw [List.length_drop, List.length_nil] at this
    omega
  rw [drop_consV h]
  cases hd : L.drop (k + 1) with
  | nil => exact absurd hd hne
  | cons u r => rfl
set_option maxRecDepth 100000 in
set_option maxHeartbeats 4000000 in
theorem content_any (a : Option Addr) (n c m : Nat) (L : List Vn) (w : World) (h : Vsl w a n L) (hm : n = m + 1) (hc : n ≤ c) (hn : n ≤ 5) (hs : ∀ k, (ct (L.drop k)).size ≤ 140737488351232) (hk : ∀ v ∈ L, v.kept.size ≤ 140737488351232) :
    Calls Tryz.prog 41 #[.slice a n c] w fun e w' => e = .returned (.string (ct L)) ∧ Below w.heap.size w w' := by
  have HV := Lib.hid (fun V (hV : Below w.heap.size w V) => h.below hV)
  have HL := Lib.hid h.1
  have HS := Lib.hid hs
  have HK := Lib.hid hk
  have hz : (n : Int) - 1 = (m : Int) := by omega
  have hmn : (m : Int) < (n : Int) := by omega
  have hmp : 0 ≤ (m : Int) := by omega
  obtain ⟨v, hv⟩ : ∃ v, L[m]? = some v := ⟨_, List.getElem?_eq_getElem (by rw [h.1]; omega)⟩
  have hlast := ct_last hv (by rw [h.1]; omega)
  have HLA := Lib.hid hlast
  have HM := Lib.hid hm
  obtain ⟨g, off, rfl, hg, hcc⟩ : ∃ g off, a = some ⟨g, off, none⟩ ∧ g < w.heap.size ∧ ∀ k x, L[k]? = some x → w.cell? ⟨g, off + k * 2, none⟩ = some (.int .i64 (x.near : Nat)) ∧ w.cell? ⟨g, off + k * 2 + 1, none⟩ = some (.string x.kept) := by
    rcases h.2 with h0 | hh
    · omega
    · exact hh
  have g1 := (hcc m v hv).2
  have HC := Lib.hid (fun V (hV : Below w.heap.size w V) k x (hx : L[k]? = some x) => (hV.cell (p := ⟨g, off + k * 2 + 1, none⟩) hg).trans (hcc k x hx).2)
  obtain ⟨vid, near, kept⟩ := v
  simp only at g1 hlast HLA
  clear hcc hv hlast h hs hk hm
  go_enter Tryz.func41, Tryz.ntmps41
  go_wp2_with fail
  go_loopw [4, 5] (fun dv iv wr => ∃ (j : Nat) (z : Int), j ≤ m ∧ iv = .int .i64 z ∧ z = (j : Int) - 1 ∧ dv = .string (ct (L.drop j)) ∧ Below w.heap.size w wr) (fun _ iv _ => (intOf iv + 1).toNat)
  case atStart => exact ⟨m, (m : Int) - 1, Nat.le_refl _, rfl, rfl, by rw [HLA.out], Below.refl _ _⟩
  case round =>
    clear g1
    obtain ⟨j, z, hj, rfl, hzj, rfl, hB⟩ := hrel
    cases j with
    | zero =>
      have hzn : z < 0 := by omega
      have e0 : ct (L.drop 0) = ct L := by rw [List.drop_zero]
      have HE := Lib.hid e0
      clear hzj e0
      go_wp2_with fail
      go_ret
      rw [HE.out]
      exact ⟨rfl, hB⟩
    | succ k =>
      obtain rfl : z = (k : Int) := by omega
      obtain ⟨y, hy⟩ : ∃ y, L[k]? = some y := ⟨_, List.getElem?_eq_getElem (by rw [HL.out, HM.out]; omega)⟩
      have hmore := ct_more hy (by rw [HL.out, HM.out]; omega)
      have gk := HC.out _ hB k y hy
      have hkn : (k : Int) < (n : Int) := by omega
      have hks := HK.out y (List.mem_of_getElem? hy)
      have hds := HS.out (k + 1)
      have ca := Dl.apply_any (ct (L.drop (k + 1))) y.kept wr (by unfold maxLen; omega) (by unfold maxLen; omega)
      generalize (Dm.ap (ct (L.drop (k + 1))).data.toList y.kept.data.toList).2 = E at ca
      rw [← hmore] at ca
      generalize ct (L.drop (k + 1)) = BA at ca hds
      obtain ⟨CT, hCT⟩ : ∃ CT, CT = ct (L.drop k) := ⟨_, rfl⟩
      rw [← hCT] at ca
      have HCT := Lib.hid hCT
      obtain ⟨yid, ynear, ykept⟩ := y
      simp only at gk ca hks
      clear hy hmore hCT hzj
      go_wp2_with fail
      go_at_call 70
      refine ca.mono ?_
      rintro e w3 ⟨rfl, hb3⟩
      have hB3 := Tx.below_call hB hb3
      clear ca gk hb3
      go_wp2_with fail
      go_roundw
      case rel => exact ⟨k, (k : Int) - 1, by omega, by go_num, rfl, by rw [HCT.out], hB3⟩
      case measure => simp [intOf]
section
variable {w0 : World × (Nat → Prop)} {W : World} {b j t m u M S : Nat} {x : Tst} {l : List Ch} {C : List Vn} {D : Nat → ByteArray} {r : Nat → Nat}
theorem ln_parts (h : Gv C D r M S) : ∀ (f : Nat) (v : Vn), v ∈ C → r v.id < f → ∀ k, (ct ((ln C f (v.id : Int)).drop k)).size ≤ S
  | 0, v, hv, hf, k => by omega
  | f + 1, v, hv, hf, k => by
    obtain ⟨l, e1, e2, _, _, e5, e6⟩ := ln_good h (f + 1) v hv hf
    rw [e1]
    have hE := h.each v hv
    cases k with
    | zero => rw [List.drop_zero, e2]; exact hE.2.2.2.1
    | succ k =>
      rw [List.drop_succ_cons]
      by_cases hn : v.near = 0
      · rw [e5 hn, List.drop_nil]
        exact Nat.zero_le _
      · obtain ⟨e7, _⟩ := e6 hn
        obtain ⟨y, hy, e, hr, _⟩ := h.told v hv hn
        rw [e7, ← e]
        exact ln_parts h f y hy (by omega) k
set_option maxRecDepth 100000 in
set_option maxHeartbeats 4000000 in
theorem tell_any {n : Int} {d : ByteArray} (h : OwF (Tu b j t m u) w0 (x, l) W) (hR : Rp (all7 x.L l) C M) (hG : Gv C D r M S) (hM : M ≤ 1000000000) (hS : S ≤ 100000000) (hn : i64 n) (ht : ∀ V, Below W.heap.size W V → Tab V) (hd : d.size ≤ 140737488351232) :
    Calls Tryz.prog 29 #[.pointer (some ⟨u, 0, none⟩), .string d, .int .i64 n] W fun e w' => e = .returned (vnV (tell C d n).1 (tell C d n).2) ∧ Below W.heap.size W w' := by
  have hB0 : Below W.heap.size W (W.alloc nV) := (Below.refl _ W).alloc (Nat.le_refl _) _
  have hnew : (W.alloc nV).heap[W.heap.size]? = some nV := heap_alloc_new _ _
  have cl := line_any (n := n) (owf_below h hB0) hR (hG.nice hM) (by omega) hn (fun V hV => ht V (Tx.below_call hB0 hV))
  have HP : Hid (∀ k, (ct ((lnC C n).drop k)).size ≤ S) := Lib.hid (fun k => by
    cases ha : atI C n with
    | none => rw [lnC_none ha, List.drop_nil]; exact Nat.zero_le _
    | some v =>
      obtain ⟨hv, e⟩ := atI_some ha
      have hE := hG.each v hv
      rw [← e]
      exact ln_parts hG 5 v hv (by omega) k)
  have HQ : Hid (∀ v ∈ lnC C n, v.kept.size ≤ S) := Lib.hid (fun v hv => by
    cases ha : atI C n with
    | none => rw [lnC_none ha] at hv; cases hv
    | some y =>
      obtain ⟨hy, e⟩ := atI_some ha
      rw [← e] at hv
      obtain ⟨l', g1, _, _, g4⟩ := lnC_some hG hy
      rw [g1] at hv
      exact (hG.nice hM v (g4 v hv)).2)
  have hlen := ln_len C 5 n
  obtain ⟨TL, hTL⟩ : ∃ T, T = tell C d n := ⟨_, rfl⟩
  rw [← hTL]
  unfold tell at hTL
  change (lnC C n).length ≤ 5 at hlen
  have hnat : (lnC C n).length ≠ 0 → ((n.toNat : Nat) : Int) = n := fun hne => by
    cases ha : atI C n with
    | none => rw [lnC_none ha] at hne; exact absurd rfl hne
    | some y =>
      obtain ⟨_, e⟩ := atI_some ha
      omega
  generalize lnC C n = L at cl HP HQ hlen hTL hnat
  have HB := Lib.hid hB0
  have HN := Lib.hid hnew
  have HT := Lib.hid hTL
  have HNT := Lib.hid hnat
  clear h hR hG ht hB0 hnew hTL hnat
  go_enter Tryz.func29, Tryz.ntmps29
  go_wp2_with fail
  go_at_call 40
  refine cl.mono ?_
  rintro e w1 ⟨v, rfl, hO1, hb1⟩
  obtain ⟨aL, cL, rfl, hsl, hcl, _⟩ := hO1.form
  have hn1 : w1.heap[W.heap.size]? = some nV := (hb1.block _ (by simp)).trans HN.out
  have HN1 := Lib.hid hn1
  have HS1 := Lib.hid (show W.heap.size < w1.heap.size from Nat.lt_of_lt_of_le (by simp) hb1.size)
  have HB1 := Lib.hid (Tx.below_call HB.out hb1)
  have HSL := Lib.hid hsl
  obtain ⟨k, hk⟩ : ∃ k, k = L.length := ⟨_, rfl⟩
  rw [← hk] at HSL hcl hlen
  rw [← hk]
  have HK := Lib.hid hk
  clear cl hO1 hb1 hn1 hsl hk
  by_cases hw : k = 0 ∨ 4 < k ∨ 4096 < d.size
  · have hTL : TL = (0, d) := by rw [HT.out, if_pos (by rw [← HK.out]; exact hw)]
    obtain ⟨⟨a0, b0⟩, ⟨a1, b1⟩, hb3, hc3⟩ := store2 HN1.out (.int .i64 0) (.string d)
    have HTL := Lib.hid hTL
    have HB3 := Lib.hid hb3
    have HC := Lib.hid hc3
    clear hTL hb3 hc3
    have fin : ∀ w9, w9 = (w1.setCell ⟨W.heap.size, 0, none⟩ (.int .i64 0)).setCell ⟨W.heap.size, 1, none⟩ (.string d) → Ending.returned (.agg #[.int .i64 0, .string d]) = .returned (vnV TL.1 TL.2) ∧ Below W.heap.size W w9 := by
      rintro w9 rfl
      rw [HTL.out]
      exact ⟨rfl, below_chgB HB1.out HC.out (Nat.le_refl _)⟩
    have HFI := Lib.hid fin
    clear fin
    rcases Nat.eq_zero_or_pos k with h0 | h0
    · have hz : ((k : Nat) : Int) = 0 := by omega
      subst h0
      go_wp2_with fail
      (try simp only [Exit.inBlock, Exit.then])
      refine bodyPost_ret (results_cell_row rfl _ _ _ _ _ _ _ rfl HB3.out Tryz.underlying71 rfl infoVt) rfl ?_
      exact HFI.out _ rfl
    · have hz : ((k : Int) == 0) = false := by simp; omega
      by_cases h4 : 4 < k
      · have hz4 : (4 : Int) < (k : Int) := by omega
        go_wp2_with fail
        (try simp only [Exit.inBlock, Exit.then])
        refine bodyPost_ret (results_cell_row rfl _ _ _ _ _ _ _ rfl HB3.out Tryz.underlying71 rfl infoVt) rfl ?_
        exact HFI.out _ rfl
      · have hz4 : ¬ (4 : Int) < (k : Int) := by omega
        have hzd : (4096 : Int) < (d.size : Int) := by omega
        go_wp2_with fail
        (try simp only [Exit.inBlock, Exit.then])
        refine bodyPost_ret (results_cell_row rfl _ _ _ _ _ _ _ rfl HB3.out Tryz.underlying71 rfl infoVt) rfl ?_
        exact HFI.out _ rfl
  · have hz : ((k : Int) == 0) = false := by simp; omega
    have hz4 : ¬ (4 : Int) < (k : Int) := by omega
    have hzd : ¬ (4096 : Int) < (d.size : Int) := by omega
    obtain ⟨m', hm'⟩ : ∃ m', k = m' + 1 := ⟨k - 1, by omega⟩
    have cc := content_any aL k cL m' L w1 HSL.out hm' hcl (by omega) (fun k => by have := HP.out k; omega) (fun v hv => by have := HQ.out v hv; omega)
    have hcs := HP.out 0
    rw [List.drop_zero] at hcs
    have ce := fun V => Dl.encode_any (ct L) d V (by omega) (by omega)
    have hT2 : TL = if d.size ≤ (Dm.en (ct L).data.toList d.data.toList).length then (0, d) else (n.toNat, tb (Dm.en (ct L).data.toList d.data.toList)) := by rw [HT.out, if_neg (by rw [← HK.out]; exact hw)]
    have hnn := HNT.out (by rw [← HK.out]; omega)
    have hsz : (tb (Dm.en (ct L).data.toList d.data.toList)).size = (Dm.en (ct L).data.toList d.data.toList).length := tb_size _
    rw [← hsz] at hT2
    generalize tb (Dm.en (ct L).data.toList d.data.toList) = E at ce hT2
    generalize ct L = CL at cc ce
    have HT2 := Lib.hid hT2
    have HNN := Lib.hid hnn
    clear hT2 hsz hnn hcs hm' hw
    go_wp2_with fail
    go_at_call 41
    refine cc.mono ?_
    rintro e w2 ⟨rfl, hb2⟩
    have HB2 := Lib.hid (Tx.below_call HB1.out hb2)
    have HS2 := Lib.hid (Nat.lt_of_lt_of_le HS1.out hb2.size)
    have HN2 := Lib.hid ((hb2.block _ HS1.out).trans HN1.out)
    clear hb2 cc
    go_wp2_with fail
    go_at_call 56
    refine (ce _).mono ?_
    rintro e w3 ⟨rfl, hb3⟩
    have HB3 := Lib.hid (Tx.below_call HB2.out hb3)
    have hn3 := (hb3.block _ HS2.out).trans HN2.out
    clear hb3 ce
    by_cases hge : d.size ≤ E.size
    · have hgz : (d.size : Int) ≤ (E.size : Int) := by omega
      obtain ⟨⟨a0, b0⟩, ⟨a1, b1⟩, hb5, hc5⟩ := store2 hn3 (.int .i64 0) (.string d)
      have HC := Lib.hid hc5
      have HTL := Lib.hid (show TL = (0, d) by rw [HT2.out, if_pos hge])
      clear hn3 hc5
      go_wp2_with fail
      (try simp only [Exit.inBlock, Exit.then])
      refine bodyPost_ret (results_cell_row rfl _ _ _ _ _ _ _ rfl hb5 Tryz.underlying71 rfl infoVt) rfl ?_
      rw [HTL.out]
      exact ⟨rfl, below_chgB HB3.out HC.out (Nat.le_refl _)⟩
    · have hgz : ¬ (d.size : Int) ≤ (E.size : Int) := by omega
      obtain ⟨⟨a0, b0⟩, ⟨a1, b1⟩, hb5, hc5⟩ := store2 hn3 (.int .i64 n) (.string E)
      have HC := Lib.hid hc5
      have HTL := Lib.hid (show TL = (n.toNat, E) by rw [HT2.out, if_neg hge])
      clear hn3 hc5
      go_wp2_with fail
      (try simp only [Exit.inBlock, Exit.then])
      refine bodyPost_ret (results_cell_row rfl _ _ _ _ _ _ _ rfl hb5 Tryz.underlying71 rfl infoVt) rfl ?_
      rw [HTL.out]
      unfold vnV
      simp only
      rw [HNN.out]
      exact ⟨rfl, below_chgB HB3.out HC.out (Nat.le_refl _)⟩
end
end Go.Proofs.YtdfcbnejnnibpaaGreatDoor.Cn

namespace Go.Proofs.YtdfcbnejnnibpaaGreatDoor.Cn
open Go.RowKit Tx Pm Dk Wm Wr Wl Pl Tb Bl Go.Sort Go.Lib Go.Shelf
set_option linter.unusedVariables false
set_option linter.unusedSimpArgs false
set_option linter.unnecessarySimpa false
theorem perm_map_inv {α β : Type} (f : α → β) {K m : List β} (h : K.Perm m) : ∀ l : List α, m = l.map f → ∃ l' : List α, l'.Perm l ∧ K = l'.map f := by
  induction h with
  | nil => exact fun l hl => ⟨[], by rw [List.map_eq_nil_iff.1 hl.symm], rfl⟩
  | cons a h ih =>
    intro l hl
    cases l with
    | nil => cases hl
    | cons y l =>
      rw [List.map_cons] at hl
      injection hl with e1 e2
      obtain ⟨l', h1, h2⟩ := ih l e2
      exact ⟨y :: l', h1.cons y, by rw [List.map_cons, ← e1, h2]⟩
  | swap a b K =>
    intro l hl
    match l, hl with
    | [], hl => cases hl
    | [y], hl => rw [List.map_cons] at hl; injection hl with _ e; cases e
    | y :: z :: l, hl =>
      rw [List.map_cons, List.map_cons] at hl
      injection hl with e1 e2
      injection e2 with e2 e3
      exact ⟨z :: y :: l, List.Perm.swap y z l, by rw [List.map_cons, List.map_cons, e1, e2, e3]⟩
  | trans h1 h2 ih1 ih2 =>
    intro l hl
    obtain ⟨l2, p1, e1⟩ := ih2 l hl
    obtain ⟨l3, p2, e2⟩ := ih1 l2 e1
    exact ⟨l3, p2.trans p1, e2⟩
theorem rising_permN : ∀ {ts l : List Nat}, ts.Perm l → ts.Pairwise (· ≤ ·) → l.Pairwise (· < ·) → ts = l
  | ts, [], hp, _, _ => hp.eq_nil
  | [], x :: l, hp, _, _ => absurd hp.symm.eq_nil (by simp)
  | y :: t, x :: l, hp, h1, h2 => by
    obtain ⟨a1, a2⟩ := List.pairwise_cons.1 h1
    obtain ⟨b1, b2⟩ := List.pairwise_cons.1 h2
    have hyx : y = x := by
      rcases List.mem_cons.1 (hp.mem_iff.1 (List.mem_cons_self : y ∈ y :: t)) with e | hy
      · exact e
      · rcases List.mem_cons.1 (hp.mem_iff.2 (List.mem_cons_self : x ∈ x :: l)) with e | hx
        · exact e.symm
        · have := a1 x hx
          have := b1 y hy
          omega
    subst hyx
    rw [rising_permN (List.Perm.cons_inv hp) a2 b2]
def nv (n : Nat) : Value := .int .i64 (n : Nat)
def OwI (w : World) (B : Nat) (v : Value) (l : List Nat) : Prop := w.ownsRow B 3 1 v l.length (l.map nv)
def Isl (w : World) (a : Option Addr) (n : Nat) (l : List Nat) : Prop := l.length = n ∧ (n = 0 ∨ ∃ g off, a = some ⟨g, off, none⟩ ∧ g < w.heap.size ∧ ∀ k x, l[k]? = some x → w.cell? ⟨g, off + k, none⟩ = some (.int .i64 (x : Nat)))
theorem Isl.below {w w1 : World} {a : Option Addr} {n : Nat} {l : List Nat} (h : Isl w a n l) (hb : Below w.heap.size w w1) : Isl w1 a n l := by
  refine ⟨h.1, ?_⟩
  rcases h.2 with h0 | ⟨g, off, ha, hlt, hc⟩
  · exact .inl h0
  · exact .inr ⟨g, off, ha, Nat.lt_of_lt_of_le hlt hb.size, fun k x hx => (hb.cell (p := ⟨g, _, none⟩) hlt).trans (hc k x hx)⟩
theorem OwI.form {w : World} {B : Nat} {v : Value} {l : List Nat} (h : OwI w B v l) : ∃ a c, v = .slice a l.length c ∧ Isl w a l.length l ∧ l.length ≤ c ∧ c ≤ maxLen := by
  have hh := h
  rcases h.2 with ⟨rfl, h0⟩ | ⟨g, cap, cur, rfl, hg, hh2, hn, hc, _⟩
  · exact ⟨none, 0, by rw [h0], ⟨rfl, .inl h0⟩, by omega, Nat.zero_le _⟩
  · refine ⟨some ⟨g, 0, none⟩, cap, rfl, ⟨rfl, .inr ⟨g, 0, rfl, (Array.getElem?_eq_some_iff.1 hh2).1, fun k x hx => ?_⟩⟩, hn, hc⟩
    have := hh.cells (g := g) rfl k (nv x) (by rw [List.getElem?_map, hx]; rfl)
    rw [WideShapes.add_plain, Nat.zero_add] at this
    rw [Nat.zero_add]
    exact this
theorem nv_one (l : List Nat) : ∀ u ∈ l.map nv, u.oneCell' = true := by
  intro u hu
  obtain ⟨s, _, rfl⟩ := List.mem_map.1 hu
  rfl
theorem infoN10 : (Tryz.prog.info? 3).map (fun i => (i.zero, i.size, i.bytes)) = some (some (.int .i64 0), 1, 8) := by kernel_rfl
theorem castNV (l : List Nat) : (l.map (fun n : Nat => (n : Int))).map (Value.int .i64) = l.map nv := by
  rw [List.map_map]
  rfl
theorem below_sortI {w : World} {B g q : Nat} {d : Array Int} {os : Array Obj} (hg : B ≤ g) (hB : B ≤ w.heap.size) : RowKit.Below B w (grow (putRow (Value.int .i64) (Sort.ahead w q) g 0 d) os) := by
  have h1 : RowKit.Below B w (putRow (Value.int .i64) (Sort.ahead w q) g 0 d) := Lib.below_putRow (RowKit.Below.refl B w) hg
  refine ⟨h1.os, h1.tape, h1.output, by simp, fun k hk => ?_⟩
  have h2 : (putRow (Value.int .i64) (Sort.ahead w q) g 0 d).heap.size = w.heap.size := by simp
  refine (Go.Sort.heap_grow_old _ os (by omega)).trans ?_
  exact h1.block k hk
set_option maxRecDepth 100000 in
set_option maxHeartbeats 1000000 in
theorem sortI_any (v : Value) (l : List Nat) (w : World) (B : Nat) (hT : OwI w B v l) (hB : B ≤ w.heap.size) (hn : l.length ≤ 4000000000) :
    Calls Tryz.prog 60 #[v] w fun e w' => e = .returned (.tuple #[]) ∧ ∃ ts : List Nat, ts.Perm l ∧ ts.Pairwise (· ≤ ·) ∧ OwI w' B v ts ∧ RowKit.Below B w w' := by
  have hT2 := hT
  obtain ⟨hlen, h2⟩ := hT2
  rcases h2 with ⟨hv, h0⟩ | ⟨g, cap, cur, hv, hb, hg, hc, hm, hs, ht⟩
  · subst hv
    obtain rfl : l = [] := List.length_eq_zero_iff.1 h0
    have h := Any.slices_Sort_int_none Tryz.sortI none 0 w
    change Calls Tryz.prog 60 _ _ _ at h
    refine h.mono ?_
    rintro e w' ⟨rfl, rfl⟩
    exact ⟨rfl, [], List.Perm.refl _, List.Pairwise.nil, hT, RowKit.Below.refl _ _⟩
  · subst hv
    have hlt : g < w.heap.size := (Array.getElem?_eq_some_iff.1 hg).1
    obtain ⟨zs, hz⟩ : ∃ zs, zs = l.map (fun n : Nat => (n : Int)) := ⟨_, rfl⟩
    have hzl : zs.length = l.length := by rw [hz, List.length_map]
    have hH : Holds (Value.int .i64) w g 0 zs.toArray := holds_of_blockI hg (by
      rw [Nat.mul_one] at ht
      rw [hzl, ht, hz, castNV])
    have h := Any.slices_Sort_int Tryz.sortI g 0 cap zs w hH hlt (by omega)
    change Calls Tryz.prog 60 _ _ _ at h
    rw [hzl] at h
    refine h.mono ?_
    rintro e w' ⟨rfl, q, os, rfl⟩
    have hml : (zs.mergeSort fun x y => decide (x ≤ y)).length = zs.length := List.length_mergeSort zs
    obtain ⟨ts, hp, hts⟩ := perm_map_inv (fun n : Nat => (n : Int)) (List.mergeSort_perm zs (fun x y => decide (x ≤ y))) l hz
    have hso := List.pairwise_mergeSort (le := fun x y : Int => decide (x ≤ y)) (fun a b c h1 h2 => by simp at *; omega) (fun a b => by simp; omega) zs
    have h1 := ownsRow_sortedI (ss := zs) (ts := zs.mergeSort fun x y => decide (x ≤ y)) (n := q) (os := os) hml hb hg (by rw [hzl]; exact hc) hm hs
    refine ⟨rfl, ts, hp, ?_, ?_, below_sortI hb hB⟩
    · rw [hts, List.pairwise_map] at hso
      exact hso.imp (fun {a b} hab => by simpa using hab)
    · unfold OwI
      have htl : ts.length = l.length := hp.length_eq
      rw [hts, castNV, hzl] at h1
      rw [htl, hts]
      exact h1
theorem atoi_any (n : Nat) (s : ByteArray) (w : World) (hs : s.data.toList = Lib.decDigits n) (hz : s.size ≤ 18) : Calls Tryz.prog 59 #[.string s] w fun e w' => e = .returned (.tuple #[.int .i64 (n : Nat), .nilIface]) ∧ Below w.heap.size w w' := by
  refine (Any.strconv_Atoi Tryz.atoi s (n : Int) hz (by rw [hs]; exact atoi_dec n) w).mono ?_
  rintro e w' ⟨rfl, t, rfl⟩
  exact ⟨rfl, Lib.bytesWorld_below w _ t⟩
def ids (C : List Vn) : List Nat := C.map Vn.id
section
variable {w0 : World × (Nat → Prop)} {W : World} {b j t m u M S : Nat} {x : Tst} {l : List Ch} {C : List Vn} {D : Nat → ByteArray} {r : Nat → Nat} {R : List It}
theorem ids_rise (h : Gv C D r M S) : (ids C).Pairwise (· < ·) := List.pairwise_map.2 h.rise
theorem vkeys_perm {M' : Nat} (hR : Rp R C M') (hg : Gv C D r M S) : (held (pre7 pV) R).Perm ((ids C).map fun n : Nat => keyI (n : Int)) := by
  refine (List.perm_ext_iff_of_nodup (nodup_held hR.rises _) ?_).2 (fun a => ?_)
  · rw [List.Nodup, List.pairwise_map]
    exact (ids_rise hg).imp (fun {a b} hab e => by have := keyI_inj e; omega)
  · rw [mem_held hR.rises, List.mem_map]
    constructor
    · rintro ⟨h1, h2⟩
      rw [hR.look a h2] at h1
      cases hf : C.find? (fun v => decide (keyI v.id = a)) with
      | none => rw [hf] at h1; cases h1
      | some v => exact ⟨v.id, List.mem_map.2 ⟨v, List.mem_of_find?_eq_some hf, rfl⟩, of_decide_eq_true (List.find?_some (p := fun v : Vn => decide (keyI v.id = a)) hf)⟩
    · rintro ⟨n, hn, rfl⟩
      obtain ⟨v, hv, rfl⟩ := List.mem_map.1 hn
      refine ⟨?_, beg_keyI _⟩
      rw [hR.at, hg.at hv]
      rfl
theorem key_tail (n : Nat) : ((keyI (n : Int)).extract 2 (keyI (n : Int)).size).data.toList = Lib.decDigits n := by
  rw [ByteArray.data_extract, Array.toList_extract, List.extract_eq_take_drop, keyI_list, itoa_nat]
  have e : (keyI (n : Int)).size = 2 + (Lib.decDigits n).length := by
    rw [← Wm.len_l, keyI_list, itoa_nat, List.length_append]
    rfl
  rw [e]
  simp
theorem key_tail_size (n : Nat) (hn : n < 1000000000) : ((keyI (n : Int)).extract 2 (keyI (n : Int)).size).size ≤ 18 ∧ 2 ≤ (keyI (n : Int)).size := by
  have h1 := nDigits_le 9 n (by omega) (by omega)
  refine ⟨?_, ?_⟩
  · rw [← Wm.len_l, key_tail, Lib.decDigits_length]
    omega
  · rw [← Wm.len_l, keyI_list, List.length_append]
    simp
theorem take_snoc10 {α : Type} {l : List α} {k : Nat} {x : α} (h : l[k]? = some x) : l.take (k + 1) = l.take k ++ [x] := by
  rw [List.take_add_one, h]
  rfl
set_option maxRecDepth 100000 in
set_option maxHeartbeats 4000000 in
theorem versions_any (h : OwF (Tu b j t m u) w0 (x, l) W) (hx : Xk x) (hl : l.length ≤ 100000000) (hks : ∀ c ∈ l, c.key.size ≤ 1000) (hR : Rp (all7 x.L l) C M) (hG : Gv C D r M S) (hM : M ≤ 100000000) :
    Calls Tryz.prog 31 #[.pointer (some ⟨u, 0, none⟩)] W fun e w' => ∃ v, e = .returned v ∧ OwI w' W.heap.size v (ids C) ∧ Below W.heap.size W w' := by
  obtain ⟨i0, hi, hz0, hz1, hz2⟩ := info_parts infoN10
  have ck := f_bkeys (p := pV) h hx hl hks (by decide)
  have hKL : (held (pre7 pV) (all7 x.L l)).length ≤ 200000000 := by
    have e1 := held_len (pre7 pV) (all7 x.L l)
    have e2 := len_all x.L l
    have e3 := hx.1
    omega
  obtain ⟨I, hp, hI⟩ := perm_map_inv (fun n : Nat => keyI (n : Int)) (vkeys_perm hR hG) (ids C) rfl
  have hIM : ∀ n ∈ I, n < 1000000000 := fun n hn => by
    obtain ⟨v, hv, rfl⟩ := List.mem_map.1 (hp.mem_iff.1 hn)
    have := (hG.each v hv).2.1
    omega
  generalize held (pre7 pV) (all7 x.L l) = K at ck hKL hI
  subst hI
  rw [List.length_map] at hKL
  obtain ⟨n, hn⟩ : ∃ n, n = I.length := ⟨_, rfl⟩
  rw [← hn] at hKL
  have HNI := Lib.hid hn
  have HP := Lib.hid hp
  have HRI := Lib.hid (ids_rise hG)
  have HIM := Lib.hid hIM
  unfold pV at ck
  clear h hx hl hks hR hG hn hp hIM
  go_enter Tryz.func31, Tryz.ntmps31
  go_wp2_with fail
  go_at_call 58
  refine ck.mono ?_
  rintro e w2 ⟨vK, rfl, hK, hb2⟩
  obtain ⟨aK, cK, hv, hsK, hcK, _⟩ := hK.form
  rw [List.length_map, ← HNI.out] at hv hsK hcK
  have HSK := Lib.hid (fun V (hV : Below w2.heap.size w2 V) => hsK.below hV)
  have HB2 := Lib.hid hb2
  clear hK hsK ck hb2
  subst hv
  go_wp2_with fail
  go_loopw [3, 11] (fun ov iv wr => ∃ k : Nat, k ≤ n ∧ iv = .int .i64 k ∧ wr.ownsRow w2.heap.size 3 1 ov k ((I.take k).map nv) ∧ Below w2.heap.size w2 wr) (fun _ iv _ => n - (intOf iv).toNat)
  case atStart => exact ⟨0, Nat.zero_le _, rfl, World.ownsRow_nil _ _ _ _, Below.refl _ _⟩
  case round =>
    obtain ⟨k, hk, rfl, hown, hB⟩ := hrel
    by_cases hlt : k < n
    · obtain ⟨z, hz⟩ : ∃ z, I[k]? = some z := ⟨_, List.getElem?_eq_getElem (by rw [← HNI.out]; exact hlt)⟩
      obtain ⟨_, hne⟩ := HSK.out _ hB
      obtain ⟨bk, off, rfl, hbk, hcc⟩ := hne.resolve_left (by omega)
      have g0 := hcc k (keyI (z : Int)) (by rw [List.getElem?_map, hz]; rfl)
      have hkz : (k : Int) < (n : Int) := by omega
      obtain ⟨t1, t2⟩ := key_tail_size z (HIM.out z (List.mem_of_getElem? hz))
      have ca := fun V => atoi_any z _ V (key_tail z) t1
      have HT := Lib.hid (take_snoc10 hz)
      generalize keyI (z : Int) = KX at g0 t1 t2 ca
      have t3 : (2 : Int) ≤ (KX.size : Int) := by omega
      clear hne hcc hz t1 hbk
      go_wp2_with fail
      go_at_call 59
      refine (ca _).mono ?_
      rintro e w5 ⟨rfl, hb5⟩
      have hown5 := own_belowT hown hb5
      have hB5 := Tx.below_call hB hb5
      have hk1 := cell_one_new w5 (nv z) 3
      have hk2 := nv_one [z]
      have hk3 : w2.heap.size ≤ w5.heap.size + 1 := by have := hB5.size; omega
      clear ca g0 hown hB hb5
      go_wp2_with (at_builtin; refine wpList_append_own _ rfl _ _ 46 rfl w2.heap.size 3 i0 (.int .i64 0) 1 8 Tryz.underlying46 hi hz0 hz1 hz2 rfl (by decide) _ _ _ rfl (hown5.alloc _) ⟨w5.heap.size, 0, none⟩ 1 1 [nv z] rfl rfl ?c1_2 ?c2_2 ?c3_2 ?c4_2 ?c5_2 ?_)
      case c1_2 => first | exact hk1 | exact fun _ _ h => h
      case c2_2 => first | exact hk2 | rfl
      case c3_2 => unfold maxLen; omega
      case c4_2 => omega
      case c5_2 => first | (simp; omega) | omega
      intro v' w6 hown6 hgrow6 _
      have hB6 : Below w2.heap.size w2 w6 := (hB5.alloc hB5.size _).grown hgrow6 (by simp; have := hB5.size; omega) (fun g hg => (hown5.lt g hg).1)
      have hO6 : w6.ownsRow w2.heap.size 3 1 v' (k + 1) ((I.take (k + 1)).map nv) := by
        rw [HT.out, List.map_append, List.map_take]
        exact hown6
      have HO6 := Lib.hid hO6
      have HB6 := Lib.hid hB6
      clear hown6 hgrow6 hown5 hB5 hO6 hB6 hk1 hk2 hk3
      go_wp2_with fail
      go_roundw
      case rel => exact ⟨k + 1, by omega, by go_num, HO6.out, HB6.out⟩
      case measure => simp [intOf]; omega
    · obtain rfl : k = n := by omega
      have eA : I.take k = I := List.take_of_length_le (by rw [HNI.out]; exact Nat.le_refl _)
      rw [eA] at hown
      have hO : OwI wr W.heap.size u3 I := by
        have h1 := Dk.own_base hown HB2.out.size
        unfold OwI
        rw [← HNI.out]
        exact h1
      have hBw := Tx.below_call HB2.out hB
      have cs := sortI_any u3 I wr W.heap.size hO hBw.size (by rw [← HNI.out]; omega)
      have HBW := Lib.hid hBw
      clear hO hown hB eA hBw hlt
      go_wp2_with fail
      go_at_call 60
      refine cs.mono ?_
      rintro e w5 ⟨rfl, ts, hts, hso, hO5, hb5⟩
      obtain rfl : ts = ids C := rising_permN (hts.trans HP.out) hso HRI.out
      have hB5 := HBW.out.trans hb5
      clear cs hts hso hb5
      go_wp2_with fail
      go_ret
      exact ⟨_, rfl, hO5, hB5⟩
set_option maxRecDepth 100000 in
set_option maxHeartbeats 2000000 in
theorem vget_any {n : Int} (h : OwF (Tu b j t m u) w0 (x, l) W) (hR : Rp (all7 x.L l) C M) (hG : Gv C D r M S) (hM : M ≤ 1000000000) (hS : S ≤ 100000000) (hn : i64 n) (ht : ∀ V, Below W.heap.size W V → Tab V) :
    Calls Tryz.prog 17 #[.pointer (some ⟨u, 0, none⟩), .int .i64 n] W fun e w' => e = .returned (match atI C n with | some v => .tuple #[.string (D v.id), .int .i64 0] | none => .tuple #[.string ⟨#[]⟩, .int .i64 11]) ∧ Below W.heap.size W w' := by
  have cl := line_any (n := n) h hR (hG.nice hM) (by omega) hn ht
  cases ha : atI C n with
  | none =>
    rw [lnC_none ha] at cl
    simp only
    clear h hR hG ht ha
    go_enter Tryz.func17, Tryz.ntmps17
    go_wp2_with fail
    go_at_call 40
    refine cl.mono ?_
    rintro e w1 ⟨v, rfl, hO1, hb1⟩
    obtain ⟨aL, cL, rfl, hsl, hcl, _⟩ := hO1.form
    clear cl hO1 hsl
    go_wp2_with fail
    go_ret2
    exact ⟨rfl, hb1⟩
  | some v =>
    obtain ⟨hv, e⟩ := atI_some ha
    obtain ⟨L, g1, g2, g3, g4⟩ := lnC_some hG hv
    have hE := hG.each v hv
    have hp := ln_parts hG 5 v hv (by omega)
    have hN := hG.nice hM
    rw [e] at g1
    change ln C 5 n = v :: L at g1
    rw [e, g1] at hp
    rw [show lnC C n = v :: L from g1] at cl
    have HC := Lib.hid (fun (a : Option Addr) (c : Nat) (V : World) (hV : Vsl V a (v :: L).length (v :: L)) (hc : (v :: L).length ≤ c) => content_any a (v :: L).length c L.length (v :: L) V hV rfl hc (by rw [List.length_cons]; omega) (fun k => by have := hp k; omega) (fun y hy => by have := (hN y (g4 y hy)).2; omega))
    rw [g2] at HC
    simp only
    obtain ⟨k, hk⟩ : ∃ k, k = (v :: L).length := ⟨_, rfl⟩
    have hk0 : ((k : Int) == 0) = false := by rw [hk, List.length_cons]; simp; omega
    have HK := Lib.hid hk
    generalize D v.id = DV at HC ⊢
    clear h hR hG ht ha hN hp g1 g2 hE hk
    go_enter Tryz.func17, Tryz.ntmps17
    go_wp2_with fail
    go_at_call 40
    refine cl.mono ?_
    rintro e w1 ⟨v', rfl, hO1, hb1⟩
    obtain ⟨aL, cL, rfl, hsl, hcl, _⟩ := hO1.form
    have cc := HC.out aL cL w1 hsl hcl
    rw [← HK.out] at cc
    rw [← HK.out]
    have HB1 := Lib.hid hb1
    clear cl hO1 hsl hcl hb1
    go_wp2_with fail
    go_at_call 41
    refine cc.mono ?_
    rintro e w2 ⟨rfl, hb2⟩
    have hB2 := Tx.below_call HB1.out hb2
    clear cc hb2
    go_wp2_with fail
    go_ret2
    exact ⟨rfl, hB2⟩
set_option maxRecDepth 100000 in
set_option maxHeartbeats 2000000 in
theorem depth_any {n : Int} (h : OwF (Tu b j t m u) w0 (x, l) W) (hR : Rp (all7 x.L l) C M) (hG : Gv C D r M S) (hM : M ≤ 1000000000) (hS : S ≤ 100000000) (hn : i64 n) (ht : ∀ V, Below W.heap.size W V → Tab V) :
    Calls Tryz.prog 18 #[.pointer (some ⟨u, 0, none⟩), .int .i64 n] W fun e w' => e = .returned (.int .i64 (((lnC C n).length : Nat) - 1)) ∧ Below W.heap.size W w' := by
  have cl := line_any (n := n) h hR (hG.nice hM) (by omega) hn ht
  have hlen : (lnC C n).length ≤ 5 := ln_len C 5 n
  generalize lnC C n = L at cl hlen ⊢
  obtain ⟨k, hk⟩ : ∃ k, k = L.length := ⟨_, rfl⟩
  rw [← hk] at hlen ⊢
  have HK := Lib.hid hk
  clear h hR hG ht hk
  go_enter Tryz.func18, Tryz.ntmps18
  go_wp2_with fail
  go_at_call 40
  refine cl.mono ?_
  rintro e w1 ⟨v, rfl, hO1, hb1⟩
  obtain ⟨aL, cL, rfl, hsl, hcl, _⟩ := hO1.form
  rw [← HK.out]
  clear cl hO1 hsl hcl
  go_wp2_with fail
  go_ret
  exact ⟨rfl, hb1⟩
def byC (C : List Vn) : Nat := (C.map fun v => v.kept.size).sum
theorem byC_snoc (C : List Vn) (v : Vn) : byC (C ++ [v]) = byC C + v.kept.size := by unfold byC; rw [List.map_append, List.sum_append]; rfl
theorem byC_le : ∀ (C : List Vn) (S : Nat), (∀ v ∈ C, v.kept.size ≤ S) → byC C ≤ C.length * S
  | [], S, h => by simp [byC]
  | v :: C, S, h => by
    have h1 := byC_le C S (fun y hy => h y (List.mem_cons_of_mem _ hy))
    have h2 := h v (List.mem_cons_self ..)
    unfold byC at h1 ⊢
    rw [List.map_cons, List.sum_cons, List.length_cons, Nat.succ_mul]
    omega
theorem byC_take (C : List Vn) (k : Nat) : byC (C.take k) ≤ byC C := by
  have h := congrArg byC (List.take_append_drop k C)
  have e : byC (C.take k ++ C.drop k) = byC (C.take k) + byC (C.drop k) := by unfold byC; rw [List.map_append, List.sum_append]
  omega
set_option maxRecDepth 100000 in
set_option maxHeartbeats 4000000 in
theorem bytes_any (h : OwF (Tu b j t m u) w0 (x, l) W) (hx : Xk x) (hl : l.length ≤ 100000000) (hks : ∀ c ∈ l, c.key.size ≤ 1000) (hR : Rp (all7 x.L l) C M) (hG : Gv C D r M S) (hM : M ≤ 100000000) (hS : S ≤ 100000000) (ht : ∀ V, Below W.heap.size W V → Tab V) :
    Calls Tryz.prog 19 #[.pointer (some ⟨u, 0, none⟩)] W fun e w' => e = .returned (.int .i64 (byC C : Nat)) ∧ Below W.heap.size W w' := by
  have cv := versions_any h hx hl hks hR hG hM
  have HF := Lib.hid (fun V (hV : Below W.heap.size W V) (q : Int) (hq : i64 q) => vfind_any (n := q) (owf_below h hV) hR (hG.nice (by omega)) (by omega) hq (ht V hV))
  have hlen : C.length ≤ M := by
    have h1 := length_le_of_sub (l := ids C) (m := List.range (M + 1)) ((ids_rise hG).imp (fun {a b} hab e => by omega)) (fun z hz => by
      obtain ⟨v, hv, rfl⟩ := List.mem_map.1 hz
      have := (hG.each v hv).2.1
      rw [List.mem_range]
      omega)
    have h2 : (ids C).length = C.length := List.length_map _
    have h3 := length_le_of_sub (l := ids C) (m := (List.range M).map (· + 1)) ((ids_rise hG).imp (fun {a b} hab e => by omega)) (fun z hz => by
      obtain ⟨v, hv, rfl⟩ := List.mem_map.1 hz
      have := hG.each v hv
      rw [List.mem_map]
      exact ⟨v.id - 1, by rw [List.mem_range]; omega, by omega⟩)
    rw [List.length_map, List.length_range] at h3
    omega
  have hby : byC C ≤ 10000000000000000 := by
    have h1 := byC_le C S (fun v hv => (hG.nice (by omega) v hv).2)
    have h2 := Nat.mul_le_mul (show C.length ≤ 100000000 by omega) hS
    omega
  have HBY := Lib.hid hby
  have HAT := Lib.hid (fun v (hv : v ∈ C) => hG.at hv)
  have HEA := Lib.hid (fun v (hv : v ∈ C) => (hG.each v hv).2.1)
  obtain ⟨n, hn⟩ : ∃ n, n = (ids C).length := ⟨_, rfl⟩
  have HN := Lib.hid hn
  have hnc : C.length = n := by rw [hn]; exact (List.length_map _).symm
  have HNC := Lib.hid hnc
  have hnb : n ≤ 100000000 := by omega
  clear h hx hl hks hR hG ht hlen hby hn hnc
  go_enter Tryz.func19, Tryz.ntmps19
  go_wp2_with fail
  go_at_call 31
  refine cv.mono ?_
  rintro e w2 ⟨v, rfl, hO2, hb2⟩
  obtain ⟨aK, cK, rfl, hsl, hcl, _⟩ := hO2.form
  rw [← HN.out] at hsl hcl
  rw [← HN.out]
  have HSL := Lib.hid (fun V (hV : Below w2.heap.size w2 V) => hsl.below hV)
  have HB2 := Lib.hid hb2
  clear cv hO2 hsl hb2
  go_wp2_with fail
  go_loopw [3, 11] (fun sv2 iv wr => ∃ k : Nat, k ≤ n ∧ iv = .int .i64 k ∧ sv2 = .int .i64 (byC (C.take k) : Nat) ∧ Below w2.heap.size w2 wr) (fun _ iv _ => n - (intOf iv).toNat)
  case atStart => exact ⟨0, Nat.zero_le _, rfl, rfl, Below.refl _ _⟩
  case round =>
    obtain ⟨k, hk, rfl, rfl, hB⟩ := hrel
    by_cases hlt : k < n
    · obtain ⟨y, hy⟩ : ∃ y, C[k]? = some y := ⟨_, List.getElem?_eq_getElem (by rw [HNC.out]; exact hlt)⟩
      obtain ⟨_, hne⟩ := HSL.out _ hB
      obtain ⟨bk, off, rfl, hbk, hcc⟩ := hne.resolve_left (by omega)
      have g0 := hcc k y.id (by unfold ids; rw [List.getElem?_map, hy]; rfl)
      have hkz : (k : Int) < (n : Int) := by omega
      have hym := List.mem_of_getElem? hy
      have cf := HF.out wr (Tx.below_call HB2.out hB) (y.id : Int) (by have := HEA.out y hym; unfold i64; omega)
      rw [HAT.out y hym] at cf
      simp only at cf
      unfold vnV at cf
      have hsn := byC_snoc (C.take k) y
      rw [← take_snoc10 hy] at hsn
      have hle := byC_take C (k + 1)
      have hbb := HBY.out
      have hsum : byC (C.take k) + y.kept.size ≤ 10000000000000000 := by omega
      have HSN := Lib.hid hsn
      generalize byC (C.take k) = BK at hsum HSN
      obtain ⟨yid, ynear, ykept⟩ := y
      simp only at g0 cf hsum HSN
      clear hne hcc hy hym hsn hle hbb hbk
      go_wp2_with fail
      go_at_call 30
      refine cf.mono ?_
      rintro e w3 ⟨rfl, hb3⟩
      have hB3 := Tx.below_call hB hb3
      have hB4 := hB3.alloc hB3.size (.cells #[.int .i64 (ynear : Nat), .string ykept] 71)
      have HB4 := Lib.hid hB4
      clear cf hB hb3 hB3 hB4 g0
      go_wp2_with fail
      go_roundw
      case rel => exact ⟨k + 1, by omega, by go_num, by rw [HSN.out]; go_num, HB4.out⟩
      case measure => simp [intOf]; omega
    · obtain rfl : k = n := by omega
      have eA : C.take k = C := List.take_of_length_le (by rw [HNC.out]; exact Nat.le_refl _)
      have HE := Lib.hid eA
      have hBw := Tx.below_call HB2.out hB
      clear eA hlt
      go_wp2_with fail
      go_ret
      rw [HE.out]
      exact ⟨rfl, hBw⟩
end
end Go.Proofs.YtdfcbnejnnibpaaGreatDoor.Cn

namespace Go.Proofs.YtdfcbnejnnibpaaGreatDoor.Cn
open Go.RowKit Tx Pm Dk Wm Wr Wl Pl Tb Bl
set_option linter.unusedVariables false
set_option linter.unusedSimpArgs false
set_option linter.unnecessarySimpa false
theorem left_of {α : Type} {Obj : World → (Nat → Prop) → α → Prop} {F : Nat → Prop} {W W3 V : World} {y : α} (hB : Below W.heap.size W W3) (h : OwF Obj (W3, F) y V) : LeftA Obj W F y V := by
  obtain ⟨F', q1, q2, q3⟩ := h
  refine ⟨F', q1, (Chg.of_below hB).trans q2 (fun g hg => .inl hg), fun g hg => ?_⟩
  rcases q3 g hg with hh | hh
  · exact .inl hh
  · exact .inr (Nat.le_trans hB.size hh)
def TabZ (w0 : World × (Nat → Prop)) : Prop := ∀ V, Chg w0.2 w0.1 V → Tab V
def Bc (b j t m u : Nat) (x : Tst) (w0 : World × (Nat → Prop)) (C : List Vn) (D : Nat → ByteArray) (M S N V : Nat) (W : World) : Prop :=
  ∃ l r, OwF (Tu b j t m u) w0 (x, l) W ∧ Rp (all7 x.L l) C M ∧ Gv C D r M S ∧ l.length ≤ N ∧ (∀ c ∈ l, c.key.size ≤ 1000) ∧ wt l ≤ V
section
variable {w0 : World × (Nat → Prop)} {W : World} {b j t m u M S N V : Nat} {x : Tst} {l : List Ch} {C : List Vn} {D : Nat → ByteArray} {r : Nat → Nat} {R : List It}
theorem Bc.chg (h : Bc b j t m u x w0 C D M S N V W) : Chg w0.2 w0.1 W := by
  obtain ⟨l, r, h1, _⟩ := h
  exact h1.chg
theorem Bc.below {W1 : World} (h : Bc b j t m u x w0 C D M S N V W) (hb : Below W.heap.size W W1) : Bc b j t m u x w0 C D M S N V W1 := by
  obtain ⟨l, r, h1, h2⟩ := h
  exact ⟨l, r, owf_below h1 hb, h2⟩
theorem Bc.mono {S' N' V' : Nat} (h : Bc b j t m u x w0 C D M S N V W) (hS : S ≤ S') (hN : N ≤ N') (hV : V ≤ V') : Bc b j t m u x w0 C D M S' N' V' W := by
  obtain ⟨l, r, h1, h2, h3, h4, h5, h6⟩ := h
  exact ⟨l, r, h1, h2, h3.mono (Nat.le_refl _) hS, Nat.le_trans h4 hN, h5, Nat.le_trans h6 hV⟩
theorem Bc.good (h : Bc b j t m u x w0 C D M S N V W) : ∃ r, Gv C D r M S := by
  obtain ⟨l, r, _, _, h3, _⟩ := h
  exact ⟨r, h3⟩
theorem tab_below (ht : TabZ w0) (h : Chg w0.2 w0.1 W) : ∀ V, Below W.heap.size W V → Tab V := fun V hV => ht V (h.then (Chg.of_below hV))
theorem rp_next (h : Rp R C M) : Rp (app R ⟨nK, vs (M + 2), false⟩) C (M + 1) := by
  refine ⟨rises_app h.rises _, fun p hp => ?_, ?_⟩
  · rw [find_app7, if_neg (fun e => by rw [← e, beg_nK] at hp; cases hp)]
    exact h.look p hp
  · rw [find_app7, if_pos rfl]
    simp only [Bool.false_eq_true, if_false]
    rw [if_neg (by omega)]
theorem good_next (h : Gv C D r M S) : Gv C D r (M + 1) S := h.mono (Nat.le_succ M) (Nat.le_refl S)
theorem vs_size {n : Nat} (hn : n ≤ 9223372036854775807) : (vs n).size ≤ 10 := by
  have e : (vs n).size = (vb n).length := by rw [← Wm.len_l, vs_list]
  have := vb_len (x := n) (by omega)
  omega
def addC (C : List Vn) (M : Nat) (d : ByteArray) (n : Int) : List Vn := C ++ [⟨M + 1, (tell C d n).1, (tell C d n).2⟩]
def addD (D : Nat → ByteArray) (M : Nat) (d : ByteArray) : Nat → ByteArray := fun i => if i = M + 1 then d else D i
theorem bc_add {W1 : World} {d : ByteArray} {n : Int} (h1 : OwF (Tu b j t m u) w0 (x, bat (bat l ⟨nK, vs (M + 2), false⟩) ⟨keyI ((M + 1 : Nat) : Int), enc (tell C d n).1 (tell C d n).2, false⟩) W1) (hf : Rises x.L ∧ Once l) (hR : Rp (all7 x.L l) C M) (hg : Gv C D r M S)
    (hS : S ≤ 100000000) (hM : M ≤ 1000000000) (hl : l.length ≤ N) (hks : ∀ c ∈ l, c.key.size ≤ 1000) (hV : wt l ≤ V) (hd : d.size ≤ S) : Bc b j t m u x w0 (addC C M d n) (addD D M d) (M + 1) S (N + 2) (V + d.size + 400) W1 := by
  obtain ⟨t1, t2, t3⟩ := tell_good hg (by omega) d n hd
  have ho1 : Once (bat l ⟨nK, vs (M + 2), false⟩) := once_bat hf.2 _
  have hre := hg.re
  have hk := keyI_size (n := ((M + 1 : Nat) : Int)) (by omega)
  have htn : (tell C d n).1 ≤ 1000000000 := by
    by_cases h0 : (tell C d n).1 = 0
    · omega
    · obtain ⟨y, hy, e, _⟩ := t3 h0
      have := (hg.each y hy).2.1
      omega
  refine ⟨_, _, h1, ?_, good_add hre hd t1 t2 (fun hh => ?_), ?_, fun c hc => ?_, ?_⟩
  · rw [all_bat hf.1 ho1, all_bat hf.1 hf.2]
    exact rp_add hR hg
  · obtain ⟨y, hy, e1, _, e3, e4⟩ := t3 hh
    exact ⟨y, hy, e1, e3, e4⟩
  · have := bat_len (bat l ⟨nK, vs (M + 2), false⟩) ⟨keyI ((M + 1 : Nat) : Int), enc (tell C d n).1 (tell C d n).2, false⟩
    have := bat_len l ⟨nK, vs (M + 2), false⟩
    omega
  · rcases bat_mem hc with rfl | hc
    · show (keyI _).size ≤ 1000
      omega
    · rcases bat_mem hc with rfl | hc
      · show nK.size ≤ 1000
        decide
      · exact hks c hc
  · have e1 := wt_bat ho1 ⟨keyI ((M + 1 : Nat) : Int), enc (tell C d n).1 (tell C d n).2, false⟩
    have e2 := wt_bat hf.2 ⟨nK, vs (M + 2), false⟩
    have e3 := enc_size (h := (tell C d n).1) (d := (tell C d n).2) (by omega) (by omega)
    have e4 := vs_size (n := M + 2) (by omega)
    have e5 : nK.size = 4 := rfl
    simp only at e1 e2
    omega
set_option maxRecDepth 100000 in
set_option maxHeartbeats 4000000 in
theorem add_any {d : ByteArray} {n : Int} (h : Bc b j t m u x w0 C D M S N V W) (hM : M ≤ 10000000) (hN : N ≤ 100000000) (hS : S ≤ 100000000) (hd : d.size ≤ S) (hn : i64 n) (ht : TabZ w0) :
    Calls Tryz.prog 10 #[.pointer (some ⟨u, 0, none⟩), .string d, .int .i64 n] W fun e w' => e = .returned (.int .i64 ((M + 1 : Nat) : Nat)) ∧ Bc b j t m u x w0 (addC C M d n) (addD D M d) (M + 1) S (N + 2) (V + d.size + 400) w' := by
  obtain ⟨l, r, h1, h2, h3, h4, h5, h6⟩ := h
  have hf := f_facts h1
  have cn := next_any h1 h2 (by omega)
  have HFIN := Lib.hid (fun W1 ho => bc_add (w0 := w0) (b := b) (j := j) (t := t) (m := m) (u := u) (W1 := W1) (d := d) (n := n) (N := N) (V := V) ho hf h2 h3 hS (by omega) h4 h5 h6 hd)
  obtain ⟨k, hk⟩ : ∃ k, k = M + 1 := ⟨_, rfl⟩
  rw [← hk] at cn HFIN ⊢
  have hk2 : M + 2 = k + 1 := by omega
  rw [hk2] at HFIN
  have cu := fun V => number_any (k + 1) V (by omega)
  have ek : ((k + 1 : Nat) : Int) = (k : Int) + 1 := by omega
  rw [ek] at cu
  have hkb : (k : Int) + 1 ≤ 9223372036854775807 := by omega
  have HP := Lib.hid (fun W1 (hb : Below W.heap.size W W1) => f_put (key := nK) (val := vs (k + 1)) (owf_below h1 hb) (by decide) (by omega))
  have hR2 : Rp (all7 x.L (bat l ⟨nK, vs (k + 1), false⟩)) C k := by
    rw [all_bat hf.1 hf.2, ← hk2, hk]
    exact rp_next h2
  have hG2 : Gv C D r k S := by rw [hk]; exact good_next h3
  have hlen := bat_len l ⟨nK, vs (k + 1), false⟩
  have HTE := Lib.hid (fun W1 (ho : OwF (Tu b j t m u) w0 (x, bat l ⟨nK, vs (k + 1), false⟩) W1) => tell_any (n := n) (d := d) ho hR2 hG2 (by omega) hS hn (tab_below ht ho.chg) (by omega))
  obtain ⟨t1, _, t3⟩ := tell_good h3 (by omega) d n hd
  have htn : (tell C d n).1 ≤ 1000000000 := by
    by_cases h0 : (tell C d n).1 = 0
    · omega
    · obtain ⟨y, hy, e, _⟩ := t3 h0
      have := (h3.each y hy).2.1
      omega
  have HKE := Lib.hid (fun W1 (ho : OwF (Tu b j t m u) w0 (x, bat l ⟨nK, vs (k + 1), false⟩) W1) => vkeep_any (n := (k : Int)) (h := (tell C d n).1) (d := (tell C d n).2) ho (by unfold i64; omega) (tab_below ht ho.chg) (by omega) (by omega) (by omega))
  generalize (tell C d n).1 = p1 at HTE HKE HFIN
  generalize (tell C d n).2 = p2 at HTE HKE HFIN
  generalize addC C M d n = C9 at HFIN ⊢
  generalize addD D M d = D9 at HFIN ⊢
  unfold nK at HP
  clear h1 h2 h3 h4 h5 h6 hf hk hk2 ek hR2 hG2 hlen t1 t3 htn ht
  go_enter Tryz.func10, Tryz.ntmps10
  go_wp2_with fail
  go_at_call 25
  refine cn.mono ?_
  rintro e w1 ⟨rfl, hb1⟩
  have HB1 := Lib.hid hb1
  clear cn hb1
  go_wp2_with fail
  go_at_call 27
  refine (cu _).mono ?_
  rintro e w2 ⟨rfl, hb2⟩
  have cp := HP.out w2 (Tx.below_call HB1.out hb2)
  clear cu hb2
  go_wp2_with fail
  go_at_call 26
  refine cp.mono ?_
  rintro e w3 ⟨rfl, ho3⟩
  have ct := HTE.out w3 ho3
  have HO3 := Lib.hid ho3
  clear cp ho3
  go_wp2_with fail
  go_at_call 29
  refine ct.mono ?_
  rintro e w4 ⟨rfl, hb4⟩
  have cke := HKE.out w4 (owf_below HO3.out hb4)
  unfold vnV at cke ⊢
  clear ct hb4
  go_wp2_with fail
  go_at_call 28
  refine cke.mono ?_
  rintro e w5 ⟨rfl, ho5⟩
  have h9 := HFIN.out w5 ho5
  clear cke ho5
  go_wp2_with fail
  go_ret
  exact ⟨rfl, h9⟩
end
end Go.Proofs.YtdfcbnejnnibpaaGreatDoor.Cn
