/- Plain mathematics of deltas (no Go text): what a base and bytes make (ap), what Encode makes (en), and that the one takes back the other. -/
import Derived.Test.YtpfgijmhoenpkaaMath
namespace Go.Proofs.Ytpfgijmhoenpkaa.Dm
open Wm

/-- One piece at the front of l, of at most room bytes: (its bytes, how many bytes it takes, the error). -/
def pc (base l : List UInt8) (room : Nat) : List UInt8 × Nat × Nat :=
  if (rdU l).2.2 ≠ 0 then ([], 0, (rdU l).2.2)
  else if (rdU l).1 / 2 = 0 ∨ room < (rdU l).1 / 2 then ([], 0, 3)
  else if (rdU l).1 % 2 = 1 then
    (if (rdU (l.drop (rdU l).2.1)).2.2 ≠ 0 then ([], 0, (rdU (l.drop (rdU l).2.1)).2.2)
    else if base.length < (rdU (l.drop (rdU l).2.1)).1 + (rdU l).1 / 2 then ([], 0, 3)
    else ((base.drop (rdU (l.drop (rdU l).2.1)).1).take ((rdU l).1 / 2), (rdU l).2.1 + (rdU (l.drop (rdU l).2.1)).2.1, 0))
  else if l.length - (rdU l).2.1 < (rdU l).1 / 2 then ([], 0, 2)
  else ((l.drop (rdU l).2.1).take ((rdU l).1 / 2), (rdU l).2.1 + (rdU l).1 / 2, 0)

theorem rdU_pos {l : List UInt8} (h : (rdU l).2.2 = 0) : 0 < (rdU l).2.1 ∧ (rdU l).2.1 ≤ l.length ∧ (rdU l).1 ≤ 9223372036854775807 := by
  rcases rdU_cases l with ⟨h1, _⟩ | ⟨h1, _⟩ | ⟨_, _, _, _, h1⟩ | ⟨x, n, h2, hx, h1⟩
  · rw [h1] at h; simp at h
  · rw [h1] at h; simp at h
  · rw [h1] at h; simp at h
  · rw [h1]
    have := rd_ok h2
    exact ⟨this.2.2.1, this.1, hx⟩

theorem pc_ok {base l : List UInt8} {room : Nat} (h : (pc base l room).2.2 = 0) : 0 < (pc base l room).2.1 ∧ (pc base l room).2.1 ≤ l.length ∧ (pc base l room).1.length ≤ room ∧ 0 < (pc base l room).1.length := by
  unfold pc at h ⊢
  split at h
  · rename_i h1; exact absurd h h1
  · rename_i h1
    have p1 := rdU_pos (by simpa using h1)
    split at h
    · simp at h
    · rename_i h2
      split at h
      · rename_i h3
        split at h
        · rename_i h4; exact absurd h h4
        · rename_i h4
          have p2 := rdU_pos (by simpa using h4)
          rw [List.length_drop] at p2
          split at h
          · simp at h
          · rename_i h5
            rw [if_neg h1, if_neg h2, if_pos h3, if_neg h4, if_neg h5]
            simp only [List.length_take, List.length_drop]
            omega
      · rename_i h3
        split at h
        · simp at h
        · rename_i h4
          rw [if_neg h1, if_neg h2, if_neg h3, if_neg h4]
          simp only [List.length_take, List.length_drop]
          omega

/-- The pieces, one behind the other. -/
def apR (base : List UInt8) (size : Nat) (text rest : List UInt8) : List UInt8 × Nat :=
  if rest = [] then (if text.length < size then ([], 2) else (text, 0))
  else if _h : (pc base rest (size - text.length)).2.2 ≠ 0 then ([], (pc base rest (size - text.length)).2.2)
  else apR base size (text ++ (pc base rest (size - text.length)).1) (rest.drop (pc base rest (size - text.length)).2.1)
termination_by rest.length
decreasing_by
  have := pc_ok (by simpa using _h)
  rw [List.length_drop]
  omega

/-- What a base and bytes make: (the text, the error). -/
def ap (base d : List UInt8) : List UInt8 × Nat :=
  if (rdU d).2.2 ≠ 0 then ([], (rdU d).2.2)
  else if 4096 < (rdU d).1 then ([], 4)
  else apR base (rdU d).1 [] (d.drop (rdU d).2.1)

theorem apR_end (base : List UInt8) (size : Nat) (text : List UInt8) : apR base size text [] = if text.length < size then ([], 2) else (text, 0) := by
  rw [apR, if_pos rfl]
theorem apR_bad {base : List UInt8} {size : Nat} {text rest : List UInt8} {e : Nat} (h : rest ≠ []) (h2 : (pc base rest (size - text.length)).2.2 = e) (h3 : e ≠ 0) : apR base size text rest = ([], e) := by
  subst h2
  rw [apR, if_neg h, dif_pos h3]
theorem apR_more {base : List UInt8} {size : Nat} {text rest p : List UInt8} {m : Nat} (h : rest ≠ []) (h2 : pc base rest (size - text.length) = (p, m, 0)) : apR base size text rest = apR base size (text ++ p) (rest.drop m) := by
  rw [apR, if_neg h, dif_neg (by rw [h2]; simp), h2]

/-! ### what stands at a place -/
theorem rdU_vb (x : Nat) (r : List UInt8) (h : x ≤ 9223372036854775807) : rdU (vb x ++ r) = (x, (vb x).length, 0) := by
  have := rd_vb x r (by omega)
  unfold rdU
  rw [this, if_neg (by simp; omega)]
theorem vb_ne (x : Nat) (r : List UInt8) : vb x ++ r ≠ [] := by
  intro h
  have := congrArg List.length h
  have h2 := vb_pos x
  rw [List.length_append, List.length_nil] at this
  omega

/-- Bytes that are put in, if there are any. -/
def put (x : List UInt8) : List UInt8 := if x = [] then [] else vb (2 * x.length) ++ x
/-- n bytes of the base from the place i on. -/
def cop (i n : Nat) : List UInt8 := vb (2 * n + 1) ++ vb i

theorem ap_put {base : List UInt8} {size : Nat} {text x r : List UInt8} (hx : text.length + x.length ≤ size) (hs : x.length ≤ 4611686018427387903) : apR base size text (put x ++ r) = apR base size (text ++ x) r := by
  unfold put
  by_cases h : x = []
  · subst h
    simp
  · have hl : 0 < x.length := List.length_pos_iff.2 h
    rw [if_neg h, List.append_assoc]
    have hr := rdU_vb (2 * x.length) (x ++ r) (by omega)
    have hp : pc base (vb (2 * x.length) ++ (x ++ r)) (size - text.length) = (x, (vb (2 * x.length)).length + x.length, 0) := by
      unfold pc
      rw [hr]
      simp only
      rw [if_neg (by simp), if_neg (by omega), if_neg (by omega), if_neg (by rw [List.length_append, List.length_append]; omega), List.drop_left, show 2 * x.length / 2 = x.length by omega, List.take_left]
    rw [apR_more (vb_ne _ _) hp, ← List.append_assoc, ← List.length_append, List.drop_left]

theorem ap_cop {base : List UInt8} {size i n : Nat} {text r : List UInt8} (h0 : 0 < n) (hx : text.length + n ≤ size) (hn : n ≤ 4611686018427387903) (hb : i + n ≤ base.length) (hbl : base.length ≤ 9223372036854775807) :
    apR base size text (cop i n ++ r) = apR base size (text ++ (base.drop i).take n) r := by
  unfold cop
  rw [List.append_assoc]
  have hr := rdU_vb (2 * n + 1) (vb i ++ r) (by omega)
  have hr2 := rdU_vb i r (by omega)
  have hp : pc base (vb (2 * n + 1) ++ (vb i ++ r)) (size - text.length) = ((base.drop i).take n, (vb (2 * n + 1)).length + (vb i).length, 0) := by
    unfold pc
    rw [hr]
    simp only
    rw [if_neg (by simp), if_neg (by omega), if_pos (by omega), List.drop_left, hr2]
    simp only
    rw [if_neg (by simp), if_neg (by omega), show (2 * n + 1) / 2 = n by omega]
  rw [apR_more (vb_ne _ _) hp, ← List.append_assoc, ← List.length_append, List.drop_left]

/-! ### Encode -/
/-- How many bytes two lists begin with alike. -/
def cp : List UInt8 → List UInt8 → Nat
  | a :: r, b :: s => if a = b then cp r s + 1 else 0
  | _, _ => 0
theorem cp_le : ∀ (a b : List UInt8), cp a b ≤ a.length ∧ cp a b ≤ b.length
  | [], b => by simp [cp]
  | _ :: _, [] => by simp [cp]
  | a :: r, b :: s => by
    have := cp_le r s
    unfold cp
    split <;> simp <;> omega
theorem cp_take : ∀ (a b : List UInt8) (n : Nat), n ≤ cp a b → a.take n = b.take n
  | [], b, n, h => by simp [cp] at h; subst h; simp
  | _ :: _, [], n, h => by simp [cp] at h; subst h; simp
  | a :: r, b :: s, 0, h => by simp
  | a :: r, b :: s, n + 1, h => by
    unfold cp at h
    split at h
    · rename_i he
      have := cp_take r s n (by omega)
      subst he
      simp [this]
    · omega
theorem cp_self : ∀ a : List UInt8, cp a a = a.length
  | [] => rfl
  | a :: r => by simp [cp, cp_self r]
/-- Past the byte that differs, or past an end, nothing is alike. -/
theorem cp_stop : ∀ (a b : List UInt8) (n : Nat) , n < b.length → (a.length ≤ n ∨ a.getD n 0 ≠ b.getD n 0) → cp a b ≤ n
  | [], b, n, _, _ => by simp [cp]
  | _ :: _, [], n, _, _ => by simp [cp]
  | a :: r, b :: s, 0, _, h => by
    unfold cp
    split
    · rename_i he
      subst he
      simp at h
    · omega
  | a :: r, b :: s, n + 1, h1, h => by
    unfold cp
    split
    · have := cp_stop r s n (by simpa using h1) (by simpa using h)
      omega
    · omega
theorem cp_step : ∀ (a b : List UInt8) (n : Nat), n ≤ cp a b → n < a.length → n < b.length → (a.getD n 0 = b.getD n 0) → n + 1 ≤ cp a b
  | [], b, n, _, h, _, _ => by simp at h
  | _ :: _, [], n, _, _, h, _ => by simp at h
  | a :: r, b :: s, 0, _, _, _, h => by
    unfold cp
    rw [if_pos (by simpa using h)]
    omega
  | a :: r, b :: s, n + 1, h, h1, h2, h3 => by
    unfold cp at h ⊢
    split at h
    · rename_i he
      have := cp_step r s n (by omega) (by simpa using h1) (by simpa using h2) (by simpa using h3)
      rw [if_pos he]
      omega
    · omega

/-- The block at a place, as one number. -/
def blk (l : List UInt8) (i : Nat) : Nat := (l.getD i 0).toNat + 256 * (l.getD (i + 1) 0).toNat + 65536 * (l.getD (i + 2) 0).toNat + 16777216 * (l.getD (i + 3) 0).toNat
theorem blk_lt (l : List UInt8) (i : Nat) : blk l i < 4294967296 := by
  unfold blk
  have h0 := getD_lt l i
  have h1 := getD_lt l (i + 1)
  have h2 := getD_lt l (i + 2)
  have h3 := getD_lt l (i + 3)
  omega
/-- Of the last k places of m: one more than the first one at which this block stands, or 0. -/
def fs (l : List UInt8) (m : Nat) : Nat → Nat → Nat
  | 0, _ => 0
  | k + 1, key => if blk l (m - 1 - k) = key then m - 1 - k + 1 else fs l m k key
/-- How many places have a block. -/
def pl (l : List UInt8) : Nat := l.length - 3
/-- By a place, one more than the next one of the same block. -/
def nx (l : List UInt8) (i : Nat) : Nat := if i < pl l then fs l (pl l) (pl l - 1 - i) (blk l i) else 0
theorem fs_le (l : List UInt8) (m : Nat) : ∀ k key, k ≤ m → fs l m k key ≤ m
  | 0, _, _ => by simp [fs]
  | k + 1, key, h => by
    unfold fs
    split
    · omega
    · exact fs_le l m k key (by omega)
theorem nx_le (l : List UInt8) (i : Nat) : nx l i ≤ pl l := by
  unfold nx
  split
  · exact fs_le _ _ _ _ (by omega)
  · omega

/-- The places that are tried, from the one before a on, t of them at most. -/
def lgL (base s : List UInt8) : Nat → Nat → Nat → Nat → Nat × Nat
  | 0, _, i, n => (i, n)
  | _ + 1, 0, i, n => (i, n)
  | t + 1, a + 1, i, n => if n < s.length then (if n < cp (base.drop a) s then lgL base s t (nx base a) a (cp (base.drop a) s) else lgL base s t (nx base a) i n) else (i, n)
/-- The place that is likely. -/
def lg0 (base s : List UInt8) (k : Int) : Nat × Nat := if 0 ≤ k ∧ k < base.length then (k.toNat, cp (base.drop k.toNat) s) else (0, 0)
/-- The longest run that is found: (the place, how many bytes). -/
def lg (base s : List UInt8) (k : Int) : Nat × Nat := if s.length < 4 then (0, 0) else lgL base s 256 (fs base (pl base) (pl base) (blk s 0)) (lg0 base s k).1 (lg0 base s k).2

/-- A run that is one. -/
def Run (base s : List UInt8) (r : Nat × Nat) : Prop := r.1 + r.2 ≤ base.length ∧ r.2 ≤ s.length ∧ (base.drop r.1).take r.2 = s.take r.2
theorem run_none (base s : List UInt8) : Run base s (0, 0) := ⟨by simp, by simp, by simp⟩
theorem run_cp {base s : List UInt8} {i : Nat} (h : i ≤ base.length) : Run base s (i, cp (base.drop i) s) := by
  have h1 := cp_le (base.drop i) s
  rw [List.length_drop] at h1
  exact ⟨by simp only; omega, h1.2, cp_take _ _ _ (Nat.le_refl _)⟩
theorem run_lgL {base s : List UInt8} : ∀ (t a i n : Nat), a ≤ base.length → Run base s (i, n) → Run base s (lgL base s t a i n)
  | 0, _, _, _, _, h => by simpa [lgL] using h
  | _ + 1, 0, _, _, _, h => by simpa [lgL] using h
  | t + 1, a + 1, i, n, ha, h => by
    have hn : nx base a ≤ base.length := by have := nx_le base a; unfold pl at this; omega
    unfold lgL
    split
    · split
      · exact run_lgL t _ _ _ hn (run_cp (by omega))
      · exact run_lgL t _ _ _ hn h
    · exact h
theorem run_lg0 (base s : List UInt8) (k : Int) : Run base s (lg0 base s k) := by
  unfold lg0
  split
  · exact run_cp (by omega)
  · exact run_none _ _
theorem run_lg (base s : List UInt8) (k : Int) : Run base s (lg base s k) := by
  unfold lg
  split
  · exact run_none _ _
  · refine run_lgL _ _ _ _ ?_ (run_lg0 _ _ _)
    have := fs_le base (pl base) (pl base) (blk s 0) (Nat.le_refl _)
    unfold pl at this ⊢
    omega

/-- Encode's rounds. -/
def enR (base text : List UInt8) (at_ told : Nat) (shift : Int) (out : List UInt8) : List UInt8 :=
  if at_ < text.length then
    (if h : (lg base (text.drop at_) (at_ + shift)).2 < (cop (lg base (text.drop at_) (at_ + shift)).1 (lg base (text.drop at_) (at_ + shift)).2).length + 2 then enR base text (at_ + 1) told shift out
    else enR base text (at_ + (lg base (text.drop at_) (at_ + shift)).2) (at_ + (lg base (text.drop at_) (at_ + shift)).2) ((lg base (text.drop at_) (at_ + shift)).1 - at_) (out ++ put ((text.take at_).drop told) ++ cop (lg base (text.drop at_) (at_ + shift)).1 (lg base (text.drop at_) (at_ + shift)).2))
  else out ++ put (text.drop told)
termination_by text.length - at_
/-- Encode. -/
def en (base text : List UInt8) : List UInt8 := enR base text 0 0 0 (vb text.length)

/-- What is told from told on, and how long it is. -/
theorem en_tells (base text : List UInt8) (hb : base.length ≤ 4611686018427387903) (ht : text.length ≤ 4611686018427387903) : ∀ (f at_ told : Nat) (shift : Int) (out : List UInt8), text.length - at_ ≤ f → told ≤ at_ → at_ ≤ text.length →
    ∃ suf, enR base text at_ told shift out = out ++ suf ∧ apR base text.length (text.take told) suf = (text, 0) ∧ (base.length ≤ 8191 → text.length ≤ 8191 → told + suf.length ≤ text.length + 2)
  | f, at_, told, shift, out, hf, h1, h2 => by
    rw [enR]
    by_cases hlt : at_ < text.length
    · rw [if_pos hlt]
      have hrun := run_lg base (text.drop at_) (at_ + shift)
      obtain ⟨r, hr⟩ : ∃ r, r = lg base (text.drop at_) (at_ + shift) := ⟨_, rfl⟩
      rw [← hr] at hrun ⊢
      obtain ⟨i, n⟩ := r
      simp only
      cases f with
      | zero => omega
      | succ f =>
        split
        · exact en_tells base text hb ht f (at_ + 1) told shift out (by omega) (by omega) (by omega)
        · rename_i hp
          obtain ⟨ha, hn, he⟩ := hrun
          simp only [List.length_drop] at ha hn he hp
          have hcop : 0 < (cop i n).length := by unfold cop; rw [List.length_append]; have := vb_pos (2 * n + 1); omega
          obtain ⟨suf, e1, e2, e3⟩ := en_tells base text hb ht f (at_ + n) (at_ + n) (i - at_) (out ++ put ((text.take at_).drop told) ++ cop i n) (by omega) (by omega) (by omega)
          refine ⟨put ((text.take at_).drop told) ++ cop i n ++ suf, by rw [e1]; simp [List.append_assoc], ?_, ?_⟩
          · have hd : text.take told ++ (text.take at_).drop told = text.take at_ := by
              have := List.take_append_drop told (text.take at_)
              rwa [List.take_take, Nat.min_eq_left h1] at this
            have hl : (text.take told).length + ((text.take at_).drop told).length ≤ text.length := by
              rw [← List.length_append, hd, List.length_take]
              omega
            rw [List.append_assoc, ap_put hl (by omega), hd, ap_cop (by omega) (by rw [List.length_take]; omega) (by omega) ha (by omega), he]
            rw [List.take_add] at e2
            exact e2
          · intro hb8 ht8
            have e3 := e3 hb8 ht8
            have hput : (put ((text.take at_).drop told)).length ≤ at_ - told + 2 := by
              unfold put
              split
              · simp
              · rw [List.length_append, List.length_drop, List.length_take]
                have := vb_len_le 1 (2 * (min at_ text.length - told)) (by omega)
                omega
            rw [List.length_append, List.length_append]
            omega
    · rw [if_neg hlt]
      refine ⟨put (text.drop told), rfl, ?_, ?_⟩
      · have := ap_put (base := base) (size := text.length) (text := text.take told) (x := text.drop told) (r := []) (by rw [List.length_take, List.length_drop]; omega) (by rw [List.length_drop]; omega)
        rw [List.append_nil] at this
        rw [this, List.take_append_drop, apR_end, if_neg (by omega)]
      · intro _ ht8
        unfold put
        split
        · simp; omega
        · rw [List.length_append, List.length_drop]
          have := vb_len_le 1 (2 * (text.length - told)) (by omega)
          omega

/-- 9.3: what was encoded is applied as itself. -/
theorem ap_en (base text : List UInt8) (hb : base.length ≤ 4611686018427387903) (ht : text.length ≤ 4611686018427387903) : ap base (en base text) = if 4096 < text.length then ([], 4) else (text, 0) := by
  obtain ⟨suf, h1, h2, _⟩ := en_tells base text hb ht text.length 0 0 0 (vb text.length) (by omega) (by omega) (by omega)
  unfold ap en
  rw [h1, rdU_vb _ _ (by omega)]
  simp only
  rw [if_neg (by simp), List.drop_left]
  split
  · rfl
  · simpa using h2

/-- 9.1: how long it is. -/
theorem en_small (base text : List UInt8) (hb : base.length ≤ 4096) (ht : text.length ≤ 4096) : (en base text).length ≤ text.length + 8 := by
  obtain ⟨suf, h1, _, h3⟩ := en_tells base text (by omega) (by omega) text.length 0 0 0 (vb text.length) (by omega) (by omega) (by omega)
  unfold en
  rw [h1, List.length_append]
  have := vb_len_le 1 text.length (by omega)
  have := h3 (by omega) (by omega)
  omega

theorem lgL_full (base s : List UInt8) (t a i n : Nat) (h : s.length ≤ n) : lgL base s t a i n = (i, n) := by
  cases t with
  | zero => rfl
  | succ t =>
    cases a with
    | zero => rfl
    | succ a => rw [lgL, if_neg (by omega)]
theorem en_same (base : List UInt8) (h8 : 8 ≤ base.length) (hb : base.length ≤ 4096) : (en base base).length ≤ 8 := by
  have h0 : lg base (base.drop 0) (((0 : Nat) : Int) + 0) = (0, base.length) := by
    unfold lg
    rw [if_neg (by simp; omega)]
    have : lg0 base (base.drop 0) (((0 : Nat) : Int) + 0) = (0, base.length) := by
      unfold lg0
      rw [if_pos ⟨by omega, by omega⟩]
      simp [cp_self]
    rw [this]
    exact lgL_full _ _ _ _ _ _ (by simp)
  have hc : (cop 0 base.length).length ≤ 3 := by
    unfold cop
    rw [List.length_append]
    have h1 := vb_len_le 1 (2 * base.length + 1) (by omega)
    have h2 := vb_len_le 0 0 (by omega)
    omega
  have hv := vb_len_le 1 base.length (by omega)
  unfold en
  rw [enR, if_pos (by omega), h0]
  simp only
  rw [dif_neg (by omega), enR, if_neg (by omega)]
  simp [put]
  omega

end Go.Proofs.Ytpfgijmhoenpkaa.Dm
