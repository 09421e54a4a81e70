/- Plain mathematics of varints (no Go text): the bytes of a number, and reading them back. -/
import Derived.WalkKit
import Derived.Laws.BytesArg
namespace Go.Proofs.Ytpfgijmhoenpkaa.Wm

/-- The bytes of a number, the lowest seven bits first. -/
def vb (x : Nat) : List UInt8 := if x < 128 then [UInt8.ofNat x] else UInt8.ofNat (128 + x % 128) :: vb (x / 128)
termination_by x
decreasing_by omega

theorem vb_lo {x : Nat} (h : x < 128) : vb x = [UInt8.ofNat x] := by rw [vb, if_pos h]
theorem vb_hi {x : Nat} (h : 128 ≤ x) : vb x = UInt8.ofNat (128 + x % 128) :: vb (x / 128) := by rw [vb, if_neg (by omega)]

theorem vb_len_le : ∀ (k x : Nat), x < 128 ^ (k + 1) → (vb x).length ≤ k + 1
  | 0, x, h => by rw [vb_lo (by omega)]; simp
  | k + 1, x, h => by
    by_cases hx : x < 128
    · rw [vb_lo hx]; simp
    · rw [vb_hi (by omega), List.length_cons]
      have : x / 128 < 128 ^ (k + 1) := by
        rw [Nat.div_lt_iff_lt_mul (by omega)]
        rw [Nat.pow_succ] at h
        exact h
      have := vb_len_le k (x / 128) this
      omega
theorem vb_len {x : Nat} (h : x < 18446744073709551616) : (vb x).length ≤ 10 := vb_len_le 9 x (by omega)
theorem vb_pos (x : Nat) : 0 < (vb x).length := by
  by_cases h : x < 128
  · rw [vb_lo h]; simp
  · rw [vb_hi (by omega)]; simp

/-- The text of a number. -/
def vs (x : Nat) : ByteArray := ⟨(vb x).toArray⟩
theorem vs_list (x : Nat) : (vs x).data.toList = vb x := by simp [vs]
theorem vs_size (x : Nat) : (vs x).size = (vb x).length := by simp [vs, ByteArray.size]

/-! ### reading -/

/-- How many bytes at the front have their highest bit, k at the most. -/
def lead : List UInt8 → Nat → Nat
  | b :: r, k + 1 => if 128 ≤ b.toNat then lead r k + 1 else 0
  | _, _ => 0

/-- The number of the first n bytes. -/
def pv : List UInt8 → Nat → Nat
  | b :: r, n + 1 => b.toNat % 128 + 128 * pv r n
  | _, _ => 0

/-- (the number, how many bytes it has, the error). -/
def rd (l : List UInt8) : Nat × Nat × Nat :=
  let n := lead l 9
  if n = l.length then (0, 0, 2)
  else if n = 9 ∧ 1 < (l.getD 9 0).toNat ∨ 0 < n ∧ (l.getD n 0).toNat = 0 then (0, 0, 3)
  else (pv l (n + 1), n + 1, 0)

theorem pv_zero (l : List UInt8) : pv l 0 = 0 := by cases l <;> rfl
theorem lead_le_fuel : ∀ (l : List UInt8) (k : Nat), lead l k ≤ k
  | [], k => by cases k <;> simp [lead]
  | b :: r, 0 => by simp [lead]
  | b :: r, k + 1 => by
    rw [lead]
    split
    · have := lead_le_fuel r k; omega
    · omega
theorem lead_le_len : ∀ (l : List UInt8) (k : Nat), lead l k ≤ l.length
  | [], k => by cases k <;> simp [lead]
  | b :: r, 0 => by simp [lead]
  | b :: r, k + 1 => by
    rw [lead]
    split
    · have := lead_le_len r k; simp; omega
    · omega

/-- pv, one byte more. -/
theorem pv_succ : ∀ (l : List UInt8) (n : Nat), n < l.length → pv l (n + 1) = pv l n + (l.getD n 0).toNat % 128 * 128 ^ n
  | [], n, h => by simp at h
  | b :: r, 0, _ => by simp [pv]
  | b :: r, n + 1, h => by
    have := pv_succ r n (by simpa using h)
    rw [pv, this, pv]
    simp only [List.getD_cons_succ]
    rw [Nat.mul_add, Nat.pow_succ, ← Nat.add_assoc]
    congr 1
    rw [← Nat.mul_assoc, Nat.mul_comm 128, Nat.mul_assoc, Nat.mul_comm 128]
theorem pv_lt : ∀ (l : List UInt8) (n : Nat), pv l n < 128 ^ n
  | [], n => by
    have := Nat.pow_pos (n := n) (show 0 < 128 by omega)
    cases n <;> simp [pv] <;> omega
  | b :: r, 0 => by simp [pv]
  | b :: r, n + 1 => by
    have := pv_lt r n
    rw [pv, Nat.pow_succ]
    omega

/-- A lead, told byte by byte. -/
theorem lead_step : ∀ (l : List UInt8) (f k : Nat), k ≤ lead l f → k < f → k < l.length → 128 ≤ (l.getD k 0).toNat → k + 1 ≤ lead l f
  | [], _, _, _, _, h, _ => by simp at h
  | _ :: _, 0, k, _, h, _, _ => by omega
  | b :: r, f + 1, 0, _, _, _, hb => by
    rw [lead, if_pos (by simpa using hb)]; omega
  | b :: r, f + 1, k + 1, h, hf, hl, hb => by
    rw [lead] at h ⊢
    split at h
    · have := lead_step r f k (by omega) (by omega) (by simpa using hl) (by simpa using hb)
      rw [if_pos (by assumption)]; omega
    · omega
theorem lead_stop : ∀ (l : List UInt8) (f k : Nat), k ≤ lead l f → k < l.length → (l.getD k 0).toNat < 128 → lead l f = k
  | [], _, _, _, h, _ => by simp at h
  | _ :: _, 0, k, h, _, _ => by simp [lead] at h ⊢; omega
  | b :: r, f + 1, 0, _, _, hb => by
    rw [lead, if_neg (by simp at hb; omega)]
  | b :: r, f + 1, k + 1, h, hl, hb => by
    rw [lead] at h ⊢
    split at h
    · have := lead_stop r f k (by omega) (by simpa using hl) (by simpa using hb)
      rw [if_pos (by assumption)]; omega
    · omega
theorem lead_lt : ∀ (l : List UInt8) (f k : Nat), k < lead l f → 128 ≤ (l.getD k 0).toNat
  | [], f, k, h => by cases f <;> simp [lead] at h
  | _ :: _, 0, k, h => by simp [lead] at h
  | b :: r, f + 1, k, h => by
    rw [lead] at h
    split at h
    · cases k with
      | zero => simpa
      | succ k => simpa using lead_lt r f k (by omega)
    · omega

/-- What a number's text reads as, whatever stands behind it. -/
theorem lead_vb : ∀ (f x : Nat) (r : List UInt8), x < 128 ^ (f + 1) → lead (vb x ++ r) f = (vb x).length - 1
  | 0, x, r, h => by rw [vb_lo (by omega)]; simp [lead]
  | f + 1, x, r, h => by
    by_cases hx : x < 128
    · rw [vb_lo hx]
      have : (UInt8.ofNat x).toNat = x := by simp; omega
      simp [lead, this]; omega
    · rw [vb_hi (by omega)]
      have e : (UInt8.ofNat (128 + x % 128)).toNat = 128 + x % 128 := by simp; omega
      have h2 : x / 128 < 128 ^ (f + 1) := by
        rw [Nat.div_lt_iff_lt_mul (by omega)]
        rw [Nat.pow_succ] at h
        exact h
      have := lead_vb f (x / 128) r h2
      have hp := vb_pos (x / 128)
      rw [List.cons_append, lead, if_pos (by omega), this]
      simp; omega
theorem pv_vb : ∀ (f x : Nat) (r : List UInt8), x < 128 ^ (f + 1) → pv (vb x ++ r) (vb x).length = x
  | 0, x, r, h => by
    rw [vb_lo (by omega)]
    have : (UInt8.ofNat x).toNat = x := by simp; omega
    simp only [List.cons_append, List.nil_append, List.length_singleton, pv, this]; omega
  | f + 1, x, r, h => by
    by_cases hx : x < 128
    · rw [vb_lo hx]
      have : (UInt8.ofNat x).toNat = x := by simp; omega
      simp only [List.cons_append, List.nil_append, List.length_singleton, pv, this]; omega
    · rw [vb_hi (by omega)]
      have e : (UInt8.ofNat (128 + x % 128)).toNat = 128 + x % 128 := by simp; omega
      have h2 : x / 128 < 128 ^ (f + 1) := by
        rw [Nat.div_lt_iff_lt_mul (by omega)]
        rw [Nat.pow_succ] at h
        exact h
      have := pv_vb f (x / 128) r h2
      rw [List.cons_append, List.length_cons, pv, this, e]
      omega
theorem vb_last : ∀ (f x : Nat) (r : List UInt8), x < 128 ^ (f + 1) → 128 ≤ x → ((vb x ++ r).getD ((vb x).length - 1) 0).toNat ≠ 0
  | 0, x, r, h, h2 => by omega
  | f + 1, x, r, h, h2 => by
    rw [vb_hi (by omega)]
    have hp := vb_pos (x / 128)
    rw [List.cons_append, List.length_cons, Nat.add_sub_cancel]
    obtain ⟨n, hn⟩ : ∃ n, (vb (x / 128)).length = n + 1 := ⟨(vb (x / 128)).length - 1, by omega⟩
    rw [hn, List.getD_cons_succ]
    have h3 : x / 128 < 128 ^ (f + 1) := by
      rw [Nat.div_lt_iff_lt_mul (by omega)]
      rw [Nat.pow_succ] at h
      exact h
    by_cases hx : x / 128 < 128
    · rw [vb_lo hx] at hn ⊢
      simp at hn
      subst hn
      have : (UInt8.ofNat (x / 128)).toNat = x / 128 := by simp; omega
      simp [this]; omega
    · have := vb_last f (x / 128) r h3 (by omega)
      rw [hn, Nat.add_sub_cancel] at this
      exact this
theorem vb_tenth : ∀ (f x : Nat) (r : List UInt8), x < 2 * 128 ^ (f + 1) → (vb x).length = f + 2 → ((vb x ++ r).getD (f + 1) 0).toNat ≤ 1
  | 0, x, r, h, h2 => by
    by_cases hx : x < 128
    · rw [vb_lo hx] at h2; simp at h2
    · rw [vb_hi (by omega)]
      rw [List.cons_append, List.getD_cons_succ, vb_lo (by omega)]
      have : (UInt8.ofNat (x / 128)).toNat = x / 128 := by simp; omega
      simp [this]; omega
  | f + 1, x, r, h, h2 => by
    by_cases hx : x < 128
    · rw [vb_lo hx] at h2; simp at h2
    · rw [vb_hi (by omega)] at h2 ⊢
      rw [List.cons_append, List.getD_cons_succ]
      refine vb_tenth f (x / 128) r ?_ (by simpa using h2)
      rw [Nat.div_lt_iff_lt_mul (by omega)]
      rw [Nat.pow_succ] at h
      omega

/-- 1.7: what was written is read back. -/
theorem rd_vb (x : Nat) (r : List UInt8) (h : x < 18446744073709551616) : rd (vb x ++ r) = (x, (vb x).length, 0) := by
  have h10 : x < 128 ^ (9 + 1) := by omega
  have hl := lead_vb 9 x r h10
  have hp := vb_pos x
  have hlen := vb_len h
  have e1 : (vb x).length - 1 + 1 = (vb x).length := by omega
  unfold rd
  simp only [hl]
  rw [if_neg (by simp; omega), if_neg, e1, pv_vb 9 x r h10]
  rintro (⟨h9, h1⟩ | ⟨h0, h1⟩)
  · have : ((vb x ++ r).getD 9 0).toNat ≤ 1 := vb_tenth 8 x r (by omega) (by omega)
    omega
  · refine vb_last 9 x r h10 ?_ h1
    apply Decidable.byContradiction
    intro hx
    rw [vb_lo (by omega)] at h0
    simp at h0

/-- 1.7: what is read has been written so: one form for each number. -/
theorem vb_rd : ∀ (n : Nat) (l : List UInt8) (f : Nat), lead l f = n → n < l.length → (l.getD n 0).toNat < 128 → (0 < n → (l.getD n 0).toNat ≠ 0) → vb (pv l (n + 1)) = l.take (n + 1)
  | _, [], _, _, h, _, _ => by simp at h
  | 0, b :: r, f, _, _, hb, _ => by
    have hb' : b.toNat < 128 := by simpa using hb
    rw [vb_lo (by simp [pv]; omega)]
    simp only [pv, List.take_succ_cons, List.take_zero, Nat.mul_zero, Nat.add_zero]
    rw [Nat.mod_eq_of_lt hb']
    simp
  | n + 1, b :: r, 0, h, _, _, _ => by simp [lead] at h
  | n + 1, b :: r, f + 1, h, hl, hb, h0 => by
    rw [lead] at h
    split at h
    · have hb128 : 128 ≤ b.toNat := by assumption
      have hbl := b.toNat_lt
      have ih := vb_rd n r f (by omega) (by simpa using hl) (by simpa using hb) (fun hn => by simpa using h0 (by omega))
      have hne : pv r (n + 1) ≠ 0 := by
        by_cases hn : n = 0
        · subst hn
          cases r with
          | nil => simp at hl
          | cons c r =>
            have hc : c.toNat < 128 := by simpa using hb
            have := h0 (by omega)
            simp [pv] at this ⊢
            omega
        · intro hz
          rw [hz, vb_lo (by omega)] at ih
          have := congrArg List.length ih
          simp at this
          have hl' : n < r.length := by simpa using hl
          omega
      have e : pv (b :: r) (n + 1 + 1) = b.toNat % 128 + 128 * pv r (n + 1) := by rw [pv]
      rw [e, vb_hi (by omega)]
      have e1 : (b.toNat % 128 + 128 * pv r (n + 1)) / 128 = pv r (n + 1) := by omega
      have e2 : 128 + (b.toNat % 128 + 128 * pv r (n + 1)) % 128 = b.toNat := by omega
      rw [e1, e2, ih]
      simp
    · omega

theorem getD_lt (l : List UInt8) (n : Nat) : (l.getD n 0).toNat < 256 := (l.getD n 0).toNat_lt

/-- A number that is read has these bytes. -/
theorem rd_ok {l : List UInt8} {x n : Nat} (h : rd l = (x, n, 0)) : n ≤ l.length ∧ vb x = l.take n ∧ 0 < n ∧ x < 18446744073709551616 := by
  unfold rd at h
  simp only at h
  split at h
  · simp at h
  · rename_i h1
    split at h
    · simp at h
    · rename_i h2
      simp only [Prod.mk.injEq] at h
      obtain ⟨rfl, rfl, _⟩ := h
      have hf := lead_le_fuel l 9
      have hl := lead_le_len l 9
      have hlt : (l.getD (lead l 9) 0).toNat < 128 := by
        apply Decidable.byContradiction
        intro hc
        by_cases h9 : lead l 9 = 9
        · refine h2 (.inl ⟨h9, ?_⟩)
          rw [h9] at hc
          omega
        · have := lead_step l 9 (lead l 9) (Nat.le_refl _) (by omega) (by omega) (by omega)
          omega
      refine ⟨by omega, vb_rd _ l 9 rfl (by omega) hlt (fun h0 hz => h2 (.inr ⟨h0, hz⟩)), by omega, ?_⟩
      have hp := pv_succ l (lead l 9) (by omega)
      have hq := pv_lt l (lead l 9)
      rw [hp]
      by_cases h9 : lead l 9 = 9
      · have : ¬ 1 < (l.getD 9 0).toNat := fun hc => h2 (.inl ⟨h9, hc⟩)
        rw [h9] at hq ⊢
        have : (l.getD 9 0).toNat % 128 ≤ 1 := by omega
        have := Nat.mul_le_mul_right (128 ^ 9) this
        omega
      · have h8 : lead l 9 ≤ 8 := by omega
        have e1 := Nat.pow_le_pow_right (show 0 < 128 by omega) h8
        have : (l.getD (lead l 9) 0).toNat % 128 ≤ 127 := by omega
        have := Nat.mul_le_mul_right (128 ^ lead l 9) this
        have e8 : 128 ^ 8 = 72057594037927936 := by decide
        omega
theorem rd_cases (l : List UInt8) : (rd l = (0, 0, 2)) ∨ (rd l = (0, 0, 3)) ∨ ∃ x n, rd l = (x, n, 0) := by
  unfold rd
  simp only
  split
  · exact .inl rfl
  · split
    · exact .inr (.inl rfl)
    · exact .inr (.inr ⟨_, _, rfl⟩)

/-! ### the same over a text -/
theorem len_l (s : ByteArray) : s.data.toList.length = s.size := by rw [Array.length_toList]; rfl
theorem gd (s : ByteArray) (k : Nat) (h : k < s.size) : s.data.toList.getD k 0 = s[k] := by
  have h' : k < s.data.size := h
  rw [List.getD_eq_getElem?_getD, Array.getElem?_toList, Array.getElem?_eq_getElem h']
  rfl

theorem or_step (l : List UInt8) (k c : Nat) (hl : k < l.length) (hc : c = (l.getD k 0).toNat) (h : k < 9 ∨ k = 9 ∧ c ≤ 1) :
    bits .or .u64 (pv l k : Nat) (IntKind.u64.wrap (IntKind.u64.wrap (bits .andNot .u8 (c : Int) 128) * 2 ^ (7 * k))) = ((pv l (k + 1) : Nat) : Int) := by
  have hcl : c < 256 := by rw [hc]; exact getD_lt l k
  have e1 : bits .andNot .u8 (c : Int) 128 = ((c % 128 : Nat) : Int) := by
    have := u8_andNot_nat c 128 hcl (by omega)
    rw [show 255 - 128 = 127 from rfl, nat_mask7] at this
    exact this
  have hp := pv_lt l k
  have hs := pv_succ l k hl
  rw [← hc] at hs
  have e128 : (128 : Nat) ^ k = 2 ^ (7 * k) := by rw [Nat.pow_mul]
  have hb : pv l (k + 1) < 18446744073709551616 := by
    have h1 := pv_lt l (k + 1)
    rcases h with h | ⟨rfl, h⟩
    · have := Nat.pow_le_pow_right (show 0 < 128 by omega) (show k + 1 ≤ 9 by omega)
      omega
    · have : c % 128 ≤ 1 := by omega
      have := Nat.mul_le_mul_right (128 ^ 9) this
      omega
  have e2 : IntKind.u64.wrap ((c % 128 : Nat) : Int) = ((c % 128 : Nat) : Int) := by rw [IntKind.wrap_u64]; omega
  have e3 : ((c % 128 : Nat) : Int) * 2 ^ (7 * k) = ((c % 128 * 128 ^ k : Nat) : Int) := by rw [e128]; simp
  have e4 : IntKind.u64.wrap ((c % 128 * 128 ^ k : Nat) : Int) = ((c % 128 * 128 ^ k : Nat) : Int) := by rw [IntKind.wrap_u64]; omega
  rw [e1, e2, e3, e4, u64_or_nat _ _ (by omega) (by omega), Nat.or_comm, nat_join (7 * k) _ _ ?_ ?_, hs, Nat.add_comm]
  · rw [← e128]; exact Nat.mul_mod_left _ _
  · rw [← e128]; exact hp

theorem rd_tenth (s : ByteArray) (h : 9 < s.size) (hl : 9 ≤ lead s.data.toList 9) (h1 : 1 < (s[9].toNat : Int)) : rd s.data.toList = (0, 0, 3) := by
  have hf := lead_le_fuel s.data.toList 9
  have e : lead s.data.toList 9 = 9 := by omega
  unfold rd
  simp only [e]
  rw [len_l, if_neg (by omega), if_pos]
  left
  rw [gd s 9 h]
  exact ⟨trivial, by omega⟩
theorem rd_zero (s : ByteArray) (k : Nat) (h : k < s.size) (hl : k ≤ lead s.data.toList 9) (h1 : s[k].toNat = 0) (h0 : 0 < k) : rd s.data.toList = (0, 0, 3) := by
  have e := lead_stop s.data.toList 9 k hl (by rw [len_l]; exact h) (by rw [gd s k h]; omega)
  unfold rd
  simp only [e]
  rw [len_l, if_neg (by omega), if_pos]
  right
  rw [gd s k h]
  exact ⟨h0, h1⟩
theorem rd_stop (s : ByteArray) (k : Nat) (h : k < s.size) (hl : k ≤ lead s.data.toList 9) (h1 : s[k].toNat < 128) (h9 : k = 9 → s[k].toNat ≤ 1) (h0 : k = 0 ∨ s[k].toNat ≠ 0) : rd s.data.toList = (pv s.data.toList (k + 1), k + 1, 0) := by
  have e := lead_stop s.data.toList 9 k hl (by rw [len_l]; exact h) (by rw [gd s k h]; omega)
  unfold rd
  simp only [e]
  rw [len_l, if_neg (by omega), if_neg]
  rintro (⟨h2, h3⟩ | ⟨h2, h3⟩)
  · subst h2
    rw [gd s 9 h] at h3
    have := h9 rfl
    omega
  · rw [gd s k h] at h3
    omega
theorem rd_short (s : ByteArray) (k : Nat) (h : ¬ k < s.size) (hl : k ≤ lead s.data.toList 9) : rd s.data.toList = (0, 0, 2) := by
  have := lead_le_len s.data.toList 9
  rw [len_l] at this
  unfold rd
  simp only
  rw [len_l, if_pos (by omega)]
theorem lead_more (s : ByteArray) (k : Nat) (h : k < s.size) (h9 : k < 9) (hl : k ≤ lead s.data.toList 9) (hb : 128 ≤ (s[k].toNat : Int)) : k + 1 ≤ lead s.data.toList 9 :=
  lead_step s.data.toList 9 k hl h9 (by rw [len_l]; exact h) (by rw [gd s k h]; omega)
theorem lead_end (s : ByteArray) (k : Nat) (h : k < s.size) (hl : k ≤ lead s.data.toList 9) (hb : (s[k].toNat : Int) < 128) : lead s.data.toList 9 = k :=
  lead_stop s.data.toList 9 k hl (by rw [len_l]; exact h) (by rw [gd s k h]; omega)

/-! ### numbers from 0 on, any numbers, texts -/
def rdU (l : List UInt8) : Nat × Nat × Nat := if (rd l).2.2 = 0 ∧ 9223372036854775807 < (rd l).1 then (0, 0, 3) else rd l
theorem rdU_cases (l : List UInt8) : (rdU l = (0, 0, 2) ∧ rd l = (0, 0, 2)) ∨ (rdU l = (0, 0, 3) ∧ rd l = (0, 0, 3)) ∨ (∃ x n, rd l = (x, n, 0) ∧ 9223372036854775807 < x ∧ rdU l = (0, 0, 3)) ∨ ∃ x n, rd l = (x, n, 0) ∧ x ≤ 9223372036854775807 ∧ rdU l = (x, n, 0) := by
  unfold rdU
  rcases rd_cases l with h | h | ⟨x, n, h⟩
  · rw [h]; simp
  · rw [h]; simp
  · by_cases hx : 9223372036854775807 < x
    · right; right; left
      exact ⟨x, n, h, hx, by rw [h]; simp [hx]⟩
    · right; right; right
      exact ⟨x, n, h, by omega, by rw [h]; simp; omega⟩
/-- The number that was folded into x. -/
def uz (x : Nat) : Int := if x % 2 = 1 then -((x / 2 : Nat) : Int) - 1 else ((x / 2 : Nat) : Int)
theorem uz_odd {x : Nat} (h : x % 2 = 1) : uz x = -((x / 2 : Nat) : Int) - 1 := by rw [uz, if_pos h]
theorem uz_even {x : Nat} (h : x % 2 = 0) : uz x = ((x / 2 : Nat) : Int) := by rw [uz, if_neg (by omega)]
theorem uz_zero : uz 0 = 0 := by rfl
/-- A number, folded. -/
def zz (n : Int) : Nat := if n < 0 then (-2 * n - 1).toNat else (2 * n).toNat
theorem uz_zz (n : Int) : uz (zz n) = n := by
  unfold zz
  split
  · rw [uz_odd (by omega)]; omega
  · rw [uz_even (by omega)]; omega
theorem zz_uz (x : Nat) : zz (uz x) = x := by
  by_cases h : x % 2 = 1
  · rw [uz_odd h, zz, if_pos (by omega)]; omega
  · rw [uz_even (by omega), zz, if_neg (by omega)]; omega
theorem zz_lt {n : Int} (h : -9223372036854775808 ≤ n) (h2 : n ≤ 9223372036854775807) : zz n < 18446744073709551616 := by
  unfold zz
  split <;> omega
theorem uz_in {x : Nat} (h : x < 18446744073709551616) : -9223372036854775808 ≤ uz x ∧ uz x ≤ 9223372036854775807 := by
  unfold uz
  split <;> omega

/-- (where the text ends, the error). -/
def rdT (s : ByteArray) : ByteArray × Nat × Nat :=
  if (rdU s.data.toList).2.2 ≠ 0 then (ByteArray.empty, 0, (rdU s.data.toList).2.2)
  else if s.size < (rdU s.data.toList).2.1 + (rdU s.data.toList).1 then (ByteArray.empty, 0, 2)
  else (s.extract (rdU s.data.toList).2.1 ((rdU s.data.toList).2.1 + (rdU s.data.toList).1), (rdU s.data.toList).2.1 + (rdU s.data.toList).1, 0)

theorem extract_all (s : ByteArray) : s.extract 0 s.size = s := by
  apply ByteArray.ext
  rw [ByteArray.data_extract]
  exact Array.extract_size

/-! ### from the top down -/
theorem pv_drop : ∀ (l : List UInt8) (k n : Nat), k < l.length → pv (l.drop k) (n + 1) = (l.getD k 0).toNat % 128 + 128 * pv (l.drop (k + 1)) n
  | [], k, n, h => by simp at h
  | b :: r, 0, n, _ => by simp [pv]
  | b :: r, k + 1, n, h => by
    have := pv_drop r k n (by simpa using h)
    simpa using this
theorem pv_drop_le : ∀ (l : List UInt8) (k n : Nat), k + n ≤ l.length → pv (l.drop k) n ≤ pv l (k + n)
  | l, 0, n, _ => by simp
  | [], k + 1, n, h => by
    have : n = 0 := by simp at h
    subst this
    simp [pv_zero]
  | b :: r, k + 1, n, h => by
    have := pv_drop_le r k n (by simp at h; omega)
    rw [List.drop_succ_cons, show k + 1 + n = (k + n) + 1 by omega, pv]
    omega
theorem horner (s : ByteArray) (k n : Nat) (h : k ≤ n) (hn : n < s.size) :
    128 * pv (s.data.toList.drop (k + 1)) (n - k) + s[k].toNat % 128 = pv (s.data.toList.drop k) (n + 1 - k) ∧ pv (s.data.toList.drop k) (n + 1 - k) ≤ pv s.data.toList (n + 1) := by
  have hk : k < s.data.toList.length := by rw [len_l]; omega
  have := pv_drop s.data.toList k (n - k) hk
  rw [gd s k (by omega), show n - k + 1 = n + 1 - k by omega] at this
  have h2 := pv_drop_le s.data.toList k (n + 1 - k) (by rw [len_l]; omega)
  rw [show k + (n + 1 - k) = n + 1 by omega] at h2
  exact ⟨by omega, h2⟩

end Go.Proofs.Ytpfgijmhoenpkaa.Wm
