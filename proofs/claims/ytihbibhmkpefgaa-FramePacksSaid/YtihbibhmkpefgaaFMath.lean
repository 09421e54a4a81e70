/- Plain mathematics of frames (no Go text): the checksum, a frame, reading and scanning frames, a turned bit. -/
import Derived.Test.YtihbibhmkpefgaaRead2
import Derived.Test.YtihbibhmkpefgaaPut
namespace Go.Proofs.Ytihbibhmkpefgaa.Fm
open Wm Wr
set_option linter.unusedVariables false

/-! ### the checksum -/
/-- One bit b (0 or 1) taken into c. -/
def cstep (c b : Nat) : Nat := if c % 2 = b then c / 2 else (c / 2) ^^^ 3988292384
/-- k bits of x, the lowest first. -/
def cbits : Nat → Nat → Nat → Nat
  | 0, c, _ => c
  | k + 1, c, x => cbits k (cstep c (x % 2)) (x / 2)
def csum (c : Nat) (l : List UInt8) : Nat := l.foldl (fun c b => cbits 8 c b.toNat) c
def fsum (l : List UInt8) : Nat := 4294967295 - csum 4294967295 l

theorem xor_lt {a b : Nat} (ha : a < 4294967296) (hb : b < 4294967296) : a ^^^ b < 4294967296 := Nat.xor_lt_two_pow (n := 32) ha hb
theorem cstep_lt {c : Nat} (b : Nat) (h : c < 4294967296) : cstep c b < 4294967296 := by
  unfold cstep
  split
  · omega
  · exact xor_lt (by omega) (by decide)
theorem cbits_lt : ∀ (k : Nat) {c : Nat} (x : Nat), c < 4294967296 → cbits k c x < 4294967296
  | 0, _, _, h => h
  | k + 1, _, x, h => cbits_lt k (x / 2) (cstep_lt (x % 2) h)
theorem csum_lt : ∀ (l : List UInt8) {c : Nat}, c < 4294967296 → csum c l < 4294967296
  | [], _, h => h
  | b :: l, _, h => csum_lt l (cbits_lt 8 b.toNat h)
theorem fsum_lt (l : List UInt8) : fsum l < 4294967296 := by unfold fsum; omega
theorem csum_snoc (c : Nat) (l : List UInt8) (b : UInt8) : csum c (l ++ [b]) = cbits 8 (csum c l) b.toNat := by simp [csum]
theorem csum_append (c : Nat) (l m : List UInt8) : csum c (l ++ m) = csum (csum c l) m := by simp [csum]
/-- k + 1 bits are k bits and one more. -/
theorem cbits_snoc : ∀ (k c x : Nat), cbits (k + 1) c x = cstep (cbits k c x) (x / 2 ^ k % 2)
  | 0, c, x => by simp [cbits]
  | k + 1, c, x => by
    have h := cbits_snoc k (cstep c (x % 2)) (x / 2)
    rw [cbits, h, cbits, Nat.div_div_eq_div_mul, Nat.pow_succ, Nat.mul_comm 2]

/-- After i bytes and k bits of the next one. -/
theorem csum_take (s : ByteArray) (i : Nat) (h : i < s.size) : csum 4294967295 (s.data.toList.take (i + 1)) = cbits 8 (csum 4294967295 (s.data.toList.take i)) s[i].toNat := by
  have h' : i < s.data.toList.length := by rw [len_l]; exact h
  rw [List.take_succ_eq_append_getElem h', csum_snoc]
  congr 2
theorem csum_all (s : ByteArray) : 4294967295 - csum 4294967295 (s.data.toList.take s.size) = fsum s.data.toList := by
  rw [← len_l, List.take_length]
  rfl

/-- The highest bit tells whether the polynomial was laid over. -/
theorem top_of (a : Nat) (h : a < 2147483648) : 2147483648 ≤ a ^^^ 3988292384 := by
  have h1 : (a ^^^ 3988292384).testBit 31 = true := by
    rw [Nat.testBit_xor, Nat.testBit_lt_two_pow (i := 31) h]
    decide
  exact Nat.ge_two_pow_of_testBit h1
theorem cstep_inj {c d b : Nat} (hc : c < 4294967296) (hd : d < 4294967296) (hb : b < 2) (h : cstep c b = cstep d b) : c = d := by
  unfold cstep at h
  have hc2 : c / 2 < 2147483648 := by omega
  have hd2 : d / 2 < 2147483648 := by omega
  have tc := top_of (c / 2) hc2
  have td := top_of (d / 2) hd2
  by_cases h1 : c % 2 = b
  · by_cases h2 : d % 2 = b
    · rw [if_pos h1, if_pos h2] at h; omega
    · rw [if_pos h1, if_neg h2] at h; omega
  · by_cases h2 : d % 2 = b
    · rw [if_neg h1, if_pos h2] at h; omega
    · rw [if_neg h1, if_neg h2] at h
      have e := congrArg (· ^^^ 3988292384) h
      simp only [Nat.xor_assoc, Nat.xor_self, Nat.xor_zero] at e
      omega
theorem cstep_ne {c b d : Nat} (hc : c < 4294967296) (hb : b < 2) (hd : d < 2) (hne : b ≠ d) : cstep c b ≠ cstep c d := by
  unfold cstep
  have t := top_of (c / 2) (by omega)
  by_cases h1 : c % 2 = b
  · rw [if_pos h1, if_neg (by omega)]; omega
  · rw [if_neg h1, if_pos (by omega)]; omega
theorem cbits_inj : ∀ (k : Nat) {c d : Nat} (x : Nat), c < 4294967296 → d < 4294967296 → cbits k c x = cbits k d x → c = d
  | 0, _, _, _, _, _, h => h
  | k + 1, _, _, x, hc, hd, h => cstep_inj hc hd (Nat.mod_lt _ (by omega)) (cbits_inj k (x / 2) (cstep_lt _ hc) (cstep_lt _ hd) h)
theorem csum_inj : ∀ (l : List UInt8) {c d : Nat}, c < 4294967296 → d < 4294967296 → csum c l = csum d l → c = d
  | [], _, _, _, _, h => h
  | b :: l, _, _, hc, hd, h => cbits_inj 8 b.toNat hc hd (csum_inj l (cbits_lt 8 _ hc) (cbits_lt 8 _ hd) h)
/-- Bytes that differ in one bit alone make different states. -/
theorem cbits_ne : ∀ (k i : Nat) {c : Nat} (x y : Nat), c < 4294967296 → i < k → (∀ j, j < k → j ≠ i → x / 2 ^ j % 2 = y / 2 ^ j % 2) → x / 2 ^ i % 2 ≠ y / 2 ^ i % 2 → cbits k c x ≠ cbits k c y
  | 0, _, _, _, _, _, h, _, _ => absurd h (by omega)
  | k + 1, 0, c, x, y, hc, _, hs, hd => by
    have hd' : x % 2 ≠ y % 2 := by simpa using hd
    have hr : ∀ (k : Nat) (x y d : Nat), (∀ j, j < k → x / 2 ^ j % 2 = y / 2 ^ j % 2) → cbits k d x = cbits k d y := by
      intro k
      induction k with
      | zero => intro x y d _; rfl
      | succ k ih =>
        intro x y d h
        have h0 : x % 2 = y % 2 := by simpa using h 0 (by omega)
        rw [cbits, cbits, h0]
        refine ih (x / 2) (y / 2) _ (fun j hj => ?_)
        have := h (j + 1) (by omega)
        rwa [Nat.pow_succ, Nat.mul_comm, ← Nat.div_div_eq_div_mul, ← Nat.div_div_eq_div_mul] at this
    rw [cbits, cbits]
    have e := hr k (y / 2) (x / 2) (cstep c (y % 2)) (fun j hj => by
      have := hs (j + 1) (by omega) (by omega)
      rw [Nat.pow_succ, Nat.mul_comm, ← Nat.div_div_eq_div_mul, ← Nat.div_div_eq_div_mul] at this
      exact this.symm)
    rw [e]
    intro hh
    exact cstep_ne hc (Nat.mod_lt _ (by omega)) (Nat.mod_lt _ (by omega)) hd' (cbits_inj k (x / 2) (cstep_lt _ hc) (cstep_lt _ hc) hh)
  | k + 1, i + 1, c, x, y, hc, hi, hs, hd => by
    have h0 : x % 2 = y % 2 := by simpa using hs 0 (by omega) (by omega)
    rw [cbits, cbits, h0]
    refine cbits_ne k i (x / 2) (y / 2) (cstep_lt _ hc) (by omega) (fun j hj hne => ?_) ?_
    · have := hs (j + 1) (by omega) (by omega)
      rwa [Nat.pow_succ, Nat.mul_comm, ← Nat.div_div_eq_div_mul, ← Nat.div_div_eq_div_mul] at this
    · rwa [Nat.pow_succ, Nat.mul_comm, ← Nat.div_div_eq_div_mul, ← Nat.div_div_eq_div_mul] at hd

/-! ### a byte with one bit turned -/
theorem flip_all : ∀ c, c < 256 → ∀ i, i < 8 → (if c / 2 ^ i % 2 = 1 then c - 2 ^ i else c + 2 ^ i) = c ^^^ 2 ^ i ∧ c ^^^ 2 ^ i < 256 ∧ (∀ j, j < 8 → j ≠ i → (c ^^^ 2 ^ i) / 2 ^ j % 2 = c / 2 ^ j % 2) ∧ (c ^^^ 2 ^ i) / 2 ^ i % 2 ≠ c / 2 ^ i % 2 ∧ (c ^^^ 2 ^ i) ^^^ 2 ^ i = c := by
  decide +kernel

/-! ### frames -/
/-- Four bytes, the lowest first. -/
def le4 (c : Nat) : List UInt8 := [UInt8.ofNat (c % 256), UInt8.ofNat (c / 256 % 256), UInt8.ofNat (c / 256 / 256 % 256), UInt8.ofNat (c / 256 / 256 / 256 % 256)]
def sum4 (l : List UInt8) : ByteArray := ⟨(le4 (fsum l)).toArray⟩
/-- A frame. -/
def pk (s : ByteArray) : ByteArray := ts s ++ sum4 s.data.toList
theorem sum4_size (l : List UInt8) : (sum4 l).size = 4 := rfl
theorem pk_list (s : ByteArray) : (pk s).data.toList = vb s.size ++ (s.data.toList ++ le4 (fsum s.data.toList)) := by
  rw [pk, ByteArray.data_append, Array.toList_append, ts, ByteArray.data_append, Array.toList_append, vs_list, List.append_assoc]
  rfl
theorem pk_size (s : ByteArray) : (pk s).size = (vb s.size).length + s.size + 4 := by
  rw [← len_l, pk_list, List.length_append, List.length_append, len_l]
  have : (le4 (fsum s.data.toList)).length = 4 := rfl
  omega

theorem le4_inj {c d : Nat} (hc : c < 4294967296) (hd : d < 4294967296) (h : le4 c = le4 d) : c = d := by
  simp only [le4, List.cons.injEq, and_true] at h
  have e : ∀ a b, a < 256 → b < 256 → UInt8.ofNat a = UInt8.ofNat b → a = b := fun a b ha hb h => by
    have := congrArg UInt8.toNat h
    simp at this
    omega
  obtain ⟨h1, h2, h3, h4⟩ := h
  have h1 := e _ _ (Nat.mod_lt _ (by omega)) (Nat.mod_lt _ (by omega)) h1
  have h2 := e _ _ (Nat.mod_lt _ (by omega)) (Nat.mod_lt _ (by omega)) h2
  have h3 := e _ _ (Nat.mod_lt _ (by omega)) (Nat.mod_lt _ (by omega)) h3
  have h4 := e _ _ (Nat.mod_lt _ (by omega)) (Nat.mod_lt _ (by omega)) h4
  omega

/-- (the text, how many bytes its frame has, the error) of the frame at the front of s. -/
def fr (s : ByteArray) : ByteArray × Nat × Nat :=
  if (rdT s).2.2 ≠ 0 then (⟨#[]⟩, 0, (rdT s).2.2)
  else if s.size - (rdT s).2.1 < 4 then (⟨#[]⟩, 0, 2)
  else if s.extract 0 ((rdT s).2.1 + 4) ≠ pk (rdT s).1 then (⟨#[]⟩, 0, 6)
  else ((rdT s).1, (rdT s).2.1 + 4, 0)

theorem fr_le (s : ByteArray) : (fr s).2.1 ≤ s.size := by
  unfold fr
  split
  · exact Nat.zero_le _
  · split
    · exact Nat.zero_le _
    · split
      · exact Nat.zero_le _
      · rename_i h1 h2 h3
        show (rdT s).2.1 + 4 ≤ s.size
        omega
theorem fr_ok {s t : ByteArray} {n : Nat} (h : fr s = (t, n, 0)) : rdT s = (t, n - 4, 0) ∧ 4 < n ∧ n ≤ s.size ∧ s.extract 0 n = pk t := by
  have hle := fr_le s
  rw [h] at hle
  unfold fr at h
  rcases rdT_cases s with ⟨e, h0, _, _, h3⟩ | ⟨x, m, _, _, _, _, h3⟩ | ⟨x, m, hu, hn, hx, h3⟩
  · rw [h3, if_pos h0] at h
    simp only [Prod.mk.injEq] at h
    exact absurd h.2.2 h0
  · rw [h3, if_pos (by simp)] at h
    simp at h
  · have hm := (rdU_ok hu).2.2.1
    rw [h3, if_neg (fun h => h rfl)] at h
    simp only at h
    split at h
    · simp at h
    · split at h
      · simp at h
      · rename_i h5 h6
        simp only [Prod.mk.injEq] at h
        obtain ⟨rfl, rfl, _⟩ := h
        refine ⟨by rw [h3, Nat.add_sub_cancel], by omega, hle, ?_⟩
        exact Decidable.byContradiction h6

theorem trip {α β γ : Type} (p : α × β × γ) : ∃ a b c, p = (a, b, c) := ⟨p.1, p.2.1, p.2.2, rfl⟩

/-- The frames from the place a on, at most f of them: (the texts, how far they go, the error). -/
def scf (s : ByteArray) : Nat → Nat → List ByteArray × Nat × Nat
  | 0, a => ([], a, 0)
  | f + 1, a => if a < s.size then
      match fr (s.extract a s.size) with
      | (t, n, e) => if e = 0 then (t :: (scf s f (a + n)).1, (scf s f (a + n)).2.1, (scf s f (a + n)).2.2) else ([], a, e)
    else ([], a, 0)
theorem scf_end {s : ByteArray} (f : Nat) {a : Nat} (h : ¬ a < s.size) : scf s f a = ([], a, 0) := by
  cases f with
  | zero => rfl
  | succ f => rw [scf, if_neg h]
theorem scf_bad {s t : ByteArray} (f : Nat) {a n e : Nat} (h : a < s.size) (h2 : fr (s.extract a s.size) = (t, n, e)) (he : e ≠ 0) : scf s (f + 1) a = ([], a, e) := by
  rw [scf, if_pos h, h2]
  exact if_neg he
theorem scf_one {s t : ByteArray} (f : Nat) {a n : Nat} (h : a < s.size) (h2 : fr (s.extract a s.size) = (t, n, 0)) : scf s (f + 1) a = (t :: (scf s f (a + n)).1, (scf s f (a + n)).2.1, (scf s f (a + n)).2.2) := by
  rw [scf, if_pos h, h2]
  exact if_pos rfl
theorem scf_fuel (s : ByteArray) : ∀ (f g a : Nat), s.size - a < f → s.size - a < g → scf s f a = scf s g a
  | 0, _, _, h, _ => absurd h (by omega)
  | _ + 1, 0, _, _, h => absurd h (by omega)
  | f + 1, g + 1, a, hf, hg => by
    by_cases h : a < s.size
    · obtain ⟨t, n, e, h2⟩ := trip (fr (s.extract a s.size))
      by_cases he : e = 0
      · subst he
        have hn := (fr_ok h2).2.1
        rw [scf_one f h h2, scf_one g h h2, scf_fuel s f g (a + n) (by omega) (by omega)]
      · rw [scf_bad f h h2 he, scf_bad g h h2 he]
    · rw [scf_end _ h, scf_end _ h]
/-- The frames from the place a on. -/
def sc (s : ByteArray) (a : Nat) : List ByteArray × Nat × Nat := scf s (s.size + 1) a
theorem sc_end {s : ByteArray} {a : Nat} (h : ¬ a < s.size) : sc s a = ([], a, 0) := scf_end _ h
theorem sc_bad {s t : ByteArray} {a n e : Nat} (h : a < s.size) (h2 : fr (s.extract a s.size) = (t, n, e)) (he : e ≠ 0) : sc s a = ([], a, e) := scf_bad _ h h2 he
theorem sc_one {s t : ByteArray} {a n : Nat} (h : a < s.size) (h2 : fr (s.extract a s.size) = (t, n, 0)) : sc s a = (t :: (sc s (a + n)).1, (sc s (a + n)).2.1, (sc s (a + n)).2.2) := by
  have hn := (fr_ok h2).2.1
  rw [sc, scf_one _ h h2, sc, scf_fuel s s.size (s.size + 1) (a + n) (by omega) (by omega)]

theorem scf_count (s : ByteArray) : ∀ (f a : Nat), (scf s f a).1.length ≤ s.size - a
  | 0, a => Nat.zero_le _
  | f + 1, a => by
    by_cases h : a < s.size
    · obtain ⟨t, n, e, h2⟩ := trip (fr (s.extract a s.size))
      by_cases he : e = 0
      · subst he
        have hn := (fr_ok h2).2.1
        have := scf_count s f (a + n)
        rw [scf_one f h h2, List.length_cons]
        omega
      · rw [scf_bad f h h2 he]
        exact Nat.zero_le _
    · rw [scf_end _ h]
      exact Nat.zero_le _
theorem sc_count (s : ByteArray) : (sc s 0).1.length ≤ s.size := scf_count s (s.size + 1) 0

end Go.Proofs.Ytihbibhmkpefgaa.Fm
