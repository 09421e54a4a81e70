/- Package delta's reaches and longest: contracts. -/
import Derived.Test.YtpfgijmhoenpkaaHMake
namespace Go.Proofs.Ytpfgijmhoenpkaa.Dl
open Go.RowKit Wm Wr Dm
set_option linter.unusedVariables false

/-- Does the byte c stand n bytes behind a place? -/
def rch (l : List UInt8) (a n c : Nat) : Bool := decide (a + n < l.length) && decide ((l.getD (a + n) 0).toNat = c)
set_option maxRecDepth 100000 in
set_option maxHeartbeats 1000000 in
theorem reaches_any (b : Nat) (base : ByteArray) (a n c : Nat) (w : World) (h : w.cell? ⟨b, 0, none⟩ = some (.string base)) (hb : base.size ≤ 1000000000000) (ha : a ≤ 1000000000000) (hn : n ≤ 1000000000000) :
    Calls Try.prog 26 #[.pointer (some ⟨b, 0, none⟩), .int .i64 (a : Int), .int .i64 (n : Int), .int .u8 (c : Int)] w fun e w' => e = .returned (.bool (rch base.data.toList a n c)) ∧ w = w' := by
  unfold rch
  rw [Wm.len_l]
  obtain ⟨k, hk⟩ : ∃ k, k = a + n := ⟨_, rfl⟩
  have hkz : (a : Int) + (n : Int) = (k : Int) := by omega
  rw [← hk]
  clear hk
  by_cases h1 : k < base.size
  · have hg := gd base k h1
    have h1z : (k : Int) < (base.size : Int) := by omega
    rw [decide_eq_true h1, Bool.true_and, hg]
    by_cases h2 : base[k].toNat = c
    · have h2z : ((base[k].toNat : Int) == (c : Int)) = true := by simp [h2]
      rw [decide_eq_true h2]
      clear hg h2
      go_enter Try.func26, Try.ntmps26
      go_wp2
      go_ret
      exact ⟨rfl, rfl⟩
    · have h2z : ((base[k].toNat : Int) == (c : Int)) = false := by simp; omega
      rw [decide_eq_false h2]
      clear hg h2
      go_enter Try.func26, Try.ntmps26
      go_wp2
      go_ret
      exact ⟨rfl, rfl⟩
  · have h1z : ¬ ((k : Int) < (base.size : Int)) := by omega
    rw [decide_eq_false h1, Bool.false_and]
    go_enter Try.func26, Try.ntmps26
    go_wp2
    go_ret
    exact ⟨rfl, rfl⟩

theorem rch_not {base s : List UInt8} {a n : Nat} (hn : n < s.length) (h : rch base a n (s.getD n 0).toNat = false) : cp (base.drop a) s ≤ n := by
  refine cp_stop _ _ n hn ?_
  unfold rch at h
  by_cases h1 : a + n < base.length
  · right
    rw [decide_eq_true h1, Bool.true_and] at h
    intro e
    have h := of_decide_eq_false h
    apply h
    rw [← e]
    simp [List.getD_eq_getElem?_getD]
  · left
    rw [List.length_drop]
    omega
theorem lgL_none (base s : List UInt8) (t i n : Nat) : lgL base s t 0 i n = (i, n) := by cases t <;> rfl
theorem lgL_more {base s : List UInt8} {t a i n : Nat} (h : n < s.length) : lgL base s (t + 1) (a + 1) i n = if n < cp (base.drop a) s then lgL base s t (nx base a) a (cp (base.drop a) s) else lgL base s t (nx base a) i n := by
  rw [lgL, if_pos h]
end Go.Proofs.Ytpfgijmhoenpkaa.Dl
