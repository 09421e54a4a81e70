/- What the statement's own 'reads' answers: at every call of a reader the document's answer, and what is left. -/
import Derived.Test.YtjoafblfloceeaaAwake
namespace Go.Proofs.Ytjoafblfloceeaa.Wr
open Go.RowKit Wm
set_option linter.unusedVariables false

theorem rdU_le (s : ByteArray) : (rdU s.data.toList).2.1 ≤ s.size := by
  rcases rdU_cases s.data.toList with ⟨h, _⟩ | ⟨h, _⟩ | ⟨_, _, _, _, h⟩ | ⟨x, n, _, _, h⟩
  · rw [h]; exact Nat.zero_le _
  · rw [h]; exact Nat.zero_le _
  · rw [h]; exact Nat.zero_le _
  · have := (rdU_ok h).1
    rw [len_l] at this
    rw [h]
    exact this
theorem rd_le (s : ByteArray) : (rd s.data.toList).2.1 ≤ s.size := by
  rcases rd_cases s.data.toList with h | h | ⟨x, n, h⟩
  · rw [h]; exact Nat.zero_le _
  · rw [h]; exact Nat.zero_le _
  · have := (rd_ok h).1
    rw [len_l] at this
    rw [h]
    exact this
theorem rdT_le (s : ByteArray) : (rdT s).2.1 ≤ s.size := by
  rcases rdT_cases s with ⟨e, _, _, _, h⟩ | ⟨x, n, _, _, _, _, h⟩ | ⟨x, n, _, h1, h2, h⟩
  · rw [h]; exact Nat.zero_le _
  · rw [h]; exact Nat.zero_le _
  · rw [h]; show n + x ≤ s.size; omega

/-- The answer was the document's; the reader has t left, as the document says. -/
def ReadsTo (b : Nat) (s : ByteArray) (w : World) (e : Ending) (w' : World) : Prop := ∃ t : ByteArray, e = .returned (.tuple #[.string t, .bool true]) ∧ t.size ≤ s.size ∧ Rat w' b t ∧ w.grownBy w' (some b)

theorem cut_le (s : ByteArray) (n : Nat) : (s.extract n s.size).size ≤ s.size := by simp

set_option maxRecDepth 100000 in
set_option maxHeartbeats 400000 in
theorem reads_any (b : Nat) (s : ByteArray) (k : Int) (w : World) (h : Rat w b s) (hs : s.size ≤ maxLen) :
    Calls Try.prog 18 #[.pointer (some ⟨b, 0, none⟩), .string s, .int .i64 k] w (ReadsTo b s w) := by
  by_cases k1 : k = 1
  · subst k1
    have c1 := uint_any b s w h hs
    have c2 := fun W => readUint_any s W hs
    have hn := rdU_le s
    obtain ⟨x, n, e, h⟩ : ∃ x n e, rdU s.data.toList = (x, n, e) := ⟨_, _, _, rfl⟩
    rw [h] at c1 c2 hn
    simp only at c1 c2 hn
    unfold maxLen at hs
    have hn' : (n : Int) ≤ s.size := by omega
    have hcut := cut_le s n
    clear h
    go_enter Try.func18, Try.ntmps18
    go_wp2_with (first | (go_at_call 20; refine c1.mono ?_; rintro e w1 ⟨rfl, hR, hg⟩) | (go_at_call 28; refine (c2 _).mono ?_; rintro e w2 ⟨rfl, rfl⟩))
    go_ret2
    exact ⟨_, rfl, hcut, hR, hg⟩
  by_cases k2 : k = 2
  · subst k2
    have c1 := int_any b s w h hs
    have c2 := fun W => readInt_any s W hs
    have hn := rd_le s
    obtain ⟨x, n, e, h⟩ : ∃ x n e, rd s.data.toList = (x, n, e) := ⟨_, _, _, rfl⟩
    rw [h] at c1 c2 hn
    simp only at c1 c2 hn
    obtain ⟨X, hX⟩ : ∃ X, X = uz x := ⟨_, rfl⟩
    rw [← hX] at c1 c2
    unfold maxLen at hs
    have hn' : (n : Int) ≤ s.size := by omega
    have hcut := cut_le s n
    clear h hX
    go_enter Try.func18, Try.ntmps18
    go_wp2_with (first | (go_at_call 19; refine c1.mono ?_; rintro e w1 ⟨rfl, hR, hg⟩) | (go_at_call 29; refine (c2 _).mono ?_; rintro e w2 ⟨rfl, rfl⟩))
    go_ret2
    exact ⟨_, rfl, hcut, hR, hg⟩
  by_cases k3 : k = 3
  · subst k3
    have c1 := text_any b s w h hs
    have c2 := fun W => readText_any s W hs
    have hn := rdT_le s
    obtain ⟨x, n, e, h⟩ : ∃ x n e, rdT s = (x, n, e) := ⟨_, _, _, rfl⟩
    rw [h] at c1 c2 hn
    simp only at c1 c2 hn
    unfold maxLen at hs
    have hn' : (n : Int) ≤ s.size := by omega
    have hcut := cut_le s n
    clear h
    go_enter Try.func18, Try.ntmps18
    go_wp2_with (first | (go_at_call 21; refine c1.mono ?_; rintro e w1 ⟨rfl, hR, hg⟩) | (go_at_call 30; refine (c2 _).mono ?_; rintro e w2 ⟨rfl, rfl⟩))
    go_ret2
    exact ⟨_, rfl, hcut, hR, hg⟩
  by_cases k4 : k = 4
  · subst k4
    have c1 := left_any b s w h hs
    unfold maxLen at hs
    have hH := Lib.hid h
    clear h
    go_enter Try.func18, Try.ntmps18
    go_wp2_with (go_at_call 22; refine c1.mono ?_; rintro e w1 ⟨rfl, rfl⟩)
    go_ret2
    exact ⟨_, rfl, Nat.le_refl _, hH.out, grown_refl _ _⟩
  by_cases k5 : k = 5
  · subst k5
    have c1 := done_any b s w h hs
    unfold maxLen at hs
    have hH := Lib.hid h
    clear h
    by_cases h0 : s.size = 0
    · have hd : dn s.size = 0 := by rw [dn, if_pos h0]
      rw [hd] at c1
      have hz : ((s.size : Int) == 0) = true := by simp [h0]
      clear hd h0
      go_enter Try.func18, Try.ntmps18
      go_wp2_with (go_at_call 23; refine c1.mono ?_; rintro e w1 ⟨rfl, rfl⟩)
      go_ret2
      exact ⟨_, rfl, Nat.le_refl _, hH.out, grown_refl _ _⟩
    · have hd : dn s.size = 5 := by rw [dn, if_neg h0]
      rw [hd] at c1
      have hz : 0 < s.size := by omega
      clear hd h0
      go_enter Try.func18, Try.ntmps18
      go_wp2_with (go_at_call 23; refine c1.mono ?_; rintro e w1 ⟨rfl, rfl⟩)
      go_ret2
      exact ⟨_, rfl, Nat.le_refl _, hH.out, grown_refl _ _⟩
  have e1 : (k == 1) = false := by simp; omega
  have e2 : (k == 2) = false := by simp; omega
  have e3 : (k == 3) = false := by simp; omega
  have e4 : (k == 4) = false := by simp; omega
  have e5 : (k == 5) = false := by simp; omega
  have hH := Lib.hid h
  clear h k1 k2 k3 k4 k5
  go_enter Try.func18, Try.ntmps18
  go_wp2_with fail
  go_ret2
  exact ⟨_, rfl, Nat.le_refl _, hH.out, grown_refl _ _⟩

end Go.Proofs.Ytjoafblfloceeaa.Wr
