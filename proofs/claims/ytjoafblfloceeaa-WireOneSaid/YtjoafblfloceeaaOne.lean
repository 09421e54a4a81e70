/-
  WireOne: for every string s: what a reader over s reads (a number from 0 on, any number, a text) has just the bytes that stand at the front of s, and the reader has moved by so many bytes; where it is refused, nothing has moved and the answer is zero: the law returns true, and writes nothing that was there. No condition.
-/
import Derived.Test.YtjoafblfloceeaaReadsLaw
import Derived.SizedLaws
namespace Go.Proofs.Ytjoafblfloceeaa.wireOne
open Go.ChangeMaps (open_string shut_string)
open Go.ChangeShapes Go.WideShapes Go.ChangeAt Go.RowKit Wm Wr wireReads
set_option linter.unusedVariables false

/-- S is what is left of s behind A. -/
structure Cut (s A S : ByteArray) : Prop where
  le : A.size ≤ s.size
  les : S.size ≤ s.size
  left : (S.size : Int) = (s.size : Int) - (A.size : Int)
  front : s.extract 0 A.size = A

theorem cut_none (s : ByteArray) : Cut s ⟨#[]⟩ (s.extract 0 s.size) := by
  rw [extract_all]
  refine ⟨Nat.zero_le _, Nat.le_refl _, ?_, ?_⟩
  · show (s.size : Int) = (s.size : Int) - 0
    omega
  · apply ByteArray.ext
    simp [ByteArray.size]
theorem cut_at (s : ByteArray) (n : Nat) (h : n ≤ s.size) : Cut s (s.extract 0 n) (s.extract n s.size) := by
  have e : (s.extract 0 n).size = n := by simp; omega
  refine ⟨by omega, by simp, ?_, ?_⟩
  · rw [e]; simp; omega
  · rw [e]
theorem vs_front (s : ByteArray) (x n : Nat) (h : vb x = s.data.toList.take n) : vs x = s.extract 0 n := by
  apply ByteArray.ext
  rw [vs, h, ByteArray.data_extract]
  apply Array.toList_inj.1
  simp

theorem uint_one (s : ByteArray) (hs : s.size ≤ maxLen) : ∃ (x e : Nat) (A S : ByteArray), Cut s A S ∧ x ≤ 9223372036854775807 ∧ (e ≠ 0 ∧ e ≤ 3 ∧ A = ⟨#[]⟩ ∧ x = 0 ∨ e = 0 ∧ us x = A ∧ ue x = 0) ∧
    ∀ b w, Rat w b s → Calls Try.prog 20 #[.pointer (some ⟨b, 0, none⟩)] w fun r w' => r = .returned (.tuple #[.int .i64 (x : Int), .int .i64 (e : Int)]) ∧ Rat w' b S ∧ w.grownBy w' (some b) := by
  have c := fun b w h => uint_any b s w h hs
  rcases rdU_cases s.data.toList with ⟨h, _⟩ | ⟨h, _⟩ | ⟨_, _, _, _, h⟩ | ⟨x, n, _, hx, h⟩
  · rw [h] at c
    exact ⟨0, 2, _, _, cut_none s, by omega, .inl ⟨by omega, by omega, rfl, rfl⟩, c⟩
  · rw [h] at c
    exact ⟨0, 3, _, _, cut_none s, by omega, .inl ⟨by omega, by omega, rfl, rfl⟩, c⟩
  · rw [h] at c
    exact ⟨0, 3, _, _, cut_none s, by omega, .inl ⟨by omega, by omega, rfl, rfl⟩, c⟩
  · have hk := rdU_ok h
    rw [len_l] at hk
    rw [h] at c
    refine ⟨x, 0, _, _, cut_at s n hk.1, hx, .inr ⟨rfl, ?_, ?_⟩, c⟩
    · rw [us, if_neg (by omega), ← vs_front s x n hk.2.1]; rfl
    · rw [ue, if_neg (by omega)]
theorem int_one (s : ByteArray) (hs : s.size ≤ maxLen) : ∃ (x : Int) (e : Nat) (A S : ByteArray), Cut s A S ∧ -9223372036854775808 ≤ x ∧ x ≤ 9223372036854775807 ∧ (e ≠ 0 ∧ e ≤ 3 ∧ A = ⟨#[]⟩ ∧ x = 0 ∨ e = 0 ∧ vs (zz x) = A) ∧
    ∀ b w, Rat w b s → Calls Try.prog 19 #[.pointer (some ⟨b, 0, none⟩)] w fun r w' => r = .returned (.tuple #[.int .i64 x, .int .i64 (e : Int)]) ∧ Rat w' b S ∧ w.grownBy w' (some b) := by
  have c := fun b w h => int_any b s w h hs
  rcases rd_cases s.data.toList with h | h | ⟨x, n, h⟩
  · rw [h] at c
    exact ⟨0, 2, _, _, cut_none s, by omega, by omega, .inl ⟨by omega, by omega, rfl, rfl⟩, c⟩
  · rw [h] at c
    exact ⟨0, 3, _, _, cut_none s, by omega, by omega, .inl ⟨by omega, by omega, rfl, rfl⟩, c⟩
  · have hk := rd_ok h
    rw [len_l] at hk
    rw [h] at c
    have hu := uz_in hk.2.2.2
    exact ⟨uz x, 0, _, _, cut_at s n hk.1, hu.1, hu.2, .inr ⟨rfl, by rw [zz_uz, vs_front s x n hk.2.1]⟩, c⟩
theorem text_one (s : ByteArray) (hs : s.size ≤ maxLen) : ∃ (x : ByteArray) (e : Nat) (A S : ByteArray), Cut s A S ∧ x.size ≤ s.size ∧ (e ≠ 0 ∧ e ≤ 3 ∧ A = ⟨#[]⟩ ∧ x = ⟨#[]⟩ ∨ e = 0 ∧ ts x = A) ∧
    ∀ b w, Rat w b s → Calls Try.prog 21 #[.pointer (some ⟨b, 0, none⟩)] w fun r w' => r = .returned (.tuple #[.string x, .int .i64 (e : Int)]) ∧ Rat w' b S ∧ w.grownBy w' (some b) := by
  have c := fun b w h => text_any b s w h hs
  rcases rdT_cases s with ⟨e, h0, h1, _, h⟩ | ⟨x, n, _, _, _, _, h⟩ | ⟨x, n, h, hn, hx, h3⟩
  · rw [h] at c
    exact ⟨_, e, _, _, cut_none s, Nat.zero_le _, .inl ⟨h0, h1, rfl, rfl⟩, c⟩
  · rw [h] at c
    exact ⟨_, 2, _, _, cut_none s, Nat.zero_le _, .inl ⟨by omega, by omega, rfl, rfl⟩, c⟩
  · rw [h3] at c
    have hk := rdU_ok h
    have e1 : (s.extract n (n + x)).size = x := by simp; omega
    refine ⟨_, 0, _, _, cut_at s (n + x) (by omega), by show (s.extract n (n + x)).size ≤ s.size; omega, .inr ⟨rfl, ?_⟩, c⟩
    rw [ts, e1, vs_front s x n hk.2.1]
    apply ByteArray.ext
    rw [ByteArray.data_append, ByteArray.data_extract, ByteArray.data_extract, ByteArray.data_extract, Array.extract_append_extract]
    congr 1 <;> omega

theorem below_new3 {w wa : World} {o p q : Obj} (h : Below (((w.alloc o).alloc p).alloc q).heap.size (((w.alloc o).alloc p).alloc q) wa) : Below w.heap.size w wa :=
  ((((Below.refl _ _).alloc (Nat.le_refl _) o).alloc (by simp) p).alloc (by simp; omega) q).trans (h.mono (by simp; omega))
theorem rat_below3 {w wa wb wc : World} {b : Nat} {s : ByteArray} (h : Rat w b s) (h1 : Below w.heap.size w wa) (h2 : Below wa.heap.size wa wb) (h3 : Below wb.heap.size wb wc) : Rat wc b s := by
  have k1 := rat_below h h1 (rat_lt h)
  have k2 := rat_below k1 h2 (rat_lt k1)
  exact rat_below k2 h3 (rat_lt k2)
theorem front0 (s : ByteArray) : s.extract 0 0 = ⟨#[]⟩ := by
  apply ByteArray.ext
  simp

set_option maxRecDepth 100000 in
set_option maxHeartbeats 8000000 in
theorem walk (s : ByteArray) (w : World) (hs : s.size ≤ 9223372036854775797) :
    Calls Try.prog 7 #[.string s] w fun e w' => e = .returned (.bool true) ∧ Below w.heap.size w w' := by
  have hm : s.size ≤ maxLen := by unfold maxLen; omega
  have cn := fun s W => new_any s W
  have r1 := rat_alloc (rat_alloc (rat_new w s) (.cells #[.string s] 53)) (.cells #[.string s] 53)
  have r2 := rat_alloc (rat_new (w.alloc (.cells #[.string s] 53)) s) (.cells #[.string s] 53)
  have r3 := rat_new ((w.alloc (.cells #[.string s] 53)).alloc (.cells #[.string s] 53)) s
  simp only [World.size_alloc] at r2 r3
  obtain ⟨x1, e1, A1, S1, ⟨le1, les1, left1, front1⟩, hx1, d1, c1⟩ := uint_one s hm
  obtain ⟨x2, e2, A2, S2, ⟨le2, les2, left2, front2⟩, hx2, hx2', d2, c2⟩ := int_one s hm
  obtain ⟨x3, e3, A3, S3, ⟨le3, les3, left3, front3⟩, hx3, d3, c3⟩ := text_one s hm
  have f0 := front0 s
  have p1 := fun W => putUint_any (x1 : Int) W (by omega) (by omega)
  have p2 := fun W => putInt_any x2 W hx2 hx2'
  have p3 := fun W => putText_any x3 W (by omega)
  have q1 : ∀ b W, Rat W b S1 → Calls Try.prog 22 #[.pointer (some ⟨b, 0, none⟩)] W fun e w' => e = .returned (.int .i64 ((s.size : Int) - (A1.size : Int))) ∧ W = w' := fun b W h => by rw [← left1]; exact left_any b S1 W h (by omega)
  have q2 : ∀ b W, Rat W b S2 → Calls Try.prog 22 #[.pointer (some ⟨b, 0, none⟩)] W fun e w' => e = .returned (.int .i64 ((s.size : Int) - (A2.size : Int))) ∧ W = w' := fun b W h => by rw [← left2]; exact left_any b S2 W h (by omega)
  have q3 : ∀ b W, Rat W b S3 → Calls Try.prog 22 #[.pointer (some ⟨b, 0, none⟩)] W fun e w' => e = .returned (.int .i64 ((s.size : Int) - (A3.size : Int))) ∧ W = w' := fun b W h => by rw [← left3]; exact left_any b S3 W h (by omega)
  clear left1 left2 left3 les1 les2 les3
  rcases d1 with ⟨n1, m1, rfl, rfl⟩ | ⟨rfl, h1, h1'⟩
  all_goals rcases d2 with ⟨n2, m2, rfl, rfl⟩ | ⟨rfl, h2⟩
  all_goals rcases d3 with ⟨n3, m3, rfl, rfl⟩ | ⟨rfl, h3⟩
  all_goals
    first
      | (rw [h1, h1'] at p1; clear h1 h1')
      | (have k1 : ((e1 : Int) == 0) = false := by simp; omega
         have k1' : (!((e1 : Int) == 0)) = true := by simp; omega
         replace p1 := fun W => putUint_any 0 W (by omega) (by omega)
         clear n1 m1)
    first
      | (rw [h2] at p2; clear h2)
      | (have k2 : ((e2 : Int) == 0) = false := by simp; omega
         have k2' : (!((e2 : Int) == 0)) = true := by simp; omega
         clear n2 m2)
    first
      | (rw [h3] at p3; clear h3)
      | (have k3 : ((e3 : Int) == 0) = false := by simp; omega
         have k3' : (!((e3 : Int) == 0)) = true := by simp; omega
         clear n3 m3)
    go_enter Try.func7, Try.ntmps7
    go_wp2_with (first
      | (go_at_call 17; refine (cn _ _).mono ?_; rintro e w2 ⟨rfl, rfl⟩)
      | (go_at_call 11; refine (awake_any _).mono ?_; rintro e wa ⟨rfl, hba⟩))
    have hB0 := below_new3 hba
    have R1 := rat_below r1 hba (by rw [World.size_alloc, World.size_alloc, World.size_alloc]; omega)
    have R2 := rat_below r2 hba (by rw [World.size_alloc, World.size_alloc, World.size_alloc]; omega)
    have R3 := rat_below r3 hba (by rw [World.size_alloc, World.size_alloc, World.size_alloc]; omega)
    clear r1 r2 r3 hba cn
    go_at_call 20
    refine (c1 _ _ R1).mono ?_
    rintro e wb ⟨rfl, T1, g1⟩
    have hB1 := below_at hB0 g1 (by omega)
    have R2b := rat_other R2 g1 (by omega)
    have R3b := rat_other R3 g1 (by omega)
    clear R1 R2 R3 g1 hB0
    go_wp2_with fail
    go_at_call 19
    refine (c2 _ _ R2b).mono ?_
    rintro e wc ⟨rfl, T2, g2⟩
    have hB2 := below_at hB1 g2 (by omega)
    have T1c := rat_other T1 g2 (by omega)
    have R3c := rat_other R3b g2 (by omega)
    clear T1 R2b R3b g2 hB1
    go_wp2_with fail
    go_at_call 21
    refine (c3 _ _ R3c).mono ?_
    rintro e wd ⟨rfl, T3, g3⟩
    have hB3 := below_at hB2 g3 (by omega)
    have T1d := rat_other T1c g3 (by omega)
    have T2d := rat_other T2 g3 (by omega)
    clear T1c T2 R3c g3 hB2
    go_wp2_with (first
      | (go_at_call 9; refine (p1 _).mono ?_; rintro e we ⟨rfl, b1⟩)
      | (go_at_call 12; refine (p2 _).mono ?_; rintro e wf ⟨rfl, b2⟩)
      | (go_at_call 14; refine (p3 _).mono ?_; rintro e wg ⟨rfl, b3⟩))
    have U1 := rat_below3 T1d b1 b2 b3
    have U2 := rat_below3 T2d b1 b2 b3
    have U3 := rat_below3 T3 b1 b2 b3
    have hB4 := below_call (below_call (below_call hB3 b1) b2) b3
    clear T1d T2d T3 b1 b2 b3 hB3
    go_at_call 22
    refine (q1 _ _ U1).mono ?_
    rintro e wh ⟨rfl, rfl⟩
    go_wp2_with fail
    go_at_call 22
    refine (q2 _ _ U2).mono ?_
    rintro e wh ⟨rfl, rfl⟩
    go_wp2_with fail
    go_at_call 22
    refine (q3 _ _ U3).mono ?_
    rintro e wh ⟨rfl, rfl⟩
    go_wp2_with fail
    go_ret
    exact ⟨rfl, hB4⟩

end Go.Proofs.Ytjoafblfloceeaa.wireOne
