/- Package delta on texts: alike, blockAt, number, copied, piece: contracts. -/
import Derived.Test.YtpfgijmhoenpkaaHMath
import Derived.Test.YtpfgijmhoenpkaaRead2
import Derived.Test.YtpfgijmhoenpkaaPut
import Derived.Test.YtpfgijmhoenpkaaTexts
namespace Go.Proofs.Ytpfgijmhoenpkaa.Dl
open Go.RowKit Wm Wr Dm
set_option linter.unusedVariables false

theorem ext_l (s : ByteArray) (i j : Nat) : (s.extract i j).data.toList = (s.data.toList.drop i).take (j - i) := by
  rw [ByteArray.data_extract, Array.toList_extract, List.extract_eq_take_drop]
theorem drop_l (s : ByteArray) (i : Nat) : (s.extract i s.size).data.toList = s.data.toList.drop i := by
  rw [ext_l, List.take_of_length_le]
  rw [List.length_drop, Wm.len_l]
  exact Nat.le_refl _
theorem ba_eq {a b : ByteArray} (h : a.data.toList = b.data.toList) : a = b := ByteArray.ext (Array.toList_inj.1 h)

set_option maxRecDepth 100000 in
set_option maxHeartbeats 1000000 in
theorem alike_any (a b : ByteArray) (w : World) (ha : a.size ≤ maxLen) (hb : b.size ≤ maxLen) :
    Calls Try.prog 25 #[.string a, .string b] w fun e w' => e = .returned (.int .i64 (cp a.data.toList b.data.toList : Nat)) ∧ Below w.heap.size w w' := by
  have hc := cp_le a.data.toList b.data.toList
  rw [Wm.len_l, Wm.len_l] at hc
  unfold maxLen at ha hb
  go_enter Try.func25, Try.ntmps25
  go_wp2_with fail
  go_loopw [5] (fun n wr => ∃ k : Nat, k ≤ a.size ∧ k ≤ b.size ∧ Hid (k ≤ cp a.data.toList b.data.toList) ∧ n = .int .i64 k ∧ Below w.heap.size w wr) (fun n _ => a.size - (intOf n).toNat)
  case atStart => exact ⟨0, Nat.zero_le _, Nat.zero_le _, Lib.hid (Nat.zero_le _), rfl, Below.refl _ _⟩
  case round =>
    obtain ⟨k, hka, hkb, hk, rfl, hB⟩ := hrel
    have hB2 := hB.drew
    by_cases h1 : k < a.size
    · by_cases h2 : k < b.size
      · have hga := gd a k h1
        have hgb := gd b k h2
        have h1z : (k : Int) < (a.size : Int) := by omega
        have h2z : (k : Int) < (b.size : Int) := by omega
        by_cases h3 : a[k].toNat = b[k].toNat
        · have hk2 : Hid (k + 1 ≤ cp a.data.toList b.data.toList) := Lib.hid (cp_step _ _ k hk.out (by rw [Wm.len_l]; exact h1) (by rw [Wm.len_l]; exact h2) (by rw [hga, hgb]; exact UInt8.toNat_inj.1 h3))
          clear hga hgb
          have h3z : ((a[k].toNat : Int) == (b[k].toNat : Int)) = true := by simp [h3]
          go_wp2_with fail
          go_region
          go_wp2_with fail
          go_roundw
          case rel => exact ⟨k + 1, by omega, by omega, hk2, by go_num, hB2⟩
          case measure => simp [intOf]; omega
        · have he : cp a.data.toList b.data.toList = k := by
            have := cp_stop a.data.toList b.data.toList k (by rw [Wm.len_l]; exact h2) (.inr (by rw [hga, hgb]; intro e; exact h3 (by rw [e])))
            have := hk.out
            omega
          have HE := Lib.hid he
          clear hga hgb he
          have h3z : ((a[k].toNat : Int) == (b[k].toNat : Int)) = false := by simp; omega
          go_wp2_with fail
          go_region
          go_wp2_with fail
          go_ret
          rw [HE.out]
          exact ⟨rfl, hB2⟩
      · have he : cp a.data.toList b.data.toList = k := by have := hk.out; omega
        have HE := Lib.hid he
        clear he
        have h1z : (k : Int) < (a.size : Int) := by omega
        have h2z : ¬ (k : Int) < (b.size : Int) := by omega
        go_wp2_with fail
        go_region
        go_wp2_with fail
        go_ret
        rw [HE.out]
        exact ⟨rfl, hB2⟩
    · have he : cp a.data.toList b.data.toList = k := by have := hk.out; omega
      have HE := Lib.hid he
      clear he
      have h1z : ¬ (k : Int) < (a.size : Int) := by omega
      go_wp2_with fail
      go_region
      go_wp2_with fail
      go_ret
      rw [HE.out]
      exact ⟨rfl, hB2⟩

/-! ### numbers at the front -/
theorem rdU_alt (l : List UInt8) : (∃ e, e ≠ 0 ∧ e ≤ 3 ∧ rdU l = (0, 0, e)) ∨ ∃ x n, rdU l = (x, n, 0) ∧ x ≤ 9223372036854775807 ∧ n ≤ l.length ∧ 0 < n := by
  rcases rdU_cases l with ⟨h, _⟩ | ⟨h, _⟩ | ⟨_, _, _, _, h⟩ | ⟨x, n, h2, hx, h⟩
  · exact .inl ⟨2, by omega, by omega, h⟩
  · exact .inl ⟨3, by omega, by omega, h⟩
  · exact .inl ⟨3, by omega, by omega, h⟩
  · exact .inr ⟨x, n, h, hx, (rd_ok h2).1, (rd_ok h2).2.2.1⟩
/-- What stands behind a number. -/
def rst (s : ByteArray) : ByteArray := if (rdU s.data.toList).2.2 = 0 then s.extract (rdU s.data.toList).2.1 s.size else ⟨#[]⟩

set_option maxRecDepth 100000 in
theorem num_any (s : ByteArray) (w : World) (hs : s.size ≤ maxLen) :
    Calls Try.prog 10 #[.string s] w fun e w' => e = .returned (.tuple #[.int .i64 ((rdU s.data.toList).1 : Int), .string (rst s), .int .i64 ((rdU s.data.toList).2.2 : Int)]) ∧ Below w.heap.size w w' := by
  have cn := new_any s w
  have hr := rat_new w s
  have hB : Below w.heap.size w (w.alloc (.cells #[.string s] 62)) := (Below.refl _ w).alloc (Nat.le_refl _) _
  have cu := uint_any w.heap.size s _ hr hs
  have cl := fun W h => left_any w.heap.size (s.extract (rdU s.data.toList).2.1 s.size) W h (by simp; omega)
  unfold rst
  rcases rdU_alt s.data.toList with ⟨r, hr0, hr3, h⟩ | ⟨x, n, h, hx, hn, hn0⟩
  · rw [h] at cu ⊢
    simp only at cu ⊢
    rw [if_neg hr0]
    have hne : ((r : Int) == 0) = false := by simp; omega
    clear h cl hr hr0
    go_enter Try.func10, Try.ntmps10
    go_wp2_with fail
    go_at_call 18
    refine cn.mono ?_
    rintro e w1 ⟨rfl, rfl⟩
    go_wp2_with fail
    go_at_call 19
    refine cu.mono ?_
    rintro e w2 ⟨rfl, _, hg⟩
    have hB2 : Below w.heap.size w w2 := Wr.below_at hB hg (Nat.le_refl _)
    go_wp2_with fail
    go_ret3
    exact ⟨rfl, hB2⟩
  · rw [Wm.len_l] at hn
    rw [h] at cu cl ⊢
    simp only at cu cl ⊢
    rw [if_pos trivial]
    rw [extract_le s n hn] at cl
    have hx2 : (s.size : Int) - ((s.size - n : Nat) : Int) = (n : Int) := by omega
    obtain ⟨m, hm⟩ : ∃ m, m = s.size - n := ⟨_, rfl⟩
    rw [← hm] at cl hx2
    have hm2 : (m : Int) ≤ (s.size : Int) := by omega
    have hn2 : (n : Int) ≤ (s.size : Int) := by omega
    unfold maxLen at hs
    have hwr : IntKind.i64.wrap ((s.size : Int) - (m : Int)) = (n : Int) := by rw [IntKind.wrap_i64]; omega
    clear hx2
    clear h hr hm
    go_enter Try.func10, Try.ntmps10
    go_wp2_with fail
    go_at_call 18
    refine cn.mono ?_
    rintro e w1 ⟨rfl, rfl⟩
    go_wp2_with fail
    go_at_call 19
    refine cu.mono ?_
    rintro e w2 ⟨rfl, hr2, hg⟩
    have hB2 : Below w.heap.size w w2 := Wr.below_at hB hg (Nat.le_refl _)
    have cl2 := cl w2.drew hr2
    clear hr2 hg cl cu cn
    have hB3 := hB2.drew
    go_wp2_with fail
    go_region_with (go_at_call 20; refine cl2.mono ?_; rintro e w3 ⟨rfl, rfl⟩)
    all_goals
      go_wp2_with fail
      go_ret3
      exact ⟨by kernel_rfl, hB3⟩

/-! ### pieces -/
theorem ret3ss {x x' y y' : ByteArray} {z z' : Int} (h : x = x') (h2 : y = y') (h3 : z = z') :
    Ending.returned (.tuple #[.string x, .string y, .int .i64 z]) = .returned (.tuple #[.string x', .string y', .int .i64 z']) := by rw [h, h2, h3]
/-- What is copied: (the bytes, what is left, the error). -/
def cpd (base s : ByteArray) (n : Nat) : ByteArray × ByteArray × Nat :=
  if (rdU s.data.toList).2.2 ≠ 0 then (⟨#[]⟩, ⟨#[]⟩, (rdU s.data.toList).2.2)
  else if base.size < (rdU s.data.toList).1 + n then (⟨#[]⟩, ⟨#[]⟩, 3)
  else (base.extract (rdU s.data.toList).1 ((rdU s.data.toList).1 + n), s.extract (rdU s.data.toList).2.1 s.size, 0)

set_option maxRecDepth 100000 in
theorem copied_any (base s : ByteArray) (n : Nat) (w : World) (hb : base.size ≤ maxLen) (hs : s.size ≤ maxLen) (hn : n ≤ 4611686018427387903) :
    Calls Try.prog 21 #[.string base, .string s, .int .i64 (n : Int)] w fun e w' => e = .returned (.tuple #[.string (cpd base s n).1, .string (cpd base s n).2.1, .int .i64 ((cpd base s n).2.2 : Int)]) ∧ Below w.heap.size w w' := by
  have cn := num_any s w hs
  unfold maxLen at hb hs
  unfold cpd
  rcases rdU_alt s.data.toList with ⟨r, hr0, hr3, h⟩ | ⟨x, m, h, hx, hm, hm0⟩
  · unfold rst at cn
    rw [h] at cn ⊢
    simp only at cn ⊢
    rw [if_neg hr0] at cn
    rw [if_pos hr0]
    have hne : ((r : Int) == 0) = false := by simp; omega
    clear h hr0
    go_enter Try.func21, Try.ntmps21
    go_wp2_with fail
    go_at_call 10
    refine cn.mono ?_
    rintro e w1 ⟨rfl, hB⟩
    go_wp2_with fail
    go_ret3
    exact ⟨rfl, hB⟩
  · unfold rst at cn
    rw [h] at cn ⊢
    simp only at cn ⊢
    rw [if_pos trivial] at cn
    rw [if_neg (by simp)]
    by_cases hbs : base.size < x + n
    · rw [if_pos hbs]
      have hz : (base.size : Int) - (x : Int) < (n : Int) := by omega
      clear h
      go_enter Try.func21, Try.ntmps21
      go_wp2_with fail
      go_at_call 10
      refine cn.mono ?_
      rintro e w1 ⟨rfl, hB⟩
      go_wp2_with fail
      go_ret3
      exact ⟨rfl, hB⟩
    · rw [if_neg hbs]
      have hz : ¬ ((base.size : Int) - (x : Int) < (n : Int)) := by omega
      have hz2 : (x : Int) + (n : Int) ≤ (base.size : Int) := by omega
      clear h
      go_enter Try.func21, Try.ntmps21
      go_wp2_with fail
      go_at_call 10
      refine cn.mono ?_
      rintro e w1 ⟨rfl, hB⟩
      go_wp2_with fail
      go_ret3
      exact ⟨ret3ss (by simp) rfl rfl, hB⟩

/-- What is left behind a piece. -/
def lft (base s : ByteArray) (room : Nat) : ByteArray := if (pc base.data.toList s.data.toList room).2.2 = 0 then s.extract (pc base.data.toList s.data.toList room).2.1 s.size else ⟨#[]⟩
theorem tb_ext (s : ByteArray) (i n : Nat) : s.extract i (i + n) = Tx.tb ((s.data.toList.drop i).take n) := by
  apply ba_eq
  rw [ext_l, Tx.tb_list, Nat.add_sub_cancel_left]
theorem ext_ext (s : ByteArray) (i j : Nat) (hi : i ≤ s.size) : (s.extract i s.size).extract j (s.size - i) = s.extract (i + j) s.size := by
  have e : s.size - i = (s.extract i s.size).size := by simp
  apply ba_eq
  rw [e, drop_l, drop_l, drop_l, List.drop_drop]

set_option maxRecDepth 100000 in
set_option maxHeartbeats 1000000 in
theorem piece_any (base s : ByteArray) (room : Nat) (w : World) (hb : base.size ≤ maxLen) (hs : s.size ≤ maxLen) (hr : room ≤ 4611686018427387903) :
    Calls Try.prog 11 #[.string base, .string s, .int .i64 (room : Int)] w fun e w' => e = .returned (.tuple #[.string (Tx.tb (pc base.data.toList s.data.toList room).1), .string (lft base s room), .int .i64 ((pc base.data.toList s.data.toList room).2.2 : Int)]) ∧ Below w.heap.size w w' := by
  have cn := num_any s w hs
  have hsl := Wm.len_l s
  have hbl := Wm.len_l base
  unfold lft pc
  rcases rdU_alt s.data.toList with ⟨r, hr0, hr3, h⟩ | ⟨x, m, h, hx, hm, hm0⟩
  · unfold maxLen at hb hs
    unfold rst at cn
    rw [h] at cn ⊢
    simp only at cn ⊢
    rw [if_neg hr0] at cn
    rw [if_pos hr0]
    simp only
    rw [if_neg hr0]
    have hne : ((r : Int) == 0) = false := by simp; omega
    clear h hr0
    go_enter Try.func11, Try.ntmps11
    go_wp2_with fail
    go_at_call 10
    refine cn.mono ?_
    rintro e w1 ⟨rfl, hB⟩
    go_wp2_with fail
    go_ret3
    exact ⟨rfl, hB⟩
  · rw [Wm.len_l] at hm
    unfold rst at cn
    rw [h] at cn ⊢
    simp only at cn ⊢
    rw [if_pos trivial] at cn
    rw [if_neg (by simp)]
    by_cases h1 : x / 2 = 0 ∨ room < x / 2
    · rw [if_pos h1]
      simp only
      rw [if_neg (by decide)]
      unfold maxLen at hb hs
      clear h
      by_cases h0 : x / 2 = 0
      · have hz : ((x : Int) / 2) = 0 := by omega
        go_enter Try.func11, Try.ntmps11
        go_wp2_with fail
        go_at_call 10
        refine cn.mono ?_
        rintro e w1 ⟨rfl, hB⟩
        go_wp2_with fail
        go_ret3
        exact ⟨rfl, hB⟩
      · have hz : ¬ ((x : Int) / 2) = 0 := by omega
        have hz2 : (room : Int) < (x : Int) / 2 := by omega
        go_enter Try.func11, Try.ntmps11
        go_wp2_with fail
        go_at_call 10
        refine cn.mono ?_
        rintro e w1 ⟨rfl, hB⟩
        go_wp2_with fail
        go_ret3
        exact ⟨rfl, hB⟩
    · rw [if_neg h1]
      obtain ⟨n, hn⟩ : ∃ n, n = x / 2 := ⟨_, rfl⟩
      have hz : ((n : Int) == 0) = false := by simp; omega
      have hz2 : ¬ ((room : Int) < (n : Int)) := by omega
      have hz3 : ¬ (room < n) := by omega
      have hz4 : decide (room < n) = false := decide_eq_false hz3
      have hnz : (x : Int) / 2 = (n : Int) := by omega
      by_cases h2 : x % 2 = 1
      · rw [if_pos h2]
        have hodd : (x : Int) % 2 = 1 := by omega
        have cc := fun W => copied_any base (s.extract m s.size) n W hb (by simp; omega) (by omega)
        unfold cpd at cc
        rw [drop_l] at cc
        unfold maxLen at hb hs
        have hmod : ¬ (x : Int) % 2 = 0 := by omega
        rcases rdU_alt (s.data.toList.drop m) with ⟨r, hr0, hr3, h'⟩ | ⟨y, q, h', hy, hq, hq0⟩
        · rw [h'] at cc ⊢
          simp only at cc ⊢
          rw [if_pos hr0] at cc ⊢
          simp only at cc ⊢
          rw [if_neg hr0]
          clear h h' hr0 h1 h2 hn
          go_enter Try.func11, Try.ntmps11
          go_wp2_with fail
          go_at_call 10
          refine cn.mono ?_
          rintro e w1 ⟨rfl, hB⟩
          go_wp2_with fail
          go_at_call 21
          refine (cc _).mono ?_
          rintro e w2 ⟨rfl, hB2⟩
          have hB3 := Wr.below_call hB hB2
          go_wp2_with fail
          go_ret3
          exact ⟨rfl, hB3⟩
        · rw [h'] at cc ⊢
          simp only at cc ⊢
          rw [if_neg (by simp)] at cc ⊢
          by_cases h4 : base.size < y + n
          · have h4' : base.data.toList.length < y + x / 2 := by rw [hbl, ← hn]; exact h4
            rw [if_pos h4] at cc
            rw [if_pos h4']
            simp only at cc ⊢
            rw [if_neg (by decide)]
            clear h h' h1 h2 hn h4 h4'
            go_enter Try.func11, Try.ntmps11
            go_wp2_with fail
            go_at_call 10
            refine cn.mono ?_
            rintro e w1 ⟨rfl, hB⟩
            go_wp2_with fail
            go_at_call 21
            refine (cc _).mono ?_
            rintro e w2 ⟨rfl, hB2⟩
            have hB3 := Wr.below_call hB hB2
            go_wp2_with fail
            go_ret3
            exact ⟨rfl, hB3⟩
          · have h4' : ¬ base.data.toList.length < y + x / 2 := by rw [hbl, ← hn]; exact h4
            rw [if_neg h4] at cc
            rw [if_neg h4']
            simp only at cc ⊢
            rw [if_pos trivial]
            have hsz : (s.extract m s.size).size = s.size - m := by simp
            rw [hsz, ext_ext s m q hm, tb_ext] at cc
            rw [← hn]
            clear h h' h1 h2 hn h4 h4' hsz
            go_enter Try.func11, Try.ntmps11
            go_wp2_with fail
            go_at_call 10
            refine cn.mono ?_
            rintro e w1 ⟨rfl, hB⟩
            go_wp2_with fail
            go_at_call 21
            refine (cc _).mono ?_
            rintro e w2 ⟨rfl, hB2⟩
            have hB3 := Wr.below_call hB hB2
            go_wp2_with fail
            go_ret3
            exact ⟨rfl, hB3⟩
      · rw [if_neg h2]
        unfold maxLen at hb hs
        have hmod : (x : Int) % 2 = 0 := by omega
        have hsz : (s.extract m s.size).size = s.size - m := by simp
        by_cases h4 : s.data.toList.length - m < x / 2
        · rw [if_pos h4]
          simp only
          rw [if_neg (by decide)]
          have h4z : ((s.size - m : Nat) : Int) < (n : Int) := by rw [hsl, ← hn] at h4; omega
          rw [← hsz] at h4z
          clear h h1 h2 hn h4
          go_enter Try.func11, Try.ntmps11
          go_wp2_with fail
          go_at_call 10
          refine cn.mono ?_
          rintro e w1 ⟨rfl, hB⟩
          have hB3 := hB.drew
          go_wp2_with fail
          go_ret3
          exact ⟨rfl, hB⟩
        · rw [if_neg h4]
          simp only
          rw [if_pos trivial]
          have h4z : ¬ ((s.size - m : Nat) : Int) < (n : Int) := by rw [hsl, ← hn] at h4; omega
          have h4y : (n : Int) ≤ ((s.size - m : Nat) : Int) := by omega
          rw [← hn]
          have e1 : (s.extract m s.size).extract 0 n = Tx.tb ((s.data.toList.drop m).take n) := by
            apply ba_eq
            rw [ext_l, drop_l, Tx.tb_list]
            rfl
          have e2 : (s.extract m s.size).extract n (s.extract m s.size).size = s.extract (m + n) s.size := by rw [hsz]; exact ext_ext s m n hm
          rw [← hsz] at h4z h4y
          rw [← e1, ← e2]
          have hRs : (s.extract m s.size).size ≤ s.size := by rw [hsz]; exact Nat.sub_le _ _
          generalize s.extract m s.size = R at cn h4z h4y hsz hRs ⊢
          clear h h1 h2 hn h4 e1 e2 hsz
          go_enter Try.func11, Try.ntmps11
          go_wp2_with fail
          go_at_call 10
          refine cn.mono ?_
          rintro e w1 ⟨rfl, hB⟩
          have hB3 := hB.drew
          go_wp2_with fail
          go_region
          go_wp2_with fail
          go_ret3
          exact ⟨rfl, hB3⟩
end Go.Proofs.Ytpfgijmhoenpkaa.Dl
