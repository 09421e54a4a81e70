/- What the readers of numbers do: wire.whole, wire.number, wire.fold, wire.unfold, and the document's own Read, ReadUint, ReadInt, ReadText: contracts. -/
import Derived.Test.YtpfgijmhoenpkaaRows
import Derived.Test.YtpfgijmhoenpkaaMath
import Derived.WalkKit
import Derived.WalkLawsBesides
import Derived.WalkSpells
import Derived.LoopTactic
import Derived.Lib.Hide
namespace Go.Proofs.Ytpfgijmhoenpkaa.Wr
open Go.RowKit Wm
set_option linter.unusedVariables false

theorem ret3 {x y z x' y' z' : Int} {k : IntKind} (h : x = x') (h2 : y = y') (h3 : z = z') :
    Ending.returned (.tuple #[.int k x, .int .i64 y, .int .i64 z]) = .returned (.tuple #[.int k x', .int .i64 y', .int .i64 z']) := by rw [h, h2, h3]

set_option maxRecDepth 100000 in
set_option maxHeartbeats 400000 in
theorem whole_any (s : ByteArray) (w : World) (hs : s.size ≤ maxLen) :
    Calls Try.prog 29 #[.string s] w fun e w' => e = .returned (.tuple #[.int .u64 ((rd s.data.toList).1 : Int), .int .i64 ((rd s.data.toList).2.1 : Int), .int .i64 ((rd s.data.toList).2.2 : Int)]) ∧ w = w' := by
  unfold maxLen at hs
  go_enter Try.func29, Try.ntmps29
  go_wp2
  go_loop [2, 5] (fun x i => ∃ k : Nat, k ≤ s.size ∧ k ≤ 9 ∧ Hid (k ≤ lead s.data.toList 9) ∧ i = .int .i64 k ∧ x = .int .u64 (pv s.data.toList k : Nat)) (fun _ i => s.size - (intOf i).toNat)
  case atStart => exact ⟨0, Nat.zero_le _, by omega, Nat.zero_le _, rfl, by rw [pv_zero]; rfl⟩
  case round =>
    obtain ⟨k, hk, hk9, hl, rfl, rfl⟩ := hrel
    by_cases hlt : k < s.size
    · by_cases h9 : k = 9
      · subst h9
        go_wp2
        · have h1 : 1 < (s[9].toNat : Int) := by assumption
          go_ret3
          exact ⟨by rw [rd_tenth s hlt hl.out h1]; rfl, rfl⟩
        · have h0 : s[9].toNat = 0 := by assumption
          go_ret3
          exact ⟨by rw [rd_zero s 9 hlt hl.out h0 (by omega)]; rfl, rfl⟩
        · have h0 : ¬ s[9].toNat = 0 := by assumption
          have h1 : (s[9].toNat : Int) ≤ 1 := by assumption
          go_ret3
          refine ⟨?_, rfl⟩
          rw [rd_stop s 9 hlt hl.out (by omega) (fun _ => by omega) (.inr h0)]
          exact ret3 (or_step s.data.toList 9 _ (by rw [len_l]; exact hlt) (by rw [gd s 9 hlt]) (.inr ⟨rfl, by omega⟩)) rfl rfl
      · have h9' : ((k : Int) == 9) = false := by simp; omega
        go_wp2
        · have h1 : 128 ≤ (s[k].toNat : Int) := by assumption
          go_round
          case rel => exact ⟨k + 1, by omega, by omega, lead_more s k hlt (by omega) hl.out h1, by go_num, by rw [or_step s.data.toList k _ (by rw [len_l]; exact hlt) (by rw [gd s k hlt]) (.inl (by omega))]⟩
          case measure => simp [intOf]; omega
        · have h0 : s[k].toNat = 0 := by assumption
          have hp : 0 < k := by assumption
          go_ret3
          exact ⟨by rw [rd_zero s k hlt hl.out h0 hp]; rfl, rfl⟩
        · have h0 : s[k].toNat = 0 := by assumption
          have hp : ¬ 0 < k := by assumption
          go_ret3
          refine ⟨?_, rfl⟩
          rw [rd_stop s k hlt hl.out (by omega) (fun _ => by omega) (.inl (by omega))]
          exact ret3 (or_step s.data.toList k 0 (by rw [len_l]; exact hlt) (by rw [gd s k hlt]; exact h0.symm) (.inl (by omega))) (by simp) rfl
        · have h0 : ¬ s[k].toNat = 0 := by assumption
          have h1 : (s[k].toNat : Int) < 128 := by assumption
          go_ret3
          refine ⟨?_, rfl⟩
          rw [rd_stop s k hlt hl.out (by omega) (fun _ => by omega) (.inr h0)]
          exact ret3 (or_step s.data.toList k _ (by rw [len_l]; exact hlt) (by rw [gd s k hlt]) (.inl (by omega))) (by simp) rfl
    · go_wp2
      go_ret3
      exact ⟨by rw [rd_short s k hlt hl.out]; rfl, rfl⟩


set_option maxRecDepth 100000 in
theorem number_any (s : ByteArray) (w : World) (hs : s.size ≤ maxLen) :
    Calls Try.prog 27 #[.string s] w fun e w' => e = .returned (.tuple #[.int .i64 ((rdU s.data.toList).1 : Int), .int .i64 ((rdU s.data.toList).2.1 : Int), .int .i64 ((rdU s.data.toList).2.2 : Int)]) ∧ w = w' := by
  have c := whole_any s w hs
  rcases rdU_cases s.data.toList with ⟨h, h2⟩ | ⟨h, h2⟩ | ⟨x, n, h2, hx, h⟩ | ⟨x, n, h2, hx, h⟩
  all_goals
    rw [h2] at c
    rw [h]
    clear h h2
    go_enter Try.func27, Try.ntmps27
    go_wp2_with (go_at_call 29; refine c.mono ?_; rintro e w' ⟨rfl, rfl⟩)
    go_ret3
    exact ⟨rfl, rfl⟩

theorem shr1 (x : Nat) : ((x / 2 : Nat) : Int) = (x : Int) / 2 := by simp
theorem and1 (x : Nat) (h : x < 18446744073709551616) : bits .and .u64 (x : Int) 1 = ((x % 2 : Nat) : Int) := by
  have := u64_and_nat x 1 h (by omega)
  rw [nat_mask1] at this
  exact this

theorem not_bits (y : Nat) (h : y < 18446744073709551616) : (BitVec.allOnes 64 ^^^ BitVec.ofInt 64 (y : Int)).toNat = 18446744073709551615 - y := by
  rw [BitVec.allOnes_xor, BitVec.toNat_not, ofInt_u64 y h]
theorem not_i64 (y : Nat) (h : y < 9223372036854775808) : bits .xor .i64 (-1) (y : Int) = -(y : Int) - 1 := by
  have e : BitVec.ofInt 64 (-1) = BitVec.allOnes 64 := by decide
  have := not_bits y (by omega)
  rw [← e] at this
  show IntKind.i64.wrap ((BitVec.ofInt 64 (-1) ^^^ BitVec.ofInt 64 (y : Int)).toNat : Int) = _
  rw [this, IntKind.wrap_i64]
  omega
theorem not_u64 (y : Nat) (h : y < 18446744073709551616) : bits .xor .u64 IntKind.u64.max (y : Int) = ((18446744073709551615 - y : Nat) : Int) := by
  have e : BitVec.ofInt 64 IntKind.u64.max = BitVec.allOnes 64 := by decide
  have := not_bits y (by omega)
  rw [← e] at this
  show IntKind.u64.wrap ((BitVec.ofInt 64 IntKind.u64.max ^^^ BitVec.ofInt 64 (y : Int)).toNat : Int) = _
  rw [this, IntKind.wrap_u64]
  omega
theorem fold_neg {n : Int} (h1 : -9223372036854775808 ≤ n) (h : n < 0) : bits .xor .u64 IntKind.u64.max (IntKind.u64.wrap (IntKind.u64.wrap n * 2)) = ((zz n : Nat) : Int) := by
  have e : IntKind.u64.wrap (IntKind.u64.wrap n * 2) = ((2 * n + 18446744073709551616).toNat : Int) := by
    rw [IntKind.wrap_u64, IntKind.wrap_u64]
    omega
  rw [e, not_u64 _ (by omega), zz, if_pos h]
  omega
theorem fold_pos {n : Int} (h : 0 ≤ n) : n * 2 = ((zz n : Nat) : Int) := by
  rw [zz, if_neg (by omega)]
  omega

theorem ret1 {x x' : Int} {k : IntKind} (h : x = x') : Ending.returned (.int k x) = .returned (.int k x') := by rw [h]

theorem horner_rel (s : ByteArray) (j n : Nat) (hj : j ≤ n) (hns : n < s.size) (X : Nat) (hX : X = pv (s.data.toList.drop (j + 1)) (n - j)) :
    (∃ k : Nat, k ≤ n ∧ Value.int .i64 ((j : Int) - 1) = .int .i64 k ∧ Value.int .u64 (128 * (X : Int) + (s[j].toNat : Int) % 128) = .int .u64 (pv (s.data.toList.drop (k + 1)) (n - k) : Nat)) ∨
      (Value.int .i64 ((j : Int) - 1) = .int .i64 (-1) ∧ Value.int .u64 (128 * (X : Int) + (s[j].toNat : Int) % 128) = .int .u64 (pv s.data.toList (n + 1) : Nat)) := by
  have hh := (horner s j n hj hns).1
  rw [← hX] at hh
  have e : 128 * (X : Int) + (s[j].toNat : Int) % 128 = ((pv (s.data.toList.drop j) (n + 1 - j) : Nat) : Int) := by omega
  rw [e]
  cases j with
  | zero => right; exact ⟨rfl, by simp⟩
  | succ j =>
    left
    exact ⟨j, by omega, by rw [show ((j + 1 : Nat) : Int) - 1 = (j : Int) by omega], by rw [show n + 1 - (j + 1) = n - j by omega]⟩

set_option maxRecDepth 100000 in
set_option maxHeartbeats 400000 in
theorem read_any (s : ByteArray) (w : World) (hs : s.size ≤ maxLen) :
    Calls Try.prog 22 #[.string s] w fun e w' => e = .returned (.tuple #[.int .u64 ((rd s.data.toList).1 : Int), .int .i64 ((rd s.data.toList).2.1 : Int), .int .i64 ((rd s.data.toList).2.2 : Int)]) ∧ w = w' := by
  unfold maxLen at hs
  go_enter Try.func22, Try.ntmps22
  go_wp2
  go_loop [5] (fun i => ∃ k : Nat, k ≤ s.size ∧ k ≤ 9 ∧ Hid (k ≤ lead s.data.toList 9) ∧ i = .int .i64 k) (fun i => s.size - (intOf i).toNat)
  case atStart => exact ⟨0, Nat.zero_le _, by omega, Nat.zero_le _, rfl⟩
  case round =>
    obtain ⟨k, hk, hk9, hl, rfl⟩ := hrel
    by_cases hlt : k < s.size
    · by_cases hb : 128 ≤ s[k].toNat ∧ k < 9
      · obtain ⟨hb1, hb2⟩ := hb
        have hc1 : 128 ≤ (s[k].toNat : Int) := by omega
        have hc2 : (k : Int) < 9 := by omega
        go_wp2
        go_round
        case rel => exact ⟨k + 1, by omega, by omega, lead_more s k hlt hb2 hl.out hc1, by go_num⟩
        case measure => simp [intOf]; omega
      · have hne : ((k : Int) == (s.size : Int)) = false := by simp; omega
        by_cases hf : k = 9 ∧ 1 < s[k].toNat
        · obtain ⟨rfl, hf⟩ := hf
          have h1 : 1 < (s[9].toNat : Int) := by omega
          go_wp2
          all_goals go_ret3
          all_goals exact ⟨by rw [rd_tenth s hlt hl.out h1]; rfl, rfl⟩
        · by_cases hz : 0 < k ∧ s[k].toNat = 0
          · obtain ⟨hp, hz⟩ := hz
            have hlt128 : (s[k].toNat : Int) < 128 := by omega
            have hz0 : ((s[k].toNat : Int) == 0) = true := by simp [hz]
            have hrd := Lib.hid (rd_zero s k hlt hl.out hz hp)
            clear hb hf hz
            by_cases h9 : k = 9
            · subst h9
              go_wp2
              all_goals (go_ret3; exact ⟨by rw [hrd.out]; rfl, rfl⟩)
            · have h9' : ((k : Int) == 9) = false := by simp; omega
              go_wp2
              all_goals (go_ret3; exact ⟨by rw [hrd.out]; rfl, rfl⟩)
          · have hrd0 := rd_stop s k hlt hl.out (by omega) (fun _ => by omega) (by omega)
            have hbound := (rd_ok hrd0).2.2.2
            have hrd := Lib.hid hrd0
            have hlt128 : (s[k].toNat : Int) < 128 := by omega
            have hcases : (k = 9 ∧ (s[k].toNat : Int) ≤ 1 ∧ ((s[k].toNat : Int) == 0) = false) ∨ k = 0 ∨ (((k : Int) == 9) = false ∧ 0 < k ∧ ((s[k].toNat : Int) == 0) = false) := by
              simp; omega
            obtain ⟨n, hn, hns, hn9, hrdn, hpb⟩ : ∃ n, Hid (n = k) ∧ n < s.size ∧ n ≤ 9 ∧ Hid (rd s.data.toList = (pv s.data.toList (n + 1), n + 1, 0)) ∧ pv s.data.toList (n + 1) < 18446744073709551616 := ⟨k, rfl, hlt, hk9, hrd, hbound⟩
            clear hb hf hz hrd0 hrd hl hbound
            rcases hcases with ⟨rfl, ha1, ha2⟩ | rfl | ⟨ha1, ha2, ha3⟩
            all_goals
              go_wp2
              go_loop [6, 7] (fun x i => (∃ j : Nat, j ≤ n ∧ i = .int .i64 j ∧ x = .int .u64 (pv (s.data.toList.drop (j + 1)) (n - j) : Nat)) ∨ (i = .int .i64 (-1) ∧ x = .int .u64 (pv s.data.toList (n + 1) : Nat))) (fun _ i => (intOf i + 1).toNat)
              case atStart => exact .inl ⟨n, Nat.le_refl _, by have hn' := hn.out; subst hn'; rfl, by rw [Nat.sub_self, pv_zero]; rfl⟩
              case round =>
                rcases hrel with ⟨j, hj, rfl, rfl⟩ | ⟨rfl, rfl⟩
                · obtain ⟨hh1, hh2⟩ := horner s j n hj hns
                  have hjs : j < s.size := by omega
                  obtain ⟨X, hX⟩ : ∃ X, Hid (X = pv (s.data.toList.drop (j + 1)) (n - j)) := ⟨_, rfl⟩
                  rw [← hX.out] at hh1 ⊢
                  have hX1 : 128 * (X : Int) + (s[j].toNat : Int) % 128 ≤ 18446744073709551615 := by omega
                  have HH := Lib.hid hh1
                  clear hh1 hh2
                  go_wp2
                  go_round
                  case rel => exact horner_rel s j n hj hns X hX.out
                  case measure => simp only [intOf]; omega
                · go_wp2
                  go_ret3
                  refine ⟨?_, rfl⟩
                  rw [hrdn.out]
                  have hn' := hn.out
                  exact ret3 rfl (by show _ = ((n + 1 : Nat) : Int); omega) rfl
    · have hne : ((k : Int) == (s.size : Int)) = true := by simp; omega
      go_wp2
      go_ret3
      exact ⟨by rw [rd_short s k hlt hl.out]; rfl, rfl⟩


set_option maxRecDepth 100000 in
theorem readUint_any (s : ByteArray) (w : World) (hs : s.size ≤ maxLen) :
    Calls Try.prog 12 #[.string s] w fun e w' => e = .returned (.tuple #[.int .i64 ((rdU s.data.toList).1 : Int), .int .i64 ((rdU s.data.toList).2.1 : Int), .int .i64 ((rdU s.data.toList).2.2 : Int)]) ∧ w = w' := by
  have c := read_any s w hs
  rcases rdU_cases s.data.toList with ⟨h, h2⟩ | ⟨h, h2⟩ | ⟨x, n, h2, hx, h⟩ | ⟨x, n, h2, hx, h⟩
  all_goals
    rw [h2] at c
    rw [h]
    clear h h2
    go_enter Try.func12, Try.ntmps12
    go_wp2_with (go_at_call 22; refine c.mono ?_; rintro e w' ⟨rfl, rfl⟩)
    go_ret3
    exact ⟨rfl, rfl⟩

theorem rd_lt (l : List UInt8) : (rd l).1 < 18446744073709551616 := by
  rcases rd_cases l with h | h | ⟨x, n, h⟩
  · rw [h]; decide
  · rw [h]; decide
  · rw [h]; exact (rd_ok h).2.2.2

end Go.Proofs.Ytpfgijmhoenpkaa.Wr
