/- What the document's own Turn answers: contract. -/
import Derived.Test.YtihbibhmkpefgaaFRef
namespace Go.Proofs.Ytihbibhmkpefgaa.Fr
open Go.RowKit Wm Wr Fm
set_option linter.unusedVariables false

/-- A byte with bit i turned. -/
def flip (c i : Nat) : Nat := c ^^^ 2 ^ i
/-- s with the bit number B turned (B below 8 times the size). -/
def trn (s : ByteArray) (B : Nat) : ByteArray := s.extract 0 (B / 8) ++ b1 (UInt8.ofNat (flip (s.data.toList.getD (B / 8) 0).toNat (B % 8))) ++ s.extract (B / 8 + 1) s.size
/-- Turn. -/
def tn (s : ByteArray) (bit : Int) : ByteArray := if s.size = 0 then ⟨#[]⟩ else trn s (bit % (8 * s.size : Nat)).toNat

theorem rem_pos {b : Int} {n : Nat} (h : 0 ≤ b) : b.tmod (n : Int) = b % (n : Int) := Int.tmod_eq_emod_of_nonneg h
theorem rem_neg {b : Int} {n : Nat} (hn : 0 < n) (h : b < 0) : (b.tmod (n : Int) = 0 ∧ b % (n : Int) = 0) ∨ (b.tmod (n : Int) < 0 ∧ b.tmod (n : Int) + n = b % (n : Int)) := by
  have e : b.tmod (n : Int) = -((-b) % (n : Int)) := by
    have h1 : (-b).tmod (n : Int) = (-b) % (n : Int) := Int.tmod_eq_emod_of_nonneg (by omega)
    rw [Int.neg_tmod] at h1
    omega
  rw [e]
  have h1 := Int.emod_nonneg (-b) (show (n : Int) ≠ 0 by omega)
  have h2 := Int.emod_lt_of_pos (-b) (show 0 < (n : Int) by omega)
  by_cases h0 : (-b) % (n : Int) = 0
  · left
    rw [h0]
    refine ⟨rfl, ?_⟩
    have : (n : Int) ∣ b := (Int.dvd_neg).1 (Int.dvd_of_emod_eq_zero h0)
    exact Int.emod_eq_zero_of_dvd this
  · right
    refine ⟨by omega, ?_⟩
    have h3 := Int.mul_ediv_add_emod (-b) (n : Int)
    obtain ⟨q, hq⟩ : ∃ q, q = -b / (n : Int) := ⟨_, rfl⟩
    obtain ⟨m, hm⟩ : ∃ m, m = -b % (n : Int) := ⟨_, rfl⟩
    rw [← hq, ← hm] at h3
    rw [← hm] at h1 h2 h0 ⊢
    have hx : (n : Int) * (-q - 1) = -((n : Int) * q) - n := by rw [Int.mul_sub, Int.mul_neg, Int.mul_one]
    have e2 : b = (n - m) + n * (-q - 1) := by omega
    have e3 : b % (n : Int) = n - m := by
      rw [e2, Int.add_mul_emod_self_left]
      exact Int.emod_eq_of_lt (by omega) (by omega)
    omega

theorem xor_byte (c i : Nat) (hc : c < 256) (hi : i < 8) : (c / 2 ^ i % 2 = 1 → flip c i = c - 2 ^ i ∧ 2 ^ i ≤ c) ∧ (c / 2 ^ i % 2 = 0 → flip c i = c + 2 ^ i) ∧ flip c i < 256 := by
  have h := flip_all c hc i hi
  unfold flip
  refine ⟨fun h1 => ⟨by rw [← h.1, if_pos h1], ?_⟩, fun h1 => by rw [← h.1, if_neg (by omega)], h.2.1⟩
  rcases Nat.lt_or_ge c (2 ^ i) with hlt | hge
  · rw [Nat.div_eq_of_lt hlt] at h1
    omega
  · exact hge
theorem pow_small : ∀ i, i < 8 → 1 ≤ 2 ^ i ∧ 2 ^ i ≤ 128 := by decide

set_option maxRecDepth 100000 in
set_option maxHeartbeats 1000000 in
/-- Behind the reduction: a bit within the text. -/
theorem refTurn_any (s : ByteArray) (bit : Int) (w : World) (hs : s.size ≤ 1125899906842624) (h1 : -9223372036854775808 ≤ bit) (h2 : bit ≤ 9223372036854775807) :
    Calls Try.prog 14 #[.string s, .int .i64 bit] w fun e w' => e = .returned (.string (tn s bit)) ∧ Below w.heap.size w w' := by
  by_cases h0 : s.size = 0
  · rw [tn, if_pos h0]
    have e0 : ((s.size : Int) == 0) = true := by simp [h0]
    clear h0
    go_enter Try.func14, Try.ntmps14
    go_wp2
    go_ret
    exact ⟨rfl, Below.refl _ _⟩
  · have e0 : ((s.size : Int) == 0) = false := beq_eq_false_iff_ne.2 (by omega)
    rw [tn, if_neg h0]
    obtain ⟨B, hB, hBl⟩ : ∃ B : Nat, (B : Int) = bit % (8 * s.size : Nat) ∧ B < 8 * s.size := by
      have h3 := Int.emod_nonneg bit (show ((8 * s.size : Nat) : Int) ≠ 0 by omega)
      have h4 := Int.emod_lt_of_pos bit (show (0 : Int) < ((8 * s.size : Nat) : Int) by omega)
      obtain ⟨M, hM⟩ : ∃ M, M = bit % ((8 * s.size : Nat) : Int) := ⟨_, rfl⟩
      rw [← hM] at h3 h4 ⊢
      exact ⟨M.toNat, Int.toNat_of_nonneg h3, by omega⟩
    rw [← hB, Int.toNat_natCast]
    have hcast : ((8 * s.size : Nat) : Int) = 8 * (s.size : Int) := by omega
    have hcases : (bit.tmod (8 * (s.size : Int)) = B) ∨ (bit.tmod (8 * (s.size : Int)) < 0 ∧ bit.tmod (8 * (s.size : Int)) + 8 * (s.size : Int) = B) := by
      rw [← hcast, hB]
      by_cases hn : 0 ≤ bit
      · left; exact rem_pos hn
      · rcases rem_neg (n := 8 * s.size) (by omega) (show bit < 0 by omega) with ⟨h3, h4⟩ | h3
        · left; rw [h3, h4]
        · right; exact h3
    clear hB hcast h0
    obtain ⟨R, hR⟩ : ∃ R, R = bit.tmod (8 * (s.size : Int)) := ⟨_, rfl⟩
    rw [← hR] at hcases
    have hR' : bit.tmod (8 * (s.size : Int)) = R := hR.symm
    clear hR
    have hsz : 1 ≤ (s.size : Int) := by omega
    rcases hcases with rfl | ⟨hneg, hsum⟩
    all_goals
      go_enter Try.func14, Try.ntmps14
      go_wp2
      go_loop [6, 7] (fun x i => ∃ k : Nat, k ≤ B % 8 ∧ i = .int .i64 k ∧ x = .int .i64 (2 ^ k : Nat)) (fun _ i => B % 8 - (intOf i).toNat)
      case atStart => exact ⟨0, Nat.zero_le _, rfl, rfl⟩
      case round =>
        obtain ⟨k, hk, rfl, rfl⟩ := hrel
        have hk8 : k < 8 := by omega
        have hp := pow_small k hk8
        by_cases hlt : k < B % 8
        · have hlt' : (k : Int) < (B : Int) % 8 := by omega
          have hpe : 2 ^ (k + 1) = 2 ^ k * 2 := Nat.pow_succ 2 k
          obtain ⟨W, hW⟩ : ∃ W, W = 2 ^ k := ⟨_, rfl⟩
          rw [← hW] at hp hpe ⊢
          obtain ⟨hp1, hp2⟩ := hp
          have HP := Lib.hid hpe
          clear hpe hW hlt
          go_wp2
          go_round
          case rel => exact ⟨k + 1, by omega, by go_num, by rw [HP.out]; go_num⟩
          case measure => simp [intOf]; omega
        · have hlt' : (B : Int) % 8 ≤ (k : Int) := by omega
          have hk' : k = B % 8 := by omega
          obtain ⟨hp1, hp2⟩ := hp
          obtain ⟨W, hW⟩ : ∃ W, W = 2 ^ k := ⟨_, rfl⟩
          rw [← hW] at hp1 hp2 ⊢
          have hdiv : (B : Int) / 8 < s.size := by omega
          have hdiv2 : B / 8 < s.size := by omega
          have hc := s[B / 8].toNat_lt
          obtain ⟨Q, hQ⟩ : ∃ Q, Q = s[B / 8].toNat / W := ⟨_, rfl⟩
          have hq : (s[B / 8].toNat : Int) / (W : Int) = (Q : Int) := by rw [hQ]; simp
          have hQl : Q ≤ 255 := by have := Nat.div_le_self s[B / 8].toNat W; omega
          have hX := xor_byte s[B / 8].toNat (B % 8) hc (by omega)
          have hWB : W = 2 ^ (B % 8) := by rw [hW, hk']
          rw [← hWB] at hX
          have hres : trn s B = s.extract 0 (B / 8) ++ b1 (UInt8.ofNat (flip s[B / 8].toNat (B % 8))) ++ s.extract (B / 8 + 1) s.size := by rw [trn, gd s (B / 8) hdiv2]
          obtain ⟨V, hV⟩ : ∃ V, V = flip s[B / 8].toNat (B % 8) := ⟨_, rfl⟩
          rw [← hV] at hX hres
          have hcv := fun W g h => conv_one (UInt8.ofNat V) W g h
          have hVl : V < 256 := hX.2.2
          have ebv : bv (UInt8.ofNat V) = .int .u8 (V : Int) := by rw [bv]; congr 1; simp; omega
          rw [ebv] at hcv
          have hs1 := b1_le (UInt8.ofNat V)
          obtain ⟨Y, hY⟩ : ∃ Y, Y = b1 (UInt8.ofNat V) := ⟨_, rfl⟩
          rw [← hY] at hcv hs1 hres
          have HRES := Lib.hid hres
          have g1 : (B : Int).tdiv 8 = (B : Int) / 8 := Int.tdiv_eq_ediv_of_nonneg (by omega)
          have g2 : IntKind.i64.wrap ((B : Int) / 8) = (B : Int) / 8 := IntWalk.i64_in _ (by omega)
          have g3 : IntKind.i64.wrap ((B : Int) / 8 + 1) = (B : Int) / 8 + 1 := IntWalk.i64_in _ (by omega)
          have g4 : IntKind.u8.wrap (V : Int) = (V : Int) := by rw [IntKind.wrap_u8]; omega
          have g5 : ((B : Int) / 8).toNat = B / 8 := by omega
          have g6 : ((B : Int) / 8 + 1).toNat = B / 8 + 1 := by omega
          have g7 : (B : Int) / 8 + 1 ≤ s.size := by omega
          have HG := Lib.hid (And.intro g2 (And.intro g3 (And.intro g4 (And.intro g5 g6))))
          clear hres ebv hY g2 g3 g4 g5 g6 hW hk' hWB hlt
          by_cases hodd : Q % 2 = 1
          · have t1 : ((Q : Int) % 2 == 1) = true := by simp; omega
            obtain ⟨e1, e2⟩ := hX.1 (by rw [← hQ]; exact hodd)
            have hsub : (W : Int) ≤ (s[B / 8].toNat : Int) := by omega
            have e3 : (s[B / 8].toNat : Int) - (W : Int) = (V : Int) := by omega
            clear e1 hodd hX hV hQ
            go_wp2
            obtain ⟨g2, g3, g4, g5, g6⟩ := HG.out
            go_region
            all_goals
              go_wp2
              go_ret
              exact ⟨by rw [HRES.out]; rfl, ((Below.refl _ _).alloc (Nat.le_refl _) _).drew⟩
          · have t1 : ((Q : Int) % 2 == 1) = false := by simp; omega
            have e1 := hX.2.1 (by rw [← hQ]; omega)
            have e3 : (s[B / 8].toNat : Int) + (W : Int) = (V : Int) := by omega
            clear e1 hodd hX hV hQ
            go_wp2
            obtain ⟨g2, g3, g4, g5, g6⟩ := HG.out
            go_region
            all_goals
              go_wp2
              go_ret
              exact ⟨by rw [HRES.out]; rfl, ((Below.refl _ _).alloc (Nat.le_refl _) _).drew⟩

theorem b1_list (b : UInt8) : (b1 b).data.toList = [b] := rfl
/-- What a turned bit makes of the list. -/
theorem trn_list (s : ByteArray) (B : Nat) (h : B / 8 < s.size) : (trn s B).data.toList = s.data.toList.set (B / 8) (UInt8.ofNat (flip (s.data.toList.getD (B / 8) 0).toNat (B % 8))) := by
  have hl : B / 8 < s.data.toList.length := by rw [len_l]; exact h
  rw [trn, ByteArray.data_append, ByteArray.data_append, Array.toList_append, Array.toList_append, b1_list, ByteArray.data_extract, ByteArray.data_extract, Array.toList_extract, Array.toList_extract]
  rw [List.set_eq_take_append_cons_drop, if_pos hl]
  simp only [List.extract_eq_take_drop, List.drop_zero, Nat.sub_zero, List.append_assoc, List.singleton_append]
  congr 2
  exact List.take_of_length_le (by rw [List.length_drop, len_l]; exact Nat.le_refl _)

end Go.Proofs.Ytihbibhmkpefgaa.Fr
