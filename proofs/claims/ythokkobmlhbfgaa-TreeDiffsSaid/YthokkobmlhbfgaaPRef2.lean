/- What the document's own functions of paths answer, but for Split: contracts. -/
import Derived.Test.YthokkobmlhbfgaaPRef
namespace Go.Proofs.Ythokkobmlhbfgaa.Pr
open Go.RowKit Pm Tx
set_option linter.unusedVariables false

theorem take_at (p : ByteArray) (k : Nat) (h : k < p.size) : p.data.toList.take (k + 1) = p.data.toList.take k ++ [p[k]] := by
  have h' : k < p.data.toList.length := by rw [len_l]; exact h
  rw [List.take_succ_eq_append_getElem h']
  rfl
theorem take_all (p : ByteArray) : p.data.toList.take p.size = p.data.toList := List.take_of_length_le (by rw [len_l]; omega)
theorem all_at (p : ByteArray) (k : Nat) (h : k < p.size) (ha : (p.data.toList.take k).all okC = true) (hb : okC p[k] = true) : (p.data.toList.take (k + 1)).all okC = true := by
  rw [take_at p k h, List.all_append, ha]
  simp [hb]
theorem all_not (p : ByteArray) (k : Nat) (h : k < p.size) (hb : okC p[k] = false) : isName p.data.toList = false := by
  have h' : k < p.data.toList.length := by rw [len_l]; exact h
  have : p.data.toList.all okC = false := by
    rw [← Bool.not_eq_true, List.all_eq_true]
    intro hall
    have := hall _ (List.getElem_mem h')
    have e : p.data.toList[k] = p[k] := rfl
    rw [e, hb] at this
    cases this
  rw [isName, this, Bool.and_false]

set_option maxRecDepth 100000 in
set_option maxHeartbeats 1000000 in
theorem refName_any (s : ByteArray) (w : World) (hs : s.size ≤ 9223372036854775807) :
    Calls Try.prog 52 #[.string s] w fun e w' => e = .returned (.bool (isName s.data.toList)) ∧ w = w' := by
  by_cases h0 : 1 ≤ s.size ∧ s.size ≤ 12
  · obtain ⟨h1, h2⟩ := h0
    go_enter Try.func52, Try.ntmps52
    go_wp2
    go_loop [3] (fun i => ∃ k : Nat, k ≤ s.size ∧ i = .int .i64 k ∧ Hid ((s.data.toList.take k).all okC = true)) (fun i => s.size - (intOf i).toNat)
    case atStart => exact ⟨0, Nat.zero_le _, rfl, rfl⟩
    case round =>
      obtain ⟨k, hk, rfl, hall⟩ := hrel
      by_cases hlt : k < s.size
      · have hX := s[k].toNat_lt
        have hgood := fun h => Lib.hid (all_at s k hlt hall.out h)
        have hbad := fun h => Lib.hid (all_not s k hlt h)
        obtain ⟨X, hXe⟩ : ∃ X, X = s[k].toNat := ⟨_, rfl⟩
        have hok : okC s[k] = ((97 ≤ X && X ≤ 122) || (48 ≤ X && X ≤ 57) || X == 95) := by rw [hXe]; rfl
        rw [hok] at hgood hbad
        rw [← hXe] at hX
        have hXe' := hXe.symm
        clear hok hXe hall
        rcases show (X < 48) ∨ (57 < X ∧ X < 95) ∨ X = 96 ∨ 122 < X ∨ (48 ≤ X ∧ X ≤ 57) ∨ X = 95 ∨ (97 ≤ X ∧ X ≤ 122) by omega with h | h | h | h | h | h | h
        · have hb := hbad (by simp; omega)
          have e : ((X : Int) == 95) = false := beq_eq_false_iff_ne.2 (by omega)
          clear hgood hbad
          go_wp2
          go_ret
          exact ⟨by rw [hb.out]; rfl, rfl⟩
        · have hb := hbad (by simp; omega)
          have e : ((X : Int) == 95) = false := beq_eq_false_iff_ne.2 (by omega)
          have d57 : decide ((X : Int) ≤ 57) = false := decide_eq_false (by omega)
          clear hgood hbad
          go_wp2
          go_ret
          exact ⟨by rw [hb.out]; rfl, rfl⟩
        · have hb := hbad (by simp; omega)
          have e : ((X : Int) == 95) = false := beq_eq_false_iff_ne.2 (by omega)
          have d57 : decide ((X : Int) ≤ 57) = false := decide_eq_false (by omega)
          clear hgood hbad
          go_wp2
          go_ret
          exact ⟨by rw [hb.out]; rfl, rfl⟩
        · have hb := hbad (by simp; omega)
          have e : ((X : Int) == 95) = false := beq_eq_false_iff_ne.2 (by omega)
          have d57 : decide ((X : Int) ≤ 57) = false := decide_eq_false (by omega)
          have d122 : decide ((X : Int) ≤ 122) = false := decide_eq_false (by omega)
          clear hgood hbad
          go_wp2
          go_ret
          exact ⟨by rw [hb.out]; rfl, rfl⟩
        · have hb := hgood (by simp; omega)
          have e : ((X : Int) == 95) = false := beq_eq_false_iff_ne.2 (by omega)
          clear hgood hbad
          go_wp2
          go_round
          case rel => exact ⟨k + 1, by omega, by go_num, hb.out⟩
          case measure => simp [intOf]; omega
        · have hb := hgood (by simp; omega)
          have e : ((X : Int) == 95) = true := by simp [h]
          clear hgood hbad
          go_wp2
          go_round
          case rel => exact ⟨k + 1, by omega, by go_num, hb.out⟩
          case measure => simp [intOf]; omega
        · have hb := hgood (by simp; omega)
          have e : ((X : Int) == 95) = false := beq_eq_false_iff_ne.2 (by omega)
          clear hgood hbad
          go_wp2
          go_round
          case rel => exact ⟨k + 1, by omega, by go_num, hb.out⟩
          case measure => simp [intOf]; omega
      · obtain rfl : k = s.size := by omega
        have hn : isName s.data.toList = true := by
          have h := hall.out
          rw [take_all] at h
          rw [isName, h, len_l]
          simp [h1, h2]
        have HN := Lib.hid hn
        clear hn hall
        go_wp2
        go_ret
        exact ⟨by rw [HN.out]; rfl, rfl⟩
  · have hn : isName s.data.toList = false := by
      rw [isName, len_l]
      by_cases h1 : 1 ≤ s.size
      · have h2 : ¬ s.size ≤ 12 := fun h2 => h0 ⟨h1, h2⟩
        simp [h2]
      · simp [h1]
    rw [hn]
    rcases show s.size < 1 ∨ 12 < s.size by omega with h | h
    all_goals
      clear h0 hn
      go_enter Try.func52, Try.ntmps52
      go_wp2
      go_ret
      exact ⟨rfl, rfl⟩

set_option maxRecDepth 100000 in
set_option maxHeartbeats 1000000 in
theorem reflast_any (s : ByteArray) (w : World) (hs : s.size ≤ 9223372036854775807) :
    Calls Try.prog 54 #[.string s] w fun e w' => e = .returned (.int .i64 ((lastN s.data.toList : Nat) - 1)) ∧ w = w' := by
  go_enter Try.func54, Try.ntmps54
  go_wp2
  go_loop [3, 4] (fun a i => ∃ k L : Nat, k ≤ s.size ∧ i = .int .i64 k ∧ a = .int .i64 ((L : Int) - 1) ∧ Hid (L = lastN (s.data.toList.take k))) (fun _ i => s.size - (intOf i).toNat)
  case atStart => exact ⟨0, 0, Nat.zero_le _, rfl, rfl, rfl⟩
  case round =>
    obtain ⟨k, L, hk, rfl, rfl, hL⟩ := hrel
    by_cases hlt : k < s.size
    · have hX := s[k].toNat_lt
      have hn := lastN_snoc (s.data.toList.take k) s[k]
      rw [← take_at s k hlt, List.length_take, len_l, Nat.min_eq_left hk] at hn
      by_cases hc : s[k].toNat = 47
      · rw [if_pos (UInt8.toNat_inj.1 hc)] at hn
        have HN := Lib.hid hn
        have e : ((s[k].toNat : Int) == 47) = true := by simp [hc]
        clear hn hc hL
        go_wp2
        go_round
        case rel => exact ⟨k + 1, k + 1, by omega, by go_num, by go_num, HN.out.symm⟩
        case measure => simp [intOf]; omega
      · rw [if_neg (fun e => hc (by rw [e]; rfl)), ← hL.out] at hn
        have HN := Lib.hid hn
        have e : ((s[k].toNat : Int) == 47) = false := beq_eq_false_iff_ne.2 (by omega)
        clear hn hc hL
        go_wp2
        go_round
        case rel => exact ⟨k + 1, L, by omega, by go_num, rfl, HN.out.symm⟩
        case measure => simp [intOf]; omega
    · obtain rfl : k = s.size := by omega
      have h := hL.out
      rw [take_all] at h
      subst h
      clear hL
      go_wp2
      go_ret
      exact ⟨rfl, rfl⟩

end Go.Proofs.Ythokkobmlhbfgaa.Pr
