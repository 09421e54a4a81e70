/- What the package's own Turn answers: contract. -/
import Derived.Test.YtihbibhmkpefgaaFTurn
namespace Go.Proofs.Ytihbibhmkpefgaa.Fr
open Go.RowKit Wm Wr Fm
set_option linter.unusedVariables false

/-- The world in which s's bytes are laid. -/
def made (w : World) (s : ByteArray) (c : Nat) : World := w.drew.alloc (.cells (bytesRow s c) 5 ((bytesRow s c).size, (bytesRow s c).size + 1))
theorem row_size (s : ByteArray) (c : Nat) : s.size ≤ (bytesRow s c).size := by
  unfold bytesRow
  simp
theorem made_cell (w : World) (s : ByteArray) (c k : Nat) (h : k < s.size) : (made w s c).cell? ⟨w.heap.size, k, none⟩ = some (bv (s.data.toList.getD k 0)) := by
  have h1 := World.cell?_alloc_mark w.drew (bytesRow s c) 5 ((bytesRow s c).size, (bytesRow s c).size + 1) k
  have h2 := bytesRow_at s c k h
  have h3 : (made w s c).cell? ⟨w.heap.size, k, none⟩ = (bytesRow s c)[k]? := h1
  rw [h3, h2, bv, List.getD_eq_getElem?_getD, List.getElem?_eq_getElem (by rw [len_l]; exact h)]
  simp
theorem made_at (w : World) (s : ByteArray) (c k : Nat) (h : k < s.size) : (made w s c).cell? ⟨w.heap.size, k, none⟩ = some (bv (s.data.toList.getD k 0)) ∧ (made w s c).frozen? ⟨w.heap.size, k, none⟩ = false := by
  refine ⟨made_cell w s c k h, ?_⟩
  have h1 := World.frozen?_alloc_mark w.drew (bytesRow s c) 5 (bytesRow s c).size ((bytesRow s c).size + 1) k
  have h3 : (made w s c).frozen? ⟨w.heap.size, k, none⟩ = (decide ((bytesRow s c).size ≤ k) && decide (k < (bytesRow s c).size + 1)) := h1
  have h4 := row_size s c
  rw [h3]
  simp
  omega
theorem made_below (w : World) (s : ByteArray) (c : Nat) : Below w.heap.size w (made w s c) := ((Below.refl _ w).drew).alloc (Nat.le_refl _) _
theorem add_zero_at (b j : Nat) : (⟨b, 0, none⟩ : Addr).add j = ⟨b, j, none⟩ := by
  unfold Addr.add
  split
  · next h => rw [h]
  · rw [Nat.zero_add]
/-- Read back with one byte put. -/
theorem made_back (w : World) (s : ByteArray) (c B : Nat) (h : B / 8 < s.size) (W : World) (hW : W.heap = ((made w s c).setCell ⟨w.heap.size, B / 8, none⟩ (bv (UInt8.ofNat (flip (s.data.toList.getD (B / 8) 0).toNat (B % 8))))).heap) :
    (convert 46 9 (.slice (some ⟨w.heap.size, 0, none⟩) s.size c)).run Try.prog W = .ok (.string (trn s B)) W := by
  have hl := trn_list s B h
  have hsz : (trn s B).data.toList.length = s.size := by rw [hl, List.length_set, len_l]
  have hcv := run_convert_bytes_back (P := Try.prog) W 46 9 5 ⟨w.heap.size, 0, none⟩ c (trn s B).data.toList Try.underlying46 Try.underlying5 Try.underlying9 (fun j hj => by
    have hj' : j < s.size := by rw [hsz] at hj; exact hj
    have e1 : W.cell? ((⟨w.heap.size, 0, none⟩ : Addr).add j) = ((made w s c).setCell ⟨w.heap.size, B / 8, none⟩ (bv (UInt8.ofNat (flip (s.data.toList.getD (B / 8) 0).toNat (B % 8))))).cell? ⟨w.heap.size, j, none⟩ := by
      rw [add_zero_at]
      unfold World.cell?
      rw [hW]
    rw [e1]
    have e2 : (trn s B).data.toList[j]? = some ((trn s B).data.toList[j]) := List.getElem?_eq_getElem hj
    have e3 : ((trn s B).data.toList)[j]? = (s.data.toList.set (B / 8) (UInt8.ofNat (flip (s.data.toList.getD (B / 8) 0).toNat (B % 8))))[j]? := by rw [hl]
    rw [e3, List.getElem?_set] at e2
    by_cases hjB : B / 8 = j
    · subst hjB
      rw [World.cell?_setCell_same _ _ _ (made_cell w s c (B / 8) h)]
      rw [if_pos rfl, if_pos (by rw [len_l]; exact h)] at e2
      injection e2 with e2
      rw [← e2]
      rfl
    · rw [if_neg hjB] at e2
      rw [World.cell?_setCell_other _ _ _ _ (by intro hh; injection hh with _ hh _; exact hjB hh), made_cell w s c j hj', bv, List.getD_eq_getElem?_getD, e2]
      rfl)
  rw [hsz] at hcv
  exact hcv

theorem flip_lt' (c i : Nat) (hc : c < 256) (hi : i < 8) : flip c i < 256 := (flip_all c hc i hi).2.1
theorem pow_lt8 (B : Nat) : 2 ^ (B % 8) < 256 := by
  have := pow_small (B % 8) (Nat.mod_lt _ (by omega))
  omega

set_option maxRecDepth 100000 in
set_option maxHeartbeats 1000000 in
theorem fTurn_any (s : ByteArray) (bit : Int) (w : World) (hs : s.size ≤ 140737488355328) (h1 : -9223372036854775808 ≤ bit) (h2 : bit ≤ 9223372036854775807) :
    Calls Try.prog 13 #[.string s, .int .i64 bit] w fun e w' => e = .returned (.string (tn s bit)) ∧ Below w.heap.size w w' := by
  by_cases h0 : s.size = 0
  · rw [tn, if_pos h0]
    obtain rfl : s = ⟨#[]⟩ := by
      apply ByteArray.ext
      exact Array.size_eq_zero_iff.1 h0
    go_enter Try.func13, Try.ntmps13
    go_wp2
    go_ret
    exact ⟨rfl, Below.refl _ _⟩
  · have e0 : s.toList.isEmpty = false := by
      rw [ByteArray.toList_eq]
      cases hc : s.data.toList with
      | nil => exact absurd (by rw [← len_l, hc]; rfl) h0
      | cons a l => rfl
    rw [tn, if_neg h0]
    obtain ⟨B, hB, hBl⟩ : ∃ B : Nat, (B : Int) = bit % (8 * s.size : Nat) ∧ B < 8 * s.size := by
      have h3 := Int.emod_nonneg bit (show ((8 * s.size : Nat) : Int) ≠ 0 by omega)
      have h4 := Int.emod_lt_of_pos bit (show (0 : Int) < ((8 * s.size : Nat) : Int) by omega)
      obtain ⟨M, hM⟩ : ∃ M, M = bit % ((8 * s.size : Nat) : Int) := ⟨_, rfl⟩
      rw [← hM] at h3 h4 ⊢
      exact ⟨M.toNat, Int.toNat_of_nonneg h3, by omega⟩
    rw [← hB, Int.toNat_natCast]
    have hcast : ((8 * s.size : Nat) : Int) = 8 * (s.size : Int) := by omega
    have hcases : (bit.tmod (8 * (s.size : Int)) = B) ∨ (bit.tmod (8 * (s.size : Int)) < 0 ∧ bit.tmod (8 * (s.size : Int)) + 8 * (s.size : Int) = B) := by
      rw [← hcast, hB]
      by_cases hn : 0 ≤ bit
      · left; exact rem_pos hn
      · rcases rem_neg (n := 8 * s.size) (by omega) (show bit < 0 by omega) with ⟨h3, h4⟩ | h3
        · left; rw [h3, h4]
        · right; exact h3
    clear hB hcast h0
    obtain ⟨R, hR⟩ : ∃ R, R = bit.tmod (8 * (s.size : Int)) := ⟨_, rfl⟩
    rw [← hR] at hcases
    have hR' : bit.tmod (8 * (s.size : Int)) = R := hR.symm
    clear hR
    have hsz : 1 ≤ (s.size : Int) := by omega
    rcases hcases with rfl | ⟨hneg, hsum⟩
    all_goals
      have hb1 := run_bytes_of_string (P := Try.prog) w 9 46 5 s Try.underlying9 Try.underlying46 Try.underlying5
      have hat := made_at w s (grownCap w s.size 0 5) (B / 8) (by omega)
      have hbk := made_back w s (grownCap w s.size 0 5) B (by omega)
      have hbel := made_below w s (grownCap w s.size 0 5)
      obtain ⟨W1, hW1⟩ : ∃ W1, W1 = made w s (grownCap w s.size 0 5) := ⟨_, rfl⟩
      rw [show w.drew.alloc _ = made w s (grownCap w s.size 0 5) from rfl, ← hW1] at hb1
      rw [← hW1] at hat hbk hbel
      obtain ⟨C, hC⟩ : ∃ C, C = grownCap w s.size 0 5 := ⟨_, rfl⟩
      rw [← hC] at hb1 hbk
      clear hW1 hC
      obtain ⟨ha1, ha2⟩ := hat
      obtain ⟨c, hc⟩ : ∃ c, c = (s.data.toList.getD (B / 8) 0).toNat := ⟨_, rfl⟩
      rw [bv, ← hc] at ha1
      rw [← hc] at hbk
      have hcl : c < 256 := by rw [hc]; exact (s.data.toList.getD (B / 8) 0).toNat_lt
      have hf := flip_lt' c (B % 8) hcl (by omega)
      have hxor := u8_xor_nat c (2 ^ (B % 8)) hcl (pow_lt8 B)
      rw [show c ^^^ 2 ^ (B % 8) = flip c (B % 8) from rfl] at hxor
      obtain ⟨V, hV⟩ : ∃ V, V = flip c (B % 8) := ⟨_, rfl⟩
      rw [← hV] at hbk hf hxor
      have ebv : bv (UInt8.ofNat V) = .int .u8 (V : Int) := by rw [bv]; congr 1; simp; omega
      rw [ebv] at hbk
      have hp8 := pow_lt8 B
      obtain ⟨D, hD⟩ : ∃ D, D = 2 ^ (B % 8) := ⟨_, rfl⟩
      rw [← hD] at hxor
      have g1 : (B : Int).tdiv 8 = ((B / 8 : Nat) : Int) := by rw [Int.tdiv_eq_ediv_of_nonneg (by omega)]; omega
      have g2 : IntKind.i64.wrap ((B / 8 : Nat) : Int) = ((B / 8 : Nat) : Int) := IntWalk.i64_in _ (by omega)
      have g3 : (B : Int).tmod 8 = ((B % 8 : Nat) : Int) := by rw [Int.tmod_eq_emod_of_nonneg (by omega)]; omega
      have g4 : IntKind.i64.wrap ((B % 8 : Nat) : Int) = ((B % 8 : Nat) : Int) := IntWalk.i64_in _ (by omega)
      have g5 : ((B / 8 : Nat) : Int) < s.size := by omega
      have g6 : (B % 8 : Nat) < 8 := by omega
      obtain ⟨K, hK⟩ : ∃ K, K = B / 8 := ⟨_, rfl⟩
      obtain ⟨M, hM⟩ : ∃ M, M = B % 8 := ⟨_, rfl⟩
      rw [← hK] at g1 g2 g5 ha1 ha2 hbk
      rw [← hM] at g3 g4 g6 hD hp8
      have hpm : (2 : Int) ^ M % 256 = (D : Int) := by
        rw [show (2 : Int) ^ M = ((2 ^ M : Nat) : Int) by push_cast; rfl, ← hD]
        omega
      have HP := Lib.hid hpm
      have hc2 := hbk (W1.setCell ⟨w.heap.size, K, none⟩ (.int .u8 (V : Int))).drew rfl
      have hset : Below w.heap.size w (W1.setCell ⟨w.heap.size, K, none⟩ (.int .u8 (V : Int))).drew := (hbel.setCell (Nat.le_refl _) _).drew
      clear hc hV ebv hK hM hbk hpm
      go_enter Try.func13, Try.ntmps13
      go_wp2
      go_region
      all_goals
        rw [HP.out, hxor]
        go_wp2
        go_ret
        exact ⟨rfl, hset⟩

end Go.Proofs.Ytihbibhmkpefgaa.Fr
