/- What the package's own sumOf and Pack answer: contracts. -/
import Derived.Test.YtihbibhmkpefgaaFSum
import Derived.Test.YtihbibhmkpefgaaJoin
namespace Go.Proofs.Ytihbibhmkpefgaa.Fr
open Go.RowKit Wm Wr Fm
set_option linter.unusedVariables false

/-- The four cells once j of them are laid. -/
def lay4 (F j : Nat) : Array Value := (((le4 F).take j).map bv ++ List.replicate (4 - j) (Value.int .u8 0)).toArray
theorem lay4_at (F j : Nat) (h : j < 4) : (lay4 F j)[j]? = some (.int .u8 0) := by
  match j, h with
  | 0, _ => rfl
  | 1, _ => rfl
  | 2, _ => rfl
  | 3, _ => rfl
theorem lay4_set (F j : Nat) (h : j < 4) : (lay4 F j).setIfInBounds j (bv (UInt8.ofNat (F / 256 ^ j % 256))) = lay4 F (j + 1) := by
  have e2 : F / 256 ^ 2 = F / 256 / 256 := by rw [Nat.div_div_eq_div_mul]
  have e3 : F / 256 ^ 3 = F / 256 / 256 / 256 := by rw [Nat.div_div_eq_div_mul, Nat.div_div_eq_div_mul]
  match j, h with
  | 0, _ => simp [lay4, le4]
  | 1, _ => simp [lay4, le4]
  | 2, _ => simp [lay4, le4, e2]
  | 3, _ => simp [lay4, le4, e3]
theorem lay4_full (F : Nat) : lay4 F 4 = ((le4 F).map bv).toArray := rfl
theorem lay4_conv (w : World) (F : Nat) : (convert 46 9 (.slice (some ⟨w.heap.size, 0, none⟩) 4 4)).run Try.prog (w.alloc (.cells (lay4 F 4) 55)) = .ok (.string ⟨(le4 F).toArray⟩) (w.alloc (.cells (lay4 F 4) 55)) :=
  run_convert_bytes_back _ 46 9 5 ⟨w.heap.size, 0, none⟩ 4 (le4 F) Try.underlying46 Try.underlying5 Try.underlying9 (fun j hj => by
    have hj : j < 4 := hj
    obtain rfl | rfl | rfl | rfl : j = 0 ∨ j = 1 ∨ j = 2 ∨ j = 3 := by omega
    all_goals
      rw [lay4_full]
      go_simp
      rfl)
theorem put_byte {w : World} {F j : Nat} {x : Int} (h : j < 4) (hx : x = ((F / 256 ^ j % 256 : Nat) : Int)) : w.alloc (.cells ((lay4 F j).setIfInBounds j (.int .u8 x)) 55) = w.alloc (.cells (lay4 F (j + 1)) 55) := by
  rw [← lay4_set F j h, ← mod_byte, hx]
  rfl

set_option maxRecDepth 100000 in
set_option maxHeartbeats 1000000 in
theorem sumOf_any (s : ByteArray) (w : World) (hs : s.size ≤ maxLen) :
    Calls Try.prog 23 #[.string s] w fun e w' => e = .returned (.string (sum4 s.data.toList)) ∧ Below w.heap.size w w' := by
  have cs := fun W => fSum_same s W hs
  have hFl := fsum_lt s.data.toList
  have hres : Hid ((⟨(le4 (fsum s.data.toList)).toArray⟩ : ByteArray) = sum4 s.data.toList) := rfl
  obtain ⟨F, hF⟩ : ∃ F, F = fsum s.data.toList := ⟨_, rfl⟩
  rw [← hF] at cs hFl hres
  clear hF
  have hcv := lay4_conv w F
  go_enter Try.func23, Try.ntmps23
  go_wp2_with (go_at_call 9; refine (cs _).mono ?_; rintro e w1 ⟨rfl, rfl⟩)
  go_loopw [5, 8] (fun g i wr => ∃ j : Nat, j ≤ 4 ∧ i = .int .i64 j ∧ wr = w.alloc (.cells (lay4 F j) 55)) (fun _ i _ => 4 - (intOf i).toNat)
  case atStart => exact ⟨0, by omega, rfl, rfl⟩
  case round =>
    obtain ⟨j, hj, rfl, rfl⟩ := hrel
    clear cs
    by_cases hlt : j < 4
    · have hat := lay4_at F j hlt
      obtain rfl | rfl | rfl | rfl : j = 0 ∨ j = 1 ∨ j = 2 ∨ j = 3 := by omega
      all_goals
        go_wp2
        go_roundw
        case measure => simp [intOf]
      · exact ⟨1, by omega, by go_num, put_byte (by omega) (by omega)⟩
      · exact ⟨2, by omega, by go_num, put_byte (by omega) (by omega)⟩
      · exact ⟨3, by omega, by go_num, put_byte (by omega) (by omega)⟩
      · exact ⟨4, by omega, by go_num, put_byte (by omega) (by omega)⟩
    · obtain rfl : j = 4 := by omega
      go_wp2
      go_ret
      exact ⟨by rw [← hres.out]; rfl, (Below.refl _ _).alloc (Nat.le_refl _) _⟩

theorem cat_two (x y : ByteArray) : cat [x, y] = x ++ y := by
  apply ByteArray.ext
  simp [cat]
theorem join2_any (bk : Nat) (x y : ByteArray) (w : World) (h0 : w.cell? ⟨bk, 0, none⟩ = some (.string x)) (h1 : w.cell? ⟨bk, 1, none⟩ = some (.string y)) (hbk : bk < w.heap.size) (hlen : x.size + y.size ≤ 140737488355328) :
    Calls Try.prog 21 #[.slice (some ⟨bk, 0, none⟩) 2 2] w fun e w' => e = .returned (.string (x ++ y)) ∧ Below w.heap.size w w' := by
  have h := join_any bk 0 2 [x, y] w (fun j z hz => by
    match j, hz with
    | 0, hz => simp at hz; subst hz; exact h0
    | 1, hz => simp at hz; subst hz; exact h1
    | j + 2, hz => simp at hz) hbk (by simp) (by simp) (by rw [cat_two, ByteArray.size_append]; exact hlen)
  rw [cat_two] at h
  exact h

set_option maxRecDepth 100000 in
set_option maxHeartbeats 1000000 in
theorem fPack_any (s : ByteArray) (w : World) (hs : s.size ≤ 140737488355300) :
    Calls Try.prog 11 #[.string s] w fun e w' => e = .returned (.string (pk s)) ∧ Below w.heap.size w w' := by
  have ct := fun W => putText_any s W (by omega)
  have cs := fun W => sumOf_any s W (by unfold maxLen; omega)
  have hTl : (ts s).size ≤ 10 + s.size := by
    rw [ts, ByteArray.size_append]
    have := vs_le (x := s.size) (by omega)
    omega
  have hpk : Hid (ts s ++ sum4 s.data.toList = pk s) := rfl
  have hQl : (sum4 s.data.toList).size ≤ 4 := by rw [sum4_size]; exact Nat.le_refl _
  obtain ⟨T, hT⟩ : ∃ T, T = ts s := ⟨_, rfl⟩
  obtain ⟨Q, hQ⟩ : ∃ Q, Q = sum4 s.data.toList := ⟨_, rfl⟩
  rw [← hT] at ct hTl hpk
  rw [← hQ] at cs hQl hpk
  have cj := fun W B h0 h1 hb => join2_any B T Q W h0 h1 hb (by omega)
  clear hT hQ
  go_enter Try.func11, Try.ntmps11
  go_wp2_with (first
    | (go_at_call 22; refine (ct _).mono ?_; rintro e w1 ⟨rfl, hb1⟩)
    | (go_at_call 23; refine (cs _).mono ?_; rintro e w2 ⟨rfl, hb2⟩)
    | (go_at_call 21; refine (cj _ _ (by go_simp) (by go_simp) (by go_simp)).mono ?_; rintro e w3 ⟨rfl, hb3⟩))
  go_ret
  exact ⟨by rw [← hpk.out]; rfl, below_call ((below_call hb1 hb2).alloc (below_call hb1 hb2).size _) hb3⟩

end Go.Proofs.Ytihbibhmkpefgaa.Fr
