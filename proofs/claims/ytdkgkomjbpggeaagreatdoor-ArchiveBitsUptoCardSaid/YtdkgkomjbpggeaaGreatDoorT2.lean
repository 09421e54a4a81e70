/- Texts of this seat, one behind the other. -/
import Derived.Test.YtdkgkomjbpggeaaGreatDoorT1
import Derived.Deep.CutBlock
import Derived.Deep.CutRange
import Derived.Deep.RegionWith
import Derived.WalkKit
import Derived.Maps.RangeWalk
import Derived.Lib.Strings
import Derived.Lib.Bytealg
import Derived.Lib.IndexLaws
import Derived.Laws.RangeAny
import Derived.Shelf.RegionOpenPlain
import Derived.Deep.QuietTactic
import Derived.BigQuiet
import Derived.Maps.AppendAt
import Derived.ProofKit
import Derived.OpenShut
import Derived.ShutString
import Derived.Deep.Slices
import Derived.Deep.Fields
import Derived.ChangeSame
import Derived.Test.YtdkgkomjbpggeaaGreatDoorRows
namespace Go.Proofs.YtdkgkomjbpggeaaGreatDoor.Fr
open Go.RowKit Wm Wr Fm
set_option linter.unusedVariables false
def made (w : World) (s : ByteArray) (c : Nat) : World := w.drew.alloc (.cells (bytesRow s c) 5 ((bytesRow s c).size, (bytesRow s c).size + 1))
theorem row_size (s : ByteArray) (c : Nat) : s.size ≤ (bytesRow s c).size := by
  unfold bytesRow
  simp
theorem made_cell (w : World) (s : ByteArray) (c k : Nat) (h : k < s.size) : (made w s c).cell? ⟨w.heap.size, k, none⟩ = some (bv (s.data.toList.getD k 0)) := by
  have h1 := World.cell?_alloc_mark w.drew (bytesRow s c) 5 ((bytesRow s c).size, (bytesRow s c).size + 1) k
  have h2 := bytesRow_at s c k h
  have h3 : (made w s c).cell? ⟨w.heap.size, k, none⟩ = (bytesRow s c)[k]? := h1
  rw [h3, h2, bv, List.getD_eq_getElem?_getD, List.getElem?_eq_getElem (by rw [len_l]; exact h)]
  simp
theorem made_at (w : World) (s : ByteArray) (c k : Nat) (h : k < s.size) : (made w s c).cell? ⟨w.heap.size, k, none⟩ = some (bv (s.data.toList.getD k 0)) ∧ (made w s c).frozen? ⟨w.heap.size, k, none⟩ = false := by
  refine ⟨made_cell w s c k h, ?_⟩
  have h1 := World.frozen?_alloc_mark w.drew (bytesRow s c) 5 (bytesRow s c).size ((bytesRow s c).size + 1) k
  have h3 : (made w s c).frozen? ⟨w.heap.size, k, none⟩ = (decide ((bytesRow s c).size ≤ k) && decide (k < (bytesRow s c).size + 1)) := h1
  have h4 := row_size s c
  rw [h3]
  simp
  omega
theorem made_below (w : World) (s : ByteArray) (c : Nat) : Below w.heap.size w (made w s c) := ((Below.refl _ w).drew).alloc (Nat.le_refl _) _
theorem add_zero_at (b j : Nat) : (⟨b, 0, none⟩ : Addr).add j = ⟨b, j, none⟩ := by
  unfold Addr.add
  split
  · next h => rw [h]
  · rw [Nat.zero_add]
theorem made_back (w : World) (s : ByteArray) (c B : Nat) (h : B / 8 < s.size) (W : World) (hW : W.heap = ((made w s c).setCell ⟨w.heap.size, B / 8, none⟩ (bv (UInt8.ofNat (flip (s.data.toList.getD (B / 8) 0).toNat (B % 8))))).heap) :
    (convert 87 9 (.slice (some ⟨w.heap.size, 0, none⟩) s.size c)).run Tryz.prog W = .ok (.string (trn s B)) W := by
  have hl := trn_list s B h
  have hsz : (trn s B).data.toList.length = s.size := by rw [hl, List.length_set, len_l]
  have hcv := run_convert_bytes_back (P := Tryz.prog) W 87 9 5 ⟨w.heap.size, 0, none⟩ c (trn s B).data.toList Tryz.underlying87 Tryz.underlying5 Tryz.underlying9 (fun j hj => by
    have hj' : j < s.size := by rw [hsz] at hj; exact hj
    have e1 : W.cell? ((⟨w.heap.size, 0, none⟩ : Addr).add j) = ((made w s c).setCell ⟨w.heap.size, B / 8, none⟩ (bv (UInt8.ofNat (flip (s.data.toList.getD (B / 8) 0).toNat (B % 8))))).cell? ⟨w.heap.size, j, none⟩ := by
      rw [add_zero_at]
      unfold World.cell?
      rw [hW]
    rw [e1]
    have e2 : (trn s B).data.toList[j]? = some ((trn s B).data.toList[j]) := List.getElem?_eq_getElem hj
    have e3 : ((trn s B).data.toList)[j]? = (s.data.toList.set (B / 8) (UInt8.ofNat (flip (s.data.toList.getD (B / 8) 0).toNat (B % 8))))[j]? := by rw [hl]
    rw [e3, List.getElem?_set] at e2
    by_cases hjB : B / 8 = j
    · subst hjB
      rw [World.cell?_setCell_same _ _ _ (made_cell w s c (B / 8) h)]
      rw [if_pos rfl, if_pos (by rw [len_l]; exact h)] at e2
      injection e2 with e2
      rw [← e2]
      rfl
    · rw [if_neg hjB] at e2
      rw [World.cell?_setCell_other _ _ _ _ (by intro hh; injection hh with _ hh _; exact hjB hh), made_cell w s c j hj', bv, List.getD_eq_getElem?_getD, e2]
      rfl)
  rw [hsz] at hcv
  exact hcv
theorem flip_lt' (c i : Nat) (hc : c < 256) (hi : i < 8) : flip c i < 256 := (flip_all c hc i hi).2.1
theorem pow_lt8 (B : Nat) : 2 ^ (B % 8) < 256 := by
  have := pow_small (B % 8) (Nat.mod_lt _ (by omega))
  omega
set_option maxRecDepth 100000 in
set_option maxHeartbeats 1000000 in
theorem fTurn_any (s : ByteArray) (bit : Int) (w : World) (hs : s.size ≤ 140737488355328) (h1 : -9223372036854775808 ≤ bit) (h2 : bit ≤ 9223372036854775807) :
    Calls Tryz.prog 39 #[.string s, .int .i64 bit] w fun e w' => e = .returned (.string (tn s bit)) ∧ Below w.heap.size w w' := by
  by_cases h0 : s.size = 0
  · rw [tn, if_pos h0]
    obtain rfl : s = ⟨#[]⟩ := by
      apply ByteArray.ext
      exact Array.size_eq_zero_iff.1 h0
    go_enter Tryz.func39, Tryz.ntmps39
    go_wp2
    go_ret
    exact ⟨rfl, Below.refl _ _⟩
  · have e0 : s.toList.isEmpty = false := by
      rw [ByteArray.toList_eq]
      cases hc : s.data.toList with
      | nil => exact absurd (by rw [← len_l, hc]; rfl) h0
      | cons a l => rfl
    rw [tn, if_neg h0]
    obtain ⟨B, hB, hBl⟩ : ∃ B : Nat, (B : Int) = bit % (8 * s.size : Nat) ∧ B < 8 * s.size := by
      have h3 := Int.emod_nonneg bit (show ((8 * s.size : Nat) : Int) ≠ 0 by omega)
      have h4 := Int.emod_lt_of_pos bit (show (0 : Int) < ((8 * s.size : Nat) : Int) by omega)
      obtain ⟨M, hM⟩ : ∃ M, M = bit % ((8 * s.size : Nat) : Int) := ⟨_, rfl⟩
      rw [← hM] at h3 h4 ⊢
      exact ⟨M.toNat, Int.toNat_of_nonneg h3, by omega⟩
    rw [← hB, Int.toNat_natCast]
    have hcast : ((8 * s.size : Nat) : Int) = 8 * (s.size : Int) := by omega
    have hcases : (bit.tmod (8 * (s.size : Int)) = B) ∨ (bit.tmod (8 * (s.size : Int)) < 0 ∧ bit.tmod (8 * (s.size : Int)) + 8 * (s.size : Int) = B) := by
      rw [← hcast, hB]
      by_cases hn : 0 ≤ bit
      · left; exact rem_pos hn
      · rcases rem_neg (n := 8 * s.size) (by omega) (show bit < 0 by omega) with ⟨h3, h4⟩ | h3
        · left; rw [h3, h4]
        · right; exact h3
    clear hB hcast h0
    obtain ⟨R, hR⟩ : ∃ R, R = bit.tmod (8 * (s.size : Int)) := ⟨_, rfl⟩
    rw [← hR] at hcases
    have hR' : bit.tmod (8 * (s.size : Int)) = R := hR.symm
    clear hR
    have hsz : 1 ≤ (s.size : Int) := by omega
    rcases hcases with rfl | ⟨hneg, hsum⟩
    all_goals
      have hb1 := run_bytes_of_string (P := Tryz.prog) w 9 87 5 s Tryz.underlying9 Tryz.underlying87 Tryz.underlying5
      have hat := made_at w s (grownCap w s.size 0 5) (B / 8) (by omega)
      have hbk := made_back w s (grownCap w s.size 0 5) B (by omega)
      have hbel := made_below w s (grownCap w s.size 0 5)
      obtain ⟨W1, hW1⟩ : ∃ W1, W1 = made w s (grownCap w s.size 0 5) := ⟨_, rfl⟩
      rw [show w.drew.alloc _ = made w s (grownCap w s.size 0 5) from rfl, ← hW1] at hb1
      rw [← hW1] at hat hbk hbel
      obtain ⟨C, hC⟩ : ∃ C, C = grownCap w s.size 0 5 := ⟨_, rfl⟩
      rw [← hC] at hb1 hbk
      clear hW1 hC
      obtain ⟨ha1, ha2⟩ := hat
      obtain ⟨c, hc⟩ : ∃ c, c = (s.data.toList.getD (B / 8) 0).toNat := ⟨_, rfl⟩
      rw [bv, ← hc] at ha1
      rw [← hc] at hbk
      have hcl : c < 256 := by rw [hc]; exact (s.data.toList.getD (B / 8) 0).toNat_lt
      have hf := flip_lt' c (B % 8) hcl (by omega)
      have hxor := u8_xor_nat c (2 ^ (B % 8)) hcl (pow_lt8 B)
      rw [show c ^^^ 2 ^ (B % 8) = flip c (B % 8) from rfl] at hxor
      obtain ⟨V, hV⟩ : ∃ V, V = flip c (B % 8) := ⟨_, rfl⟩
      rw [← hV] at hbk hf hxor
      have ebv : bv (UInt8.ofNat V) = .int .u8 (V : Int) := by rw [bv]; congr 1; simp; omega
      rw [ebv] at hbk
      have hp8 := pow_lt8 B
      obtain ⟨D, hD⟩ : ∃ D, D = 2 ^ (B % 8) := ⟨_, rfl⟩
      rw [← hD] at hxor
      have g1 : (B : Int).tdiv 8 = ((B / 8 : Nat) : Int) := by rw [Int.tdiv_eq_ediv_of_nonneg (by omega)]; omega
      have g2 : IntKind.i64.wrap ((B / 8 : Nat) : Int) = ((B / 8 : Nat) : Int) := IntWalk.i64_in _ (by omega)
      have g3 : (B : Int).tmod 8 = ((B % 8 : Nat) : Int) := by rw [Int.tmod_eq_emod_of_nonneg (by omega)]; omega
      have g4 : IntKind.i64.wrap ((B % 8 : Nat) : Int) = ((B % 8 : Nat) : Int) := IntWalk.i64_in _ (by omega)
      have g5 : ((B / 8 : Nat) : Int) < s.size := by omega
      have g6 : (B % 8 : Nat) < 8 := by omega
      obtain ⟨K, hK⟩ : ∃ K, K = B / 8 := ⟨_, rfl⟩
      obtain ⟨M, hM⟩ : ∃ M, M = B % 8 := ⟨_, rfl⟩
      rw [← hK] at g1 g2 g5 ha1 ha2 hbk
      rw [← hM] at g3 g4 g6 hD hp8
      have hpm : (2 : Int) ^ M % 256 = (D : Int) := by
        rw [show (2 : Int) ^ M = ((2 ^ M : Nat) : Int) by push_cast; rfl, ← hD]
        omega
      have HP := Lib.hid hpm
      have hc2 := hbk (W1.setCell ⟨w.heap.size, K, none⟩ (.int .u8 (V : Int))).drew rfl
      have hset : Below w.heap.size w (W1.setCell ⟨w.heap.size, K, none⟩ (.int .u8 (V : Int))).drew := (hbel.setCell (Nat.le_refl _) _).drew
      clear hc hV ebv hK hM hbk hpm
      go_enter Tryz.func39, Tryz.ntmps39
      go_wp2
      go_region
      all_goals
        rw [HP.out, hxor]
        go_wp2
        go_ret
        exact ⟨rfl, hset⟩
end Go.Proofs.YtdkgkomjbpggeaaGreatDoor.Fr

namespace Go.Proofs.YtdkgkomjbpggeaaGreatDoor.Fr
open Go.RowKit Wm Wr Fm
theorem fSum_any (s : ByteArray) (w : World) (hs : s.size ≤ maxLen) :
    Calls Tryz.prog 108 #[.string s] w fun e w' => e = .returned (.int .u32 (fsum s.data.toList : Nat)) ∧ Below w.heap.size w w' :=
  (fSum_same s w hs).mono fun e w' ⟨h1, h2⟩ => ⟨h1, by subst h2; exact Below.refl _ _⟩
end Go.Proofs.YtdkgkomjbpggeaaGreatDoor.Fr

namespace Go.Proofs.YtdkgkomjbpggeaaGreatDoor.Fr
open Go.RowKit Wm Wr Fm
set_option linter.unusedVariables false
theorem trn_size (s : ByteArray) (B : Nat) (h : B / 8 < s.size) : (trn s B).size = s.size := by
  rw [← len_l, trn_list s B h, List.length_set, len_l]
theorem flip_flip (c i : Nat) (hc : c < 256) (hi : i < 8) : flip (flip c i) i = c := (flip_all c hc i hi).2.2.2.2
theorem flip_lt (c i : Nat) (hc : c < 256) (hi : i < 8) : flip c i < 256 := (flip_all c hc i hi).2.1
theorem flip_ne (c i : Nat) (hc : c < 256) (hi : i < 8) : flip c i ≠ c := by
  intro h
  have := (flip_all c hc i hi).2.2.2.1
  rw [flip] at h
  rw [h] at this
  exact this rfl
theorem ofNat_toNat (n : Nat) (h : n < 256) : (UInt8.ofNat n).toNat = n := by simp; omega
theorem trn_trn (s : ByteArray) (B : Nat) (h : B / 8 < s.size) : trn (trn s B) B = s := by
  have hl : B / 8 < s.data.toList.length := by rw [len_l]; exact h
  apply ByteArray.ext
  apply Array.toList_inj.1
  rw [trn_list _ B (by rw [trn_size s B h]; exact h), trn_list s B h, List.set_set]
  have e : (s.data.toList.set (B / 8) (UInt8.ofNat (flip (s.data.toList.getD (B / 8) 0).toNat (B % 8)))).getD (B / 8) 0 = UInt8.ofNat (flip (s.data.toList.getD (B / 8) 0).toNat (B % 8)) := by
    rw [List.getD_eq_getElem?_getD, List.getElem?_set_self hl]
    rfl
  rw [e, ofNat_toNat _ (flip_lt _ _ (getD_lt _ _) (by omega)), flip_flip _ _ (getD_lt _ _) (by omega)]
  have e2 : UInt8.ofNat (s.data.toList.getD (B / 8) 0).toNat = s.data.toList[B / 8] := by
    rw [List.getD_eq_getElem?_getD, List.getElem?_eq_getElem hl]
    simp
  rw [e2]
  exact List.set_getElem_self hl
theorem fsum_set (l : List UInt8) (j i : Nat) (hj : j < l.length) (hi : i < 8) : fsum (l.set j (UInt8.ofNat (flip (l.getD j 0).toNat i))) ≠ fsum l := by
  have hc := getD_lt l j
  have hx := flip_all (l.getD j 0).toNat hc i hi
  have e : l = l.take j ++ (l.getD j 0 :: l.drop (j + 1)) := by
    rw [List.getD_eq_getElem?_getD, List.getElem?_eq_getElem hj, Option.getD_some, ← List.drop_eq_getElem_cons hj, List.take_append_drop]
  have e2 : l.set j (UInt8.ofNat (flip (l.getD j 0).toNat i)) = l.take j ++ (UInt8.ofNat (flip (l.getD j 0).toNat i) :: l.drop (j + 1)) := by
    rw [List.set_eq_take_append_cons_drop, if_pos hj]
  have s1 : csum 4294967295 l = csum (cbits 8 (csum 4294967295 (l.take j)) (l.getD j 0).toNat) (l.drop (j + 1)) := by
    conv => lhs; rw [e]
    rw [csum_append]
    rfl
  have s2 : csum 4294967295 (l.set j (UInt8.ofNat (flip (l.getD j 0).toNat i))) = csum (cbits 8 (csum 4294967295 (l.take j)) (flip (l.getD j 0).toNat i)) (l.drop (j + 1)) := by
    rw [e2, csum_append]
    have : ∀ c (b : UInt8) (m : List UInt8), csum c (b :: m) = csum (cbits 8 c b.toNat) m := fun _ _ _ => rfl
    rw [this, ofNat_toNat _ (flip_lt _ _ hc hi)]
  have h0 := csum_lt (l.take j) (c := 4294967295) (by decide)
  have hne : cbits 8 (csum 4294967295 (l.take j)) (flip (l.getD j 0).toNat i) ≠ cbits 8 (csum 4294967295 (l.take j)) (l.getD j 0).toNat :=
    cbits_ne 8 i _ _ h0 hi (fun k hk hne => hx.2.2.1 k hk hne) hx.2.2.2.1
  intro h
  have b1 := csum_lt l (c := 4294967295) (by decide)
  have b2 := csum_lt (l.set j (UInt8.ofNat (flip (l.getD j 0).toNat i))) (c := 4294967295) (by decide)
  have h' : csum 4294967295 (l.set j (UInt8.ofNat (flip (l.getD j 0).toNat i))) = csum 4294967295 l := by unfold fsum at h; omega
  rw [s1, s2] at h'
  exact hne (csum_inj _ (cbits_lt 8 _ h0) (cbits_lt 8 _ h0) h')
theorem rdT_front (t : ByteArray) (m : List UInt8) (h : t.size ≤ 9223372036854775807) : rdT ⟨(vb t.size ++ (t.data.toList ++ m)).toArray⟩ = (t, (vb t.size).length + t.size, 0) := by
  have e : rdU (⟨(vb t.size ++ (t.data.toList ++ m)).toArray⟩ : ByteArray).data.toList = (t.size, (vb t.size).length, 0) := by
    show rdU (vb t.size ++ (t.data.toList ++ m)) = _
    rw [rdU, rd_vb t.size _ (by omega), if_neg]
    rintro ⟨_, h2⟩
    simp only at h2
    omega
  have hlen : (⟨(vb t.size ++ (t.data.toList ++ m)).toArray⟩ : ByteArray).size = (vb t.size).length + (t.size + m.length) := by
    rw [ByteArray.size, List.size_toArray, List.length_append, List.length_append, len_l]
  rw [rdT, e, if_neg (fun h => h rfl), if_neg (by rw [hlen]; show ¬ _ < (vb t.size).length + t.size; omega)]
  congr 1
  apply ByteArray.ext
  rw [ByteArray.data_extract]
  apply Array.toList_inj.1
  rw [← len_l t]
  simp
theorem fr_front (t : ByteArray) (m r : List UInt8) (h : t.size ≤ 9223372036854775807) (hm : m.length = 4) :
    fr ⟨(vb t.size ++ (t.data.toList ++ (m ++ r))).toArray⟩ = if m = le4 (fsum t.data.toList) then (t, (vb t.size).length + t.size + 4, 0) else (⟨#[]⟩, 0, 6) := by
  have e := rdT_front t (m ++ r) h
  have hlen : (⟨(vb t.size ++ (t.data.toList ++ (m ++ r))).toArray⟩ : ByteArray).size = (vb t.size).length + (t.size + (4 + r.length)) := by
    rw [ByteArray.size, List.size_toArray, List.length_append, List.length_append, List.length_append, len_l, hm]
  have hx : (⟨(vb t.size ++ (t.data.toList ++ (m ++ r))).toArray⟩ : ByteArray).extract 0 ((vb t.size).length + t.size + 4) = ⟨(vb t.size ++ (t.data.toList ++ m)).toArray⟩ := by
    apply ByteArray.ext
    rw [ByteArray.data_extract]
    apply Array.toList_inj.1
    rw [Array.toList_extract]
    simp only [List.extract_eq_take_drop, List.drop_zero, Nat.sub_zero]
    rw [show vb t.size ++ (t.data.toList ++ (m ++ r)) = (vb t.size ++ (t.data.toList ++ m)) ++ r by simp]
    exact List.take_left' (by rw [List.length_append, List.length_append, len_l, hm]; omega)
  rw [fr, e, if_neg (fun h => h rfl), if_neg (by rw [hlen]; show ¬ _ - ((vb t.size).length + t.size) < 4; omega)]
  simp only
  rw [hx]
  have hpk : (⟨(vb t.size ++ (t.data.toList ++ m)).toArray⟩ : ByteArray) = pk t ↔ m = le4 (fsum t.data.toList) := by
    constructor
    · intro hh
      have := congrArg (fun b : ByteArray => b.data.toList) hh
      simp only [pk_list] at this
      exact List.append_cancel_left (List.append_cancel_left this)
    · intro hh
      apply ByteArray.ext
      apply Array.toList_inj.1
      rw [pk_list, hh]
  by_cases hh : m = le4 (fsum t.data.toList)
  · rw [if_pos hh, if_neg (fun h => h (hpk.2 hh))]
  · rw [if_neg hh, if_pos (fun h => hh (hpk.1 h))]
theorem fr_turned (s : ByteArray) (r : List UInt8) (B : Nat) (hs : s.size ≤ 9223372036854775807) (h1 : 8 * (vb s.size).length ≤ B) (h2 : B < 8 * (pk s).size) :
    fr ⟨((trn (pk s) B).data.toList ++ r).toArray⟩ = (⟨#[]⟩, 0, 6) := by
  have hp := pk_size s
  have hB : B / 8 < (pk s).size := by omega
  rw [trn_list (pk s) B hB, pk_list]
  obtain ⟨j, hj⟩ : ∃ j, B / 8 = (vb s.size).length + j := ⟨B / 8 - (vb s.size).length, by omega⟩
  rw [hj]
  have hl := len_l s
  have hg : (vb s.size ++ (s.data.toList ++ le4 (fsum s.data.toList))).getD ((vb s.size).length + j) 0 = (s.data.toList ++ le4 (fsum s.data.toList)).getD j 0 := by
    rw [List.getD_eq_getElem?_getD, List.getElem?_append_right (by omega), Nat.add_sub_cancel_left, ← List.getD_eq_getElem?_getD]
  rw [hg, List.set_append_right _ _ (by omega), Nat.add_sub_cancel_left, List.append_assoc]
  by_cases hjs : j < s.size
  · have hg2 : (s.data.toList ++ le4 (fsum s.data.toList)).getD j 0 = s.data.toList.getD j 0 := by
      rw [List.getD_eq_getElem?_getD, List.getElem?_append_left (by omega), ← List.getD_eq_getElem?_getD]
    rw [hg2, List.set_append_left _ _ (by omega), List.append_assoc]
    obtain ⟨t, ht⟩ : ∃ t : ByteArray, t.data.toList = s.data.toList.set j (UInt8.ofNat (flip (s.data.toList.getD j 0).toNat (B % 8))) := ⟨⟨(s.data.toList.set j (UInt8.ofNat (flip (s.data.toList.getD j 0).toNat (B % 8)))).toArray⟩, rfl⟩
    have hts : t.size = s.size := by rw [← len_l, ht, List.length_set, len_l]
    rw [← ht, ← hts, fr_front t _ r (by omega) rfl, if_neg]
    intro h
    have := le4_inj (fsum_lt _) (fsum_lt _) h
    rw [ht] at this
    exact fsum_set s.data.toList j (B % 8) (by omega) (by omega) this.symm
  · have hg2 : (s.data.toList ++ le4 (fsum s.data.toList)).getD j 0 = (le4 (fsum s.data.toList)).getD (j - s.size) 0 := by
      rw [List.getD_eq_getElem?_getD, List.getElem?_append_right (by omega), hl, ← List.getD_eq_getElem?_getD]
    rw [hg2, List.set_append_right _ _ (by omega), hl, List.append_assoc]
    have h4 : (le4 (fsum s.data.toList)).length = 4 := rfl
    have hjl : j - s.size < (le4 (fsum s.data.toList)).length := by omega
    rw [fr_front s _ r hs (by rw [List.length_set]; rfl), if_neg]
    intro h
    have e2 := congrArg (fun l => (l.getD (j - s.size) 0).toNat) h
    rw [List.getD_eq_getElem?_getD (l := (le4 (fsum s.data.toList)).set _ _), List.getElem?_set_self hjl] at e2
    simp only [Option.getD_some] at e2
    rw [ofNat_toNat _ (flip_lt _ _ (getD_lt _ _) (by omega))] at e2
    exact flip_ne _ _ (getD_lt _ _) (by omega) e2
end Go.Proofs.YtdkgkomjbpggeaaGreatDoor.Fr

namespace Go.Proofs.YtdkgkomjbpggeaaGreatDoor.Dk
open Go.RowKit Tx Pm
set_option linter.unusedVariables false
def placeI (l : List It) (p : ByteArray) : Int := if place l p < l.length then (place l p : Int) else -1
theorem find_place {l : List It} {p : ByteArray} : find l p = l[place l p]? := List.find?_eq_getElem?_findIdx
theorem place_le (l : List It) (p : ByteArray) : place l p ≤ l.length := List.findIdx_le_length
theorem find_hit {l : List It} {p : ByteArray} (h : place l p < l.length) : find l p = some (l[place l p]) := by rw [find_place, List.getElem?_eq_getElem h]
theorem find_none {l : List It} {p : ByteArray} (h : ¬ place l p < l.length) : find l p = none := by rw [find_place]; exact List.getElem?_eq_none (by omega)
theorem find_cases (l : List It) (p : ByteArray) : (find l p = none ∧ placeI l p = -1) ∨ ∃ (k : Nat) (x : It), k < l.length ∧ l[k]? = some x ∧ find l p = some x ∧ placeI l p = k ∧ x.path = p := by
  by_cases h : place l p < l.length
  · refine .inr ⟨place l p, l[place l p], h, List.getElem?_eq_getElem h, find_hit h, by rw [placeI, if_pos h], ?_⟩
    have := List.findIdx_getElem (w := h)
    exact of_decide_eq_true this
  · exact .inl ⟨find_none h, by rw [placeI, if_neg h]⟩
end Go.Proofs.YtdkgkomjbpggeaaGreatDoor.Dk

namespace Go.Proofs.YtdkgkomjbpggeaaGreatDoor.Dk
open Go.RowKit Tx Pm
set_option linter.unusedVariables false
def Fit (s : St) : Prop := s.L.length ≤ 1000000000 ∧ (∀ x ∈ s.L, x.path.size ≤ 8000000000000) ∧ whole s.L ≤ 4000000000000000000
end Go.Proofs.YtdkgkomjbpggeaaGreatDoor.Dk



namespace Go.Proofs.YtdkgkomjbpggeaaGreatDoor.Dk
open Go.RowKit Tx Pm
set_option linter.unusedVariables false
theorem all_not {α : Type} (f : α → Bool) (l : List α) (k : Nat) (x : α) (h : l[k]? = some x) (hf : f x = false) : l.all f = false := by
  rw [← Bool.not_eq_true, List.all_eq_true]
  intro hall
  have := hall x (List.mem_of_getElem? h)
  rw [hf] at this
  cases this
end Go.Proofs.YtdkgkomjbpggeaaGreatDoor.Dk

namespace Go.Proofs.YtdkgkomjbpggeaaGreatDoor.Dk
open Go.RowKit Tx Pm
set_option linter.unusedVariables false
theorem set_block {w : World} {b k : Nat} {cs : Array Value} {T : TypeId} {fz : Nat × Nat} (h : w.heap[b]? = some (.cells cs T fz)) (u : Value) : (w.setCell ⟨b, k, none⟩ u).heap[b]? = some (.cells (cs.setIfInBounds k u) T fz) := by
  simp [World.setCell, Array.getElem?_modify, h]
theorem set_other {w : World} {b k i : Nat} (u : Value) (h : i ≠ b) : (w.setCell ⟨b, k, none⟩ u).heap[i]? = w.heap[i]? := Below.heap_setCell w ⟨b, k, none⟩ u i h
theorem chg_set {w : World} {b k : Nat} (u : Value) : Chg (· = b) w (w.setCell ⟨b, k, none⟩ u) := ⟨rfl, rfl, rfl, by simp [World.setCell], fun i _ hi => set_other u hi⟩
theorem Chg.refl (F : Nat → Prop) (w : World) : Chg F w w := ⟨rfl, rfl, rfl, Nat.le_refl _, fun _ _ _ => rfl⟩
theorem Chg.then {F : Nat → Prop} {w w1 w2 : World} (h : Chg F w w1) (h2 : Chg F w1 w2) : Chg F w w2 := h.trans h2 (fun i hi => .inl hi)
theorem new_at (w : World) (o : Obj) {g : Nat} (h : g = w.heap.size) : (w.alloc o).heap[g]? = some o := by
  subst h
  exact heap_alloc_new _ _
def iv (x : It) : Value := .agg #[.string x.path, .bool x.dir, .string x.data, .string x.kept, .bool x.loose, .bool x.anew, .int .i64 x.stamp]
end Go.Proofs.YtdkgkomjbpggeaaGreatDoor.Dk



namespace Go.Proofs.YtdkgkomjbpggeaaGreatDoor.Dk
open Go.RowKit Tx Pm
set_option linter.unusedVariables false
theorem take_more {α : Type} {l : List α} {k : Nat} {x : α} (h : l[k]? = some x) : l.take (k + 1) = l.take k ++ [x] := by
  obtain ⟨hk, he⟩ := List.getElem?_eq_some_iff.1 h
  rw [List.take_succ_eq_append_getElem hk, he]
theorem cells_one (x : It) : ∀ u ∈ cells x, u.oneCell' = true := by
  intro u hu
  simp [cells] at hu
  rcases hu with rfl | rfl | rfl | rfl | rfl | rfl | rfl <;> rfl
structure Seen (w0 : World) (b : Nat) (s : St) (A : Option Addr) (n c : Nat) (W : World) : Prop where
  c0 : W.cell? ⟨b, 0, none⟩ = some (.slice A n c)
  it : ∀ k y, s.L[k]? = some y → ∃ g, A = some ⟨g, 0, none⟩ ∧
    W.cell? ⟨g, k * 7, none⟩ = some (.string y.path) ∧ W.cell? ⟨g, k * 7 + 1, none⟩ = some (.bool y.dir) ∧ W.cell? ⟨g, k * 7 + 2, none⟩ = some (.string y.data) ∧ W.cell? ⟨g, k * 7 + 3, none⟩ = some (.string y.kept) ∧
    W.cell? ⟨g, k * 7 + 4, none⟩ = some (.bool y.loose) ∧ W.cell? ⟨g, k * 7 + 5, none⟩ = some (.bool y.anew) ∧ W.cell? ⟨g, k * 7 + 6, none⟩ = some (.int .i64 y.stamp)
end Go.Proofs.YtdkgkomjbpggeaaGreatDoor.Dk

namespace Go.Proofs.YtdkgkomjbpggeaaGreatDoor.Dk
open Go.RowKit Tx Pm
set_option linter.unusedVariables false
theorem own_toT {w : World} {B T : Nat} {v : Value} {l : List ByteArray} (h : w.ownsRow B 9 1 v T (l.map sv)) (hl : l.length = T) : Texts w B v l := by
  subst hl
  exact h
theorem drop_len (l : List It) (p : ByteArray) (k : Nat) : (drop (l.take k) p).length ≤ k := by
  refine Nat.le_trans (List.length_filter_le _ _) ?_
  rw [List.length_take]
  exact Nat.min_le_left _ _
def ListTo (l : List ByteArray) (w : World) (e : Ending) (w' : World) : Prop := ∃ v, e = .returned v ∧ Texts w' w.heap.size v l ∧ Below w.heap.size w w'
end Go.Proofs.YtdkgkomjbpggeaaGreatDoor.Dk

namespace Go.Proofs.YtdkgkomjbpggeaaGreatDoor.Dk
open Go.RowKit Tx Pm
set_option linter.unusedVariables false
def readS (s : St) (p : ByteArray) : ByteArray × Nat := if s.down then (⟨#[]⟩, 14) else match find s.L p with
  | none => (⟨#[]⟩, 11)
  | some x => if x.dir then (⟨#[]⟩, 12) else (x.data, 0)
def stampS (s : St) (p : ByteArray) : Nat := match find s.L p with
  | none => 0
  | some x => x.stamp
structure Ok (s : St) : Prop where
  fit : Fit s
  rooms : s.rooms.length ≤ 1000000000
  steps : s.steps ≤ 1000000000000
  stamps : s.stamps ≤ 1000000000000
  armed : -1000000000000000000 ≤ s.armed ∧ s.armed ≤ 9223372036854775807
theorem done_L (s : St) : (done s).2.L = s.L := by unfold done; split <;> rfl
theorem done_rooms (s : St) : (done s).2.rooms = s.rooms := by unfold done; split <;> rfl
theorem done_stamps (s : St) : (done s).2.stamps = s.stamps := by unfold done; split <;> rfl
def mkdirS (s : St) (p : ByteArray) : Nat × St :=
  if first s p 0 ≠ 0 then (first s p 0, s) else if home s.L p = false then (11, s) else if kind s.L p = 2 then (12, s) else
  if (done s).1 ≠ 0 then done s else (0, { (done s).2 with L := ins (done s).2.L ⟨p, true, ⟨#[]⟩, ⟨#[]⟩, false, false, 0⟩ })
end Go.Proofs.YtdkgkomjbpggeaaGreatDoor.Dk



namespace Go.Proofs.YtdkgkomjbpggeaaGreatDoor.Dk
open Go.RowKit Tx Pm
set_option linter.unusedVariables false
def mk (p : ByteArray) : It := ⟨p, false, ⟨#[]⟩, ⟨#[]⟩, false, false, 0⟩
def old (l : List It) (p : ByteArray) : It := (find l p).getD (mk p)
def syncS (s : St) (p : ByteArray) : Nat × St :=
  if there s p ≠ 0 then (there s p, s) else if (done s).1 ≠ 0 then done s else
  (0, { (done s).2 with L := ins (done s).2.L { old s.L p with kept := (old s.L p).data, loose := false, anew := false } })
def appendS (s : St) (p d : ByteArray) : Nat × St :=
  if there s p ≠ 0 then (there s p, s) else if fits s p d.size = false then (13, s) else if (done s).1 ≠ 0 then done s else
  (0, putS (done s).2 { old s.L p with data := (old s.L p).data ++ d, loose := true })
def removeS (s : St) (p : ByteArray) : Nat × St :=
  if first s p 0 ≠ 0 then (first s p 0, s) else if kind s.L p = 0 then (11, s) else if list s.L p ≠ [] then (12, s) else if (done s).1 ≠ 0 then done s else
  (0, { (done s).2 with L := drop (done s).2.L p })
theorem there_file {s : St} {p : ByteArray} (h : there s p = 0) : ∃ (k : Nat) (x : It), k < s.L.length ∧ s.L[k]? = some x ∧ find s.L p = some x ∧ placeI s.L p = k ∧ x.path = p ∧ x.dir = false := by
  unfold there at h
  split at h
  · omega
  · split at h
    · omega
    · split at h
      · omega
      · rename_i h1 h2 h3
        rcases find_cases s.L p with ⟨hf, _⟩ | ⟨k, x, a, b, c, d, e⟩
        · rw [kind, hf] at h2
          exact absurd rfl h2
        · refine ⟨k, x, a, b, c, d, e, ?_⟩
          rw [kind, c, kindOf] at h3
          cases hd : x.dir with
          | false => rfl
          | true => rw [hd] at h3; exact absurd rfl h3
end Go.Proofs.YtdkgkomjbpggeaaGreatDoor.Dk

namespace Go.Proofs.YtdkgkomjbpggeaaGreatDoor.Dk
open Go.RowKit Tx Pm
set_option linter.unusedVariables false
end Go.Proofs.YtdkgkomjbpggeaaGreatDoor.Dk

namespace Go.Proofs.YtdkgkomjbpggeaaGreatDoor.Dk
open Go.RowKit Tx Pm
set_option linter.unusedVariables false
def writeS (s : St) (p d : ByteArray) : Nat × St :=
  if first s p 1 ≠ 0 then (first s p 1, s) else if home s.L p = false then (11, s) else if kind s.L p = 1 then (12, s) else
  if fits s p ((d.size : Int) - ((old s.L p).data.size : Int)) = false then (13, s) else if (done s).1 ≠ 0 then done s else
  (0, putS (done s).2 { old s.L p with data := d, loose := true, anew := true })
theorem le_whole {l : List It} {x : It} (h : x ∈ l) : x.data.size ≤ whole l := by
  induction l with
  | nil => cases h
  | cons y l ih =>
    unfold whole at ih ⊢
    rw [List.map_cons, List.sum_cons]
    rcases List.mem_cons.1 h with rfl | h
    · omega
    · have := ih h
      omega
end Go.Proofs.YtdkgkomjbpggeaaGreatDoor.Dk

namespace Go.Proofs.YtdkgkomjbpggeaaGreatDoor.Dk
open Go.RowKit Tx Pm Ap
set_option linter.unusedVariables false
def setRm : List Rm → ByteArray → Int → List Rm
  | [], v, n => [⟨v, n⟩]
  | r :: l, v, n => if r.vol = v then ⟨v, n⟩ :: l else r :: setRm l v n
def limitS (s : St) (v : ByteArray) (n : Int) : Nat × St :=
  if n < 0 then (1, s) else if chk v.data.toList 1 ≠ 0 then (10, s) else (0, { s with rooms := setRm s.rooms v n })
theorem flat_set : ∀ (l : List Rm) (k : Nat) (r : Rm) (n : Int), l[k]? = some r → (l.flatMap cellsR).set (k * 2 + 1) (.int .i64 n) = (l.set k ⟨r.vol, n⟩).flatMap cellsR
  | [], k, r, n, h => by cases h
  | x :: l, 0, r, n, h => by
    injection h with h
    subst h
    simp [cellsR]
  | x :: l, k + 1, r, n, h => by
    have e : (k + 1) * 2 + 1 = (k * 2 + 1) + 1 + 1 := by omega
    have := flat_set l k r n h
    rw [e, List.set_cons_succ, List.flatMap_cons, List.flatMap_cons, ← this]
    rfl
end Go.Proofs.YtdkgkomjbpggeaaGreatDoor.Dk

namespace Go.Proofs.YtdkgkomjbpggeaaGreatDoor.Dk
open Go.RowKit Tx Pm
set_option linter.unusedVariables false
def moreS (l : List It) (f t : ByteArray) : Int := (if vol f = vol t then (0 : Int) else ((old l f).data.size : Int)) - (if kind l t = 2 then ((old l t).data.size : Int) else 0)
def renameS (s : St) (f t : ByteArray) : Nat × St :=
  if first s f 1 ≠ 0 then (first s f 1, s) else if first s t 1 ≠ 0 then (first s t 1, s) else if kind s.L f = 0 ∨ home s.L t = false then (11, s) else
  if kind s.L f = 1 ∨ kind s.L t = 1 then (12, s) else if f ≠ t ∧ fits s t (moreS s.L f t) = false then (13, s) else if (done s).1 ≠ 0 then done s else
  (0, putS { (done s).2 with L := drop (done s).2.L f } { old s.L f with path := t })
theorem kind_le (l : List It) (p : ByteArray) : kind l p = 0 ∨ kind l p = 1 ∨ kind l p = 2 := by
  unfold kind kindOf
  split
  · exact .inl rfl
  · split
    · exact .inr (.inl rfl)
    · exact .inr (.inr rfl)
end Go.Proofs.YtdkgkomjbpggeaaGreatDoor.Dk

namespace Go.Proofs.YtdkgkomjbpggeaaGreatDoor.Dk
open Go.RowKit Tx Pm
set_option linter.unusedVariables false
def rotS (s : St) (p : ByteArray) (bit : Int) : Nat × St :=
  if there s p ≠ 0 then (there s p, s) else (0, putS s { old s.L p with data := Fr.tn (old s.L p).data bit, kept := Fr.tn (old s.L p).kept bit })
end Go.Proofs.YtdkgkomjbpggeaaGreatDoor.Dk

namespace Go.Proofs.YtdkgkomjbpggeaaGreatDoor.Dk
open Go.RowKit Tx Pm
set_option linter.unusedVariables false
def mixA (a n : Nat) : Nat := (a + n * 11400714819323198485) % 18446744073709551616
def mixB (x : Nat) : Nat := ((x ^^^ x / 1073741824) * 13787848793156543929) % 18446744073709551616
def mixC (x : Nat) : Nat := ((x ^^^ x / 134217728) * 10723151780598845931) % 18446744073709551616
def mix (a n : Nat) : Nat := mixC (mixB (mixA a n)) ^^^ mixC (mixB (mixA a n)) / 2147483648
end Go.Proofs.YtdkgkomjbpggeaaGreatDoor.Dk

namespace Go.Proofs.YtdkgkomjbpggeaaGreatDoor.Dk
open Go.RowKit Tx Pm
set_option linter.unusedVariables false
def newS : St := ⟨[], [], 0, 0, -1, false⟩
def lose (pick : Nat) (x : It) : It :=
  let k1 := if x.anew then (let k := pick % (x.data.size + 2); if k = 0 then x.kept else x.data.extract 0 (k - 1)) else (let k := pick % (x.data.size - x.kept.size + 1); x.data.extract 0 (x.kept.size + k))
  { x with data := k1, kept := k1, loose := false, anew := false }
def restartL (loss : Nat) : List It → Nat → Nat → List It × Nat
  | [], _, st => ([], st)
  | x :: l, n, st => if x.loose then (let r := restartL loss l (n + 1) (st + 1); ({ lose (mix loss (n + 1)) x with stamp := st + 1 } :: r.1, r.2)) else (let r := restartL loss l n st; (x :: r.1, r.2))
def u64 (i : Int) : Nat := (IntKind.u64.wrap i).toNat
def restartS (s : St) (loss : Int) : St := let r := restartL (u64 loss) s.L 0 s.stamps; { s with L := r.1, stamps := r.2, down := false, armed := -1 }
def Rises (l : List It) : Prop := l.Pairwise (fun x y => Op.bytesLess x.path.toList y.path.toList = true)
end Go.Proofs.YtdkgkomjbpggeaaGreatDoor.Dk

namespace Go.Proofs.YtdkgkomjbpggeaaGreatDoor.Dk
open Go.RowKit Tx Pm
set_option linter.unusedVariables false
theorem less_irrefl (l : List UInt8) : Op.bytesLess l l = false := by
  induction l with
  | nil => rfl
  | cons c r ih => simp [Op.bytesLess, ih]
structure Sound (s : St) : Prop where
  rises : Rises s.L
  kept : ∀ x ∈ s.L, x.anew = false → x.kept.size ≤ x.data.size
  size : ∀ x ∈ s.L, x.data.size ≤ 140737488355328 ∧ x.kept.size ≤ 140737488355328
  stamps : s.stamps + s.L.length ≤ 1000000000000
structure Through (s : St) (loss k n : Nat) (pre : List It) (st : Nat) : Prop where
  le : k ≤ s.L.length
  len : pre.length = k
  paths : pre.map (·.path) = (s.L.take k).map (·.path)
  rest : restartL loss s.L 0 s.stamps = (pre ++ (restartL loss (s.L.drop k) n st).1, (restartL loss (s.L.drop k) n st).2)
  num : n ≤ k
  stamp : st ≤ s.stamps + k
end Go.Proofs.YtdkgkomjbpggeaaGreatDoor.Dk

namespace Go.Proofs.YtdkgkomjbpggeaaGreatDoor.Od
set_option linter.unusedVariables false
theorem less_trans : ∀ (a b c : List UInt8), Op.bytesLess a b = true → Op.bytesLess b c = true → Op.bytesLess a c = true
  | [], [], _, h, _ => by rw [Op.bytesLess] at h; cases h
  | [], _ :: _, [], _, h => by rw [Op.bytesLess] at h; cases h
  | [], _ :: _, _ :: _, _, _ => by rw [Op.bytesLess]
  | _ :: _, [], _, h, _ => by rw [Op.bytesLess] at h; cases h
  | _ :: _, _ :: _, [], _, h => by rw [Op.bytesLess] at h; cases h
  | x :: a, y :: b, z :: c, h1, h2 => by
    have ih := less_trans a b c
    rw [Op.bytesLess] at h1 h2 ⊢
    simp only [Bool.or_eq_true, Bool.and_eq_true, decide_eq_true_eq, beq_iff_eq] at h1 h2 ⊢
    rcases h1 with h1 | ⟨rfl, h1⟩
    · rcases h2 with h2 | ⟨rfl, h2⟩
      · left
        rw [UInt8.lt_iff_toNat_lt] at h1 h2 ⊢
        omega
      · exact .inl h1
    · rcases h2 with h2 | ⟨rfl, h2⟩
      · exact .inl h2
      · exact .inr ⟨rfl, ih h1 h2⟩
theorem less_tri : ∀ (a b : List UInt8), Op.bytesLess a b = false → Op.bytesLess b a = false → a = b
  | [], [], _, _ => rfl
  | [], _ :: _, h, _ => by rw [Op.bytesLess] at h; cases h
  | _ :: _, [], _, h => by rw [Op.bytesLess] at h; cases h
  | x :: a, y :: b, h1, h2 => by
    have ih := less_tri a b
    rw [Op.bytesLess] at h1 h2
    simp only [Bool.or_eq_false_iff, Bool.and_eq_false_iff, decide_eq_false_iff_not, beq_eq_false_iff_ne] at h1 h2
    have e : x = y := by
      apply UInt8.toNat_inj.1
      have a1 := h1.1
      have a2 := h2.1
      rw [UInt8.lt_iff_toNat_lt] at a1 a2
      omega
    subst e
    rw [ih (h1.2.resolve_left (fun h => h rfl)) (h2.2.resolve_left (fun h => h rfl))]
theorem to_list {a b : ByteArray} : a.toList = b.toList ↔ a = b := by
  rw [ByteArray.toList_eq, ByteArray.toList_eq]
  exact ⟨fun h => ByteArray.ext (Array.toList_inj.1 h), fun h => by rw [h]⟩
end Go.Proofs.YtdkgkomjbpggeaaGreatDoor.Od

namespace Go.Proofs.YtdkgkomjbpggeaaGreatDoor.Dk
open Go.RowKit Tx Pm Od
set_option linter.unusedVariables false
theorem mem_ins {l : List It} {x y : It} (h : y ∈ ins l x) : y = x ∨ y ∈ l := by
  rw [ins, List.mem_append, List.mem_cons] at h
  rcases h with h | h | h
  · exact .inr ((List.takeWhile_prefix _).subset h)
  · exact .inl h
  · have hd := List.dropWhile_suffix (fun y => Op.bytesLess y.path.toList x.path.toList) (l := l)
    cases hdw : l.dropWhile (fun y => Op.bytesLess y.path.toList x.path.toList) with
    | nil => rw [hdw] at h; cases h
    | cons z r =>
      rw [hdw] at h hd
      simp only at h
      split at h
      · exact .inr (hd.subset (List.mem_cons_of_mem _ h))
      · exact .inr (hd.subset h)
theorem len_ins (l : List It) (x : It) : (ins l x).length ≤ l.length + 1 := by
  have h1 := List.takeWhile_append_dropWhile (p := fun y => Op.bytesLess y.path.toList x.path.toList) (l := l)
  have h2 := congrArg List.length h1
  rw [List.length_append] at h2
  rw [ins, List.length_append, List.length_cons]
  cases hdw : l.dropWhile (fun y => Op.bytesLess y.path.toList x.path.toList) with
  | nil => rw [hdw] at h2; simp at h2 ⊢; omega
  | cons z r =>
    rw [hdw] at h2
    simp only
    simp only [List.length_cons] at h2
    split
    · omega
    · simp; omega
theorem rises_ins {l : List It} {x : It} (h : Rises l) : Rises (ins l x) := by
  unfold Rises at *
  have h1 := List.takeWhile_append_dropWhile (p := fun y => Op.bytesLess y.path.toList x.path.toList) (l := l)
  have htw : ∀ y ∈ l.takeWhile (fun y => Op.bytesLess y.path.toList x.path.toList), Op.bytesLess y.path.toList x.path.toList = true := fun y hy => by
    have := List.all_takeWhile (p := fun y => Op.bytesLess y.path.toList x.path.toList) (l := l)
    exact List.all_eq_true.1 this y hy
  rw [← h1] at h
  obtain ⟨p1, p2, p3⟩ := List.pairwise_append.1 h
  rw [ins, List.pairwise_append]
  have hrest : ∀ z r, l.dropWhile (fun y => Op.bytesLess y.path.toList x.path.toList) = z :: r → (z.path = x.path → ∀ y ∈ r, Op.bytesLess x.path.toList y.path.toList = true) ∧ (z.path ≠ x.path → ∀ y ∈ z :: r, Op.bytesLess x.path.toList y.path.toList = true) := by
    intro z r hz
    rw [hz] at p2
    have hn : Op.bytesLess z.path.toList x.path.toList = false := by
      have h0 := List.head?_dropWhile_not (fun y => Op.bytesLess y.path.toList x.path.toList) l
      rw [hz] at h0
      simpa using h0
    refine ⟨fun he y hy => ?_, fun he y hy => ?_⟩
    · rw [← he]
      exact (List.pairwise_cons.1 p2).1 y hy
    · have hxz : Op.bytesLess x.path.toList z.path.toList = true := by
        cases hc : Op.bytesLess x.path.toList z.path.toList with
        | true => rfl
        | false => exact absurd (to_list.1 (less_tri _ _ hn hc)) he
      rcases List.mem_cons.1 hy with rfl | hy
      · exact hxz
      · exact less_trans _ _ _ hxz ((List.pairwise_cons.1 p2).1 y hy)
  cases hdw : l.dropWhile (fun y => Op.bytesLess y.path.toList x.path.toList) with
  | nil =>
    simp only
    refine ⟨p1, List.pairwise_singleton _ _, fun y hy z hz => ?_⟩
    obtain rfl : z = x := by simpa using hz
    exact htw y hy
  | cons z r =>
    have hr := hrest z r hdw
    rw [hdw] at p2 p3
    simp only
    split
    · rename_i he
      refine ⟨p1, List.pairwise_cons.2 ⟨hr.1 he, (List.pairwise_cons.1 p2).2⟩, fun y hy q hq => ?_⟩
      rcases List.mem_cons.1 hq with rfl | hq
      · exact htw y hy
      · exact p3 y hy q (List.mem_cons_of_mem _ hq)
    · rename_i he
      refine ⟨p1, List.pairwise_cons.2 ⟨hr.2 he, p2⟩, fun y hy q hq => ?_⟩
      rcases List.mem_cons.1 hq with rfl | hq
      · exact htw y hy
      · exact p3 y hy q hq
theorem rises_drop {l : List It} (p : ByteArray) (h : Rises l) : Rises (drop l p) := List.Pairwise.filter _ h
structure Inv (s : St) (i T : Nat) : Prop where
  rises : Rises s.L
  len : s.L.length ≤ i
  path : ∀ x ∈ s.L, x.path.size ≤ 1048576
  size : ∀ x ∈ s.L, x.data.size ≤ T ∧ x.kept.size ≤ T
  kept : ∀ x ∈ s.L, x.anew = false → x.kept.size ≤ x.data.size
  rooms : s.rooms.length ≤ i
  steps : s.steps ≤ i
  stamps : s.stamps ≤ T
  armed : -1 ≤ s.armed ∧ s.armed ≤ 9223372036854775807
theorem Inv.more {s : St} {i T : Nat} (h : Inv s i T) : Inv s (i + 1) (T + 1048576) where
  rises := h.rises
  len := by have := h.len; omega
  path := h.path
  size := fun x hx => by have := h.size x hx; omega
  kept := h.kept
  rooms := by have := h.rooms; omega
  steps := by have := h.steps; omega
  stamps := by have := h.stamps; omega
  armed := h.armed
theorem whole_le {l : List It} {B : Nat} (h : ∀ x ∈ l, x.data.size ≤ B) : whole l ≤ l.length * B := by
  induction l with
  | nil => simp [whole]
  | cons x l ih =>
    have h1 := h x (by simp)
    have h2 := ih (fun y hy => h y (by simp [hy]))
    unfold whole at *
    rw [List.map_cons, List.sum_cons, List.length_cons, Nat.succ_mul]
    omega
theorem Inv.ok {s : St} {i T : Nat} (h : Inv s i T) (hi : i ≤ 1000) (hT : T ≤ 1048576000) : Ok s := by
  have hl := h.len
  have hw := whole_le (B := T) (fun x hx => (h.size x hx).1)
  have hm : s.L.length * T ≤ 1048576000000 := Nat.le_trans (Nat.mul_le_mul (Nat.le_trans hl hi) hT) (by decide)
  refine ⟨⟨by omega, fun x hx => by have := h.path x hx; omega, by omega⟩, by have := h.rooms; omega, by have := h.steps; omega, by have := h.stamps; omega, by have := h.armed; omega⟩
theorem Inv.sound {s : St} {i T : Nat} (h : Inv s i T) (hi : i ≤ 1000) (hT : T ≤ 1048576000) : Sound s :=
  ⟨h.rises, h.kept, fun x hx => by have := h.size x hx; omega, by have := h.stamps; have := h.len; omega⟩
theorem find_mem {l : List It} {p : ByteArray} {x : It} (h : find l p = some x) : x ∈ l ∧ x.path = p := ⟨List.mem_of_find?_eq_some h, by have := List.find?_some h; exact of_decide_eq_true this⟩
theorem old_cases (l : List It) (p : ByteArray) : old l p = mk p ∨ (old l p ∈ l ∧ (old l p).path = p) := by
  unfold old
  cases h : find l p with
  | none => exact .inl rfl
  | some x => exact .inr (find_mem h)
theorem drop_in (l : List It) (p : ByteArray) : (∀ y ∈ drop l p, y ∈ l) ∧ (drop l p).length ≤ l.length := ⟨fun y hy => (List.mem_filter.1 hy).1, List.length_filter_le _ _⟩
end Go.Proofs.YtdkgkomjbpggeaaGreatDoor.Dk

namespace Go.Proofs.YtdkgkomjbpggeaaGreatDoor.Dk
open Go.RowKit Tx Pm
set_option linter.unusedVariables false
def Left (Obj : World → (Nat → Prop) → St → Prop) (w : World) (F : Nat → Prop) (s : St) (w' : World) : Prop := ∃ F', Obj w' F' s ∧ Chg F w w' ∧ ∀ g, F' g → F g ∨ w.heap.size ≤ g
structure Kind (Obj : World → (Nat → Prop) → St → Prop) : Prop where
  lt : ∀ {w F s}, Obj w F s → ∀ i, F i → i < w.heap.size
  kept : ∀ {w w1 F s}, Obj w F s → (∀ i, F i → w1.heap[i]? = w.heap[i]?) → Obj w1 F s
end Go.Proofs.YtdkgkomjbpggeaaGreatDoor.Dk



namespace Go.Proofs.YtdkgkomjbpggeaaGreatDoor.Dk
open Go.RowKit Tx Pm
set_option linter.unusedVariables false
structure Far (s : St) (i T : Nat) : Prop where
  inv : Inv s i T
  i : i ≤ 1000
  T : T ≤ 1048576000
def Does (O : World → (Nat → Prop) → St → Prop) (w : World) (F : Nat → Prop) (r : Nat × St) (e : Ending) (w' : World) : Prop := e = .returned (.int .i64 (r.1 : Nat)) ∧ Left O w F r.2 w'
structure Works (O : World → (Nat → Prop) → St → Prop) (v : Value) (f : Fin 9 → FuncId) : Prop where
  kind : Kind O
  mkdir : ∀ {w F s i T} (P : ByteArray), O w F s → Far s i T → P.size ≤ 1048576 → Calls Tryz.prog (f 0) #[v, .string P] w (Does O w F (mkdirS s P))
  write : ∀ {w F s i T} (P Q : ByteArray), O w F s → Far s i T → P.size ≤ 1048576 → Q.size ≤ 1048576 → Calls Tryz.prog (f 1) #[v, .string P, .string Q] w (Does O w F (writeS s P Q))
  append : ∀ {w F s i T} (P Q : ByteArray), O w F s → Far s i T → P.size ≤ 1048576 → Q.size ≤ 1048576 → Calls Tryz.prog (f 2) #[v, .string P, .string Q] w (Does O w F (appendS s P Q))
  sync : ∀ {w F s i T} (P : ByteArray), O w F s → Far s i T → P.size ≤ 1048576 → Calls Tryz.prog (f 3) #[v, .string P] w (Does O w F (syncS s P))
  rename : ∀ {w F s i T} (P Q : ByteArray), O w F s → Far s i T → P.size ≤ 1048576 → Q.size ≤ 1048576 → Calls Tryz.prog (f 4) #[v, .string P, .string Q] w (Does O w F (renameS s P Q))
  remove : ∀ {w F s i T} (P : ByteArray), O w F s → Far s i T → P.size ≤ 1048576 → Calls Tryz.prog (f 5) #[v, .string P] w (Does O w F (removeS s P))
  limit : ∀ {w F s i T} (P : ByteArray) (M : Int), O w F s → Far s i T → P.size ≤ 1048576 → -9223372036854775808 ≤ M ∧ M ≤ 9223372036854775807 → Calls Tryz.prog (f 6) #[v, .string P, .int .i64 M] w (Does O w F (limitS s P M))
  restart : ∀ {w F s i T} (M : Int), O w F s → Far s i T → -9223372036854775808 ≤ M ∧ M ≤ 9223372036854775807 → Calls Tryz.prog (f 7) #[v, .int .i64 M] w (Does O w F (0, restartS s M))
  rot : ∀ {w F s i T} (P : ByteArray) (M : Int), O w F s → Far s i T → P.size ≤ 1048576 → -9223372036854775808 ≤ M ∧ M ≤ 9223372036854775807 → Calls Tryz.prog (f 8) #[v, .string P, .int .i64 M] w (Does O w F (rotS s P M))
end Go.Proofs.YtdkgkomjbpggeaaGreatDoor.Dk

namespace Go.Proofs.YtdkgkomjbpggeaaGreatDoor.Dk
open Go.RowKit Tx Pm
set_option linter.unusedVariables false
end Go.Proofs.YtdkgkomjbpggeaaGreatDoor.Dk

namespace Go.Proofs.YtdkgkomjbpggeaaGreatDoor.Dk
open Go.RowKit Tx Pm
set_option linter.unusedVariables false
theorem tn_size (x : ByteArray) (bit : Int) : (Fr.tn x bit).size = x.size := by
  unfold Fr.tn
  split
  · rename_i h; rw [h]; rfl
  · rename_i h
    have hp : (0 : Int) < (8 * x.size : Nat) := by omega
    have h1 := Int.emod_lt_of_pos bit hp
    have h2 := Int.emod_nonneg bit (show ((8 * x.size : Nat) : Int) ≠ 0 by omega)
    have h3 : (bit % (8 * x.size : Nat)).toNat < 8 * x.size := by omega
    generalize (bit % (8 * x.size : Nat)).toNat = B at h3
    unfold Fr.trn
    have hb : ∀ c : UInt8, (Wr.b1 c).size = 1 := fun c => rfl
    rw [ByteArray.size_append, ByteArray.size_append, ByteArray.size_extract, ByteArray.size_extract, hb]
    omega
end Go.Proofs.YtdkgkomjbpggeaaGreatDoor.Dk

namespace Go.Proofs.YtdkgkomjbpggeaaGreatDoor.Dk
open Go.RowKit Tx Pm
set_option linter.unusedVariables false
theorem find_app (l r : List It) (p : ByteArray) : find (l ++ r) p = (find l p).or (find r p) := by
  unfold find
  rw [List.find?_append]
theorem find_one (x : It) (r : List It) {p : ByteArray} (h : x.path ≠ p) : find (x :: r) p = find r p := by
  unfold find
  rw [List.find?_cons_of_neg (by simpa using h)]
theorem find_ins (l : List It) {x : It} {p : ByteArray} (h : x.path ≠ p) : find (ins l x) p = find l p := by
  have e : l = l.takeWhile (fun y => Op.bytesLess y.path.toList x.path.toList) ++ l.dropWhile (fun y => Op.bytesLess y.path.toList x.path.toList) := (List.takeWhile_append_dropWhile).symm
  unfold ins
  generalize l.takeWhile (fun y => Op.bytesLess y.path.toList x.path.toList) = a at e ⊢
  generalize l.dropWhile (fun y => Op.bytesLess y.path.toList x.path.toList) = b at e ⊢
  rw [e, find_app, find_app, find_one _ _ h]
  cases b with
  | nil => rfl
  | cons y r =>
    simp only
    split
    · rename_i hy
      rw [find_one y r (by rw [hy]; exact h)]
    · rfl
theorem find_drop (l : List It) {q p : ByteArray} (h : q ≠ p) : find (drop l q) p = find l p := by
  unfold find drop
  rw [List.find?_filter]
  congr 1
  funext x
  by_cases hx : x.path = p
  · simp [hx, Ne.symm h]
  · simp [hx]
theorem old_path (l : List It) (p : ByteArray) : (old l p).path = p := by
  rcases old_cases l p with h | ⟨_, h⟩
  · rw [h]; rfl
  · exact h
end Go.Proofs.YtdkgkomjbpggeaaGreatDoor.Dk

namespace Go.Proofs.YtdkgkomjbpggeaaGreatDoor.Dk
open Go.RowKit Tx Pm
set_option linter.unusedVariables false
theorem find_ins_same (l : List It) {x : It} {p : ByteArray} (h : x.path = p) : find (ins l x) p = some x := by
  unfold ins
  rw [find_app]
  have h1 : find (l.takeWhile (fun y => Op.bytesLess y.path.toList x.path.toList)) p = none := by
    refine List.find?_eq_none.2 (fun y hy => ?_)
    have hl := List.all_eq_true.1 (List.all_takeWhile (p := fun y => Op.bytesLess y.path.toList x.path.toList) (l := l)) y hy
    intro he
    have he := of_decide_eq_true he
    rw [he, h, less_irrefl] at hl
    cases hl
  rw [h1, Option.none_or]
  unfold find
  rw [List.find?_cons_of_pos (by simpa using h)]
theorem find_drop_same (l : List It) (p : ByteArray) : find (drop l p) p = none := by
  unfold find drop
  refine List.find?_eq_none.2 (fun y hy => ?_)
  have := (List.mem_filter.1 hy).2
  simpa using this
theorem find_paths {l : List It} {x : It} (hr : Rises l) (hx : x ∈ l) : find l x.path = some x := by
  unfold find
  induction l with
  | nil => cases hx
  | cons y l ih =>
    obtain ⟨h1, h2⟩ := List.pairwise_cons.1 hr
    by_cases he : y.path = x.path
    · rw [List.find?_cons_of_pos (by simpa using he)]
      rcases List.mem_cons.1 hx with rfl | hx
      · rfl
      · have := h1 x hx
        rw [he, less_irrefl] at this
        cases this
    · rw [List.find?_cons_of_neg (by simpa using he)]
      rcases List.mem_cons.1 hx with rfl | hx
      · exact absurd rfl he
      · exact ih h2 hx
theorem drop_none {l : List It} {p : ByteArray} (h : find l p = none) : drop l p = l := by
  unfold find at h
  unfold drop
  refine List.filter_eq_self.2 (fun y hy => ?_)
  have := List.find?_eq_none.1 h y hy
  simpa using this
theorem len_drop {l : List It} (hr : Rises l) (p : ByteArray) : l.length ≤ (drop l p).length + (if (find l p).isSome then 1 else 0) := by
  induction l with
  | nil => exact Nat.zero_le _
  | cons y l ih =>
    obtain ⟨h1, h2⟩ := List.pairwise_cons.1 hr
    by_cases he : y.path = p
    · have hn : find l p = none := by
        refine List.find?_eq_none.2 (fun z hz hzp => ?_)
        have hzp := of_decide_eq_true hzp
        have := h1 z hz
        rw [he, hzp, less_irrefl] at this
        cases this
      have e1 : drop (y :: l) p = drop l p := by unfold drop; rw [List.filter_cons_of_neg (by simpa using he)]
      have e2 : find (y :: l) p = some y := by unfold find; rw [List.find?_cons_of_pos (by simpa using he)]
      rw [e1, e2, drop_none hn]
      exact Nat.le_refl _
    · have e1 : drop (y :: l) p = y :: drop l p := by unfold drop; rw [List.filter_cons_of_pos (by simpa using he)]
      have e2 : find (y :: l) p = find l p := by unfold find; rw [List.find?_cons_of_neg (by simpa using he)]
      rw [e1, e2]
      have := ih h2
      simp only [List.length_cons]
      omega
theorem len_ins_more {l : List It} (x : It) : l.length + (if (find l x.path).isSome then 0 else 1) ≤ (ins l x).length := by
  have e : l = l.takeWhile (fun y => Op.bytesLess y.path.toList x.path.toList) ++ l.dropWhile (fun y => Op.bytesLess y.path.toList x.path.toList) := (List.takeWhile_append_dropWhile).symm
  have hall := List.all_takeWhile (p := fun y => Op.bytesLess y.path.toList x.path.toList) (l := l)
  unfold ins
  generalize l.takeWhile (fun y => Op.bytesLess y.path.toList x.path.toList) = a at e hall ⊢
  generalize l.dropWhile (fun y => Op.bytesLess y.path.toList x.path.toList) = b at e ⊢
  subst e
  cases b with
  | nil =>
    simp only [List.append_nil, List.length_append, List.length_cons, List.length_nil]
    split <;> omega
  | cons y r =>
    by_cases he : y.path = x.path
    · have hs : (find (a ++ y :: r) x.path).isSome = true := List.find?_isSome.2 ⟨y, by simp, by simpa using he⟩
      rw [if_pos hs]
      simp only [he, if_true, List.length_append, List.length_cons]
      omega
    · simp only [he, if_false, List.length_append, List.length_cons]
      split <;> omega
def stOf (x : It) : Int := if x.loose then (if x.anew then 2 else 1) else 0
def kOf (x : It) : Int := if x.dir then 1 else 2
def mv (k : Int) (s t : ByteArray) (st n : Int) : Value := .agg #[.int .i64 k, .string s, .string t, .int .i64 st, .int .i64 n]
def iv3 (x : It) : Value := mv (kOf x) x.data x.kept (stOf x) (x.stamp : Nat)
def dv3 (k : Int) (s t : ByteArray) (st n : Int) : DataW Unit := .agg [.lit (.int .i64 k), .lit (.string s.data.toList), .lit (.string t.data.toList), .lit (.int .i64 st), .lit (.int .i64 n)]
def itD (x : It) : DataW Unit := dv3 (kOf x) x.data x.kept (stOf x) (x.stamp : Nat)
def itemR : Value → Option (DataW Unit × List MemPlace)
  | .agg ⟨[.int .i64 k, .string s, .string t, .int .i64 st, .int .i64 n]⟩ => some (dv3 k s t st n, [])
  | _ => none
theorem itemR_mv (k : Int) (s t : ByteArray) (st n : Int) : itemR (mv k s t st n) = some (dv3 k s t st n, []) := rfl
theorem itemR_inv {v : Value} {z : DataW Unit × List MemPlace} (h : itemR v = some z) : ∃ k s t st n, v = mv k s t st n ∧ z = (dv3 k s t st n, []) := by
  unfold itemR at h
  split at h
  · cases h
    exact ⟨_, _, _, _, _, rfl, rfl⟩
  · cases h
theorem dv3_inj {k k' : Int} {s s' t t' : ByteArray} {st st' n n' : Int} (h : dv3 k s t st n = dv3 k' s' t' st' n') : k = k' ∧ s = s' ∧ t = t' ∧ st = st' ∧ n = n' := by
  unfold dv3 at h
  simp only [DataW.agg.injEq, List.cons.injEq, DataW.lit.injEq, Lit.int.injEq, Lit.string.injEq, true_and, and_true] at h
  obtain ⟨h1, h2, h3, h4, h5⟩ := h
  exact ⟨h1, ByteArray.ext (Array.toList_inj.1 h2), ByteArray.ext (Array.toList_inj.1 h3), h4, h5⟩
def lookV (L : List It) (p : ByteArray) : Value := match find L p with
  | some x => iv3 x
  | none => mv 0 ⟨#[]⟩ ⟨#[]⟩ 0 0
def kL (p : ByteArray) : Lit := .string p.data.toList
theorem kL_inj {p q : ByteArray} (h : kL p = kL q) : p = q := by
  injection h with h
  exact ByteArray.ext (Array.toList_inj.1 h)
theorem kL_key (p : ByteArray) : WideAt.IsKeyLit (kL p) := trivial
theorem strK : Go.Maps.Keyed Tryz.prog 9 := Go.Maps.string_keyed Tryz.underlying9
theorem keyP {p : ByteArray} (hp : p.size ≤ maxLen) : keyOf Tryz.prog 9 (.string p) = some (kL p) := Go.WideMaps.keyOf_string_mk Tryz.underlying9 hp
theorem zeroI (w : World) : (zeroValue 112).run Tryz.prog w = .ok (mv 0 ⟨#[]⟩ ⟨#[]⟩ 0 0) w := by kernel_rfl
theorem zeroN (w : World) : (zeroValue 3).run Tryz.prog w = .ok (.int .i64 0) w := by kernel_rfl
def ReadsI (D : DataW Unit) (L : List It) : Prop := ∀ p z, D.atKey (kL p) z = match find L p with
  | some x => itD x
  | none => z
def Mp (w : World) (bi : Nat) (L : List It) : Prop := ∃ D : DataW Unit, w.ownsMap Tryz.prog 9 itemR bi L.length D ∧ ReadsI D L ∧ Go.Maps.size D ≤ L.length
theorem Mp.lt {w : World} {bi : Nat} {L : List It} (h : Mp w bi L) : bi < w.heap.size := by
  obtain ⟨D, h, _⟩ := h
  exact h.lt
theorem ownsMap_at {H : Type} {w w1 : World} {P : Program} {k : TypeId} {R : Value → Option (DataW H × List MemPlace)} {b n : Nat} {D : DataW H} (h : w.ownsMap P k R b n D) (he : w1.heap[b]? = w.heap[b]?) : w1.ownsMap P k R b n D := by
  obtain ⟨es, clock, hb, r⟩ := h
  exact ⟨es, clock, he.trans hb, r⟩
theorem Mp.kept {w w1 : World} {bi : Nat} {L : List It} (h : Mp w bi L) (he : w1.heap[bi]? = w.heap[bi]?) : Mp w1 bi L := by
  obtain ⟨D, h, r⟩ := h
  exact ⟨D, ownsMap_at h he, r⟩
theorem readsI_has {D : DataW Unit} {L : List It} (h : ReadsI D L) (p : ByteArray) : Go.Maps.has D (kL p) = (find L p).isSome := by
  cases hf : find L p with
  | none =>
    refine (Go.Maps.has_false_of_atKey fun z => ?_).trans rfl
    rw [h p z, hf]
  | some x =>
    refine (Go.Maps.has_true_of_atKey (y := itD x) fun z => ?_).trans rfl
    rw [h p z, hf]
theorem Mp.look {w : World} {bi : Nat} {L : List It} (h : Mp w bi L) {p : ByteArray} (hp : p.size ≤ maxLen) :
    (Instr.lookup 59 (.map (some bi)) (.string p) false).run Tryz.prog w = .ok (lookV L p) w := by
  obtain ⟨D, ho, hr, _⟩ := h
  obtain ⟨v, ps, hrun, hv⟩ := ho.lookup strK Tryz.underlying59 (zeroI w) (itemR_mv _ _ _ _ _) (keyP hp)
  rw [hrun]
  obtain ⟨k, s, t, st, n, rfl, hz⟩ := itemR_inv hv
  have hz := congrArg Prod.fst hz
  simp only [hr p] at hz
  unfold lookV
  cases hf : find L p with
  | none =>
    rw [hf] at hz
    obtain ⟨rfl, rfl, rfl, rfl, rfl⟩ := dv3_inj hz
    rfl
  | some x =>
    rw [hf] at hz
    obtain ⟨rfl, rfl, rfl, rfl, rfl⟩ := dv3_inj (k := kOf x) (s := x.data) (t := x.kept) (st := stOf x) (n := (x.stamp : Nat)) hz
    rfl
theorem turned_block {w w' : World} {b i : Nat} (h : w.mapTurned w' b) (hi : i ≠ b) : w'.heap[i]? = w.heap[i]? := by
  obtain ⟨es, clock, es', clock', hb, rfl⟩ := h
  exact Go.ChangeMaps.heap_setBlock_other hb _ hi
theorem turned_chg {w w' : World} {b : Nat} (h : w.mapTurned w' b) : Chg (· = b) w w' := by
  have hg := h.grown
  exact ⟨hg.os, hg.tape, hg.output, hg.size, fun i hi hn => turned_block h hn⟩
theorem own_len {w : World} {b n : Nat} {D : DataW Unit} {R : Value → Option (DataW Unit × List MemPlace)} (h : w.ownsMap Tryz.prog 9 R b n D) {m : Nat} (hm : Go.Maps.size D ≤ m) : w.ownsMap Tryz.prog 9 R b m D := by
  obtain ⟨es, clock, hb, F, hs, rfl⟩ := h
  refine ⟨es, clock, hb, F, ?_, rfl⟩
  simp only [Go.Maps.size, length_sorted, List.length_map, Array.length_toList] at hm
  exact hm
theorem Mp.store {w : World} {bi : Nat} {L : List It} (h : Mp w bi L) {x : It} (hp : x.path.size ≤ maxLen) (hn : L.length < maxLen) :
    ∃ w', (Instr.mapUpdate 59 (.map (some bi)) (.string x.path) (iv3 x)).run Tryz.prog w = .ok () w' ∧ Mp w' bi (ins L x) ∧ w.mapTurned w' bi := by
  obtain ⟨D, ho, hr, hs⟩ := h
  obtain ⟨w', hrun, ho', ht⟩ := ho.store strK Tryz.underlying59 hn (keyP hp) (itemR_mv (kOf x) x.data x.kept (stOf x) (x.stamp : Nat))
  have hsz : Go.Maps.size (D.put (kL x.path) (dv3 (kOf x) x.data x.kept (stOf x) (x.stamp : Nat))) ≤ (ins L x).length := by
    have h1 := Go.Maps.size_put (ho.tidy strK) (k := kL x.path) (dv3 (kOf x) x.data x.kept (stOf x) (x.stamp : Nat))
    rw [readsI_has hr] at h1
    have h2 := len_ins_more (l := L) x
    rw [h1]
    split at h2 <;> split <;> first | omega | simp_all
  refine ⟨w', hrun, ⟨_, own_len ho' hsz, fun p z => ?_, hsz⟩, ht⟩
  by_cases he : p = x.path
  · subst he
    rw [Go.Maps.atKey_put_same ho.isMap (kL_key _), find_ins_same L rfl]
    rfl
  · rw [Go.Maps.atKey_put_other (fun e => he (kL_inj e)), find_ins L (fun e => he e.symm)]
    exact hr p z
theorem Mp.del {w : World} {bi : Nat} {L : List It} (h : Mp w bi L) (hR : Rises L) {p : ByteArray} (hp : p.size ≤ maxLen) (ty : TypeId) :
    ∃ w', (Builtin.delete_ #[59, 9] ty #[.map (some bi), .string p]).run Tryz.prog w = .ok (.tuple #[]) w' ∧ Mp w' bi (drop L p) ∧ w.mapTurned w' bi := by
  obtain ⟨D, ho, hr, hs⟩ := h
  obtain ⟨w', hrun, ho', ht⟩ := ho.drop strK Tryz.underlying59 (keyP hp) ty
  have hsz : Go.Maps.size (D.del (kL p)) ≤ (drop L p).length := by
    have h1 := Go.Maps.size_del (ho.tidy strK) (k := kL p)
    rw [readsI_has hr] at h1
    have h2 := len_drop hR p
    omega
  refine ⟨w', hrun, ⟨_, own_len ho' hsz, fun q z => ?_, hsz⟩, ht⟩
  by_cases he : q = p
  · subst he
    rw [Go.Maps.atKey_del_same, find_drop_same]
  · rw [Go.Maps.atKey_del_other (fun e => he (kL_inj e)), find_drop L (fun e => he e.symm)]
    exact hr q z
theorem mp_made (w : World) : Mp (w.alloc (.map #[] 0)) w.heap.size [] := ⟨_, World.ownsMap_made w _ _ _, fun p z => rfl, Nat.le_refl _⟩
def roomOf (R : List Rm) (v : ByteArray) : Option Rm := R.find? (fun r => decide (r.vol = v))
def ReadsR (D : DataW Unit) (R : List Rm) : Prop := ∀ v z, D.atKey (kL v) z = match roomOf R v with
  | some r => .lit (.int .i64 r.n)
  | none => z
def Lm (w : World) (bl : Nat) (R : List Rm) : Prop := ∃ D : DataW Unit, w.ownsMap Tryz.prog 9 (plainElem Tryz.prog 3) bl R.length D ∧ ReadsR D R ∧ Go.Maps.size D ≤ R.length
theorem Lm.lt {w : World} {bl : Nat} {R : List Rm} (h : Lm w bl R) : bl < w.heap.size := by
  obtain ⟨D, h, _⟩ := h
  exact h.lt
theorem Lm.kept {w w1 : World} {bl : Nat} {R : List Rm} (h : Lm w bl R) (he : w1.heap[bl]? = w.heap[bl]?) : Lm w1 bl R := by
  obtain ⟨D, h, r⟩ := h
  exact ⟨D, ownsMap_at h he, r⟩
theorem readsR_has {D : DataW Unit} {R : List Rm} (h : ReadsR D R) (v : ByteArray) : Go.Maps.has D (kL v) = (roomOf R v).isSome := by
  cases hf : roomOf R v with
  | none =>
    refine (Go.Maps.has_false_of_atKey fun z => ?_).trans rfl
    rw [h v z, hf]
  | some x =>
    refine (Go.Maps.has_true_of_atKey (y := .lit (.int .i64 x.n)) fun z => ?_).trans rfl
    rw [h v z, hf]
def limV (R : List Rm) (v : ByteArray) : Value := match roomOf R v with
  | some r => .tuple #[.int .i64 r.n, .bool true]
  | none => .tuple #[.int .i64 0, .bool false]
theorem Lm.look {w : World} {bl : Nat} {R : List Rm} (h : Lm w bl R) {v : ByteArray} (hp : v.size ≤ maxLen) :
    (Instr.lookup 60 (.map (some bl)) (.string v) true).run Tryz.prog w = .ok (limV R v) w := by
  obtain ⟨D, ho, hr, _⟩ := h
  obtain ⟨u, ps, hrun, hv⟩ := ho.look_ok strK Tryz.underlying60 (zeroN w) (plainElem_int Tryz.underlying3 (by decide)) (keyP hp)
  rw [hrun, readsR_has hr]
  obtain ⟨c, rfl, hc, hwc⟩ := plainElem_int_inv Tryz.underlying3 hv
  have hc := congrArg Prod.fst hc
  simp only [hr v] at hc
  unfold limV
  cases hf : roomOf R v with
  | none =>
    rw [hf] at hc
    cases hc
    rfl
  | some x =>
    rw [hf] at hc
    cases hc
    rfl
theorem roomOf_set_same : ∀ (R : List Rm) (v : ByteArray) (n : Int), roomOf (setRm R v n) v = some ⟨v, n⟩
  | [], v, n => by unfold setRm roomOf; rw [List.find?_cons_of_pos (by simp)]
  | r :: R, v, n => by
    unfold setRm
    split
    · rename_i h
      unfold roomOf
      rw [List.find?_cons_of_pos (by simp)]
    · rename_i h
      unfold roomOf
      rw [List.find?_cons_of_neg (by simpa using h)]
      exact roomOf_set_same R v n
theorem roomOf_set_other {v u : ByteArray} (hne : u ≠ v) : ∀ (R : List Rm) (n : Int), roomOf (setRm R v n) u = roomOf R u
  | [], n => by unfold setRm roomOf; rw [List.find?_cons_of_neg (by simpa using fun e => hne e.symm)]
  | r :: R, n => by
    unfold setRm
    split
    · rename_i h
      unfold roomOf
      rw [List.find?_cons_of_neg (by simpa using fun e => hne e.symm), List.find?_cons_of_neg (by simpa [h] using fun e => hne e.symm)]
    · rename_i h
      by_cases hu : r.vol = u
      · unfold roomOf
        rw [List.find?_cons_of_pos (by simpa using hu), List.find?_cons_of_pos (by simpa using hu)]
      · unfold roomOf
        rw [List.find?_cons_of_neg (by simpa using hu), List.find?_cons_of_neg (by simpa using hu)]
        exact roomOf_set_other hne R n
theorem len_set (v : ByteArray) (n : Int) : ∀ (R : List Rm), R.length + (if (roomOf R v).isSome then 0 else 1) ≤ (setRm R v n).length
  | [] => by unfold setRm; simp [roomOf]
  | r :: R => by
    by_cases h : r.vol = v
    · have e1 : (roomOf (r :: R) v).isSome = true := by unfold roomOf; rw [List.find?_cons_of_pos (by simpa using h)]; rfl
      have e2 : setRm (r :: R) v n = ⟨v, n⟩ :: R := by unfold setRm; rw [if_pos h]
      rw [e1, e2]
      exact Nat.le_refl _
    · have e : roomOf (r :: R) v = roomOf R v := by unfold roomOf; rw [List.find?_cons_of_neg (by simpa using h)]
      have e2 : setRm (r :: R) v n = r :: setRm R v n := by rw [setRm, if_neg h]
      have := len_set v n R
      rw [e, e2]
      simp only [List.length_cons]
      omega
theorem Lm.store {w : World} {bl : Nat} {R : List Rm} (h : Lm w bl R) {v : ByteArray} (hp : v.size ≤ maxLen) (hn : R.length < maxLen) {n : Int} (hw : (Lit.int .i64 n).wf = true) :
    ∃ w', (Instr.mapUpdate 60 (.map (some bl)) (.string v) (.int .i64 n)).run Tryz.prog w = .ok () w' ∧ Lm w' bl (setRm R v n) ∧ w.mapTurned w' bl := by
  obtain ⟨D, ho, hr, hs⟩ := h
  obtain ⟨w', hrun, ho', ht⟩ := ho.store strK Tryz.underlying60 hn (keyP hp) (plainElem_int Tryz.underlying3 hw)
  have hsz : Go.Maps.size (D.put (kL v) (.lit (.int .i64 n))) ≤ (setRm R v n).length := by
    have h1 := Go.Maps.size_put (ho.tidy strK) (k := kL v) (.lit (.int .i64 n))
    rw [readsR_has hr] at h1
    have h2 := len_set v n R
    rw [h1]
    split at h2 <;> split <;> first | omega | simp_all
  refine ⟨w', hrun, ⟨_, own_len ho' hsz, fun p z => ?_, hsz⟩, ht⟩
  by_cases he : p = v
  · subst he
    rw [Go.Maps.atKey_put_same ho.isMap (kL_key _), roomOf_set_same]
  · rw [Go.Maps.atKey_put_other (fun e => he (kL_inj e)), roomOf_set_other he]
    exact hr p z
theorem lm_made (w : World) : Lm (w.alloc (.map #[] 0)) w.heap.size [] := ⟨_, World.ownsMap_made w _ _ _, fun p z => rfl, Nat.le_refl _⟩
end Go.Proofs.YtdkgkomjbpggeaaGreatDoor.Dk

namespace Go.Proofs.YtdkgkomjbpggeaaGreatDoor.Dk
open Go.RowKit Tx Pm
set_option linter.unusedVariables false
def Ft (b bi bl : Nat) (i : Nat) : Prop := i = b ∨ i = bi ∨ i = bl
structure Ia (b bi bl : Nat) (l : Int) (w : World) (s : St) : Prop where
  blk : w.heap[b]? = some (.cells #[.map (some bi), .map (some bl), .int .i64 l, .int .i64 s.steps, .int .i64 s.stamps, .bool s.down] 62 (0, 0))
  items : Mp w bi s.L
  limits : Lm w bl s.rooms
  ne : bi ≠ bl
  left : s.down = true ∨ l = s.armed
  low : -1 ≤ l ∧ l ≤ 9223372036854775807
theorem Ia.lt {b bi bl : Nat} {l : Int} {w : World} {s : St} (h : Ia b bi bl l w s) : ∀ i, Ft b bi bl i → i < w.heap.size := by
  rintro i (rfl | rfl | rfl)
  · exact (Array.getElem?_eq_some_iff.1 h.blk).1
  · exact h.items.lt
  · exact h.limits.lt
theorem map_block {H : Type} {w : World} {P : Program} {k : TypeId} {R : Value → Option (DataW H × List MemPlace)} {b n : Nat} {D : DataW H} (h : w.ownsMap P k R b n D) {cs : Array Value} {T : TypeId} {fz : Nat × Nat} : w.heap[b]? ≠ some (.cells cs T fz) := by
  obtain ⟨es, clock, hb, _⟩ := h
  rw [hb]
  intro e
  cases e
theorem Ia.nb {b bi bl : Nat} {l : Int} {w : World} {s : St} (h : Ia b bi bl l w s) : b ≠ bi ∧ b ≠ bl := by
  obtain ⟨D, hD, _⟩ := h.items
  obtain ⟨E, hE, _⟩ := h.limits
  exact ⟨fun e => map_block hD (e ▸ h.blk), fun e => map_block hE (e ▸ h.blk)⟩
theorem Ia.kept {b bi bl : Nat} {l : Int} {w w1 : World} {s : St} (h : Ia b bi bl l w s) (hk : ∀ i, Ft b bi bl i → w1.heap[i]? = w.heap[i]?) : Ia b bi bl l w1 s :=
  ⟨(hk b (.inl rfl)).trans h.blk, h.items.kept (hk bi (.inr (.inl rfl))), h.limits.kept (hk bl (.inr (.inr rfl))), h.ne, h.left, h.low⟩
theorem Ia.below {b bi bl : Nat} {l : Int} {w w1 : World} {s : St} (h : Ia b bi bl l w s) (hb : Below w.heap.size w w1) : Ia b bi bl l w1 s := h.kept (fun i hi => hb.block i (h.lt i hi))
theorem Ia.chg {b bi bl : Nat} {l : Int} {w w1 : World} {s : St} {F : Nat → Prop} (h : Ia b bi bl l w s) (hc : Chg F w w1) (hd : ∀ i, Ft b bi bl i → ¬ F i) : Ia b bi bl l w1 s := h.kept (fun i hi => hc.block i (h.lt i hi) (hd i hi))
theorem Ia.cell {b bi bl : Nat} {l : Int} {w : World} {s : St} (h : Ia b bi bl l w s) : w.cell? ⟨b, 0, none⟩ = some (.map (some bi)) ∧ w.cell? ⟨b, 1, none⟩ = some (.map (some bl)) ∧ w.cell? ⟨b, 2, none⟩ = some (.int .i64 l) ∧
    w.cell? ⟨b, 3, none⟩ = some (.int .i64 s.steps) ∧ w.cell? ⟨b, 4, none⟩ = some (.int .i64 s.stamps) ∧ w.cell? ⟨b, 5, none⟩ = some (.bool s.down) := by
  have hb := h.blk
  refine ⟨?_, ?_, ?_, ?_, ?_, ?_⟩ <;> · unfold World.cell?; rw [hb]; rfl
theorem Ia.warm {b bi bl : Nat} {l : Int} {w : World} {s : St} (h : Ia b bi bl l w s) (k : Nat) : w.frozen? ⟨b, k, none⟩ = false := by
  unfold World.frozen?
  rw [h.blk]
  simp
theorem Ia.poke {b bi bl : Nat} {l l1 : Int} {w w1 : World} {s s1 : St} (h : Ia b bi bl l w s) (hc : Chg (· = b) w w1)
    (hb : w1.heap[b]? = some (.cells #[.map (some bi), .map (some bl), .int .i64 l1, .int .i64 s1.steps, .int .i64 s1.stamps, .bool s1.down] 62 (0, 0)))
    (hL : s1.L = s.L) (hR : s1.rooms = s.rooms) (hl : s1.down = true ∨ l1 = s1.armed) (hlo : -1 ≤ l1 ∧ l1 ≤ 9223372036854775807) : Ia b bi bl l1 w1 s1 := by
  obtain ⟨n1, n2⟩ := h.nb
  exact ⟨hb, by rw [hL]; exact h.items.kept (hc.block bi h.items.lt (fun e => n1 e.symm)), by rw [hR]; exact h.limits.kept (hc.block bl h.limits.lt (fun e => n2 e.symm)), h.ne, hl, hlo⟩
theorem Ia.turned {b bi bl : Nat} {l : Int} {w w1 : World} {s : St} {L : List It} (h : Ia b bi bl l w s) (hm : Mp w1 bi L) (ht : w.mapTurned w1 bi) : Ia b bi bl l w1 { s with L := L } := by
  obtain ⟨n1, n2⟩ := h.nb
  exact ⟨(turned_block ht n1).trans h.blk, hm, h.limits.kept (turned_block ht (fun e => h.ne e.symm)), h.ne, h.left, h.low⟩
def Ip (b bi bl : Nat) (w : World) (s : St) (w' : World) : Prop := ∃ l, Ia b bi bl l w' s ∧ Chg (Ft b bi bl) w w'
theorem ft_b {b bi bl : Nat} : ∀ i, i = b → Ft b bi bl i := fun i hi => .inl hi
theorem ft_i {b bi bl : Nat} : ∀ i, i = bi → Ft b bi bl i := fun i hi => .inr (.inl hi)
theorem Ip.of {b bi bl : Nat} {l : Int} {w w1 : World} {s : St} (h : Ia b bi bl l w1 s) (hb : Below w.heap.size w w1) : Ip b bi bl w s w1 := ⟨l, h, Chg.of_below hb⟩
theorem Ip.after {b bi bl : Nat} {w w1 w2 : World} {s : St} (hb : Below w.heap.size w w1) (h : Ip b bi bl w1 s w2) : Ip b bi bl w s w2 := by
  obtain ⟨l, h1, h2⟩ := h
  exact ⟨l, h1, (Chg.of_below hb).then h2⟩
theorem kindK (L : List It) (p : ByteArray) {x : It} (h : find L p = some x) : kOf x = (kind L p : Nat) := by
  unfold kind kOf
  rw [h]
  unfold kindOf
  simp only
  split <;> rfl
theorem lookV_is (L : List It) (p : ByteArray) : lookV L p = .agg #[.int .i64 (kind L p : Nat), .string (old L p).data, .string (old L p).kept, .int .i64 (stOf (old L p)), .int .i64 (old L p).stamp] := by
  unfold lookV
  cases h : find L p with
  | none =>
    have h1 : kind L p = 0 := by unfold kind; rw [h]; rfl
    have h2 : old L p = mk p := by unfold old; rw [h]; rfl
    rw [h1, h2]
    rfl
  | some x =>
    have h2 : old L p = x := by unfold old; rw [h]; rfl
    rw [h2, ← kindK L p h]
    rfl
theorem Ia.look {b bi bl : Nat} {l : Int} {w : World} {s : St} (h : Ia b bi bl l w s) {p : ByteArray} (hp : p.size ≤ maxLen) : (Instr.lookup 59 (.map (some bi)) (.string p) false).run Tryz.prog w =
    .ok (.agg #[.int .i64 (kind s.L p : Nat), .string (old s.L p).data, .string (old s.L p).kept, .int .i64 (stOf (old s.L p)), .int .i64 (old s.L p).stamp]) w := by
  rw [← lookV_is]
  exact h.items.look hp
theorem maxLen_of {n : Nat} (h : n ≤ 8000000000000) : n ≤ maxLen := by unfold maxLen; omega
structure Good (s : St) : Prop where
  rises : Rises s.L
  dirs : ∀ x ∈ s.L, x.dir = true → x.data = ⟨#[]⟩ ∧ x.kept = ⟨#[]⟩ ∧ x.loose = false ∧ x.anew = false ∧ x.stamp = 0
  calm : ∀ x ∈ s.L, x.loose = false → x.anew = false
  vols : s.rooms.Pairwise (fun r r' => r.vol ≠ r'.vol)
theorem good_new : Good newS := ⟨List.Pairwise.nil, (fun x hx => by cases hx), (fun x hx => by cases hx), List.Pairwise.nil⟩
theorem good_of {s s' : St} (h : Good s) (hL : s'.L = s.L) (hR : s'.rooms = s.rooms) : Good s' := ⟨by rw [hL]; exact h.rises, by rw [hL]; exact h.dirs, by rw [hL]; exact h.calm, by rw [hR]; exact h.vols⟩
theorem good_done {s : St} (h : Good s) : Good (done s).2 := good_of h (done_L s) (done_rooms s)
theorem good_ins {s s' : St} {l : List It} {x : It} (h : Good s) (hl : Rises l ∧ ∀ y ∈ l, y ∈ s.L) (hL : s'.L = ins l x) (hd : x.dir = true → x.data = ⟨#[]⟩ ∧ x.kept = ⟨#[]⟩ ∧ x.loose = false ∧ x.anew = false ∧ x.stamp = 0)
    (hc : x.loose = false → x.anew = false) (hR : s'.rooms = s.rooms) : Good s' := by
  have hm : ∀ y ∈ s'.L, y = x ∨ y ∈ s.L := fun y hy => by
    rw [hL] at hy
    exact (mem_ins hy).imp id (fun hh => hl.2 y hh)
  refine ⟨by rw [hL]; exact rises_ins hl.1, fun y hy => ?_, fun y hy => ?_, by rw [hR]; exact h.vols⟩
  · rcases hm y hy with rfl | hy
    · exact hd
    · exact h.dirs y hy
  · rcases hm y hy with rfl | hy
    · exact hc
    · exact h.calm y hy
theorem old_file {s : St} {p : ByteArray} (h : there s p = 0) : (old s.L p).dir = false ∧ (old s.L p) ∈ s.L ∧ (old s.L p).path = p := by
  obtain ⟨k, x, _, hk, hf, _, hp, hd⟩ := there_file h
  have e : old s.L p = x := by rw [old, hf]; rfl
  rw [e]
  exact ⟨hd, List.mem_of_getElem? hk, hp⟩
theorem old_dir {l : List It} {p : ByteArray} (h : kind l p ≠ 1) : (old l p).dir = false := by
  unfold kind at h
  unfold old
  cases hf : find l p with
  | none => rfl
  | some x =>
    rw [hf] at h
    unfold kindOf at h
    cases hd : x.dir with
    | false => exact hd
    | true => simp [hd] at h
theorem good_mkdir {s : St} {p : ByteArray} (h : Good s) : Good (mkdirS s p).2 := by
  unfold mkdirS
  repeat' split
  all_goals first
    | exact h
    | exact good_done h
    | exact good_ins (good_done h) ⟨(good_done h).rises, fun _ hy => hy⟩ rfl (fun _ => ⟨rfl, rfl, rfl, rfl, rfl⟩) (fun _ => rfl) rfl
theorem good_put {s : St} {l : List It} {x : It} (h : Good s) (hl : Rises l ∧ ∀ y ∈ l, y ∈ s.L) (hd : x.dir = false) (hc : x.loose = false → x.anew = false) : Good (putS { s with L := l } x) :=
  good_ins h hl (x := stamped { s with L := l } x) rfl (fun e => by have e : x.dir = true := e; rw [hd] at e; cases e) hc rfl
theorem good_write {s : St} {p d : ByteArray} (h : Good s) : Good (writeS s p d).2 := by
  unfold writeS
  split
  · exact h
  split
  · exact h
  split
  · exact h
  split
  · exact h
  split
  · exact good_done h
  · rename_i h3 _ _
    exact good_put (l := (done s).2.L) (good_done h) ⟨(good_done h).rises, fun _ hy => hy⟩ (old_dir h3) (fun e => by cases e)
theorem calm_old {s : St} (h : Good s) (p : ByteArray) : (old s.L p).loose = false → (old s.L p).anew = false := by
  rcases old_cases s.L p with e | ⟨hm, _⟩
  · rw [e]; exact fun _ => rfl
  · exact h.calm _ hm
theorem there_dir {s : St} {p : ByteArray} (h : ¬ there s p ≠ 0) : (old s.L p).dir = false := (old_file (by omega)).1
theorem good_append {s : St} {p d : ByteArray} (h : Good s) : Good (appendS s p d).2 := by
  unfold appendS
  split
  · exact h
  split
  · exact h
  split
  · exact good_done h
  · rename_i h1 _ _
    exact good_put (l := (done s).2.L) (good_done h) ⟨(good_done h).rises, fun _ hy => hy⟩ (there_dir h1) (fun e => by cases e)
theorem good_sync {s : St} {p : ByteArray} (h : Good s) : Good (syncS s p).2 := by
  unfold syncS
  split
  · exact h
  split
  · exact good_done h
  · rename_i h1 _
    exact good_ins (good_done h) ⟨(good_done h).rises, fun _ hy => hy⟩ rfl (fun e => by have := there_dir h1; rw [show (old s.L p).dir = true from e] at this; cases this) (fun _ => rfl) rfl
theorem good_rename {s : St} {f t : ByteArray} (h : Good s) : Good (renameS s f t).2 := by
  unfold renameS
  split
  · exact h
  split
  · exact h
  split
  · exact h
  split
  · exact h
  split
  · exact h
  split
  · exact good_done h
  · rename_i h4 _ _
    have h1 : kind s.L f ≠ 1 := fun e => h4 (.inl e)
    obtain ⟨d1, _⟩ := drop_in (done s).2.L f
    exact good_put (l := drop (done s).2.L f) (good_done h) ⟨rises_drop f (good_done h).rises, d1⟩ (old_dir h1) (calm_old h f)
def ImpAt (b : Nat) (w : World) (F : Nat → Prop) (s : St) : Prop := ∃ bi bl l, Ia b bi bl l w s ∧ Good s ∧ ∀ i, F i ↔ Ft b bi bl i
theorem imp_kind (b : Nat) : Kind (ImpAt b) where
  lt := fun ⟨bi, bl, l, h, _, hF⟩ i hi => h.lt i ((hF i).1 hi)
  kept := fun ⟨bi, bl, l, h, hg, hF⟩ hk => ⟨bi, bl, l, h.kept (fun i hi => hk i ((hF i).2 hi)), hg, hF⟩
theorem Ip.left {b bi bl : Nat} {w w' : World} {F : Nat → Prop} {s : St} (h : Ip b bi bl w s w') (hg : Good s) (hF : ∀ i, F i ↔ Ft b bi bl i) : Left (ImpAt b) w F s w' := by
  obtain ⟨l, h1, h2⟩ := h
  exact ⟨F, ⟨bi, bl, l, h1, hg, hF⟩, h2.mono (fun i hi => (hF i).2 hi), fun g hg => .inl hg⟩
end Go.Proofs.YtdkgkomjbpggeaaGreatDoor.Dk

namespace Go.Proofs.YtdkgkomjbpggeaaGreatDoor.Pl
open Go.RowKit Pm Tx
set_option linter.unusedVariables false
def st : ByteArray := ⟨#[47]⟩
set_option maxRecDepth 100000 in
set_option maxHeartbeats 1000000 in
theorem lastByte_any (s : ByteArray) (w : World) (hs : s.size ≤ 562949953421312) :
    Calls Tryz.prog 185 #[.string s, .int .u8 47] w fun e w' => e = .returned (.int .i64 ((lastN s.data.toList : Nat) - 1)) ∧ w = w' := by
  go_enter Tryz.func185, Tryz.ntmps185
  go_wp2
  go_loop [5] (fun vi => ∃ k : Nat, k ≤ s.size ∧ vi = .int .i64 ((k : Int) - 1) ∧ Hid (lastN s.data.toList = lastN (s.data.toList.take k))) (fun vi => ((intOf vi) + 1).toNat)
  case atStart => exact ⟨s.size, Nat.le_refl _, by first | rfl | go_num | (congr 1; omega), by rw [Pr.take_all]; rfl⟩
  case round =>
    obtain ⟨k, hk, rfl, hh⟩ := hrel
    rcases Nat.eq_zero_or_pos k with rfl | hpos
    · have h0 := Lib.hid hh.out
      clear hh
      go_wp2
      go_ret
      rw [h0.out]
      exact ⟨rfl, rfl⟩
    · obtain ⟨j, rfl⟩ : ∃ j, k = j + 1 := ⟨k - 1, by omega⟩
      have hlt : j < s.size := by omega
      have hn := lastN_snoc (s.data.toList.take j) s[j]
      rw [← Pr.take_at s j hlt, List.length_take, len_l, Nat.min_eq_left (by omega), ← hh.out] at hn
      have ej : ((j + 1 : Nat) : Int) - 1 = (j : Int) := by omega
      rw [ej]
      by_cases hc : s[j].toNat = 47
      · rw [if_pos (UInt8.toNat_inj.1 hc)] at hn
        have HN := Lib.hid hn
        have e : ((s[j].toNat : Int) == 47) = true := by simp [hc]
        clear hn hc hh
        go_wp2
        go_ret
        rw [HN.out]
        exact ⟨by rw [ej]; rfl, rfl⟩
      · rw [if_neg (fun e => hc (by rw [e]; rfl))] at hn
        have HN := Lib.hid hn
        have e : ((s[j].toNat : Int) == 47) = false := beq_eq_false_iff_ne.2 (by omega)
        clear hn hc hh
        go_wp2
        go_round
        case rel => exact ⟨j, by omega, rfl, HN.out⟩
        case measure => simp [intOf]
set_option maxRecDepth 100000 in
set_option maxHeartbeats 1000000 in
theorem last_any (s : ByteArray) (w : World) (hs : s.size ≤ 562949953421312) :
    Calls Tryz.prog 175 #[.string s, .string ⟨#[47]⟩] w fun e w' => e = .returned (.int .i64 ((lastN s.data.toList : Nat) - 1)) ∧ w = w' := by
  go_enter Tryz.func175, Tryz.ntmps175
  go_wp2_with (go_at_call 185; refine (lastByte_any _ _ hs).mono ?_; rintro e w' ⟨rfl, rfl⟩)
  go_ret
  exact ⟨rfl, rfl⟩
set_option maxRecDepth 100000 in
set_option maxHeartbeats 1000000 in
theorem count_any (s : ByteArray) (w : World) :
    Calls Tryz.prog 157 #[.string s, .string ⟨#[47]⟩] w fun e w' => e = .returned (.int .i64 (s.data.toList.count 47 : Nat)) ∧ w = w' := by
  go_enter Tryz.func157, Tryz.ntmps157
  go_wp2
  rw [run_callFunc_extern Tryz.func173 (by kernel_rfl) (by kernel_rfl) (by kernel_rfl) (e := Extern.BytealgCount.count) (by kernel_rfl), Lib.run_countString]
  simp only [Result.andThen]
  rw [Oper.upon_value]
  go_wp2
  go_ret
  exact ⟨rfl, rfl⟩
set_option maxRecDepth 100000 in
set_option maxHeartbeats 1000000 in
theorem indexByte_any (s : ByteArray) (w : World) :
    Calls Tryz.prog 187 #[.string s, .int .u8 47] w fun e w' => e = .returned (.int .i64 (Lib.indexByte s.data.toList 47)) ∧ w = w' := by
  go_enter Tryz.func187, Tryz.ntmps187
  go_wp2
  rw [run_callFunc_extern Tryz.func194 (by kernel_rfl) (by kernel_rfl) (by kernel_rfl) (e := Extern.BytealgIndexByte.indexByte) (by kernel_rfl), Lib.run_indexByteString]
  simp only [Result.andThen]
  rw [Oper.upon_value]
  go_wp2
  go_ret
  exact ⟨rfl, rfl⟩
set_option maxRecDepth 100000 in
set_option maxHeartbeats 1000000 in
theorem index_any (s : ByteArray) (w : World) :
    Calls Tryz.prog 176 #[.string s, .string ⟨#[47]⟩] w fun e w' => e = .returned (.int .i64 (Lib.indexByte s.data.toList 47)) ∧ w = w' := by
  go_enter Tryz.func176, Tryz.ntmps176
  go_wp2_with (go_at_call 187; refine (indexByte_any _ _).mono ?_; rintro e w' ⟨rfl, rfl⟩)
  · have h : ([47] == s.toList) = true := by assumption
    go_ret
    refine ⟨?_, rfl⟩
    have e : s.data.toList = [47] := by rw [← Lib.toList_data]; exact (beq_iff_eq.1 h).symm
    rw [e]
    simp [Lib.indexByte]
  · go_ret
    exact ⟨rfl, rfl⟩
def hasSt (l : List UInt8) : Bool := l.contains 47
def cutA : List UInt8 → List UInt8
  | [] => []
  | c :: r => if c = 47 then [] else c :: cutA r
def cutB : List UInt8 → List UInt8
  | [] => []
  | c :: r => if c = 47 then r else cutB r
theorem cut_in (l : List UInt8) (i : Nat) (h : Lib.indexByte l 47 = i) : i < l.length ∧ cutA l = l.take i ∧ cutB l = l.drop (i + 1) ∧ 47 ∈ l := by
  induction l generalizing i with
  | nil => simp [Lib.indexByte] at h
  | cons c r ih =>
    rw [Lib.indexByte] at h
    by_cases hc : c = 47
    · rw [if_pos (by simp [hc])] at h
      obtain rfl : i = 0 := by omega
      simp [cutA, cutB, hc]
    · rw [if_neg (by simpa using hc)] at h
      have hge := Lib.indexByte_ge r 47
      by_cases hn : Lib.indexByte r 47 = -1
      · rw [if_pos (by simp [hn])] at h
        omega
      · rw [if_neg (by simp [hn])] at h
        obtain ⟨j, rfl⟩ : ∃ j, i = j + 1 := ⟨i - 1, by omega⟩
        obtain ⟨h1, h2, h3, h4⟩ := ih j (by push_cast at h; omega)
        simp [cutA, cutB, hc, h2, h3, h4]
        omega
theorem cut_out (l : List UInt8) (h : Lib.indexByte l 47 = -1) : cutA l = l ∧ cutB l = [] ∧ 47 ∉ l := by
  induction l with
  | nil => simp [cutA, cutB]
  | cons c r ih =>
    rw [Lib.indexByte] at h
    by_cases hc : c = 47
    · rw [if_pos (by simp [hc])] at h
      omega
    · rw [if_neg (by simpa using hc)] at h
      have hge := Lib.indexByte_ge r 47
      by_cases hn : Lib.indexByte r 47 = -1
      · obtain ⟨h1, h2, h3⟩ := ih hn
        simp [cutA, cutB, hc, h1, h2, h3, Ne.symm hc]
      · rw [if_neg (by simp [hn])] at h
        omega
set_option maxRecDepth 100000 in
set_option maxHeartbeats 1000000 in
theorem cutLite_any (s : ByteArray) (w : World) (hs : s.size ≤ 562949953421312) :
    Calls Tryz.prog 160 #[.string s, .string ⟨#[47]⟩] w fun e w' => e = .returned (.tuple #[.string (tb (cutA s.data.toList)), .string (tb (cutB s.data.toList)), .bool (hasSt s.data.toList)]) ∧ ∃ n, w' = w.drewN n := by
  have hge := Lib.indexByte_ge s.data.toList 47
  by_cases hm : Lib.indexByte s.data.toList 47 = -1
  · obtain ⟨e1, e2, e3⟩ := cut_out _ hm
    have e4 : hasSt s.data.toList = false := by simpa [hasSt] using e3
    rw [e1, e2, e4, tb_of]
    clear e1 e2 e3 e4
    go_enter Tryz.func160, Tryz.ntmps160
    go_wp2_with (go_at_call 176; refine (index_any _ _).mono ?_; rintro e w' ⟨rfl, rfl⟩; rw [hm])
    go_ret3
    exact ⟨rfl, 0, rfl⟩
  · obtain ⟨i, hi⟩ : ∃ i : Nat, Lib.indexByte s.data.toList 47 = i := ⟨(Lib.indexByte s.data.toList 47).toNat, by omega⟩
    obtain ⟨hlt, e1, e2, e3⟩ := cut_in _ i hi
    rw [len_l] at hlt
    have e4 : hasSt s.data.toList = true := by simpa [hasSt] using e3
    have x1 : tb (cutA s.data.toList) = s.extract 0 i := by
      apply ByteArray.ext
      apply Array.toList_inj.1
      rw [ByteArray.data_extract, Array.toList_extract, List.extract_eq_take_drop, e1]
      simp [tb]
    have x2 : tb (cutB s.data.toList) = s.extract (i + 1) s.size := by
      apply ByteArray.ext
      apply Array.toList_inj.1
      rw [ByteArray.data_extract, Array.toList_extract, List.extract_eq_take_drop, e2]
      rw [List.take_of_length_le (by rw [List.length_drop, len_l]; omega)]
      rfl
    rw [x1, x2, e4]
    have c1 : (0 : Int) ≤ ↑i := by omega
    have c2 : (↑i : Int) ≤ ↑s.size := by omega
    have c3 : (0 : Int) ≤ ↑i + 1 := by omega
    have c4 : (↑i + 1 : Int) ≤ ↑s.size := by omega
    clear e1 e2 e3 e4 x1 x2 hge hm
    go_enter Tryz.func160, Tryz.ntmps160
    go_wp2_with (go_at_call 176; refine (index_any _ _).mono ?_; rintro e w' ⟨rfl, rfl⟩; rw [hi])
    go_region
    go_wp2
    go_ret3
    exact ⟨rfl, 1, rfl⟩
set_option maxRecDepth 100000 in
set_option maxHeartbeats 1000000 in
theorem cut_any (s : ByteArray) (w : World) (hs : s.size ≤ 562949953421312) :
    Calls Tryz.prog 137 #[.string s, .string ⟨#[47]⟩] w fun e w' => e = .returned (.tuple #[.string (tb (cutA s.data.toList)), .string (tb (cutB s.data.toList)), .bool (hasSt s.data.toList)]) ∧ ∃ n, w' = w.drewN n := by
  go_enter Tryz.func137, Tryz.ntmps137
  go_wp2_with (go_at_call 160; refine (cutLite_any _ _ hs).mono ?_; rintro e w' ⟨rfl, n, rfl⟩)
  go_ret3
  exact ⟨rfl, n, rfl⟩
set_option maxRecDepth 100000 in
set_option maxHeartbeats 1000000 in
theorem hasPrefixLite_any (s p : ByteArray) (w : World) (hs : s.size ≤ 562949953421312) (hp : p.size ≤ 562949953421312) :
    Calls Tryz.prog 87 #[.string s, .string p] w fun e w' => e = .returned (.bool (Lib.hasPrefix s.data.toList p.data.toList)) ∧ w = w' := by
  rw [← Lib.hasPrefix_raw]
  go_enter Tryz.func87, Tryz.ntmps87
  go_wp2
  · rename_i h
    go_ret
    refine ⟨?_, rfl⟩
    simp [h]
  · rename_i h
    go_ret
    refine ⟨?_, rfl⟩
    simp [h]
set_option maxRecDepth 100000 in
set_option maxHeartbeats 1000000 in
theorem hasPrefix_any (s p : ByteArray) (w : World) (hs : s.size ≤ 562949953421312) (hp : p.size ≤ 562949953421312) :
    Calls Tryz.prog 53 #[.string s, .string p] w fun e w' => e = .returned (.bool (Lib.hasPrefix s.data.toList p.data.toList)) ∧ w = w' := by
  go_enter Tryz.func53, Tryz.ntmps53
  go_wp2_with (go_at_call 87; refine (hasPrefixLite_any _ _ _ hs hp).mono ?_; rintro e w' ⟨rfl, rfl⟩)
  go_ret
  exact ⟨rfl, rfl⟩
end Go.Proofs.YtdkgkomjbpggeaaGreatDoor.Pl

namespace Go.Proofs.YtdkgkomjbpggeaaGreatDoor.Pr
open Go.RowKit Pm Tx Pl
set_option linter.unusedVariables false
theorem count_spl (l : List UInt8) : l.count 47 + 1 = (spl l).length := by
  induction l with
  | nil => rfl
  | cons c r ih =>
    rw [spl]
    by_cases hc : c = 47
    · rw [if_pos hc, List.length_cons, ← ih, hc, List.count_cons_self]
    · rw [if_neg hc, List.count_cons_of_ne hc]
      cases hs : spl r with
      | nil => exact absurd hs (spl_ne r)
      | cons x xs => rw [ih, hs]; rfl
theorem spl_cut (l : List UInt8) : spl l = cutA l :: (if hasSt l then spl (cutB l) else []) := by
  induction l with
  | nil => rfl
  | cons c r ih =>
    rw [spl]
    by_cases hc : c = 47
    · simp [hc, cutA, cutB, hasSt]
    · have e : hasSt (c :: r) = hasSt r := by simp [hasSt, Ne.symm hc]
      rw [if_neg hc, ih, cutA, if_neg hc, cutB, if_neg hc, e]
theorem cutB_le (l : List UInt8) : (cutB l).length ≤ l.length := by
  induction l with
  | nil => exact Nat.le_refl _
  | cons c r ih =>
    rw [cutB]
    split
    · simp
    · simp; omega
theorem cutB_lt (l : List UInt8) (h : hasSt l = true) : (cutB l).length < l.length := by
  induction l with
  | nil => simp [hasSt] at h
  | cons c r ih =>
    rw [cutB]
    by_cases hc : c = 47
    · rw [if_pos hc]; simp
    · rw [if_neg hc]
      have := ih (by simpa [hasSt, Ne.symm hc] using h)
      simp; omega
theorem cutA_le (l : List UInt8) : (cutA l).length ≤ l.length := by
  induction l with
  | nil => exact Nat.le_refl _
  | cons c r ih =>
    rw [cutA]
    split
    · simp
    · simp; omega
def okR (c : Nat) : Bool := (97 ≤ c && c ≤ 122) || (48 ≤ c && c ≤ 57) || c == 95
set_option maxRecDepth 100000 in
set_option maxHeartbeats 1000000 in
theorem inName_any (X : Nat) (w : World) (hX : X ≤ 2147483647) :
    Calls Tryz.prog 161 #[.int .i32 X] w fun e w' => e = .returned (.bool (okR X)) ∧ w = w' := by
  rcases show (X < 48) ∨ (57 < X ∧ X < 95) ∨ X = 96 ∨ 122 < X ∨ (48 ≤ X ∧ X ≤ 57) ∨ X = 95 ∨ (97 ≤ X ∧ X ≤ 122) by omega with h | h | h | h | h | h | h
  · have hb : okR X = false := by simp [okR]; omega
    have e : ((X : Int) == 95) = false := beq_eq_false_iff_ne.2 (by omega)
    rw [hb]
    go_enter Tryz.func161, Tryz.ntmps161
    go_wp2
    go_ret
    exact ⟨rfl, rfl⟩
  · have hb : okR X = false := by simp [okR]; omega
    have e : ((X : Int) == 95) = false := beq_eq_false_iff_ne.2 (by omega)
    have d57 : decide ((X : Int) ≤ 57) = false := decide_eq_false (by omega)
    rw [hb]
    go_enter Tryz.func161, Tryz.ntmps161
    go_wp2
    go_ret
    exact ⟨rfl, rfl⟩
  · have hb : okR X = false := by simp [okR]; omega
    have e : ((X : Int) == 95) = false := beq_eq_false_iff_ne.2 (by omega)
    have d57 : decide ((X : Int) ≤ 57) = false := decide_eq_false (by omega)
    rw [hb]
    go_enter Tryz.func161, Tryz.ntmps161
    go_wp2
    go_ret
    exact ⟨rfl, rfl⟩
  · have hb : okR X = false := by simp [okR]; omega
    have e : ((X : Int) == 95) = false := beq_eq_false_iff_ne.2 (by omega)
    have d57 : decide ((X : Int) ≤ 57) = false := decide_eq_false (by omega)
    have d122 : decide ((X : Int) ≤ 122) = false := decide_eq_false (by omega)
    rw [hb]
    go_enter Tryz.func161, Tryz.ntmps161
    go_wp2
    go_ret
    exact ⟨rfl, rfl⟩
  · have hb : okR X = true := by simp [okR]; omega
    have e : ((X : Int) == 95) = false := beq_eq_false_iff_ne.2 (by omega)
    rw [hb]
    go_enter Tryz.func161, Tryz.ntmps161
    go_wp2
    go_ret
    exact ⟨rfl, rfl⟩
  · have hb : okR X = true := by simp [okR]; omega
    have e : ((X : Int) == 95) = true := by simp [h]
    rw [hb]
    go_enter Tryz.func161, Tryz.ntmps161
    go_wp2
    go_ret
    exact ⟨rfl, rfl⟩
  · have hb : okR X = true := by simp [okR]; omega
    have e : ((X : Int) == 95) = false := beq_eq_false_iff_ne.2 (by omega)
    rw [hb]
    go_enter Tryz.func161, Tryz.ntmps161
    go_wp2
    go_ret
    exact ⟨rfl, rfl⟩
theorem below_iter (w : World) (s : ByteArray) (pos : Nat) : Below w.heap.size w (w.iter s pos) := by
  have := (Below.refl w.heap.size w).alloc (Nat.le_refl _) (.stringIter s pos)
  exact this
set_option maxRecDepth 100000 in
set_option maxHeartbeats 1000000 in
theorem pName_any (s : ByteArray) (w : World) (hs : s.size ≤ 562949953421312) :
    Calls Tryz.prog 138 #[.string s] w fun e w' => e = .returned (.bool (isName s.data.toList)) ∧ Below w.heap.size w w' := by
  by_cases h0 : s = ⟨#[]⟩
  · have hn : isName s.data.toList = false := by rw [list_nil h0]; rfl
    have e1 := is_empty h0
    rw [hn]
    clear hn h0
    go_enter Tryz.func138, Tryz.ntmps138
    go_wp2
    go_ret
    exact ⟨rfl, Below.refl _ _⟩
  have hpos : 1 ≤ s.size := by
    rcases Nat.eq_zero_or_pos s.size with h | h
    · exact absurd (size_zero.1 h) h0
    · exact h
  have e1 := not_empty h0
  clear h0
  by_cases h12 : s.size ≤ 12
  · go_enter Tryz.func138, Tryz.ntmps138
    go_wp2
    go_loopw [] (fun wr => ∃ k : Nat, k ≤ s.size ∧ wr = w.iter s k ∧ Hid ((s.data.toList.take k).all okC = true)) (fun wr => s.size - wr.iterPos w.heap.size)
    case atStart => exact ⟨0, Nat.zero_le _, rfl, rfl⟩
    case round =>
      obtain ⟨k, hk, rfl, hall⟩ := hrel
      by_cases hlt : k < s.size
      · have hnx : ∀ ty, (Instr.next (.pointer (some ⟨w.heap.size, 0, none⟩)) true ty).run Tryz.prog (w.iter s k) = _ := fun ty => run_next_any w s k ty hlt
        have hd1 := decode_le s k
        by_cases ha : s[k].toNat < 128
        · rw [decode_ascii s k hlt ha] at hnx
          have hgood := fun h => Lib.hid (all_at s k hlt hall.out h)
          have hbad := fun h => Lib.hid (all_not s k hlt h)
          obtain ⟨X, hXe⟩ : ∃ X, X = s[k].toNat := ⟨_, rfl⟩
          have hok : okC s[k] = okR X := by rw [hXe]; rfl
          rw [hok] at hgood hbad
          rw [← hXe] at hnx ha
          clear hok hXe hall hd1
          cases hx : okR X with
          | true =>
            have hb := hgood hx
            clear hgood hbad
            go_wp2_with (go_at_call 161; refine (inName_any X _ (by omega)).mono ?_; rintro e w' ⟨rfl, rfl⟩; rw [hx])
            go_roundw
            case rel => exact ⟨k + 1, by omega, rfl, hb.out⟩
            case measure => simp; omega
          | false =>
            have hb := hbad hx
            clear hgood hbad
            go_wp2_with (go_at_call 161; refine (inName_any X _ (by omega)).mono ?_; rintro e w' ⟨rfl, rfl⟩; rw [hx])
            go_ret
            exact ⟨by rw [hb.out]; rfl, below_iter _ _ _⟩
        · have hdh := (decode_high s k hlt (by omega)).1
          have hb := Lib.hid (all_not s k hlt (by simp [okC]; omega))
          obtain ⟨X, hXe⟩ : ∃ X, X = (Utf8.decode s k).1 := ⟨_, rfl⟩
          rw [← hXe] at hnx hdh hd1
          have hx : okR X = false := by simp [okR]; omega
          clear hXe hall
          go_wp2_with (go_at_call 161; refine (inName_any X _ (by omega)).mono ?_; rintro e w' ⟨rfl, rfl⟩; rw [hx])
          go_ret
          exact ⟨by rw [hb.out]; rfl, below_iter _ _ _⟩
      · have hnx : ∀ ty, (Instr.next (.pointer (some ⟨w.heap.size, 0, none⟩)) true ty).run Tryz.prog (w.iter s k) = _ := fun ty => run_next_end w s k ty hlt
        obtain rfl : k = s.size := by omega
        have hn : isName s.data.toList = true := by
          have h := hall.out
          rw [take_all] at h
          rw [isName, h, len_l]
          simp [hpos, h12]
        have HN := Lib.hid hn
        clear hn hall
        go_wp2
        go_ret
        exact ⟨by rw [HN.out]; rfl, below_iter _ _ _⟩
  · have hn : isName s.data.toList = false := by
      rw [isName, len_l]
      simp [h12]
    rw [hn]
    go_enter Tryz.func138, Tryz.ntmps138
    go_wp2
    go_ret
    exact ⟨rfl, Below.refl _ _⟩
set_option maxRecDepth 100000 in
set_option maxHeartbeats 1000000 in
theorem lastStroke_any (s : ByteArray) (w : World) (hs : s.size ≤ 562949953421312) :
    Calls Tryz.prog 158 #[.string s] w fun e w' => e = .returned (.int .i64 ((lastN s.data.toList : Nat) - 1)) ∧ w = w' := by
  go_enter Tryz.func158, Tryz.ntmps158
  go_wp2_with (go_at_call 175; refine (last_any _ _ hs).mono ?_; rintro e w' ⟨rfl, rfl⟩)
  go_ret
  exact ⟨rfl, rfl⟩
set_option maxRecDepth 100000 in
set_option maxHeartbeats 1000000 in
theorem pParent_any (s : ByteArray) (w : World) (hs : s.size ≤ 562949953421312) :
    Calls Tryz.prog 132 #[.string s] w fun e w' => e = .returned (.string (tb (par s.data.toList))) ∧ Below w.heap.size w w' := by
  have cl := fun W => lastStroke_any s W hs
  have hL := lastN_le s.data.toList
  rw [len_l] at hL
  rw [← par_ext]
  obtain ⟨L, hLe⟩ : ∃ L, L = lastN s.data.toList := ⟨_, rfl⟩
  rw [← hLe] at cl hL ⊢
  clear hLe
  by_cases h0 : L = 0
  · subst h0
    go_enter Tryz.func132, Tryz.ntmps132
    go_wp2_with (go_at_call 158; refine (cl _).mono ?_; rintro e w1 ⟨rfl, rfl⟩)
    go_ret
    exact ⟨by first | (simp; done) | (simp; exact Or.inl (by decide)), Below.refl _ _⟩
  · obtain ⟨K, rfl⟩ : ∃ K, L = K + 1 := ⟨L - 1, by omega⟩
    have e1 : ((K + 1 : Nat) : Int) - 1 = K := by omega
    rw [e1] at cl
    rw [Nat.add_sub_cancel]
    clear h0
    go_enter Tryz.func132, Tryz.ntmps132
    go_wp2_with (go_at_call 158; refine (cl _).mono ?_; rintro e w1 ⟨rfl, rfl⟩)
    go_ret
    exact ⟨rfl, Below.refl _ _⟩
set_option maxRecDepth 100000 in
set_option maxHeartbeats 1000000 in
theorem pJoin_any (a b : ByteArray) (w : World) (hs : a.size + b.size ≤ 562949953421312) :
    Calls Tryz.prog 26 #[.string a, .string b] w fun e w' => e = .returned (.string (tb (joi a.data.toList b.data.toList))) ∧ Below w.heap.size w w' := by
  by_cases h1 : a = ⟨#[]⟩
  · have e1 := is_empty h1
    have HR : tb (joi a.data.toList b.data.toList) = b := by
      rw [joi, if_neg (fun h => h.1 (list_nil h1)), list_nil h1]
      exact tb_of b
    rw [HR]
    clear HR h1
    go_enter Tryz.func26, Tryz.ntmps26
    go_wp2
    go_ret
    exact ⟨rfl, Below.refl _ _⟩
  · by_cases h2 : b = ⟨#[]⟩
    · have e1 := not_empty h1
      have e2 := is_empty h2
      have HR : tb (joi a.data.toList b.data.toList) = a := by
        rw [joi, if_neg (fun h => h.2 (list_nil h2)), list_nil h2, List.append_nil]
        exact tb_of a
      rw [HR]
      clear HR h1 h2
      go_enter Tryz.func26, Tryz.ntmps26
      go_wp2
      go_ret
      exact ⟨rfl, Below.refl _ _⟩
    · have e1 := not_empty h1
      have e2 := not_empty h2
      have HR : tb (joi a.data.toList b.data.toList) = a ++ ⟨#[47]⟩ ++ b := by
        rw [joi, if_pos ⟨list_ne h1, list_ne h2⟩]
        apply ByteArray.ext
        apply Array.toList_inj.1
        simp [tb]
      rw [HR]
      clear HR h1 h2
      go_enter Tryz.func26, Tryz.ntmps26
      go_wp2
      go_ret
      exact ⟨rfl, Below.refl _ _⟩
set_option maxRecDepth 100000 in
set_option maxHeartbeats 1000000 in
theorem pDeep_any (p : ByteArray) (w : World) (hs : p.size ≤ 562949953421312) :
    Calls Tryz.prog 131 #[.string p] w fun e w' => e = .returned (.int .i64 (dep p.data.toList : Nat)) ∧ Below w.heap.size w w' := by
  by_cases h1 : p = ⟨#[]⟩
  · have e1 := is_empty h1
    have e2 : dep p.data.toList = 0 := by rw [dep, if_pos (list_nil h1)]
    rw [e2]
    clear h1 e2
    go_enter Tryz.func131, Tryz.ntmps131
    go_wp2
    go_ret
    exact ⟨rfl, Below.refl _ _⟩
  · have e1 := not_empty h1
    have e2 : dep p.data.toList = p.data.toList.count 47 + 1 := by rw [dep, if_neg (list_ne h1), count_spl]
    rw [e2]
    have cs := fun W => count_any p W
    have hc : p.data.toList.count 47 ≤ p.size := by rw [← len_l]; exact List.count_le_length
    obtain ⟨C, hC⟩ : ∃ C, C = p.data.toList.count 47 := ⟨_, rfl⟩
    rw [← hC] at cs hc ⊢
    clear h1 e2 hC
    go_enter Tryz.func131, Tryz.ntmps131
    go_wp2_with (go_at_call 157; refine (cs _).mono ?_; rintro e w1 ⟨rfl, rfl⟩)
    go_ret
    exact ⟨by first | rfl | go_num, Below.refl _ _⟩
theorem names_cut (l : List UInt8) : (spl l).all isName = (isName (cutA l) && (if hasSt l then (spl (cutB l)).all isName else true)) := by
  rw [spl_cut, List.all_cons]
  cases hasSt l <;> rfl
def strLen : Value → Nat
  | .string s => s.size
  | _ => 0
set_option maxRecDepth 100000 in
set_option maxHeartbeats 1000000 in
theorem pCheck_any (p : ByteArray) (d : Int) (w : World) (hs : p.size ≤ 562949953421312) (h1 : -9223372036854775808 ≤ d) (h2 : d ≤ 9223372036854775807) :
    Calls Tryz.prog 101 #[.string p, .int .i64 d] w fun e w' => e = .returned (.int .i64 (chk p.data.toList d : Nat)) ∧ Below w.heap.size w w' := by
  have cd := fun W => pDeep_any p W hs
  by_cases hd : (dep p.data.toList : Int) > d
  · have hr : chk p.data.toList d = 10 := by
      rw [chk, isPath, if_neg]
      intro h
      rw [Bool.and_eq_true] at h
      have := of_decide_eq_true h.1
      rw [dep] at hd
      split at hd
      · rename_i h0
        rw [h0] at h
        have := h.2
        revert this
        decide
      · omega
    rw [hr]
    have hdl : dep p.data.toList ≤ p.size + 1 := by
      have := spl_len p.data.toList
      rw [len_l] at this
      rw [dep]
      split <;> omega
    obtain ⟨D, hD⟩ : ∃ D, D = dep p.data.toList := ⟨_, rfl⟩
    rw [← hD] at cd hd hdl
    clear hr hD
    go_enter Tryz.func101, Tryz.ntmps101
    go_wp2_with (go_at_call 131; refine (cd _).mono ?_; rintro e w1 ⟨rfl, hb1⟩)
    go_ret
    exact ⟨rfl, hb1⟩
  · have hr : chk p.data.toList d = if (spl p.data.toList).all isName then 0 else 10 := by
      rw [chk, isPath]
      rw [dep] at hd
      split at hd
      · rename_i h0
        rw [h0]
        have e : (spl []).all isName = false := by decide
        rw [e, Bool.and_false]
      · rw [decide_eq_true (by omega), Bool.true_and]
    have HR := Lib.hid hr
    have hdl : dep p.data.toList ≤ p.size + 1 := by
      have := spl_len p.data.toList
      rw [len_l] at this
      rw [dep]
      split <;> omega
    obtain ⟨D, hD⟩ : ∃ D, D = dep p.data.toList := ⟨_, rfl⟩
    rw [← hD] at cd hd hdl
    clear hr hD
    go_enter Tryz.func101, Tryz.ntmps101
    go_wp2_with (go_at_call 131; refine (cd _).mono ?_; rintro e w1 ⟨rfl, hb1⟩)
    go_loopw [0, 5, 6, 7] (fun q a b m wr => ∃ l : List UInt8, q = .string (tb l) ∧ l.length ≤ p.size ∧ Hid ((spl p.data.toList).all isName = (spl l).all isName) ∧ Below w.heap.size w wr) (fun q _ _ _ _ => strLen q)
    case atStart => exact ⟨p.data.toList, by rw [tb_of], by rw [len_l]; exact Nat.le_refl _, rfl, hb1⟩
    case round =>
      obtain ⟨l, rfl, hl, hinv, hb⟩ := hrel
      have cc := fun W => cut_any (tb l) W (by rw [tb_size]; omega)
      have hA := cutA_le l
      have hB := cutB_le l
      have hB2 := cutB_lt l
      have cn := fun W => pName_any (tb (cutA l)) W (by rw [tb_size]; omega)
      rw [tb_list] at cc cn
      have hcut := names_cut l
      cases hn : isName (cutA l) with
      | false =>
        have hno : (spl p.data.toList).all isName = false := by rw [hinv.out, hcut, hn]; rfl
        have hr := Lib.hid (show chk p.data.toList d = 10 by rw [HR.out, hno]; rfl)
        rw [hn] at cn
        clear hinv HR hcut hno hn hB2
        go_wp2_with (first | (go_at_call 137; refine (cc _).mono ?_; rintro e w1 ⟨rfl, n1, rfl⟩) | (go_at_call 138; refine (cn _).mono ?_; rintro e w2 ⟨rfl, hb2⟩))
        go_ret
        exact ⟨by rw [hr.out]; rfl, below_call (below_drewN hb n1) hb2⟩
      | true =>
        rw [hn] at cn
        cases hst : hasSt l with
        | false =>
          have hyes : (spl p.data.toList).all isName = true := by rw [hinv.out, hcut, hn, hst]; rfl
          have hr := Lib.hid (show chk p.data.toList d = 0 by rw [HR.out, hyes]; rfl)
          rw [hst] at cc
          clear hinv HR hcut hyes hn hB2 hst
          go_wp2_with (first | (go_at_call 137; refine (cc _).mono ?_; rintro e w1 ⟨rfl, n1, rfl⟩) | (go_at_call 138; refine (cn _).mono ?_; rintro e w2 ⟨rfl, hb2⟩))
          go_ret
          exact ⟨by rw [hr.out]; rfl, below_call (below_drewN hb n1) hb2⟩
        | true =>
          have hnext : Hid ((spl p.data.toList).all isName = (spl (cutB l)).all isName) := Lib.hid (by rw [hinv.out, hcut, hn, hst]; rfl)
          have hlt := hB2 hst
          rw [hst] at cc
          clear hinv HR hcut hn hB2 hst
          go_wp2_with (first | (go_at_call 137; refine (cc _).mono ?_; rintro e w1 ⟨rfl, n1, rfl⟩) | (go_at_call 138; refine (cn _).mono ?_; rintro e w2 ⟨rfl, hb2⟩))
          go_roundw
          case rel => exact ⟨cutB l, rfl, by omega, hnext, below_call (below_drewN hb n1) hb2⟩
          case measure => simp [strLen, tb_size]; omega
end Go.Proofs.YtdkgkomjbpggeaaGreatDoor.Pr

namespace Go.Proofs.YtdkgkomjbpggeaaGreatDoor.Dk
open Go.RowKit Tx Pm Pl Pr
set_option linter.unusedVariables false
theorem vol_cut (p : ByteArray) : vol p = tb (cutA p.data.toList) := by
  unfold vol
  rw [spl_cut]
  rfl
theorem below_drewN (w : World) (n : Nat) : Below w.heap.size w (w.drewN n) := by
  induction n with
  | zero => exact Below.refl _ _
  | succ n ih => exact ih.drew
set_option maxRecDepth 100000 in
theorem iVol_any (p : ByteArray) (w : World) (hp : p.size ≤ 8000000000000) :
    Calls Tryz.prog 146 #[.string p] w fun e w' => e = .returned (.string (vol p)) ∧ ∃ n, w' = w.drewN n := by
  have c1 := fun W => cut_any p W (by omega)
  rw [vol_cut]
  go_enter Tryz.func146, Tryz.ntmps146
  go_wp2_with (go_at_call 137; refine (c1 _).mono ?_; rintro e w' ⟨rfl, n, rfl⟩)
  go_ret
  exact ⟨rfl, _, rfl⟩
def mbf (L : List It) (p : ByteArray) : Nat := if kind L p = 0 then 11 else if kind L p = 1 then 12 else 0
theorem fld0 (k : Int) (s t : ByteArray) (st n : Int) (w : World) : (Instr.field 112 (.agg #[.int .i64 k, .string s, .string t, .int .i64 st, .int .i64 n]) 0).run Tryz.prog w = .ok (.int .i64 k) w := by kernel_rfl
theorem fld1 (k : Int) (s t : ByteArray) (st n : Int) (w : World) : (Instr.field 112 (.agg #[.int .i64 k, .string s, .string t, .int .i64 st, .int .i64 n]) 1).run Tryz.prog w = .ok (.string s) w := by kernel_rfl
theorem fld2 (k : Int) (s t : ByteArray) (st n : Int) (w : World) : (Instr.field 112 (.agg #[.int .i64 k, .string s, .string t, .int .i64 st, .int .i64 n]) 2).run Tryz.prog w = .ok (.string t) w := by kernel_rfl
set_option maxRecDepth 100000 in
theorem iMbf_any (b bi bl : Nat) (l : Int) (s : St) (p : ByteArray) (w : World) (h : Ia b bi bl l w s) (hp : p.size ≤ 8000000000000) :
    Calls Tryz.prog 95 #[.pointer (some ⟨b, 0, none⟩), .string p] w fun e w' => e = .returned (.int .i64 (mbf s.L p : Nat)) ∧ w = w' := by
  have hl := h.look (maxLen_of hp)
  obtain ⟨c0, c1, c2, c3, c4, c5⟩ := h.cell
  have f0 := fld0
  unfold mbf
  generalize kind s.L p = K at hl ⊢
  clear h c1 c2 c3 c4 c5
  by_cases h0 : K = 0
  · subst h0
    rw [if_pos rfl]
    go_enter Tryz.func95, Tryz.ntmps95
    go_wp2
    go_ret
    exact ⟨rfl, rfl⟩
  · rw [if_neg h0]
    by_cases h1 : K = 1
    · subst h1
      rw [if_pos rfl]
      go_enter Tryz.func95, Tryz.ntmps95
      go_wp2
      go_ret
      exact ⟨rfl, rfl⟩
    · rw [if_neg h1]
      have e0 : ((K : Int) == 0) = false := beq_eq_false_iff_ne.2 (by omega)
      have e1 : ((K : Int) == 1) = false := beq_eq_false_iff_ne.2 (by omega)
      clear h0 h1
      go_enter Tryz.func95, Tryz.ntmps95
      go_wp2
      go_ret
      exact ⟨rfl, rfl⟩
set_option maxRecDepth 100000 in
theorem iKind_any (b bi bl : Nat) (l : Int) (s : St) (p : ByteArray) (w : World) (h : Ia b bi bl l w s) (hp : p.size ≤ 8000000000000) :
    Calls Tryz.prog 24 #[.pointer (some ⟨b, 0, none⟩), .string p] w fun e w' => e = .returned (.int .i64 (kind s.L p : Nat)) ∧ w = w' := by
  have hl := h.look (maxLen_of hp)
  obtain ⟨c0, c1, c2, c3, c4, c5⟩ := h.cell
  have f0 := fld0
  generalize kind s.L p = K at hl ⊢
  clear h c1 c2 c3 c4 c5
  go_enter Tryz.func24, Tryz.ntmps24
  go_wp2
  go_ret
  exact ⟨rfl, rfl⟩
theorem tb_nil {l : List UInt8} (h : l = []) : tb l = ⟨#[]⟩ := by rw [h]; rfl
theorem tb_ne {l : List UInt8} (h : l ≠ []) : tb l ≠ ⟨#[]⟩ := fun e => h (by
  have := congrArg (fun x : ByteArray => x.data.toList) e
  simpa [tb] using this)
theorem par_len (l : List UInt8) : (tb (par l)).size ≤ l.length := by
  unfold par
  simp [tb, ByteArray.size]
  exact Nat.min_le_right _ _
set_option maxRecDepth 100000 in
theorem iHome_any (b bi bl : Nat) (l : Int) (s : St) (p : ByteArray) (w : World) (h : Ia b bi bl l w s) (hp : p.size ≤ 8000000000000) :
    Calls Tryz.prog 94 #[.pointer (some ⟨b, 0, none⟩), .string p] w fun e w' => e = .returned (.bool (home s.L p)) ∧ Below w.heap.size w w' := by
  have cp := pParent_any p w (by omega)
  have hq := par_len p.data.toList
  rw [len_l] at hq
  have hl := fun W (hW : Below w.heap.size w W) => (h.below hW).look (p := tb (par p.data.toList)) (maxLen_of (by omega))
  have hc := fun W (hW : Below w.heap.size w W) => (h.below hW).cell.1
  have f0 := fld0
  unfold home
  by_cases h0 : par p.data.toList = []
  · have e0 : (tb (par p.data.toList)).toList.isEmpty = true := is_empty (tb_nil h0)
    rw [tb_nil h0] at cp
    have e1 : (decide (par p.data.toList = []) || decide (kind s.L (tb (par p.data.toList)) = 1)) = true := by simp [h0]
    rw [e1]
    clear hl hc h e0 e1 h0 hq
    go_enter Tryz.func94, Tryz.ntmps94
    go_wp2_with (go_at_call 132; refine cp.mono ?_; rintro e w1 ⟨rfl, hb⟩)
    go_ret
    exact ⟨rfl, hb⟩
  · have e0 : (tb (par p.data.toList)).toList.isEmpty = false := not_empty (tb_ne h0)
    have e1 : (decide (par p.data.toList = []) || decide (kind s.L (tb (par p.data.toList)) = 1)) = decide (kind s.L (tb (par p.data.toList)) = 1) := by simp [h0]
    rw [e1]
    clear e1 h0 hq h
    generalize tb (par p.data.toList) = q at hl hc cp e0 ⊢
    generalize kind s.L q = K at hl ⊢
    have HL := Lib.hid hl
    have HC := Lib.hid hc
    clear hl hc
    by_cases h1 : K = 1
    · subst h1
      go_enter Tryz.func94, Tryz.ntmps94
      go_wp2_with (go_at_call 132; refine cp.mono ?_; rintro e w1 ⟨rfl, hb⟩; have c0 := HC.out _ hb; have l0 := HL.out _ hb)
      go_ret
      exact ⟨rfl, hb⟩
    · have e2 : ((K : Int) == 1) = false := beq_eq_false_iff_ne.2 (by omega)
      have e3 : decide (K = 1) = false := decide_eq_false h1
      rw [e3]
      clear h1 e3
      go_enter Tryz.func94, Tryz.ntmps94
      go_wp2_with (go_at_call 132; refine cp.mono ?_; rintro e w1 ⟨rfl, hb⟩; have c0 := HC.out _ hb; have l0 := HL.out _ hb)
      go_ret
      exact ⟨rfl, hb⟩
end Go.Proofs.YtdkgkomjbpggeaaGreatDoor.Dk

namespace Go.Proofs.YtdkgkomjbpggeaaGreatDoor.Dk
open Go.RowKit Tx Pm
set_option linter.unusedVariables false
def came (L : List It) (left : Lit → Bool) : List It := L.filter (fun y => !left (kL y.path))
def less (left : Lit → Bool) (p : ByteArray) : Lit → Bool := fun z => left z && !z.sameKey (kL p)
theorem less_same (left : Lit → Bool) (p : ByteArray) : less left p (kL p) = false := by
  unfold less
  rw [WideAt.sameKey_self (kL_key p)]
  simp
theorem less_other (left : Lit → Bool) {p q : ByteArray} (h : q ≠ p) : less left p (kL q) = left (kL q) := by
  unfold less
  rw [Go.Maps.sameKey_ne (fun e => h (kL_inj e))]
  simp
theorem came_step {left : Lit → Bool} {x : It} (hl : left (kL x.path) = true) : ∀ {L : List It}, Rises L → x ∈ L → (came L (less left x.path)).Perm (x :: came L left)
  | [], _, hx => by cases hx
  | y :: L, hr, hx => by
    obtain ⟨h1, h2⟩ := List.pairwise_cons.1 hr
    by_cases he : y.path = x.path
    · have hyx : x = y := by
        rcases List.mem_cons.1 hx with h | h
        · exact h
        · have := h1 x h
          rw [he, less_irrefl] at this
          cases this
      subst hyx
      have e1 : came L (less left x.path) = came L left := by
        unfold came
        refine List.filter_congr (fun z hz => ?_)
        rw [less_other left (fun e => by have := h1 z hz; rw [e, less_irrefl] at this; cases this)]
      have e2 : came (x :: L) (less left x.path) = x :: came L (less left x.path) := by
        unfold came
        rw [List.filter_cons_of_pos (by rw [less_same]; rfl)]
      have e3 : came (x :: L) left = came L left := by
        unfold came
        rw [List.filter_cons_of_neg (by rw [hl]; simp)]
      rw [e2, e3, e1]
    · have hxL : x ∈ L := by
        rcases List.mem_cons.1 hx with h | h
        · exact absurd (by rw [h]) he
        · exact h
      have ih := came_step hl h2 hxL
      cases hy : left (kL y.path) with
      | true =>
        have e2 : came (y :: L) (less left x.path) = came L (less left x.path) := by
          unfold came
          rw [List.filter_cons_of_neg (by rw [less_other left he, hy]; simp)]
        have e3 : came (y :: L) left = came L left := by
          unfold came
          rw [List.filter_cons_of_neg (by rw [hy]; simp)]
        rw [e2, e3]
        exact ih
      | false =>
        have e2 : came (y :: L) (less left x.path) = y :: came L (less left x.path) := by
          unfold came
          rw [List.filter_cons_of_pos (by rw [less_other left he, hy]; rfl)]
        have e3 : came (y :: L) left = y :: came L left := by
          unfold came
          rw [List.filter_cons_of_pos (by rw [hy]; rfl)]
        rw [e2, e3]
        exact (ih.cons y).trans (List.Perm.swap x y _)
theorem came_start {D : DataW Unit} {L : List It} (h : ReadsI D L) : came L (Go.Maps.has D) = [] := by
  unfold came
  refine List.filter_eq_nil_iff.2 (fun y hy => ?_)
  rw [readsI_has h]
  have : (find L y.path).isSome = true := List.find?_isSome.2 ⟨y, hy, by simp⟩
  rw [this]
  simp
theorem came_end {left : Lit → Bool} (L : List It) (h : ∀ z, left z = false) : came L left = L := by
  unfold came
  exact List.filter_eq_self.2 (fun y hy => by rw [h]; rfl)
theorem came_sub (L : List It) (left : Lit → Bool) : (came L left).Sublist L := List.filter_sublist
theorem key_is {v : ByteArray} {kl : Lit} (h : keyOf Tryz.prog 9 (.string v) = some kl) : kl = kL v ∧ v.size ≤ maxLen := by
  obtain ⟨s, h1, h2, h3⟩ := Go.WideMaps.string_of_keyOf Tryz.underlying9 h
  cases h1
  exact ⟨h2, h3⟩
theorem key_string {key : Value} {kl : Lit} (h : keyOf Tryz.prog 9 key = some kl) : ∃ x : ByteArray, key = .string x := by
  obtain ⟨s, h1, _⟩ := Go.WideMaps.string_of_keyOf Tryz.underlying9 h
  exact ⟨s, h1⟩
theorem next_items (w : World) {ops : Array Oper} {rest : List Oper} {o : Oper} {a : Act} {Q : Exit → Act → World → Prop} (hg : o.guard = none) (it : Operand) (hop : o.op = Op.next it false) (b r n : Nat) (D : DataW Unit) (left : Lit → Bool) (cnt : Nat) (L : List It)
    (hit : a.eval it = .pointer (some ⟨r, 0, none⟩)) (h : w.ranges Tryz.prog 9 itemR b r n D left cnt) (hD : ReadsI D L)
    (hDone : (∀ z, left z = false) → wpList Tryz.prog ops Q rest (a.put o.dst (.tuple #[.bool false])) w)
    (hMore : ∀ (x : It) (w' : World) (cnt' : Nat), x ∈ L → left (kL x.path) = true → w'.ranges Tryz.prog 9 itemR b r n D (less left x.path) cnt' → cnt' < cnt → w.grownBy w' (some r) → w'.heap.size = w.heap.size →
      (Instr.entry (.pointer (some ⟨r, 0, none⟩))).run Tryz.prog w' = .ok (.tuple #[.string x.path, .agg #[.int .i64 (kOf x), .string x.data, .string x.kept, .int .i64 (stOf x), .int .i64 x.stamp]]) w' →
      wpList Tryz.prog ops Q rest (a.put o.dst (.tuple #[.bool true, .string x.path, .agg #[.int .i64 (kOf x), .string x.data, .string x.kept, .int .i64 (stOf x), .int .i64 x.stamp]])) w') :
    wpList Tryz.prog ops Q (o :: rest) a w := by
  refine wpList_next_ranges w hg it hop 9 strK itemR (Value.string) (fun c : Int × ByteArray × ByteArray × Int × Int => mv c.1 c.2.1 c.2.2.1 c.2.2.2.1 c.2.2.2.2)
    (fun key kl hk => key_string hk) (fun v y hv => by obtain ⟨k, s, t, st, m, rfl, _⟩ := itemR_inv hv; exact ⟨(k, s, t, st, m), rfl⟩)
    b r n D left cnt hit h (fun _ hl => hDone hl) (fun p c kl y w' cnt' hkey hlk hv hat hrg hlt hgr hsz hen => ?_)
  obtain ⟨k, s, t, st, m⟩ := c
  obtain ⟨rfl, hps⟩ := key_is hkey
  have hv : itemR (mv k s t st m) = some y := hv
  rw [itemR_mv] at hv
  injection hv with hv
  subst hv
  have hat : ∀ zd, D.atKey (kL p) zd = dv3 k s t st m := hat
  cases hf : find L p with
  | none =>
    have h1 := hat .nil
    rw [hD p, hf] at h1
    cases h1
  | some x =>
    have h1 := hat .nil
    rw [hD p, hf] at h1
    obtain ⟨rfl, rfl, rfl, rfl, rfl⟩ := dv3_inj h1
    obtain ⟨hm, rfl⟩ := find_mem hf
    exact hMore x w' cnt' hm hlk hrg hlt hgr hsz hen
theorem range_items (w : World) {ops : Array Oper} {rest : List Oper} {o : Oper} {a : Act} {Q : Exit → Act → World → Prop} (hg : o.guard = none) (m : Operand) (hop : o.op = Op.range 59 m) (b : Nat) (L : List It)
    (hm : a.eval m = .map (some b)) (h : Mp w b L)
    (hK : ∀ (D : DataW Unit) (w' : World), ReadsI D L → w'.ranges Tryz.prog 9 itemR b w.heap.size L.length D (Go.Maps.has D) (Go.Maps.size D) → w.grownBy w' none → w'.heap.size = w.heap.size + 1 → wpList Tryz.prog ops Q rest (a.put o.dst (.pointer (some ⟨w.heap.size, 0, none⟩))) w') :
    wpList Tryz.prog ops Q (o :: rest) a w := by
  obtain ⟨D, ho, hr, _⟩ := h
  exact wpList_range_own w hg m _ hop 9 112 strK Tryz.underlying59 itemR b L.length D hm ho (fun w' h1 h2 h3 => hK D w' hr h1 h2 h3)
theorem below_grown {W w w' : World} {B r : Nat} (h : Below B W w) (hg : w.grownBy w' (some r)) (hB : B ≤ w.heap.size) (hr : B ≤ r) : Below B W w' := h.grown hg hB (fun j hj => by cases hj; exact hr)
end Go.Proofs.YtdkgkomjbpggeaaGreatDoor.Dk

namespace Go.Proofs.YtdkgkomjbpggeaaGreatDoor.Tb
open Go.RowKit Tx Pm Dk Wm Wr
set_option linter.unusedVariables false
set_option linter.unusedSimpArgs false
set_option linter.unnecessarySimpa false
structure Ch where
  key : ByteArray
  val : ByteArray
  gone : Bool
def ch0 : Ch := ⟨⟨#[]⟩, ⟨#[]⟩, false⟩
def norm (c : Ch) : Ch := if c.gone then ⟨c.key, ⟨#[]⟩, true⟩ else c
def parts (c : Ch) : List ByteArray := if c.gone then [vs 0, ts c.key] else [vs 1, ts c.key, ts c.val]
def recP (l : List Ch) : List ByteArray := vs l.length :: l.flatMap parts
def rec7 (l : List Ch) : ByteArray := cat (recP l)
def tl (t : ByteArray) : List UInt8 := vb t.size ++ t.data.toList
def pl (c : Ch) : List UInt8 := if c.gone then vb 0 ++ tl c.key else vb 1 ++ (tl c.key ++ tl c.val)
def recl (l : List Ch) : List UInt8 := vb l.length ++ l.flatMap pl
theorem ts_tl (t : ByteArray) : (ts t).data.toList = tl t := by rw [ts, ByteArray.data_append, Array.toList_append, vs_list]; rfl
theorem parts_pl (c : Ch) : ((parts c).map (·.data.toList)).flatten = pl c := by
  unfold parts pl
  split
  · simp only [List.map_cons, List.map_nil, List.flatten_cons, List.flatten_nil, List.append_nil, ts_tl, vs_list]
  · simp only [List.map_cons, List.map_nil, List.flatten_cons, List.flatten_nil, List.append_nil, ts_tl, vs_list]
theorem all_pl : ∀ l : List Ch, ((l.flatMap parts).map (·.data.toList)).flatten = l.flatMap pl
  | [] => rfl
  | c :: l => by rw [List.flatMap_cons, List.flatMap_cons, List.map_append, List.flatten_append, parts_pl, all_pl l]
theorem rec7_is (l : List Ch) : rec7 l = ⟨(recl l).toArray⟩ := by
  unfold rec7 cat recP recl
  rw [List.map_cons, List.flatten_cons, all_pl, vs_list]
theorem rec7_list (l : List Ch) : (rec7 l).data.toList = recl l := by rw [rec7_is]
theorem rec7_size (l : List Ch) : (rec7 l).size = (recl l).length := by rw [← Wm.len_l, rec7_list]
theorem tl_len {t : ByteArray} (h : t.size ≤ 9223372036854775807) : (tl t).length ≤ t.size + 10 := by
  have := vb_len (x := t.size) (by omega)
  rw [tl, List.length_append, Wm.len_l]
  omega
theorem pl_len {c : Ch} (hk : c.key.size ≤ 9223372036854775807) (hv : c.val.size ≤ 9223372036854775807) : (pl c).length ≤ c.key.size + c.val.size + 40 := by
  have h1 := tl_len hk
  have h2 := tl_len hv
  have h3 := vb_len (x := 0) (by omega)
  have h4 := vb_len (x := 1) (by omega)
  unfold pl
  split <;> simp only [List.length_append] <;> omega
def wt (l : List Ch) : Nat := (l.map fun c => c.key.size + c.val.size + 40).sum
theorem wt_cons (c : Ch) (l : List Ch) : wt (c :: l) = c.key.size + c.val.size + 40 + wt l := by unfold wt; rw [List.map_cons, List.sum_cons]
theorem wt_mem {l : List Ch} {c : Ch} (h : c ∈ l) : c.key.size + c.val.size + 40 ≤ wt l := by
  induction l with
  | nil => cases h
  | cons x l ih =>
    rw [wt_cons]
    rcases List.mem_cons.1 h with rfl | h
    · omega
    · have := ih h; omega
theorem wt_len (l : List Ch) : l.length * 40 ≤ wt l := by
  induction l with
  | nil => exact Nat.zero_le _
  | cons x l ih => rw [wt_cons, List.length_cons]; omega
theorem all_len : ∀ {l : List Ch}, wt l ≤ 9223372036854775807 → (l.flatMap pl).length ≤ wt l
  | [], _ => Nat.zero_le _
  | c :: l, h => by
    rw [wt_cons] at h ⊢
    have h1 := pl_len (c := c) (by omega) (by omega)
    have h2 := all_len (l := l) (by omega)
    rw [List.flatMap_cons, List.length_append]
    omega
theorem rec7_le {l : List Ch} (h : wt l ≤ 9223372036854775807) : (rec7 l).size ≤ wt l + 10 := by
  have h1 := wt_len l
  have h2 := vb_len (x := l.length) (by omega)
  have h3 := all_len h
  rw [rec7_size, recl, List.length_append]
  omega
def rdOp (s : ByteArray) : Ch × Nat × Nat :=
  if (rdU s.data.toList).2.2 ≠ 0 then (ch0, 0, (rdU s.data.toList).2.2) else
  if 1 < (rdU s.data.toList).1 then (ch0, 0, 3) else
  if (rdT (s.extract (rdU s.data.toList).2.1 s.size)).2.2 ≠ 0 then (ch0, 0, (rdT (s.extract (rdU s.data.toList).2.1 s.size)).2.2) else
  if (rdU s.data.toList).1 = 0 then (⟨(rdT (s.extract (rdU s.data.toList).2.1 s.size)).1, ⟨#[]⟩, true⟩, (rdU s.data.toList).2.1 + (rdT (s.extract (rdU s.data.toList).2.1 s.size)).2.1, 0) else
  if (rdT (s.extract ((rdU s.data.toList).2.1 + (rdT (s.extract (rdU s.data.toList).2.1 s.size)).2.1) s.size)).2.2 ≠ 0 then (ch0, 0, (rdT (s.extract ((rdU s.data.toList).2.1 + (rdT (s.extract (rdU s.data.toList).2.1 s.size)).2.1) s.size)).2.2) else
  (⟨(rdT (s.extract (rdU s.data.toList).2.1 s.size)).1, (rdT (s.extract ((rdU s.data.toList).2.1 + (rdT (s.extract (rdU s.data.toList).2.1 s.size)).2.1) s.size)).1, false⟩,
    (rdU s.data.toList).2.1 + (rdT (s.extract (rdU s.data.toList).2.1 s.size)).2.1 + (rdT (s.extract ((rdU s.data.toList).2.1 + (rdT (s.extract (rdU s.data.toList).2.1 s.size)).2.1) s.size)).2.1, 0)
section
variable {s : ByteArray} {k m n n2 e : Nat} {t t2 : ByteArray}
theorem rdOp_1 (h : rdU s.data.toList = (k, m, e)) (he : e ≠ 0) : rdOp s = (ch0, 0, e) := by unfold rdOp; rw [h]; exact if_pos he
theorem rdOp_2 (h : rdU s.data.toList = (k, m, 0)) (hk : 1 < k) : rdOp s = (ch0, 0, 3) := by
  unfold rdOp; rw [h, if_neg (fun hh => hh rfl)]; exact if_pos hk
theorem rdOp_3 (h : rdU s.data.toList = (k, m, 0)) (hk : k ≤ 1) (h1 : rdT (s.extract m s.size) = (t, n, e)) (he : e ≠ 0) : rdOp s = (ch0, 0, e) := by
  unfold rdOp; rw [h, if_neg (fun hh => hh rfl), if_neg (by show ¬ 1 < k; omega)]
  simp only [h1]
  exact if_pos he
theorem rdOp_4 (h : rdU s.data.toList = (0, m, 0)) (h1 : rdT (s.extract m s.size) = (t, n, 0)) : rdOp s = (⟨t, ⟨#[]⟩, true⟩, m + n, 0) := by
  unfold rdOp; rw [h, if_neg (fun hh => hh rfl), if_neg (by show ¬ 1 < 0; omega)]
  simp only [h1]
  rfl
theorem rdOp_5 (h : rdU s.data.toList = (1, m, 0)) (h1 : rdT (s.extract m s.size) = (t, n, 0)) (h2 : rdT (s.extract (m + n) s.size) = (t2, n2, e)) (he : e ≠ 0) : rdOp s = (ch0, 0, e) := by
  unfold rdOp; rw [h, if_neg (fun hh => hh rfl), if_neg (by show ¬ 1 < 1; omega)]
  simp only [h1, h2]
  rw [if_neg (fun hh => hh rfl), if_neg (by decide)]
  exact if_pos he
theorem rdOp_6 (h : rdU s.data.toList = (1, m, 0)) (h1 : rdT (s.extract m s.size) = (t, n, 0)) (h2 : rdT (s.extract (m + n) s.size) = (t2, n2, 0)) : rdOp s = (⟨t, t2, false⟩, m + n + n2, 0) := by
  unfold rdOp; rw [h, if_neg (fun hh => hh rfl), if_neg (by show ¬ 1 < 1; omega)]
  simp only [h1, h2]
  rfl
end
theorem rdOp_cases (s : ByteArray) :
    (∃ k m e, rdU s.data.toList = (k, m, e) ∧ e ≠ 0 ∧ rdOp s = (ch0, 0, e)) ∨
    (∃ k m, rdU s.data.toList = (k, m, 0) ∧ 1 < k ∧ rdOp s = (ch0, 0, 3)) ∨
    (∃ k m t n e, rdU s.data.toList = (k, m, 0) ∧ k ≤ 1 ∧ rdT (s.extract m s.size) = (t, n, e) ∧ e ≠ 0 ∧ rdOp s = (ch0, 0, e)) ∨
    (∃ m t n, rdU s.data.toList = (0, m, 0) ∧ rdT (s.extract m s.size) = (t, n, 0) ∧ rdOp s = (⟨t, ⟨#[]⟩, true⟩, m + n, 0)) ∨
    (∃ m t n t2 n2 e, rdU s.data.toList = (1, m, 0) ∧ rdT (s.extract m s.size) = (t, n, 0) ∧ rdT (s.extract (m + n) s.size) = (t2, n2, e) ∧ e ≠ 0 ∧ rdOp s = (ch0, 0, e)) ∨
    (∃ m t n t2 n2, rdU s.data.toList = (1, m, 0) ∧ rdT (s.extract m s.size) = (t, n, 0) ∧ rdT (s.extract (m + n) s.size) = (t2, n2, 0) ∧ rdOp s = (⟨t, t2, false⟩, m + n + n2, 0)) := by
  obtain ⟨k, m, e, h⟩ := Fm.trip (rdU s.data.toList)
  by_cases he : e = 0
  · subst he
    by_cases hk : 1 < k
    · exact .inr (.inl ⟨k, m, h, hk, rdOp_2 h hk⟩)
    · obtain ⟨t, n, e, h1⟩ := Fm.trip (rdT (s.extract m s.size))
      by_cases he : e = 0
      · subst he
        rcases (show k = 0 ∨ k = 1 by omega) with rfl | rfl
        · exact .inr (.inr (.inr (.inl ⟨m, t, n, h, h1, rdOp_4 h h1⟩)))
        · obtain ⟨t2, n2, e, h2⟩ := Fm.trip (rdT (s.extract (m + n) s.size))
          by_cases he : e = 0
          · subst he
            exact .inr (.inr (.inr (.inr (.inr ⟨m, t, n, t2, n2, h, h1, h2, rdOp_6 h h1 h2⟩))))
          · exact .inr (.inr (.inr (.inr (.inl ⟨m, t, n, t2, n2, e, h, h1, h2, he, rdOp_5 h h1 h2 he⟩))))
      · exact .inr (.inr (.inl ⟨k, m, t, n, e, h, by omega, h1, he, rdOp_3 h (by omega) h1 he⟩))
  · exact .inl ⟨k, m, e, h, he, rdOp_1 h he⟩
def rdN (s : ByteArray) : Nat → Nat → List Ch × Nat × Nat
  | 0, a => ([], a, 0)
  | n + 1, a => if (rdOp (s.extract a s.size)).2.2 ≠ 0 then ([], a, (rdOp (s.extract a s.size)).2.2) else
    ((rdOp (s.extract a s.size)).1 :: (rdN s n (a + (rdOp (s.extract a s.size)).2.1)).1, (rdN s n (a + (rdOp (s.extract a s.size)).2.1)).2.1, (rdN s n (a + (rdOp (s.extract a s.size)).2.1)).2.2)
theorem rdN_bad {s : ByteArray} {n a m e : Nat} {c : Ch} (h : rdOp (s.extract a s.size) = (c, m, e)) (he : e ≠ 0) : rdN s (n + 1) a = ([], a, e) := by rw [rdN, h]; exact if_pos he
theorem rdN_one {s : ByteArray} {n a m : Nat} {c : Ch} (h : rdOp (s.extract a s.size) = (c, m, 0)) : rdN s (n + 1) a = (c :: (rdN s n (a + m)).1, (rdN s n (a + m)).2.1, (rdN s n (a + m)).2.2) := by rw [rdN, h]; exact if_neg (fun hh => hh rfl)
def opsS (s : ByteArray) : List Ch × Nat :=
  if (rdU s.data.toList).2.2 ≠ 0 then ([], (rdU s.data.toList).2.2) else
  if (rdN s (rdU s.data.toList).1 (rdU s.data.toList).2.1).2.2 ≠ 0 then ([], (rdN s (rdU s.data.toList).1 (rdU s.data.toList).2.1).2.2) else
  if (rdN s (rdU s.data.toList).1 (rdU s.data.toList).2.1).2.1 < s.size then ([], 5) else ((rdN s (rdU s.data.toList).1 (rdU s.data.toList).2.1).1, 0)
section
variable {s : ByteArray} {k m a e : Nat} {l : List Ch}
theorem opsS_1 (h : rdU s.data.toList = (k, m, e)) (he : e ≠ 0) : opsS s = ([], e) := by unfold opsS; rw [h]; exact if_pos he
theorem opsS_2 (h : rdU s.data.toList = (k, m, 0)) (h1 : rdN s k m = (l, a, e)) (he : e ≠ 0) : opsS s = ([], e) := by
  unfold opsS; rw [h, if_neg (fun hh => hh rfl)]; simp only [h1]; exact if_pos he
theorem opsS_3 (h : rdU s.data.toList = (k, m, 0)) (h1 : rdN s k m = (l, a, 0)) (ha : a < s.size) : opsS s = ([], 5) := by
  unfold opsS; rw [h, if_neg (fun hh => hh rfl)]; simp only [h1]; rw [if_neg (fun hh => hh rfl)]; exact if_pos ha
theorem opsS_4 (h : rdU s.data.toList = (k, m, 0)) (h1 : rdN s k m = (l, a, 0)) (ha : ¬ a < s.size) : opsS s = (l, 0) := by
  unfold opsS; rw [h, if_neg (fun hh => hh rfl)]; simp only [h1]; rw [if_neg (fun hh => hh rfl)]; exact if_neg ha
end
theorem rdT_back (t : ByteArray) (m : List UInt8) (h : t.size ≤ 9223372036854775807) : rdT ⟨(tl t ++ m).toArray⟩ = (t, (tl t).length, 0) := by
  have := Fr.rdT_front t m h
  rw [tl, List.append_assoc, this, List.length_append, Wm.len_l]
theorem rdU_back (x : Nat) (r : List UInt8) (h : x ≤ 9223372036854775807) : rdU (vb x ++ r) = (x, (vb x).length, 0) := by
  unfold rdU
  rw [rd_vb x r (by omega), if_neg (by show ¬ (0 = 0 ∧ 9223372036854775807 < x); omega)]
theorem ext_at (p r : List UInt8) : (⟨(p ++ r).toArray⟩ : ByteArray).extract p.length (⟨(p ++ r).toArray⟩ : ByteArray).size = ⟨r.toArray⟩ := by
  apply ByteArray.ext
  rw [ByteArray.data_extract]
  apply Array.toList_inj.1
  simp [ByteArray.size]
theorem rdOp_back (c : Ch) (r : List UInt8) (hk : c.key.size ≤ 9223372036854775807) (hv : c.val.size ≤ 9223372036854775807) : rdOp ⟨(pl c ++ r).toArray⟩ = (norm c, (pl c).length, 0) := by
  obtain ⟨key, val, gone⟩ := c
  cases gone with
  | true =>
    have e : pl ⟨key, val, true⟩ ++ r = vb 0 ++ (tl key ++ r) := by unfold pl; simp
    have e1 : pl ⟨key, val, true⟩ = vb 0 ++ tl key := rfl
    rw [e, e1]
    have h0 : rdU (⟨(vb 0 ++ (tl key ++ r)).toArray⟩ : ByteArray).data.toList = (0, (vb 0).length, 0) := rdU_back 0 _ (by omega)
    have h1 : rdT ((⟨(vb 0 ++ (tl key ++ r)).toArray⟩ : ByteArray).extract (vb 0).length (⟨(vb 0 ++ (tl key ++ r)).toArray⟩ : ByteArray).size) = (key, (tl key).length, 0) := by rw [ext_at]; exact rdT_back key r hk
    rw [rdOp_4 h0 h1, List.length_append]
    rfl
  | false =>
    have e : pl ⟨key, val, false⟩ ++ r = vb 1 ++ (tl key ++ (tl val ++ r)) := by unfold pl; simp
    have e1 : pl ⟨key, val, false⟩ = vb 1 ++ (tl key ++ tl val) := rfl
    rw [e, e1]
    have h0 : rdU (⟨(vb 1 ++ (tl key ++ (tl val ++ r))).toArray⟩ : ByteArray).data.toList = (1, (vb 1).length, 0) := rdU_back 1 _ (by omega)
    have h1 : rdT ((⟨(vb 1 ++ (tl key ++ (tl val ++ r))).toArray⟩ : ByteArray).extract (vb 1).length (⟨(vb 1 ++ (tl key ++ (tl val ++ r))).toArray⟩ : ByteArray).size) = (key, (tl key).length, 0) := by rw [ext_at]; exact rdT_back key _ hk
    have h2 : rdT ((⟨(vb 1 ++ (tl key ++ (tl val ++ r))).toArray⟩ : ByteArray).extract ((vb 1).length + (tl key).length) (⟨(vb 1 ++ (tl key ++ (tl val ++ r))).toArray⟩ : ByteArray).size) = (val, (tl val).length, 0) := by
      rw [← List.append_assoc, ← List.length_append, ext_at]; exact rdT_back val r hv
    rw [rdOp_6 h0 h1 h2, List.length_append, List.length_append, Nat.add_assoc]
    rfl
theorem rdN_back : ∀ (l : List Ch) (p : List UInt8), (∀ c ∈ l, c.key.size ≤ 9223372036854775807 ∧ c.val.size ≤ 9223372036854775807) → rdN ⟨(p ++ l.flatMap pl).toArray⟩ l.length p.length = (l.map norm, (p ++ l.flatMap pl).length, 0)
  | [], p, _ => by
    rw [List.flatMap_nil, List.append_nil]
    rfl
  | c :: l, p, h => by
    have h1 := h c List.mem_cons_self
    have hb := rdOp_back c (l.flatMap pl) h1.1 h1.2
    have h2 : rdOp ((⟨(p ++ (c :: l).flatMap pl).toArray⟩ : ByteArray).extract p.length (⟨(p ++ (c :: l).flatMap pl).toArray⟩ : ByteArray).size) = (norm c, (pl c).length, 0) := by
      rw [ext_at, List.flatMap_cons]
      exact hb
    have ih := rdN_back l (p ++ pl c) (fun x hx => h x (List.mem_cons_of_mem _ hx))
    have e : p ++ (c :: l).flatMap pl = (p ++ pl c) ++ l.flatMap pl := by rw [List.flatMap_cons, List.append_assoc]
    rw [List.length_cons, rdN_one h2, e, ← List.length_append, ih]
    rfl
theorem ops_back {l : List Ch} (h : wt l ≤ 9223372036854775807) : opsS (rec7 l) = (l.map norm, 0) := by
  have hl := wt_len l
  have h0 : rdU (rec7 l).data.toList = (l.length, (vb l.length).length, 0) := by
    rw [rec7_list, recl]
    exact rdU_back _ _ (by omega)
  have h1 := rdN_back l (vb l.length) (fun c hc => by have := wt_mem hc; omega)
  have e : (⟨(vb l.length ++ l.flatMap pl).toArray⟩ : ByteArray) = rec7 l := (rec7_is l).symm
  rw [e] at h1
  exact opsS_4 h0 h1 (by rw [rec7_size]; exact Nat.lt_irrefl _)
theorem ext_list (s : ByteArray) (a : Nat) : (s.extract a s.size).data.toList = s.data.toList.drop a := by
  rw [ByteArray.data_extract, Array.toList_extract, List.extract_eq_take_drop, List.take_of_length_le]
  rw [List.length_drop, Wm.len_l]
  omega
theorem pl_gone (k v : ByteArray) : pl ⟨k, v, true⟩ = vb 0 ++ tl k := by unfold pl; exact if_pos rfl
theorem pl_give (k v : ByteArray) : pl ⟨k, v, false⟩ = vb 1 ++ (tl k ++ tl v) := by unfold pl; exact if_neg (fun h => by cases h)
theorem rdT_ok {s t : ByteArray} {n : Nat} (h : rdT s = (t, n, 0)) : n ≤ s.size ∧ s.data.toList.take n = tl t ∧ 0 < n := by
  have hle : n ≤ s.size ∧ 0 < n := by
    rcases rdT_cases s with ⟨e, he, _, _, h3⟩ | ⟨x, m, _, _, _, _, h3⟩ | ⟨x, m, hu, hn, hx, h3⟩
    · rw [h3] at h
      simp only [Prod.mk.injEq] at h
      exact absurd h.2.2 he
    · rw [h3] at h
      simp at h
    · rw [h3] at h
      simp only [Prod.mk.injEq] at h
      have := (rdU_ok hu).2.2.1
      omega
  refine ⟨hle.1, ?_, hle.2⟩
  have h1 := congrArg (fun x : ByteArray => x.data.toList) (Fr.ts_front h)
  simp only [ts_tl] at h1
  rw [← h1, ByteArray.data_extract, Array.toList_extract]
  simp [List.extract_eq_take_drop]
theorem rdOp_ok {s : ByteArray} {c : Ch} {n : Nat} (h : rdOp s = (c, n, 0)) : n ≤ s.size ∧ s.data.toList.take n = pl c ∧ 1 < n ∧ norm c = c := by
  rcases rdOp_cases s with ⟨k, m, e, _, he, h2⟩ | ⟨k, m, _, _, h2⟩ | ⟨k, m, t, n1, e, _, _, _, he, h2⟩ | ⟨m, t, n1, h0, h1, h2⟩ | ⟨m, t, n1, t2, n2, e, _, _, _, he, h2⟩ | ⟨m, t, n1, t2, n2, h0, h1, h3, h2⟩
  · rw [h2] at h; simp only [Prod.mk.injEq] at h; exact absurd h.2.2 he
  · rw [h2] at h; simp at h
  · rw [h2] at h; simp only [Prod.mk.injEq] at h; exact absurd h.2.2 he
  · rw [h2] at h
    simp only [Prod.mk.injEq] at h
    obtain ⟨rfl, rfl, _⟩ := h
    obtain ⟨a1, a2, a3, _⟩ := rdU_ok h0
    obtain ⟨b1, b2, b3⟩ := rdT_ok h1
    rw [Wm.len_l] at a1
    have hs : (s.extract m s.size).size = s.size - m := by simp
    rw [hs] at b1
    rw [ext_list] at b2
    refine ⟨by omega, ?_, by omega, rfl⟩
    rw [List.take_add, b2, ← a2, pl_gone]
  · rw [h2] at h; simp only [Prod.mk.injEq] at h; exact absurd h.2.2 he
  · rw [h2] at h
    simp only [Prod.mk.injEq] at h
    obtain ⟨rfl, rfl, _⟩ := h
    obtain ⟨a1, a2, a3, _⟩ := rdU_ok h0
    obtain ⟨b1, b2, b3⟩ := rdT_ok h1
    obtain ⟨c1, c2, c3⟩ := rdT_ok h3
    rw [Wm.len_l] at a1
    have hs : (s.extract m s.size).size = s.size - m := by simp
    have hs2 : (s.extract (m + n1) s.size).size = s.size - (m + n1) := by simp
    rw [hs] at b1
    rw [hs2] at c1
    rw [ext_list] at b2 c2
    refine ⟨by omega, ?_, by omega, rfl⟩
    rw [List.take_add, c2, List.take_add, b2, ← a2, List.append_assoc, pl_give]
theorem rdN_ok (s : ByteArray) (n : Nat) : ∀ (a : Nat) (l : List Ch) (b : Nat), rdN s n a = (l, b, 0) → a ≤ s.size → a ≤ b ∧ b ≤ s.size ∧ s.data.toList.take b = s.data.toList.take a ++ l.flatMap pl ∧ l.length = n ∧ l.map norm = l ∧ 2 * n ≤ b - a := by
  induction n with
  | zero =>
    intro a l b h ha
    rw [rdN] at h
    simp only [Prod.mk.injEq] at h
    obtain ⟨rfl, rfl, _⟩ := h
    exact ⟨Nat.le_refl _, ha, by simp, rfl, rfl, by omega⟩
  | succ n ih =>
    intro a l b h ha
    obtain ⟨c, m, e, h1⟩ := Fm.trip (rdOp (s.extract a s.size))
    by_cases he : e = 0
    · subst he
      obtain ⟨l2, b2, e2, h2⟩ := Fm.trip (rdN s n (a + m))
      rw [rdN_one h1, h2] at h
      simp only [Prod.mk.injEq] at h
      obtain ⟨rfl, rfl, rfl⟩ := h
      obtain ⟨c1, c2, c3, c4⟩ := rdOp_ok h1
      have hs : (s.extract a s.size).size = s.size - a := by simp
      rw [hs] at c1
      rw [ext_list] at c2
      obtain ⟨d1, d2, d3, d4, d5, d6⟩ := ih (a + m) l2 b2 h2 (by omega)
      refine ⟨by omega, d2, ?_, by rw [List.length_cons, d4], by rw [List.map_cons, c4, d5], by omega⟩
      rw [d3, List.take_add, c2, List.flatMap_cons, List.append_assoc]
    · rw [rdN_bad h1 he] at h
      simp only [Prod.mk.injEq] at h
      exact absurd h.2.2 he
theorem opsS_ok {s : ByteArray} {l : List Ch} (h : opsS s = (l, 0)) : rec7 l = s ∧ l.map norm = l ∧ 2 * l.length ≤ s.size := by
  obtain ⟨k, m, e, h0⟩ := Fm.trip (rdU s.data.toList)
  by_cases he : e = 0
  · subst he
    obtain ⟨l2, b, e, h1⟩ := Fm.trip (rdN s k m)
    by_cases he : e = 0
    · subst he
      by_cases hb : b < s.size
      · rw [opsS_3 h0 h1 hb] at h
        simp at h
      · rw [opsS_4 h0 h1 hb] at h
        simp only [Prod.mk.injEq] at h
        obtain ⟨rfl, _⟩ := h
        obtain ⟨a1, a2, a3, _⟩ := rdU_ok h0
        rw [Wm.len_l] at a1
        obtain ⟨d1, d2, d3, d4, d5, d6⟩ := rdN_ok s k m l2 b h1 a1
        refine ⟨?_, d5, by omega⟩
        have hbs : b = s.size := by omega
        apply ByteArray.ext
        apply Array.toList_inj.1
        rw [rec7_list, recl, d4, a2, ← d3, hbs, ← Wm.len_l, List.take_length]
    · rw [opsS_2 h0 h1 he] at h
      simp only [Prod.mk.injEq] at h
      exact absurd h.2 he
  · rw [opsS_1 h0 he] at h
    simp only [Prod.mk.injEq] at h
    exact absurd h.2 he
end Go.Proofs.YtdkgkomjbpggeaaGreatDoor.Tb

namespace Go.Proofs.YtdkgkomjbpggeaaGreatDoor.Wl
open Go.RowKit Tx Pm Dk Fr
set_option linter.unusedVariables false
def tT : ByteArray := ⟨#[95, 116]⟩
structure Jst where
  s : St
  R : List ByteArray
  dm : Bool
def fillS (s : St) (p d : ByteArray) : Nat × St :=
  if (writeS s (p ++ tT) d).1 ≠ 0 then writeS s (p ++ tT) d else
  if (syncS (writeS s (p ++ tT) d).2 (p ++ tT)).1 ≠ 0 then syncS (writeS s (p ++ tT) d).2 (p ++ tT) else
  renameS (syncS (writeS s (p ++ tT) d).2 (p ++ tT)).2 (p ++ tT) p
def addS (x : Jst) (p r : ByteArray) : Nat × Jst :=
  if (appendS x.s p (Fm.pk r)).1 ≠ 0 then ((appendS x.s p (Fm.pk r)).1, ⟨(appendS x.s p (Fm.pk r)).2, x.R, x.dm⟩) else
  if (syncS (appendS x.s p (Fm.pk r)).2 p).1 ≠ 0 then ((syncS (appendS x.s p (Fm.pk r)).2 p).1, ⟨(syncS (appendS x.s p (Fm.pk r)).2 p).2, x.R, x.dm⟩) else
  (0, ⟨(syncS (appendS x.s p (Fm.pk r)).2 p).2, x.R ++ [r], x.dm⟩)
def resetS (x : Jst) (p : ByteArray) : Nat × Jst :=
  if (fillS x.s p ⟨#[]⟩).1 ≠ 0 then ((fillS x.s p ⟨#[]⟩).1, ⟨(fillS x.s p ⟨#[]⟩).2, x.R, x.dm⟩) else (0, ⟨(fillS x.s p ⟨#[]⟩).2, [], x.dm⟩)
def bad (e : Nat) : Bool := decide (e = 6) || decide (e = 3)
def openS (s : St) (p : ByteArray) : Nat × Jst :=
  if kind s.L p = 0 then ((fillS s p ⟨#[]⟩).1, ⟨(fillS s p ⟨#[]⟩).2, [], false⟩) else
  if (readS s p).2 ≠ 0 then ((readS s p).2, ⟨s, [], false⟩) else
  if (Fm.sc (readS s p).1 0).2.2 = 0 then (0, ⟨s, (Fm.sc (readS s p).1 0).1, bad (Fm.sc (readS s p).1 0).2.2⟩) else
  ((fillS s p ((readS s p).1.extract 0 (Fm.sc (readS s p).1 0).2.1)).1, ⟨(fillS s p ((readS s p).1.extract 0 (Fm.sc (readS s p).1 0).2.1)).2, (Fm.sc (readS s p).1 0).1, bad (Fm.sc (readS s p).1 0).2.2⟩)
def LeftA {α : Type} (Obj : World → (Nat → Prop) → α → Prop) (w : World) (F : Nat → Prop) (x : α) (w' : World) : Prop := ∃ F', Obj w' F' x ∧ Chg F w w' ∧ ∀ g, F' g → F g ∨ w.heap.size ≤ g
structure JAt (O : World → (Nat → Prop) → St → Prop) (T : TypeId) (b j : Nat) (p : ByteArray) (v : Value) (Fd : Nat → Prop) (w : World) (F : Nat → Prop) (x : Jst) : Prop where
  dsk : O w Fd x.s
  blk : w.heap[j]? = some (.cells #[.pointer (some ⟨b, 0, none⟩), .string p, v, .bool x.dm] T (0, 0))
  row : Fr.Texts w 0 v x.R
  ne : v.ownBlock ≠ some j
  off : ∀ i, Fd i → i ≠ j ∧ v.ownBlock ≠ some i
  foot : ∀ i, F i ↔ Fd i ∨ i = j ∨ v.ownBlock = some i
def Jn (O : World → (Nat → Prop) → St → Prop) (T : TypeId) (b j : Nat) (p : ByteArray) (w : World) (F : Nat → Prop) (x : Jst) : Prop := ∃ v Fd, JAt O T b j p v Fd w F x
theorem JAt.lt {O : World → (Nat → Prop) → St → Prop} (k : Dk.Kind O) {T : TypeId} {b j : Nat} {p : ByteArray} {v : Value} {Fd : Nat → Prop} {w : World} {F : Nat → Prop} {x : Jst} (h : JAt O T b j p v Fd w F x) : ∀ i, F i → i < w.heap.size := fun i hi => by
  rcases (h.foot i).1 hi with h1 | rfl | h1
  · exact k.lt h.dsk i h1
  · exact (Array.getElem?_eq_some_iff.1 h.blk).1
  · exact (h.row.lt i h1).2
theorem JAt.kept {O : World → (Nat → Prop) → St → Prop} (k : Dk.Kind O) {T : TypeId} {b j : Nat} {p : ByteArray} {v : Value} {Fd : Nat → Prop} {w w1 : World} {F : Nat → Prop} {x : Jst} (h : JAt O T b j p v Fd w F x) (hk : ∀ i, F i → w1.heap[i]? = w.heap[i]?) : JAt O T b j p v Fd w1 F x :=
  ⟨k.kept h.dsk (fun i hi => hk i ((h.foot i).2 (.inl hi))), (hk j ((h.foot j).2 (.inr (.inl rfl)))).trans h.blk, own_kept h.row (fun g hg => hk g ((h.foot g).2 (.inr (.inr hg)))), h.ne, h.off, h.foot⟩
theorem JAt.below {O : World → (Nat → Prop) → St → Prop} (k : Dk.Kind O) {T : TypeId} {b j : Nat} {p : ByteArray} {v : Value} {Fd : Nat → Prop} {w w1 : World} {F : Nat → Prop} {x : Jst} (h : JAt O T b j p v Fd w F x) (hb : Below w.heap.size w w1) : JAt O T b j p v Fd w1 F x := h.kept k (fun i hi => hb.block i (h.lt k i hi))
theorem JAt.cell {O : World → (Nat → Prop) → St → Prop} {T : TypeId} {b j : Nat} {p : ByteArray} {v : Value} {Fd : Nat → Prop} {w : World} {F : Nat → Prop} {x : Jst} (h : JAt O T b j p v Fd w F x) :
    w.cell? ⟨j, 0, none⟩ = some (.pointer (some ⟨b, 0, none⟩)) ∧ w.cell? ⟨j, 1, none⟩ = some (.string p) ∧ w.cell? ⟨j, 2, none⟩ = some v ∧ w.cell? ⟨j, 3, none⟩ = some (.bool x.dm) := by
  have hb := h.blk
  refine ⟨?_, ?_, ?_, ?_⟩ <;> · unfold World.cell?; rw [hb]; rfl
theorem JAt.warm {O : World → (Nat → Prop) → St → Prop} {T : TypeId} {b j : Nat} {p : ByteArray} {v : Value} {Fd : Nat → Prop} {w : World} {F : Nat → Prop} {x : Jst} (h : JAt O T b j p v Fd w F x) (q : Nat) : w.frozen? ⟨j, q, none⟩ = false := by
  unfold World.frozen?
  rw [h.blk]
  simp
theorem JAt.disk_left {O : World → (Nat → Prop) → St → Prop} (k : Dk.Kind O) {T : TypeId} {b j : Nat} {p : ByteArray} {v : Value} {Fd : Nat → Prop} {w w1 : World} {F : Nat → Prop} {x : Jst} {s' : St} (h : JAt O T b j p v Fd w F x) (hl : Dk.Left O w Fd s' w1) :
    ∃ Fd' F', JAt O T b j p v Fd' w1 F' ⟨s', x.R, x.dm⟩ ∧ Chg F w w1 ∧ ∀ g, F' g → F g ∨ w.heap.size ≤ g := by
  obtain ⟨Fd', h1, h2, h3⟩ := hl
  have hj : j < w.heap.size := (Array.getElem?_eq_some_iff.1 h.blk).1
  have hvl := h.row.lt
  refine ⟨Fd', fun i => Fd' i ∨ i = j ∨ v.ownBlock = some i, ⟨h1, (h2.block j hj (fun hh => (h.off j hh).1 rfl)).trans h.blk, own_kept h.row (fun g hg => h2.block g (hvl g hg).2 (fun hh => (h.off g hh).2 hg)), h.ne, fun i hi => ?_, fun i => Iff.rfl⟩, h2.mono (fun i hi => (h.foot i).2 (.inl hi)), fun g hg => ?_⟩
  · rcases h3 i hi with hh | hh
    · exact h.off i hh
    · exact ⟨by omega, fun e => by have := (hvl i e).2; omega⟩
  · rcases hg with hg | hg
    · exact (h3 g hg).imp (fun hh => (h.foot g).2 (.inl hh)) id
    · exact .inl ((h.foot g).2 (.inr hg))
theorem jn_kind {O : World → (Nat → Prop) → St → Prop} (k : Dk.Kind O) (T : TypeId) (b j : Nat) (p : ByteArray) : (∀ {w F x}, Jn O T b j p w F x → ∀ i, F i → i < w.heap.size) ∧ (∀ {w w1 F x}, Jn O T b j p w F x → (∀ i, F i → w1.heap[i]? = w.heap[i]?) → Jn O T b j p w1 F x) :=
  ⟨fun ⟨v, Fd, h⟩ => h.lt k, fun ⟨v, Fd, h⟩ hk => ⟨v, Fd, h.kept k hk⟩⟩
theorem LeftA.trans {α : Type} {Obj : World → (Nat → Prop) → α → Prop} {w w1 w2 : World} {F F1 : Nat → Prop} {y : α} (hc : Chg F w w1) (hn : ∀ g, F1 g → F g ∨ w.heap.size ≤ g) (h : LeftA Obj w1 F1 y w2) : LeftA Obj w F y w2 := by
  obtain ⟨F2, h1, h2, h3⟩ := h
  have hs := hc.size
  exact ⟨F2, h1, hc.trans h2 hn, fun g hg => (h3 g hg).elim (fun hh => hn g hh) (fun hh => .inr (by omega))⟩
theorem left_trans {O : World → (Nat → Prop) → St → Prop} {w w1 w2 : World} {F F1 : Nat → Prop} {s : St} (hc : Chg F w w1) (hn : ∀ g, F1 g → F g ∨ w.heap.size ≤ g) (h : Dk.Left O w1 F1 s w2) : Dk.Left O w F s w2 := by
  obtain ⟨F2, h1, h2, h3⟩ := h
  have hs := hc.size
  exact ⟨F2, h1, hc.trans h2 hn, fun g hg => (h3 g hg).elim (fun hh => hn g hh) (fun hh => .inr (by omega))⟩
def Mid (O : World → (Nat → Prop) → St → Prop) (T : TypeId) (b j : Nat) (p : ByteArray) (v : Value) (w : World) (F : Nat → Prop) (x : Jst) (W : World) : Prop := ∃ Fd' F', JAt O T b j p v Fd' W F' x ∧ Chg F w W ∧ ∀ g, F' g → F g ∨ w.heap.size ≤ g
theorem Mid.left {O : World → (Nat → Prop) → St → Prop} {T : TypeId} {b j : Nat} {p : ByteArray} {v : Value} {w W : World} {F : Nat → Prop} {x : Jst} (h : Mid O T b j p v w F x W) : LeftA (Jn O T b j p) w F x W := by
  obtain ⟨Fd, F', q, h1, h2⟩ := h
  exact ⟨F', ⟨v, Fd, q⟩, h1, h2⟩
theorem Mid.of {O : World → (Nat → Prop) → St → Prop} (k : Dk.Kind O) {T : TypeId} {b j : Nat} {p : ByteArray} {v : Value} {w W : World} {F Fd : Nat → Prop} {x : Jst} (h : JAt O T b j p v Fd w F x) (hb : Below w.heap.size w W) : Mid O T b j p v w F x W := ⟨Fd, F, h.below k hb, Chg.of_below hb, fun g hg => .inl hg⟩
theorem Mid.trans {O : World → (Nat → Prop) → St → Prop} {T : TypeId} {b j : Nat} {p : ByteArray} {v : Value} {w W W2 : World} {F F1 : Nat → Prop} {x : Jst} (hc : Chg F w W) (hn : ∀ g, F1 g → F g ∨ w.heap.size ≤ g) (h : Mid O T b j p v W F1 x W2) : Mid O T b j p v w F x W2 := by
  obtain ⟨Fd, F2, q, h1, h2⟩ := h
  have hs := hc.size
  exact ⟨Fd, F2, q, hc.trans h1 hn, fun g hg => (h2 g hg).elim (fun hh => hn g hh) (fun hh => .inr (by omega))⟩
theorem Mid.below {O : World → (Nat → Prop) → St → Prop} (k : Dk.Kind O) {T : TypeId} {b j : Nat} {p : ByteArray} {v : Value} {w W W2 : World} {F : Nat → Prop} {x : Jst} (h : Mid O T b j p v w F x W) (hb : Below W.heap.size W W2) : Mid O T b j p v w F x W2 := by
  obtain ⟨Fd, F', q, h1, h2⟩ := h
  exact Mid.trans h1 h2 (Mid.of k q hb)
theorem JAt.poke {O : World → (Nat → Prop) → St → Prop} (k : Dk.Kind O) {T : TypeId} {b j : Nat} {p : ByteArray} {v v' : Value} {Fd : Nat → Prop} {w w1 : World} {F : Nat → Prop} {x : Jst} {R : List ByteArray} {dm : Bool} (h : JAt O T b j p v Fd w F x) (hc : Chg (fun i => i = j ∨ v.ownBlock = some i) w w1)
    (hb : w1.heap[j]? = some (.cells #[.pointer (some ⟨b, 0, none⟩), .string p, v', .bool dm] T (0, 0))) (hr : Fr.Texts w1 0 v' R) (hv : ∀ i, v'.ownBlock = some i → v.ownBlock = some i ∨ w.heap.size ≤ i) :
    Mid O T b j p v' w F ⟨x.s, R, dm⟩ w1 := by
  have hvl := h.row.lt
  refine ⟨Fd, fun i => Fd i ∨ i = j ∨ v'.ownBlock = some i, ⟨k.kept h.dsk (fun i hi => hc.block i (k.lt h.dsk i hi) (fun hh => by rcases hh with hh | hh; exact (h.off i hi).1 hh; exact (h.off i hi).2 hh)), hb, hr, fun e => by rcases hv j e with hh | hh; exact h.ne hh; have := (Array.getElem?_eq_some_iff.1 h.blk).1; omega, fun i hi => ⟨(h.off i hi).1, fun e => ?_⟩, fun i => Iff.rfl⟩, hc.mono (fun i hi => (h.foot i).2 (.inr hi)), fun g hg => ?_⟩
  · rcases hv i e with hh | hh
    · exact (h.off i hi).2 hh
    · have := k.lt h.dsk i hi; omega
  · rcases hg with hg | hg | hg
    · exact .inl ((h.foot g).2 (.inl hg))
    · exact .inl ((h.foot g).2 (.inr (.inl hg)))
    · exact (hv g hg).imp (fun hh => (h.foot g).2 (.inr (.inr hh))) id
end Go.Proofs.YtdkgkomjbpggeaaGreatDoor.Wl

namespace Go.Proofs.YtdkgkomjbpggeaaGreatDoor.Dk
open Go.RowKit Tx Pm
set_option linter.unusedVariables false
structure Reads (O : World → (Nat → Prop) → St → Prop) (v : Value) (f : Fin 5 → FuncId) : Prop where
  read : ∀ {w F s i T} (P : ByteArray), O w F s → Far s i T → P.size ≤ 1048576 → Calls Tryz.prog (f 0) #[v, .string P] w fun e w' => e = .returned (.tuple #[.string (readS s P).1, .int .i64 ((readS s P).2 : Nat)]) ∧ Below w.heap.size w w'
  kind : ∀ {w F s i T} (P : ByteArray), O w F s → Far s i T → P.size ≤ 1048576 → Calls Tryz.prog (f 1) #[v, .string P] w fun e w' => e = .returned (.int .i64 (kind s.L P : Nat)) ∧ Below w.heap.size w w'
  stamp : ∀ {w F s i T} (P : ByteArray), O w F s → Far s i T → P.size ≤ 1048576 → Calls Tryz.prog (f 2) #[v, .string P] w fun e w' => e = .returned (.int .i64 (stampS s P : Nat)) ∧ Below w.heap.size w w'
  used : ∀ {w F s i T} (P : ByteArray), O w F s → Far s i T → P.size ≤ 1048576 → Calls Tryz.prog (f 3) #[v, .string P] w fun e w' => e = .returned (.int .i64 (used s.L P : Nat)) ∧ Below w.heap.size w w'
  list : ∀ {w F s i T} (P : ByteArray), O w F s → Far s i T → P.size ≤ 1048576 → Calls Tryz.prog (f 4) #[v, .string P] w (ListTo (list s.L P) w)
end Go.Proofs.YtdkgkomjbpggeaaGreatDoor.Dk



namespace Go.Proofs.YtdkgkomjbpggeaaGreatDoor.Tx
open Go.RowKit
set_option linter.unusedVariables false
theorem below_drewN {B : Nat} {a w : World} (h : Below B a w) (n : Nat) : Below B a (w.drewN n) := ⟨h.os, h.tape, h.output, h.size, h.block⟩
end Go.Proofs.YtdkgkomjbpggeaaGreatDoor.Tx

namespace Go.Proofs.YtdkgkomjbpggeaaGreatDoor.Aq
open Go.RowKit Tx
set_option linter.unusedVariables false
section
variable {P : Program}
theorem append_two (w : World) (base : Nat) (t ty e : TypeId) (i : TypeInfo) (z : Value) (bytes : Nat) (ht : P.underlying t = some (.slice e)) (hi : P.info? e = some i) (hz : i.zero = some z)
    (hsize : i.size = 1) (hby : i.bytes = bytes) (hzs : z.cells.size = 1)
    (v : Value) (n : Nat) (xs : List Value) (hown : w.ownsRow base e 1 v n xs)
    (a : Addr) (c : Nat) (u : Value) (hu : w.cell? a = some u) (h1 : u.oneCell' = true)
    (hn : n + 1 ≤ 1152921504606846976) (hbytes : (n + 1) * bytes ≤ 140737488355328) (hbase : base ≤ w.heap.size) :
    ∃ v' w', (Builtin.append_ #[t, t] ty #[v, .slice (some a) 1 c]).run P w = .ok v' w' ∧ w'.ownsRow base e 1 v' (n + 1) (xs ++ [u]) ∧
      ((v'.ownBlock = v.ownBlock ∧ w.grownBy w' v.ownBlock) ∨ (v'.ownBlock = some w.heap.size ∧ w.grownBy w' none)) := by
  have hnews : ∀ j x, [u][j]? = some x → w.cell? (a.add j) = some x := by
    intro j x hj
    match j, hj with
    | 0, hj =>
      simp at hj
      subst hj
      simpa [Addr.add] using hu
  have hone : ∀ x ∈ [u], x.oneCell' = true := by intro x hx; simp at hx; subst hx; exact h1
  have hlen : (xs ++ [u]).length = (n + 1) * 1 := by rw [List.length_append, hown.1]; simp
  have made : ∀ old, old < n + 1 → (w.drew.alloc (.cells (xs.toArray ++ [u].toArray ++ Builtin.zeroCells z.cells (grownCap w (n + 1) old e - (n + 1))) e)).ownsRow base e 1 (.slice (some ⟨w.heap.size, 0, none⟩) (n + 1) (grownCap w (n + 1) old e)) (n + 1) (xs ++ [u]) ∧
      w.grownBy (w.drew.alloc (.cells (xs.toArray ++ [u].toArray ++ Builtin.zeroCells z.cells (grownCap w (n + 1) old e - (n + 1))) e)) none := by
    intro old _
    have hge := grownCap_ge w (n + 1) old e
    have hcm := grownCap_le_maxLen w (n + 1) old e (by unfold maxLen; omega)
    refine ⟨⟨hlen, .inr ⟨w.heap.size, _, _, rfl, hbase, heap_alloc_new w.drew _, hge, hcm, ?_, ?_⟩⟩, ⟨rfl, rfl, rfl, by simp, fun k hk _ => Below.heap_alloc w.drew _ k hk⟩⟩
    · have h0 := hown.1
      simp only [Array.size_append, List.size_toArray, size_zeroCells, hzs, List.length_singleton]
      omega
    · simp only [Array.toList_append, List.append_assoc]
      rw [← List.append_assoc]
      exact List.take_left' hlen
  rcases hown.2 with ⟨rfl, rfl⟩ | ⟨g, cap, cur, rfl, hbg, hg, hnc, hcm, hcs, htake⟩
  · have hx : xs = [] := List.eq_nil_of_length_eq_zero (by simpa using hown.1)
    subst hx
    have hr := run_append_nil (P := P) w t ty e i z ht hi hz a 1 c [u] (by rw [hsize]; rfl) hnews (by omega) (by omega) (by rw [hby]; have h2 := hbytes; simp only [Nat.zero_add] at h2; omega)
    have hm := made 0 (by omega)
    simp only [Nat.zero_add, List.nil_append, Array.empty_append] at hm ⊢
    exact ⟨_, _, hr, hm.1, .inr ⟨rfl, hm.2⟩⟩
  · by_cases hroom : n + 1 ≤ cap
    · have hfit : n * i.size + [u].length ≤ cur.size := by rw [hsize, hcs]; simp; omega
      have hr := run_append_room (P := P) w t ty e i ht hi g n cap cur hg a 1 c [u] (by rw [hsize]; rfl) hnews hone hroom hfit
      refine ⟨_, _, hr, ⟨hlen, .inr ⟨g, cap, _, rfl, hbg, setRow_heap w g cur _ e _ hg, hroom, hcm, ?_, ?_⟩⟩, .inl ⟨rfl, ⟨rfl, rfl, rfl, by simp, fun k _ hk => setRow_other w g k _ (fun e => hk (by simp [Value.ownBlock, e]))⟩⟩⟩
      · simp only [List.size_toArray, List.length_append, List.length_take, List.length_drop, Array.length_toList, hsize, List.length_singleton]
        simp only [hsize, List.length_singleton] at hfit
        omega
      · rw [hsize, htake]
        exact List.take_left' hlen
    · have hr := run_append_grow (P := P) w t ty e i z ht hi hz ⟨g, 0, none⟩ n cap xs (by rw [hsize]; exact hown.1) (hown.cells (g := g) rfl) a 1 c [u] (by rw [hsize]; rfl) hnews (by omega) (by omega) (growslice_fits (by omega) (by rw [hby]; exact hbytes))
      have hm := made cap (by omega)
      exact ⟨_, _, hr, hm.1, .inr ⟨rfl, hm.2⟩⟩
end
theorem wpList_append_two {P : Program} (w : World) {ops : Array Oper} {rest : List Oper} {o : Oper} {a : Act} {Q : Exit → Act → World → Prop} (hgd : o.guard = none) (s x : Operand) (t : TypeId)
    (ho : o.op = .call { callee := .builtin .append, args := #[s, x], argTypes := #[t, t] })
    (base : Nat) (e : TypeId) (i : TypeInfo) (z : Value) (bytes : Nat) (ht : P.underlying t = some (.slice e)) (hi : P.info? e = some i) (hz : i.zero = some z)
    (hsize : i.size = 1) (hby : i.bytes = bytes) (hzs : z.cells.size = 1)
    (v : Value) (n : Nat) (xs : List Value) (hs : a.eval s = v) (hown : w.ownsRow base e 1 v n xs)
    (ad : Addr) (c : Nat) (u : Value) (hx : a.eval x = .slice (some ad) 1 c) (hu : w.cell? ad = some u) (h1 : u.oneCell' = true)
    (hn : n + 1 ≤ 1152921504606846976) (hbytes : (n + 1) * bytes ≤ 140737488355328) (hbase : base ≤ w.heap.size)
    (h : ∀ v' w', w'.ownsRow base e 1 v' (n + 1) (xs ++ [u]) → ((v'.ownBlock = v.ownBlock ∧ w.grownBy w' v.ownBlock) ∨ (v'.ownBlock = some w.heap.size ∧ w.grownBy w' none)) → wpList P ops Q rest (a.put o.dst v') w') :
    wpList P ops Q (o :: rest) a w := by
  refine wpList_plain hgd fun K hK => ?_
  obtain ⟨v', w', hr, h2, h3⟩ := append_two (P := P) w base t o.type e i z bytes ht hi hz hsize hby hzs v n xs hown ad c u hu h1 hn hbytes hbase
  unfold Oper.wp execOp
  simp only [ho, resolve, invoke, builtin, Sem.run_bind, Sem.run_pure, Result.andThen_ok, List.map_toArray, List.map_cons, List.map_nil, hs, hx, hr]
  exact hK _ _ (h v' w' h2 h3)
theorem own_kept {w w1 : World} {base n : Nat} {e : TypeId} {v : Value} {xs : List Value} {row : Option Nat} (h : w.ownsRow base e 1 v n xs) (hg : w.grownBy w1 row) (hne : v.ownBlock ≠ row ∨ row = none) : w1.ownsRow base e 1 v n xs := by
  rcases hne with hne | rfl
  · exact h.kept hg (.inr hne)
  · refine h.kept hg ?_
    cases hv : v.ownBlock
    · exact .inl rfl
    · exact .inr (by simp)
end Go.Proofs.YtdkgkomjbpggeaaGreatDoor.Aq

namespace Go.Proofs.YtdkgkomjbpggeaaGreatDoor.Aq
open Go.RowKit Tx
set_option linter.unusedVariables false
def MK : ByteArray := ⟨#[97, 98, 99, 100, 101, 102, 103, 104, 105, 106, 107, 108, 109, 110, 111, 112, 113, 114, 115, 116, 117, 118, 119, 120, 121, 122]⟩
def was (j : Nat) : ByteArray := ⟨#[119, 97, 115]⟩ ++ MK.extract (j % 26) (j % 26 + 1)
def new (j : Nat) : ByteArray := ⟨#[110, 101, 119]⟩ ++ MK.extract (j % 26) (j % 26 + 1)
structure Ls where
  m : Nat
  A : Nat → Option Addr
  N : Nat → Nat
  C : Nat → Nat
  bo : Nat
  B : Nat
namespace Ls
variable (L : Ls)
def val (j : Nat) : Value := .slice (L.A j) (L.N j) (L.C j)
def cells (w : World) : Prop := ∀ j, j < L.m → w.cell? ⟨L.bo, j, none⟩ = some (.slice (L.A j) (L.N j) (L.C j))
end Ls
def sw (j : Nat) : Value := .string (was j)
def sn (j : Nat) : Value := .string (new j)
def row (L : Ls) (j k : Nat) : List Value := List.replicate (L.N j) (sw j) ++ List.replicate k (sn j)
structure Inv (L : Ls) (w0 : World) (H i r : Nat) (w : World) (v6 : Value) (vs : List Value) (b c : Nat → Nat) : Prop where
  cells : L.cells w
  held : ∀ j, j < L.m → ∀ l, l < L.N j → ∃ g, L.A j = some ⟨g, 0, none⟩ ∧ w.cell? ⟨g, l, none⟩ = some (sw j)
  rows : ∀ j, r ≤ j → j < L.m → w.ownsRow L.B 9 1 (.slice (L.A j) (L.N j) (L.C j)) (L.N j) (row L j 0)
  outer : w.ownsRow L.B 52 1 v6 i vs
  high : ∀ g, v6.ownBlock = some g → H ≤ g
  long : ∀ j, j < i → vs[j]? = some (.slice (some ⟨b j, 0, none⟩) (L.N j + 20) (c j)) ∧ w.ownsRow L.B 9 1 (.slice (some ⟨b j, 0, none⟩) (L.N j + 20) (c j)) (L.N j + 20) (row L j 20) ∧ (L.A j = some ⟨b j, 0, none⟩ ∨ H ≤ b j)
  apart : ∀ j k, j < i → k < i → j ≠ k → b j ≠ b k
  low : ∀ j, j < L.m → ∀ g, L.A j = some ⟨g, 0, none⟩ → g < H
  bo : L.bo < H
  size : H ≤ w.heap.size
  below : Below L.B w0 w
  base : L.B ≤ H
structure Cur (L : Ls) (H i k : Nat) (w : World) (v : Value) (b : Nat → Nat) : Prop where
  own : w.ownsRow L.B 9 1 v (L.N i + k) (row L i k)
  at_ : ∀ g, v.ownBlock = some g → (L.A i = some ⟨g, 0, none⟩ ∨ H ≤ g) ∧ ∀ j, j < i → b j ≠ g
end Go.Proofs.YtdkgkomjbpggeaaGreatDoor.Aq

namespace Go.Proofs.YtdkgkomjbpggeaaGreatDoor.Aq
open Go.RowKit Tx
set_option linter.unusedVariables false
end Go.Proofs.YtdkgkomjbpggeaaGreatDoor.Aq

namespace Go.Proofs.YtdkgkomjbpggeaaGreatDoor.Aq
open Go.RowKit Tx
set_option linter.unusedVariables false
def two (a b : Option Addr) (n ca cb bo B : Nat) : Ls := { m := 2, A := fun j => if j = 0 then a else b, N := fun _ => n, C := fun j => if j = 0 then ca else cb, bo := bo, B := B }
end Go.Proofs.YtdkgkomjbpggeaaGreatDoor.Aq

namespace Go.Proofs.YtdkgkomjbpggeaaGreatDoor.Dk
open Go.RowKit Tx Pm
set_option linter.unusedVariables false
end Go.Proofs.YtdkgkomjbpggeaaGreatDoor.Dk

namespace Go.Proofs.YtdkgkomjbpggeaaGreatDoor.Dk
open Go.ChangeMaps (open_string shut_string)
open Go.ChangeShapes Go.WideShapes Go.ChangeAt Go.RowKit Tx
set_option linter.unusedVariables false
structure Sp where
  k : Int
  p : ByteArray
  q : ByteArray
  n : Int
def int64 (k : Int) : Prop := -9223372036854775808 ≤ k ∧ k ≤ 9223372036854775807
theorem cells9 : Tryz.prog.cellsOf 9 = 1 := by kernel_rfl
theorem cells3 : Tryz.prog.cellsOf 3 = 1 := by kernel_rfl
theorem wf_int {k : Int} (h : (Lit.int .i64 k).wf = true) : int64 k := by
  unfold int64
  simpa [Lit.wf, IntKind.min, IntKind.max, IntKind.signed, IntKind.bits] using h
end Go.Proofs.YtdkgkomjbpggeaaGreatDoor.Dk

namespace Go.Proofs.YtdkgkomjbpggeaaGreatDoor.Dk
open Go.RowKit Tx Pm
set_option linter.unusedVariables false
def pV : ByteArray := ⟨#[118]⟩
def pVA : ByteArray := ⟨#[118, 47, 97]⟩
def pVB : ByteArray := ⟨#[118, 47, 98]⟩
end Go.Proofs.YtdkgkomjbpggeaaGreatDoor.Dk

namespace Go.Proofs.YtdkgkomjbpggeaaGreatDoor.Dk
open Go.RowKit Tx Pm
set_option linter.unusedVariables false
theorem fits_none {s : St} (h : s.rooms = []) (p : ByteArray) (m : Int) : fits s p m = true := by
  unfold fits
  rw [h, List.all_nil, Bool.or_true]
def dirV : It := ⟨pV, true, ⟨#[]⟩, ⟨#[]⟩, false, false, 0⟩
def m1 (a : ByteArray) : St := ⟨[dirV, ⟨pVA, false, a, ⟨#[]⟩, true, true, 1⟩], [], 2, 1, -1, false⟩
def m2 (a : ByteArray) : St := ⟨[dirV, ⟨pVA, false, a, a, false, false, 1⟩], [], 3, 1, -1, false⟩
def m3 (a b : ByteArray) : St := ⟨[dirV, ⟨pVA, false, a, a, false, false, 1⟩, ⟨pVB, false, b, ⟨#[]⟩, true, true, 2⟩], [], 4, 2, -1, false⟩
def m4 (a b : ByteArray) : St := ⟨[dirV, ⟨pVA, false, a, a, false, false, 1⟩, ⟨pVB, false, b, b, false, false, 2⟩], [], 5, 2, -1, false⟩
def m5 (b : ByteArray) : St := ⟨[dirV, ⟨pVA, false, b, b, false, false, 3⟩], [], 6, 3, -1, false⟩
def m6 (a b : ByteArray) : St := { m4 a b with down := true }
end Go.Proofs.YtdkgkomjbpggeaaGreatDoor.Dk

namespace Go.Proofs.YtdkgkomjbpggeaaGreatDoor.Dk
open Go.RowKit Tx Pm
set_option linter.unusedVariables false
def pVC : ByteArray := ⟨#[118, 47, 99]⟩
def syn (p x : ByteArray) (n : Nat) : It := ⟨p, false, x, x, false, false, n⟩
def raw (p x : ByteArray) (n : Nat) : It := ⟨p, false, x, ⟨#[]⟩, true, true, n⟩
def kA (x : ByteArray) : St := ⟨[dirV, raw pVA x 1], [], 2, 1, -1, false⟩
def kB (x : ByteArray) : St := ⟨[dirV, syn pVA x 1, raw pVB x 2], [], 4, 2, -1, false⟩
def kC (x : ByteArray) : St := ⟨[dirV, syn pVA x 1, syn pVB x 2, raw pVC x 3], [], 6, 3, -1, false⟩
end Go.Proofs.YtdkgkomjbpggeaaGreatDoor.Dk

namespace Go.Proofs.YtdkgkomjbpggeaaGreatDoor.Fr
open Go.RowKit Wm Wr Fm
set_option linter.unusedVariables false
def PKl (l : List ByteArray) : List UInt8 := (l.map fun t => (pk t).data.toList).flatten
theorem PKl_cons (t : ByteArray) (l : List ByteArray) : PKl (t :: l) = (pk t).data.toList ++ PKl l := by simp [PKl]
theorem PKl_snoc (l : List ByteArray) (t : ByteArray) : PKl (l ++ [t]) = PKl l ++ (pk t).data.toList := by simp [PKl]
def cnt : List ByteArray → Nat → Nat
  | [], _ => 0
  | t :: l, b => if (pk t).size ≤ b then cnt l (b - (pk t).size) + 1 else 0
theorem cnt_all : ∀ (l : List ByteArray) (b : Nat), (PKl l).length ≤ b → cnt l b = l.length
  | [], _, _ => rfl
  | t :: l, b, h => by
    rw [PKl_cons, List.length_append, len_l] at h
    rw [cnt, if_pos (by omega), cnt_all l _ (by omega)]
    rfl
theorem cnt_snoc : ∀ (l : List ByteArray) (t : ByteArray) (b : Nat), cnt (l ++ [t]) b = if (PKl (l ++ [t])).length ≤ b then l.length + 1 else cnt l b
  | [], t, b => by
    rw [List.nil_append, cnt, PKl_cons, List.length_append, len_l]
    have : (PKl []).length = 0 := rfl
    simp only [this, Nat.add_zero, cnt, List.length_nil]
  | s :: l, t, b => by
    have ih := cnt_snoc l t (b - (pk s).size)
    rw [List.cons_append, cnt, cnt, PKl_cons, List.length_append, len_l, ih]
    by_cases h : (pk s).size ≤ b
    · rw [if_pos h, if_pos h]
      by_cases h2 : (PKl (l ++ [t])).length ≤ b - (pk s).size
      · rw [if_pos h2, if_pos (by omega)]; rfl
      · rw [if_neg h2, if_neg (by omega)]
    · rw [if_neg h, if_neg h, if_neg (by omega)]
theorem lead_cut : ∀ (f x k : Nat), k < (vb x).length → k ≤ f → lead ((vb x).take k) f = k
  | f, x, 0, _, _ => by cases f <;> simp [lead]
  | 0, x, k + 1, _, h => absurd h (by omega)
  | f + 1, x, k + 1, h, hf => by
    by_cases hx : x < 128
    · rw [vb_lo hx] at h; simp at h
    · rw [vb_hi (by omega)] at h ⊢
      have e : (UInt8.ofNat (128 + x % 128)).toNat = 128 + x % 128 := by simp; omega
      rw [List.take_succ_cons, lead, if_pos (by omega), lead_cut f (x / 128) k (by simpa using h) (by omega)]
theorem rd_cut (x k : Nat) (h : k < (vb x).length) (hx : x < 18446744073709551616) : rd ((vb x).take k) = (0, 0, 2) := by
  have hl := vb_len hx
  have e := lead_cut 9 x k h (by omega)
  have e2 : ((vb x).take k).length = k := by rw [List.length_take]; omega
  unfold rd
  simp only [e, e2]
  exact if_pos trivial
theorem fr_cut (t : ByteArray) (k : Nat) (h : k < (pk t).size) (ht : t.size ≤ 9223372036854775807) : (fr ⟨((pk t).data.toList.take k).toArray⟩).2.2 = 2 := by
  have hp := pk_size t
  have hlen : (⟨((pk t).data.toList.take k).toArray⟩ : ByteArray).size = k := by
    rw [ByteArray.size, List.size_toArray, List.length_take, len_l]; omega
  rw [pk_list] at hlen ⊢
  by_cases h1 : k < (vb t.size).length
  · have e : (vb t.size ++ (t.data.toList ++ le4 (fsum t.data.toList))).take k = (vb t.size).take k := List.take_append_of_le_length (by omega)
    have r : rdU (⟨((vb t.size ++ (t.data.toList ++ le4 (fsum t.data.toList))).take k).toArray⟩ : ByteArray).data.toList = (0, 0, 2) := by
      show rdU ((vb t.size ++ (t.data.toList ++ le4 (fsum t.data.toList))).take k) = _
      rw [e, rdU, rd_cut t.size k h1 (by omega), if_neg (by simp)]
    rw [fr, rdT, r, if_pos (by simp), if_pos (by simp)]
  · obtain ⟨m, rfl⟩ : ∃ m, k = (vb t.size).length + m := ⟨k - (vb t.size).length, by omega⟩
    have e : (vb t.size ++ (t.data.toList ++ le4 (fsum t.data.toList))).take ((vb t.size).length + m) = vb t.size ++ (t.data.toList ++ le4 (fsum t.data.toList)).take m := by
      rw [List.take_append, List.take_of_length_le (by omega), Nat.add_sub_cancel_left]
    rw [e] at hlen ⊢
    by_cases h2 : m < t.size
    · have r : rdU (⟨(vb t.size ++ (t.data.toList ++ le4 (fsum t.data.toList)).take m).toArray⟩ : ByteArray).data.toList = (t.size, (vb t.size).length, 0) := by
        show rdU (vb t.size ++ _) = _
        rw [rdU, rd_vb t.size _ (by omega), if_neg]
        rintro ⟨_, h3⟩
        simp only at h3
        omega
      have r2 : rdT ⟨(vb t.size ++ (t.data.toList ++ le4 (fsum t.data.toList)).take m).toArray⟩ = (ByteArray.empty, 0, 2) := by
        rw [rdT, r, if_neg (fun h => h rfl), if_pos (by rw [hlen]; show (vb t.size).length + m < (vb t.size).length + t.size; omega)]
      rw [fr, r2, if_pos (by simp)]
    · have e2 : (t.data.toList ++ le4 (fsum t.data.toList)).take m = t.data.toList ++ (le4 (fsum t.data.toList)).take (m - t.size) := by
        rw [List.take_append, List.take_of_length_le (by rw [len_l]; omega), len_l]
      rw [e2] at hlen ⊢
      rw [fr, rdT_front t _ ht, if_neg (fun h => h rfl), if_pos (by rw [hlen]; show (vb t.size).length + m - ((vb t.size).length + t.size) < 4; omega)]
theorem fr_pk (t : ByteArray) (r : List UInt8) (ht : t.size ≤ 9223372036854775807) : fr ⟨((pk t).data.toList ++ r).toArray⟩ = (t, (pk t).size, 0) := by
  have e : (pk t).data.toList ++ r = vb t.size ++ (t.data.toList ++ (le4 (fsum t.data.toList) ++ r)) := by rw [pk_list]; simp
  rw [e, fr_front t _ r ht rfl, if_pos rfl, pk_size]
theorem mk_len (l : List UInt8) : (⟨l.toArray⟩ : ByteArray).size = l.length := by rw [ByteArray.size, List.size_toArray]
theorem from_at (p r : List UInt8) : (⟨(p ++ r).toArray⟩ : ByteArray).extract p.length (⟨(p ++ r).toArray⟩ : ByteArray).size = ⟨r.toArray⟩ := by
  apply ByteArray.ext
  rw [ByteArray.data_extract]
  apply Array.toList_inj.1
  rw [mk_len]
  simp
theorem scan_cut : ∀ (l : List ByteArray) (pre : List UInt8) (b : Nat), (∀ t ∈ l, t.size ≤ 9223372036854775807) →
    sc ⟨(pre ++ (PKl l).take b).toArray⟩ pre.length = (l.take (cnt l b), pre.length + (PKl (l.take (cnt l b))).length, if (PKl (l.take (cnt l b))).length = min b (PKl l).length then 0 else 2)
  | [], pre, b, _ => by
    have e : (PKl []).take b = [] := by simp [PKl]
    rw [e, List.append_nil, sc_end (by rw [mk_len]; omega)]
    simp [cnt, PKl]
  | t :: l, pre, b, ht => by
    have h0 := ht t (by simp)
    have hk : 0 < (pk t).size := by rw [pk_size]; omega
    rw [PKl_cons]
    by_cases hb : (pk t).size ≤ b
    · have e : ((pk t).data.toList ++ PKl l).take b = (pk t).data.toList ++ (PKl l).take (b - (pk t).size) := by
        rw [List.take_append, List.take_of_length_le (by rw [len_l]; omega), len_l]
      rw [e, sc_one (n := (pk t).size) (t := t) (by rw [mk_len, List.length_append, List.length_append, len_l]; omega) (by rw [from_at, fr_pk t _ h0])]
      have ih := scan_cut l (pre ++ (pk t).data.toList) (b - (pk t).size) (fun s hs => ht s (by simp [hs]))
      rw [List.append_assoc, List.length_append, len_l] at ih
      rw [ih, cnt, if_pos hb, List.take_succ_cons, PKl_cons, List.length_append, List.length_append, len_l]
      simp only [Prod.mk.injEq, true_and]
      refine ⟨by omega, ?_⟩
      by_cases hq : (PKl (l.take (cnt l (b - (pk t).size)))).length = min (b - (pk t).size) (PKl l).length
      · rw [if_pos hq, if_pos (by omega)]
      · rw [if_neg hq, if_neg (by omega)]
    · have e : ((pk t).data.toList ++ PKl l).take b = (pk t).data.toList.take b := List.take_append_of_le_length (by rw [len_l]; omega)
      have ez : PKl [] = [] := rfl
      rw [e, cnt, if_neg hb, List.take_zero, ez, List.length_nil, List.length_append, len_l]
      by_cases h1 : b = 0
      · subst h1
        rw [List.take_zero, List.append_nil, sc_end (by rw [mk_len]; omega)]
        simp
      · have hc := fr_cut t b (by omega) h0
        obtain ⟨x, n, e2, h2⟩ := trip (fr ⟨((pk t).data.toList.take b).toArray⟩)
        rw [h2] at hc
        have hc' : e2 = 2 := hc
        subst hc'
        rw [sc_bad (t := x) (n := n) (e := 2) (by rw [mk_len, List.length_append, List.length_take, len_l]; omega) (by rw [from_at, h2]) (by omega), if_neg (by omega)]
        rfl
end Go.Proofs.YtdkgkomjbpggeaaGreatDoor.Fr

namespace Go.Proofs.YtdkgkomjbpggeaaGreatDoor.Wl
open Go.RowKit Tx Pm Dk Fr
set_option linter.unusedVariables false
def pL : ByteArray := ⟨#[118, 47, 108, 111, 103]⟩
def pT : ByteArray := ⟨#[118, 47, 108, 111, 103, 95, 116]⟩
def PK (l : List ByteArray) : ByteArray := ⟨(PKl l).toArray⟩
theorem PK_snoc (l : List ByteArray) (r : ByteArray) : PK (l ++ [r]) = PK l ++ Fm.pk r := by
  apply ByteArray.ext
  apply Array.toList_inj.1
  rw [ByteArray.data_append, Array.toList_append]
  show PKl (l ++ [r]) = _
  rw [PKl_snoc]
  rfl
theorem PK_ext (l : List ByteArray) (k : Nat) : (PK l).extract 0 k = ⟨((PKl l).take k).toArray⟩ := by
  apply ByteArray.ext
  apply Array.toList_inj.1
  rw [ByteArray.data_extract, Array.toList_extract]
  simp [PK, List.extract_eq_take_drop]
def dec (a : Int) : Int := if a > 0 then a - 1 else a
theorem dec_in {a : Int} (h : -1 ≤ a ∧ a ≤ 9223372036854775807) : -1 ≤ dec a ∧ dec a ≤ 9223372036854775807 := by unfold dec; split <;> omega
theorem dec_neg : dec (-1) = -1 := rfl
def J (t : ByteArray) (sn st sm : Nat) (a : Int) : St := ⟨[dirV, syn pL t sn], [], st, sm, a, false⟩
def W1 (t d : ByteArray) (sn tn st sm : Nat) (a : Int) (dn : Bool) : St := ⟨[dirV, syn pL t sn, raw pT d tn], [], st, sm, a, dn⟩
def W2 (t d : ByteArray) (sn tn st sm : Nat) (a : Int) (dn : Bool) : St := ⟨[dirV, syn pL t sn, syn pT d tn], [], st, sm, a, dn⟩
theorem done_open {l : List It} {R : List Rm} {st sm : Nat} {a : Int} {dn : Bool} (h : a ≠ 0) : done ⟨l, R, st, sm, a, dn⟩ = (0, ⟨l, R, st + 1, sm, dec a, dn⟩) := by
  unfold done
  rw [if_neg (by exact h)]
  rfl
theorem scan_PK (l : List ByteArray) (b : Nat) (h : ∀ r ∈ l, r.size ≤ 140737488351232) : Fm.sc ((PK l).extract 0 b) 0 = (l.take (cnt l b), (PKl (l.take (cnt l b))).length, if (PKl (l.take (cnt l b))).length = min b (PKl l).length then 0 else 2) := by
  have := scan_cut l [] b (fun t ht => by have := h t ht; omega)
  simp only [List.nil_append, List.length_nil, Nat.zero_add] at this
  rw [PK_ext]
  exact this
theorem scan_all (l : List ByteArray) (h : ∀ r ∈ l, r.size ≤ 140737488351232) : Fm.sc (PK l) 0 = (l, (PKl l).length, 0) := by
  have h1 := scan_PK l (PKl l).length h
  have e : (PK l).extract 0 (PKl l).length = PK l := by
    rw [PK_ext, List.take_length]
    rfl
  rw [e, cnt_all l _ (Nat.le_refl _), List.take_length, if_pos (by omega)] at h1
  exact h1
end Go.Proofs.YtdkgkomjbpggeaaGreatDoor.Wl

namespace Go.Proofs.YtdkgkomjbpggeaaGreatDoor.Tb
open Go.RowKit Tx Pm Dk Wm Wr Wl
set_option linter.unusedVariables false
set_option linter.unusedSimpArgs false
set_option linter.unnecessarySimpa false
def rw7 (k v : ByteArray) : It := { mk k with data := v }
def app (L : List It) (c : Ch) : List It := if c.gone then drop L c.key else ins L (rw7 c.key c.val)
def all7 (L : List It) (l : List Ch) : List It := l.foldl app L
theorem all7_cons (L : List It) (c : Ch) (l : List Ch) : all7 L (c :: l) = all7 (app L c) l := rfl
theorem all7_append (L : List It) (a b : List Ch) : all7 L (a ++ b) = all7 (all7 L a) b := by unfold all7; rw [List.foldl_append]
theorem all7_snoc (L : List It) (a : List Ch) (c : Ch) : all7 L (a ++ [c]) = app (all7 L a) c := by rw [all7_append]; rfl
theorem find_app7 (L : List It) (c : Ch) (p : ByteArray) : find (app L c) p = if c.key = p then (if c.gone then none else some (rw7 c.key c.val)) else find L p := by
  unfold app
  cases hg : c.gone with
  | true =>
    by_cases h : c.key = p
    · subst h; rw [if_pos rfl, if_pos rfl]; exact find_drop_same L _
    · rw [if_pos rfl, if_neg h]; exact find_drop L h
  | false =>
    by_cases h : c.key = p
    · subst h; rw [if_neg (by decide), if_pos rfl]; exact find_ins_same L rfl
    · rw [if_neg (by decide), if_neg h]; exact find_ins L (x := rw7 c.key c.val) h
theorem rises_app {L : List It} (h : Rises L) (c : Ch) : Rises (app L c) := by
  unfold app
  split
  · exact rises_drop _ h
  · exact rises_ins h
theorem rises_all {L : List It} (h : Rises L) (l : List Ch) : Rises (all7 L l) := by
  induction l generalizing L with
  | nil => exact h
  | cons c l ih => exact ih (rises_app h c)
def Plain (L : List It) : Prop := ∀ x ∈ L, x = rw7 x.path x.data
theorem plain_app {L : List It} (h : Plain L) (c : Ch) : Plain (app L c) := by
  intro x hx
  unfold app at hx
  split at hx
  · exact h x ((drop_in L c.key).1 x hx)
  · rcases mem_ins hx with rfl | hx
    · rfl
    · exact h x hx
theorem plain_all {L : List It} (h : Plain L) (l : List Ch) : Plain (all7 L l) := by
  induction l generalizing L with
  | nil => exact h
  | cons c l ih => exact ih (plain_app h c)
theorem len_app (L : List It) (c : Ch) : (app L c).length ≤ L.length + 1 := by
  unfold app
  split
  · have := (drop_in L c.key).2; omega
  · exact len_ins L _
theorem len_all (L : List It) (l : List Ch) : (all7 L l).length ≤ L.length + l.length := by
  induction l generalizing L with
  | nil => exact Nat.le_refl _
  | cons c l ih =>
    have h1 := ih (app L c)
    have h2 := len_app L c
    rw [all7_cons, List.length_cons]
    omega
theorem mem_app {L : List It} {c : Ch} {x : It} (h : x ∈ app L c) : x = rw7 c.key c.val ∨ x ∈ L := by
  unfold app at h
  split at h
  · exact .inr ((drop_in L c.key).1 x h)
  · exact mem_ins h
theorem mem_all {L : List It} {l : List Ch} {x : It} (h : x ∈ all7 L l) : (∃ c ∈ l, x = rw7 c.key c.val) ∨ x ∈ L := by
  induction l generalizing L with
  | nil => exact .inr h
  | cons c l ih =>
    rcases ih h with ⟨d, hd, rfl⟩ | h
    · exact .inl ⟨d, List.mem_cons_of_mem _ hd, rfl⟩
    · rcases mem_app h with rfl | h
      · exact .inl ⟨c, List.mem_cons_self, rfl⟩
      · exact .inr h
theorem rises_ext {L L' : List It} (h : Rises L) (h' : Rises L') (hf : ∀ p, find L p = find L' p) : L = L' := by
  induction L generalizing L' with
  | nil =>
    cases L' with
    | nil => rfl
    | cons y L' =>
      have := hf y.path
      rw [find_paths h' List.mem_cons_self] at this
      cases this
  | cons x L ih =>
    cases L' with
    | nil =>
      have := hf x.path
      rw [find_paths h List.mem_cons_self] at this
      cases this
    | cons y L' =>
      obtain ⟨h1, h2⟩ := List.pairwise_cons.1 h
      obtain ⟨h1', h2'⟩ := List.pairwise_cons.1 h'
      have hx := hf x.path
      have hy := hf y.path
      rw [find_paths h List.mem_cons_self] at hx
      rw [find_paths h' List.mem_cons_self] at hy
      have hxy : x = y := by
        obtain ⟨m1, _⟩ := find_mem hx.symm
        obtain ⟨m2, _⟩ := find_mem hy
        rcases List.mem_cons.1 m1 with e | m1
        · exact e
        · rcases List.mem_cons.1 m2 with e | m2
          · exact e.symm
          · have a1 := h1' x m1
            have a2 := h1 y m2
            have := Od.less_trans _ _ _ a1 a2
            rw [less_irrefl] at this
            cases this
      subst hxy
      congr 1
      refine ih h2 h2' (fun p => ?_)
      by_cases hp : x.path = p
      · have n1 : find L p = none := by
          refine List.find?_eq_none.2 (fun z hz he => ?_)
          have he := of_decide_eq_true he
          have := h1 z hz
          rw [he, ← hp, less_irrefl] at this
          cases this
        have n2 : find L' p = none := by
          refine List.find?_eq_none.2 (fun z hz he => ?_)
          have he := of_decide_eq_true he
          have := h1' z hz
          rw [he, ← hp, less_irrefl] at this
          cases this
        rw [n1, n2]
      · have := hf p
        rwa [find_one x L hp, find_one x L' hp] at this
def lastOf (l : List Ch) (p : ByteArray) : Option Ch := l.reverse.find? (fun c => decide (c.key = p))
theorem lastOf_snoc (l : List Ch) (c : Ch) (p : ByteArray) : lastOf (l ++ [c]) p = if c.key = p then some c else lastOf l p := by
  unfold lastOf
  rw [List.reverse_append, List.reverse_singleton, List.singleton_append]
  by_cases h : c.key = p
  · rw [if_pos h, List.find?_cons_of_pos (by simpa using h)]
  · rw [if_neg h, List.find?_cons_of_neg (by simpa using h)]
def after (o : Option It) (c : Option Ch) : Option It := match c with
  | none => o
  | some c => if c.gone then none else some (rw7 c.key c.val)
theorem snoc_ind {α : Type} {P : List α → Prop} (h0 : P []) (h1 : ∀ l x, P l → P (l ++ [x])) (l : List α) : P l := by
  have : ∀ r : List α, P r.reverse := fun r => by
    induction r with
    | nil => exact h0
    | cons x r ih => rw [List.reverse_cons]; exact h1 _ _ ih
  have h := this l.reverse
  rwa [List.reverse_reverse] at h
theorem find_all (L : List It) (l : List Ch) (p : ByteArray) : find (all7 L l) p = after (find L p) (lastOf l p) := by
  induction l using snoc_ind with
  | h0 => rfl
  | h1 l c ih =>
    rw [all7_snoc, find_app7, lastOf_snoc, ih]
    by_cases h : c.key = p
    · rw [if_pos h, if_pos h]; rfl
    · rw [if_neg h, if_neg h]
def bat (l : List Ch) (c : Ch) : List Ch := if l.any (fun x => decide (x.key = c.key)) then l.map (fun x => if x.key = c.key then c else x) else l ++ [c]
def Once (l : List Ch) : Prop := l.Pairwise (fun a b => a.key ≠ b.key)
theorem bat_mem {l : List Ch} {c x : Ch} (h : x ∈ bat l c) : x = c ∨ x ∈ l := by
  unfold bat at h
  split at h
  · obtain ⟨y, hy, rfl⟩ := List.mem_map.1 h
    split
    · exact .inl rfl
    · exact .inr hy
  · rcases List.mem_append.1 h with h | h
    · exact .inr h
    · exact .inl (List.mem_singleton.1 h)
theorem bat_keys (l : List Ch) (c : Ch) : (bat l c).map (·.key) = if l.any (fun x => decide (x.key = c.key)) then l.map (·.key) else l.map (·.key) ++ [c.key] := by
  unfold bat
  split
  · rw [List.map_map]
    refine List.map_congr_left (fun x _ => ?_)
    show (if x.key = c.key then c else x).key = x.key
    split
    · rename_i h; exact h.symm
    · rfl
  · rw [List.map_append]; rfl
theorem once_keys {l : List Ch} : Once l ↔ (l.map (·.key)).Nodup := by
  unfold Once List.Nodup
  rw [List.pairwise_map]
theorem once_bat {l : List Ch} (h : Once l) (c : Ch) : Once (bat l c) := by
  rw [once_keys] at h ⊢
  rw [bat_keys]
  split
  · exact h
  · rename_i hn
    rw [List.nodup_append]
    refine ⟨h, List.nodup_cons.2 ⟨List.not_mem_nil, List.nodup_nil⟩, fun a ha b hb => ?_⟩
    rw [List.mem_singleton.1 hb]
    obtain ⟨x, hx, rfl⟩ := List.mem_map.1 ha
    intro e
    exact hn (List.any_eq_true.2 ⟨x, hx, by simpa using e⟩)
def at7 (l : List Ch) (p : ByteArray) : Option Nat := l.findIdx? (fun c => decide (c.key = p))
theorem at7_lt {l : List Ch} {p : ByteArray} {i : Nat} (h : at7 l p = some i) : ∃ c, l[i]? = some c ∧ c.key = p ∧ i < l.length := by
  obtain ⟨h1, h2, _⟩ := List.findIdx?_eq_some_iff_getElem.1 h
  exact ⟨l[i], List.getElem?_eq_getElem h1, by simpa using h2, h1⟩
theorem at7_none {l : List Ch} {p : ByteArray} (h : at7 l p = none) : l.any (fun x => decide (x.key = p)) = false := by
  have := List.findIdx?_eq_none_iff.1 h
  exact List.any_eq_false.2 (fun x hx => by simpa using this x hx)
theorem at7_some {l : List Ch} {p : ByteArray} {i : Nat} (h : at7 l p = some i) : l.any (fun x => decide (x.key = p)) = true := by
  obtain ⟨c, hc, hk, _⟩ := at7_lt h
  exact List.any_eq_true.2 ⟨c, List.mem_of_getElem? hc, by simpa using hk⟩
theorem once_at {l : List Ch} (h : Once l) {i : Nat} {c : Ch} (hi : l[i]? = some c) : at7 l c.key = some i := by
  obtain ⟨hlt, he⟩ := List.getElem?_eq_some_iff.1 hi
  refine List.findIdx?_eq_some_iff_getElem.2 ⟨hlt, by simpa [he], fun j hj => ?_⟩
  have := List.pairwise_iff_getElem.1 h j i (by omega) hlt hj
  rw [he] at this
  simpa using this
theorem bat_set {l : List Ch} (h : Once l) {c : Ch} {i : Nat} (hi : at7 l c.key = some i) : bat l c = l.set i c := by
  unfold bat
  rw [if_pos (at7_some hi)]
  obtain ⟨d, hd, hk, hlt⟩ := at7_lt hi
  apply List.ext_getElem?
  intro j
  rw [List.getElem?_map, List.getElem?_set]
  by_cases hj : i = j
  · subst hj
    rw [if_pos rfl, if_pos hlt, hd]
    show some (if d.key = c.key then c else d) = some c
    rw [if_pos hk]
  · rw [if_neg hj]
    cases hx : l[j]? with
    | none => rfl
    | some x =>
      show some (if x.key = c.key then c else x) = some x
      rw [if_neg]
      intro e
      have h1 := once_at h hx
      rw [e, hi] at h1
      injection h1 with h1
      exact hj h1
theorem bat_new {l : List Ch} {c : Ch} (h : at7 l c.key = none) : bat l c = l ++ [c] := by
  unfold bat
  rw [if_neg (by rw [at7_none h]; decide)]
theorem at7_bat {l : List Ch} (h : Once l) (c : Ch) (p : ByteArray) : at7 (bat l c) p = if at7 l c.key = none ∧ p = c.key then some l.length else at7 l p := by
  cases hi : at7 l c.key with
  | none =>
    rw [bat_new hi]
    unfold at7
    rw [List.findIdx?_append]
    by_cases hp : p = c.key
    · subst hp
      have hi : List.findIdx? (fun d => decide (d.key = c.key)) l = none := hi
      rw [hi, if_pos ⟨rfl, rfl⟩]
      simp
    · rw [if_neg (fun hh => hp hh.2)]
      have : List.findIdx? (fun d : Ch => decide (d.key = p)) [c] = none := by
        rw [List.findIdx?_cons]
        have hq : ¬ c.key = p := fun e => hp e.symm
        simp [hq]
      rw [this]
      cases List.findIdx? (fun d => decide (d.key = p)) l <;> rfl
  | some i =>
    rw [if_neg (fun hh => by cases hh.1)]
    have hkeys : (bat l c).map (·.key) = l.map (·.key) := by rw [bat_keys, if_pos (at7_some hi)]
    have e : ∀ m : List Ch, at7 m p = (m.map (·.key)).findIdx? (fun k => decide (k = p)) := fun m => by
      unfold at7; rw [List.findIdx?_map]; rfl
    rw [e, e, hkeys]
theorem key_eq {m : List Ch} {q : ByteArray} {x : Ch} (h : m.find? (fun d => decide (d.key = q)) = some x) : x.key = q := by
  have := List.find?_some h
  simpa using this
theorem lastOf_bat {l : List Ch} (h : Once l) (c : Ch) (p : ByteArray) : lastOf (bat l c) p = if c.key = p then some c else lastOf l p := by
  have hu : ∀ {m : List Ch}, Once m → ∀ q, lastOf m q = m.find? (fun d => decide (d.key = q)) := fun {m} hm q => by
    unfold lastOf
    cases hf : m.find? (fun d => decide (d.key = q)) with
    | none =>
      refine List.find?_eq_none.2 (fun x hx => ?_)
      exact List.find?_eq_none.1 hf x (List.mem_reverse.1 hx)
    | some x =>
      have hx := List.mem_of_find?_eq_some hf
      have hk := key_eq hf
      cases hg : m.reverse.find? (fun d => decide (d.key = q)) with
      | none => exact absurd (by simpa using hk) (List.find?_eq_none.1 hg x (List.mem_reverse.2 hx))
      | some y =>
        have hy := List.mem_reverse.1 (List.mem_of_find?_eq_some hg)
        have hky := key_eq hg
        obtain ⟨i, hi⟩ := List.getElem?_of_mem hx
        obtain ⟨j, hj⟩ := List.getElem?_of_mem hy
        have a1 := once_at hm hi
        have a2 := once_at hm hj
        rw [hk] at a1
        rw [hky, a1] at a2
        injection a2 with a2
        subst a2
        rw [hi] at hj
        exact hj.symm
  rw [hu (once_bat h c), hu h]
  unfold bat
  split
  · rename_i ha
    rw [List.find?_map]
    by_cases hp : c.key = p
    · rw [if_pos hp]
      obtain ⟨x, hx, hk⟩ := List.any_eq_true.1 ha
      have hk := of_decide_eq_true hk
      have e : (fun d : Ch => decide (d.key = p)) ∘ (fun x => if x.key = c.key then c else x) = fun d => decide (d.key = p) := by
        funext d
        show decide ((if d.key = c.key then c else d).key = p) = decide (d.key = p)
        split
        · rename_i hd; rw [hd]
        · rfl
      rw [e]
      cases hf : l.find? (fun d => decide (d.key = p)) with
      | none => exact absurd (by simpa [hk] using hp) (List.find?_eq_none.1 hf x hx)
      | some y =>
        have hky := key_eq hf
        show some (if y.key = c.key then c else y) = some c
        rw [if_pos (hky.trans hp.symm)]
    · rw [if_neg hp]
      have e : (fun d : Ch => decide (d.key = p)) ∘ (fun x => if x.key = c.key then c else x) = fun d => decide (d.key = p) := by
        funext d
        show decide ((if d.key = c.key then c else d).key = p) = decide (d.key = p)
        split
        · rename_i hd; rw [hd]
        · rfl
      rw [e]
      cases hf : l.find? (fun d => decide (d.key = p)) with
      | none => rfl
      | some y =>
        have hky := key_eq hf
        show some (if y.key = c.key then c else y) = some y
        rw [if_neg (fun e => hp (e.symm.trans hky))]
  · rename_i ha
    rw [List.find?_append]
    by_cases hp : c.key = p
    · rw [if_pos hp]
      have : l.find? (fun d => decide (d.key = p)) = none := List.find?_eq_none.2 (fun x hx he => ha (List.any_eq_true.2 ⟨x, hx, by rw [hp]; exact he⟩))
      rw [this, Option.none_or, List.find?_cons_of_pos (by simpa using hp)]
    · rw [if_neg hp]
      have : [c].find? (fun d => decide (d.key = p)) = none := List.find?_eq_none.2 (fun x hx he => hp (by rw [← List.mem_singleton.1 hx]; exact of_decide_eq_true he))
      rw [this, Option.or_none]
theorem all_bat {L : List It} (hr : Rises L) {l : List Ch} (h : Once l) (c : Ch) : all7 L (bat l c) = app (all7 L l) c := by
  refine rises_ext (rises_all hr _) (rises_app (rises_all hr _) _) (fun p => ?_)
  rw [find_all, find_app7, lastOf_bat h, find_all]
  by_cases hp : c.key = p
  · rw [if_pos hp, if_pos hp]; rfl
  · rw [if_neg hp, if_neg hp]
theorem all_norm (L : List It) (l : List Ch) : all7 L (l.map norm) = all7 L l := by
  induction l generalizing L with
  | nil => rfl
  | cons c l ih =>
    rw [List.map_cons, all7_cons, all7_cons, ih]
    congr 1
    unfold app norm
    cases hg : c.gone <;> simp [hg]
def whole7 (L : List It) : List Ch := L.map (fun x => ⟨x.path, x.data, false⟩)
structure Tst where
  j : Jst
  L : List It
def packS (x : Tst) (p q : ByteArray) : Nat × Tst :=
  if (fillS x.j.s p (Fm.pk (rec7 (whole7 x.L)))).1 ≠ 0 then ((fillS x.j.s p (Fm.pk (rec7 (whole7 x.L)))).1, ⟨⟨(fillS x.j.s p (Fm.pk (rec7 (whole7 x.L)))).2, x.j.R, x.j.dm⟩, x.L⟩) else
  ((resetS ⟨(fillS x.j.s p (Fm.pk (rec7 (whole7 x.L)))).2, x.j.R, x.j.dm⟩ q).1, ⟨(resetS ⟨(fillS x.j.s p (Fm.pk (rec7 (whole7 x.L)))).2, x.j.R, x.j.dm⟩ q).2, x.L⟩)
def commitS (x : Tst) (l : List Ch) (p q : ByteArray) : Nat × Tst :=
  if l = [] then (0, x) else
  if (addS x.j q (rec7 l)).1 ≠ 0 then ((addS x.j q (rec7 l)).1, ⟨(addS x.j q (rec7 l)).2, x.L⟩) else
  if 16 ≤ (addS x.j q (rec7 l)).2.R.length then packS ⟨(addS x.j q (rec7 l)).2, all7 x.L l⟩ p q else (0, ⟨(addS x.j q (rec7 l)).2, all7 x.L l⟩)
def baseS (t : ByteArray) : List It × Nat :=
  if (Fm.fr t).2.2 ≠ 0 then ([], (Fm.fr t).2.2) else if (Fm.fr t).2.1 < t.size then ([], 5) else
  if (opsS (Fm.fr t).1).2 ≠ 0 then ([], (opsS (Fm.fr t).1).2) else (all7 [] (opsS (Fm.fr t).1).1, 0)
def rows7 (L : List It) (R : List ByteArray) : List It := R.foldl (fun L r => all7 L (opsS r).1) L
theorem rows7_snoc (L : List It) (R : List ByteArray) (r : ByteArray) : rows7 L (R ++ [r]) = all7 (rows7 L R) (opsS r).1 := by unfold rows7; rw [List.foldl_append]; rfl
theorem rows7_cons (L : List It) (R : List ByteArray) (r : ByteArray) : rows7 L (r :: R) = rows7 (all7 L (opsS r).1) R := rfl
theorem rises_rows {L : List It} (h : Rises L) (R : List ByteArray) : Rises (rows7 L R) := by
  induction R generalizing L with
  | nil => exact h
  | cons r R ih => exact ih (rises_all h _)
theorem plain_rows {L : List It} (h : Plain L) (R : List ByteArray) : Plain (rows7 L R) := by
  induction R generalizing L with
  | nil => exact h
  | cons r R ih => exact ih (plain_all h _)
theorem opsS_len (r : ByteArray) : (opsS r).1.length ≤ r.size := by
  obtain ⟨l, e, h⟩ : ∃ l e, opsS r = (l, e) := ⟨_, _, rfl⟩
  rw [h]
  by_cases he : e = 0
  · subst he
    have := (opsS_ok h).2.2
    show l.length ≤ _
    omega
  · have : l = [] := by
      unfold opsS at h
      split at h
      · simp only [Prod.mk.injEq] at h; exact h.1.symm
      · split at h
        · simp only [Prod.mk.injEq] at h; exact h.1.symm
        · split at h
          · simp only [Prod.mk.injEq] at h; exact h.1.symm
          · simp only [Prod.mk.injEq] at h; exact absurd h.2.symm he
    rw [this]
    exact Nat.zero_le _
theorem len_rows (L : List It) (R : List ByteArray) : (rows7 L R).length ≤ L.length + (R.map (·.size)).sum := by
  induction R generalizing L with
  | nil => exact Nat.le_refl _
  | cons r R ih =>
    have h1 := ih (all7 L (opsS r).1)
    have h2 := len_all L (opsS r).1
    have h3 := opsS_len r
    rw [rows7_cons, List.map_cons, List.sum_cons]
    omega
def base0 (s : St) (p : ByteArray) : List It × Nat :=
  if kind s.L p = 0 then ([], 0) else if (readS s p).2 ≠ 0 then ([], (readS s p).2) else baseS (readS s p).1
def open1 (s : St) (p q : ByteArray) : Nat × Tst :=
  if (base0 s p).2 ≠ 0 then ((base0 s p).2, ⟨⟨s, [], false⟩, []⟩) else
  if (openS s q).1 ≠ 0 then ((openS s q).1, ⟨(openS s q).2, []⟩) else
  (0, ⟨(openS s q).2, rows7 (base0 s p).1 (openS s q).2.R⟩)
def opened (s : St) (f : ByteArray) : Nat × St := if kind s.L f = 0 then mkdirS s f else (0, s)
def open7 (s : St) (f p q : ByteArray) : Nat × Tst := if (opened s f).1 ≠ 0 then ((opened s f).1, ⟨⟨(opened s f).2, [], false⟩, []⟩) else open1 (opened s f).2 p q
end Go.Proofs.YtdkgkomjbpggeaaGreatDoor.Tb

namespace Go.Proofs.YtdkgkomjbpggeaaGreatDoor.Tb
open Go.RowKit Tx Pm Dk Wm Wr
set_option linter.unusedVariables false
set_option linter.unusedSimpArgs false
set_option linter.unnecessarySimpa false
def cellsC (c : Ch) : List Value := [.string c.key, .string c.val, .bool c.gone]
def ov (c : Ch) : Value := .agg #[.string c.key, .string c.val, .bool c.gone]
def od (c : Ch) : DataW Unit := .agg [.lit (.string c.key.data.toList), .lit (.string c.val.data.toList), .lit (.bool c.gone)]
theorem infoC : (Tryz.prog.info? 105).map (fun i => (i.zero, i.size, i.bytes)) = some (some (ov ch0), 3, 40) := by kernel_rfl
def Opl (w : World) (a : Option Addr) (n : Nat) (l : List Ch) : Prop := l.length = n ∧ (n = 0 ∨ ∃ g off, a = some ⟨g, off, none⟩ ∧ g < w.heap.size ∧ ∀ k x, l[k]? = some x →
  w.cell? ⟨g, off + k * 3, none⟩ = some (.string x.key) ∧ w.cell? ⟨g, off + k * 3 + 1, none⟩ = some (.string x.val) ∧ w.cell? ⟨g, off + k * 3 + 1 + 1, none⟩ = some (.bool x.gone))
theorem Opl.below {w w1 : World} {a : Option Addr} {n : Nat} {l : List Ch} (h : Opl w a n l) (hb : Below w.heap.size w w1) : Opl w1 a n l := by
  refine ⟨h.1, ?_⟩
  rcases h.2 with h0 | ⟨g, off, ha, hlt, hc⟩
  · exact .inl h0
  · refine .inr ⟨g, off, ha, Nat.lt_of_lt_of_le hlt hb.size, fun k x hx => ?_⟩
    obtain ⟨h1, h2, h3⟩ := hc k x hx
    exact ⟨(hb.cell (p := ⟨g, _, none⟩) hlt).trans h1, (hb.cell (p := ⟨g, _, none⟩) hlt).trans h2, (hb.cell (p := ⟨g, _, none⟩) hlt).trans h3⟩
theorem Opl.nth {w : World} {a : Option Addr} {n : Nat} {l : List Ch} (h : Opl w a n l) {k : Nat} {x : Ch} (hx : l[k]? = some x) : ∃ g off, a = some ⟨g, off, none⟩ ∧ g < w.heap.size ∧ w.cell? ⟨g, off + k * 3, none⟩ = some (.string x.key) ∧ w.cell? ⟨g, off + k * 3 + 1, none⟩ = some (.string x.val) ∧ w.cell? ⟨g, off + k * 3 + 1 + 1, none⟩ = some (.bool x.gone) := by
  have hk := (List.getElem?_eq_some_iff.1 hx).1
  rcases h.2 with h0 | ⟨g, off, ha, hlt, hc⟩
  · rw [h.1] at hk; omega
  · exact ⟨g, off, ha, hlt, hc k x hx⟩
def OwnC (w : World) (B : Nat) (v : Value) (l : List Ch) : Prop := w.ownsRow B 105 3 v l.length (l.flatMap cellsC)
theorem OwnC.form {w : World} {B : Nat} {v : Value} {l : List Ch} (h : OwnC w B v l) : ∃ a c, v = .slice a l.length c ∧ Opl w a l.length l ∧ l.length ≤ c ∧ c ≤ maxLen := by
  have hh := h
  rcases h.2 with ⟨rfl, h0⟩ | ⟨g, cap, cur, rfl, hg, hh2, hn, hc, _⟩
  · exact ⟨none, 0, by rw [h0], ⟨rfl, .inl h0⟩, by omega, Nat.zero_le _⟩
  · refine ⟨some ⟨g, 0, none⟩, cap, rfl, ⟨rfl, .inr ⟨g, 0, rfl, (Array.getElem?_eq_some_iff.1 hh2).1, fun k x hx => ?_⟩⟩, hn, hc⟩
    have hc : ∀ j u, j < 3 → (cellsC x)[j]? = some u → w.cell? ⟨g, 0 + k * 3 + j, none⟩ = some u := by
      intro j u hj hu
      have := hh.cells (g := g) rfl (k * 3 + j) u ((flat_at cellsC 3 (fun _ => rfl) l k x j hx hj).trans hu)
      rw [WideShapes.add_plain, Nat.zero_add] at this
      rw [Nat.zero_add]
      exact this
    exact ⟨hc 0 _ (by omega) rfl, hc 1 _ (by omega) rfl, hc 2 _ (by omega) rfl⟩
end Go.Proofs.YtdkgkomjbpggeaaGreatDoor.Tb

namespace Go.Proofs.YtdkgkomjbpggeaaGreatDoor.Tb
open Go.RowKit Tx Pm Dk Wm Wr Wl
set_option linter.unusedVariables false
set_option linter.unusedSimpArgs false
set_option linter.unnecessarySimpa false
def opR : Value → Option (DataW Unit × List MemPlace)
  | .agg ⟨[.string k, .string v, .bool g]⟩ => some (od ⟨k, v, g⟩, [])
  | _ => none
theorem opR_ov (c : Ch) : opR (ov c) = some (od c, []) := rfl
theorem opR_inv {v : Value} {z : DataW Unit × List MemPlace} (h : opR v = some z) : ∃ c, v = ov c ∧ z = (od c, []) := by
  unfold opR at h
  split at h
  · cases h
    exact ⟨⟨_, _, _⟩, rfl, rfl⟩
  · cases h
theorem od_inj {c d : Ch} (h : od c = od d) : c = d := by
  obtain ⟨k, v, g⟩ := c
  obtain ⟨k', v', g'⟩ := d
  unfold od at h
  simp only [DataW.agg.injEq, List.cons.injEq, DataW.lit.injEq, Lit.string.injEq, Lit.bool.injEq, and_true] at h
  obtain ⟨h1, h2, h3⟩ := h
  rw [ByteArray.ext (Array.toList_inj.1 h1), ByteArray.ext (Array.toList_inj.1 h2), h3]
def chOf (x : It) : Ch := ⟨x.path, x.data, false⟩
theorem zeroC (w : World) : (zeroValue 105).run Tryz.prog w = .ok (ov ch0) w := by kernel_rfl
def ReadsO (D : DataW Unit) (L : List It) : Prop := ∀ p z, D.atKey (kL p) z = match find L p with
  | some x => od (chOf x)
  | none => z
def Mo (w : World) (bm : Nat) (L : List It) : Prop := ∃ D : DataW Unit, w.ownsMap Tryz.prog 9 opR bm L.length D ∧ ReadsO D L ∧ Go.Maps.size D ≤ L.length
theorem Mo.lt {w : World} {bm : Nat} {L : List It} (h : Mo w bm L) : bm < w.heap.size := by
  obtain ⟨D, h, _⟩ := h
  exact h.lt
theorem Mo.kept {w w1 : World} {bm : Nat} {L : List It} (h : Mo w bm L) (he : w1.heap[bm]? = w.heap[bm]?) : Mo w1 bm L := by
  obtain ⟨D, h, r⟩ := h
  exact ⟨D, Dk.ownsMap_at h he, r⟩
theorem Mo.nb {w : World} {bm : Nat} {L : List It} (h : Mo w bm L) {cs : Array Value} {T : TypeId} {fz : Nat × Nat} : w.heap[bm]? ≠ some (.cells cs T fz) := by
  obtain ⟨D, h, _⟩ := h
  exact map_block h
theorem readsO_has {D : DataW Unit} {L : List It} (h : ReadsO D L) (p : ByteArray) : Go.Maps.has D (kL p) = (find L p).isSome := by
  cases hf : find L p with
  | none =>
    refine (Go.Maps.has_false_of_atKey fun z => ?_).trans rfl
    rw [h p z, hf]
  | some x =>
    refine (Go.Maps.has_true_of_atKey (y := od (chOf x)) fun z => ?_).trans rfl
    rw [h p z, hf]
def lookC (L : List It) (p : ByteArray) : Ch := match find L p with
  | some x => chOf x
  | none => ch0
theorem Mo.look {w : World} {bm : Nat} {L : List It} (h : Mo w bm L) {p : ByteArray} (hp : p.size ≤ maxLen) :
    (Instr.lookup 66 (.map (some bm)) (.string p) false).run Tryz.prog w = .ok (ov (lookC L p)) w := by
  obtain ⟨D, ho, hr, _⟩ := h
  obtain ⟨v, ps, hrun, hv⟩ := ho.lookup strK Tryz.underlying66 (zeroC w) (opR_ov _) (keyP hp)
  rw [hrun]
  obtain ⟨c, rfl, hz⟩ := opR_inv hv
  have hz := congrArg Prod.fst hz
  simp only [hr p] at hz
  unfold lookC
  cases hf : find L p with
  | none =>
    rw [hf] at hz
    have e : ch0 = c := od_inj hz
    subst e
    rfl
  | some x =>
    rw [hf] at hz
    have e : chOf x = c := od_inj hz
    subst e
    rfl
theorem Mo.look_ok {w : World} {bm : Nat} {L : List It} (h : Mo w bm L) {p : ByteArray} (hp : p.size ≤ maxLen) :
    (Instr.lookup 66 (.map (some bm)) (.string p) true).run Tryz.prog w = .ok (.tuple #[ov (lookC L p), .bool (find L p).isSome]) w := by
  obtain ⟨D, ho, hr, _⟩ := h
  obtain ⟨v, ps, hrun, hv⟩ := ho.look_ok strK Tryz.underlying66 (zeroC w) (opR_ov _) (keyP hp)
  rw [hrun, readsO_has hr]
  obtain ⟨c, rfl, hz⟩ := opR_inv hv
  have hz := congrArg Prod.fst hz
  simp only [hr p] at hz
  unfold lookC
  cases hf : find L p with
  | none =>
    rw [hf] at hz
    have e : ch0 = c := od_inj hz
    subst e
    rfl
  | some x =>
    rw [hf] at hz
    have e : chOf x = c := od_inj hz
    subst e
    rfl
theorem Mo.store {w : World} {bm : Nat} {L : List It} (h : Mo w bm L) {c : Ch} (hg : c.gone = false) (hp : c.key.size ≤ maxLen) (hn : L.length < maxLen) :
    ∃ w', (Instr.mapUpdate 66 (.map (some bm)) (.string c.key) (ov c)).run Tryz.prog w = .ok () w' ∧ Mo w' bm (app L c) ∧ w.mapTurned w' bm := by
  obtain ⟨D, ho, hr, hs⟩ := h
  obtain ⟨w', hrun, ho', ht⟩ := ho.store strK Tryz.underlying66 hn (keyP hp) (opR_ov c)
  have ha : app L c = ins L (rw7 c.key c.val) := by unfold app; rw [hg]; rfl
  have hc : chOf (rw7 c.key c.val) = c := by
    obtain ⟨k, v, g⟩ := c
    simp only at hg
    subst hg
    rfl
  rw [ha]
  have hsz : Go.Maps.size (D.put (kL c.key) (od c)) ≤ (ins L (rw7 c.key c.val)).length := by
    have h1 := Go.Maps.size_put (ho.tidy strK) (k := kL c.key) (od c)
    rw [readsO_has hr] at h1
    have h2 := len_ins_more (l := L) (rw7 c.key c.val)
    have h3 : (rw7 c.key c.val).path = c.key := rfl
    rw [h3] at h2
    rw [h1]
    split at h2 <;> split <;> first | omega | simp_all
  refine ⟨w', hrun, ⟨_, own_len ho' hsz, fun p z => ?_, hsz⟩, ht⟩
  by_cases he : p = c.key
  · subst he
    have hfi : find (ins L (rw7 c.key c.val)) c.key = some (rw7 c.key c.val) := find_ins_same L rfl
    rw [Go.Maps.atKey_put_same ho.isMap (kL_key _), hfi]
    show od c = od (chOf (rw7 c.key c.val))
    rw [hc]
  · rw [Go.Maps.atKey_put_other (fun e => he (kL_inj e)), find_ins L (x := rw7 c.key c.val) (fun e => he e.symm)]
    exact hr p z
theorem Mo.del {w : World} {bm : Nat} {L : List It} (h : Mo w bm L) (hR : Rises L) {c : Ch} (hg : c.gone = true) (hp : c.key.size ≤ maxLen) (ty : TypeId) :
    ∃ w', (Builtin.delete_ #[66, 9] ty #[.map (some bm), .string c.key]).run Tryz.prog w = .ok (.tuple #[]) w' ∧ Mo w' bm (app L c) ∧ w.mapTurned w' bm := by
  obtain ⟨D, ho, hr, hs⟩ := h
  obtain ⟨w', hrun, ho', ht⟩ := ho.drop strK Tryz.underlying66 (keyP hp) ty
  have ha : app L c = drop L c.key := by unfold app; rw [hg]; rfl
  rw [ha]
  have hsz : Go.Maps.size (D.del (kL c.key)) ≤ (drop L c.key).length := by
    have h1 := Go.Maps.size_del (ho.tidy strK) (k := kL c.key)
    rw [readsO_has hr] at h1
    have h2 := len_drop hR c.key
    omega
  refine ⟨w', hrun, ⟨_, own_len ho' hsz, fun q z => ?_, hsz⟩, ht⟩
  by_cases he : q = c.key
  · subst he
    rw [Go.Maps.atKey_del_same, find_drop_same]
  · rw [Go.Maps.atKey_del_other (fun e => he (kL_inj e)), find_drop L (fun e => he e.symm)]
    exact hr q z
theorem mo_made (w : World) : Mo (w.alloc (.map #[] 0)) w.heap.size [] := ⟨_, World.ownsMap_made w _ _ _, fun p z => rfl, Nat.le_refl _⟩
theorem came_startO {D : DataW Unit} {L : List It} (h : ReadsO D L) : came L (Go.Maps.has D) = [] := by
  unfold came
  refine List.filter_eq_nil_iff.2 (fun y hy => ?_)
  rw [readsO_has h]
  have : (find L y.path).isSome = true := List.find?_isSome.2 ⟨y, hy, by simp⟩
  rw [this]
  simp
theorem next_rows (w : World) {ops : Array Oper} {rest : List Oper} {o : Oper} {a : Act} {Q : Exit → Act → World → Prop} (hg : o.guard = none) (it : Operand) (hop : o.op = Op.next it false) (b r n : Nat) (D : DataW Unit) (left : Lit → Bool) (cnt : Nat) (L : List It)
    (hit : a.eval it = .pointer (some ⟨r, 0, none⟩)) (h : w.ranges Tryz.prog 9 opR b r n D left cnt) (hD : ReadsO D L)
    (hDone : (∀ z, left z = false) → wpList Tryz.prog ops Q rest (a.put o.dst (.tuple #[.bool false])) w)
    (hMore : ∀ (x : It) (w' : World) (cnt' : Nat), x ∈ L → left (kL x.path) = true → w'.ranges Tryz.prog 9 opR b r n D (less left x.path) cnt' → cnt' < cnt → w.grownBy w' (some r) → w'.heap.size = w.heap.size →
      (Instr.entry (.pointer (some ⟨r, 0, none⟩))).run Tryz.prog w' = .ok (.tuple #[.string x.path, ov (chOf x)]) w' →
      wpList Tryz.prog ops Q rest (a.put o.dst (.tuple #[.bool true, .string x.path, ov (chOf x)])) w') :
    wpList Tryz.prog ops Q (o :: rest) a w := by
  refine wpList_next_ranges w hg it hop 9 strK opR (Value.string) ov
    (fun key kl hk => key_string hk) (fun v y hv => by obtain ⟨c, rfl, _⟩ := opR_inv hv; exact ⟨c, rfl⟩)
    b r n D left cnt hit h (fun _ hl => hDone hl) (fun p c kl y w' cnt' hkey hlk hv hat hrg hlt hgr hsz hen => ?_)
  obtain ⟨rfl, hps⟩ := key_is hkey
  have hv : opR (ov c) = some y := hv
  rw [opR_ov] at hv
  injection hv with hv
  subst hv
  have hat : ∀ zd, D.atKey (kL p) zd = od c := hat
  cases hf : find L p with
  | none =>
    have h1 := hat .nil
    rw [hD p, hf] at h1
    cases h1
  | some x =>
    have h1 := hat .nil
    rw [hD p, hf] at h1
    have h1 := od_inj h1
    subst h1
    obtain ⟨hm, rfl⟩ := find_mem hf
    exact hMore x w' cnt' hm hlk hrg hlt hgr hsz hen
theorem range_rows (w : World) {ops : Array Oper} {rest : List Oper} {o : Oper} {a : Act} {Q : Exit → Act → World → Prop} (hg : o.guard = none) (m : Operand) (hop : o.op = Op.range 66 m) (b : Nat) (L : List It)
    (hm : a.eval m = .map (some b)) (h : Mo w b L)
    (hK : ∀ (D : DataW Unit) (w' : World), ReadsO D L → w'.ranges Tryz.prog 9 opR b w.heap.size L.length D (Go.Maps.has D) (Go.Maps.size D) → w.grownBy w' none → w'.heap.size = w.heap.size + 1 → wpList Tryz.prog ops Q rest (a.put o.dst (.pointer (some ⟨w.heap.size, 0, none⟩))) w') :
    wpList Tryz.prog ops Q (o :: rest) a w := by
  obtain ⟨D, ho, hr, _⟩ := h
  exact wpList_range_own w hg m _ hop 9 105 strK Tryz.underlying66 opR b L.length D hm ho (fun w' h1 h2 h3 => hK D w' hr h1 h2 h3)
def ReadsP (D : DataW Unit) (l : List Ch) : Prop := ∀ p z, D.atKey (kL p) z = match at7 l p with
  | some i => .lit (.int .i64 i)
  | none => z
def Pp (w : World) (pm : Nat) (l : List Ch) : Prop := ∃ D : DataW Unit, w.ownsMap Tryz.prog 9 (plainElem Tryz.prog 3) pm l.length D ∧ ReadsP D l ∧ Go.Maps.size D ≤ l.length
theorem Pp.lt {w : World} {pm : Nat} {l : List Ch} (h : Pp w pm l) : pm < w.heap.size := by
  obtain ⟨D, h, _⟩ := h
  exact h.lt
theorem Pp.kept {w w1 : World} {pm : Nat} {l : List Ch} (h : Pp w pm l) (he : w1.heap[pm]? = w.heap[pm]?) : Pp w1 pm l := by
  obtain ⟨D, h, r⟩ := h
  exact ⟨D, Dk.ownsMap_at h he, r⟩
theorem Pp.nb {w : World} {pm : Nat} {l : List Ch} (h : Pp w pm l) {cs : Array Value} {T : TypeId} {fz : Nat × Nat} : w.heap[pm]? ≠ some (.cells cs T fz) := by
  obtain ⟨D, h, _⟩ := h
  exact map_block h
theorem readsP_has {D : DataW Unit} {l : List Ch} (h : ReadsP D l) (p : ByteArray) : Go.Maps.has D (kL p) = (at7 l p).isSome := by
  cases hf : at7 l p with
  | none =>
    refine (Go.Maps.has_false_of_atKey fun z => ?_).trans rfl
    rw [h p z, hf]
  | some i =>
    refine (Go.Maps.has_true_of_atKey (y := .lit (.int .i64 i)) fun z => ?_).trans rfl
    rw [h p z, hf]
def placeV (l : List Ch) (p : ByteArray) : Value := match at7 l p with
  | some i => .tuple #[.int .i64 i, .bool true]
  | none => .tuple #[.int .i64 0, .bool false]
theorem Pp.look {w : World} {pm : Nat} {l : List Ch} (h : Pp w pm l) {p : ByteArray} (hp : p.size ≤ maxLen) :
    (Instr.lookup 60 (.map (some pm)) (.string p) true).run Tryz.prog w = .ok (placeV l p) w := by
  obtain ⟨D, ho, hr, _⟩ := h
  obtain ⟨u, ps, hrun, hv⟩ := ho.look_ok strK Tryz.underlying60 (zeroN w) (plainElem_int Tryz.underlying3 (by decide)) (keyP hp)
  rw [hrun, readsP_has hr]
  obtain ⟨c, rfl, hc, hwc⟩ := plainElem_int_inv Tryz.underlying3 hv
  have hc := congrArg Prod.fst hc
  simp only [hr p] at hc
  unfold placeV
  cases hf : at7 l p with
  | none =>
    rw [hf] at hc
    cases hc
    rfl
  | some i =>
    rw [hf] at hc
    cases hc
    rfl
theorem Pp.store {w : World} {pm : Nat} {l : List Ch} (h : Pp w pm l) (hO : Once l) {c : Ch} (ha : at7 l c.key = none) (hp : c.key.size ≤ maxLen) (hn : l.length < 1000000000000) :
    ∃ w', (Instr.mapUpdate 60 (.map (some pm)) (.string c.key) (.int .i64 (l.length : Nat))).run Tryz.prog w = .ok () w' ∧ Pp w' pm (l ++ [c]) ∧ w.mapTurned w' pm := by
  obtain ⟨D, ho, hr, hs⟩ := h
  have hw : (Lit.int .i64 (l.length : Nat)).wf = true := by simp [Lit.wf, IntKind.min, IntKind.max, IntKind.signed, IntKind.bits]; omega
  obtain ⟨w', hrun, ho', ht⟩ := ho.store strK Tryz.underlying60 (by unfold maxLen; omega) (keyP hp) (plainElem_int Tryz.underlying3 hw)
  have hsz : Go.Maps.size (D.put (kL c.key) (.lit (.int .i64 (l.length : Nat)))) ≤ (l ++ [c]).length := by
    have h1 := Go.Maps.size_put (ho.tidy strK) (k := kL c.key) (.lit (.int .i64 (l.length : Nat)))
    rw [readsP_has hr, ha] at h1
    rw [h1, List.length_append]
    show Go.Maps.size D + 1 ≤ l.length + 1
    omega
  refine ⟨w', hrun, ⟨_, own_len ho' hsz, fun p z => ?_, hsz⟩, ht⟩
  have hb := at7_bat hO c p
  rw [bat_new ha] at hb
  rw [hb]
  by_cases he : p = c.key
  · subst he
    rw [if_pos ⟨ha, rfl⟩, Go.Maps.atKey_put_same ho.isMap (kL_key _)]
  · rw [if_neg (fun hh => he hh.2), Go.Maps.atKey_put_other (fun e => he (kL_inj e))]
    exact hr p z
theorem Pp.same {w : World} {pm : Nat} {l : List Ch} (h : Pp w pm l) (hO : Once l) {c : Ch} {i : Nat} (ha : at7 l c.key = some i) : Pp w pm (l.set i c) := by
  obtain ⟨D, ho, hr, hs⟩ := h
  refine ⟨D, by rw [List.length_set]; exact ho, fun p z => ?_, by rw [List.length_set]; exact hs⟩
  have hb := at7_bat hO c p
  rw [bat_set hO ha, if_neg (fun hh => by rw [ha] at hh; cases hh.1)] at hb
  rw [hb]
  exact hr p z
theorem pp_made (w : World) : Pp (w.alloc (.map #[] 0)) w.heap.size [] := ⟨_, World.ownsMap_made w _ _ _, fun p z => rfl, Nat.le_refl _⟩
end Go.Proofs.YtdkgkomjbpggeaaGreatDoor.Tb

namespace Go.Proofs.YtdkgkomjbpggeaaGreatDoor.Tb
open Go.RowKit
set_option linter.unusedVariables false
set_option linter.unusedSimpArgs false
set_option linter.unnecessarySimpa false
def Cells3 (x : Nat) (key val : ByteArray) (gone : Bool) (W : World) : Prop := W.cell? ⟨x, 0, none⟩ = some (.string key) ∧ W.cell? ⟨x, 0 + 1, none⟩ = some (.string val) ∧ W.cell? ⟨x, 0 + 1 + 1, none⟩ = some (.bool gone)
set_option maxRecDepth 100000 in
set_option maxHeartbeats 4000000 in
theorem recGone (ops : Array Oper) (hops : ops = (Rg.opsOf Tryz.f47 6)) (id : Nat) (x : Nat) (key val n0 k1 : ByteArray) (gone : Bool) (vp : Value) {u0 u1 u2 u4 u6 u7 u8 u9 u10 u11 u12 u13 u14 u15 u16 u17 u18 u19 u20 u21 u22 u23 u24 u25 u26 u27 u28 u29 u30 u31 u32 u33 u34 u35 u36 u37 : Value} (w : World) (B1 B2 B3 : World → Prop) (B4 : Value → World → Prop)
    (hS : Cells3 x key val gone w) (hA : Calls Tryz.prog 82 #[.int .i64 0] w.drew fun e w' => e = .returned (.string n0) ∧ B1 w') (hAS : ∀ W, B1 W → Cells3 x key val gone W)
    (hB : ∀ W, B1 W → Calls Tryz.prog 70 #[.string key] W fun e w' => e = .returned (.string k1) ∧ B2 w') (hBS : ∀ W, B2 W → Cells3 x key val gone W)
    (hES : ∀ W, B2 W → Cells3 x key val gone (W.alloc (.cells #[(.string n0), (.string k1)] 9)))
    (hE : ∀ W, B2 W → ∀ ty, ∃ v w1, (Builtin.append_ #[52, 52] ty #[vp, .slice (some ⟨W.heap.size, 0, none⟩) 2 2]).run Tryz.prog (W.alloc (.cells #[(.string n0), (.string k1)] 9)) = .ok v w1 ∧ B4 v w1) (hGS : ∀ v W, B4 v W → Cells3 x key val gone W) :
    (Code.region id ops true).wp Tryz.prog (Rg.Only fun a' w' => ∃ (z8 : Nat) (v8 : Value), a' = ⟨#[u0, u1, u2, v8, u4, (.pointer (some ⟨x, 0, none⟩)), u6, u7, u8, u9, u10, u11, u12, u13, u14, u15, u16, u17, vp, (.string n0), (.pointer (some ⟨x, 0, none⟩)), (.string key), (.string k1), (.slice (some ⟨z8, 0, none⟩) 2 2), v8, u25, u26, u27, u28, u29, u30, u31, u32, u33, u34, u35, u36, u37], []⟩ ∧ B4 v8 w') ⟨#[u0, u1, u2, vp, u4, (.pointer (some ⟨x, 0, none⟩)), u6, u7, u8, u9, u10, u11, u12, u13, u14, u15, u16, u17, u18, u19, u20, u21, u22, u23, u24, u25, u26, u27, u28, u29, u30, u31, u32, u33, u34, u35, u36, u37], []⟩ w := by
  subst hops
  have hNS : Region.noSelect (Rg.opsOf Tryz.f47 6) = true := by kernel_rfl
  refine wp_region_held_drew (S := Cells3 x key val gone) (by kernel_rfl) hS (fun hHeld => ?_)
  rw [show (Rg.opsOf Tryz.f47 6).size = 8 by kernel_rfl]
  refine Rg.take (ops := (Rg.opsOf Tryz.f47 6)) 0 (some 18) (vp) hNS (by kernel_rfl) (by kernel_rfl) (by kernel_rfl) (by kernel_rfl) (by kernel_rfl) hHeld (Rg.y_move (x := (Operand.tmp 3)) (Or.inl (by kernel_rfl)) (by kernel_rfl)) ?_
  refine Rg.take (ops := (Rg.opsOf Tryz.f47 6)) 2 (some 20) ((.pointer (some ⟨x, 0, none⟩))) hNS (by kernel_rfl) (by kernel_rfl) (by kernel_rfl) (by kernel_rfl) (by kernel_rfl) hHeld (Rg.y_field (T := 105) (k := 0) (x := (Operand.tmp 5)) (vx := (.pointer (some ⟨x, 0, none⟩))) (by kernel_rfl) (by kernel_rfl) ?_) ?_
  · (intro w hSw; clear hSw; go_simp)
  refine Rg.take (ops := (Rg.opsOf Tryz.f47 6)) 3 (some 21) ((.string key)) hNS (by kernel_rfl) (by kernel_rfl) (by kernel_rfl) (by kernel_rfl) (by kernel_rfl) hHeld (Rg.y_load (T := 9) (x := (Operand.tmp 20)) (vx := (.pointer (some ⟨x, 0, none⟩))) (by kernel_rfl) (by kernel_rfl) ?_) ?_
  · (intro w hSw; obtain ⟨s0, s1, s2⟩ := hSw; go_simp)
  refine Rg.call (ops := (Rg.opsOf Tryz.f47 6)) (fn := Tryz.f82) (xs := #[Operand.const (Value.int IntKind.i64 0)]) (ats := #[3]) 1 (some 19) 82 #[(Value.int IntKind.i64 0)] (by kernel_rfl) (by kernel_rfl) (by kernel_rfl) (by kernel_rfl) (by kernel_rfl) Tryz.func82 (by kernel_rfl) (by kernel_rfl) (by kernel_rfl) ?_
  refine hA.mono ?_
  rintro e w5 ⟨rfl, h5⟩
  refine ⟨_, rfl, hAS _ h5, fun hHeld => ?_⟩
  refine Rg.call (ops := (Rg.opsOf Tryz.f47 6)) (fn := Tryz.f70) (xs := #[Operand.tmp 21]) (ats := #[9]) 4 (some 22) 70 #[(.string key)] (by kernel_rfl) (by kernel_rfl) (by kernel_rfl) (by kernel_rfl) (by kernel_rfl) Tryz.func70 (by kernel_rfl) (by kernel_rfl) (by kernel_rfl) ?_
  refine (hB _ h5).mono ?_
  rintro e w6 ⟨rfl, h6⟩
  refine ⟨_, rfl, hBS _ h6, fun hHeld => ?_⟩
  refine Rg.bld (ops := (Rg.opsOf Tryz.f47 6)) 5 (some 23) (T := 52) (len := 2) (parts := #[(0, Operand.tmp 19), (1, Operand.tmp 22)]) (vs := #[(0, (.string n0)), (1, (.string k1))]) (v := (.slice (some ⟨w6.heap.size, 0, none⟩) 2 2)) (w1 := w6.alloc (.cells #[(.string n0), (.string k1)] 9)) (by kernel_rfl) (by kernel_rfl) (by kernel_rfl) (by kernel_rfl) (by kernel_rfl) (by kernel_rfl) ?_ (hES _ h6) (fun hHeld => ?_)
  · (clear hHeld; go_simp)
  refine Rg.app1 (ops := (Rg.opsOf Tryz.f47 6)) 6 (some 24) (T := 52) (x := (Operand.tmp 18)) (y := (Operand.tmp 23)) (vx := vp) (vy := (.slice (some ⟨w6.heap.size, 0, none⟩) 2 2)) (by kernel_rfl) (by kernel_rfl) (by kernel_rfl) (by kernel_rfl) (by kernel_rfl) (by kernel_rfl) (by kernel_rfl) ?_
  intro ty
  obtain ⟨v8, w8, hr8, h8⟩ := hE _ h6 ty
  refine ⟨v8, w8, hr8, hGS _ _ h8, fun hHeld => ?_⟩
  refine Rg.take (ops := (Rg.opsOf Tryz.f47 6)) 7 (some 3) (v8) hNS (by kernel_rfl) (by kernel_rfl) (by kernel_rfl) (by kernel_rfl) (by kernel_rfl) hHeld (Rg.y_move (x := (Operand.tmp 24)) (Or.inr (by kernel_rfl)) (by kernel_rfl)) ?_
  refine Rg.done (ops := (Rg.opsOf Tryz.f47 6)) (by kernel_rfl) ?_
  exact ⟨w6.heap.size, v8, by kernel_rfl, h8⟩
set_option maxRecDepth 100000 in
set_option maxHeartbeats 4000000 in
theorem recGive (ops : Array Oper) (hops : ops = (Rg.opsOf Tryz.f47 7)) (id : Nat) (x : Nat) (key val n0 k1 v1 : ByteArray) (gone : Bool) (vp : Value) {u0 u1 u2 u4 u6 u7 u8 u9 u10 u11 u12 u13 u14 u15 u16 u17 u18 u19 u20 u21 u22 u23 u24 u25 u26 u27 u28 u29 u30 u31 u32 u33 u34 u35 u36 u37 : Value} (w : World) (B1 B2 B3 : World → Prop) (B4 : Value → World → Prop)
    (hS : Cells3 x key val gone w) (hA : Calls Tryz.prog 82 #[.int .i64 1] w.drew fun e w' => e = .returned (.string n0) ∧ B1 w') (hAS : ∀ W, B1 W → Cells3 x key val gone W)
    (hB : ∀ W, B1 W → Calls Tryz.prog 70 #[.string key] W fun e w' => e = .returned (.string k1) ∧ B2 w') (hBS : ∀ W, B2 W → Cells3 x key val gone W)
    (hC : ∀ W, B2 W → Calls Tryz.prog 70 #[.string val] W fun e w' => e = .returned (.string v1) ∧ B3 w') (hCS : ∀ W, B3 W → Cells3 x key val gone W)
    (hES : ∀ W, B3 W → Cells3 x key val gone (W.alloc (.cells #[(.string n0), (.string k1), (.string v1)] 9)))
    (hE : ∀ W, B3 W → ∀ ty, ∃ v w1, (Builtin.append_ #[52, 52] ty #[vp, .slice (some ⟨W.heap.size, 0, none⟩) 3 3]).run Tryz.prog (W.alloc (.cells #[(.string n0), (.string k1), (.string v1)] 9)) = .ok v w1 ∧ B4 v w1) (hGS : ∀ v W, B4 v W → Cells3 x key val gone W) :
    (Code.region id ops true).wp Tryz.prog (Rg.Only fun a' w' => ∃ (z8 : Nat) (v8 : Value), a' = ⟨#[u0, u1, u2, v8, u4, (.pointer (some ⟨x, 0, none⟩)), u6, u7, u8, u9, u10, u11, u12, u13, u14, u15, u16, u17, u18, u19, u20, u21, u22, u23, u24, vp, (.string n0), (.pointer (some ⟨x, 0, none⟩)), (.string key), (.string k1), (.pointer (some ⟨x, 0 + 1, none⟩)), (.string val), (.string v1), (.slice (some ⟨z8, 0, none⟩) 3 3), v8, u35, u36, u37], []⟩ ∧ B4 v8 w') ⟨#[u0, u1, u2, vp, u4, (.pointer (some ⟨x, 0, none⟩)), u6, u7, u8, u9, u10, u11, u12, u13, u14, u15, u16, u17, u18, u19, u20, u21, u22, u23, u24, u25, u26, u27, u28, u29, u30, u31, u32, u33, u34, u35, u36, u37], []⟩ w := by
  subst hops
  have hNS : Region.noSelect (Rg.opsOf Tryz.f47 7) = true := by kernel_rfl
  refine wp_region_held_drew (S := Cells3 x key val gone) (by kernel_rfl) hS (fun hHeld => ?_)
  rw [show (Rg.opsOf Tryz.f47 7).size = 11 by kernel_rfl]
  refine Rg.take (ops := (Rg.opsOf Tryz.f47 7)) 0 (some 25) (vp) hNS (by kernel_rfl) (by kernel_rfl) (by kernel_rfl) (by kernel_rfl) (by kernel_rfl) hHeld (Rg.y_move (x := (Operand.tmp 3)) (Or.inl (by kernel_rfl)) (by kernel_rfl)) ?_
  refine Rg.take (ops := (Rg.opsOf Tryz.f47 7)) 2 (some 27) ((.pointer (some ⟨x, 0, none⟩))) hNS (by kernel_rfl) (by kernel_rfl) (by kernel_rfl) (by kernel_rfl) (by kernel_rfl) hHeld (Rg.y_field (T := 105) (k := 0) (x := (Operand.tmp 5)) (vx := (.pointer (some ⟨x, 0, none⟩))) (by kernel_rfl) (by kernel_rfl) ?_) ?_
  · (intro w hSw; clear hSw; go_simp)
  refine Rg.take (ops := (Rg.opsOf Tryz.f47 7)) 3 (some 28) ((.string key)) hNS (by kernel_rfl) (by kernel_rfl) (by kernel_rfl) (by kernel_rfl) (by kernel_rfl) hHeld (Rg.y_load (T := 9) (x := (Operand.tmp 27)) (vx := (.pointer (some ⟨x, 0, none⟩))) (by kernel_rfl) (by kernel_rfl) ?_) ?_
  · (intro w hSw; obtain ⟨s0, s1, s2⟩ := hSw; go_simp)
  refine Rg.take (ops := (Rg.opsOf Tryz.f47 7)) 5 (some 30) ((.pointer (some ⟨x, 0 + 1, none⟩))) hNS (by kernel_rfl) (by kernel_rfl) (by kernel_rfl) (by kernel_rfl) (by kernel_rfl) hHeld (Rg.y_field (T := 105) (k := 1) (x := (Operand.tmp 5)) (vx := (.pointer (some ⟨x, 0, none⟩))) (by kernel_rfl) (by kernel_rfl) ?_) ?_
  · (intro w hSw; clear hSw; go_simp)
  refine Rg.take (ops := (Rg.opsOf Tryz.f47 7)) 6 (some 31) ((.string val)) hNS (by kernel_rfl) (by kernel_rfl) (by kernel_rfl) (by kernel_rfl) (by kernel_rfl) hHeld (Rg.y_load (T := 9) (x := (Operand.tmp 30)) (vx := (.pointer (some ⟨x, 0 + 1, none⟩))) (by kernel_rfl) (by kernel_rfl) ?_) ?_
  · (intro w hSw; obtain ⟨s0, s1, s2⟩ := hSw; go_simp)
  refine Rg.call (ops := (Rg.opsOf Tryz.f47 7)) (fn := Tryz.f82) (xs := #[Operand.const (Value.int IntKind.i64 1)]) (ats := #[3]) 1 (some 26) 82 #[(Value.int IntKind.i64 1)] (by kernel_rfl) (by kernel_rfl) (by kernel_rfl) (by kernel_rfl) (by kernel_rfl) Tryz.func82 (by kernel_rfl) (by kernel_rfl) (by kernel_rfl) ?_
  refine hA.mono ?_
  rintro e w5 ⟨rfl, h5⟩
  refine ⟨_, rfl, hAS _ h5, fun hHeld => ?_⟩
  refine Rg.call (ops := (Rg.opsOf Tryz.f47 7)) (fn := Tryz.f70) (xs := #[Operand.tmp 28]) (ats := #[9]) 4 (some 29) 70 #[(.string key)] (by kernel_rfl) (by kernel_rfl) (by kernel_rfl) (by kernel_rfl) (by kernel_rfl) Tryz.func70 (by kernel_rfl) (by kernel_rfl) (by kernel_rfl) ?_
  refine (hB _ h5).mono ?_
  rintro e w6 ⟨rfl, h6⟩
  refine ⟨_, rfl, hBS _ h6, fun hHeld => ?_⟩
  refine Rg.call (ops := (Rg.opsOf Tryz.f47 7)) (fn := Tryz.f70) (xs := #[Operand.tmp 31]) (ats := #[9]) 7 (some 32) 70 #[(.string val)] (by kernel_rfl) (by kernel_rfl) (by kernel_rfl) (by kernel_rfl) (by kernel_rfl) Tryz.func70 (by kernel_rfl) (by kernel_rfl) (by kernel_rfl) ?_
  refine (hC _ h6).mono ?_
  rintro e w7 ⟨rfl, h7⟩
  refine ⟨_, rfl, hCS _ h7, fun hHeld => ?_⟩
  refine Rg.bld (ops := (Rg.opsOf Tryz.f47 7)) 8 (some 33) (T := 52) (len := 3) (parts := #[(0, Operand.tmp 26), (1, Operand.tmp 29), (2, Operand.tmp 32)]) (vs := #[(0, (.string n0)), (1, (.string k1)), (2, (.string v1))]) (v := (.slice (some ⟨w7.heap.size, 0, none⟩) 3 3)) (w1 := w7.alloc (.cells #[(.string n0), (.string k1), (.string v1)] 9)) (by kernel_rfl) (by kernel_rfl) (by kernel_rfl) (by kernel_rfl) (by kernel_rfl) (by kernel_rfl) ?_ (hES _ h7) (fun hHeld => ?_)
  · (clear hHeld; go_simp)
  refine Rg.app1 (ops := (Rg.opsOf Tryz.f47 7)) 9 (some 34) (T := 52) (x := (Operand.tmp 25)) (y := (Operand.tmp 33)) (vx := vp) (vy := (.slice (some ⟨w7.heap.size, 0, none⟩) 3 3)) (by kernel_rfl) (by kernel_rfl) (by kernel_rfl) (by kernel_rfl) (by kernel_rfl) (by kernel_rfl) (by kernel_rfl) ?_
  intro ty
  obtain ⟨v8, w8, hr8, h8⟩ := hE _ h7 ty
  refine ⟨v8, w8, hr8, hGS _ _ h8, fun hHeld => ?_⟩
  refine Rg.take (ops := (Rg.opsOf Tryz.f47 7)) 10 (some 3) (v8) hNS (by kernel_rfl) (by kernel_rfl) (by kernel_rfl) (by kernel_rfl) (by kernel_rfl) hHeld (Rg.y_move (x := (Operand.tmp 34)) (Or.inr (by kernel_rfl)) (by kernel_rfl)) ?_
  refine Rg.done (ops := (Rg.opsOf Tryz.f47 7)) (by kernel_rfl) ?_
  exact ⟨w7.heap.size, v8, by kernel_rfl, h8⟩
end Go.Proofs.YtdkgkomjbpggeaaGreatDoor.Tb

namespace Go.Proofs.YtdkgkomjbpggeaaGreatDoor.Tb
open Go.RowKit Tx Pm Dk Wm Wr
set_option linter.unusedVariables false
set_option linter.unusedSimpArgs false
set_option linter.unnecessarySimpa false
set_option maxRecDepth 100000 in
theorem bNumber_any (n : Nat) (w : World) (h : n ≤ 9223372036854775807) :
    Calls Tryz.prog 82 #[.int .i64 n] w fun e w' => e = .returned (.string (vs n)) ∧ Below w.heap.size w w' := by
  have c := fun W => putUint_any (n : Int) W (by omega) (by omega)
  have e1 : us (n : Int) = vs n := by unfold us; rw [if_neg (by omega), Int.toNat_natCast]
  have e2 : ue (n : Int) = 0 := by unfold ue; rw [if_neg (by omega)]
  rw [e1, e2] at c
  clear e1 e2
  go_enter Tryz.func82, Tryz.ntmps82
  go_wp2_with (go_at_call 72; refine (c _).mono ?_; rintro e w1 ⟨rfl, hb⟩)
  go_ret
  exact ⟨rfl, hb⟩
theorem info9r : (Tryz.prog.info? 9).map (fun i => (i.zero, i.size, i.bytes)) = some (some (.string ⟨#[]⟩), 1, 16) := by kernel_rfl
def recK (l : List Ch) (k : Nat) : List ByteArray := vs l.length :: (l.take k).flatMap parts
theorem recK_all (l : List Ch) (k : Nat) (h : l.length ≤ k) : recK l k = recP l := by unfold recK recP; rw [List.take_of_length_le h]
theorem recK_succ {l : List Ch} {k : Nat} {x : Ch} (h : l[k]? = some x) : recK l (k + 1) = recK l k ++ parts x := by
  have hk := (List.getElem?_eq_some_iff.1 h).1
  unfold recK
  rw [List.take_succ_eq_append_getElem hk, List.flatMap_append, List.cons_append]
  rw [List.getElem?_eq_getElem hk] at h
  injection h with h
  rw [h]
  simp
theorem parts_le (x : Ch) : (parts x).length ≤ 3 := by unfold parts; split <;> simp
theorem recK_len (l : List Ch) : ∀ k, (recK l k).length ≤ 3 * k + 1 := by
  intro k
  unfold recK
  rw [List.length_cons]
  have : ∀ m : List Ch, (m.flatMap parts).length ≤ 3 * m.length := fun m => by
    induction m with
    | nil => exact Nat.le_refl _
    | cons x m ih => rw [List.flatMap_cons, List.length_append, List.length_cons]; have := parts_le x; omega
  have h1 := this (l.take k)
  have h2 : (l.take k).length ≤ k := by rw [List.length_take]; omega
  omega
theorem app_texts {W0 W : World} {B T : Nat} {v : Value} {l news : List ByteArray} (hO : W.ownsRow B 9 1 v T (l.map sv)) (hT : T + news.length ≤ 1000000000000) (hB : B ≤ W.heap.size) (h0 : B ≤ W0.heap.size) (hb : Below B W0 W) :
    ∀ ty, ∃ v' w', (Builtin.append_ #[52, 52] ty #[v, .slice (some ⟨W.heap.size, 0, none⟩) news.length news.length]).run Tryz.prog (W.alloc (.cells (news.map sv).toArray 9)) = .ok v' w' ∧
      w'.ownsRow B 9 1 v' (T + news.length) ((l ++ news).map sv) ∧ Below B W0 w' ∧ (W.alloc (.cells (news.map sv).toArray 9)).grownBy w' v.ownBlock := by
  intro ty
  obtain ⟨i0, hi, hz0, hz1, hz2⟩ := info_parts info9r
  have hO2 := hO.alloc (.cells (news.map sv).toArray 9)
  obtain ⟨v', w', hr, h1, h2, _⟩ := run_append_own (P := Tryz.prog) (W.alloc (.cells (news.map sv).toArray 9)) B 52 ty 9 i0 (.string ⟨#[]⟩) 1 16 Tryz.underlying52 hi hz0 hz1 hz2 rfl (by decide) v T (l.map sv) hO2
    ⟨W.heap.size, 0, none⟩ news.length news.length (news.map sv) (by simp) (fun j u hu => by
      rw [WideShapes.add_plain, Nat.zero_add, World.cell?_alloc_at _ _ _ _ rfl]
      simpa using hu) (sv_one news) (by unfold maxLen; omega) (by omega) (by simp; omega)
  refine ⟨v', w', hr, by rw [List.map_append]; exact h1, (hb.alloc hB _).grown h2 (by simp; omega) (fun k hk => (hO.lt k hk).1), h2⟩
theorem cells3_new (W : World) (x : Ch) (T : TypeId) : Cells3 W.heap.size x.key x.val x.gone (W.alloc (.cells #[.string x.key, .string x.val, .bool x.gone] T)) := by
  refine ⟨?_, ?_, ?_⟩ <;> · rw [World.cell?_alloc_at _ _ _ _ rfl]; rfl
theorem cells3_below {W W' : World} {x : Nat} {key val : ByteArray} {gone : Bool} {B : Nat} (h : Cells3 x key val gone W) (hb : Below B W W') (hx : x < B) : Cells3 x key val gone W' :=
  ⟨(hb.cell (p := ⟨x, _, none⟩) hx).trans h.1, (hb.cell (p := ⟨x, _, none⟩) hx).trans h.2.1, (hb.cell (p := ⟨x, _, none⟩) hx).trans h.2.2⟩
theorem cells3_grown {W W' : World} {x : Nat} {key val : ByteArray} {gone : Bool} {row : Option Nat} (h : Cells3 x key val gone W) (hg : W.grownBy W' row) (hx : some x ≠ row) : Cells3 x key val gone W' :=
  ⟨hg.cell h.1 hx, hg.cell h.2.1 hx, hg.cell h.2.2 hx⟩
theorem cells3_alloc {W : World} {x : Nat} {key val : ByteArray} {gone : Bool} (h : Cells3 x key val gone W) (hx : x < W.heap.size) (o : Obj) : Cells3 x key val gone (W.alloc o) := cells3_below h ((Below.refl W.heap.size W).alloc (Nat.le_refl _) o) hx
theorem row_below {w w1 : World} {B n size : Nat} {e : TypeId} {v : Value} {xs : List Value} (h : w.ownsRow B e size v n xs) (hb : Below w.heap.size w w1) : w1.ownsRow B e size v n xs := own_kept h (fun g hg => hb.block g (h.lt g hg).2)
theorem lit_texts (W : World) (B : Nat) (x : ByteArray) (hB : B ≤ W.heap.size) : (W.alloc (.cells #[.string x] 9)).ownsRow B 9 1 (.slice (some ⟨W.heap.size, 0, none⟩) 1 1) 1 ([x].map sv) :=
  ⟨rfl, .inr ⟨W.heap.size, 1, #[.string x], rfl, hB, heap_alloc_new W _, Nat.le_refl _, by unfold maxLen; omega, rfl, rfl⟩⟩
set_option maxRecDepth 100000 in
set_option maxHeartbeats 4000000 in
theorem record_any (a : Option Addr) (n c : Nat) (l : List Ch) (w : World) (h : Opl w a n l) (hw : wt l ≤ 100000000000) (hc : n ≤ c) :
    Calls Tryz.prog 47 #[.slice a n c] w fun e w' => e = .returned (.string (rec7 l)) ∧ Below w.heap.size w w' := by
  have hln := h.1
  have hwl := wt_len l
  have HO := Lib.hid (fun W (hW : Below w.heap.size w W) => h.below hW)
  have HL := Lib.hid hln
  have HW := Lib.hid hw
  have hn : n ≤ 2500000000 := by omega
  have cnum := fun W => bNumber_any n W (by omega)
  clear h hln hwl hw
  go_enter Tryz.func47, Tryz.ntmps47
  go_wp2_with (go_at_call 82; refine (cnum _).mono ?_; rintro e w1 ⟨rfl, hb1⟩)
  go_loopw [3, 12] (fun v i wr => ∃ k T : Nat, k ≤ n ∧ i = .int .i64 k ∧ Hid ((recK l k).length = T) ∧ T ≤ 10000000000 ∧ wr.ownsRow w.heap.size 9 1 v T ((recK l k).map sv) ∧ Below w.heap.size w wr) (fun _ i _ => n - (intOf i).toNat)
  case atStart =>
    have hlen : vs n = vs l.length := by rw [HL.out]
    exact ⟨0, 1, Nat.zero_le _, rfl, rfl, by omega, by rw [hlen]; exact lit_texts _ _ _ hb1.size, hb1.alloc hb1.size _⟩
  case round =>
    obtain ⟨k, T, hk, rfl, hT, hTm, hown, hB⟩ := hrel
    by_cases hlt : k < n
    · obtain ⟨x, hx⟩ : ∃ x, l[k]? = some x := ⟨_, List.getElem?_eq_getElem (by rw [HL.out]; exact hlt)⟩
      obtain ⟨g, off, rfl, hg, g0, g1, g2⟩ := (HO.out _ hB).nth hx
      have hkz : (k : Int) < (n : Int) := by omega
      have hsx := wt_mem (List.mem_of_getElem? hx)
      have hwx := HW.out
      have hks : x.key.size ≤ 100000000000 := by omega
      have hvs : x.val.size ≤ 100000000000 := by omega
      have hrk := recK_succ hx
      have hlk := recK_len l (k + 1)
      obtain ⟨key, val, gone⟩ := x
      simp only at g0 g1 g2 hks hvs
      have HR := Lib.hid hrk
      have HLK := Lib.hid hlk
      clear hx hsx hwx hrk hlk
      have hW2 : Below wr.heap.size wr (wr.alloc (.cells #[.string key, .string val, .bool gone] 105)) := (Below.refl _ wr).alloc (Nat.le_refl _) _
      have hB2 := hB.alloc hB.size (.cells #[.string key, .string val, .bool gone] 105)
      have hO2 := hown.alloc (.cells #[.string key, .string val, .bool gone] 105)
      have hlt2 : wr.heap.size < (wr.alloc (.cells #[.string key, .string val, .bool gone] 105)).heap.size := by simp
      cases gone
      · have hC3 : Cells3 wr.heap.size key val false (wr.alloc (.cells #[.string key, .string val, .bool false] 105)) := cells3_new wr ⟨key, val, false⟩ _
        have hp : parts ⟨key, val, false⟩ = [vs 1, ts key, ts val] := rfl
        have HP := Lib.hid hp
        clear hp
        go_wp2_with fail
        generalize wr.alloc (.cells #[.string key, .string val, .bool false] 105) = W2 at hW2 hB2 hO2 hC3 hlt2 ⊢
        have hES : ∀ W, Below W2.heap.size W2 W → Cells3 wr.heap.size key val false (W.alloc (.cells ([vs 1, ts key, ts val].map sv).toArray 9)) := fun W hW => cells3_alloc (cells3_below hC3 hW hlt2) (Nat.lt_of_lt_of_le hlt2 hW.size) _
        have hE : ∀ W, Below W2.heap.size W2 W → ∀ ty, ∃ v w1, (Builtin.append_ #[52, 52] ty #[u3, .slice (some ⟨W.heap.size, 0, none⟩) 3 3]).run Tryz.prog (W.alloc (.cells ([vs 1, ts key, ts val].map sv).toArray 9)) = .ok v w1 ∧
            (w1.ownsRow w.heap.size 9 1 v (T + 3) ((recK l k ++ [vs 1, ts key, ts val]).map sv) ∧ Below w.heap.size w w1 ∧ Cells3 wr.heap.size key val false w1) := fun W hW ty => by
          obtain ⟨v', w', hr, h1, h2, h3⟩ := app_texts (news := [vs 1, ts key, ts val]) (row_below hO2 hW) (by show T + 3 ≤ _; omega) (Tx.below_call hB2 hW).size (Nat.le_refl _) (Tx.below_call hB2 hW) ty
          exact ⟨v', w', hr, h1, h2, cells3_grown (hES W hW) h3 (fun e => by have := (hown.lt _ e.symm).2; omega)⟩
        refine Rg.wp_only ?_ (recGive _ (by kernel_rfl) _ wr.heap.size key val (vs 1) (ts key) (ts val) false u3 _ (fun W => Below W2.heap.size W2 W) (fun W => Below W2.heap.size W2 W) (fun W => Below W2.heap.size W2 W) _ hC3
          ((bNumber_any 1 _ (by omega)).mono fun e w' hh => ⟨hh.1, Tx.below_call (Below.refl _ W2).drew hh.2⟩) (fun W hW => cells3_below hC3 hW hlt2)
          (fun W hW => (putText_any key W (by omega)).mono fun e w' hh => ⟨hh.1, Tx.below_call hW hh.2⟩) (fun W hW => cells3_below hC3 hW hlt2) (fun W hW => (putText_any val W (by omega)).mono fun e w' hh => ⟨hh.1, Tx.below_call hW hh.2⟩) (fun W hW => cells3_below hC3 hW hlt2) hES hE (fun v W h => h.2.2))
        rintro _ w8 ⟨z8, v8, rfl, hO8, hB8, _⟩
        have hO9 : w8.ownsRow w.heap.size 9 1 v8 (T + 3) ((recK l (k + 1)).map sv) := by rw [HR.out, HP.out]; exact hO8
        have hlen : (recK l (k + 1)).length = T + 3 := by rw [HR.out, HP.out, List.length_append, hT.out]; rfl
        have hTb : T + 3 ≤ 10000000000 := by have := HLK.out; omega
        clear hE hES hO8 hC3 hO2 hB2 hown hB hW2
        go_wp2_with fail
        go_roundw
        case rel => exact ⟨k + 1, T + 3, by omega, by go_num, hlen, hTb, hO9, hB8⟩
        case measure => simp [intOf]; omega
      · have hC3 : Cells3 wr.heap.size key val true (wr.alloc (.cells #[.string key, .string val, .bool true] 105)) := cells3_new wr ⟨key, val, true⟩ _
        have hp : parts ⟨key, val, true⟩ = [vs 0, ts key] := rfl
        have HP := Lib.hid hp
        clear hp
        go_wp2_with fail
        generalize wr.alloc (.cells #[.string key, .string val, .bool true] 105) = W2 at hW2 hB2 hO2 hC3 hlt2 ⊢
        have hES : ∀ W, Below W2.heap.size W2 W → Cells3 wr.heap.size key val true (W.alloc (.cells ([vs 0, ts key].map sv).toArray 9)) := fun W hW => cells3_alloc (cells3_below hC3 hW hlt2) (Nat.lt_of_lt_of_le hlt2 hW.size) _
        have hE : ∀ W, Below W2.heap.size W2 W → ∀ ty, ∃ v w1, (Builtin.append_ #[52, 52] ty #[u3, .slice (some ⟨W.heap.size, 0, none⟩) 2 2]).run Tryz.prog (W.alloc (.cells ([vs 0, ts key].map sv).toArray 9)) = .ok v w1 ∧
            (w1.ownsRow w.heap.size 9 1 v (T + 2) ((recK l k ++ [vs 0, ts key]).map sv) ∧ Below w.heap.size w w1 ∧ Cells3 wr.heap.size key val true w1) := fun W hW ty => by
          obtain ⟨v', w', hr, h1, h2, h3⟩ := app_texts (news := [vs 0, ts key]) (row_below hO2 hW) (by show T + 2 ≤ _; omega) (Tx.below_call hB2 hW).size (Nat.le_refl _) (Tx.below_call hB2 hW) ty
          exact ⟨v', w', hr, h1, h2, cells3_grown (hES W hW) h3 (fun e => by have := (hown.lt _ e.symm).2; omega)⟩
        refine Rg.wp_only ?_ (recGone _ (by kernel_rfl) _ wr.heap.size key val (vs 0) (ts key) true u3 _ (fun W => Below W2.heap.size W2 W) (fun W => Below W2.heap.size W2 W) (fun W => Below W2.heap.size W2 W) _ hC3
          ((bNumber_any 0 _ (by omega)).mono fun e w' hh => ⟨hh.1, Tx.below_call (Below.refl _ W2).drew hh.2⟩) (fun W hW => cells3_below hC3 hW hlt2)
          (fun W hW => (putText_any key W (by omega)).mono fun e w' hh => ⟨hh.1, Tx.below_call hW hh.2⟩) (fun W hW => cells3_below hC3 hW hlt2) hES hE (fun v W h => h.2.2))
        rintro _ w8 ⟨z8, v8, rfl, hO8, hB8, _⟩
        have hO9 : w8.ownsRow w.heap.size 9 1 v8 (T + 2) ((recK l (k + 1)).map sv) := by rw [HR.out, HP.out]; exact hO8
        have hlen : (recK l (k + 1)).length = T + 2 := by rw [HR.out, HP.out, List.length_append, hT.out]; rfl
        have hTb : T + 2 ≤ 10000000000 := by have := HLK.out; omega
        clear hE hES hO8 hC3 hO2 hB2 hown hB hW2
        go_wp2_with fail
        go_roundw
        case rel => exact ⟨k + 1, T + 2, by omega, by go_num, hlen, hTb, hO9, hB8⟩
        case measure => simp [intOf]; omega
    · obtain rfl : k = n := by omega
      have hall := recK_all l k (by rw [HL.out]; exact Nat.le_refl _)
      have hO2 : Texts wr w.heap.size u3 (recP l) := by
        unfold Texts
        rw [← hall, hT.out]
        exact hown
      obtain ⟨a2, c2, hv, hst, hc2, _⟩ := hO2.form
      have hlenT : (recP l).length = T := by rw [← hall]; exact hT.out
      rw [hlenT] at hv hst hc2
      obtain ⟨_, hne⟩ := hst
      obtain ⟨b2, off2, rfl, hb2, hcc⟩ := hne.resolve_left (by rw [← hT.out]; unfold recK; simp)
      have hsz : (cat (recP l)).size ≤ 140737488355328 := by
        have h1 := rec7_le (l := l) (by have := HW.out; omega)
        have h2 := HW.out
        unfold rec7 at h1
        omega
      have cj := join_any b2 off2 c2 (recP l) wr (fun j x hj => hcc j x hj) hb2 (by rw [hlenT]; omega) (by rw [hlenT]; exact hc2) hsz
      rw [hlenT] at cj
      have hr7 : cat (recP l) = rec7 l := rfl
      rw [hr7] at cj
      clear hall hO2 hcc hsz hr7 hown hT
      subst hv
      go_wp2_with (go_at_call 69; refine cj.mono ?_; rintro e w2 ⟨rfl, hb3⟩)
      go_ret
      exact ⟨rfl, Tx.below_call hB hb3⟩
end Go.Proofs.YtdkgkomjbpggeaaGreatDoor.Tb
