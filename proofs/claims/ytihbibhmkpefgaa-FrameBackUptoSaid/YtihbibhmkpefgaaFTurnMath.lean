/- A turned bit behind a frame's length is found: plain mathematics. -/
import Derived.Test.YtihbibhmkpefgaaFImpl
namespace Go.Proofs.Ytihbibhmkpefgaa.Fr
open Go.RowKit Wm Wr Fm
set_option linter.unusedVariables false

theorem trn_size (s : ByteArray) (B : Nat) (h : B / 8 < s.size) : (trn s B).size = s.size := by
  rw [← len_l, trn_list s B h, List.length_set, len_l]
theorem flip_flip (c i : Nat) (hc : c < 256) (hi : i < 8) : flip (flip c i) i = c := (flip_all c hc i hi).2.2.2.2
theorem flip_lt (c i : Nat) (hc : c < 256) (hi : i < 8) : flip c i < 256 := (flip_all c hc i hi).2.1
theorem flip_ne (c i : Nat) (hc : c < 256) (hi : i < 8) : flip c i ≠ c := by
  intro h
  have := (flip_all c hc i hi).2.2.2.1
  rw [flip] at h
  rw [h] at this
  exact this rfl
theorem ofNat_toNat (n : Nat) (h : n < 256) : (UInt8.ofNat n).toNat = n := by simp; omega
/-- Turned twice. -/
theorem trn_trn (s : ByteArray) (B : Nat) (h : B / 8 < s.size) : trn (trn s B) B = s := by
  have hl : B / 8 < s.data.toList.length := by rw [len_l]; exact h
  apply ByteArray.ext
  apply Array.toList_inj.1
  rw [trn_list _ B (by rw [trn_size s B h]; exact h), trn_list s B h, List.set_set]
  have e : (s.data.toList.set (B / 8) (UInt8.ofNat (flip (s.data.toList.getD (B / 8) 0).toNat (B % 8)))).getD (B / 8) 0 = UInt8.ofNat (flip (s.data.toList.getD (B / 8) 0).toNat (B % 8)) := by
    rw [List.getD_eq_getElem?_getD, List.getElem?_set_self hl]
    rfl
  rw [e, ofNat_toNat _ (flip_lt _ _ (getD_lt _ _) (by omega)), flip_flip _ _ (getD_lt _ _) (by omega)]
  have e2 : UInt8.ofNat (s.data.toList.getD (B / 8) 0).toNat = s.data.toList[B / 8] := by
    rw [List.getD_eq_getElem?_getD, List.getElem?_eq_getElem hl]
    simp
  rw [e2]
  exact List.set_getElem_self hl
theorem trn_ne (s : ByteArray) (B : Nat) (h : B / 8 < s.size) : trn s B ≠ s := by
  intro hh
  have hl : B / 8 < s.data.toList.length := by rw [len_l]; exact h
  have e := trn_list s B h
  rw [hh] at e
  have e2 := congrArg (fun l => (l.getD (B / 8) 0).toNat) e
  rw [List.getD_eq_getElem?_getD (l := s.data.toList.set _ _), List.getElem?_set_self hl] at e2
  simp only [Option.getD_some] at e2
  rw [ofNat_toNat _ (flip_lt _ _ (getD_lt _ _) (by omega))] at e2
  exact flip_ne _ _ (getD_lt _ _) (by omega) e2.symm

/-- A byte with a bit turned makes another checksum. -/
theorem fsum_set (l : List UInt8) (j i : Nat) (hj : j < l.length) (hi : i < 8) : fsum (l.set j (UInt8.ofNat (flip (l.getD j 0).toNat i))) ≠ fsum l := by
  have hc := getD_lt l j
  have hx := flip_all (l.getD j 0).toNat hc i hi
  have e : l = l.take j ++ (l.getD j 0 :: l.drop (j + 1)) := by
    rw [List.getD_eq_getElem?_getD, List.getElem?_eq_getElem hj, Option.getD_some, ← List.drop_eq_getElem_cons hj, List.take_append_drop]
  have e2 : l.set j (UInt8.ofNat (flip (l.getD j 0).toNat i)) = l.take j ++ (UInt8.ofNat (flip (l.getD j 0).toNat i) :: l.drop (j + 1)) := by
    rw [List.set_eq_take_append_cons_drop, if_pos hj]
  have s1 : csum 4294967295 l = csum (cbits 8 (csum 4294967295 (l.take j)) (l.getD j 0).toNat) (l.drop (j + 1)) := by
    conv => lhs; rw [e]
    rw [csum_append]
    rfl
  have s2 : csum 4294967295 (l.set j (UInt8.ofNat (flip (l.getD j 0).toNat i))) = csum (cbits 8 (csum 4294967295 (l.take j)) (flip (l.getD j 0).toNat i)) (l.drop (j + 1)) := by
    rw [e2, csum_append]
    have : ∀ c (b : UInt8) (m : List UInt8), csum c (b :: m) = csum (cbits 8 c b.toNat) m := fun _ _ _ => rfl
    rw [this, ofNat_toNat _ (flip_lt _ _ hc hi)]
  have h0 := csum_lt (l.take j) (c := 4294967295) (by decide)
  have hne : cbits 8 (csum 4294967295 (l.take j)) (flip (l.getD j 0).toNat i) ≠ cbits 8 (csum 4294967295 (l.take j)) (l.getD j 0).toNat :=
    cbits_ne 8 i _ _ h0 hi (fun k hk hne => hx.2.2.1 k hk hne) hx.2.2.2.1
  intro h
  have b1 := csum_lt l (c := 4294967295) (by decide)
  have b2 := csum_lt (l.set j (UInt8.ofNat (flip (l.getD j 0).toNat i))) (c := 4294967295) (by decide)
  have h' : csum 4294967295 (l.set j (UInt8.ofNat (flip (l.getD j 0).toNat i))) = csum 4294967295 l := by unfold fsum at h; omega
  rw [s1, s2] at h'
  exact hne (csum_inj _ (cbits_lt 8 _ h0) (cbits_lt 8 _ h0) h')

/-- A frame is cut out of what stands at the front. -/
theorem rdT_front (t : ByteArray) (m : List UInt8) (h : t.size ≤ 9223372036854775807) : rdT ⟨(vb t.size ++ (t.data.toList ++ m)).toArray⟩ = (t, (vb t.size).length + t.size, 0) := by
  have e : rdU (⟨(vb t.size ++ (t.data.toList ++ m)).toArray⟩ : ByteArray).data.toList = (t.size, (vb t.size).length, 0) := by
    show rdU (vb t.size ++ (t.data.toList ++ m)) = _
    rw [rdU, rd_vb t.size _ (by omega), if_neg]
    rintro ⟨_, h2⟩
    simp only at h2
    omega
  have hlen : (⟨(vb t.size ++ (t.data.toList ++ m)).toArray⟩ : ByteArray).size = (vb t.size).length + (t.size + m.length) := by
    rw [ByteArray.size, List.size_toArray, List.length_append, List.length_append, len_l]
  rw [rdT, e, if_neg (fun h => h rfl), if_neg (by rw [hlen]; show ¬ _ < (vb t.size).length + t.size; omega)]
  congr 1
  apply ByteArray.ext
  rw [ByteArray.data_extract]
  apply Array.toList_inj.1
  rw [← len_l t]
  simp
theorem fr_front (t : ByteArray) (m r : List UInt8) (h : t.size ≤ 9223372036854775807) (hm : m.length = 4) :
    fr ⟨(vb t.size ++ (t.data.toList ++ (m ++ r))).toArray⟩ = if m = le4 (fsum t.data.toList) then (t, (vb t.size).length + t.size + 4, 0) else (⟨#[]⟩, 0, 6) := by
  have e := rdT_front t (m ++ r) h
  have hlen : (⟨(vb t.size ++ (t.data.toList ++ (m ++ r))).toArray⟩ : ByteArray).size = (vb t.size).length + (t.size + (4 + r.length)) := by
    rw [ByteArray.size, List.size_toArray, List.length_append, List.length_append, List.length_append, len_l, hm]
  have hx : (⟨(vb t.size ++ (t.data.toList ++ (m ++ r))).toArray⟩ : ByteArray).extract 0 ((vb t.size).length + t.size + 4) = ⟨(vb t.size ++ (t.data.toList ++ m)).toArray⟩ := by
    apply ByteArray.ext
    rw [ByteArray.data_extract]
    apply Array.toList_inj.1
    rw [Array.toList_extract]
    simp only [List.extract_eq_take_drop, List.drop_zero, Nat.sub_zero]
    rw [show vb t.size ++ (t.data.toList ++ (m ++ r)) = (vb t.size ++ (t.data.toList ++ m)) ++ r by simp]
    exact List.take_left' (by rw [List.length_append, List.length_append, len_l, hm]; omega)
  rw [fr, e, if_neg (fun h => h rfl), if_neg (by rw [hlen]; show ¬ _ - ((vb t.size).length + t.size) < 4; omega)]
  simp only
  rw [hx]
  have hpk : (⟨(vb t.size ++ (t.data.toList ++ m)).toArray⟩ : ByteArray) = pk t ↔ m = le4 (fsum t.data.toList) := by
    constructor
    · intro hh
      have := congrArg (fun b : ByteArray => b.data.toList) hh
      simp only [pk_list] at this
      exact List.append_cancel_left (List.append_cancel_left this)
    · intro hh
      apply ByteArray.ext
      apply Array.toList_inj.1
      rw [pk_list, hh]
  by_cases hh : m = le4 (fsum t.data.toList)
  · rw [if_pos hh, if_neg (fun h => h (hpk.2 hh))]
  · rw [if_neg hh, if_pos (fun h => hh (hpk.1 h))]

/-- A frame of which one bit behind the length is turned is refused for its sum. -/
theorem fr_turned (s : ByteArray) (r : List UInt8) (B : Nat) (hs : s.size ≤ 9223372036854775807) (h1 : 8 * (vb s.size).length ≤ B) (h2 : B < 8 * (pk s).size) :
    fr ⟨((trn (pk s) B).data.toList ++ r).toArray⟩ = (⟨#[]⟩, 0, 6) := by
  have hp := pk_size s
  have hB : B / 8 < (pk s).size := by omega
  rw [trn_list (pk s) B hB, pk_list]
  obtain ⟨j, hj⟩ : ∃ j, B / 8 = (vb s.size).length + j := ⟨B / 8 - (vb s.size).length, by omega⟩
  rw [hj]
  have hl := len_l s
  have hg : (vb s.size ++ (s.data.toList ++ le4 (fsum s.data.toList))).getD ((vb s.size).length + j) 0 = (s.data.toList ++ le4 (fsum s.data.toList)).getD j 0 := by
    rw [List.getD_eq_getElem?_getD, List.getElem?_append_right (by omega), Nat.add_sub_cancel_left, ← List.getD_eq_getElem?_getD]
  rw [hg, List.set_append_right _ _ (by omega), Nat.add_sub_cancel_left, List.append_assoc]
  by_cases hjs : j < s.size
  · have hg2 : (s.data.toList ++ le4 (fsum s.data.toList)).getD j 0 = s.data.toList.getD j 0 := by
      rw [List.getD_eq_getElem?_getD, List.getElem?_append_left (by omega), ← List.getD_eq_getElem?_getD]
    rw [hg2, List.set_append_left _ _ (by omega), List.append_assoc]
    obtain ⟨t, ht⟩ : ∃ t : ByteArray, t.data.toList = s.data.toList.set j (UInt8.ofNat (flip (s.data.toList.getD j 0).toNat (B % 8))) := ⟨⟨(s.data.toList.set j (UInt8.ofNat (flip (s.data.toList.getD j 0).toNat (B % 8)))).toArray⟩, rfl⟩
    have hts : t.size = s.size := by rw [← len_l, ht, List.length_set, len_l]
    rw [← ht, ← hts, fr_front t _ r (by omega) rfl, if_neg]
    intro h
    have := le4_inj (fsum_lt _) (fsum_lt _) h
    rw [ht] at this
    exact fsum_set s.data.toList j (B % 8) (by omega) (by omega) this.symm
  · have hg2 : (s.data.toList ++ le4 (fsum s.data.toList)).getD j 0 = (le4 (fsum s.data.toList)).getD (j - s.size) 0 := by
      rw [List.getD_eq_getElem?_getD, List.getElem?_append_right (by omega), hl, ← List.getD_eq_getElem?_getD]
    rw [hg2, List.set_append_right _ _ (by omega), hl, List.append_assoc]
    have h4 : (le4 (fsum s.data.toList)).length = 4 := rfl
    have hjl : j - s.size < (le4 (fsum s.data.toList)).length := by omega
    rw [fr_front s _ r hs (by rw [List.length_set]; rfl), if_neg]
    intro h
    have e2 := congrArg (fun l => (l.getD (j - s.size) 0).toNat) h
    rw [List.getD_eq_getElem?_getD (l := (le4 (fsum s.data.toList)).set _ _), List.getElem?_set_self hjl] at e2
    simp only [Option.getD_some] at e2
    rw [ofNat_toNat _ (flip_lt _ _ (getD_lt _ _) (by omega))] at e2
    exact flip_ne _ _ (getD_lt _ _) (by omega) e2

end Go.Proofs.Ytihbibhmkpefgaa.Fr
