/- Frames that were packed one behind the other, cut short or not, are scanned: plain mathematics. -/
import Derived.Test.YtihbibhmkpefgaaFTurnMath
namespace Go.Proofs.Ytihbibhmkpefgaa.Fr
open Go.RowKit Wm Wr Fm
set_option linter.unusedVariables false

/-- The bytes of frames, one behind the other. -/
def PKl (l : List ByteArray) : List UInt8 := (l.map fun t => (pk t).data.toList).flatten
theorem PKl_cons (t : ByteArray) (l : List ByteArray) : PKl (t :: l) = (pk t).data.toList ++ PKl l := by simp [PKl]
theorem PKl_snoc (l : List ByteArray) (t : ByteArray) : PKl (l ++ [t]) = PKl l ++ (pk t).data.toList := by simp [PKl]
/-- How many whole frames fit b bytes. -/
def cnt : List ByteArray → Nat → Nat
  | [], _ => 0
  | t :: l, b => if (pk t).size ≤ b then cnt l (b - (pk t).size) + 1 else 0
theorem cnt_le : ∀ (l : List ByteArray) (b : Nat), cnt l b ≤ l.length
  | [], _ => Nat.le_refl _
  | t :: l, b => by
    rw [cnt]
    split
    · have := cnt_le l (b - (pk t).size); simp; omega
    · exact Nat.zero_le _
theorem cnt_fits : ∀ (l : List ByteArray) (b : Nat), (PKl (l.take (cnt l b))).length ≤ b
  | [], _ => Nat.zero_le _
  | t :: l, b => by
    rw [cnt]
    split
    · have := cnt_fits l (b - (pk t).size)
      rw [List.take_succ_cons, PKl_cons, List.length_append, len_l]
      omega
    · exact Nat.zero_le _
theorem cnt_all : ∀ (l : List ByteArray) (b : Nat), (PKl l).length ≤ b → cnt l b = l.length
  | [], _, _ => rfl
  | t :: l, b, h => by
    rw [PKl_cons, List.length_append, len_l] at h
    rw [cnt, if_pos (by omega), cnt_all l _ (by omega)]
    rfl
theorem cnt_snoc : ∀ (l : List ByteArray) (t : ByteArray) (b : Nat), cnt (l ++ [t]) b = if (PKl (l ++ [t])).length ≤ b then l.length + 1 else cnt l b
  | [], t, b => by
    rw [List.nil_append, cnt, PKl_cons, List.length_append, len_l]
    have : (PKl []).length = 0 := rfl
    simp only [this, Nat.add_zero, cnt, List.length_nil]
  | s :: l, t, b => by
    have ih := cnt_snoc l t (b - (pk s).size)
    rw [List.cons_append, cnt, cnt, PKl_cons, List.length_append, len_l, ih]
    by_cases h : (pk s).size ≤ b
    · rw [if_pos h, if_pos h]
      by_cases h2 : (PKl (l ++ [t])).length ≤ b - (pk s).size
      · rw [if_pos h2, if_pos (by omega)]; rfl
      · rw [if_neg h2, if_neg (by omega)]
    · rw [if_neg h, if_neg h, if_neg (by omega)]

/-- A number's text that is cut short. -/
theorem lead_cut : ∀ (f x k : Nat), k < (vb x).length → k ≤ f → lead ((vb x).take k) f = k
  | f, x, 0, _, _ => by cases f <;> simp [lead]
  | 0, x, k + 1, _, h => absurd h (by omega)
  | f + 1, x, k + 1, h, hf => by
    by_cases hx : x < 128
    · rw [vb_lo hx] at h; simp at h
    · rw [vb_hi (by omega)] at h ⊢
      have e : (UInt8.ofNat (128 + x % 128)).toNat = 128 + x % 128 := by simp; omega
      rw [List.take_succ_cons, lead, if_pos (by omega), lead_cut f (x / 128) k (by simpa using h) (by omega)]
theorem rd_cut (x k : Nat) (h : k < (vb x).length) (hx : x < 18446744073709551616) : rd ((vb x).take k) = (0, 0, 2) := by
  have hl := vb_len hx
  have e := lead_cut 9 x k h (by omega)
  have e2 : ((vb x).take k).length = k := by rw [List.length_take]; omega
  unfold rd
  simp only [e, e2]
  exact if_pos trivial
/-- A frame that is cut short. -/
theorem fr_cut (t : ByteArray) (k : Nat) (h : k < (pk t).size) (ht : t.size ≤ 9223372036854775807) : (fr ⟨((pk t).data.toList.take k).toArray⟩).2.2 = 2 := by
  have hp := pk_size t
  have hlen : (⟨((pk t).data.toList.take k).toArray⟩ : ByteArray).size = k := by
    rw [ByteArray.size, List.size_toArray, List.length_take, len_l]; omega
  rw [pk_list] at hlen ⊢
  by_cases h1 : k < (vb t.size).length
  · have e : (vb t.size ++ (t.data.toList ++ le4 (fsum t.data.toList))).take k = (vb t.size).take k := List.take_append_of_le_length (by omega)
    have r : rdU (⟨((vb t.size ++ (t.data.toList ++ le4 (fsum t.data.toList))).take k).toArray⟩ : ByteArray).data.toList = (0, 0, 2) := by
      show rdU ((vb t.size ++ (t.data.toList ++ le4 (fsum t.data.toList))).take k) = _
      rw [e, rdU, rd_cut t.size k h1 (by omega), if_neg (by simp)]
    rw [fr, rdT, r, if_pos (by simp), if_pos (by simp)]
  · obtain ⟨m, rfl⟩ : ∃ m, k = (vb t.size).length + m := ⟨k - (vb t.size).length, by omega⟩
    have e : (vb t.size ++ (t.data.toList ++ le4 (fsum t.data.toList))).take ((vb t.size).length + m) = vb t.size ++ (t.data.toList ++ le4 (fsum t.data.toList)).take m := by
      rw [List.take_append, List.take_of_length_le (by omega), Nat.add_sub_cancel_left]
    rw [e] at hlen ⊢
    by_cases h2 : m < t.size
    · have r : rdU (⟨(vb t.size ++ (t.data.toList ++ le4 (fsum t.data.toList)).take m).toArray⟩ : ByteArray).data.toList = (t.size, (vb t.size).length, 0) := by
        show rdU (vb t.size ++ _) = _
        rw [rdU, rd_vb t.size _ (by omega), if_neg]
        rintro ⟨_, h3⟩
        simp only at h3
        omega
      have r2 : rdT ⟨(vb t.size ++ (t.data.toList ++ le4 (fsum t.data.toList)).take m).toArray⟩ = (ByteArray.empty, 0, 2) := by
        rw [rdT, r, if_neg (fun h => h rfl), if_pos (by rw [hlen]; show (vb t.size).length + m < (vb t.size).length + t.size; omega)]
      rw [fr, r2, if_pos (by simp)]
    · have e2 : (t.data.toList ++ le4 (fsum t.data.toList)).take m = t.data.toList ++ (le4 (fsum t.data.toList)).take (m - t.size) := by
        rw [List.take_append, List.take_of_length_le (by rw [len_l]; omega), len_l]
      rw [e2] at hlen ⊢
      rw [fr, rdT_front t _ ht, if_neg (fun h => h rfl), if_pos (by rw [hlen]; show (vb t.size).length + m - ((vb t.size).length + t.size) < 4; omega)]
/-- A frame at the front of more. -/
theorem fr_pk (t : ByteArray) (r : List UInt8) (ht : t.size ≤ 9223372036854775807) : fr ⟨((pk t).data.toList ++ r).toArray⟩ = (t, (pk t).size, 0) := by
  have e : (pk t).data.toList ++ r = vb t.size ++ (t.data.toList ++ (le4 (fsum t.data.toList) ++ r)) := by rw [pk_list]; simp
  rw [e, fr_front t _ r ht rfl, if_pos rfl, pk_size]

theorem mk_len (l : List UInt8) : (⟨l.toArray⟩ : ByteArray).size = l.length := by rw [ByteArray.size, List.size_toArray]
theorem from_at (p r : List UInt8) : (⟨(p ++ r).toArray⟩ : ByteArray).extract p.length (⟨(p ++ r).toArray⟩ : ByteArray).size = ⟨r.toArray⟩ := by
  apply ByteArray.ext
  rw [ByteArray.data_extract]
  apply Array.toList_inj.1
  rw [mk_len]
  simp

/-- Frames, cut to b bytes, behind pre. -/
theorem scan_cut : ∀ (l : List ByteArray) (pre : List UInt8) (b : Nat), (∀ t ∈ l, t.size ≤ 9223372036854775807) →
    sc ⟨(pre ++ (PKl l).take b).toArray⟩ pre.length = (l.take (cnt l b), pre.length + (PKl (l.take (cnt l b))).length, if (PKl (l.take (cnt l b))).length = min b (PKl l).length then 0 else 2)
  | [], pre, b, _ => by
    have e : (PKl []).take b = [] := by simp [PKl]
    rw [e, List.append_nil, sc_end (by rw [mk_len]; omega)]
    simp [cnt, PKl]
  | t :: l, pre, b, ht => by
    have h0 := ht t (by simp)
    have hk : 0 < (pk t).size := by rw [pk_size]; omega
    rw [PKl_cons]
    by_cases hb : (pk t).size ≤ b
    · have e : ((pk t).data.toList ++ PKl l).take b = (pk t).data.toList ++ (PKl l).take (b - (pk t).size) := by
        rw [List.take_append, List.take_of_length_le (by rw [len_l]; omega), len_l]
      rw [e, sc_one (n := (pk t).size) (t := t) (by rw [mk_len, List.length_append, List.length_append, len_l]; omega) (by rw [from_at, fr_pk t _ h0])]
      have ih := scan_cut l (pre ++ (pk t).data.toList) (b - (pk t).size) (fun s hs => ht s (by simp [hs]))
      rw [List.append_assoc, List.length_append, len_l] at ih
      rw [ih, cnt, if_pos hb, List.take_succ_cons, PKl_cons, List.length_append, List.length_append, len_l]
      simp only [Prod.mk.injEq, true_and]
      refine ⟨by omega, ?_⟩
      by_cases hq : (PKl (l.take (cnt l (b - (pk t).size)))).length = min (b - (pk t).size) (PKl l).length
      · rw [if_pos hq, if_pos (by omega)]
      · rw [if_neg hq, if_neg (by omega)]
    · have e : ((pk t).data.toList ++ PKl l).take b = (pk t).data.toList.take b := List.take_append_of_le_length (by rw [len_l]; omega)
      have ez : PKl [] = [] := rfl
      rw [e, cnt, if_neg hb, List.take_zero, ez, List.length_nil, List.length_append, len_l]
      by_cases h1 : b = 0
      · subst h1
        rw [List.take_zero, List.append_nil, sc_end (by rw [mk_len]; omega)]
        simp
      · have hc := fr_cut t b (by omega) h0
        obtain ⟨x, n, e2, h2⟩ := trip (fr ⟨((pk t).data.toList.take b).toArray⟩)
        rw [h2] at hc
        have hc' : e2 = 2 := hc
        subst hc'
        rw [sc_bad (t := x) (n := n) (e := 2) (by rw [mk_len, List.length_append, List.length_take, len_l]; omega) (by rw [from_at, h2]) (by omega), if_neg (by omega)]
        rfl

theorem PKl_take (l : List ByteArray) (k : Nat) (h : k < l.length) : PKl (l.take (k + 1)) = PKl (l.take k) ++ (pk l[k]).data.toList := by
  rw [List.take_succ_eq_append_getElem h, PKl_snoc]
theorem cnt_take (l : List ByteArray) (k b : Nat) (h : k < l.length) : cnt (l.take (k + 1)) b = if (PKl (l.take (k + 1))).length ≤ b then k + 1 else cnt (l.take k) b := by
  rw [List.take_succ_eq_append_getElem h, cnt_snoc, List.length_take, Nat.min_eq_left (by omega)]

end Go.Proofs.Ytihbibhmkpefgaa.Fr
