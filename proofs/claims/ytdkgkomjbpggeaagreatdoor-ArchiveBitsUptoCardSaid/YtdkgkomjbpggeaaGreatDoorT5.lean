/- Texts of this seat, one behind the other. -/
import Derived.Test.YtdkgkomjbpggeaaGreatDoorT4
import Derived.Shelf.Strconv.Itoa3
import Derived.Test.YtdkgkomjbpggeaaGreatDoorProg
import Derived.Lib.AppendIntMem
import Derived.SliceStrings
import Derived.SizedLaws
import Derived.Test.YtdkgkomjbpggeaaGreatDoorCards
import Derived.Test.YtdkgkomjbpggeaaGreatDoorTie
import Derived.Lib.LaidTab
import Derived.Lib.LaidU8
import Derived.LaidMore
import Derived.Deep.DeepHandedRow
import Derived.Stop.Joined
import Derived.JoinedCond
import Derived.ChangeOld
import Derived.SevenTiedAt
namespace Go.Proofs.YtdkgkomjbpggeaaGreatDoor.Bl
open Go.RowKit Tx Pm Dk Wm Wr Wl Pl Tb
set_option linter.unusedVariables false
set_option linter.unusedSimpArgs false
set_option linter.unnecessarySimpa false
def cnt (l : List ByteArray) (d : ByteArray) : Nat := l.countP (fun x => decide (x = d))
theorem cnt_snoc (l : List ByteArray) (t d : ByteArray) : cnt (l ++ [t]) d = cnt l d + if t = d then 1 else 0 := by
  unfold cnt
  rw [List.countP_append, List.countP_singleton]
  congr 1
  by_cases he : t = d <;> simp [he]
def puts (l : List ByteArray) : List On := l.foldl (fun C t => (putC C t).1) []
theorem good_nil : Good8 [] 0 := ⟨List.Pairwise.nil, List.Pairwise.nil, (fun _ h => by cases h), Nat.le_refl _⟩
def keyD (C : List On) (d : ByteArray) : ByteArray := match of8 C d with
  | some x => keyO x
  | none => ⟨#[]⟩
def refD (C : List On) (d : ByteArray) : Nat := match of8 C d with
  | some x => x.refs
  | none => 0
theorem of8_set (C : List On) (p d : ByteArray) (k : Nat) : of8 (setR C p k) d = (of8 C d).map (fun y => if keyO y = p then { y with refs := k } else y) := by
  unfold of8 setR
  rw [List.find?_map]
  have e : ((fun x : On => decide (x.data = d)) ∘ fun y => if keyO y = p then { y with refs := k } else y) = (fun y : On => decide (y.data = d)) := by
    funext y
    show decide ((if keyO y = p then { y with refs := k } else y).data = d) = _
    split <;> rfl
  rw [e]
section
variable {C : List On} {M : Nat}
theorem put_of (hg : Good8 C M) (t d : ByteArray) : of8 (putC C t).1 d = if t = d then some (match of8 C t with | some x => { x with refs := x.refs + 1 } | none => newO C t) else of8 C d := by
  unfold putC
  cases ht : of8 C t with
  | some x =>
    obtain ⟨hx, hd⟩ := of8_some ht
    show of8 (setR C (keyO x) (x.refs + 1)) d = _
    rw [of8_set]
    by_cases he : t = d
    · subst he
      rw [if_pos rfl, ht]
      show some (if keyO x = keyO x then _ else x) = _
      rw [if_pos rfl]
    · rw [if_neg he]
      cases hf : of8 C d with
      | none => rfl
      | some y =>
        obtain ⟨hy, hyd⟩ := of8_some hf
        show some (if keyO y = keyO x then _ else y) = _
        rw [if_neg (fun e => ?_)]
        have h1 := hg.at hx
        have h2 := hg.at hy
        rw [e, h1] at h2
        injection h2 with h2
        exact he (by rw [← hd, ← hyd, h2])
  | none =>
    show of8 (C ++ [newO C t]) d = _
    unfold of8 at ht ⊢
    rw [List.find?_append]
    by_cases he : t = d
    · subst he
      rw [if_pos rfl, ht, List.find?_cons_of_pos (by simp [newO])]
      rfl
    · rw [if_neg he, List.find?_cons_of_neg (by simp [newO, he])]
      show (List.find? _ C).or none = _
      rw [Option.or_none]
theorem put_key (hg : Good8 C M) (t : ByteArray) : (putC C t).2 = keyD (putC C t).1 t := by
  unfold keyD
  rw [put_of hg, if_pos rfl]
  unfold putC
  cases of8 C t <;> rfl
theorem put_keyD (hg : Good8 C M) (t : ByteArray) {d : ByteArray} (hd : (of8 C d).isSome = true) : keyD (putC C t).1 d = keyD C d := by
  unfold keyD
  rw [put_of hg]
  by_cases he : t = d
  · subst he
    rw [if_pos rfl]
    cases h : of8 C t with
    | none => rw [h] at hd; cases hd
    | some x => rfl
  · rw [if_neg he]
theorem put_refD (hg : Good8 C M) (t d : ByteArray) : refD (putC C t).1 d = refD C d + if t = d then 1 else 0 := by
  unfold refD
  rw [put_of hg]
  by_cases he : t = d
  · subst he
    rw [if_pos rfl, if_pos rfl]
    cases of8 C t <;> rfl
  · rw [if_neg he, if_neg he]
    rfl
theorem put_has (hg : Good8 C M) (t d : ByteArray) : (of8 (putC C t).1 d).isSome = (decide (t = d) || (of8 C d).isSome) := by
  rw [put_of hg]
  by_cases he : t = d <;> simp [he]
end
theorem of8_mem {C : List On} {d : ByteArray} (h : (of8 C d).isSome = true) : ∃ x ∈ C, x.data = d ∧ keyD C d = keyO x ∧ refD C d = x.refs := by
  cases hf : of8 C d with
  | none => rw [hf] at h; cases h
  | some x =>
    obtain ⟨h1, h2⟩ := of8_some hf
    exact ⟨x, h1, h2, by unfold keyD; rw [hf], by unfold refD; rw [hf]⟩
theorem keyD_inj {C : List On} {M : Nat} (hg : Good8 C M) {d e : ByteArray} (hd : (of8 C d).isSome = true) (he : (of8 C e).isSome = true) : keyD C d = keyD C e ↔ d = e := by
  constructor
  · intro h
    obtain ⟨x, hx, h1, h2, _⟩ := of8_mem hd
    obtain ⟨y, hy, h3, h4, _⟩ := of8_mem he
    rw [h2, h4] at h
    have e1 := hg.at hx
    rw [h, hg.at hy] at e1
    injection e1 with e1
    rw [← h1, ← h3, e1]
  · intro h; rw [h]
theorem at8_data {C : List On} {M : Nat} (hg : Good8 C M) {d : ByteArray} (hd : (of8 C d).isSome = true) : ∃ x, at8 C (keyD C d) = some x ∧ of8 C d = some x ∧ x.data = d := by
  obtain ⟨x, hx, h1, h2, _⟩ := of8_mem hd
  refine ⟨x, by rw [h2]; exact hg.at hx, ?_, h1⟩
  rw [← h1]
  exact hg.of hx
theorem of8_del {C : List On} {M : Nat} (hg : Good8 C M) {x : On} (hx : x ∈ C) (d : ByteArray) : of8 (delR C (keyO x)) d = if x.data = d then none else of8 C d := by
  by_cases he : x.data = d
  · rw [if_pos he]
    cases hf : of8 (delR C (keyO x)) d with
    | none => rfl
    | some y =>
      obtain ⟨hy, hyd⟩ := of8_some hf
      unfold delR at hy
      obtain ⟨hy1, hy2⟩ := List.mem_filter.1 hy
      have e1 := hg.of hx
      rw [he, ← hyd, hg.of hy1] at e1
      injection e1 with e1
      rw [e1] at hy2
      simp at hy2
  · rw [if_neg he]
    cases hf : of8 C d with
    | none =>
      cases hf2 : of8 (delR C (keyO x)) d with
      | none => rfl
      | some y =>
        obtain ⟨hy, hyd⟩ := of8_some hf2
        unfold delR at hy
        exact absurd hyd (of8_none hf y (List.mem_filter.1 hy).1)
    | some y =>
      obtain ⟨hy, hyd⟩ := of8_some hf
      have hyx : keyO y ≠ keyO x := fun e => by
        have e1 := hg.at hx
        rw [← e, hg.at hy] at e1
        injection e1 with e1
        exact he (by rw [← e1]; exact hyd)
      have hm : y ∈ delR C (keyO x) := by unfold delR; exact List.mem_filter.2 ⟨hy, by simpa using hyx⟩
      have := (good_del (p := keyO x) hg).of hm
      rw [hyd] at this
      exact this
theorem rel_of {C : List On} {M : Nat} (hg : Good8 C M) {t : ByteArray} (ht : (of8 C t).isSome = true) : (relC C (keyD C t)).2 = true ∧
    (∀ d, refD (relC C (keyD C t)).1 d = refD C d - if t = d then 1 else 0) ∧ (∀ d, (of8 (relC C (keyD C t)).1 d).isSome = true → keyD (relC C (keyD C t)).1 d = keyD C d) ∧ (∀ d, (of8 (relC C (keyD C t)).1 d).isSome = ((of8 C d).isSome && (!decide (t = d) || decide (1 < refD C d)))) := by
  obtain ⟨x, h1, h2, h3⟩ := at8_data hg ht
  obtain ⟨hx, hk⟩ := at8_some h1
  obtain ⟨_, hr1, _⟩ := hg.each x hx
  have hrel : relC C (keyD C t) = (if x.refs = 1 then delR C (keyO x) else setR C (keyO x) (x.refs - 1), true) := by unfold relC; rw [h1, hk]
  rw [hrel]
  refine ⟨rfl, ?_⟩
  by_cases hone : x.refs = 1
  · simp only [if_pos hone]
    have hd := of8_del hg hx
    refine ⟨fun d => ?_, fun d hs => ?_, fun d => ?_⟩
    · unfold refD
      rw [hd, h3]
      by_cases he : t = d
      · subst he
        rw [if_pos rfl, if_pos rfl, h2]
        show 0 = x.refs - 1
        omega
      · rw [if_neg he, if_neg he]
        rfl
    · unfold keyD
      rw [hd, h3] at hs ⊢
      by_cases he : t = d
      · rw [if_pos he] at hs
        cases hs
      · rw [if_neg he]
    · rw [hd, h3]
      by_cases he : t = d
      · subst he
        have : refD C t = 1 := by unfold refD; rw [h2]; exact hone
        rw [this]
        simp
      · simp [he]
  · simp only [if_neg hone]
    have hs := of8_set C (keyO x)
    have hy : ∀ d, t ≠ d → of8 (setR C (keyO x) (x.refs - 1)) d = of8 C d := fun d he => by
      rw [hs]
      cases hf : of8 C d with
      | none => rfl
      | some y =>
        obtain ⟨hy, hyd⟩ := of8_some hf
        show some (if keyO y = keyO x then _ else y) = _
        rw [if_neg (fun e => ?_)]
        have e1 := hg.at hx
        rw [← e, hg.at hy] at e1
        injection e1 with e1
        exact he (by rw [← h3, ← hyd, e1])
    have hy2 : of8 (setR C (keyO x) (x.refs - 1)) t = some { x with refs := x.refs - 1 } := by
      rw [hs, h2]
      show some (if keyO x = keyO x then _ else x) = _
      rw [if_pos rfl]
    refine ⟨fun d => ?_, fun d _ => ?_, fun d => ?_⟩
    · unfold refD
      by_cases he : t = d
      · subst he
        rw [hy2, if_pos rfl, h2]
      · rw [hy d he, if_neg he]
        rfl
    · unfold keyD
      by_cases he : t = d
      · subst he
        rw [hy2, h2]
        rfl
      · rw [hy d he]
    · by_cases he : t = d
      · subst he
        have : refD C t = x.refs := by unfold refD; rw [h2]
        rw [hy2, h2, this]
        have : 1 < x.refs := by omega
        simp [this]
      · rw [hy d he]
        simp [he]
end Go.Proofs.YtdkgkomjbpggeaaGreatDoor.Bl

namespace Go.Proofs.YtdkgkomjbpggeaaGreatDoor.Az
open Go.RowKit Tx Pm Dk Wm Wr Wl Pl Tb Bl Fm Fr
open En (Et tcheck)
set_option linter.unusedVariables false
set_option linter.unusedSimpArgs false
set_option linter.unnecessarySimpa false
def z1 : ByteArray := ⟨#[0]⟩
def vz (r : ByteArray) : ByteArray := Fm.pk r ++ z1
theorem vz_list (r : ByteArray) : (vz r).data.toList = vb r.size ++ (r.data.toList ++ (le4 (fsum r.data.toList) ++ [0])) := by
  unfold vz
  rw [app_l, pk_list]
  show _ ++ [0] = _
  simp
theorem vz_size (r : ByteArray) : (vz r).size = (vb r.size).length + r.size + 5 := by
  unfold vz
  rw [ByteArray.size_append, pk_size]
  rfl
def Bad (v : ByteArray) : Prop := ∀ t, v ≠ vz t
theorem vb_mono : ∀ y x : Nat, x ≤ y → (vb x).length ≤ (vb y).length := by
  intro y
  induction y using Nat.strongRecOn with
  | _ y ih =>
    intro x hxy
    by_cases hx : x < 128
    · rw [vb, if_pos hx]
      exact vb_pos y
    · have e1 : (vb x).length = (vb (x / 128)).length + 1 := by rw [vb, if_neg hx]; rfl
      have e2 : (vb y).length = (vb (y / 128)).length + 1 := by rw [vb, if_neg (by omega)]; rfl
      have := ih (y / 128) (by omega) (x / 128) (by omega)
      omega
theorem vb_same {x y : Nat} (h : (vb x).length + x = (vb y).length + y) : x = y := by
  rcases Nat.lt_trichotomy x y with hh | hh | hh
  · have := vb_mono y x (by omega); omega
  · exact hh
  · have := vb_mono x y (by omega); omega
theorem fr_vz (r : ByteArray) (h : r.size ≤ 9223372036854775807) : fr (vz r) = (r, (Fm.pk r).size, 0) := by
  have e : vz r = ⟨(vb r.size ++ (r.data.toList ++ (le4 (fsum r.data.toList) ++ [0]))).toArray⟩ := ba_ext (vz_list r)
  rw [e, fr_front r _ [0] h rfl, if_pos rfl, pk_size]
theorem vz_rest (r : ByteArray) : (vz r).extract (Fm.pk r).size (vz r).size = z1 := by
  unfold vz
  apply ba_ext
  rw [ByteArray.data_extract, Array.toList_extract, app_l]
  simp only [List.extract_eq_take_drop]
  rw [← Wm.len_l (Fm.pk r), List.drop_left, ByteArray.size_append]
  show [(0 : UInt8)].take _ = [0]
  rw [← Wm.len_l (Fm.pk r)]
  have : (Fm.pk r).data.toList.length + z1.size - (Fm.pk r).data.toList.length = 1 := by
    have : z1.size = 1 := rfl
    omega
  rw [this]
  rfl
theorem fr_is {v t : ByteArray} {n : Nat} (h : fr v = (t, n, 0)) (hr : v.extract n v.size = z1) : v = vz t := by
  obtain ⟨_, _, h3, h4⟩ := fr_ok h
  have e : v = v.extract 0 n ++ v.extract n v.size := by
    apply ba_ext
    rw [app_l, ByteArray.data_extract, ByteArray.data_extract, Array.toList_extract, Array.toList_extract]
    simp only [List.extract_eq_take_drop, List.drop_zero, Nat.sub_zero]
    rw [← Wm.len_l v]
    have : (v.data.toList.drop n).take (v.data.toList.length - n) = v.data.toList.drop n := List.take_of_length_le (by rw [List.length_drop]; exact Nat.le_refl _)
    rw [this, List.take_append_drop]
  rw [e, hr, h4]
  rfl
theorem bad_read {v t : ByteArray} {n : Nat} (hb : Bad v) (h : fr v = (t, n, 0)) : v.extract n v.size ≠ z1 := fun hr => hb t (fr_is h hr)
theorem get_last {l m : List UInt8} {b : UInt8} (h : l = m ++ [b]) : l.getD (l.length - 1) 0 = b := by
  subst h
  rw [List.length_append, List.getD_eq_getElem?_getD, List.getElem?_append_right (by simp)]
  simp
def lastB (v : ByteArray) : UInt8 := v.data.toList.getD (v.size - 1) 0
theorem vz_last (t : ByteArray) : lastB (vz t) = 0 := by
  unfold lastB
  rw [← Wm.len_l]
  exact get_last (m := vb t.size ++ (t.data.toList ++ le4 (fsum t.data.toList))) (by rw [vz_list]; simp)
theorem bad_last {v : ByteArray} (h : lastB v ≠ 0) : Bad v := fun t e => h (by rw [e]; exact vz_last t)
def inv (v : ByteArray) : ByteArray := v.extract 0 (v.size - 1) ++ ⟨#[UInt8.ofNat (255 - (lastB v).toNat)]⟩
theorem inv_size {v : ByteArray} (h : 0 < v.size) : (inv v).size = v.size := by
  unfold inv
  rw [ByteArray.size_append, ByteArray.size_extract]
  show _ + 1 = _
  omega
theorem inv_last {v : ByteArray} (h : 0 < v.size) : lastB (inv v) = UInt8.ofNat (255 - (lastB v).toNat) := by
  have e : (inv v).data.toList = (v.extract 0 (v.size - 1)).data.toList ++ [UInt8.ofNat (255 - (lastB v).toNat)] := by unfold inv; rw [app_l]
  have := get_last e
  rw [Wm.len_l] at this
  exact this
theorem inv_bad {v : ByteArray} (h : 0 < v.size) (h2 : lastB v ≠ 255) : Bad (inv v) := bad_last (by
  rw [inv_last h]
  intro e
  have e2 := congrArg UInt8.toNat e
  have hl := (lastB v).toNat_lt
  rw [ofNat_toNat _ (by omega)] at e2
  have : (lastB v).toNat = 255 := by
    have : (0 : UInt8).toNat = 0 := rfl
    omega
  exact h2 (UInt8.toNat_inj.1 (by rw [this]; rfl)))
theorem getD_set {l : List UInt8} {i j : Nat} {b : UInt8} (hj : j < l.length) : (l.set i b).getD j 0 = if i = j then b else l.getD j 0 := by
  rw [List.getD_eq_getElem?_getD, List.getD_eq_getElem?_getD, List.getElem?_set]
  by_cases h : i = j
  · subst h
    rw [if_pos rfl, if_pos rfl, if_pos hj]
    rfl
  · rw [if_neg h, if_neg h]
theorem trn_bad (r : ByteArray) (B : Nat) (hr : r.size ≤ 9223372036854775807) (hB : B < 8 * (vz r).size) : Bad (trn (vz r) B) := by
  have hs := vz_size r
  have hps := pk_size r
  have hB8 : B / 8 < (vz r).size := by omega
  have hl := trn_list (vz r) B hB8
  intro t he
  have hsz := congrArg ByteArray.size he
  rw [trn_size _ _ hB8, vz_size, vz_size] at hsz
  have hrt : r.size = t.size := vb_same (by omega)
  have hg : (vz t).data.toList.getD (B / 8) 0 ≠ (vz r).data.toList.getD (B / 8) 0 := by
    rw [← he, hl, getD_set (by rw [Wm.len_l]; exact hB8), if_pos rfl]
    intro e
    have e2 := congrArg UInt8.toNat e
    rw [ofNat_toNat _ (flip_lt _ _ (getD_lt _ _) (by omega))] at e2
    exact flip_ne _ _ (getD_lt _ _) (by omega) e2
  by_cases h1 : B / 8 < (vb r.size).length
  · refine hg ?_
    rw [vz_list, vz_list, List.getD_eq_getElem?_getD, List.getD_eq_getElem?_getD, List.getElem?_append_left (by rw [← hrt]; exact h1), List.getElem?_append_left h1, hrt]
  · by_cases h2 : B / 8 < (Fm.pk r).size
    · have ht := fr_turned r [0] B hr (by omega) (by omega)
      have e : (⟨((trn (Fm.pk r) B).data.toList ++ [0]).toArray⟩ : ByteArray) = trn (vz r) B := by
        apply ba_ext
        rw [hl, trn_list (Fm.pk r) B h2]
        show (Fm.pk r).data.toList.set _ _ ++ [0] = _
        have e0 : (vz r).data.toList = (Fm.pk r).data.toList ++ [0] := by unfold vz; rw [app_l]; rfl
        have hlt : B / 8 < (Fm.pk r).data.toList.length := by rw [Wm.len_l]; exact h2
        rw [e0, List.set_append_left _ _ hlt, List.getD_eq_getElem?_getD, List.getD_eq_getElem?_getD, List.getElem?_append_left hlt]
      rw [e, he, fr_vz t (by omega)] at ht
      have h9 : (0 : Nat) = 6 := congrArg (fun z : ByteArray × Nat × Nat => z.2.2) ht
      exact absurd h9 (by decide)
    · refine hg ?_
      have e1 : B / 8 = (vz r).size - 1 := by omega
      have e2 : B / 8 = (vz t).size - 1 := by rw [vz_size, ← hrt, ← vz_size r]; exact e1
      have h3 := vz_last r
      have h4 := vz_last t
      unfold lastB at h3 h4
      rw [e2, h4, show (vz t).size - 1 = (vz r).size - 1 by omega, h3]
theorem tn_bad (r : ByteArray) (b : Int) (hr : r.size ≤ 9223372036854775807) : Bad (tn (vz r) b) := by
  have hs := vz_size r
  rw [tn, if_neg (by omega)]
  have h3 := Int.emod_nonneg b (show ((8 * (vz r).size : Nat) : Int) ≠ 0 by omega)
  have h4 := Int.emod_lt_of_pos b (show (0 : Int) < ((8 * (vz r).size : Nat) : Int) by omega)
  exact trn_bad r _ hr (by omega)
theorem tn_size (v : ByteArray) (b : Int) : (tn v b).size = v.size := by
  unfold tn
  split
  · rename_i h; rw [h]; rfl
  · rename_i h
    have h3 := Int.emod_nonneg b (show ((8 * v.size : Nat) : Int) ≠ 0 by omega)
    have h4 := Int.emod_lt_of_pos b (show (0 : Int) < ((8 * v.size : Nat) : Int) by omega)
    exact trn_size v _ (by omega)
theorem tn_tn (v : ByteArray) (b : Int) (h : 0 < v.size) : tn (tn v b) b = v := by
  have e : tn v b = trn v (b % (8 * v.size : Nat)).toNat := by unfold tn; rw [if_neg (by omega)]
  have hs := tn_size v b
  have h3 := Int.emod_nonneg b (show ((8 * v.size : Nat) : Int) ≠ 0 by omega)
  have h4 := Int.emod_lt_of_pos b (show (0 : Int) < ((8 * v.size : Nat) : Int) by omega)
  rw [tn, if_neg (by omega), hs, e]
  exact trn_trn v _ (by omega)
theorem tn_last (r : ByteArray) (b : Int) : lastB (tn (vz r) b) ≠ 255 := by
  have hs := vz_size r
  have h3 := Int.emod_nonneg b (show ((8 * (vz r).size : Nat) : Int) ≠ 0 by omega)
  have h4 := Int.emod_lt_of_pos b (show (0 : Int) < ((8 * (vz r).size : Nat) : Int) by omega)
  obtain ⟨B, hB⟩ : ∃ B, B = (b % (8 * (vz r).size : Nat)).toNat := ⟨_, rfl⟩
  have hBl : B < 8 * (vz r).size := by omega
  have e : tn (vz r) b = trn (vz r) B := by unfold tn; rw [if_neg (by omega), hB]
  have hv := vz_last r
  unfold lastB at hv ⊢
  rw [e, trn_size _ _ (by omega), trn_list _ _ (by omega), getD_set (by rw [Wm.len_l]; omega)]
  split
  · rename_i h
    rw [h, hv]
    have : ∀ i : Fin 8, UInt8.ofNat (flip (0 : UInt8).toNat i.val) ≠ 255 := by decide
    exact this ⟨B % 8, Nat.mod_lt _ (by decide)⟩
  · rw [hv]; decide
end Go.Proofs.YtdkgkomjbpggeaaGreatDoor.Az

namespace Go.Proofs.YtdkgkomjbpggeaaGreatDoor.Tb
open Go.RowKit Tx Pm Dk Wm Wr Wl Pl
set_option linter.unusedVariables false
set_option linter.unusedSimpArgs false
set_option linter.unnecessarySimpa false
theorem oldK_len (l : List Ch) (K : List ByteArray) : (oldK l K).length ≤ K.length := List.length_filter_le _ _
theorem newK_len (p : ByteArray) (l : List Ch) : (newK p l).length ≤ l.length := by unfold newK; rw [List.length_map]; exact List.length_filter_le _ _
theorem take_snoc {α : Type} {l : List α} {k : Nat} {x : α} (h : l[k]? = some x) : l.take (k + 1) = l.take k ++ [x] := by
  have hk := (List.getElem?_eq_some_iff.1 h).1
  rw [List.take_succ_eq_append_getElem hk]
  rw [List.getElem?_eq_getElem hk] at h
  injection h with h
  rw [h]
set_option maxRecDepth 100000 in
set_option maxHeartbeats 4000000 in
theorem bKeys_any (u t m pm : Nat) (vO : Value) (L : List It) (l : List Ch) (p : ByteArray) (w : World) {G : Nat → Prop} (hB : BAt u pm (some ⟨t, 0, none⟩) vO w G l) (ht : w.cell? ⟨t, 3, none⟩ = some (.map (some m))) (hm : Mo w m L) (hR : Rises L) (hn : L.length ≤ 100000000) (hln : l.length ≤ 100000000) (hps : ∀ x ∈ L, x.path.size ≤ 1000000000000) (hks : ∀ c ∈ l, c.key.size ≤ 1000000000000) (hp : p.size ≤ 1000000000000) :
    Calls Tryz.prog 20 #[.pointer (some ⟨u, 0, none⟩), .string p] w (ListTo (held (pre7 p) (all7 L l)) w) := by
  obtain ⟨i0, hi, hz0, hz1, hz2⟩ := info_parts Tx.info9
  obtain ⟨c0, c1, c2⟩ := hB.cell
  have ck := tKeys_any t m L p w ht hm hR (by omega) hps hp
  have HPERM := Lib.hid (perm_keys hR hB.once p)
  have HRS := Lib.hid (held_rises (φ := pre7 p) (rises_all hR l))
  have HKL := Lib.hid (held_len (pre7 p) L)
  have HKS : Hid (∀ k ∈ held (pre7 p) L, k.size ≤ 1000000000000) := Lib.hid (fun k hk => by
    obtain ⟨x, hx, rfl⟩ := List.mem_map.1 hk
    exact hps x (List.mem_filter.1 hx).1)
  have HCS := Lib.hid hks
  have HB := Lib.hid hB
  obtain ⟨aO, cO, hvO, hO1, hO2, hO3⟩ := hB.ops.form
  obtain ⟨nO, hnO⟩ : ∃ n, n = l.length := ⟨_, rfl⟩
  rw [← hnO] at hvO hO1 hO2 hln
  have HOP := Lib.hid hO1
  have HNO := Lib.hid hnO
  have hul : u < w.heap.size := World.block_lt_of_cell? w _ c0
  generalize held (pre7 p) L = K at ck HPERM HKL HKS
  obtain ⟨n, hnK⟩ : ∃ n, n = K.length := ⟨_, rfl⟩
  have HNK := Lib.hid hnK
  have hnb : n ≤ 100000000 := by have := HKL.out; omega
  subst hvO
  clear hB hm ht hR hps hks hO1 hnO hn hnK HKL
  go_enter Tryz.func20, Tryz.ntmps20
  go_wp2_with fail
  go_at_call 52
  refine ck.mono ?_
  rintro e w1 ⟨vK, rfl, hK, hb1⟩
  obtain ⟨aK, cK, hv, hsK, hcK, _⟩ := hK.form
  rw [← HNK.out] at hv hsK hcK
  have HSK := Lib.hid (fun W (hW : Below w1.heap.size w1 W) => hsK.below hW)
  have HB1 := Lib.hid (HB.out.below hb1)
  have HOP1 := Lib.hid (HOP.out.below hb1)
  have d1 := (hb1.cell (p := ⟨u, 1, none⟩) hul).trans c1
  have d2 := (hb1.cell (p := ⟨u, 2, none⟩) hul).trans c2
  have hul1 : u < w1.heap.size := Nat.lt_of_lt_of_le hul hb1.size
  clear hK hsK ck c0 c1 c2
  subst hv
  go_wp2_with fail
  go_loopw [5, 21] (fun v iv wr => ∃ k T : Nat, k ≤ n ∧ iv = .int .i64 k ∧ Hid ((oldK l (K.take k)).length = T) ∧ T ≤ 100000000 ∧ wr.ownsRow w1.heap.size 9 1 v T ((oldK l (K.take k)).map sv) ∧ Below w1.heap.size w1 wr) (fun _ iv _ => n - (intOf iv).toNat)
  case atStart => exact ⟨0, 0, Nat.zero_le _, rfl, rfl, by omega, World.ownsRow_nil _ _ _ _, Below.refl _ _⟩
  case round =>
    obtain ⟨k, T, hk, rfl, hT, hTm, hown, hB⟩ := hrel
    have e1 := (hB.cell (p := ⟨u, 1, none⟩) hul1).trans d1
    have e2 := (hB.cell (p := ⟨u, 2, none⟩) hul1).trans d2
    by_cases hlt : k < n
    · obtain ⟨x, hx⟩ : ∃ x, K[k]? = some x := ⟨_, List.getElem?_eq_getElem (by rw [← HNK.out]; exact hlt)⟩
      obtain ⟨_, hne⟩ := HSK.out _ hB
      obtain ⟨bk, off, rfl, hbk, hcc⟩ := hne.resolve_left (by omega)
      have g0 := hcc k x hx
      have hkz : (k : Int) < (n : Int) := by omega
      have hl := (HB1.out.plc.kept (hB.block pm HB1.out.plc.lt)).look (p := x) (by have := HKS.out x (List.mem_of_getElem? hx); unfold maxLen; omega)
      unfold placeV at hl
      have htk := oldK_snoc l (K.take k) x
      rw [← take_snoc hx] at htk
      have hle := oldK_len l (K.take (k + 1))
      have hle2 : (K.take (k + 1)).length ≤ n := by rw [List.length_take, HNK.out]; omega
      cases ha : at7 l x with
      | none =>
        rw [ha] at hl
        rw [ha, Option.isNone_none, if_pos rfl] at htk
        have HTK := Lib.hid htk
        have hT2 : T + 1 ≤ 100000000 := by
          have := congrArg List.length htk
          rw [List.length_append, List.length_singleton, hT.out] at this
          omega
        have HLN := Lib.hid (show (oldK l (K.take (k + 1))).length = T + 1 by rw [htk, List.length_append, hT.out]; rfl)
        clear hx hcc hne htk ha hle hle2
        go_wp2_with (at_builtin; refine wpList_append_own _ rfl _ _ 52 rfl w1.heap.size 9 i0 (.string ⟨#[]⟩) 1 16 Tryz.underlying52 hi hz0 hz1 hz2 rfl (by decide) _ _ _ rfl (hown.alloc _) ⟨wr.heap.size, 0, none⟩ 1 1 [sv x] rfl rfl ?c1_2 ?c2_2 ?c3_2 ?c4_2 ?c5_2 ?_)
        case c1_2 => first | exact cell_one_new _ _ _ | exact fun _ _ h => h
        case c2_2 => first | exact sv_one [x] | rfl
        case c3_2 => unfold maxLen; omega
        case c4_2 => omega
        case c5_2 => first | (have := hB.size; simp; omega) | (have := hB.size; omega)
        intro v' w6 hown6 hgrow6 _
        have hB6 : Below w1.heap.size w1 w6 := (hB.alloc hB.size _).grown hgrow6 (by simp; have := hB.size; omega) (fun g hg => (hown.lt g hg).1)
        have hO6 : w6.ownsRow w1.heap.size 9 1 v' (T + 1) ((oldK l (K.take (k + 1))).map sv) := by
          rw [HTK.out, List.map_append]
          exact hown6
        clear hown6 hgrow6 hown hB e1 e2
        go_wp2_with fail
        go_roundw
        case rel => exact ⟨k + 1, T + 1, by omega, by go_num, HLN, hT2, hO6, hB6⟩
        case measure => simp [intOf]; omega
      | some i =>
        rw [ha] at hl
        rw [ha, Option.isNone_some, if_neg (by decide), List.append_nil] at htk
        have HLN := Lib.hid (show (oldK l (K.take (k + 1))).length = T by rw [htk]; exact hT.out)
        have HO := Lib.hid (show wr.ownsRow w1.heap.size 9 1 u5 T ((oldK l (K.take (k + 1))).map sv) by rw [htk]; exact hown)
        clear hx hcc hne htk ha hle hle2 hown
        go_wp2_with fail
        go_roundw
        case rel => exact ⟨k + 1, T, by omega, by go_num, HLN, hTm, HO.out, hB⟩
        case measure => simp [intOf]; omega
    · obtain rfl : k = n := by omega
      have eK : K.take k = K := List.take_of_length_le (by rw [HNK.out]; exact Nat.le_refl _)
      rw [eK] at hT hown
      have HOP2 := Lib.hid (fun W (hW : Below w1.heap.size w1 W) => HOP1.out.below hW)
      clear HSK HKS hlt eK
      go_wp2_with fail
      go_loopw [5, 46] (fun v iv wr2 => ∃ q T2 : Nat, q ≤ nO ∧ iv = .int .i64 q ∧ Hid ((oldK l K ++ newK p (l.take q)).length = T2) ∧ T2 ≤ 1000000000 ∧ wr2.ownsRow w1.heap.size 9 1 v T2 ((oldK l K ++ newK p (l.take q)).map sv) ∧ Below w1.heap.size w1 wr2) (fun _ iv _ => nO - (intOf iv).toNat)
      case atStart => exact ⟨0, T, Nat.zero_le _, rfl, by rw [List.take_zero]; show (oldK l K ++ []).length = T; rw [List.append_nil]; exact hT.out, by omega, by rw [List.take_zero]; show wr.ownsRow w1.heap.size 9 1 _ T ((oldK l K ++ []).map sv); rw [List.append_nil]; exact hown, hB⟩
      case round =>
        clear hown hB e1 e2
        obtain ⟨q, T2, hq, rfl, hT2, hTm2, hown, hB⟩ := hrel
        by_cases hltq : q < nO
        · obtain ⟨x, hx⟩ : ∃ x, l[q]? = some x := ⟨_, List.getElem?_eq_getElem (by rw [← HNO.out]; exact hltq)⟩
          obtain ⟨g, off, rfl, hg, g0, g1, g2⟩ := (HOP2.out _ hB).nth hx
          have hqz : (q : Int) < (nO : Int) := by omega
          have htk := newK_snoc p (l.take q) x
          rw [← take_snoc hx] at htk
          have hxk := HCS.out x (List.mem_of_getElem? hx)
          have hle := newK_len p (l.take (q + 1))
          have hle1 : (l.take (q + 1)).length ≤ nO := by rw [List.length_take, HNO.out]; omega
          have hle2 : (oldK l K).length ≤ 100000000 := by rw [hT.out]; exact hTm
          obtain ⟨key, val, gone⟩ := x
          simp only at g0 g1 g2 htk hxk
          have hB2 := hB.alloc hB.size (.cells #[.string key, .string val, .bool gone] 105)
          have hO2 := hown.alloc (.cells #[.string key, .string val, .bool gone] 105)
          have hC3 : Cells3 wr.heap.size key val gone (wr.alloc (.cells #[.string key, .string val, .bool gone] 105)) := cells3_new wr ⟨key, val, gone⟩ _
          have hlt2 : wr.heap.size < (wr.alloc (.cells #[.string key, .string val, .bool gone] 105)).heap.size := by simp
          have hsz2 : w1.heap.size ≤ (wr.alloc (.cells #[.string key, .string val, .bool gone] 105)).heap.size := hB2.size
          clear hx
          cases gone
          · cases hbg : beg p key
            · rw [hbg] at htk
              rw [if_neg (by decide), List.append_nil] at htk
              have HLN := Lib.hid (show (oldK l K ++ newK p (l.take (q + 1))).length = T2 by rw [htk]; exact hT2.out)
              have HO := Lib.hid (show (wr.alloc (.cells #[.string key, .string val, .bool false] 105)).ownsRow w1.heap.size 9 1 u5 T2 ((oldK l K ++ newK p (l.take (q + 1))).map sv) by rw [htk]; exact hO2)
              have cx := fun W => hasPrefix_any key p W (by omega) (by omega)
              unfold beg at hbg
              rw [hbg] at cx
              clear htk hO2 hown hB hbg hle hle1 hle2
              obtain ⟨f0, f1, f2⟩ := hC3
              go_wp2_with fail
              go_at_call 53
              refine (cx _).mono ?_
              rintro e w5 ⟨rfl, rfl⟩
              go_wp2_with fail
              go_roundw
              case rel => exact ⟨q + 1, T2, by omega, by go_num, HLN, hTm2, HO.out, hB2⟩
              case measure => simp [intOf]; omega
            · rw [hbg] at htk
              rw [if_pos (by decide)] at htk
              have HTK := Lib.hid htk
              have hT3 : T2 + 1 ≤ 1000000000 := by
                have := congrArg List.length htk
                rw [List.length_append, List.length_singleton] at this
                have h3 := hT2.out
                rw [List.length_append] at h3
                omega
              have HLN := Lib.hid (show (oldK l K ++ newK p (l.take (q + 1))).length = T2 + 1 by rw [htk, ← List.append_assoc, List.length_append, hT2.out]; rfl)
              have cx := fun W => hasPrefix_any key p W (by omega) (by omega)
              unfold beg at hbg
              rw [hbg] at cx
              clear htk hown hB hbg hle hle1 hle2
              obtain ⟨f0, f1, f2⟩ := hC3
              go_wp2_with fail
              go_at_call 53
              refine (cx _).mono ?_
              rintro e w5 ⟨rfl, rfl⟩
              go_wp2_with (at_builtin; refine wpList_append_own _ rfl _ _ 52 rfl w1.heap.size 9 i0 (.string ⟨#[]⟩) 1 16 Tryz.underlying52 hi hz0 hz1 hz2 rfl (by decide) _ _ _ rfl (hO2.alloc _) ⟨wr.heap.size + 1, 0, none⟩ 1 1 [sv key] rfl rfl ?c1_2 ?c2_2 ?c3_2 ?c4_2 ?c5_2 ?_)
              case c1_2 => exact (World.size_alloc wr (.cells #[.string key, .string val, .bool false] 105)) ▸ cell_one_new (wr.alloc (.cells #[.string key, .string val, .bool false] 105)) (sv key) 9
              case c2_2 => first | exact sv_one [key] | rfl
              case c3_2 => unfold maxLen; omega
              case c4_2 => omega
              case c5_2 => exact Nat.le_trans hB2.size (((Below.refl _ _).alloc (Nat.le_refl _) _).size)
              intro v' w6 hown6 hgrow6 _
              have hB6 : Below w1.heap.size w1 w6 := (hB2.alloc hB2.size _).grown hgrow6 (Nat.le_trans hB2.size (((Below.refl _ _).alloc (Nat.le_refl _) _).size)) (fun g hg => (hO2.lt g hg).1)
              have hO6 : w6.ownsRow w1.heap.size 9 1 v' (T2 + 1) ((oldK l K ++ newK p (l.take (q + 1))).map sv) := by
                rw [HTK.out]
                simp only [List.map_append, List.map_cons, List.map_nil, List.append_assoc] at hown6 ⊢
                exact hown6
              clear hown6 hgrow6 hO2 hB2
              go_wp2_with fail
              go_roundw
              case rel => exact ⟨q + 1, T2 + 1, by omega, by go_num, HLN, hT3, hO6, hB6⟩
              case measure => simp [intOf]; omega
          · rw [Bool.not_true, Bool.false_and, if_neg (by decide), List.append_nil] at htk
            have HLN := Lib.hid (show (oldK l K ++ newK p (l.take (q + 1))).length = T2 by rw [htk]; exact hT2.out)
            have HO := Lib.hid (show (wr.alloc (.cells #[.string key, .string val, .bool true] 105)).ownsRow w1.heap.size 9 1 u5 T2 ((oldK l K ++ newK p (l.take (q + 1))).map sv) by rw [htk]; exact hO2)
            clear htk hO2 hown hB hle hle1 hle2
            go_wp2_with fail
            go_roundw
            case rel => exact ⟨q + 1, T2, by omega, by go_num, HLN, hTm2, HO.out, hB2⟩
            case measure => simp [intOf]; omega
        · obtain rfl : q = nO := by omega
          have el : l.take q = l := List.take_of_length_le (by rw [HNO.out]; exact Nat.le_refl _)
          rw [el] at hT2 hown
          have hO : Texts wr w.heap.size _ (oldK l K ++ newK p l) := own_toT (Dk.own_base hown hb1.size) hT2.out
          have hol : (oldK l K ++ newK p l).length ≤ 4000000000 := by rw [hT2.out]; omega
          have hBw := Tx.below_call hb1 hB
          have cs := sortS_any _ (oldK l K ++ newK p l) wr w.heap.size hO hBw.size hol
          clear hO hown hT2 hB hol
          go_wp2_with (go_at_call 54; refine cs.mono ?_; rintro e w5 ⟨rfl, ts, hts, hso, htx, hb5⟩)
          go_ret
          obtain rfl : ts = held (pre7 p) (all7 L l) := rising_perm (hts.trans HPERM.out) hso HRS.out
          exact ⟨_, rfl, htx, hBw.trans hb5⟩
end Go.Proofs.YtdkgkomjbpggeaaGreatDoor.Tb

namespace Go.Proofs.YtdkgkomjbpggeaaGreatDoor.Bl
open Go.RowKit Tx Pm Dk Wm Wr Wl Pl Tb
set_option linter.unusedVariables false
set_option linter.unusedSimpArgs false
set_option linter.unnecessarySimpa false
def OwF {α : Type} (Obj : World → (Nat → Prop) → α → Prop) (z : World × (Nat → Prop)) (x : α) (W : World) : Prop := LeftA Obj z.1 z.2 x W
section
variable {α β : Type} {Obj : World → (Nat → Prop) → α → Prop} {Obj' : World → (Nat → Prop) → β → Prop} {z : World × (Nat → Prop)} {x : α} {y : β} {W : World}
theorem OwF.chg (h : OwF Obj z x W) : Chg z.2 z.1 W := by
  obtain ⟨F, _, h2, _⟩ := h
  exact h2
theorem OwF.call {f : FuncId} {args : Array Value} {P : Ending → Prop} (h : OwF Obj z x W) (hc : ∀ F, Obj W F x → Calls Tryz.prog f args W fun e w' => P e ∧ LeftA Obj' W F y w') : Calls Tryz.prog f args W fun e w' => P e ∧ OwF Obj' z y w' := by
  obtain ⟨F, h1, h2, h3⟩ := h
  refine (hc F h1).mono fun e w' ⟨hp, F', q1, q2, q3⟩ => ⟨hp, F', q1, h2.trans q2 h3, fun g hg => ?_⟩
  rcases q3 g hg with hh | hh
  · exact h3 g hh
  · exact .inr (Nat.le_trans h2.size hh)
theorem OwF.kept (hk : ∀ {w w1 : World} {F : Nat → Prop} {x : α}, Obj w F x → Below w.heap.size w w1 → Obj w1 F x) {w' : World} (h : OwF Obj z x W) (hb : Below W.heap.size W w') : OwF Obj z x w' := by
  obtain ⟨F, h1, h2, h3⟩ := h
  exact ⟨F, hk h1 hb, h2.then (Chg.of_below hb), h3⟩
end
section
variable {w0 : World × (Nat → Prop)} {W : World} {b j t m u k : Nat} {x y : Tst} {l : List Ch}
theorem owf_below {w' : World} (h : OwF (Tu b j t m u) w0 (x, l) W) (hb : Below W.heap.size W w') : OwF (Tu b j t m u) w0 (x, l) w' := OwF.kept (Obj := Tu b j t m u) (fun h hb => tb_below h hb) h hb
theorem f_batch {f : FuncId} {args : Array Value} {l' : List Ch} {P : Ending → Prop} (h : OwF (Tu b j t m u) w0 (x, l) W) (hc : ∀ pm vO G, BAt u pm (some ⟨t, 0, none⟩) vO W G l → Calls Tryz.prog f args W fun e w' => P e ∧ LeftA (Bn u (some ⟨t, 0, none⟩)) W G l' w') :
    Calls Tryz.prog f args W fun e w' => P e ∧ OwF (Tu b j t m u) w0 (x, l') w' :=
  h.call (fun H ⟨F, G, ⟨Fj, h1⟩, ⟨pm, vO, h2⟩, hd, hH⟩ => (hc pm vO G h2).mono fun e w' hh => ⟨hh.1, by
    obtain ⟨G', q, c, n⟩ := hh.2
    refine ⟨fun i => F i ∨ G' i, ⟨F, G', ⟨Fj, h1.kept (fun i hi => c.block i (h1.lt i hi) (hd i hi))⟩, q, fun i hi hg => ?_, fun i => Iff.rfl⟩, c.mono (fun i hi => (hH i).2 (.inr hi)), fun g hg => ?_⟩
    · rcases n i hg with hh | hh
      · exact hd i hi hh
      · have := h1.lt i hi; omega
    · rcases hg with hg | hg
      · exact .inl ((hH g).2 (.inl hg))
      · exact (n g hg).imp (fun hh => (hH g).2 (.inr hh)) id⟩)
theorem f_put {key val : ByteArray} (h : OwF (Tu b j t m u) w0 (x, l) W) (hk : key.size ≤ 1000000000000) (hl : l.length < 1000000000) : Calls Tryz.prog 32 #[.pointer (some ⟨u, 0, none⟩), .string key, .string val] W fun e w' => e = .returned (.tuple #[]) ∧ OwF (Tu b j t m u) w0 (x, bat l ⟨key, val, false⟩) w' :=
  f_batch h (fun pm vO G hB => bPut_any u pm _ vO key val W hB hk hl)
theorem f_drop {key : ByteArray} (h : OwF (Tu b j t m u) w0 (x, l) W) (hk : key.size ≤ 1000000000000) (hl : l.length < 1000000000) : Calls Tryz.prog 43 #[.pointer (some ⟨u, 0, none⟩), .string key] W fun e w' => e = .returned (.tuple #[]) ∧ OwF (Tu b j t m u) w0 (x, bat l ⟨key, ⟨#[]⟩, true⟩) w' :=
  f_batch h (fun pm vO G hB => bDrop_any u pm _ vO key W hB hk hl)
theorem f_bget {key : ByteArray} (h : OwF (Tu b j t m u) w0 (x, l) W) (hk : key.size ≤ 1000000000000000) : Calls Tryz.prog 38 #[.pointer (some ⟨u, 0, none⟩), .string key] W fun e w' => e = .returned (.tuple #[.string (overV x.L l key), .bool (overB x.L l key)]) ∧ Below W.heap.size W w' := by
  obtain ⟨H, ⟨F, G, ⟨Fj, h1⟩, ⟨pm, vO, h2⟩, hd, hH⟩, _, _⟩ := h
  exact bGet_any u t m pm vO x.L l key W h2 h1.cell.2.2.2 h1.rows hk
def Xk (x : Tst) : Prop := x.L.length ≤ 100000000 ∧ ∀ z ∈ x.L, z.path.size ≤ 1000
theorem f_facts (h : OwF (Tu b j t m u) w0 (x, l) W) : Rises x.L ∧ Once l := by
  obtain ⟨H, ⟨F, G, ⟨Fj, h1⟩, ⟨pm, vO, h2⟩, hd, hH⟩, _, _⟩ := h
  exact ⟨h1.rises, h2.once⟩
theorem f_bkeys {p : ByteArray} (h : OwF (Tu b j t m u) w0 (x, l) W) (hx : Xk x) (hl : l.length ≤ 100000000) (hks : ∀ c ∈ l, c.key.size ≤ 1000) (hp : p.size ≤ 1000) : Calls Tryz.prog 20 #[.pointer (some ⟨u, 0, none⟩), .string p] W (ListTo (held (pre7 p) (all7 x.L l)) W) := by
  obtain ⟨H, ⟨F, G, ⟨Fj, h1⟩, ⟨pm, vO, h2⟩, hd, hH⟩, _, _⟩ := h
  exact bKeys_any u t m pm vO x.L l p W h2 h1.cell.2.2.2 h1.rows h1.rises hx.1 hl (fun z hz => by have := hx.2 z hz; omega) (fun c hc => by have := hks c hc; omega) (by omega)
end
end Go.Proofs.YtdkgkomjbpggeaaGreatDoor.Bl

namespace Go.Proofs
open Go.Shelf
def Tryz.itoa_ren : Go.Shelf.Ren := ⟨fun | 171 => 68 | 243 => 105 | 246 => 140 | 283 => 164 | 284 => 165 | 285 => 166 | 286 => 167 | 129 => 130 | 317 => 179 | 318 => 180 | 319 => 181 | 320 => 182 | 337 => 191 | 338 => 192 | n => n, fun | 3 => 3 | 9 => 9 | 2 => 2 | 4 => 4 | 171 => 204 | 0 => 0 | 53 => 152 | 37 => 87 | 5 => 5 | 173 => 206 | 212 => 215 | 51 => 153 | 20 => 20 | 213 => 216 | 46 => 139 | 232 => 222 | 233 => 223 | n => n, fun | 17 => 0 | 18 => 2 | 19 => 3 | n => n⟩
theorem Tryz.itoa : Go.Proofs.LaysM.n171 Tryz.prog Tryz.itoa_ren := {
  mixed := by kernel_rfl
  f129 := Tryz.func130.trans (congrArg some (by kernel_rfl))
  f171 := Tryz.func68.trans (congrArg some (by kernel_rfl))
  f243 := Tryz.func105.trans (congrArg some (by kernel_rfl))
  f246 := Tryz.func140.trans (congrArg some (by kernel_rfl))
  f283 := Tryz.func164.trans (congrArg some (by kernel_rfl))
  f284 := Tryz.func165.trans (congrArg some (by kernel_rfl))
  f285 := Tryz.func166.trans (congrArg some (by kernel_rfl))
  f286 := Tryz.func167.trans (congrArg some (by kernel_rfl))
  f317 := Tryz.func179.trans (congrArg some (by kernel_rfl))
  f318 := Tryz.func180.trans (congrArg some (by kernel_rfl))
  f319 := Tryz.func181.trans (congrArg some (by kernel_rfl))
  f320 := Tryz.func182.trans (congrArg some (by kernel_rfl))
  f337 := Tryz.func191.trans (congrArg some (by kernel_rfl))
  f338 := Tryz.func192.trans (congrArg some (by kernel_rfl))
  t0 := Tryz.underlying0
  a0 := Tryz.isAgg0
  z0 := Tryz.sizeOf0
  v0 := Tryz.zeroValue0
  t2 := Tryz.underlying2
  a2 := Tryz.isAgg2
  z2 := Tryz.sizeOf2
  v2 := Tryz.zeroValue2
  t3 := Tryz.underlying3
  a3 := Tryz.isAgg3
  z3 := Tryz.sizeOf3
  v3 := Tryz.zeroValue3
  t4 := Tryz.underlying4
  a4 := Tryz.isAgg4
  z4 := Tryz.sizeOf4
  v4 := Tryz.zeroValue4
  t5 := Tryz.underlying5
  a5 := Tryz.isAgg5
  z5 := Tryz.sizeOf5
  v5 := Tryz.zeroValue5
  t9 := Tryz.underlying9
  a9 := Tryz.isAgg9
  z9 := Tryz.sizeOf9
  v9 := Tryz.zeroValue9
  t20 := Tryz.underlying20
  a20 := Tryz.isAgg20
  z20 := Tryz.sizeOf20
  v20 := Tryz.zeroValue20
  t37 := Tryz.underlying87
  a37 := Tryz.isAgg87
  z37 := Tryz.sizeOf87
  v37 := Tryz.zeroValue87
  t46 := Tryz.underlying139
  a46 := Tryz.isAgg139
  z46 := Tryz.sizeOf139
  v46 := Tryz.zeroValue139
  t51 := Tryz.underlying153
  a51 := Tryz.isAgg153
  z51 := Tryz.sizeOf153
  v51 := Tryz.zeroValue153
  t53 := Tryz.underlying152
  a53 := Tryz.isAgg152
  z53 := Tryz.sizeOf152
  v53 := Tryz.zeroValue152
  t171 := Tryz.underlying204
  a171 := Tryz.isAgg204
  z171 := Tryz.sizeOf204
  v171 := Tryz.zeroValue204
  t173 := Tryz.underlying206
  a173 := Tryz.isAgg206
  z173 := Tryz.sizeOf206
  v173 := Tryz.zeroValue206
  t212 := Tryz.underlying215
  a212 := Tryz.isAgg215
  z212 := Tryz.sizeOf215
  v212 := Tryz.zeroValue215
  t213 := Tryz.underlying216
  a213 := Tryz.isAgg216
  z213 := Tryz.sizeOf216
  t232 := Tryz.underlying222
  a232 := Tryz.isAgg222
  z232 := Tryz.sizeOf222
  v232 := Tryz.zeroValue222
  t233 := Tryz.underlying223
  a233 := Tryz.isAgg223
  z233 := Tryz.sizeOf223
  v233 := Tryz.zeroValue223
  g17 := by kernel_rfl
  g18 := by kernel_rfl
  g19 := by kernel_rfl
  i0 := by kernel_rfl
  i2 := by kernel_rfl
  i3 := by kernel_rfl
  i4 := by kernel_rfl
  i5 := by kernel_rfl
  i9 := by kernel_rfl
  i20 := by kernel_rfl
  i37 := by kernel_rfl
  i46 := by kernel_rfl
  i51 := by kernel_rfl
  i53 := by kernel_rfl
  i171 := by kernel_rfl
  i173 := by kernel_rfl
  i212 := by kernel_rfl
  i232 := by kernel_rfl
  i233 := by kernel_rfl
  m17 := by kernel_rfl
  m18 := by kernel_rfl
  m19 := by kernel_rfl }
end Go.Proofs

namespace Go.Proofs.YtdkgkomjbpggeaaGreatDoor.Bl
open Go.RowKit Tx Pm Dk Wm Wr Wl Pl Tb
set_option linter.unusedVariables false
set_option linter.unusedSimpArgs false
set_option linter.unnecessarySimpa false
theorem over_find {L : List It} {l : List Ch} {p : ByteArray} : overB L l p = (find (all7 L l) p).isSome := by
  rw [find_all]
  unfold overB after
  cases lastOf l p with
  | none => rfl
  | some c => cases hg : c.gone <;> simp [hg]
theorem over_val {L : List It} {l : List Ch} {p : ByteArray} {x : It} (h : find (all7 L l) p = some x) : overV L l p = x.data := by
  rw [find_all] at h
  unfold overV
  unfold after at h
  cases hl : lastOf l p with
  | none =>
    rw [hl] at h
    show (lookC L p).val = _
    unfold lookC
    rw [show find L p = some x from h]
    rfl
  | some c =>
    rw [hl] at h
    cases hg : c.gone
    · simp only [hg] at h
      injection h with h
      rw [← h]
      rfl
    · simp [hg] at h
def Tab (w : World) : Prop := Lib.TabIs Tryz.prog w "internal/strconv.uint64pow10" .u64 Lib.pow10Tab
theorem Tab.below {w w1 : World} (h : Tab w) (hb : Below w.heap.size w w1) : Tab w1 := Lib.tabBelow_of_tabIs h _ hb
def hexB : ByteArray := ⟨#[48, 49, 50, 51, 52, 53, 54, 55, 56, 57, 97, 98, 99, 100, 101, 102]⟩
theorem hexAt : ∀ i : Fin 16, hexB[i.val]'(by have := i.isLt; have : hexB.size = 16 := rfl; omega) = hexd i.val := by decide +kernel
theorem grp_cat (a b : UInt8) : (⟨#[98, 47]⟩ ++ ⟨#[a, b]⟩ ++ ⟨#[47]⟩ : ByteArray) = ⟨#[98, 47, a, b, 47]⟩ := ba_ext (by rw [app_l, app_l]; rfl)
theorem conv_two (a b : UInt8) (W : World) (g : Nat) (h : W.cell? ⟨g, 0, none⟩ = some (.int .u8 (a.toNat : Int))) (h2 : W.cell? ⟨g, 1, none⟩ = some (.int .u8 (b.toNat : Int))) : (convert 87 9 (.slice (some ⟨g, 0, none⟩) 2 2)).run Tryz.prog W = .ok (.string ⟨#[a, b]⟩) W := by
  exact run_convert_bytes_back W 87 9 5 ⟨g, 0, none⟩ 2 [a, b] Tryz.underlying87 Tryz.underlying5 Tryz.underlying9 (fun j hj => by
    match j, hj with
    | 0, _ => exact h
    | 1, _ => exact h2)
set_option maxRecDepth 100000 in
set_option maxHeartbeats 1000000 in
theorem group_any (s : ByteArray) (w : World) (hs : s.size ≤ 1000000000000000000) :
    Calls Tryz.prog 109 #[.string s] w fun e w' => e = .returned (.string (grp (lowO s))) ∧ Below w.heap.size w w' := by
  have c := Fr.fSum_w s w hs
  have hl := lowO_lt s
  have hlt := Fm.fsum_lt s.data.toList
  unfold lowO at hl ⊢
  generalize Fm.fsum s.data.toList = X at c hl hlt ⊢
  obtain ⟨l, hlX⟩ : ∃ l, l = X % 256 := ⟨_, rfl⟩
  rw [← hlX] at hl ⊢
  go_enter Tryz.func109, Tryz.ntmps109
  go_wp2_with (go_at_call 108; refine c.mono ?_; rintro e w1 ⟨rfl, rfl⟩)
  have e : (X : Int) % 256 = (l : Nat) := by omega
  rw [e]
  have hi1 : 0 ≤ (l : Int) / 16 ∧ (l : Int) / 16 < 16 := by omega
  have hi2 : 0 ≤ (l : Int) % 16 ∧ (l : Int) % 16 < 16 := by omega
  have hz1 : l / 16 < hexB.size := by have : hexB.size = 16 := rfl; omega
  have hz2 : l % 16 < hexB.size := by have : hexB.size = 16 := rfl; omega
  have hc := conv_two (hexB[l / 16]'hz1) (hexB[l % 16]'hz2) (w.alloc (.cells #[.int .u8 ((hexB[l / 16]'hz1).toNat : Int), .int .u8 ((hexB[l % 16]'hz2).toNat : Int)] 5)).drew w.heap.size (by go_simp) (by go_simp)
  have HX1 := Lib.hid (hexAt ⟨l / 16, by omega⟩)
  have HX2 := Lib.hid (hexAt ⟨l % 16, by omega⟩)
  have HB := Lib.hid (fun o => ((Below.refl w.heap.size w).alloc (Nat.le_refl _) o).drew)
  unfold hexB at hc hz1 hz2
  clear e c hlX hlt
  go_region
  all_goals
    go_wp2_with fail
    go_ret
    have e1 := HX1.out
    have e2 := HX2.out
    refine ⟨?_, HB.out _⟩
    unfold grp
    rw [← e1, ← e2]
    exact congrArg (fun x => Ending.returned (.string x)) (grp_cat _ _)
theorem store2 {w1 : World} {B : Nat} {T : TypeId} {v0 v1 : Value} (h : w1.heap[B]? = some (.cells #[v0, v1] T (0, 0))) (x0 x1 : Value) :
    (w1.cell? ⟨B, 0, none⟩ = some v0 ∧ w1.frozen? ⟨B, 0, none⟩ = false) ∧ ((w1.setCell ⟨B, 0, none⟩ x0).cell? ⟨B, 1, none⟩ = some v1 ∧ (w1.setCell ⟨B, 0, none⟩ x0).frozen? ⟨B, 1, none⟩ = false) ∧
    ((w1.setCell ⟨B, 0, none⟩ x0).setCell ⟨B, 1, none⟩ x1).heap[B]? = some (.cells #[x0, x1] T (0, 0)) ∧ Chg (· = B) w1 ((w1.setCell ⟨B, 0, none⟩ x0).setCell ⟨B, 1, none⟩ x1) := by
  have h1 : (w1.setCell ⟨B, 0, none⟩ x0).heap[B]? = some (.cells #[x0, v1] T (0, 0)) := by rw [set_block h]; rfl
  have h2 : ((w1.setCell ⟨B, 0, none⟩ x0).setCell ⟨B, 1, none⟩ x1).heap[B]? = some (.cells #[x0, x1] T (0, 0)) := by rw [set_block h1]; rfl
  refine ⟨⟨?_, ?_⟩, ⟨?_, ?_⟩, h2, (chg_set (b := B) (k := 0) x0).then (chg_set (b := B) (k := 1) x1)⟩
  · unfold World.cell?; rw [h]; rfl
  · unfold World.frozen?; rw [h]; simp
  · unfold World.cell?; rw [h1]; rfl
  · unfold World.frozen?; rw [h1]; simp
theorem infoCt : (Tryz.prog.info? 126).map (·.size) = some 2 := by kernel_rfl
section
variable {w0 : World × (Nat → Prop)} {W : World} {b j t m u M : Nat} {x : Tst} {l : List Ch} {C : List On} {key : ByteArray}
def onV (h : Nat) (d : ByteArray) : Value := .agg #[.int .i64 (h : Nat), .string d]
abbrev nC : Obj := .cells #[.int .i64 0, .string ⟨#[]⟩] 126
set_option maxRecDepth 100000 in
set_option maxHeartbeats 2000000 in
theorem find_not (h : OwF (Tu b j t m u) w0 (x, l) W) (hk : key.size ≤ 500000000000000) (hf : beg pB2 key = true → find (all7 x.L l) key = none) :
    Calls Tryz.prog 75 #[.pointer (some ⟨u, 0, none⟩), .string key] W fun e w' => e = .returned (.tuple #[onV 0 ⟨#[]⟩, .bool false]) ∧ Below W.heap.size W w' := by
  have cx := fun V => hasPrefix_any key pB2 V (by omega) (by decide)
  have hB0 : Below W.heap.size W (W.alloc nC) := (Below.refl _ W).alloc (Nat.le_refl _) _
  have hnew : (W.alloc nC).heap[W.heap.size]? = some nC := heap_alloc_new _ _
  have HB := Lib.hid hB0
  cases hb : beg pB2 key
  · unfold beg at hb
    rw [hb] at cx
    unfold pB2 at cx
    have HN := Lib.hid hnew
    clear hf h hb hB0 hnew
    go_enter Tryz.func75, Tryz.ntmps75
    go_wp2_with (go_at_call 53; refine (cx _).mono ?_; rintro e w1 ⟨rfl, rfl⟩)
    (try simp only [Exit.inBlock, Exit.then])
    refine bodyPost_ret (results_cell_row_tmp rfl _ _ _ _ _ _ _ rfl HN.out Tryz.underlying126 rfl infoCt) rfl ?_
    exact ⟨rfl, HB.out⟩
  · have ho := owf_below h hB0
    have cg := f_bget (key := key) ho (by omega)
    have e1 : overB x.L l key = false := by rw [over_find, hf hb]; rfl
    rw [e1] at cg
    generalize overV x.L l key = V at cg
    unfold beg at hb
    rw [hb] at cx
    unfold pB2 at cx
    have HN := Lib.hid hnew
    clear hf h hb hB0 hnew e1 ho
    go_enter Tryz.func75, Tryz.ntmps75
    go_wp2_with (go_at_call 53; refine (cx _).mono ?_; rintro e w1 ⟨rfl, rfl⟩)
    go_at_call 38
    refine cg.mono ?_
    rintro e w2 ⟨rfl, hb2⟩
    have hn2 : w2.heap[W.heap.size]? = some nC := (hb2.block _ (by simp)).trans HN.out
    obtain ⟨⟨a0, b0⟩, ⟨a1, b1⟩, hb3, hc3⟩ := store2 hn2 (.int .i64 0) (.string ⟨#[]⟩)
    have HC := Lib.hid hc3
    have HB2 := Lib.hid hb2
    clear hc3 hb2 cg cx
    go_wp2_with fail
    (try simp only [Exit.inBlock, Exit.then])
    refine bodyPost_ret (results_cell_row_tmp rfl _ _ _ _ _ _ _ rfl hb3 Tryz.underlying126 rfl infoCt) rfl ?_
    exact ⟨rfl, below_chgB (Tx.below_call HB.out HB2.out) HC.out (Nat.le_refl _)⟩
set_option maxRecDepth 100000 in
set_option maxHeartbeats 4000000 in
theorem find_val {h : Nat} {d : ByteArray} (ho : OwF (Tu b j t m u) w0 (x, l) W) (hk : key.size ≤ 500000000000000) (hbg : beg pB2 key = true) (hf : find (all7 x.L l) key = some (rw7 key (enc h d))) (hh : h ≤ 1000000000000) (hd : d.size ≤ 140737488351232) :
    Calls Tryz.prog 75 #[.pointer (some ⟨u, 0, none⟩), .string key] W fun e w' => e = .returned (.tuple #[onV h d, .bool true]) ∧ Below W.heap.size W w' := by
  have cx := fun V => hasPrefix_any key pB2 V (by omega) (by decide)
  have hB0 : Below W.heap.size W (W.alloc nC) := (Below.refl _ W).alloc (Nat.le_refl _) _
  have hnew : (W.alloc nC).heap[W.heap.size]? = some nC := heap_alloc_new _ _
  have HB := Lib.hid hB0
  have ho1 := owf_below ho hB0
  have cg := f_bget (key := key) ho1 (by omega)
  have e1 : overB x.L l key = true := by rw [over_find, hf]; rfl
  have e2 : overV x.L l key = enc h d := over_val hf
  rw [e1, e2] at cg
  have hes := enc_size (h := h) (d := d) (by omega) (by omega)
  have hesm : (enc h d).size ≤ maxLen := by unfold maxLen; omega
  have hts := tl_size (d := d) (by omega)
  have htm : (⟨(tl d).toArray⟩ : ByteArray).size ≤ maxLen := by unfold maxLen; omega
  have H1 := Lib.hid (enc_rdU (h := h) d (by omega))
  have H2 := Lib.hid (enc_rest h d)
  have H3 := Lib.hid (enc_rdT (d := d) (by omega))
  have HES := Lib.hid hesm
  have HTM := Lib.hid htm
  generalize enc h d = E at cg H1 H2 HES
  unfold beg at hbg
  rw [hbg] at cx
  unfold pB2 at cx
  have HN := Lib.hid hnew
  clear hf ho ho1 hbg hB0 hnew e1 e2 hes hts hesm htm
  go_enter Tryz.func75, Tryz.ntmps75
  go_wp2_with (go_at_call 53; refine (cx _).mono ?_; rintro e w1 ⟨rfl, rfl⟩)
  go_at_call 38
  refine cg.mono ?_
  rintro e w2 ⟨rfl, hb2⟩
  have cn := new_any E w2
  go_wp2_with fail
  go_at_call 96
  refine cn.mono ?_
  rintro e w3 ⟨rfl, rfl⟩
  have cu := uint_any w2.heap.size E _ (rat_new w2 E) HES.out
  rw [H1.out, H2.out] at cu
  have HB2 := Lib.hid hb2
  clear cg cx cn
  go_wp2_with fail
  go_at_call 111
  refine cu.mono ?_
  rintro e w4 ⟨rfl, hR4, hg4⟩
  have ct := text_any w2.heap.size _ w4 hR4 HTM.out
  rw [H3.out] at ct
  have HG4 := Lib.hid hg4
  clear cu hg4
  go_wp2_with fail
  go_at_call 97
  refine ct.mono ?_
  rintro e w5 ⟨rfl, hR5, hg5⟩
  have hB2w : Below W.heap.size W w2 := Tx.below_call HB.out HB2.out
  have hs2 : W.heap.size < w2.heap.size := Nat.lt_of_lt_of_le (by simp) HB2.out.size
  have hB3 : Below W.heap.size W (w2.alloc (.cells #[.string E] 172)) := hB2w.alloc hB2w.size _
  have hB4 := below_chgB hB3 (chg_grown HG4.out) (by omega)
  have hB5 := below_chgB hB4 (chg_grown hg5) (by omega)
  have hne : ∀ i, i = W.heap.size → ¬ i = w2.heap.size := fun i hi => by omega
  have hn2 : w2.heap[W.heap.size]? = some nC := (HB2.out.block _ (by simp)).trans HN.out
  have hn3 : (w2.alloc (.cells #[.string E] 172)).heap[W.heap.size]? = some nC := (((Below.refl w2.heap.size w2).alloc (Nat.le_refl _) _).block _ hs2).trans hn2
  have hn4 := ((chg_grown HG4.out).block W.heap.size (by simp; omega) (by omega)).trans hn3
  have hn5 := ((chg_grown hg5).block W.heap.size (by have := HG4.out.size; simp at this; omega) (by omega)).trans hn4
  obtain ⟨⟨a0, b0⟩, ⟨a1, b1⟩, hb3, hc3⟩ := store2 hn5 (.int .i64 (h : Nat)) (.string d)
  have HC := Lib.hid hc3
  have HB5 := Lib.hid hB5
  clear ct hR4 hR5 hg5 hB2w hB3 hB4 hB5 hn2 hn3 hn4 hn5 hc3
  go_wp2_with fail
  (try simp only [Exit.inBlock, Exit.then])
  refine bodyPost_ret (results_cell_row_tmp rfl _ _ _ _ _ _ _ rfl hb3 Tryz.underlying126 rfl infoCt) rfl ?_
  exact ⟨rfl, below_chgB HB5.out HC.out (Nat.le_refl _)⟩
end
end Go.Proofs.YtdkgkomjbpggeaaGreatDoor.Bl

namespace Go.Proofs.YtdkgkomjbpggeaaGreatDoor.Bl
open Go.RowKit Tx Pm Dk Wm Wr Wl Pl Tb
set_option linter.unusedVariables false
set_option linter.unusedSimpArgs false
set_option linter.unnecessarySimpa false
section
variable {w0 : World × (Nat → Prop)} {W : World} {b j t m u M : Nat} {x : Tst} {l : List Ch} {C : List On} {key : ByteArray}
theorem two_cells {W : World} {a c : ByteArray} {T : TypeId} : ∀ (j : Nat) z, [a, c][j]? = some z → (W.alloc (.cells #[.string a, .string c] T)).cell? ⟨W.heap.size, 0 + j, none⟩ = some (.string z) := by
  intro j z hz
  rw [World.cell?_alloc_at _ _ _ _ rfl]
  match j, hz with
  | 0, hz => simpa using hz
  | 1, hz => simpa using hz
  | j + 2, hz => simp at hz
set_option maxRecDepth 100000 in
set_option maxHeartbeats 2000000 in
theorem keep_any {h : Nat} {d : ByteArray} (ho : OwF (Tu b j t m u) w0 (x, l) W) (hk : key.size ≤ 1000000000000) (hl : l.length < 1000000000) (hh : h ≤ 1000000000000) (hd : d.size ≤ 140737488351232) :
    Calls Tryz.prog 76 #[.pointer (some ⟨u, 0, none⟩), .string key, onV h d] W fun e w' => e = .returned (.tuple #[]) ∧ OwF (Tu b j t m u) w0 (x, bat l ⟨key, enc h d, false⟩) w' := by
  have hB1 : Below W.heap.size W (W.alloc (.cells #[.int .i64 (h : Nat), .string d] 126)) := (Below.refl _ W).alloc (Nat.le_refl _) _
  have cu := fun V => putUint_any (h : Nat) V (by omega) (by omega)
  have eus : us (h : Nat) = vs h := by unfold us; rw [if_neg (by omega)]; rfl
  rw [eus] at cu
  have ct := fun V => putText_any d V (by omega)
  have hes := enc_size (h := h) (d := d) (by omega) (by omega)
  have cj := fun V : World => join_any V.heap.size 0 2 [vs h, ts d] (V.alloc (.cells #[.string (vs h), .string (ts d)] 9)) two_cells (by simp) (by show 2 ≤ _; omega) (Nat.le_refl _) (by show (enc h d).size ≤ _; omega)
  have HO := Lib.hid ho
  have HB1 := Lib.hid hB1
  have hc1 : (W.alloc (.cells #[.int .i64 (h : Nat), .string d] 126)).cell? ⟨W.heap.size, 1, none⟩ = some (.string d) := by go_simp
  have hs1 : W.heap.size < (W.alloc (.cells #[.int .i64 (h : Nat), .string d] 126)).heap.size := by simp
  have HC1 := Lib.hid hc1
  have HS1 := Lib.hid hs1
  clear ho hes eus hB1 hc1 hs1
  unfold onV
  go_enter Tryz.func76, Tryz.ntmps76
  go_wp2_with fail
  go_at_call 72
  refine (cu _).mono ?_
  rintro e w2 ⟨rfl, hb2⟩
  have hc2 := (hb2.cell (p := ⟨W.heap.size, 1, none⟩) HS1.out).trans HC1.out
  have hl2 : W.heap.size < w2.heap.size := Nat.lt_of_lt_of_le HS1.out hb2.size
  have HB2 := Lib.hid (Tx.below_call HB1.out hb2)
  clear hb2 cu
  go_wp2_with fail
  go_at_call 70
  refine (ct _).mono ?_
  rintro e w3 ⟨rfl, hb3⟩
  have HB3 := Lib.hid (Tx.below_call HB2.out hb3)
  have cj3 := cj w3
  clear hb3 ct cj hc2
  go_wp2_with fail
  go_at_call 69
  refine cj3.mono ?_
  rintro e w4 ⟨rfl, hb4⟩
  have hB4 : Below W.heap.size W w4 := Tx.below_call (HB3.out.alloc HB3.out.size _) hb4
  have cp := f_put (key := key) (val := enc h d) (owf_below HO.out hB4) hk hl
  clear cj3 hb4 hB4
  go_wp2_with fail
  go_at_call 32
  refine cp.mono ?_
  rintro e w5 ⟨rfl, ho5⟩
  go_wp2_with fail
  go_end0
  exact ⟨rfl, ho5⟩
theorem grow_below {w : World} (k : Nat) (os : Array Obj) : Below w.heap.size w (Sort.grow (w.drewN k) os) := Lib.below_grow w.heap.size w (Nat.le_refl _) k os
theorem itoa_any (n : Nat) (w : World) (hn : n ≤ 1000000000) (ht : Tab w) : Calls Tryz.prog 68 #[.int .i64 n] w fun e w' => e = .returned (.string (decB n)) ∧ Below w.heap.size w w' := by
  refine (Any.strconv_Itoa Tryz.itoa (n : Int) (by omega) (by omega) w ht).mono ?_
  rintro e w' ⟨rfl, k, os, rfl⟩
  have e1 : Lib.itoa (n : Int) = Lib.decDigits n := by unfold Lib.itoa; rw [if_neg (by omega)]; rfl
  rw [e1]
  exact ⟨rfl, grow_below k os⟩
set_option maxRecDepth 100000 in
set_option maxHeartbeats 2000000 in
theorem free_any {low : Nat} (ho : OwF (Tu b j t m u) w0 (x, l) W) (hR : Rep (all7 x.L l) C) (hg : Good8 C M) (hM : M ≤ 100000000) (hlow : low < 256) (ht : Tab W) :
    Calls Tryz.prog 110 #[.pointer (some ⟨u, 0, none⟩), .string (grp low)] W fun e w' => e = .returned (.string (keyN low (freeN C low))) ∧ Below W.heap.size W w' := by
  have HO := Lib.hid ho
  have HT := Lib.hid ht
  have HF := Lib.hid (show ∀ n, (find (all7 x.L l) (keyN low n)).isSome = takenB C low n from fun n => by
    rw [taken_at, hR.look _ (beg_key low n)]
    cases at8 C (keyN low n) <;> rfl)
  have HN := Lib.hid (free_not hg hlow)
  have hfl := free_lt hg hlow
  have hlen := hg.len
  obtain ⟨N, hN⟩ : ∃ N, N = freeN C low := ⟨_, rfl⟩
  have HFN := Lib.hid hN
  rw [← hN] at hfl
  have hNb : N ≤ 100000000 := by omega
  have hsz : (grp low).size = 5 := rfl
  clear ho hR hg ht hfl hlen hN
  go_enter Tryz.func110, Tryz.ntmps110
  go_wp2_with fail
  go_loopw [5] (fun v wr => ∃ n : Nat, n ≤ N ∧ v = .int .i64 n ∧ Below W.heap.size W wr) (fun v _ => N + 1 - (intOf v).toNat)
  case atStart => exact ⟨0, Nat.zero_le _, rfl, Below.refl _ _⟩
  case round =>
    obtain ⟨n, hn, rfl, hB⟩ := hrel
    have ci := itoa_any n wr (by omega) (HT.out.below hB)
    have hdn := decB_size (n := n) (by omega)
    have hsum : (grp low).size + (decB n).size ≤ 9223372036854775807 := by omega
    go_wp2_with fail
    go_at_call 68
    refine ci.mono ?_
    rintro e w1 ⟨rfl, hb1⟩
    have hB1 := Tx.below_call hB hb1
    have hks := keyN_size low (n := n) (by omega)
    have cg := f_bget (key := keyN low n) (owf_below HO.out hB1) (by omega)
    rw [over_find, HF.out n] at cg
    generalize overV x.L l (keyN low n) = V at cg
    clear ci hb1 hdn hB
    cases htk : takenB C low n with
    | false =>
      rw [htk] at cg
      have hnN : n = N := by
        rcases Nat.lt_or_ge n N with hh | hh
        · rw [HFN.out] at hh
          rw [free_below hh] at htk
          cases htk
        · omega
      have HE := Lib.hid (show keyN low n = keyN low (freeN C low) by rw [hnN, HFN.out])
      clear htk hnN
      go_wp2_with fail
      go_at_call 38
      refine cg.mono ?_
      rintro e w2 ⟨rfl, hb2⟩
      go_wp2_with fail
      go_ret
      rw [← HE.out]
      exact ⟨rfl, Tx.below_call hB1 hb2⟩
    | true =>
      rw [htk] at cg
      have hnN : n < N := by
        rcases Nat.lt_or_ge n N with hh | hh
        · exact hh
        · have e1 : n = freeN C low := by rw [← HFN.out]; omega
          rw [e1, HN.out] at htk
          cases htk
      clear htk
      go_wp2_with fail
      go_at_call 38
      refine cg.mono ?_
      rintro e w2 ⟨rfl, hb2⟩
      have hB2 := Tx.below_call hB1 hb2
      clear hB1 hb2
      go_wp2_with fail
      go_roundw
      case rel => exact ⟨n + 1, by omega, by go_num, hB2⟩
      case measure => simp [intOf]; omega
end
end Go.Proofs.YtdkgkomjbpggeaaGreatDoor.Bl

namespace Go.Proofs.YtdkgkomjbpggeaaGreatDoor.Bl
open Go.RowKit Tx Pm Dk Wm Wr Wl Pl Tb
set_option linter.unusedVariables false
set_option linter.unusedSimpArgs false
set_option linter.unnecessarySimpa false
def Bo (b j t m u : Nat) (x : Tst) (Z : List It) (w0 : World × (Nat → Prop)) (C : List On) (M N V : Nat) (W : World) : Prop :=
  ∃ l, OwF (Tu b j t m u) w0 (x, l) W ∧ Rep (all7 x.L l) C ∧ Good8 C M ∧ (∀ p, beg pB2 p = false → find (all7 x.L l) p = find Z p) ∧ l.length ≤ N ∧ (∀ c ∈ l, c.key.size ≤ 1000) ∧ wt l ≤ V
section
variable {w0 : World × (Nat → Prop)} {W : World} {b j t m u M N V : Nat} {x : Tst} {l : List Ch} {C : List On} {Z : List It} {key : ByteArray}
theorem Bo.chg (h : Bo b j t m u x Z w0 C M N V W) : Chg w0.2 w0.1 W := by
  obtain ⟨l, h1, _⟩ := h
  exact h1.chg
def TabZ (w0 : World × (Nat → Prop)) : Prop := ∀ V, Chg w0.2 w0.1 V → Tab V
theorem Bo.good (h : Bo b j t m u x Z w0 C M N V W) : Good8 C M := by
  obtain ⟨l, _, _, h1, _⟩ := h
  exact h1
theorem Bo.below {W1 : World} (h : Bo b j t m u x Z w0 C M N V W) (hb : Below W.heap.size W W1) : Bo b j t m u x Z w0 C M N V W1 := by
  obtain ⟨l, h1, h2⟩ := h
  exact ⟨l, owf_below h1 hb, h2⟩
theorem keyO_beg (y : On) : beg pB2 (keyO y) = true := beg_key _ _
theorem keyO_size (h : Good8 C M) (hM : M ≤ 100000000) {y : On} (hy : y ∈ C) : (keyO y).size ≤ 14 := keyN_size _ (by have := (h.each y hy).2.2.2.1; omega)
theorem bo_find (h : Bo b j t m u x Z w0 C M N V W) (hM : M ≤ 100000000) (hk : key.size ≤ 500000000000000) :
    Calls Tryz.prog 75 #[.pointer (some ⟨u, 0, none⟩), .string key] W fun e w' => e = .returned (match at8 C key with | some y => .tuple #[onV y.refs y.data, .bool true] | none => .tuple #[onV 0 ⟨#[]⟩, .bool false]) ∧ Below W.heap.size W w' := by
  obtain ⟨l, h1, h2, h3, h4, h5⟩ := h
  cases ha : at8 C key with
  | none => exact find_not h1 hk (fun hb => by rw [h2.look _ hb, ha]; rfl)
  | some y =>
    obtain ⟨hy, rfl⟩ := at8_some ha
    obtain ⟨_, _, e3, _, e5⟩ := h3.each y hy
    exact find_val h1 hk (keyO_beg y) (rep_mem h2 h3 hy) (by omega) e5
set_option maxRecDepth 100000 in
set_option maxHeartbeats 1000000 in
theorem get_any (h : Bo b j t m u x Z w0 C M N V W) (hM : M ≤ 100000000) (hk : key.size ≤ 500000000000000) :
    Calls Tryz.prog 144 #[.pointer (some ⟨u, 0, none⟩), .string key] W fun e w' => e = .returned (match at8 C key with | some y => .tuple #[.string y.data, .int .i64 0] | none => .tuple #[.string ⟨#[]⟩, .int .i64 11]) ∧ Below W.heap.size W w' := by
  have cf := bo_find h hM hk
  clear h
  generalize at8 C key = oy at cf ⊢
  cases oy with
  | none =>
    simp only at cf ⊢
    unfold onV at cf
    go_enter Tryz.func144, Tryz.ntmps144
    go_wp2_with fail
    go_at_call 75
    refine cf.mono ?_
    rintro e w1 ⟨rfl, hb1⟩
    have HB := Lib.hid hb1
    clear hb1 cf
    go_wp2_with fail
    go_ret2
    exact ⟨rfl, HB.out.alloc HB.out.size _⟩
  | some y =>
    simp only at cf ⊢
    unfold onV at cf
    go_enter Tryz.func144, Tryz.ntmps144
    go_wp2_with fail
    go_at_call 75
    refine cf.mono ?_
    rintro e w1 ⟨rfl, hb1⟩
    have HB := Lib.hid hb1
    clear hb1 cf
    go_wp2_with fail
    go_ret2
    exact ⟨rfl, HB.out.alloc HB.out.size _⟩
end
end Go.Proofs.YtdkgkomjbpggeaaGreatDoor.Bl

namespace Go.Proofs.YtdkgkomjbpggeaaGreatDoor.Bl
open Go.RowKit Tx Pm Dk Wm Wr Wl Pl Tb
set_option linter.unusedVariables false
set_option linter.unusedSimpArgs false
set_option linter.unnecessarySimpa false
section
variable {w0 : World × (Nat → Prop)} {W : World} {b j t m u M N V : Nat} {x : Tst} {l : List Ch} {C : List On} {Z : List It} {key : ByteArray}
def relE (r : Bool) : Int := if r then 0 else 11
theorem Bo.mono {M' N' V' : Nat} (h : Bo b j t m u x Z w0 C M N V W) (hM : M ≤ M') (hN : N ≤ N') (hV : V ≤ V') : Bo b j t m u x Z w0 C M' N' V' W := by
  obtain ⟨l, h1, h2, h3, h4, h5, h6, h7⟩ := h
  exact ⟨l, h1, h2, h3.mono hM, h4, Nat.le_trans h5 hN, h6, Nat.le_trans h7 hV⟩
end
def x0 : Tst := ⟨⟨s0T, [], false⟩, []⟩
theorem tabz {w W : World} {F : Nat → Prop} (hT : Tab w) (hb : Below w.heap.size w W) (hF : ∀ i, F i → w.heap.size ≤ i) : TabZ (W, F) := fun V hc => hT.below (hb.trans (hc.below hb.size hF))
theorem tu_lt {b j t m u : Nat} {w : World} {F : Nat → Prop} {y : Tst × List Ch} (h : Tu b j t m u w F y) : ∀ i, F i → i < w.heap.size := by
  obtain ⟨F1, G, ⟨Fj, h1⟩, ⟨pm, vO, h2⟩, hd, hH⟩ := h
  exact fun i hi => ((hH i).1 hi).elim (h1.lt i) (h2.lt i)
theorem Bo.rebase {b j t m u M N V : Nat} {x : Tst} {Z : List It} {w0 : World × (Nat → Prop)} {C : List On} {W : World} (h : Bo b j t m u x Z w0 C M N V W) : ∃ F : Nat → Prop, (∀ i, F i → w0.2 i ∨ w0.1.heap.size ≤ i) ∧ (∀ i, F i → i < W.heap.size) ∧ Chg w0.2 w0.1 W ∧ Bo b j t m u x Z (W, F) C M N V W := by
  obtain ⟨l, ⟨F, h1, h2, h3⟩, hh⟩ := h
  exact ⟨F, h3, tu_lt h1, h2, l, ⟨F, h1, Chg.refl F W, fun g hg => .inl hg⟩, hh⟩
def Bw (b j t m u : Nat) (x : Tst) (Z : List It) (w : World) (C : List On) (M N V : Nat) (v : Value) (n : Nat) (xs : List ByteArray) (W : World) : Prop :=
  ∃ F : Nat → Prop, Bo b j t m u x Z (W, F) C M N V W ∧ (∀ i, F i → w.heap.size ≤ i) ∧ (∀ i, F i → i < W.heap.size) ∧ Below w.heap.size w W ∧ W.ownsRow w.heap.size 9 1 v n (xs.map sv) ∧ ∀ g, v.ownBlock = some g → ¬ F g
section
variable {w W : World} {b j t m u M N V M' N' V' n : Nat} {x : Tst} {C C' : List On} {Z : List It} {v : Value} {xs : List ByteArray}
theorem Bw.bel (h : Bw b j t m u x Z w C M N V v n xs W) : Below w.heap.size w W := by
  obtain ⟨F, _, _, _, h4, _⟩ := h
  exact h4
theorem Bw.good (h : Bw b j t m u x Z w C M N V v n xs W) : Good8 C M := by
  obtain ⟨F, h1, _⟩ := h
  exact h1.good
theorem Bw.call {f : FuncId} {args : Array Value} {P : Ending → Prop} (h : Bw b j t m u x Z w C M N V v n xs W) (ht : Tab w) (hc : ∀ F, TabZ (W, F) → Bo b j t m u x Z (W, F) C M N V W → Calls Tryz.prog f args W fun e w' => P e ∧ Bo b j t m u x Z (W, F) C' M' N' V' w') :
    Calls Tryz.prog f args W fun e w' => P e ∧ Bw b j t m u x Z w C' M' N' V' v n xs w' := by
  obtain ⟨F, h1, h2, h3, h4, h5, h6⟩ := h
  refine (hc F (tabz ht h4 h2) h1).mono fun e w' ⟨hp, hB⟩ => ⟨hp, ?_⟩
  obtain ⟨F', q1, q2, q3, q4⟩ := hB.rebase
  have hs := h4.size
  refine ⟨F', q4, fun i hi => (q1 i hi).elim (h2 i) (fun hh => Nat.le_trans hs hh), q2, h4.trans (q3.below hs h2), own_chg h5 q3 h6, fun g hg hF => ?_⟩
  rcases q1 g hF with hh | hh
  · exact h6 g hg hh
  · have := (h5.lt g hg).2
    have hh : W.heap.size ≤ g := hh
    omega
theorem Bw.below {W' : World} (h : Bw b j t m u x Z w C M N V v n xs W) (hb : Below W.heap.size W W') : Bw b j t m u x Z w C M N V v n xs W' := by
  obtain ⟨F, h1, h2, h3, h4, h5, h6⟩ := h
  obtain ⟨l, ⟨F1, g1, g2, g3⟩, hh⟩ := h1
  refine ⟨F1, ⟨l, ⟨F1, tb_below g1 hb, Chg.refl F1 W', fun g hg => .inl hg⟩, hh⟩, fun i hi => (g3 i hi).elim (h2 i) (fun hh => Nat.le_trans h4.size hh), fun i hi => Nat.lt_of_lt_of_le (tu_lt g1 i hi) hb.size, Tx.below_call h4 hb, own_belowT h5 hb, fun g hg hF => ?_⟩
  rcases g3 g hF with hh | hh
  · exact h6 g hg hh
  · have := (h5.lt g hg).2
    have hh : W.heap.size ≤ g := hh
    omega
theorem Bw.app {W1 W' : World} {v' : Value} {y : ByteArray} (h : Bw b j t m u x Z w C M N V v n xs W) (hb : Below W.heap.size W W1) (ho : W'.ownsRow w.heap.size 9 1 v' (n + 1) ((xs ++ [y]).map sv))
    (hg : (v'.ownBlock = v.ownBlock ∧ W1.grownBy W' v.ownBlock) ∨ (v'.ownBlock = some W1.heap.size ∧ W1.grownBy W' none)) : Bw b j t m u x Z w C M N V v' (n + 1) (xs ++ [y]) W' := by
  obtain ⟨F, h1, h2, h3, h4, h5, h6⟩ := h.below hb
  obtain ⟨l, ⟨F1, g1, g2, g3⟩, hh⟩ := h1
  have hF1 : ∀ i, F1 i → i < W1.heap.size := tu_lt g1
  have hsub : ∀ i, F1 i → F i := fun i hi => (g3 i hi).elim id (fun hh => by have := hF1 i hi; have hh : W1.heap.size ≤ i := hh; omega)
  have hkeep : ∀ i, F1 i → W'.heap[i]? = W1.heap[i]? := fun i hi => by
    rcases hg with ⟨_, g⟩ | ⟨_, g⟩
    · exact g.block i (hF1 i hi) (fun e => h6 i e.symm (hsub i hi))
    · exact g.block i (hF1 i hi) (by simp)
  have hsz : W1.heap.size ≤ W'.heap.size := by
    rcases hg with ⟨_, g⟩ | ⟨_, g⟩
    · exact g.size
    · exact g.size
  have hbel : Below w.heap.size w W' := by
    rcases hg with ⟨_, g⟩ | ⟨_, g⟩
    · exact h4.grown g h4.size (fun k hk => (h5.lt k hk).1)
    · exact h4.grown g h4.size (fun k hk => by cases hk)
  have hT : Tu b j t m u W' F1 (x, l) := by
    obtain ⟨Fa, G, ⟨Fj, a1⟩, ⟨pm, vO, a2⟩, hd, hH⟩ := g1
    exact ⟨Fa, G, ⟨Fj, a1.kept (fun i hi => hkeep i ((hH i).2 (.inl hi)))⟩, ⟨pm, vO, a2.kept (fun i hi => hkeep i ((hH i).2 (.inr hi)))⟩, hd, hH⟩
  refine ⟨F1, ⟨l, ⟨F1, hT, Chg.refl F1 W', fun g hg => .inl hg⟩, hh⟩, fun i hi => h2 i (hsub i hi), fun i hi => Nat.lt_of_lt_of_le (hF1 i hi) hsz, hbel, ho, fun g hg2 hF => ?_⟩
  rcases hg with ⟨e, _⟩ | ⟨e, _⟩
  · rw [e] at hg2
    exact h6 g hg2 (hsub g hF)
  · rw [e] at hg2
    injection hg2 with hg2
    have := hF1 g hF
    omega
theorem Bw.first {w0 : World × (Nat → Prop)} (hB : Bo b j t m u x Z w0 C M N V W) (hF : ∀ i, w0.2 i → w.heap.size ≤ i) (hs : w.heap.size ≤ w0.1.heap.size) (hb : Below w.heap.size w W) : Bw b j t m u x Z w C M N V (.slice none 0 0) 0 [] W := by
  obtain ⟨F', q1, q2, q3, q4⟩ := hB.rebase
  exact ⟨F', q4, fun i hi => (q1 i hi).elim (hF i) (fun hh => Nat.le_trans hs hh), q2, hb, World.ownsRow_nil _ _ _ _, fun g hg => by cases hg⟩
theorem Bw.strs (h : Bw b j t m u x Z w C M N V v n xs W) (hl : xs.length = n) : ∃ a c, v = .slice a n c ∧ Strs W a n xs ∧ n ≤ c ∧ c ≤ maxLen := by
  obtain ⟨F, h1, h2, h3, h4, h5, h6⟩ := h
  have hT : Texts W w.heap.size v xs := own_toT h5 hl
  obtain ⟨a, c, e1, e2, e3, e4⟩ := hT.form
  rw [hl] at e1 e2 e3
  exact ⟨a, c, e1, e2, e3, e4⟩
theorem Bw.mono (h : Bw b j t m u x Z w C M N V v n xs W) (hM : M ≤ M') (hN : N ≤ N') (hV : V ≤ V') : Bw b j t m u x Z w C M' N' V' v n xs W := by
  obtain ⟨F, h1, h2⟩ := h
  exact ⟨F, h1.mono hM hN hV, h2⟩
end
end Go.Proofs.YtdkgkomjbpggeaaGreatDoor.Bl

namespace Go.Proofs.YtdkgkomjbpggeaaGreatDoor.Bl
open Go.RowKit Tx Pm Dk Wm Wr Wl Pl Tb
set_option linter.unusedVariables false
set_option linter.unusedSimpArgs false
set_option linter.unnecessarySimpa false
section
variable {w0 : World × (Nat → Prop)} {W : World} {b j t m u M N V : Nat} {x : Tst} {C : List On} {Z : List It} {d : ByteArray}
end
end Go.Proofs.YtdkgkomjbpggeaaGreatDoor.Bl

namespace Go.Proofs.YtdkgkomjbpggeaaGreatDoor.Dk
open Go.ChangeShapes Go.WideShapes Go.ChangeAt Go.RowKit Tx
set_option linter.unusedVariables false
end Go.Proofs.YtdkgkomjbpggeaaGreatDoor.Dk

namespace Go.Proofs.YtdkgkomjbpggeaaGreatDoor.Bl
open Go.ChangeMaps (open_string shut_string)
open Go.ChangeShapes Go.WideShapes Go.ChangeAt Go.RowKit Tx Pm Dk Wm Wr Wl Pl Tb
set_option linter.unusedVariables false
set_option linter.unusedSimpArgs false
set_option linter.unnecessarySimpa false
theorem gTab : Tryz.prog.globalNamed "internal/strconv.uint64pow10" = some 0 := by kernel_rfl
theorem gTabT : (Tryz.prog.globals[0]?).map (·.type) = some 215 := by kernel_rfl
theorem tab_laid {W : World} (h : laidMetH Tryz.prog [("math/bits.deBruijn32tab", Rows.laid_math_bits_deBruijn32tab), ("math/bits.deBruijn64tab", Rows.laid_math_bits_deBruijn64tab), ("internal/strconv.uint64pow10", Rows.laid_internal_strconv_uint64pow10)] W) : Tab W := by
  rw [MakeChecks.laidMetH_plain _ _ _ (by kernel_rfl)] at h
  obtain ⟨g, t, cs, fuel, p, h1, h2, h3, h4⟩ := Lib.laidMet.reads h (n := "internal/strconv.uint64pow10") (d := Rows.laid_internal_strconv_uint64pow10) (List.mem_cons_of_mem _ (List.mem_cons_of_mem _ (List.mem_cons_self ..)))
  obtain rfl := Option.some.inj (gTab.symm.trans h1)
  obtain rfl := Option.some.inj (gTabT.symm.trans h2)
  have e := Lib.cells_of_tab (k := .u64) (zs := Lib.pow10Tab) (n := 20) Tryz.underlying215 Tryz.underlying152 (by kernel_rfl) (by kernel_rfl) h4
  unfold Tab Lib.TabIs
  rw [h3, ← e]
theorem Strs.at2 {W : World} {a : Option Addr} {n : Nat} {l : List ByteArray} (h : Strs W a n l) {k : Nat} {x : ByteArray} (hx : l[k]? = some x) (hk : k < n) : ∃ b o, a = some ⟨b, o, none⟩ ∧ b < W.heap.size ∧ W.cell? ⟨b, o + k, none⟩ = some (.string x) := by
  rcases h.2 with h0 | ⟨b, o, e, hb, hc⟩
  · omega
  · exact ⟨b, o, e, hb, hc k x hx⟩
section
variable {w W : World} {b j t m u M N V n : Nat} {x : Tst} {C : List On} {Z : List It} {v : Value} {xs : List ByteArray} {w0 : World × (Nat → Prop)}
theorem Bw.row (h : Bw b j t m u x Z w C M N V v n xs W) : W.ownsRow w.heap.size 9 1 v n (xs.map sv) := by
  obtain ⟨F, _, _, _, _, h5, _⟩ := h
  exact h5
theorem Bw.keys {a : Option Addr} {c : Nat} (h : Bw b j t m u x Z w C M N V (.slice a n c) n xs W) : Strs W a n xs := by
  have hl : xs.length = n := by
    have := h.row.1
    simpa using this
  obtain ⟨a', c', e, hs, _⟩ := h.strs hl
  injection e with e1 _ e2
  subst e1
  exact hs
theorem strs_row {W : World} {B n : Nat} {a : Option Addr} {c : Nat} {xs : List ByteArray} (h : W.ownsRow B 9 1 (.slice a n c) n (xs.map sv)) : Strs W a n xs := by
  have hl : xs.length = n := by
    have := h.1
    simpa using this
  have hT : Texts W B (.slice a n c) xs := own_toT h hl
  obtain ⟨a', c', e, hs, _⟩ := hT.form
  rw [hl] at e hs
  injection e with e1 _ e2
  subst e1
  exact hs
theorem keys_perm {R : List It} (hR : Rep R C) (hg : Good8 C M) : (held (pre7 pB2) R).Perm (C.map keyO) := by
  refine (List.perm_ext_iff_of_nodup (nodup_held hR.rises _) (List.pairwise_map.2 hg.keys)).2 (fun a => ?_)
  rw [mem_held hR.rises, List.mem_map]
  constructor
  · rintro ⟨h1, h2⟩
    obtain ⟨y, hy, e, _⟩ := rep_key hR h2 h1
    exact ⟨y, hy, e⟩
  · rintro ⟨y, hy, rfl⟩
    exact ⟨by rw [rep_mem hR hg hy]; rfl, keyO_beg y⟩
end
section
variable {w W : World} {b j t m u M N V n : Nat} {x y : Tst} {C : List On} {Z : List It}
end
theorem cnt_pos {l : List ByteArray} {d : ByteArray} : 0 < cnt l d ↔ d ∈ l := by
  unfold cnt
  rw [List.countP_pos_iff]
  constructor
  · rintro ⟨y, hy, e⟩
    rw [decide_eq_true_iff] at e
    exact e ▸ hy
  · intro h
    exact ⟨d, h, by simp⟩
structure RelInv (l : List ByteArray) (i : Nat) (C : List On) : Prop where
  refs : ∀ d, refD C d = cnt (l.drop i) d
  has : ∀ d, (of8 C d).isSome = decide (0 < cnt (l.drop i) d)
  key : ∀ d, (of8 C d).isSome = true → keyD C d = keyD (puts l) d
end Go.Proofs.YtdkgkomjbpggeaaGreatDoor.Bl

namespace Go.Proofs.YtdkgkomjbpggeaaGreatDoor.Bl
open Go.RowKit Tx Pm Dk Wm Wr Wl Pl Tb
set_option linter.unusedVariables false
set_option linter.unusedSimpArgs false
set_option linter.unnecessarySimpa false
def inL (l : List ByteArray) (s : ByteArray) : Bool := l.any (fun x => decide (x = s))
theorem inL_iff {l : List ByteArray} {s : ByteArray} : inL l s = true ↔ s ∈ l := by
  unfold inL
  rw [List.any_eq_true]
  constructor
  · rintro ⟨x, hx, e⟩
    rw [decide_eq_true_iff] at e
    exact e ▸ hx
  · intro h
    exact ⟨s, h, by simp⟩
theorem inL_snoc (l : List ByteArray) (y s : ByteArray) : inL (l ++ [y]) s = (inL l s || decide (y = s)) := by
  unfold inL
  rw [List.any_append]
  simp
end Go.Proofs.YtdkgkomjbpggeaaGreatDoor.Bl

namespace Go.Proofs.YtdkgkomjbpggeaaGreatDoor.Bl
open Go.RowKit Tx Pm Dk Wm Wr Wl Pl Tb
set_option linter.unusedVariables false
set_option linter.unusedSimpArgs false
set_option linter.unnecessarySimpa false
def ReadsT (D : DataW Unit) (l : List ByteArray) : Prop := ∀ p z, D.atKey (kL p) z = if cnt l p = 0 then z else .lit (.int .i64 (cnt l p : Nat))
def Tc (w : World) (tm : Nat) (l : List ByteArray) : Prop := ∃ D : DataW Unit, w.ownsMap Tryz.prog 9 (plainElem Tryz.prog 3) tm l.length D ∧ ReadsT D l ∧ Go.Maps.size D ≤ l.length
theorem Tc.lt {w : World} {tm : Nat} {l : List ByteArray} (h : Tc w tm l) : tm < w.heap.size := by
  obtain ⟨D, h, _⟩ := h
  exact h.lt
theorem Tc.kept {w w1 : World} {tm : Nat} {l : List ByteArray} (h : Tc w tm l) (he : w1.heap[tm]? = w.heap[tm]?) : Tc w1 tm l := by
  obtain ⟨D, h, r⟩ := h
  exact ⟨D, Dk.ownsMap_at h he, r⟩
theorem Tc.look {w : World} {tm : Nat} {l : List ByteArray} (h : Tc w tm l) {p : ByteArray} (hp : p.size ≤ maxLen) :
    (Instr.lookup 60 (.map (some tm)) (.string p) false).run Tryz.prog w = .ok (.int .i64 (cnt l p : Nat)) w := by
  obtain ⟨D, ho, hr, _⟩ := h
  obtain ⟨u, ps, hrun, hv⟩ := ho.lookup strK Tryz.underlying60 (zeroN w) (plainElem_int Tryz.underlying3 (by decide)) (keyP hp)
  rw [hrun]
  obtain ⟨c, rfl, hc, hwc⟩ := plainElem_int_inv Tryz.underlying3 hv
  have hc := congrArg Prod.fst hc
  simp only [hr p] at hc
  by_cases hz : cnt l p = 0
  · rw [if_pos hz] at hc
    cases hc
    rw [hz]
    rfl
  · rw [if_neg hz] at hc
    cases hc
    rfl
theorem Tc.store {w : World} {tm : Nat} {l : List ByteArray} (h : Tc w tm l) {p : ByteArray} (hp : p.size ≤ maxLen) (hn : l.length < 1000000000000) :
    ∃ w', (Instr.mapUpdate 60 (.map (some tm)) (.string p) (.int .i64 ((cnt l p : Nat) + 1))).run Tryz.prog w = .ok () w' ∧ Tc w' tm (l ++ [p]) ∧ w.mapTurned w' tm := by
  obtain ⟨D, ho, hr, hs⟩ := h
  have hcl : cnt l p ≤ l.length := List.countP_le_length
  have hw : (Lit.int .i64 ((cnt l p : Nat) + 1)).wf = true := by simp [Lit.wf, IntKind.min, IntKind.max, IntKind.signed, IntKind.bits]; omega
  obtain ⟨w', hrun, ho', ht⟩ := ho.store strK Tryz.underlying60 (by unfold maxLen; omega) (keyP hp) (plainElem_int Tryz.underlying3 hw)
  have hsz : Go.Maps.size (D.put (kL p) (.lit (.int .i64 ((cnt l p : Nat) + 1)))) ≤ (l ++ [p]).length := by
    have h1 := Go.Maps.size_put (ho.tidy strK) (k := kL p) (.lit (.int .i64 ((cnt l p : Nat) + 1)))
    rw [h1, List.length_append]
    show _ ≤ l.length + 1
    split <;> omega
  refine ⟨w', hrun, ⟨_, own_len ho' hsz, fun q z => ?_, hsz⟩, ht⟩
  rw [cnt_snoc]
  by_cases he : p = q
  · subst he
    rw [if_pos rfl, if_neg (by omega), Go.Maps.atKey_put_same ho.isMap (kL_key _)]
    rfl
  · rw [if_neg he, Go.Maps.atKey_put_other (fun e => he (kL_inj e).symm)]
    exact hr q z
theorem tc_made (w : World) : Tc (w.alloc (.map #[] 0)) w.heap.size [] := ⟨_, World.ownsMap_made w _ _ _, fun p z => rfl, Nat.le_refl _⟩
def one8 (C : List On) (held : List ByteArray) (p : ByteArray) : List On := if cnt held p = 0 then delR C p else setR C p (cnt held p)
def many8 (C : List On) (held : List ByteArray) (K : List ByteArray) : List On := K.foldl (fun C p => one8 C held p) C
theorem many8_snoc (C : List On) (held K : List ByteArray) (p : ByteArray) : many8 C held (K ++ [p]) = one8 (many8 C held K) held p := by unfold many8; rw [List.foldl_append]; rfl
def swC (C : List On) (held : List ByteArray) : List On := C.filterMap (fun y => if cnt held (keyO y) = 0 then none else some { y with refs := cnt held (keyO y) })
def goneN (held K : List ByteArray) : Nat := K.countP (fun p => decide (cnt held p = 0))
theorem one8_id {C : List On} {M : Nat} (hg : Good8 C M) {y : On} (hy : y ∈ C) : setR C (keyO y) y.refs = C := by
  unfold setR
  refine (List.map_congr_left (fun z hz => ?_)).trans (List.map_id C)
  by_cases he : keyO z = keyO y
  · rw [if_pos he]
    have e1 := hg.at hy
    rw [← he, hg.at hz] at e1
    injection e1 with e1
    rw [e1]
    rfl
  · rw [if_neg he]
    rfl
theorem fm_congr {α β : Type} {f g : α → Option β} : ∀ {l : List α}, (∀ x ∈ l, f x = g x) → l.filterMap f = l.filterMap g
  | [], _ => rfl
  | x :: l, h => by
    rw [List.filterMap_cons, List.filterMap_cons, h x (List.mem_cons_self ..), fm_congr (l := l) (fun y hy => h y (List.mem_cons_of_mem _ hy))]
theorem many8_is (held : List ByteArray) : ∀ (K : List ByteArray) (C : List On), many8 C held K = C.filterMap (fun y => if inL K (keyO y) = true then (if cnt held (keyO y) = 0 then none else some { y with refs := cnt held (keyO y) }) else some y) := by
  intro K
  refine snoc7 (P := fun K => ∀ C, many8 C held K = C.filterMap (fun y => if inL K (keyO y) = true then (if cnt held (keyO y) = 0 then none else some { y with refs := cnt held (keyO y) }) else some y)) (fun C => ?_) (fun K p ih C => ?_) K
  · show C = _
    simp [inL]
  · rw [many8_snoc, ih C]
    unfold one8
    have hin : ∀ y : On, inL (K ++ [p]) (keyO y) = (inL K (keyO y) || decide (p = keyO y)) := fun y => inL_snoc K p (keyO y)
    by_cases h0 : cnt held p = 0
    · rw [if_pos h0]
      unfold delR
      rw [List.filter_filterMap]
      refine fm_congr (fun y hy => ?_)
      have hk2 : keyO { y with refs := cnt held (keyO y) } = keyO y := rfl
      rw [hin]
      by_cases he : p = keyO y
      · subst he
        by_cases hK : inL K (keyO y) = true
        · simp [hK, h0]
        · simp [hK, h0, Option.filter]
      · have he2 : ¬ keyO y = p := fun e => he e.symm
        by_cases hK : inL K (keyO y) = true
        · by_cases hc : cnt held (keyO y) = 0
          · simp [hK, hc]
          · simp [hK, hc, he, he2, hk2, Option.filter]
        · simp [hK, he, he2, Option.filter]
    · rw [if_neg h0]
      unfold setR
      rw [List.map_filterMap]
      refine fm_congr (fun y hy => ?_)
      have hk2 : keyO { y with refs := cnt held (keyO y) } = keyO y := rfl
      rw [hin]
      by_cases he : p = keyO y
      · subst he
        by_cases hK : inL K (keyO y) = true
        · rw [if_pos hK, if_neg h0, if_pos (by rw [hK]; rfl)]
          show some (if keyO { y with refs := cnt held (keyO y) } = keyO y then _ else _) = _
          rw [if_pos hk2]
        · rw [if_neg hK, if_pos (by simp), if_neg h0]
          show some (if keyO y = keyO y then _ else _) = _
          rw [if_pos rfl]
      · have he2 : ¬ keyO y = p := fun e => he e.symm
        have hd : (inL K (keyO y) || decide (p = keyO y)) = inL K (keyO y) := by simp [he]
        rw [hd]
        by_cases hK : inL K (keyO y) = true
        · rw [if_pos hK]
          by_cases hc : cnt held (keyO y) = 0
          · rw [if_pos hc]; rfl
          · rw [if_neg hc]
            show some (if keyO { y with refs := cnt held (keyO y) } = p then _ else _) = _
            rw [if_neg (fun e => he2 (hk2.symm.trans e))]
        · rw [if_neg hK]
          show some (if keyO y = p then _ else y) = _
          rw [if_neg he2]
theorem many8_all {C : List On} {held K : List ByteArray} (h : ∀ y ∈ C, keyO y ∈ K) : many8 C held K = swC C held := by
  rw [many8_is]
  unfold swC
  exact fm_congr (fun y hy => by rw [if_pos (inL_iff.2 (h y hy))])
section
variable {w0 : World × (Nat → Prop)} {W : World} {b j t m u M N V : Nat} {x : Tst} {C : List On} {Z : List It} {key : ByteArray}
theorem Bo.fresh (h : Bo b j t m u x Z w0 C M N V W) : ∃ F : Nat → Prop, (∀ i, F i → w0.2 i ∨ w0.1.heap.size ≤ i) ∧ (∀ i, F i → i < W.heap.size) ∧ ∀ W', Below W.heap.size W W' → Bo b j t m u x Z (W', F) C M N V W' := by
  obtain ⟨l, ⟨F, h1, h2, h3⟩, hh⟩ := h
  exact ⟨F, h3, tu_lt h1, fun W' hb => ⟨l, ⟨F, tb_below h1 hb, Chg.refl F W', fun g hg => .inl hg⟩, hh⟩⟩
theorem Bo.back {W2 : World} {F : Nat → Prop} (h : Bo b j t m u x Z (W2, F) C M N V W) (hc : Chg w0.2 w0.1 W2) (hF : ∀ i, F i → w0.2 i ∨ w0.1.heap.size ≤ i) : Bo b j t m u x Z w0 C M N V W := by
  obtain ⟨l, ⟨F', h1, h2, h3⟩, hh⟩ := h
  refine ⟨l, ⟨F', h1, hc.trans h2 hF, fun g hg => ?_⟩, hh⟩
  rcases h3 g hg with h4 | h4
  · exact hF g h4
  · exact .inr (Nat.le_trans hc.size h4)
theorem bkeys_list (h : Bo b j t m u x Z w0 C M N V W) (hx : Xk x) (hN : N ≤ 100000000) : ∃ K : List ByteArray, K.Perm (C.map keyO) ∧ Calls Tryz.prog 20 #[.pointer (some ⟨u, 0, none⟩), .string ⟨#[98, 47]⟩] W (ListTo K W) := by
  obtain ⟨l, h1, h2, h3, h4, h5, h6, h7⟩ := h
  exact ⟨_, keys_perm h2 h3, f_bkeys (p := pB2) h1 hx (by omega) h6 (by decide)⟩
end
theorem gone_is {C : List On} {held K : List ByteArray} (h : K.Perm (C.map keyO)) : goneN held K + (swC C held).length = C.length := by
  unfold goneN swC
  rw [h.countP_eq, List.countP_map, List.length_filterMap_eq_countP]
  have e : ∀ y : On, (if cnt held (keyO y) = 0 then none else some { y with refs := cnt held (keyO y) } : Option On).isSome = !(((fun p => decide (cnt held p = 0)) ∘ keyO) y) := fun y => by
    by_cases hc : cnt held (keyO y) = 0 <;> simp [hc]
  simp only [e]
  rw [List.length_eq_countP_add_countP ((fun p => decide (cnt held p = 0)) ∘ keyO) (l := C)]
  congr 1
  exact List.countP_congr (fun a _ => by simp)
theorem many8_keep {C : List On} {held K : List ByteArray} {y : On} (hy : y ∈ C) (hK : inL K (keyO y) = false) : y ∈ many8 C held K := by
  rw [many8_is]
  exact List.mem_filterMap.2 ⟨y, hy, by rw [hK]; rfl⟩
theorem bo_find_mem {w0 : World × (Nat → Prop)} {W : World} {b j t m u M N V : Nat} {x : Tst} {C : List On} {Z : List It} {y : On} (h : Bo b j t m u x Z w0 C M N V W) (hM : M ≤ 100000000) (hy : y ∈ C) :
    Calls Tryz.prog 75 #[.pointer (some ⟨u, 0, none⟩), .string (keyO y)] W fun e w' => e = .returned (.tuple #[onV y.refs y.data, .bool true]) ∧ Below W.heap.size W w' := by
  have c := bo_find (key := keyO y) h hM (by have := keyO_size h.good hM hy; omega)
  rw [h.good.at hy] at c
  exact c
end Go.Proofs.YtdkgkomjbpggeaaGreatDoor.Bl

namespace Go.Proofs.YtdkgkomjbpggeaaGreatDoor.Az
open Go.RowKit Tx Pm Dk Wm Wr Wl Pl Tb Bl
set_option linter.unusedVariables false
set_option linter.unusedSimpArgs false
set_option linter.unnecessarySimpa false
def keyA (i : Nat) : ByteArray := ⟨#[97, 47]⟩ ++ decB i
theorem keyA_not (i : Nat) : beg pB2 (keyA i) = false := by
  cases h : beg pB2 (keyA i) with
  | false => rfl
  | true =>
    obtain ⟨r, hr⟩ := (beg_iff _ _).1 h
    have e : (keyA i).data.toList = 97 :: 47 :: Lib.decDigits i := by
      unfold keyA
      rw [app_l]
      rfl
    rw [e] at hr
    have h2 : (97 : UInt8) = 98 := (List.cons.inj hr).1
    exact absurd h2 (by decide)
theorem keyA_inj {i j : Nat} (h : keyA i = keyA j) : i = j := by
  have h1 := congrArg (·.data.toList) h
  unfold keyA at h1
  simp only [app_l] at h1
  exact dec_inj (List.append_cancel_left h1)
theorem keyA_size {i : Nat} (h : i ≤ 6) : (keyA i).size ≤ 14 := by
  have := decB_size (n := i) (by omega)
  unfold keyA
  rw [ByteArray.size_append]
  show 2 + _ ≤ 14
  omega
def Ks (l : List Ch) (C : List On) (N : Nat) : Prop := ∃ S : List ByteArray, S.length ≤ N ∧ (∀ c ∈ l, c.key ∈ S ∧ (c.gone = true → c.val.size = 0)) ∧ (∀ y ∈ C, keyO y ∈ S) ∧ (∀ i, 1 ≤ i → i ≤ 6 → keyA i ∈ S) ∧ ∀ p ∈ S, p.size ≤ 14
theorem Ks.len {l : List Ch} {C : List On} {N : Nat} (h : Ks l C N) (ho : Once l) : l.length ≤ N := by
  obtain ⟨S, h1, h2, _⟩ := h
  have := length_le_of_sub (l := l.map (·.key)) (m := S) (once_keys.1 ho) (fun p hp => by
    obtain ⟨c, hc, rfl⟩ := List.mem_map.1 hp
    exact (h2 c hc).1)
  rw [List.length_map] at this
  omega
theorem Ks.short {l : List Ch} {C : List On} {N : Nat} (h : Ks l C N) : ∀ c ∈ l, c.key.size ≤ 1000 := fun c hc => by
  obtain ⟨S, _, h2, _, _, h5⟩ := h
  have := h5 _ (h2 c hc).1
  omega
theorem Ks.mono {l : List Ch} {C : List On} {N N' : Nat} (h : Ks l C N) (hN : N ≤ N') : Ks l C N' := by
  obtain ⟨S, h1, h2⟩ := h
  exact ⟨S, by omega, h2⟩
theorem Ks.of {l : List Ch} {C C' : List On} {N : Nat} (h : Ks l C N) (hC : ∀ y ∈ C', ∃ z ∈ C, keyO y = keyO z) : Ks l C' N := by
  obtain ⟨S, h1, h2, h3, h4⟩ := h
  exact ⟨S, h1, h2, fun y hy => by obtain ⟨z, hz, e⟩ := hC y hy; rw [e]; exact h3 z hz, h4⟩
theorem Ks.old {l : List Ch} {C C' : List On} {N : Nat} {y : On} {c : Ch} (h : Ks l C N) (hy : y ∈ C) (hk : c.key = keyO y) (hg : c.gone = true → c.val.size = 0) (hC : ∀ y ∈ C', ∃ z ∈ C, keyO y = keyO z) : Ks (bat l c) C' N := by
  obtain ⟨S, h1, h2, h3, h4⟩ := h
  refine ⟨S, h1, fun d hd => ?_, fun y hy => by obtain ⟨z, hz, e⟩ := hC y hy; rw [e]; exact h3 z hz, h4⟩
  rcases bat_mem hd with rfl | hd
  · exact ⟨by rw [hk]; exact h3 y hy, hg⟩
  · exact h2 d hd
theorem Ks.new {l : List Ch} {C : List On} {N : Nat} {y : On} {c : Ch} (h : Ks l C N) (hk : c.key = keyO y) (hg : c.gone = false) (hs : (keyO y).size ≤ 14) : Ks (bat l c) (C ++ [y]) (N + 1) := by
  obtain ⟨S, h1, h2, h3, h4, h5⟩ := h
  refine ⟨keyO y :: S, by rw [List.length_cons]; omega, fun d hd => ?_, fun z hz => ?_, fun i h1 h6 => List.mem_cons_of_mem _ (h4 i h1 h6), fun p hp => ?_⟩
  · rcases bat_mem hd with rfl | hd
    · exact ⟨by rw [hk]; exact List.mem_cons_self, fun e => by rw [hg] at e; cases e⟩
    · exact ⟨List.mem_cons_of_mem _ (h2 d hd).1, (h2 d hd).2⟩
  · rcases List.mem_append.1 hz with hz | hz
    · exact List.mem_cons_of_mem _ (h3 z hz)
    · rw [List.mem_singleton.1 hz]; exact List.mem_cons_self
  · rcases List.mem_cons.1 hp with rfl | hp
    · exact hs
    · exact h5 p hp
theorem Ks.arch {l : List Ch} {C : List On} {N i : Nat} {c : Ch} (h : Ks l C N) (h1 : 1 ≤ i) (h6 : i ≤ 6) (hk : c.key = keyA i) (hg : c.gone = true → c.val.size = 0) : Ks (bat l c) C N := by
  obtain ⟨S, s1, s2, s3, s4, s5⟩ := h
  refine ⟨S, s1, fun d hd => ?_, s3, s4, s5⟩
  rcases bat_mem hd with rfl | hd
  · exact ⟨by rw [hk]; exact s4 i h1 h6, hg⟩
  · exact s2 d hd
theorem setR_from {C : List On} {p : ByteArray} {k : Nat} : ∀ y ∈ setR C p k, ∃ z ∈ C, keyO y = keyO z := fun y hy => by
  have h := setR_keys C p k
  have : keyO y ∈ (setR C p k).map keyO := List.mem_map.2 ⟨y, hy, rfl⟩
  rw [h] at this
  obtain ⟨z, hz, e⟩ := List.mem_map.1 this
  exact ⟨z, hz, e.symm⟩
theorem delR_from {C : List On} {p : ByteArray} : ∀ y ∈ delR C p, ∃ z ∈ C, keyO y = keyO z := fun y hy => ⟨y, (List.mem_filter.1 hy).1, rfl⟩
def Bz (b j t m u : Nat) (x : Tst) (Z : List It) (w0 : World × (Nat → Prop)) (C : List On) (M N : Nat) (W : World) : Prop :=
  ∃ l, OwF (Tu b j t m u) w0 (x, l) W ∧ Rep (all7 x.L l) C ∧ Good8 C M ∧ (∀ p, beg pB2 p = false → find (all7 x.L l) p = find Z p) ∧ Ks l C N
section
variable {w0 : World × (Nat → Prop)} {W : World} {b j t m u M N : Nat} {x : Tst} {l : List Ch} {C : List On} {Z : List It} {key : ByteArray}
theorem Bz.chg (h : Bz b j t m u x Z w0 C M N W) : Chg w0.2 w0.1 W := by
  obtain ⟨l, h1, _⟩ := h
  exact h1.chg
theorem Bz.good (h : Bz b j t m u x Z w0 C M N W) : Good8 C M := by
  obtain ⟨l, _, _, h1, _⟩ := h
  exact h1
theorem Bz.below {W1 : World} (h : Bz b j t m u x Z w0 C M N W) (hb : Below W.heap.size W W1) : Bz b j t m u x Z w0 C M N W1 := by
  obtain ⟨l, h1, h2⟩ := h
  exact ⟨l, owf_below h1 hb, h2⟩
theorem Bz.mono {M' N' : Nat} (h : Bz b j t m u x Z w0 C M N W) (hM : M ≤ M') (hN : N ≤ N') : Bz b j t m u x Z w0 C M' N' W := by
  obtain ⟨l, h1, h2, h3, h4, h5⟩ := h
  exact ⟨l, h1, h2, h3.mono hM, h4, h5.mono hN⟩
theorem Bz.bo (h : Bz b j t m u x Z w0 C M N W) : ∃ V, Bo b j t m u x Z w0 C M N V W := by
  obtain ⟨l, h1, h2, h3, h4, h5⟩ := h
  exact ⟨wt l, l, h1, h2, h3, h4, h5.len (f_facts h1).2, h5.short, Nat.le_refl _⟩
theorem bz_keep {W1 : World} {C' : List On} {M' N' : Nat} {k : Nat} {d : ByteArray} (h1 : OwF (Tu b j t m u) w0 (x, bat l ⟨key, enc k d, false⟩) W1) (hf : Rises x.L ∧ Once l) (hR : Rep (app (all7 x.L l) ⟨key, enc k d, false⟩) C') (hg : Good8 C' M') (hZ : ∀ p, beg pB2 p = false → find (all7 x.L l) p = find Z p)
    (hkb : beg pB2 key = true) (hK : Ks (bat l ⟨key, enc k d, false⟩) C' N') : Bz b j t m u x Z w0 C' M' N' W1 := by
  refine ⟨_, h1, ?_, hg, fun p hp => ?_, hK⟩
  · rw [all_bat hf.1 hf.2]; exact hR
  · rw [all_bat hf.1 hf.2, find_app7, if_neg (fun e => by rw [show key = p from e] at hkb; rw [hkb] at hp; cases hp)]
    exact hZ p hp
theorem bz_drop {W1 : World} {C' : List On} {M' N' : Nat} (h1 : OwF (Tu b j t m u) w0 (x, bat l ⟨key, ⟨#[]⟩, true⟩) W1) (hf : Rises x.L ∧ Once l) (hR : Rep (app (all7 x.L l) ⟨key, ⟨#[]⟩, true⟩) C') (hg : Good8 C' M') (hZ : ∀ p, beg pB2 p = false → find (all7 x.L l) p = find Z p)
    (hkb : beg pB2 key = true) (hK : Ks (bat l ⟨key, ⟨#[]⟩, true⟩) C' N') : Bz b j t m u x Z w0 C' M' N' W1 := by
  refine ⟨_, h1, ?_, hg, fun p hp => ?_, hK⟩
  · rw [all_bat hf.1 hf.2]; exact hR
  · rw [all_bat hf.1 hf.2, find_app7, if_neg (fun e => by rw [show key = p from e] at hkb; rw [hkb] at hp; cases hp)]
    exact hZ p hp
theorem bzfind (h : Bz b j t m u x Z w0 C M N W) (hM : M ≤ 100000000) (hk : key.size ≤ 500000000000000) :
    Calls Tryz.prog 75 #[.pointer (some ⟨u, 0, none⟩), .string key] W fun e w' => e = .returned (match at8 C key with | some y => .tuple #[onV y.refs y.data, .bool true] | none => .tuple #[onV 0 ⟨#[]⟩, .bool false]) ∧ Below W.heap.size W w' := by
  obtain ⟨V, h⟩ := h.bo
  exact bo_find h hM hk
theorem bzget (h : Bz b j t m u x Z w0 C M N W) (hM : M ≤ 100000000) (hk : key.size ≤ 500000000000000) :
    Calls Tryz.prog 144 #[.pointer (some ⟨u, 0, none⟩), .string key] W fun e w' => e = .returned (match at8 C key with | some y => .tuple #[.string y.data, .int .i64 0] | none => .tuple #[.string ⟨#[]⟩, .int .i64 11]) ∧ Below W.heap.size W w' := by
  obtain ⟨V, h⟩ := h.bo
  exact get_any h hM hk
set_option maxRecDepth 100000 in
set_option maxHeartbeats 4000000 in
theorem bzput {d : ByteArray} (h : Bz b j t m u x Z w0 C M N W) (hx : Xk x) (hM : M ≤ 10000000) (hN : N ≤ 10000000) (hd : d.size ≤ 140737488351232) (ht : TabZ w0) :
    Calls Tryz.prog 73 #[.pointer (some ⟨u, 0, none⟩), .string d] W fun e w' => e = .returned (.string (putC C d).2) ∧ Bz b j t m u x Z w0 (putC C d).1 (M + 1) (N + 1) w' := by
  have cg := group_any d W (by omega)
  have HBO := Lib.hid h
  have HG := Lib.hid h.good
  obtain ⟨l, h1, h2, h3, h4, h7⟩ := h
  have h5 := h7.len (f_facts h1).2
  have h6 := h7.short
  have hlow := lowO_lt d
  have HF := Lib.hid (f_facts h1)
  have HK : Hid (∀ key ∈ held (pre7 (grp (lowO d))) (all7 x.L l), ∃ y ∈ C, keyO y = key) := Lib.hid (fun key hk => by
    obtain ⟨e1, e2⟩ := (mem_held h2.rises).1 hk
    obtain ⟨y, hy, e, _⟩ := rep_key h2 (beg_two e2) e1
    exact ⟨y, hy, e⟩)
  have HK2 : Hid (∀ y ∈ C, y.data = d → keyO y ∈ held (pre7 (grp (lowO d))) (all7 x.L l)) := Lib.hid (fun y hy e => by
    refine (mem_held h2.rises).2 ⟨by rw [rep_mem h2 h3 hy]; rfl, ?_⟩
    have := (h3.each y hy).1
    unfold keyO
    rw [this, e]
    exact beg_grp _ _)
  have HO := Lib.hid h1
  have HR := Lib.hid h2
  have HZ := Lib.hid h4
  have HL := Lib.hid h5
  have HKS := Lib.hid h6
  have HW := Lib.hid h7
  have HT := Lib.hid ht
  have HX := Lib.hid hx
  have ck := fun V hV => f_bkeys (p := grp (lowO d)) (owf_below h1 (w' := V) hV) hx (by omega) h6 (by show 5 ≤ 1000; omega)
  have hKL : (held (pre7 (grp (lowO d))) (all7 x.L l)).length ≤ 200000000 := by
    have e1 := held_len (pre7 (grp (lowO d))) (all7 x.L l)
    have e2 := len_all x.L l
    have e3 := hx.1
    omega
  generalize held (pre7 (grp (lowO d))) (all7 x.L l) = K at ck HK HK2 hKL
  obtain ⟨n, hn⟩ : ∃ n, n = K.length := ⟨_, rfl⟩
  rw [← hn] at hKL
  have HNK := Lib.hid hn
  clear h1 h2 h3 h4 h5 h6 h7 ht hx hn
  go_enter Tryz.func73, Tryz.ntmps73
  go_wp2_with fail
  go_at_call 109
  refine cg.mono ?_
  rintro e w1 ⟨rfl, hb1⟩
  have ck1 := ck w1 hb1
  have HB1 := Lib.hid hb1
  clear cg ck hb1
  go_wp2_with fail
  go_at_call 20
  refine ck1.mono ?_
  rintro e w2 ⟨vK, rfl, hK, hb2⟩
  obtain ⟨aK, cK, hv, hsK, hcK, _⟩ := hK.form
  rw [← HNK.out] at hv hsK hcK
  have HSK := Lib.hid (fun V (hV : Below w2.heap.size w2 V) => hsK.below hV)
  have HB2 := Lib.hid (Tx.below_call HB1.out hb2)
  clear hK hsK ck1 hb2
  subst hv
  go_wp2_with fail
  go_loopw [17] (fun iv wr => ∃ k : Nat, k ≤ n ∧ iv = .int .i64 k ∧ Hid (∀ i key, i < k → K[i]? = some key → ∀ y ∈ C, keyO y = key → y.data ≠ d) ∧ Below w2.heap.size w2 wr) (fun iv _ => n - (intOf iv).toNat)
  case atStart => exact ⟨0, Nat.zero_le _, rfl, (fun i key hi => by omega), Below.refl _ _⟩
  case round =>
    obtain ⟨k, hk, rfl, hno, hB⟩ := hrel
    by_cases hlt : k < n
    · obtain ⟨key, hx⟩ : ∃ key, K[k]? = some key := ⟨_, List.getElem?_eq_getElem (by rw [← HNK.out]; exact hlt)⟩
      obtain ⟨_, hne⟩ := HSK.out _ hB
      obtain ⟨bk, off, rfl, hbk, hcc⟩ := hne.resolve_left (by omega)
      have g0 := hcc k key hx
      have hkz : (k : Int) < (n : Int) := by omega
      obtain ⟨y, hy, hye⟩ := HK.out key (List.mem_of_getElem? hx)
      have hyE := HG.out.each y hy
      have hBW := Tx.below_call HB2.out hB
      have cf := bzfind (key := key) (HBO.out.below hBW) (by omega) (by rw [← hye]; have := keyO_size HG.out (by omega) hy; omega)
      rw [← hye, HG.out.at hy] at cf
      simp only at cf
      rw [hye] at cf
      have HX := Lib.hid hx
      clear hcc hne hx
      go_wp2_with fail
      go_at_call 75
      refine cf.mono ?_
      rintro e w3 ⟨rfl, hb3⟩
      unfold onV
      have hs3 : w3.heap.size < (w3.alloc (.cells #[.int .i64 (y.refs : Nat), .string y.data] 126)).heap.size := by simp
      have hB3 : Below W.heap.size W w3 := Tx.below_call hBW hb3
      have hB3r := Tx.below_call hB hb3
      by_cases hyd : y.data = d
      · subst hyd
        have hb : (y.data.toList == y.data.toList) = true := beq_self_eq_true _
        have hput : putC C y.data = (setR C key (y.refs + 1), key) := by unfold putC; rw [HG.out.of hy, ← hye]
        have cp := keep_any (h := y.refs + 1) (d := y.data) (key := key) (owf_below HO.out (hB3.alloc hB3.size (.cells #[.int .i64 ((y.refs : Int) + 1), .string y.data] 126))) (by rw [← hye]; have := keyO_size HG.out (by omega) hy; omega) (by have := HL.out; omega) (by omega) hd
        have e1 : ((y.refs + 1 : Nat) : Int) = (y.refs : Int) + 1 := by omega
        unfold onV at cp
        rw [e1] at cp
        have hnum1 : -9223372036854775808 ≤ (y.refs : Int) + 1 := by omega
        have hnum2 : (y.refs : Int) + 1 ≤ 9223372036854775807 := by omega
        have HPUT := Lib.hid hput
        have HY := Lib.hid hy
        have HYE := Lib.hid hye
        have HYA := Lib.hid hyE
        clear hput hy hye hyE hno e1 hB3 hB3r hBW hb3 cf
        go_wp2_with fail
        go_at_call 76
        refine cp.mono ?_
        rintro e w4 ⟨rfl, ho4⟩
        go_wp2_with fail
        go_ret
        rw [HPUT.out]
        have hrs := rep_set (k := y.refs + 1) HR.out HY.out HG.out
        rw [HYE.out] at hrs
        exact ⟨rfl, bz_keep ho4 HF.out hrs (good_set (HG.out.mono (Nat.le_succ M)) (by omega) (by have := HYA.out.2.2.1; omega)) HZ.out (by rw [← HYE.out]; exact keyO_beg y) ((HW.out.old HY.out HYE.out.symm (fun e => by cases e) setR_from).mono (Nat.le_succ N))⟩
      · have hb : (y.data.toList == d.toList) = false := bytes_ne hyd
        have hno2 : Hid (∀ i key, i < k + 1 → K[i]? = some key → ∀ y ∈ C, keyO y = key → y.data ≠ d) := Lib.hid (fun i key' hi hk' y' hy' he' => by
          by_cases hik : i < k
          · exact hno.out i key' hik hk' y' hy' he'
          · have hik : i = k := by omega
            subst hik
            rw [HX.out] at hk'
            injection hk' with hk'
            have e1 := HG.out.at hy
            rw [hye, hk', ← he', HG.out.at hy'] at e1
            injection e1 with e1
            rw [e1]
            exact hyd)
        have hB4 := hB3r.alloc hB3r.size (.cells #[.int .i64 (y.refs : Nat), .string y.data] 126)
        clear hno hyd hye hyE hB3 hB3r hBW hb3 cf
        go_wp2_with fail
        go_roundw
        case rel => exact ⟨k + 1, by omega, by go_num, hno2, hB4⟩
        case measure => simp [intOf]; omega
    · obtain rfl : k = n := by omega
      have hof : of8 C d = none := by
        cases ho : of8 C d with
        | none => rfl
        | some y =>
          obtain ⟨hy, hyd⟩ := of8_some ho
          obtain ⟨i, hi⟩ := List.getElem?_of_mem (HK2.out y hy hyd)
          exact absurd hyd (hno.out i _ (by have := (List.getElem?_eq_some_iff.1 hi).1; have := HNK.out; omega) hi y hy rfl)
      have hBW := Tx.below_call HB2.out hB
      have hown := owf_below HO.out hBW
      have cf := free_any hown HR.out HG.out (by omega) hlow (HT.out _ hown.chg)
      have hfl := free_lt HG.out hlow
      have hlen := HG.out.len
      have hput : putC C d = (C ++ [newO C d], keyO (newO C d)) := by unfold putC; rw [hof]
      have HPUT := Lib.hid hput
      have HOF := Lib.hid hof
      have ek : keyN (lowO d) (freeN C (lowO d)) = keyO (newO C d) := rfl
      rw [ek] at cf
      have hks : (keyO (newO C d)).size ≤ 14 := keyN_size _ (by show freeN C (lowO d) < _; omega)
      have cp := fun V hV => keep_any (W := V) (h := 1) (d := d) (key := keyO (newO C d)) (owf_below hown (w' := V) hV) (by omega) (by have := HL.out; omega) (by omega) hd
      unfold onV at cp
      have e1 : ((1 : Nat) : Int) = 1 := rfl
      rw [e1] at cp
      have HKZ := Lib.hid hks
      clear hno hof hput hfl hlen ek e1 hB hBW hown hks
      go_wp2_with fail
      go_at_call 110
      refine cf.mono ?_
      rintro e w3 ⟨rfl, hb3⟩
      have cp3 := cp w3 hb3
      clear cp cf hb3
      go_wp2_with fail
      go_at_call 76
      refine cp3.mono ?_
      rintro e w4 ⟨rfl, ho4⟩
      go_wp2_with fail
      go_ret
      rw [HPUT.out]
      exact ⟨rfl, bz_keep ho4 HF.out (rep_new HR.out HG.out) (good_new HG.out HOF.out hd) HZ.out (beg_key _ _) (HW.out.new rfl rfl HKZ.out)⟩
end
end Go.Proofs.YtdkgkomjbpggeaaGreatDoor.Az

namespace Go.Proofs.YtdkgkomjbpggeaaGreatDoor.Az
open Go.RowKit Tx Pm Dk Wm Wr Wl Pl Tb Bl Fm Fr
open En (Et tcheck)
set_option linter.unusedVariables false
set_option linter.unusedSimpArgs false
set_option linter.unnecessarySimpa false
set_option maxRecDepth 100000 in
theorem isSpoke_any (i : Int) (w : World) (h : -9223372036854775808 ≤ i ∧ i ≤ 9223372036854775807) : Calls Tryz.prog 29 #[.int .i64 i] w fun e w' => e = .returned (.bool (Ac.may i)) ∧ w = w' := by
  obtain ⟨h1, h2⟩ := h
  unfold Ac.may
  by_cases h3 : 1 ≤ i
  · by_cases h4 : i ≤ 6
    · rw [decide_eq_true h3, decide_eq_true h4]
      go_enter Tryz.func29, Tryz.ntmps29
      go_wp2_with fail
      go_ret
      exact ⟨rfl, rfl⟩
    · rw [decide_eq_true h3, decide_eq_false h4]
      go_enter Tryz.func29, Tryz.ntmps29
      go_wp2_with fail
      go_ret
      exact ⟨rfl, rfl⟩
  · rw [decide_eq_false h3]
    go_enter Tryz.func29, Tryz.ntmps29
    go_wp2_with fail
    go_ret
    exact ⟨rfl, rfl⟩
set_option maxRecDepth 100000 in
theorem keyOf_any (n : Nat) (w : World) (hn : n ≤ 6) (ht : Tab w) : Calls Tryz.prog 33 #[.int .i64 n] w fun e w' => e = .returned (.string (keyA n)) ∧ Below w.heap.size w w' := by
  have c := itoa_any n w (by omega) ht
  have hs := decB_size (n := n) (by omega)
  go_enter Tryz.func33, Tryz.ntmps33
  go_wp2_with fail
  go_at_call 68
  refine c.mono ?_
  rintro e w1 ⟨rfl, hb⟩
  have HB := Lib.hid hb
  clear c hb
  have hsz : ((⟨#[97, 47]⟩ : ByteArray) ++ decB n).size ≤ 9223372036854775807 := by rw [ByteArray.size_append]; show 2 + _ ≤ _; omega
  go_wp2_with fail
  go_ret
  exact ⟨rfl, HB.out⟩
set_option maxRecDepth 100000 in
theorem sumOf_anyA (d : ByteArray) (w : World) (hd : d.size ≤ maxLen) : Calls Tryz.prog 74 #[.string d] w fun e w' => e = .returned (.string (vs (fsum d.data.toList))) ∧ Below w.heap.size w w' := by
  have c := fSum_any d w hd
  have hf := fsum_lt d.data.toList
  obtain ⟨f, hF⟩ : ∃ f, f = fsum d.data.toList := ⟨_, rfl⟩
  rw [← hF] at c hf ⊢
  have cu := fun V => putUint_any (f : Nat) V (by omega) (by omega)
  have eus : us (f : Nat) = vs f := by unfold us; rw [if_neg (by omega)]; rfl
  rw [eus] at cu
  clear hd hF eus
  go_enter Tryz.func74, Tryz.ntmps74
  go_wp2_with fail
  go_at_call 108
  refine c.mono ?_
  rintro e w1 ⟨rfl, hb⟩
  have HB := Lib.hid hb
  have cu1 := cu w1
  clear c hb cu
  go_wp2_with fail
  go_at_call 72
  refine cu1.mono ?_
  rintro e w2 ⟨rfl, hb2⟩
  have HB2 := Lib.hid hb2
  clear cu1 hb2
  go_wp2_with fail
  go_ret
  exact ⟨rfl, Tx.below_call HB.out HB2.out⟩
theorem conv_one (a : UInt8) (W : World) (g : Nat) (h : W.cell? ⟨g, 0, none⟩ = some (.int .u8 (a.toNat : Int))) : (Go.convert 87 9 (.slice (some ⟨g, 0, none⟩) 1 1)).run Tryz.prog W = .ok (.string ⟨#[a]⟩) W := by
  exact run_convert_bytes_back W 87 9 5 ⟨g, 0, none⟩ 1 [a] Tryz.underlying87 Tryz.underlying5 Tryz.underlying9 (fun j hj => by
    match j, hj with
    | 0, _ => exact h)
theorem conv_zero (W : World) (g : Nat) (h : W.cell? ⟨g, 0, none⟩ = some (.int .u8 0)) : (Go.convert 87 9 (.slice (some ⟨g, 0, none⟩) 1 1)).run Tryz.prog W = .ok (.string ⟨#[0]⟩) W := conv_one 0 W g h
theorem not8 : ∀ x : Fin 256, bits .xor .u8 IntKind.u8.max (x.val : Int) = ((255 - x.val : Nat) : Int) := by decide +kernel
def pop8 (x : Nat) : Nat := ((List.range 8).map fun i => x / 2 ^ i % 2).sum
theorem pop_tab : ∀ x : Fin 256, (Lib.pop8tab.data.toList.getD x.val 0).toNat = pop8 x.val := by decide +kernel
set_option maxRecDepth 100000 in
theorem ones_any (x : UInt8) (w : World) : Calls Tryz.prog 79 #[.int .u8 (x.toNat : Int)] w fun e w' => e = .returned (.int .i64 (pop8 x.toNat : Nat)) ∧ w = w' := by
  have hx := x.toNat_lt
  obtain ⟨n, hn⟩ : ∃ n, n = x.toNat := ⟨_, rfl⟩
  rw [← hn] at hx ⊢
  clear hn
  go_enter Tryz.func79, Tryz.ntmps79
  go_wp2_with fail
  go_ret
  have h := pop_tab ⟨n, hx⟩
  refine ⟨?_, rfl⟩
  congr 2
  rw [show pop8 n = (Lib.pop8tab.data.toList.getD n 0).toNat from h.symm]
  have hlt : n < Lib.pop8tab.size := hx
  have e : Lib.pop8tab.data.toList.getD n 0 = Lib.pop8tab[n] := by
    rw [List.getD_eq_getElem?_getD, List.getElem?_eq_getElem (by rw [Wm.len_l]; exact hlt)]
    rfl
  rw [e]
  have hlt2 := (Lib.pop8tab[n]).toNat_lt
  show Value.int .i64 (wrap64 (Lib.pop8tab[n].toNat : Int)) = _
  have e2 : wrap64 (Lib.pop8tab[n].toNat : Int) = (Lib.pop8tab[n].toNat : Int) := by unfold wrap64; omega
  rw [e2]
set_option maxRecDepth 100000 in
set_option maxHeartbeats 1000000 in
theorem invert_any (v : ByteArray) (w : World) (h0 : 0 < v.size) (hs : v.size ≤ 100000000) : Calls Tryz.prog 41 #[.string v] w fun e w' => e = .returned (.string (inv v)) ∧ Below w.heap.size w w' := by
  obtain ⟨m, hm⟩ : ∃ m, v.size = m + 1 := ⟨v.size - 1, by omega⟩
  have hml : m < v.size := by omega
  have hL : lastB v = v[m] := by
    unfold lastB
    rw [show v.size - 1 = m by omega, List.getD_eq_getElem?_getD, List.getElem?_eq_getElem (by rw [Wm.len_l]; exact hml)]
    rfl
  have hx8 : (v[m]).toNat < 256 := (v[m]).toNat_lt
  have hiv : inv v = v.extract 0 m ++ ⟨#[UInt8.ofNat (255 - (v[m]).toNat)]⟩ := by unfold inv; rw [hL, show v.size - 1 = m by omega]
  have hnot := not8 ⟨(v[m]).toNat, hx8⟩
  have hn1 : (1 : Int) ≤ (v.size : Int) := by omega
  have e1 : (v.size : Int) - 1 = (m : Int) := by omega
  have hnot2 : bits BinOp.xor IntKind.u8 (if IntKind.u8.signed = true then -1 else IntKind.u8.max) ((v[m]).toNat : Int) = (((255 - (v[m]).toNat : Nat) : Nat) : Int) := hnot
  have hc := conv_one (UInt8.ofNat (255 - (v[m]).toNat)) (w.alloc (.cells #[.int .u8 (bits BinOp.xor IntKind.u8 (if IntKind.u8.signed = true then -1 else IntKind.u8.max) ((v[m]).toNat : Int))] 5)).drew w.heap.size (by rw [ofNat_toNat _ (by omega), ← hnot2]; go_simp)
  clear hnot hnot2
  have HI := Lib.hid hiv
  have HM := Lib.hid hm
  have HB := Lib.hid (fun o => ((Below.refl w.heap.size w).alloc (Nat.le_refl _) o).drew)
  have hmz : (m : Int) ≤ (v.size : Int) := by omega
  have hcat : (v.extract 0 m ++ ⟨#[UInt8.ofNat (255 - (v[m]).toNat)]⟩ : ByteArray).size ≤ 9223372036854775807 := by rw [ByteArray.size_append, ByteArray.size_extract]; show _ + 1 ≤ _; omega
  clear hiv hL hm h0
  go_enter Tryz.func41, Tryz.ntmps41
  go_wp2_with fail
  go_region
  all_goals
    go_wp2_with fail
    go_ret
    rw [HI.out]
    exact ⟨rfl, HB.out _⟩
end Go.Proofs.YtdkgkomjbpggeaaGreatDoor.Az

namespace Go.Proofs.YtdkgkomjbpggeaaGreatDoor.Az
open Go.RowKit Tx Pm Dk Wm Wr Wl Pl Tb Bl Fm Fr
open En (Et tcheck)
set_option linter.unusedVariables false
set_option linter.unusedSimpArgs false
set_option linter.unnecessarySimpa false
def kN (x : Et) : Nat := x.node.kind.toNat
def sumN (d : ByteArray) : Nat := fsum d.data.toList
def partsE (κ : ByteArray → ByteArray) (x : Et) : List ByteArray := [ts x.path, vs (kN x)] ++ (if x.node.kind = 2 then [ts (κ x.node.data), vs (sumN x.node.data)] else [])
def bytesE (κ : ByteArray → ByteArray) (x : Et) : List UInt8 := tl x.path ++ (vb (kN x) ++ (if x.node.kind = 2 then tl (κ x.node.data) ++ vb (sumN x.node.data) else []))
def rpP (κ : ByteArray → ByteArray) (t : List Et) : List ByteArray := t.flatMap (partsE κ)
def rpL (κ : ByteArray → ByteArray) (t : List Et) : List UInt8 := t.flatMap (bytesE κ)
def val16 (κ : ByteArray → ByteArray) (t : List Et) : ByteArray := vz (cat (rpP κ t))
theorem parts_bytes (κ : ByteArray → ByteArray) (x : Et) : ((partsE κ x).map (·.data.toList)).flatten = bytesE κ x := by
  unfold partsE bytesE
  by_cases h : x.node.kind = 2
  · rw [if_pos h, if_pos h]
    simp [ts_tl, vs_list]
  · rw [if_neg h, if_neg h]
    simp [ts_tl, vs_list]
theorem rp_list (κ : ByteArray → ByteArray) : ∀ t : List Et, ((rpP κ t).map (·.data.toList)).flatten = rpL κ t
  | [] => rfl
  | x :: t => by
    unfold rpP rpL
    rw [List.flatMap_cons, List.flatMap_cons, List.map_append, List.flatten_append, parts_bytes]
    congr 1
    exact rp_list κ t
theorem cat_rp (κ : ByteArray → ByteArray) (t : List Et) : cat (rpP κ t) = ⟨(rpL κ t).toArray⟩ := by
  unfold cat
  rw [rp_list]
theorem rpL_cons (κ : ByteArray → ByteArray) (x : Et) (t : List Et) : rpL κ (x :: t) = bytesE κ x ++ rpL κ t := by unfold rpL; rw [List.flatMap_cons]
theorem rpL_drop (κ : ByteArray → ByteArray) {t : List Et} {i : Nat} {x : Et} (h : t[i]? = some x) : rpL κ (t.drop i) = bytesE κ x ++ rpL κ (t.drop (i + 1)) := by
  obtain ⟨hi, e⟩ := List.getElem?_eq_some_iff.1 h
  rw [List.drop_eq_getElem_cons hi, e, rpL_cons]
theorem rpP_snoc (κ : ByteArray → ByteArray) {t : List Et} {i : Nat} {x : Et} (h : t[i]? = some x) : rpP κ (t.take (i + 1)) = rpP κ (t.take i) ++ partsE κ x := by
  obtain ⟨hi, e⟩ := List.getElem?_eq_some_iff.1 h
  unfold rpP
  rw [List.take_succ_eq_append_getElem hi, List.flatMap_append, e]
  simp
structure Eok (x : Et) : Prop where
  kind : x.node.kind = 1 ∨ x.node.kind = 2
  dir : x.node.kind = 1 → x.node.data = ⟨#[]⟩
  path : x.path.size ≤ 10000000
  data : x.node.data.size ≤ 10000000
theorem ok_all {t : List Et} (h : tcheck t = 0) (hb : Ac.bk t ≤ 10000000) : t.length ≤ 200 ∧ ∀ x ∈ t, Eok x := by
  unfold tcheck at h
  split at h
  · cases h
  · rename_i hl
    split at h
    · rename_i ha
      refine ⟨by omega, fun x hx => ?_⟩
      obtain ⟨i, hi⟩ := List.getElem?_of_mem hx
      have hil := (List.getElem?_eq_some_iff.1 hi).1
      have h1 := List.all_eq_true.1 ha i (List.mem_range.2 hil)
      rw [En.okAt_eq hi] at h1
      simp only [Bool.and_eq_true, Bool.not_eq_true', decide_eq_false_iff_not] at h1
      obtain ⟨⟨⟨⟨_, h2⟩, h3⟩, _⟩, _⟩ := h1
      have hm := Ac.bk_mem hx
      unfold En.whole at h2
      split at h2
      · rename_i hk
        exact ⟨.inr hk, fun e => (by rw [hk] at e; cases e), by omega, by omega⟩
      · rename_i hk
        simp only [Bool.and_eq_true, Bool.or_eq_true, decide_eq_true_eq] at h2
        refine ⟨.inl (h2.1.resolve_left h3), fun _ => ?_, by omega, by omega⟩
        exact ByteArray.ext (Array.size_eq_zero_iff.1 h2.2)
    · cases h
theorem Eok.kn {x : Et} (h : Eok x) : x.node.kind = (kN x : Nat) ∧ kN x ≤ 2 := by
  unfold kN
  rcases h.kind with e | e <;> · rw [e]; decide
theorem vb_five {x : Nat} (h : x < 34359738368) : (vb x).length ≤ 5 := vb_len_le 4 x (by omega)
theorem tl_small {p : ByteArray} (h : p.size ≤ 10000000) : (tl p).length ≤ p.size + 5 := by
  unfold tl
  rw [List.length_append, Wm.len_l]
  have := vb_five (x := p.size) (by omega)
  omega
theorem bytesE_le {κ : ByteArray → ByteArray} {x : Et} (h : Eok x) (hκ : x.node.kind = 2 → (κ x.node.data).size ≤ 14) : (bytesE κ x).length ≤ x.path.size + 34 := by
  have h1 := tl_small h.path
  have h2 := vb_five (x := kN x) (by have := h.kn.2; omega)
  have h4 := vb_five (x := sumN x.node.data) (by have := fsum_lt x.node.data.data.toList; unfold sumN; omega)
  unfold bytesE
  rw [List.length_append, List.length_append]
  split
  · rename_i hk
    have h5 := hκ hk
    have h3 := tl_small (p := κ x.node.data) (by omega)
    rw [List.length_append]
    omega
  · rw [List.length_nil]
    omega
theorem rpL_le {κ : ByteArray → ByteArray} : ∀ {t : List Et}, (∀ x ∈ t, Eok x) → (∀ x ∈ t, x.node.kind = 2 → (κ x.node.data).size ≤ 14) → (rpL κ t).length ≤ Ac.bk t + 29 * t.length
  | [], _, _ => Nat.zero_le _
  | x :: t, h, hκ => by
    have h1 := bytesE_le (h x List.mem_cons_self) (hκ x List.mem_cons_self)
    have h2 := rpL_le (t := t) (fun y hy => h y (List.mem_cons_of_mem _ hy)) (fun y hy => hκ y (List.mem_cons_of_mem _ hy))
    rw [rpL_cons, List.length_append, Ac.bk_cons, List.length_cons]
    omega
theorem val16_size {κ : ByteArray → ByteArray} {t : List Et} (h : tcheck t = 0) (hb : Ac.bk t ≤ 10000000) (hκ : ∀ x ∈ t, x.node.kind = 2 → (κ x.node.data).size ≤ 14) : (cat (rpP κ t)).size ≤ Ac.bk t + 5800 ∧ (val16 κ t).size ≤ Ac.bk t + 5810 ∧ 0 < (val16 κ t).size := by
  obtain ⟨h1, h2⟩ := ok_all h hb
  have h3 := rpL_le (κ := κ) h2 hκ
  have e : (cat (rpP κ t)).size = (rpL κ t).length := by rw [cat_rp]; exact List.size_toArray
  have h4 := vb_five (x := (cat (rpP κ t)).size) (by omega)
  unfold val16
  rw [vz_size]
  omega
theorem val16_congr {κ κ' : ByteArray → ByteArray} {t : List Et} (h : ∀ x ∈ t, x.node.kind = 2 → κ x.node.data = κ' x.node.data) : rpP κ t = rpP κ' t ∧ val16 κ t = val16 κ' t := by
  have e : rpP κ t = rpP κ' t := by
    unfold rpP
    have : ∀ {l : List Et}, (∀ x ∈ l, x.node.kind = 2 → κ x.node.data = κ' x.node.data) → l.flatMap (partsE κ) = l.flatMap (partsE κ') := by
      intro l
      induction l with
      | nil => intro _; rfl
      | cons x l ih =>
        intro hl
        rw [List.flatMap_cons, List.flatMap_cons, ih (fun y hy => hl y (List.mem_cons_of_mem _ hy))]
        congr 1
        unfold partsE
        split
        · rename_i hk
          rw [hl x List.mem_cons_self hk]
        · rfl
    exact this h
  exact ⟨e, by unfold val16; rw [e]⟩
theorem mem_files {t : List Et} {d : ByteArray} : d ∈ Ac.files t ↔ ∃ x ∈ t, x.node.kind = 2 ∧ x.node.data = d := by
  unfold Ac.files
  rw [List.mem_map]
  constructor
  · rintro ⟨x, hx, rfl⟩
    rw [List.mem_filter] at hx
    exact ⟨x, hx.1, of_decide_eq_true hx.2, rfl⟩
  · rintro ⟨x, hx, hk, rfl⟩
    exact ⟨x, List.mem_filter.2 ⟨hx, decide_eq_true hk⟩, rfl⟩
theorem files_snoc {t : List Et} {i : Nat} {x : Et} (h : t[i]? = some x) : Ac.files (t.take (i + 1)) = Ac.files (t.take i) ++ (if x.node.kind = 2 then [x.node.data] else []) := by
  obtain ⟨hi, e⟩ := List.getElem?_eq_some_iff.1 h
  unfold Ac.files
  rw [List.take_succ_eq_append_getElem hi, List.filter_append, List.map_append, e]
  congr 1
  by_cases hk : x.node.kind = 2
  · rw [if_pos hk, List.filter_cons_of_pos (by simpa using hk)]
    rfl
  · rw [if_neg hk, List.filter_cons_of_neg (by simpa using hk)]
    rfl
def La (l : List UInt8) : ByteArray := ⟨l.toArray⟩
theorem la_size (l : List UInt8) : (La l).size = l.length := List.size_toArray
theorem rd_text {b : Nat} {p : ByteArray} {m : List UInt8} {w : World} (h : Rat w b (La (tl p ++ m))) (hs : (tl p ++ m).length ≤ 100000000000) (hp : p.size ≤ 100000000000) :
    Calls Tryz.prog 97 #[.pointer (some ⟨b, 0, none⟩)] w fun e w' => e = .returned (.tuple #[.string p, .int .i64 0]) ∧ Rat w' b (La m) ∧ w.grownBy w' (some b) := by
  have c := text_any b _ w h (by rw [la_size]; unfold maxLen; omega)
  have e : rdT (La (tl p ++ m)) = (p, (tl p).length, 0) := rdT_back p m (by omega)
  rw [e] at c
  have e2 : (La (tl p ++ m)).extract (tl p).length (La (tl p ++ m)).size = La m := ext_at (tl p) m
  simp only [e2] at c
  exact c
theorem rd_uint {b x : Nat} {m : List UInt8} {w : World} (h : Rat w b (La (vb x ++ m))) (hs : (vb x ++ m).length ≤ 100000000000) (hp : x ≤ 9223372036854775807) :
    Calls Tryz.prog 111 #[.pointer (some ⟨b, 0, none⟩)] w fun e w' => e = .returned (.tuple #[.int .i64 (x : Nat), .int .i64 0]) ∧ Rat w' b (La m) ∧ w.grownBy w' (some b) := by
  have c := uint_any b _ w h (by rw [la_size]; unfold maxLen; omega)
  have e : rdU (La (vb x ++ m)).data.toList = (x, (vb x).length, 0) := by
    show rdU (vb x ++ m) = _
    exact rdU_back x m hp
  rw [e] at c
  have e2 : (La (vb x ++ m)).extract (vb x).length (La (vb x ++ m)).size = La m := ext_at (vb x) m
  simp only [e2] at c
  exact c
theorem rd_left {b : Nat} {m : List UInt8} {w : World} (h : Rat w b (La m)) (hs : m.length ≤ 100000000000) :
    Calls Tryz.prog 98 #[.pointer (some ⟨b, 0, none⟩)] w fun e w' => e = .returned (.int .i64 (m.length : Nat)) ∧ w = w' := by
  have c := left_any b _ w h (by rw [la_size]; unfold maxLen; omega)
  rw [la_size] at c
  exact c
end Go.Proofs.YtdkgkomjbpggeaaGreatDoor.Az

namespace Go.Proofs.YtdkgkomjbpggeaaGreatDoor.Az
open Go.RowKit Tx Pm Dk Wm Wr Wl Pl Tb Bl Fm
open En (Et tcheck)
open Ac (Ar upd upd_same upd_other files saveA turnA backA forgetA calm)
set_option linter.unusedVariables false
set_option linter.unusedSimpArgs false
set_option linter.unnecessarySimpa false
theorem has_ref {C : List On} {M : Nat} (hg : Good8 C M) {d : ByteArray} : (of8 C d).isSome = true ↔ 1 ≤ refD C d := by
  constructor
  · intro h
    obtain ⟨x, hx, _, _, e⟩ := of8_mem h
    have := (hg.each x hx).2.1
    omega
  · intro h
    unfold refD at h
    cases hf : of8 C d with
    | none => rw [hf] at h; simp at h
    | some x => rfl
def putsC (C : List On) (l : List ByteArray) : List On := l.foldl (fun C t => (putC C t).1) C
theorem putsC_snoc (C : List On) (l : List ByteArray) (t : ByteArray) : putsC C (l ++ [t]) = (putC (putsC C l) t).1 := by unfold putsC; rw [List.foldl_append]; rfl
theorem cnt_app (l m : List ByteArray) (d : ByteArray) : cnt (l ++ m) d = cnt l d + cnt m d := by unfold cnt; rw [List.countP_append]
theorem cnt_pos {l : List ByteArray} {d : ByteArray} : 1 ≤ cnt l d ↔ d ∈ l := by
  unfold cnt
  rw [Nat.one_le_iff_ne_zero, ← Nat.pos_iff_ne_zero, List.countP_pos_iff]
  simp
theorem cnt_nil (d : ByteArray) : cnt [] d = 0 := rfl
theorem putsC_good {C : List On} {M : Nat} (hg : Good8 C M) (l : List ByteArray) (h : ∀ x ∈ l, x.size ≤ 140737488351232) : Good8 (putsC C l) (M + l.length) := by
  refine snoc7 (P := fun l => (∀ x ∈ l, x.size ≤ 140737488351232) → Good8 (putsC C l) (M + l.length)) (fun _ => hg) (fun l t ih h => ?_) l h
  rw [putsC_snoc, List.length_append, ← Nat.add_assoc]
  exact good_put (ih (fun x hx => h x (List.mem_append_left _ hx))) (h t (by simp))
theorem putsC_ref {C : List On} {M : Nat} (hg : Good8 C M) (l : List ByteArray) (h : ∀ x ∈ l, x.size ≤ 140737488351232) (d : ByteArray) : refD (putsC C l) d = refD C d + cnt l d ∧ ((of8 C d).isSome = true → keyD (putsC C l) d = keyD C d) := by
  refine snoc7 (P := fun l => (∀ x ∈ l, x.size ≤ 140737488351232) → refD (putsC C l) d = refD C d + cnt l d ∧ ((of8 C d).isSome = true → keyD (putsC C l) d = keyD C d)) (fun _ => ⟨rfl, fun _ => rfl⟩) (fun l t ih h => ?_) l h
  have hl := fun x hx => h x (List.mem_append_left _ hx)
  obtain ⟨h1, h2⟩ := ih hl
  have hgl := putsC_good hg l hl
  rw [putsC_snoc, put_refD hgl, h1, cnt_snoc]
  refine ⟨by omega, fun hd => ?_⟩
  rw [put_keyD hgl, h2 hd]
  rw [has_ref hgl, h1]
  have := (has_ref hg).1 hd
  omega
def relsC (C : List On) (l : List ByteArray) : List On := l.foldl (fun C t => (relC C (keyD C t)).1) C
theorem relsC_snoc (C : List On) (l : List ByteArray) (t : ByteArray) : relsC C (l ++ [t]) = (relC (relsC C l) (keyD (relsC C l) t)).1 := by unfold relsC; rw [List.foldl_append]; rfl
theorem relsC_good {C : List On} {M : Nat} (hg : Good8 C M) (l : List ByteArray) : Good8 (relsC C l) M := by
  refine snoc7 (P := fun l => Good8 (relsC C l) M) hg (fun l t ih => ?_) l
  rw [relsC_snoc]
  exact good_rel ih
theorem relsC_ref {C : List On} {M : Nat} (hg : Good8 C M) (l : List ByteArray) (h : ∀ d, cnt l d ≤ refD C d) (d : ByteArray) : refD (relsC C l) d = refD C d - cnt l d ∧ ((of8 (relsC C l) d).isSome = true → keyD (relsC C l) d = keyD C d) := by
  refine snoc7 (P := fun l => (∀ d, cnt l d ≤ refD C d) → ∀ d, refD (relsC C l) d = refD C d - cnt l d ∧ ((of8 (relsC C l) d).isSome = true → keyD (relsC C l) d = keyD C d)) (fun _ d => ⟨rfl, fun _ => rfl⟩) (fun l t ih h d => ?_) l h d
  have hl : ∀ d, cnt l d ≤ refD C d := fun d => by have := h d; rw [cnt_snoc] at this; omega
  have hgl := relsC_good hg l
  have ht : (of8 (relsC C l) t).isSome = true := by
    rw [has_ref hgl, (ih hl t).1]
    have := h t
    rw [cnt_snoc, if_pos rfl] at this
    omega
  obtain ⟨_, r2, r3, _⟩ := rel_of hgl ht
  rw [relsC_snoc, r2, (ih hl d).1, cnt_snoc]
  refine ⟨by split <;> omega, fun hd => ?_⟩
  rw [r3 d hd]
  refine (ih hl d).2 ?_
  have h1 := (has_ref (good_rel hgl)).1 hd
  rw [r2] at h1
  rw [has_ref hgl]
  omega
theorem relsC_at {C : List On} {M i : Nat} (hg : Good8 C M) {l : List ByteArray} {t : ByteArray} (h : ∀ d, cnt l d ≤ refD C d) (hi : l[i]? = some t) : (of8 (relsC C (l.take i)) t).isSome = true ∧ keyD (relsC C (l.take i)) t = keyD C t ∧ relsC C (l.take (i + 1)) = (relC (relsC C (l.take i)) (keyD C t)).1 := by
  have htk := take_snoc hi
  have hp : ∀ d, cnt (l.take (i + 1)) d ≤ refD C d := fun d => by
    have h1 := h d
    have h2 : cnt l d = cnt (l.take (i + 1)) d + cnt (l.drop (i + 1)) d := by rw [← cnt_app, List.take_append_drop]
    omega
  have hp0 : ∀ d, cnt (l.take i) d ≤ refD C d := fun d => by have := hp d; rw [htk, cnt_snoc] at this; omega
  obtain ⟨h1, h2⟩ := relsC_ref hg (l.take i) hp0 t
  have ht : (of8 (relsC C (l.take i)) t).isSome = true := by
    rw [has_ref (relsC_good hg _), h1]
    have := hp t
    rw [htk, cnt_snoc, if_pos rfl] at this
    omega
  exact ⟨ht, h2 ht, by rw [htk, relsC_snoc, h2 ht]⟩
def tot (f : Nat → List ByteArray) (d : ByteArray) : Nat := ((List.range 7).map fun j => cnt (f j) d).sum
def swF (held : List ByteArray) (y : On) : Option On := if cnt held (keyO y) = 0 then none else some { y with refs := cnt held (keyO y) }
theorem swC_of {C : List On} (held : List ByteArray) (d : ByteArray) (h : C.Pairwise (fun x y => x.data ≠ y.data)) : of8 (swC C held) d = (of8 C d).bind (swF held) := by
  show of8 (C.filterMap (swF held)) d = _
  induction C with
  | nil => rfl
  | cons y C ih =>
    obtain ⟨h1, h2⟩ := List.pairwise_cons.1 h
    have ih := ih h2
    unfold of8 at ih ⊢
    by_cases hy : y.data = d
    · rw [List.find?_cons_of_pos (by simpa using hy)]
      show _ = swF held y
      cases hf : swF held y with
      | none =>
        rw [List.filterMap_cons_none hf, ih]
        have : C.find? (fun x => decide (x.data = d)) = none := List.find?_eq_none.2 (fun z hz => by
          have := h1 z hz
          rw [hy] at this
          simpa using fun e => this e.symm)
        rw [this]
        rfl
      | some y' =>
        have hd : y'.data = d := by
          unfold swF at hf
          split at hf
          · cases hf
          · injection hf with hf; subst hf; exact hy
        rw [List.filterMap_cons_some hf, List.find?_cons_of_pos (by simpa using hd)]
    · rw [List.find?_cons_of_neg (by simpa using hy)]
      cases hf : swF held y with
      | none => rw [List.filterMap_cons_none hf, ih]
      | some y' =>
        have hd : y'.data = y.data := by
          unfold swF at hf
          split at hf
          · cases hf
          · injection hf with hf; subst hf; rfl
        rw [List.filterMap_cons_some hf, List.find?_cons_of_neg (by simpa [hd] using hy), ih]
theorem swC_ref {C : List On} {M : Nat} (hg : Good8 C M) (held : List ByteArray) (d : ByteArray) : refD (swC C held) d = (if (of8 C d).isSome then cnt held (keyD C d) else 0) ∧ ((of8 (swC C held) d).isSome = true → keyD (swC C held) d = keyD C d) := by
  have e := swC_of held d hg.datas
  unfold refD keyD
  rw [e]
  cases hf : of8 C d with
  | none => exact ⟨rfl, fun h => by cases h⟩
  | some y =>
    simp only [Option.bind_some, Option.isSome_some, if_true]
    unfold swF
    by_cases h0 : cnt held (keyO y) = 0
    · rw [if_pos h0]
      exact ⟨h0.symm, fun h => by cases h⟩
    · rw [if_neg h0]
      exact ⟨rfl, fun _ => rfl⟩
theorem cnt_map {C : List On} {M : Nat} (hg : Good8 C M) {d : ByteArray} (hd : (of8 C d).isSome = true) : ∀ {l : List ByteArray}, (∀ e ∈ l, (of8 C e).isSome = true) → cnt (l.map (keyD C)) (keyD C d) = cnt l d
  | [], _ => rfl
  | e :: l, h => by
    have ih := cnt_map hg hd (l := l) (fun x hx => h x (List.mem_cons_of_mem _ hx))
    have hk := keyD_inj hg (h e List.mem_cons_self) hd
    unfold cnt at ih ⊢
    rw [List.map_cons, List.countP_cons, List.countP_cons, ih]
    congr 1
    by_cases he : e = d
    · simp [he]
    · have : keyD C e ≠ keyD C d := fun h => he (hk.1 h)
      simp [he, this]
def heldK (κ : ByteArray → ByteArray) (f : Nat → List ByteArray) (n : Nat) : List ByteArray := (List.range n).flatMap fun j => (f (j + 1)).map κ
theorem heldK_succ (κ : ByteArray → ByteArray) (f : Nat → List ByteArray) (n : Nat) : heldK κ f (n + 1) = heldK κ f n ++ (f (n + 1)).map κ := by
  unfold heldK
  rw [List.range_succ, List.flatMap_append]
  simp
theorem heldK_cnt {C : List On} {M : Nat} (hg : Good8 C M) {d : ByteArray} (hd : (of8 C d).isSome = true) {f : Nat → List ByteArray} (h0 : f 0 = []) (h : ∀ j, j ≤ 6 → ∀ e ∈ f j, (of8 C e).isSome = true) : cnt (heldK (keyD C) f 6) (keyD C d) = tot f d := by
  have e : List.range 7 = [0, 1, 2, 3, 4, 5, 6] := rfl
  have e6 : heldK (keyD C) f 6 = (f 1).map (keyD C) ++ ((f 2).map (keyD C) ++ ((f 3).map (keyD C) ++ ((f 4).map (keyD C) ++ ((f 5).map (keyD C) ++ (f 6).map (keyD C))))) := by
    unfold heldK
    have : List.range 6 = [0, 1, 2, 3, 4, 5] := rfl
    rw [this]
    simp
  rw [e6]
  simp only [cnt_app]
  rw [cnt_map hg hd (h 1 (by omega)), cnt_map hg hd (h 2 (by omega)), cnt_map hg hd (h 3 (by omega)), cnt_map hg hd (h 4 (by omega)), cnt_map hg hd (h 5 (by omega)), cnt_map hg hd (h 6 (by omega))]
  unfold tot
  rw [e]
  simp only [List.map_cons, List.map_nil, List.sum_cons, List.sum_nil, h0, cnt_nil]
  omega
theorem heldK_mem {κ : ByteArray → ByteArray} {f : Nat → List ByteArray} {n : Nat} {p : ByteArray} (h : p ∈ heldK κ f n) : ∃ j d, 1 ≤ j ∧ j ≤ n ∧ d ∈ f j ∧ p = κ d := by
  unfold heldK at h
  obtain ⟨j, hj, hp⟩ := List.mem_flatMap.1 h
  obtain ⟨d, hd, rfl⟩ := List.mem_map.1 hp
  have := List.mem_range.1 hj
  exact ⟨j + 1, d, by omega, by omega, hd, rfl⟩
theorem heldK_len {κ : ByteArray → ByteArray} {f : Nat → List ByteArray} {N : Nat} (h : ∀ j, (f j).length ≤ N) : ∀ n, (heldK κ f n).length ≤ n * N
  | 0 => by rw [Nat.zero_mul]; exact Nat.le_refl 0
  | n + 1 => by
    rw [heldK_succ, List.length_append, List.length_map, Nat.succ_mul]
    have := heldK_len (κ := κ) h n
    have := h (n + 1)
    omega
def cz (C : List On) : Nat := (C.map fun y => y.data.size + 74).sum
theorem cz_put (C : List On) (d : ByteArray) : cz (putC C d).1 ≤ cz C + d.size + 74 := by
  unfold putC
  cases of8 C d with
  | some x =>
    show cz (setR C _ _) ≤ _
    have e : cz (setR C (keyO x) (x.refs + 1)) = cz C := by
      unfold cz
      have : ∀ D : List On, (D.map fun y => y.data.size + 74) = (D.map On.data).map (fun d => d.size + 74) := fun D => by rw [List.map_map]; rfl
      rw [this, this C, setR_datas]
    omega
  | none =>
    show cz (C ++ [newO C d]) ≤ _
    unfold cz
    rw [List.map_append, List.sum_append]
    show _ + (d.size + 74 + 0) ≤ _
    omega
theorem cz_puts (C : List On) : ∀ l : List ByteArray, cz (putsC C l) ≤ cz C + (l.map fun d => d.size + 74).sum := fun l => by
  refine snoc7 (P := fun l => cz (putsC C l) ≤ cz C + (l.map fun d => d.size + 74).sum) (Nat.le_refl _) (fun l t ih => ?_) l
  rw [putsC_snoc, List.map_append, List.sum_append]
  have := cz_put (putsC C l) t
  show _ ≤ _ + (_ + (t.size + 74 + 0))
  omega
theorem sum_sub {f : On → Nat} {p : On → Bool} : ∀ l : List On, ((l.filter p).map f).sum ≤ (l.map f).sum
  | [] => Nat.le_refl _
  | x :: l => by
    have := sum_sub (f := f) (p := p) l
    rw [List.filter_cons]
    split
    · rw [List.map_cons, List.map_cons, List.sum_cons, List.sum_cons]; omega
    · rw [List.map_cons, List.sum_cons]; omega
theorem cz_set (C : List On) (p : ByteArray) (k : Nat) : cz (setR C p k) = cz C := by
  unfold cz
  have : ∀ D : List On, (D.map fun y => y.data.size + 74) = (D.map On.data).map (fun d => d.size + 74) := fun D => by rw [List.map_map]; rfl
  rw [this, this C, setR_datas]
theorem cz_rel (C : List On) (p : ByteArray) : cz (relC C p).1 ≤ cz C := by
  unfold relC
  cases at8 C p with
  | none => exact Nat.le_refl _
  | some x =>
    show cz (if x.refs = 1 then delR C p else setR C p (x.refs - 1)) ≤ _
    split
    · exact sum_sub C
    · rw [cz_set]; exact Nat.le_refl _
theorem cz_rels (C : List On) (l : List ByteArray) : cz (relsC C l) ≤ cz C := by
  refine snoc7 (P := fun l => cz (relsC C l) ≤ cz C) (Nat.le_refl _) (fun l t ih => ?_) l
  rw [relsC_snoc]
  exact Nat.le_trans (cz_rel _ _) ih
theorem cz_sw (C : List On) (held : List ByteArray) : cz (swC C held) ≤ cz C := by
  show cz (C.filterMap (swF held)) ≤ _
  induction C with
  | nil => exact Nat.le_refl _
  | cons y C ih =>
    unfold cz at ih ⊢
    cases hf : swF held y with
    | none => rw [List.filterMap_cons_none hf, List.map_cons, List.sum_cons]; omega
    | some y' =>
      have hd : y'.data = y.data := by
        unfold swF at hf
        split at hf
        · cases hf
        · injection hf with hf; subst hf; rfl
      rw [List.filterMap_cons_some hf, List.map_cons, List.sum_cons, List.map_cons, List.sum_cons, hd]
      omega
def hold (A : Ar) (i : Nat) : List ByteArray := match A.tr i with
  | some t => if (A.tu i).isNone || A.wh then files t else []
  | none => []
def rdl (A : Ar) (i : Nat) : List ByteArray := match A.tr i with
  | some t => if (A.tu i).isNone then files t else []
  | none => []
theorem tot_upd (f : Nat → List ByteArray) {i : Nat} (hi : i ≤ 6) (x : List ByteArray) (d : ByteArray) : tot (upd f i x) d + cnt (f i) d = tot f d + cnt x d := by
  have e : List.range 7 = [0, 1, 2, 3, 4, 5, 6] := rfl
  unfold tot
  rw [e]
  simp only [List.map_cons, List.map_nil, List.sum_cons, List.sum_nil]
  obtain rfl | rfl | rfl | rfl | rfl | rfl | rfl : i = 0 ∨ i = 1 ∨ i = 2 ∨ i = 3 ∨ i = 4 ∨ i = 5 ∨ i = 6 := by omega
  all_goals
    simp [upd]
    omega
theorem tot_le (f : Nat → List ByteArray) {i : Nat} (hi : i ≤ 6) (d : ByteArray) : cnt (f i) d ≤ tot f d := by
  have h := tot_upd f hi [] d
  rw [cnt_nil] at h
  omega
theorem tot_congr {f g : Nat → List ByteArray} (h : ∀ j, j ≤ 6 → f j = g j) (d : ByteArray) : tot f d = tot g d := by
  unfold tot
  congr 1
  refine List.map_congr_left (fun j hj => ?_)
  rw [h j (by have := List.mem_range.1 hj; omega)]
theorem hold_save (A : Ar) (i : Nat) (t : List Et) : hold (saveA A i t) = upd (hold A) i (files t) := by
  funext j
  unfold hold saveA upd
  by_cases h : j = i
  · subst h; simp
  · simp [h]
theorem hold_back {A : Ar} {i : Nat} (hw : A.wh = true) : hold (backA A i) = hold A := by
  funext j
  unfold hold backA
  simp only [hw, Bool.or_true, if_true]
theorem hold_turn (A : Ar) (i : Nat) (b : Int) (d : ByteArray) : cnt (hold (turnA A i b) i) d ≤ cnt (hold A i) d ∨ A.tu i ≠ none := by
  by_cases ht : A.tu i = none
  · left
    unfold hold turnA
    simp only [ht, upd_same]
    cases A.tr i with
    | none => exact Nat.le_refl _
    | some t =>
      simp only [Option.isNone_none, Bool.true_or, if_true, Option.isNone_some, Bool.false_or]
      split
      · exact Nat.le_refl _
      · exact Nat.zero_le _
  · exact .inr ht
theorem hold_turn_other (A : Ar) (b : Int) {i j : Nat} (h : j ≠ i) : hold (turnA A i b) j = hold A j := by
  unfold hold turnA
  simp only [upd_other _ _ h]
theorem hold_turn_wh {A : Ar} {i : Nat} {b : Int} (hw : A.wh = true) : hold (turnA A i b) = hold A := by
  funext j
  unfold hold turnA
  simp only [hw, Bool.or_true, if_true]
theorem hold_forget (A : Ar) (i : Nat) {j : Nat} (hj : j ≤ 6) : hold (forgetA A i) j = upd (rdl A) i [] j := by
  unfold hold forgetA rdl upd
  by_cases h : j = i
  · subst h; simp
  · simp only [if_neg h]
    cases ht : A.tr j with
    | none => rfl
    | some t =>
      cases hu : A.tu j with
      | none => simp
      | some b =>
        have : calm (fun k => if k = i then none else A.tu k) = false := by
          unfold calm
          rw [List.all_eq_false]
          exact ⟨j, List.mem_range.2 (by omega), by simp [h, hu]⟩
        simp [this]
end Go.Proofs.YtdkgkomjbpggeaaGreatDoor.Az

namespace Go.Proofs.YtdkgkomjbpggeaaGreatDoor.Tb
open Go.RowKit Tx Pm Dk Wm Wr Wl
set_option linter.unusedVariables false
set_option linter.unusedSimpArgs false
set_option linter.unnecessarySimpa false
def tot (S : List (ByteArray × ByteArray)) : Nat := (S.map fun s => s.1.size + s.2.size + 40).sum
theorem tot_cons (s : ByteArray × ByteArray) (S : List (ByteArray × ByteArray)) : tot (s :: S) = s.1.size + s.2.size + 40 + tot S := by unfold tot; rw [List.map_cons, List.sum_cons]
def FromC (S : List (ByteArray × ByteArray)) (c : Ch) : Prop := c.gone = false → (c.key, c.val) ∈ S
def FromL (S : List (ByteArray × ByteArray)) (L : List It) : Prop := ∀ x ∈ L, (x.path, x.data) ∈ S
def Rc (S : List (ByteArray × ByteArray)) (r : ByteArray) : Prop := (opsS r).2 = 0 ∧ r.size ≤ 1100010 ∧ ∀ c ∈ (opsS r).1, FromC S c
section
variable {S : List (ByteArray × ByteArray)}
theorem from_app {L : List It} {c : Ch} (hL : FromL S L) (hc : FromC S c) : FromL S (app L c) := fun x hx => by
  unfold app at hx
  cases hg : c.gone with
  | true =>
    rw [hg] at hx
    exact hL x (List.mem_filter.1 hx).1
  | false =>
    rw [hg] at hx
    rcases mem_ins hx with rfl | hx
    · exact hc hg
    · exact hL x hx
theorem from_all {L : List It} : ∀ {l : List Ch}, FromL S L → (∀ c ∈ l, FromC S c) → FromL S (all7 L l) := fun {l} => by
  induction l generalizing L with
  | nil => exact fun h _ => h
  | cons c l ih => exact fun h hc => ih (from_app h (hc c List.mem_cons_self)) (fun d hd => hc d (List.mem_cons_of_mem _ hd))
theorem from_rows {L : List It} {R : List ByteArray} (hL : FromL S L) (hR : ∀ r ∈ R, Rc S r) : FromL S (rows7 L R) := by
  induction R generalizing L with
  | nil => exact hL
  | cons r R ih => exact ih (from_all hL (hR r List.mem_cons_self).2.2) (fun d hd => hR d (List.mem_cons_of_mem _ hd))
theorem ws_pick : ∀ {L : List It} {x : It}, L.Pairwise (fun a b => a.path ≠ b.path) → x ∈ L → ws L = ws (L.filter fun y => !decide (y.path = x.path)) + (x.path.size + x.data.size + 40)
  | [], _, _, h => by cases h
  | y :: L, x, hp, h => by
    obtain ⟨h1, h2⟩ := List.pairwise_cons.1 hp
    by_cases he : y.path = x.path
    · have hyx : x = y := by
        rcases List.mem_cons.1 h with h | h
        · exact h
        · exact absurd he (h1 x h)
      subst hyx
      have hf : L.filter (fun y => !decide (y.path = x.path)) = L := List.filter_eq_self.2 (fun z hz => by have := h1 z hz; simp [Ne.symm this])
      rw [List.filter_cons_of_neg (by simp), hf, ws_cons]
      omega
    · have hx : x ∈ L := by
        rcases List.mem_cons.1 h with h | h
        · exact absurd (by rw [h]) he
        · exact h
      rw [List.filter_cons_of_pos (by simp [he]), ws_cons, ws_cons, ws_pick h2 hx]
      omega
theorem ws_from : ∀ {S : List (ByteArray × ByteArray)} {L : List It}, L.Pairwise (fun a b => a.path ≠ b.path) → FromL S L → ws L ≤ tot S
  | [], L, _, h => by
    cases L with
    | nil => exact Nat.le_refl _
    | cons x L => exact absurd (h x List.mem_cons_self) (by simp)
  | s :: S, L, hp, h => by
    rw [tot_cons]
    by_cases hx : ∃ x ∈ L, (x.path, x.data) = s
    · obtain ⟨x, hx, rfl⟩ := hx
      rw [ws_pick hp hx]
      have ih := ws_from (S := S) (L := L.filter fun y => !decide (y.path = x.path)) (hp.filter _) (fun y hy => by
        obtain ⟨hy1, hy2⟩ := List.mem_filter.1 hy
        rcases List.mem_cons.1 (h y hy1) with e | e
        · simp only [Prod.mk.injEq] at e
          rw [e.1] at hy2
          simp at hy2
        · exact e)
      show _ ≤ x.path.size + x.data.size + 40 + tot S
      omega
    · have ih := ws_from (S := S) (L := L) hp (fun y hy => by
        rcases List.mem_cons.1 (h y hy) with e | e
        · exact absurd ⟨y, hy, e⟩ hx
        · exact e)
      omega
theorem rises_ne {L : List It} (h : Rises L) : L.Pairwise (fun a b => a.path ≠ b.path) := List.Pairwise.imp (fun {a b} hab e => by rw [e, less_irrefl] at hab; cases hab) h
theorem ws_len (L : List It) : L.length * 40 ≤ ws L := by
  induction L with
  | nil => exact Nat.le_refl _
  | cons x L ih => rw [ws_cons, List.length_cons, Nat.succ_mul]; omega
theorem sum_le : ∀ {l : List Nat} {N : Nat}, (∀ x ∈ l, x ≤ N) → l.sum ≤ l.length * N
  | [], _, _ => Nat.zero_le _
  | x :: l, N, h => by
    have h1 := h x List.mem_cons_self
    have h2 := sum_le (l := l) (fun y hy => h y (List.mem_cons_of_mem _ hy))
    rw [List.sum_cons, List.length_cons, Nat.succ_mul]
    omega
theorem based_rises {B : Option Fi} {L : List It} (h : Based B L) : Rises L ∧ Plain L := by
  rcases h with ⟨_, rfl⟩ | ⟨r, n, ops, _, _, _, rfl⟩
  · exact ⟨List.Pairwise.nil, fun x hx => by cases hx⟩
  · exact ⟨rises_all List.Pairwise.nil _, plain_all (fun x hx => by cases hx) _⟩
theorem ins_end {acc : List It} {x : It} (h : ∀ y ∈ acc, Op.bytesLess y.path.toList x.path.toList = true) : ins acc x = acc ++ [x] := by
  have h1 : acc.takeWhile (fun y => Op.bytesLess y.path.toList x.path.toList) = acc ∧ acc.dropWhile (fun y => Op.bytesLess y.path.toList x.path.toList) = [] := by
    induction acc with
    | nil => exact ⟨rfl, rfl⟩
    | cons y acc ih =>
      have hy := h y List.mem_cons_self
      obtain ⟨i1, i2⟩ := ih (fun z hz => h z (List.mem_cons_of_mem _ hz))
      rw [List.takeWhile_cons, List.dropWhile_cons, hy]
      simp only [if_true, i1, i2]
      exact ⟨trivial, trivial⟩
  unfold ins
  rw [h1.1, h1.2]
theorem all_asc : ∀ (L acc : List It), Rises (acc ++ L) → Plain L → all7 acc (whole7 L) = acc ++ L
  | [], acc, _, _ => by rw [List.append_nil]; rfl
  | x :: L, acc, hr, hp => by
    have hx : rw7 x.path x.data = x := (hp x List.mem_cons_self).symm
    have e : acc ++ x :: L = (acc ++ [x]) ++ L := by simp
    rw [e] at hr ⊢
    have ih := all_asc L (acc ++ [x]) hr (fun y hy => hp y (List.mem_cons_of_mem _ hy))
    have hlow : ∀ y ∈ acc, Op.bytesLess y.path.toList x.path.toList = true := fun y hy => by
      have h1 := (List.pairwise_append.1 hr).1
      exact (List.pairwise_append.1 h1).2.2 y hy x (by simp)
    show all7 (app acc ⟨x.path, x.data, false⟩) (whole7 L) = _
    have ha : app acc ⟨x.path, x.data, false⟩ = acc ++ [x] := by
      unfold app
      show ins acc (rw7 x.path x.data) = _
      rw [hx]
      exact ins_end hlow
    rw [ha]
    exact ih
structure Cx (S : List (ByteArray × ByteArray)) (K M : Nat) (B BT G GT : Option Fi) (st sm : Nat) (L0 : List It) (R : List ByteArray) (r : ByteArray) : Prop where
  sz : Sz B BT G GT st sm
  bs : B = none ∨ ∃ d n, B = some (sy d n)
  based : Based B L0
  from0 : FromL S L0
  recs : ∀ x ∈ R ++ [r], Rc S x
  len : R.length ≤ M
  st : st ≤ K
  sm : sm ≤ K
  log : ∀ G', Re G G' → ∃ c n, G' = some (sy c n) ∧ Torn R r c
def Dsk (S : List (ByteArray × ByteArray)) (K M : Nat) (s : St) : Prop := ∃ B BT G GT st sm a dn L0 R r, s = T7 B BT G GT st sm a dn ∧ Rng a ∧ Cx S K M B BT G GT st sm L0 R r
def Wk (S : List (ByteArray × ByteArray)) (K M : Nat) (x : Tst) : Prop := ∃ B BT n GT st sm a L0 R, x = ⟨⟨T7 B BT (some (sy (PK R) n)) GT st sm a false, R, false⟩, rows7 L0 R⟩ ∧ Rng a ∧ Cx S K M B BT (some (sy (PK R) n)) GT st sm L0 R (rec7 [])
theorem Wk.dsk {K M : Nat} {x : Tst} (h : Wk S K M x) : Dsk S K M x.j.s := by
  obtain ⟨B, BT, n, GT, st, sm, a, L0, R, rfl, ha, hc⟩ := h
  exact ⟨B, BT, _, GT, st, sm, a, false, L0, R, _, rfl, ha, hc⟩
theorem Wk.rows {K M : Nat} {x : Tst} (h : Wk S K M x) (hS : tot S ≤ 1100000) : Rises x.L ∧ Plain x.L ∧ FromL S x.L ∧ ws x.L ≤ 1100000 := by
  obtain ⟨B, BT, n, GT, st, sm, a, L0, R, rfl, ha, hc⟩ := h
  obtain ⟨h1, h2⟩ := based_rises hc.based
  have hr := rises_rows h1 R
  have hf := from_rows hc.from0 (fun r hr => hc.recs r (List.mem_append_left _ hr))
  have := ws_from (rises_ne hr) hf
  exact ⟨hr, plain_rows h2 R, hf, by show ws (rows7 L0 R) ≤ _; omega⟩
theorem Wk.up {K K' M M' : Nat} {x : Tst} (h : Wk S K M x) (hK : K ≤ K') (hM : M ≤ M') : Wk S K' M' x := by
  obtain ⟨B, BT, n, GT, st, sm, a, L0, R, rfl, ha, hc⟩ := h
  exact ⟨B, BT, n, GT, st, sm, a, L0, R, rfl, ha, hc.sz, hc.bs, hc.based, hc.from0, hc.recs, Nat.le_trans hc.len hM, Nat.le_trans hc.st hK, Nat.le_trans hc.sm hK, hc.log⟩
theorem Dsk.up {K K' M M' : Nat} {s : St} (h : Dsk S K M s) (hK : K ≤ K') (hM : M ≤ M') : Dsk S K' M' s := by
  obtain ⟨B, BT, G, GT, st, sm, a, dn, L0, R, r, rfl, ha, hc⟩ := h
  exact ⟨B, BT, G, GT, st, sm, a, dn, L0, R, r, rfl, ha, hc.sz, hc.bs, hc.based, hc.from0, hc.recs, Nat.le_trans hc.len hM, Nat.le_trans hc.st hK, Nat.le_trans hc.sm hK, hc.log⟩
theorem Wk.down {K M : Nat} {x : Tst} (h : Wk S K M x) : x.j.s.down = false ∧ x.j.dm = false := by
  obtain ⟨B, BT, n, GT, st, sm, a, L0, R, rfl, ha, hc⟩ := h
  exact ⟨rfl, rfl⟩
end
end Go.Proofs.YtdkgkomjbpggeaaGreatDoor.Tb

namespace Go.Proofs.YtdkgkomjbpggeaaGreatDoor.Az
open Go.RowKit Tx Pm Dk Wm Wr Wl Pl Tb Bl Fm
open Fr hiding sv Texts cnt cnt_snoc
set_option linter.unusedVariables false
set_option linter.unusedSimpArgs false
set_option linter.unnecessarySimpa false
theorem ws_mid (s t : List It) (x : It) : ws (s ++ x :: t) = ws (s ++ t) + (x.path.size + x.data.size + 40) := by
  rw [ws_append, ws_append, ws_cons]
  omega
theorem ws_sub : ∀ (R L : List It), R.Nodup → (∀ x ∈ R, x ∈ L) → ws R ≤ ws L
  | [], L, _, _ => Nat.zero_le _
  | x :: R, L, hn, h => by
    obtain ⟨h1, h2⟩ := List.nodup_cons.1 hn
    obtain ⟨s, t, rfl⟩ := List.append_of_mem (h x List.mem_cons_self)
    have ih := ws_sub R (s ++ t) h2 (fun y hy => by
      have hm := h y (List.mem_cons_of_mem _ hy)
      have hne : y ≠ x := fun e => h1 (e ▸ hy)
      rw [List.mem_append, List.mem_cons] at hm
      rw [List.mem_append]
      exact hm.elim .inl (fun hh => hh.elim (fun e => absurd e hne) .inr))
    rw [ws_cons, ws_mid]
    omega
theorem wt_sub : ∀ (l : List Ch) (R : List It), (l.map (·.key)).Nodup → (∀ c ∈ l, c.gone = false → rw7 c.key c.val ∈ R) → (∀ c ∈ l, c.gone = true → c.key.size ≤ 14 ∧ c.val.size = 0) → wt l ≤ ws R + 54 * l.length
  | [], R, _, _, _ => Nat.zero_le _
  | c :: l, R, hn, h, hg => by
    rw [List.map_cons] at hn
    obtain ⟨h1, h2⟩ := List.nodup_cons.1 hn
    have hg2 := fun c' (hc' : c' ∈ l) => hg c' (List.mem_cons_of_mem _ hc')
    rw [wt_cons, List.length_cons]
    cases hgc : c.gone with
    | true =>
      obtain ⟨g1, g2⟩ := hg c List.mem_cons_self hgc
      have ih := wt_sub l R h2 (fun c' hc' => h c' (List.mem_cons_of_mem _ hc')) hg2
      omega
    | false =>
      obtain ⟨s, t, rfl⟩ := List.append_of_mem (h c List.mem_cons_self hgc)
      have ih := wt_sub l (s ++ t) h2 (fun c' hc' hg' => by
        have hm := h c' (List.mem_cons_of_mem _ hc') hg'
        have hne : rw7 c'.key c'.val ≠ rw7 c.key c.val := fun e => h1 (by
          have : (rw7 c'.key c'.val).path = (rw7 c.key c.val).path := by rw [e]
          have e2 : c'.key = c.key := this
          exact List.mem_map.2 ⟨c', hc', e2⟩)
        rw [List.mem_append, List.mem_cons] at hm
        rw [List.mem_append]
        exact hm.elim .inl (fun hh => hh.elim (fun e => absurd e hne) .inr)) hg2
      rw [ws_mid]
      have e1 : (rw7 c.key c.val).path = c.key := rfl
      have e2 : (rw7 c.key c.val).data = c.val := rfl
      rw [e1, e2]
      omega
theorem rises_nodup {L : List It} (h : Rises L) : L.Nodup := List.Pairwise.imp (fun {a b} hab e => hab (by rw [e])) (rises_ne h)
theorem find_of {L : List It} (h : Rises L) {x : It} (hx : x ∈ L) : find L x.path = some x := by
  have hne := rises_ne h
  induction L with
  | nil => cases hx
  | cons y L ih =>
    obtain ⟨h1, h2⟩ := List.pairwise_cons.1 hne
    unfold find at ih ⊢
    rcases List.mem_cons.1 hx with rfl | hx
    · exact List.find?_cons_of_pos (by simp)
    · rw [List.find?_cons_of_neg (by simpa using h1 x hx)]
      exact ih (List.pairwise_cons.1 h).2 hx h2
theorem wt_rows {L : List It} {l : List Ch} {C : List On} {N : Nat} (hr : Rises L) (ho : Once l) (hk : Ks l C N) : wt l ≤ ws (all7 L l) + 54 * N := by
  have hlen := hk.len ho
  obtain ⟨S, s1, s2, s3, s4, s5⟩ := hk
  have h := wt_sub l (all7 L l) (once_keys.1 ho) (fun c hc hg => ?_) (fun c hc hg => ⟨s5 _ (s2 c hc).1, (s2 c hc).2 hg⟩)
  · have := Nat.mul_le_mul_left 54 hlen
    omega
  · have hf : lastOf l c.key = some c := by
      have hu : ∀ {m : List Ch}, m.Pairwise (fun a b => a.key ≠ b.key) → c ∈ m → m.find? (fun d => decide (d.key = c.key)) = some c := fun {m} hm hc => by
        induction m with
        | nil => cases hc
        | cons y m ih =>
          obtain ⟨h1, h2⟩ := List.pairwise_cons.1 hm
          rcases List.mem_cons.1 hc with rfl | hc
          · exact List.find?_cons_of_pos (by simp)
          · rw [List.find?_cons_of_neg (by simpa using h1 c hc)]
            exact ih h2 hc
      unfold lastOf
      refine hu ?_ (List.mem_reverse.2 hc)
      rw [List.pairwise_reverse]
      exact List.Pairwise.imp (fun h e => h e.symm) ho
    have := find_all L l c.key
    rw [hf] at this
    have e : after (find L c.key) (some c) = some (rw7 c.key c.val) := by unfold after; simp [hg]
    rw [e] at this
    exact (find_mem this).1
def Zr (Z : List It) (vals : Nat → Option ByteArray) : Prop := (∀ i, 1 ≤ i → i ≤ 6 → find Z (keyA i) = (vals i).map (rw7 (keyA i))) ∧ ∀ p, beg pB2 p = false → (∀ i, 1 ≤ i → i ≤ 6 → p ≠ keyA i) → find Z p = none
theorem zr_put {Z : List It} {vals : Nat → Option ByteArray} (h : Zr Z vals) {i : Nat} (v : ByteArray) (h1 : 1 ≤ i) (h6 : i ≤ 6) : Zr (app Z ⟨keyA i, v, false⟩) (Ac.upd vals i (some v)) := by
  refine ⟨fun j j1 j6 => ?_, fun p hp hn => ?_⟩
  · rw [find_app7]
    by_cases e : i = j
    · subst e
      rw [if_pos rfl, Ac.upd_same]
      rfl
    · rw [if_neg (fun hh => e (keyA_inj hh)), Ac.upd_other _ _ (fun hh => e hh.symm)]
      exact h.1 j j1 j6
  · rw [find_app7, if_neg (fun hh => hn i h1 h6 hh.symm)]
    exact h.2 p hp hn
theorem zr_drop {Z : List It} {vals : Nat → Option ByteArray} (h : Zr Z vals) {i : Nat} (h1 : 1 ≤ i) (h6 : i ≤ 6) : Zr (app Z ⟨keyA i, ⟨#[]⟩, true⟩) (Ac.upd vals i none) := by
  refine ⟨fun j j1 j6 => ?_, fun p hp hn => ?_⟩
  · rw [find_app7]
    by_cases e : i = j
    · subst e
      rw [if_pos rfl, Ac.upd_same]
      rfl
    · rw [if_neg (fun hh => e (keyA_inj hh)), Ac.upd_other _ _ (fun hh => e hh.symm)]
      exact h.1 j j1 j6
  · rw [find_app7, if_neg (fun hh => hn i h1 h6 hh.symm)]
    exact h.2 p hp hn
def rowO (y : On) : It := rw7 (keyO y) (enc y.refs y.data)
def zl (vals : Nat → Option ByteArray) : List It := (List.range 6).filterMap fun i => (vals (i + 1)).map (rw7 (keyA (i + 1)))
theorem ws_rowO {C : List On} {M : Nat} (hg : Good8 C M) (hM : M ≤ 100000000) : ws (C.map rowO) ≤ cz C := by
  have h : ∀ y ∈ C, (rowO y).path.size + (rowO y).data.size + 40 ≤ y.data.size + 74 := fun y hy => by
    obtain ⟨_, _, h3, _, h5⟩ := hg.each y hy
    have h1 := keyO_size hg hM hy
    have h2 := enc_size (h := y.refs) (d := y.data) (by omega) (by omega)
    show (keyO y).size + (enc y.refs y.data).size + 40 ≤ _
    omega
  clear hg
  unfold ws cz
  induction C with
  | nil => exact Nat.le_refl _
  | cons y C ih =>
    simp only [List.map_cons, List.sum_cons]
    have h1 := h y List.mem_cons_self
    have h2 := ih (fun z hz => h z (List.mem_cons_of_mem _ hz))
    omega
theorem ws_zl {vals : Nat → Option ByteArray} {b : Nat} (h : ∀ i v, vals i = some v → v.size ≤ b) : ws (zl vals) ≤ 6 * (b + 54) := by
  have hl : (zl vals).length ≤ 6 := by
    unfold zl
    exact Nat.le_trans (List.length_filterMap_le _ _) (by rw [List.length_range]; exact Nat.le_refl _)
  have hm : ∀ x ∈ zl vals, x.path.size + x.data.size + 40 ≤ b + 54 := fun x hx => by
    unfold zl at hx
    obtain ⟨i, hi, e⟩ := List.mem_filterMap.1 hx
    have hi6 := List.mem_range.1 hi
    cases hv : vals (i + 1) with
    | none => rw [hv] at e; cases e
    | some v =>
      rw [hv] at e
      injection e with e
      subst e
      have h1 := h _ _ hv
      have h2 := keyA_size (i := i + 1) (by omega)
      show (keyA (i + 1)).size + v.size + 40 ≤ _
      omega
  unfold ws
  have := sum_le (l := (zl vals).map fun x => x.path.size + x.data.size + 40) (N := b + 54) (fun k hk => by
    obtain ⟨x, hx, rfl⟩ := List.mem_map.1 hk
    exact hm x hx)
  rw [List.length_map] at this
  have := Nat.mul_le_mul_right (b + 54) hl
  omega
theorem ws_state {R Z : List It} {C : List On} {M b : Nat} {vals : Nat → Option ByteArray} (hR : Rep R C) (hg : Good8 C M) (hM : M ≤ 100000000) (hZ : ∀ p, beg pB2 p = false → find R p = find Z p) (hz : Zr Z vals) (hb : ∀ i v, vals i = some v → v.size ≤ b) : ws R ≤ cz C + 6 * (b + 54) := by
  have h := ws_sub R (C.map rowO ++ zl vals) (rises_nodup hR.rises) (fun x hx => by
    have hf := find_of hR.rises hx
    rw [List.mem_append]
    cases hp : beg pB2 x.path with
    | true =>
      rw [hR.look _ hp] at hf
      cases ha : at8 C x.path with
      | none => rw [ha] at hf; cases hf
      | some y =>
        rw [ha] at hf
        injection hf with hf
        exact .inl (List.mem_map.2 ⟨y, (at8_some ha).1, hf⟩)
    | false =>
      rw [hZ _ hp] at hf
      by_cases he : ∃ i, 1 ≤ i ∧ i ≤ 6 ∧ x.path = keyA i
      · obtain ⟨i, h1, h6, e⟩ := he
        rw [e, hz.1 i h1 h6] at hf
        refine .inr (List.mem_filterMap.2 ⟨i - 1, List.mem_range.2 (by omega), ?_⟩)
        rw [show i - 1 + 1 = i by omega]
        exact hf
      · rw [hz.2 _ hp (fun i h1 h6 e => he ⟨i, h1, h6, e⟩)] at hf
        cases hf)
  rw [ws_append] at h
  have h1 := ws_rowO hg hM
  have h2 := ws_zl hb
  omega
end Go.Proofs.YtdkgkomjbpggeaaGreatDoor.Az

namespace Go.Proofs.YtdkgkomjbpggeaaGreatDoor.Az
open Go.RowKit Tx Pm Dk Wm Wr Wl Pl Tb
set_option linter.unusedVariables false
set_option linter.unusedSimpArgs false
set_option linter.unnecessarySimpa false
def Ht (y : Tst) (K : Nat) : Prop := ∃ B n st sm R L0, y = ⟨⟨T7 B none (some (sy (PK R) n)) none st sm (-1) false, R, false⟩, rows7 L0 R⟩ ∧ Based B L0 ∧ Ook B ∧ (∀ r ∈ R, (opsS r).2 = 0 ∧ r.size ≤ 25000010) ∧ L0.length ≤ 10000000 ∧ R.length ≤ 15 ∧ st ≤ 4 + 8 * K ∧ sm ≤ 2 + 8 * K ∧ Rises L0 ∧ Plain L0
theorem ht_new : Ht ⟨⟨s0T, [], false⟩, []⟩ 0 := ⟨none, 2, 4, 2, [], [], rfl, .inl ⟨rfl, rfl⟩, ook_none, (fun r h => by cases h), Nat.zero_le _, Nat.zero_le _, Nat.le_refl _, Nat.le_refl _, List.Pairwise.nil, fun x h => by cases h⟩
theorem sumZ : ∀ {l : List Nat} {N : Nat}, (∀ x ∈ l, x ≤ N) → l.sum ≤ l.length * N
  | [], _, _ => Nat.zero_le _
  | x :: l, N, h => by
    have h1 := h x List.mem_cons_self
    have h2 := sumZ (l := l) (fun y hy => h y (List.mem_cons_of_mem _ hy))
    rw [List.sum_cons, List.length_cons, Nat.succ_mul]
    omega
theorem pk_sum : ∀ {R : List ByteArray}, (∀ r ∈ R, r.size ≤ 25000010) → (PK R).size ≤ R.length * 25000100 := by
  intro R
  refine snoc7 (P := fun R => (∀ r ∈ R, r.size ≤ 25000010) → (PK R).size ≤ R.length * 25000100) (fun _ => Nat.le_refl _) (fun l v ih h => ?_) R
  have h1 := ih (fun x hx => h x (List.mem_append_left _ hx))
  have hv := h v (by simp)
  have h3 := pk_bound (r := v) (by omega)
  rw [PK_snoc, ByteArray.size_append, List.length_append]
  show _ ≤ (l.length + 1) * 25000100
  omega
theorem recok_Z {L : List It} {R : List ByteArray} (h : ∀ r ∈ R, (opsS r).2 = 0 ∧ r.size ≤ 25000010) (hL : L.length ≤ 10000000) (hR : R.length ≤ 15) : RecOk L R := by
  have h2 := sumZ (l := R.map (·.size)) (N := 25000010) (fun x hx => by
    obtain ⟨r, hr, rfl⟩ := List.mem_map.1 hx
    exact (h r hr).2)
  rw [List.length_map] at h2
  have := Nat.mul_le_mul_right 25000010 hR
  exact ⟨fun r hr => ⟨(h r hr).1, by have := (h r hr).2; omega⟩, by omega, by omega⟩
theorem ht_sz {B : Option Fi} {n st sm K : Nat} {R : List ByteArray} (hB : Ook B) (h : ∀ r ∈ R, (opsS r).2 = 0 ∧ r.size ≤ 25000010) (hR : R.length ≤ 15) (hK : K ≤ 1000) (hst : st ≤ 4 + 8 * K) (hsm : sm ≤ 2 + 8 * K) : Sz B none (some (sy (PK R) n)) none st sm := by
  have h1 := pk_sum (fun r hr => (h r hr).2)
  have := Nat.mul_le_mul_right 25000100 hR
  exact ⟨hB, ook_none, ook_sy (by omega), ook_none, by omega, by omega⟩
theorem ht_open {y : Tst} {K : Nat} (h : Ht y K) (hK : K ≤ 1000) : Open7Ok y.j.s pS pB pG ∧ open7 y.j.s pS pB pG = (0, y) := by
  obtain ⟨B, n, st, sm, R, L0, rfl, hb, hB, hr, hL, hR, hst, hsm, _, _⟩ := h
  exact open_W hb (ht_sz hB hr hR hK hst hsm) rng_m1 (recok_Z hr hL hR) (by omega) (by omega) (by omega)
theorem based_Z {L : List It} {n : Nat} (hr : Rises L) (hP : Plain L) (hw : ws L ≤ 25000000) : Based (some (sy (Fm.pk (rec7 (whole7 L))) n)) L := by
  have hww := wt_whole L
  have hb := ops_back (l := whole7 L) (by omega)
  have hrs := rec7_le (l := whole7 L) (by omega)
  refine .inr ⟨rec7 (whole7 L), n, (whole7 L).map norm, rfl, hb, by omega, ?_⟩
  rw [all_norm]
  have := all_asc L [] hr hP
  rw [List.nil_append] at this
  exact this.symm
theorem ht_commit {y : Tst} {K : Nat} {l : List Ch} (h : Ht y K) (hK : K ≤ 1000) (hw : wt l ≤ 25000000) (hs : ws (all7 y.L l) ≤ 25000000) (hyl : y.L.length ≤ 10000000) : CommitOk y l pB pG ∧ ∃ y', commitS y l pB pG = (0, y') ∧ Ht y' (K + 1) ∧ y'.L = all7 y.L l := by
  obtain ⟨B, n, st, sm, R, L0, rfl, hb, hB, hre, hL, hR, hst, hsm, h0, hP⟩ := h
  simp only at hs hyl ⊢
  have hpk := pk_sum (fun r hr => (hre r hr).2)
  have hpk2 := Nat.mul_le_mul_right 25000100 hR
  have hz := ht_sz (n := n) hB hre hR hK hst hsm
  have hr := rec7_le (l := l) (by omega)
  have hp := pk_bound (r := rec7 l) (by omega)
  have hwl := wt_len l
  have hops := ops_back (l := l) (by omega)
  obtain ⟨k, x', hadd, hcases⟩ := add7 (B := B) (BT := none) (GT := none) (c := PK R) (r := rec7 l) (n := n) (st := st) (sm := sm) (R := R) (dm := false) rng_m1
  have hao := addok7 (B := B) (BT := none) (GT := none) (c := PK R) (r := rec7 l) (n := n) (st := st) (sm := sm) (R := R) (dm := false) hz rng_m1 (by omega) (by omega) (by omega) (by omega) (by omega)
  have hrow : rows7 L0 (R ++ [rec7 l]) = all7 (rows7 L0 R) l := by rw [rows7_snoc, hops]; exact all_norm _ _
  have hre2 : ∀ r ∈ R ++ [rec7 l], (opsS r).2 = 0 ∧ r.size ≤ 25000010 := fun r hr => by
    rcases List.mem_append.1 hr with hr | hr
    · exact hre r hr
    · rw [List.mem_singleton.1 hr, hops]; exact ⟨rfl, by omega⟩
  rcases hcases with ⟨rfl, a', rfl, ra, rm⟩ | ⟨_, hne, _⟩
  · obtain rfl := rm rfl
    have hlenS : (R ++ [rec7 l]).length = R.length + 1 := by rw [List.length_append]; rfl
    have hz2 : Sz B none (some (sy (PK R ++ Fm.pk (rec7 l)) (sm + 1))) none (st + 2) (sm + 1) := ⟨hB, ook_none, ook_sy (by rw [ByteArray.size_append]; omega), ook_none, by omega, by omega⟩
    obtain ⟨hpo, hpa⟩ := pack_U (B := B) (BT := none) (GT := none) (c := PK R ++ Fm.pk (rec7 l)) (n := sm + 1) (st := st + 2) (sm := sm + 1) (R := R ++ [rec7 l]) (dm := false) (L := all7 (rows7 L0 R) l) hz2 (by omega) (by omega) (by omega)
    refine ⟨⟨by omega, hao, by show (rows7 L0 R).length + l.length ≤ _; omega, by decide, ?_, fun _ => ?_⟩, ?_⟩
    · show (addS _ pG (rec7 l)).2.R.length ≤ _
      rw [hadd]
      show (R ++ [rec7 l]).length ≤ _
      omega
    · show PackOk ⟨(addS _ pG (rec7 l)).2, all7 (rows7 L0 R) l⟩ pB pG
      rw [hadd]
      exact hpo
    · by_cases hl : l = []
      · subst hl
        exact ⟨_, commit_0, ⟨B, n, st, sm, R, L0, rfl, hb, hB, hre, hL, hR, by omega, by omega, h0, hP⟩, rfl⟩
      · by_cases h16 : 16 ≤ (R ++ [rec7 l]).length
        · have hc3 := commit_3 (x := ⟨⟨T7 B none (some (sy (PK R) n)) none st sm (-1) false, R, false⟩, rows7 L0 R⟩) (p := pB) hl hadd h16
          rw [hpa] at hc3
          have hwh := wt_whole (all7 (rows7 L0 R) l)
          have hrw := rec7_le (l := whole7 (all7 (rows7 L0 R) l)) (by omega)
          have hpw := pk_bound (r := rec7 (whole7 (all7 (rows7 L0 R) l))) (by omega)
          have hri := rises_all (rises_rows h0 R) l
          have hpl := plain_all (plain_rows hP R) l
          have hln := ws_len (all7 (rows7 L0 R) l)
          exact ⟨_, hc3, ⟨_, _, _, _, [], _, rfl, based_Z hri hpl hs, ook_sy (by omega), (fun r h => by cases h), by show (all7 (rows7 L0 R) l).length ≤ _; omega, Nat.zero_le _, by omega, by omega, hri, hpl⟩, rfl⟩
        · have hc2 := commit_2 (x := ⟨⟨T7 B none (some (sy (PK R) n)) none st sm (-1) false, R, false⟩, rows7 L0 R⟩) (p := pB) hl hadd h16
          exact ⟨_, hc2, ⟨B, sm + 1, st + 2, sm + 1, R ++ [rec7 l], L0, by rw [hrow, PK_snoc], hb, hB, hre2, hL, by rw [hlenS]; omega, by omega, by omega, h0, hP⟩, rfl⟩
  · exact absurd rfl hne
end Go.Proofs.YtdkgkomjbpggeaaGreatDoor.Az

namespace Go.Proofs.YtdkgkomjbpggeaaGreatDoor.Az
open Go.RowKit Tx Pm Dk Wm Wr Wl Pl Tb Bl
set_option linter.unusedVariables false
set_option linter.unusedSimpArgs false
set_option linter.unnecessarySimpa false
section
variable {w0 : World × (Nat → Prop)} {W : World} {b j t m u M N : Nat} {x : Tst} {l : List Ch} {C : List On} {Z : List It} {key : ByteArray}
set_option maxRecDepth 100000 in
set_option maxHeartbeats 2000000 in
theorem bzrel (h : Bz b j t m u x Z w0 C M N W) (hM : M ≤ 10000000) (hN : N ≤ 100000000) (hk : key.size ≤ 500000000000000) :
    Calls Tryz.prog 36 #[.pointer (some ⟨u, 0, none⟩), .string key] W fun e w' => e = .returned (.int .i64 (relE (relC C key).2)) ∧ Bz b j t m u x Z w0 (relC C key).1 M N w' := by
  have cf := bzfind h (by omega) hk
  have HBO := Lib.hid h
  unfold relC
  cases ha : at8 C key with
  | none =>
    rw [ha] at cf
    simp only at cf
    unfold onV at cf
    clear h ha
    go_enter Tryz.func36, Tryz.ntmps36
    go_wp2_with fail
    go_at_call 75
    refine cf.mono ?_
    rintro e w1 ⟨rfl, hb1⟩
    have HB := Lib.hid hb1
    clear hb1 cf
    go_wp2_with fail
    go_ret
    exact ⟨rfl, HBO.out.below (HB.out.alloc HB.out.size _)⟩
  | some y =>
    obtain ⟨hy, hye⟩ := at8_some ha
    obtain ⟨l, h1, h2, h3, h4, h7⟩ := h
    have h5 := h7.len (f_facts h1).2
    have h6 := h7.short
    obtain ⟨y1, y2, y3, y4, y5⟩ := h3.each y hy
    have hks := keyO_size h3 (by omega) hy
    have hkb := keyO_beg y
    rw [hye] at hks hkb
    have HF := Lib.hid (f_facts h1)
    have HO := Lib.hid h1
    have HR := Lib.hid h2
    have HG := Lib.hid h3
    have HZ := Lib.hid h4
    have HL := Lib.hid h5
    have HKS := Lib.hid h6
    have HW := Lib.hid h7
    have HY := Lib.hid hy
    have HYE := Lib.hid hye
    have HKB := Lib.hid hkb
    rw [ha] at cf
    simp only at cf
    unfold onV at cf
    clear h1 h2 h3 h4 h5 h6 h7 ha hy hye hkb y1
    by_cases hone : y.refs = 1
    · simp only [if_pos hone]
      have e9 : ((1 : Nat) : Int) = 1 := rfl
      rw [hone, e9] at cf
      clear e9 hone
      go_enter Tryz.func36, Tryz.ntmps36
      go_wp2_with fail
      go_at_call 75
      refine cf.mono ?_
      rintro e w1 ⟨rfl, hb1⟩
      have cd := f_drop (key := key) (owf_below HO.out (hb1.alloc hb1.size (.cells #[.int .i64 1, .string y.data] 126))) (by omega) (by have := HL.out; omega)
      clear hb1 cf
      go_wp2_with fail
      go_at_call 43
      refine cd.mono ?_
      rintro e w2 ⟨rfl, ho2⟩
      go_wp2_with fail
      go_ret
      exact ⟨rfl, bz_drop ho2 HF.out (rep_del HR.out) (good_del HG.out) HZ.out HKB.out (HW.out.old HY.out HYE.out.symm (fun _ => rfl) delR_from)⟩
    · simp only [if_neg hone]
      have hb : ((y.refs : Int) == 1) = false := by simp; omega
      have e1 : ((y.refs - 1 : Nat) : Int) = (y.refs : Int) - 1 := by omega
      have hnum1 : -9223372036854775808 ≤ (y.refs : Int) - 1 := by omega
      have hnum2 : (y.refs : Int) - 1 ≤ 9223372036854775807 := by omega
      have cp := fun V hV => keep_any (W := V) (h := y.refs - 1) (d := y.data) (key := key) (owf_below HO.out (w' := V) hV) (by omega) (by have := HL.out; omega) (by omega) y5
      unfold onV at cp
      rw [e1] at cp
      clear e1
      go_enter Tryz.func36, Tryz.ntmps36
      go_wp2_with fail
      go_at_call 75
      refine cf.mono ?_
      rintro e w1 ⟨rfl, hb1⟩
      have cp1 := cp _ (hb1.alloc hb1.size (.cells #[.int .i64 ((y.refs : Int) - 1), .string y.data] 126))
      clear hb1 cf cp
      go_wp2_with fail
      go_at_call 76
      refine cp1.mono ?_
      rintro e w2 ⟨rfl, ho2⟩
      go_wp2_with fail
      go_ret
      have hrs := rep_set (k := y.refs - 1) HR.out HY.out HG.out
      rw [HYE.out] at hrs
      exact ⟨rfl, bz_keep ho2 HF.out hrs (good_set HG.out (by omega) (by omega)) HZ.out HKB.out (HW.out.old HY.out HYE.out.symm (fun e => by cases e) setR_from)⟩
end
section
variable {w0 : World × (Nat → Prop)} {W : World} {b j t m u M N : Nat} {x : Tst} {C : List On} {Z : List It} {key : ByteArray}
theorem Bz.fresh (h : Bz b j t m u x Z w0 C M N W) : ∃ F : Nat → Prop, (∀ i, F i → w0.2 i ∨ w0.1.heap.size ≤ i) ∧ (∀ i, F i → i < W.heap.size) ∧ ∀ W', Below W.heap.size W W' → Bz b j t m u x Z (W', F) C M N W' := by
  obtain ⟨l, ⟨F, h1, h2, h3⟩, hh⟩ := h
  exact ⟨F, h3, tu_lt h1, fun W' hb => ⟨l, ⟨F, tb_below h1 hb, Chg.refl F W', fun g hg => .inl hg⟩, hh⟩⟩
theorem Bz.back {W2 : World} {F : Nat → Prop} (h : Bz b j t m u x Z (W2, F) C M N W) (hc : Chg w0.2 w0.1 W2) (hF : ∀ i, F i → w0.2 i ∨ w0.1.heap.size ≤ i) : Bz b j t m u x Z w0 C M N W := by
  obtain ⟨l, ⟨F', h1, h2, h3⟩, hh⟩ := h
  refine ⟨l, ⟨F', h1, hc.trans h2 hF, fun g hg => ?_⟩, hh⟩
  rcases h3 g hg with h4 | h4
  · exact hF g h4
  · exact .inr (Nat.le_trans hc.size h4)
theorem bzdrop {y : On} (h : Bz b j t m u x Z w0 C M N W) (hN : N ≤ 100000000) (hM : M ≤ 100000000) (hy : y ∈ C) : Calls Tryz.prog 43 #[.pointer (some ⟨u, 0, none⟩), .string (keyO y)] W fun e w' => e = .returned (.tuple #[]) ∧ Bz b j t m u x Z w0 (delR C (keyO y)) M N w' := by
  obtain ⟨l, h1, h2, h3, h4, h7⟩ := h
  have h5 := h7.len (f_facts h1).2
  have hs := keyO_size h3 hM hy
  exact (f_drop (key := keyO y) h1 (by omega) (by omega)).mono fun e w' hh => ⟨hh.1, bz_drop hh.2 (f_facts h1) (rep_del h2) (good_del h3) h4 (keyO_beg y) (h7.old hy rfl (fun _ => rfl) delR_from)⟩
theorem bzkeep_set {y : On} {k M' : Nat} (h : Bz b j t m u x Z w0 C M N W) (hN : N ≤ 100000000) (hM : M ≤ M') (hM' : M' ≤ 100000000) (hy : y ∈ C) (h1k : 1 ≤ k) (hkM : k ≤ M') : Calls Tryz.prog 76 #[.pointer (some ⟨u, 0, none⟩), .string (keyO y), onV k y.data] W fun e w' => e = .returned (.tuple #[]) ∧ Bz b j t m u x Z w0 (setR C (keyO y) k) M' N w' := by
  obtain ⟨l, h1, h2, h3, h4, h7⟩ := h
  have h5 := h7.len (f_facts h1).2
  obtain ⟨_, _, _, _, y5⟩ := h3.each y hy
  have hs := keyO_size h3 (by omega) hy
  exact (keep_any (key := keyO y) (h := k) (d := y.data) h1 (by omega) (by omega) (by omega) y5).mono fun e w' hh => ⟨hh.1, bz_keep hh.2 (f_facts h1) (rep_set h2 hy h3) (good_set (h3.mono hM) h1k hkM) h4 (keyO_beg y) (h7.old hy rfl (fun e => by cases e) setR_from)⟩
theorem bzkeys (h : Bz b j t m u x Z w0 C M N W) (hx : Xk x) (hN : N ≤ 100000000) : ∃ K : List ByteArray, K.Perm (C.map keyO) ∧ Calls Tryz.prog 20 #[.pointer (some ⟨u, 0, none⟩), .string ⟨#[98, 47]⟩] W (ListTo K W) := by
  obtain ⟨V, h⟩ := h.bo
  exact bkeys_list h hx hN
theorem bzfind_mem {y : On} (h : Bz b j t m u x Z w0 C M N W) (hM : M ≤ 100000000) (hy : y ∈ C) :
    Calls Tryz.prog 75 #[.pointer (some ⟨u, 0, none⟩), .string (keyO y)] W fun e w' => e = .returned (.tuple #[onV y.refs y.data, .bool true]) ∧ Below W.heap.size W w' := by
  obtain ⟨V, h⟩ := h.bo
  exact bo_find_mem h hM hy
end
set_option maxRecDepth 100000 in
set_option maxHeartbeats 8000000 in
theorem bzsweep {w0 : World × (Nat → Prop)} {W : World} {b j t m u M N : Nat} {x : Tst} {C : List On} {Z : List It} (A : Option Addr) (hn hc : Nat) (held : List ByteArray) (h : Bz b j t m u x Z w0 C M N W) (hx : Xk x) (hM : M ≤ 1000000) (hN : N ≤ 1000000) (hS : Strs W A hn held) (hcap : hn ≤ hc) (hhn : hn ≤ 1000000) (hks : ∀ p ∈ held, p.size ≤ 1000) :
    Calls Tryz.prog 45 #[.pointer (some ⟨u, 0, none⟩), .slice A hn hc] W fun e w' => e = .returned (.int .i64 ((C.length - (swC C held).length : Nat) : Nat)) ∧ Bz b j t m u x Z w0 (swC C held) (M + hn) N w' := by
  have HST := Lib.hid (fun V (hV : Below W.heap.size W V) => hS.below hV)
  have HL := Lib.hid hS.1
  have HKS := Lib.hid hks
  have HX := Lib.hid hx
  have HG := Lib.hid h.good
  obtain ⟨F, f1, f2, f3⟩ := h.fresh
  have HCH := Lib.hid h.chg
  have HF1 := Lib.hid f1
  have HF2 := Lib.hid f2
  have HF3 := Lib.hid f3
  have hB0 : Below W.heap.size W (W.alloc (.map #[] 0)) := (Below.refl _ W).alloc (Nat.le_refl _) _
  have hT0 := tc_made W
  have hlt0 : W.heap.size < (W.alloc (.map #[] 0)).heap.size := by simp
  clear hS hks hx h f1 f2 f3
  have hmm := @run_makeMap Tryz.prog
  go_enter Tryz.func45, Tryz.ntmps45
  go_wp2_with fail
  go_loopw [17] (fun iv wr => ∃ k : Nat, k ≤ hn ∧ iv = .int .i64 k ∧ Tc wr W.heap.size (held.take k) ∧ Below W.heap.size W wr ∧ W.heap.size < wr.heap.size) (fun iv _ => hn - (intOf iv).toNat)
  case atStart => exact ⟨0, Nat.zero_le _, rfl, hT0, hB0, hlt0⟩
  case round =>
    clear hB0 hT0 hlt0
    obtain ⟨k, hk, rfl, hT, hB, hlt⟩ := hrel
    by_cases hlk : k < hn
    · obtain ⟨p, hp⟩ : ∃ p, held[k]? = some p := ⟨_, List.getElem?_eq_getElem (by rw [HL.out]; exact hlk)⟩
      obtain ⟨bk, off, rfl, _, g0⟩ := Strs.at2 (HST.out _ hB) hp hlk
      have hkz : (k : Int) < (hn : Int) := by omega
      have hps := HKS.out p (List.mem_of_getElem? hp)
      have hlk1 := hT.look (p := p) (by unfold maxLen; omega)
      have hcl : cnt (held.take k) p ≤ k := by
        have := List.countP_le_length (p := fun x => decide (x = p)) (l := held.take k)
        have h2 := List.length_take_le k held
        unfold cnt
        omega
      obtain ⟨w4, hrun, hT4, hturn⟩ := hT.store (p := p) (by unfold maxLen; omega) (by rw [List.length_take]; omega)
      rw [← take_snoc hp] at hT4
      obtain ⟨q, hq⟩ : ∃ q, q = cnt (held.take k) p := ⟨_, rfl⟩
      rw [← hq] at hlk1 hrun hcl
      have hch := turned_chg hturn
      have hB4 : Below W.heap.size W w4 := hB.trans (hch.below hB.size (fun i hi => by omega))
      have hs4 : W.heap.size < w4.heap.size := Nat.lt_of_lt_of_le hlt hch.size
      clear hp hq hturn hch hT
      go_wp2_with fail
      go_roundw
      case rel => exact ⟨k + 1, by omega, by go_num, hT4, hB4, hs4⟩
      case measure => simp [intOf]; omega
    · obtain rfl : k = hn := by omega
      have eA : held.take k = held := List.take_of_length_le (by rw [HL.out]; exact Nat.le_refl _)
      rw [eA] at hT
      obtain ⟨K, hKP, ck⟩ := bzkeys (HF3.out _ hB) HX.out (by omega)
      obtain ⟨n, hnK⟩ : ∃ n, n = K.length := ⟨_, rfl⟩
      have hnC : n ≤ M := by rw [hnK, hKP.length_eq, List.length_map]; exact HG.out.len
      have HKP := Lib.hid hKP
      have HNK := Lib.hid hnK
      have hltm : W.heap.size < wr.heap.size := hlt
      clear eA hlk hnK hKP
      go_wp2_with fail
      go_at_call 20
      refine ck.mono ?_
      rintro e w2 ⟨vK, rfl, hK, hb2⟩
      obtain ⟨aK, cK, hv, hsK, hcK, _⟩ := hK.form
      rw [← HNK.out] at hv hsK hcK
      have hT2 := hT.kept (hb2.block _ hltm)
      have hB2 := Tx.below_call hB hb2
      have hs2 : W.heap.size < w2.heap.size := Nat.lt_of_lt_of_le hltm hb2.size
      have hKo : w2.ownsRow W.heap.size 9 1 (.slice aK n cK) n (K.map sv) := by
        have this : w2.ownsRow wr.heap.size 9 1 vK K.length (K.map sv) := hK
        rw [hv, ← HNK.out] at this
        exact own_less this hB.size
      have HTV := Lib.hid (fun V (hV : Chg F w2 V) => hT2.kept (hV.block _ hs2 (fun hf => by have := HF2.out _ hf; omega)))
      have HSV := Lib.hid (fun V (hV : Chg F w2 V) => strs_row (own_chg hKo hV (fun g hg hf => by have := HF2.out _ hf; have := (hKo.lt g hg).1; omega)))
      have HB2 := Lib.hid hB2
      have o2 := (HF3.out _ hB2).mono (Nat.le_add_right M k) (Nat.le_refl N)
      have HND : Hid (∀ k p, K[k]? = some p → inL (K.take k) p = false) := Lib.hid (fun k p hp => by
        have hnd : K.Nodup := HKP.out.nodup_iff.2 (List.pairwise_map.2 HG.out.keys)
        cases hin : inL (K.take k) p with
        | false => rfl
        | true =>
          obtain ⟨i, hi⟩ := List.getElem?_of_mem (inL_iff.1 hin)
          have hik : i < k := by
            have := (List.getElem?_eq_some_iff.1 hi).1
            rw [List.length_take] at this
            omega
          rw [List.getElem?_take_of_lt hik] at hi
          have := (List.getElem?_inj (List.getElem?_eq_some_iff.1 hi).1 hnd).1 (hi.trans hp.symm)
          omega)
      clear hT hK hsK ck hb2 hT2 hKo
      subst hv
      go_wp2_with fail
      go_loopw [8, 29] (fun gv iv wr => ∃ q : Nat, q ≤ n ∧ iv = .int .i64 q ∧ gv = .int .i64 (goneN held (K.take q) : Nat) ∧ Bz b j t m u x Z (w2, F) (many8 C held (K.take q)) (M + k) N wr) (fun _ iv _ => n - (intOf iv).toNat)
      case atStart => exact ⟨0, Nat.zero_le _, rfl, rfl, o2⟩
      case round =>
        clear o2
        obtain ⟨q, hq, rfl, rfl, o⟩ := hrel
        have hcg : goneN held (K.take q) ≤ q := by
          have := List.countP_le_length (p := fun p => decide (cnt held p = 0)) (l := K.take q)
          have h2 := List.length_take_le q K
          unfold goneN
          omega
        by_cases hlq : q < n
        · obtain ⟨p, hp⟩ : ∃ p, K[q]? = some p := ⟨_, List.getElem?_eq_getElem (by rw [← HNK.out]; exact hlq)⟩
          obtain ⟨bk, off, rfl, _, g0⟩ := Strs.at2 (HSV.out _ o.chg) hp hlq
          have hqz : (q : Int) < (n : Int) := by omega
          obtain ⟨y, hy, hye⟩ := List.mem_map.1 (HKP.out.mem_iff.1 (List.mem_of_getElem? hp))
          have hps : p.size ≤ 14 := by rw [← hye]; exact keyO_size HG.out (by omega) hy
          have hpb : beg pB2 p = true := by rw [← hye]; exact keyO_beg y
          have hlk1 := (HTV.out _ o.chg).look (p := p) (by unfold maxLen; omega)
          have htk := take_snoc hp
          have hgn : goneN held (K.take (q + 1)) = goneN held (K.take q) + if cnt held p = 0 then 1 else 0 := by
            unfold goneN
            rw [htk, List.countP_append, List.countP_singleton]
            by_cases hc : cnt held p = 0 <;> simp [hc]
          have hmn := many8_snoc C held (K.take q) p
          rw [← htk] at hmn
          unfold one8 at hmn
          have hym := many8_keep (held := held) hy (K := K.take q) (by rw [hye]; exact HND.out q p hp)
          obtain ⟨G, hG⟩ : ∃ G, G = goneN held (K.take q) := ⟨_, rfl⟩
          rw [← hG] at hgn hcg ⊢
          have hqM : cnt held p ≤ k := by
            have := List.countP_le_length (p := fun x => decide (x = p)) (l := held)
            have h2 := HL.out
            unfold cnt
            omega
          by_cases h0 : cnt held p = 0
          · rw [h0] at hlk1
            rw [if_pos h0] at hgn hmn
            have e0 : ((0 : Nat) : Int) = 0 := rfl
            rw [e0] at hlk1
            have cd := bzdrop o (by omega) (by omega) hym
            rw [hye, ← hmn] at cd
            have HGN := Lib.hid hgn
            clear hp hy hye hpb hps htk hmn hym hgn hG o h0 e0 hqM
            go_wp2_with fail
            go_at_call 43
            refine cd.mono ?_
            rintro e w4 ⟨rfl, o4⟩
            go_wp2_with fail
            go_roundw
            case rel => exact ⟨q + 1, by omega, by go_num, by rw [HGN.out]; go_num, o4⟩
            case measure => simp [intOf]; omega
          · rw [if_neg h0] at hgn hmn
            obtain ⟨r, hr⟩ : ∃ r, r = cnt held p := ⟨_, rfl⟩
            rw [← hr] at hlk1 hmn h0 hqM
            have hb0 : ((r : Int) == 0) = false := by simp; omega
            have HGN := Lib.hid (show goneN held (K.take (q + 1)) = G by rw [hgn]; rfl)
            have cf := bzfind_mem o (by omega) hym
            have hyr := (o.good.each y hym).2.2.1
            rw [hye] at cf
            unfold onV at cf
            have HYM := Lib.hid hym
            have HYE := Lib.hid hye
            have HMN := Lib.hid hmn
            clear hp hy hye hpb hps htk hmn hym hgn hG hr
            by_cases he : y.refs = r
            · have hbe : ((y.refs : Int) == (r : Int)) = true := by simp; omega
              have hC : many8 C held (K.take (q + 1)) = many8 C held (K.take q) := by
                rw [HMN.out, ← HYE.out, ← he]
                exact one8_id o.good HYM.out
              have HC := Lib.hid hC
              have HO := Lib.hid o
              clear hC o he
              go_wp2_with fail
              go_at_call 75
              refine cf.mono ?_
              rintro e w4 ⟨rfl, hb4⟩
              have o4 := HO.out.below (hb4.alloc hb4.size (.cells #[.int .i64 (y.refs : Nat), .string y.data] 126))
              clear hb4 cf
              go_wp2_with fail
              go_roundw
              case rel => exact ⟨q + 1, by omega, by go_num, by rw [HGN.out], by rw [HC.out]; exact o4⟩
              case measure => simp [intOf]; omega
            · have hbe : ((y.refs : Int) == (r : Int)) = false := by simp; omega
              have HO := Lib.hid o
              clear o he
              go_wp2_with fail
              go_at_call 75
              refine cf.mono ?_
              rintro e w4 ⟨rfl, hb4⟩
              have ck := bzkeep_set (k := r) (HO.out.below (hb4.alloc hb4.size (.cells #[.int .i64 (y.refs : Nat), .string y.data] 126))) (by omega) (Nat.le_refl _) (by omega) HYM.out (by omega) (by omega)
              rw [HYE.out, ← HMN.out] at ck
              unfold onV at ck
              clear hb4 cf
              go_wp2_with fail
              go_at_call 76
              refine ck.mono ?_
              rintro e w5 ⟨rfl, o5⟩
              clear ck
              go_wp2_with fail
              go_roundw
              case rel => exact ⟨q + 1, by omega, by go_num, by rw [HGN.out], o5⟩
              case measure => simp [intOf]; omega
        · obtain rfl : q = n := by omega
          have eA : K.take q = K := List.take_of_length_le (by rw [← HNK.out]; exact Nat.le_refl _)
          have hall : ∀ y ∈ C, keyO y ∈ K := fun y hy => HKP.out.mem_iff.2 (List.mem_map.2 ⟨y, hy, rfl⟩)
          have hsw := many8_all (held := held) hall
          have hgi := gone_is (held := held) HKP.out
          rw [eA, hsw] at o
          rw [eA]
          have hG : goneN held K = C.length - (swC C held).length := by omega
          have HG2 := Lib.hid hG
          clear hsw hgi hG eA hcg
          go_wp2_with fail
          go_ret
          rw [HG2.out]
          exact ⟨rfl, o.back (HCH.out.then (Chg.of_below HB2.out)) HF1.out⟩
end Go.Proofs.YtdkgkomjbpggeaaGreatDoor.Az

namespace Go.Proofs.YtdkgkomjbpggeaaGreatDoor.Az
open Go.RowKit Tx Pm Dk Wm Wr Wl Pl Tb Bl Fm
open Fr hiding sv Texts cnt cnt_snoc
open En (Et tcheck)
open Ac (Ar upd upd_same upd_other files saveA turnA backA forgetA calm Kd)
set_option linter.unusedVariables false
set_option linter.unusedSimpArgs false
set_option linter.unnecessarySimpa false
def Slot (κ : ByteArray → ByteArray) (wh : Bool) (o : Option (List Et)) (b : Option Int) (v : Option ByteArray) : Prop := match o with
  | none => v = none
  | some t => ∃ x, v = some x ∧ 0 < x.size ∧ (b = none → x = val16 κ t) ∧ ∀ c, b = some c → Bad x ∧ (wh = true → x = tn (val16 κ t) c)
structure Hv (A : Ar) (k : Nat) (C : List On) (vals : Nat → Option ByteArray) (M N : Nat) : Prop where
  good : Good8 C M
  mB : 8 * M ≤ k
  nB : 50 * N ≤ k + 300
  czB : cz C ≤ 2 * k
  ga : Ac.Good A
  bk : ∀ i t, A.tr i = some t → Ac.bk t ≤ k
  slot : ∀ i, 1 ≤ i → i ≤ 6 → Slot (keyD C) A.wh (A.tr i) (A.tu i) (vals i)
  out : ∀ i v, vals i = some v → 1 ≤ i ∧ i ≤ 6 ∧ v.size ≤ k + 5810
  ge : ∀ d, tot (hold A) d ≤ refD C d
  eq : A.cl = true → A.wh = true → ∀ d, refD C d = tot (hold A) d
  jj : A.cl = true → A.wh = false → ∃ i, A.tu i ≠ none
def Rw (R : List It) (l : List Ch) (C : List On) (Z : List It) (vals : Nat → Option ByteArray) (N : Nat) : Prop := Rep R C ∧ (∀ p, beg pB2 p = false → find R p = find Z p) ∧ Zr Z vals ∧ Ks l C N
def Tk (x : Tst) (k : Nat) : Prop := ∃ K, Ht x K ∧ 10000 * K ≤ k ∧ ws x.L ≤ 25000000 ∧ ∀ z ∈ x.L, z.path.size ≤ 1000
theorem Tk.xk {x : Tst} {k : Nat} (h : Tk x k) : Xk x := by
  obtain ⟨K, _, _, h1, h2⟩ := h
  have := ws_len x.L
  exact ⟨by omega, h2⟩
theorem Tk.mono {x : Tst} {k k' : Nat} (h : Tk x k) (hk : k ≤ k') : Tk x k' := by
  obtain ⟨K, h1, h2, h3⟩ := h
  exact ⟨K, h1, by omega, h3⟩
def OZ (d u : Nat) : Ac.Ob := fun W F y => ∃ j t m x l C Z vals M N, Tu d j t m u W F (x, l) ∧ ¬ F 0 ∧ Rw (all7 x.L l) l C Z vals N ∧ Hv y.1 y.2 C vals M N ∧ Tk x y.2
def PZ (d t : Nat) : Ac.Ob := fun W F y => ∃ j m x C Z vals M N, Tt d j t m W F x ∧ ¬ F 0 ∧ Rw x.L [] C Z vals N ∧ Hv y.1 y.2 C vals M N ∧ Tk x y.2
def CZ (d : Nat) : Ac.Ob := fun W F y => ∃ s x C Z vals M N, ImpAt d W F s ∧ ¬ F 0 ∧ Open7Ok s pS pB pG ∧ open7 s pS pB pG = (0, x) ∧ Rw x.L [] C Z vals N ∧ Hv y.1 y.2 C vals M N ∧ Tk x y.2
theorem kd_oz (d u : Nat) : Kd (OZ d u) := by
  refine ⟨fun {w F s} h => ?_, fun {w w1 F s} h hk => ?_⟩
  · obtain ⟨j, t, m, x, l, C, Z, vals, M, N, h1, _⟩ := h
    exact tu_lt h1
  · obtain ⟨j, t, m, x, l, C, Z, vals, M, N, h1, h2⟩ := h
    refine ⟨j, t, m, x, l, C, Z, vals, M, N, ?_, h2⟩
    obtain ⟨F1, G, ⟨Fj, h1⟩, ⟨pm, vO, h2⟩, hd, hH⟩ := h1
    exact ⟨F1, G, ⟨Fj, h1.kept (fun i hi => hk i ((hH i).2 (.inl hi)))⟩, ⟨pm, vO, h2.kept (fun i hi => hk i ((hH i).2 (.inr hi)))⟩, hd, hH⟩
theorem kd_pz (d t : Nat) : Kd (PZ d t) := by
  refine ⟨fun {w F s} h => ?_, fun {w w1 F s} h hk => ?_⟩
  · obtain ⟨j, m, x, C, Z, vals, M, N, ⟨Fj, h1⟩, _⟩ := h
    exact h1.lt
  · obtain ⟨j, m, x, C, Z, vals, M, N, ⟨Fj, h1⟩, h2⟩ := h
    exact ⟨j, m, x, C, Z, vals, M, N, ⟨Fj, h1.kept hk⟩, h2⟩
theorem kd_cz (d : Nat) : Kd (CZ d) := by
  refine ⟨fun {w F s} h => ?_, fun {w w1 F s} h hk => ?_⟩
  · obtain ⟨s, x, C, Z, vals, M, N, h1, _⟩ := h
    exact (imp_kind d).lt h1
  · obtain ⟨s, x, C, Z, vals, M, N, h1, h2⟩ := h
    exact ⟨s, x, C, Z, vals, M, N, (imp_kind d).kept h1 hk, h2⟩
theorem gTabZ : Tryz.prog.globalNamed "internal/strconv.uint64pow10" = some 0 := by kernel_rfl
theorem tab_kept {w w1 : World} (h : Tab w) (he : w1.heap[0]? = w.heap[0]?) : Tab w1 := by
  unfold Tab Lib.TabIs World.var? at h ⊢
  rw [gTabZ] at h ⊢
  simp only [Option.bind_some] at h ⊢
  rw [he]
  exact h
theorem tab_pos {w : World} (h : Tab w) : 0 < w.heap.size := by
  unfold Tab Lib.TabIs World.var? at h
  rw [gTabZ] at h
  simp only [Option.bind_some] at h
  cases hh : w.heap[0]? with
  | none => rw [hh] at h; cases h
  | some o => exact (Array.getElem?_eq_some_iff.1 hh).1
theorem tab_chg {w w1 : World} {F : Nat → Prop} (h : Tab w) (hc : Chg F w w1) (hF : ¬ F 0) : Tab w1 := tab_kept h (hc.block 0 (tab_pos h) hF)
section
variable {d u k : Nat} {W W' : World} {F : Nat → Prop} {A : Ar}
def Work (d j t m u : Nat) (x : Tst) (w0 : World × (Nat → Prop)) (A : Ar) (k : Nat) (C : List On) (Z : List It) (vals : Nat → Option ByteArray) (M N : Nat) (W : World) : Prop := Bz d j t m u x Z w0 C M N W ∧ Zr Z vals ∧ Hv A k C vals M N ∧ Tk x k
theorem oz_out (h : OZ d u W F (A, k)) (hT : Tab W) : ∃ j t m x C Z vals M N, Work d j t m u x (W, F) A k C Z vals M N W ∧ TabZ (W, F) ∧ (∀ i, F i → i < W.heap.size) ∧ ¬ F 0 := by
  have hl := (kd_oz d u).lt h
  obtain ⟨j, t, m, x, l, C, Z, vals, M, N, h1, h2, ⟨r1, r2, r3, r4⟩, h4, h5⟩ := h
  exact ⟨j, t, m, x, C, Z, vals, M, N, ⟨⟨l, ⟨F, h1, Chg.refl F W, fun g hg => .inl hg⟩, r1, h4.good, r2, r4⟩, r3, h4, h5⟩, fun V hc => tab_chg hT hc h2, hl, h2⟩
theorem oz_in {j t m M N : Nat} {x : Tst} {C : List On} {Z : List It} {vals : Nat → Option ByteArray} (h : Bz d j t m u x Z (W, F) C M N W') (hz : Zr Z vals) (hv : Hv A k C vals M N) (ht : Tk x k) (hT : Tab W) (h0 : ¬ F 0) : Ac.Lf (OZ d u) W F (A, k) W' := by
  obtain ⟨l, ⟨F', q1, q2, q3⟩, r1, _, r2, r4⟩ := h
  exact ⟨F', ⟨j, t, m, x, l, C, Z, vals, M, N, q1, fun hf => (q3 0 hf).elim h0 (fun hh => by have := tab_pos hT; have hh : W.heap.size ≤ 0 := hh; omega), ⟨r1, r2, hz, r4⟩, hv, ht⟩, q2, q3⟩
end
end Go.Proofs.YtdkgkomjbpggeaaGreatDoor.Az

namespace Go.Proofs.YtdkgkomjbpggeaaGreatDoor.Rg
open Go.RowKit
set_option linter.unusedVariables false
section
variable {P : Program} {ops : Array Oper} {R : Act → World → Prop} {S : World → Prop}
theorem op_conv (i : Nat) (d : Option Tmp) {T U : TypeId} {x : Operand} {vx v : Value} {fuel : Nat} {listed : Array Bool} {a : Act} {w : World}
    (hi : decide (i < ops.size) = true) (hd : (opOf ops i).dst = d)
    (hw : Region.wanted (opOf ops i) (yielded ops a.tmps) = true) (ho : (opOf ops i).op = .convert T U x) (hx : a.eval x = vx)
    (hv : (Go.convert T U vx).run P w = .ok v w) (hS : S w)
    (h : wpAnyH P .any ops (Only R) S fuel (listed.setIfInBounds i true) (a.put d v) w) :
    wpOp P ops (Only R) i (fun a' w' => S w' ∧ wpAnyH P .any ops (Only R) S fuel (listed.setIfInBounds i true) a' w') a w := by
  subst hd
  unfold wpOp
  rw [opOf_some hi]
  simp only [hw, if_true]
  refine .inl ?_
  have he : (execOp a.eval (opOf ops i)).run P w = .ok (.value v) w := by
    generalize opOf ops i = o at ho
    obtain ⟨dst, op, ty, pos, after, guard⟩ := o
    simp only at ho
    subst ho
    simp only [execOp, hx, Sem.run_bind]
    rw [hv]
    rfl
  unfold Oper.wp
  rw [he, Oper.upon_value]
  exact ⟨hS, h⟩
end
end Go.Proofs.YtdkgkomjbpggeaaGreatDoor.Rg

namespace Go.Proofs.YtdkgkomjbpggeaaGreatDoor.Az
open Go.RowKit Tx
set_option linter.unusedVariables false
set_option linter.unusedSimpArgs false
set_option linter.unnecessarySimpa false
def CellsE (z : Nat) (p : ByteArray) (k : Int) (d : ByteArray) (W : World) : Prop := W.cell? ⟨z, 0, none⟩ = some (.string p) ∧ W.cell? ⟨z, 1, none⟩ = some (.int .i64 k) ∧ W.cell? ⟨z, 2, none⟩ = some (.string d)
set_option maxRecDepth 100000 in
set_option maxHeartbeats 4000000 in
theorem regRecord (ops : Array Oper) (hops : ops = (Rg.opsOf Tryz.f35 8)) (id : Nat) (z ub : Nat) (p d k1 k2 k3 : ByteArray) (k : Int) (sl : Value) {u1 u2 u3 u4 u6 u8 u9 u10 u11 u12 u13 u14 u15 u16 u17 u18 u19 u20 u21 u22 u23 u24 u25 u26 u27 u28 u29 u30 u31 u32 u33 u34 u35 u36 u37 u38 u39 u40 u41 u42 u43 u44 u45 u46 u47 u48 u49 : Value} (w : World) (B1 B2 B3 : World → Prop) (B4 : Value → World → Prop)
    (hS : CellsE z p k d w) (hA : Calls Tryz.prog 73 #[.pointer (some ⟨ub, 0, none⟩), .string d] w.drew fun e w' => e = .returned (.string k1) ∧ B1 w') (hAS : ∀ W, B1 W → CellsE z p k d W)
    (hB : ∀ W, B1 W → Calls Tryz.prog 70 #[.string k1] W fun e w' => e = .returned (.string k2) ∧ B2 w') (hBS : ∀ W, B2 W → CellsE z p k d W)
    (hC : ∀ W, B2 W → Calls Tryz.prog 74 #[.string d] W fun e w' => e = .returned (.string k3) ∧ B3 w') (hCS : ∀ W, B3 W → CellsE z p k d W)
    (hES : ∀ W, B3 W → CellsE z p k d (W.alloc (.cells #[(.string k2), (.string k3)] 9)))
    (hE : ∀ W, B3 W → ∀ ty, ∃ v8 w8, (Builtin.append_ #[52, 52] ty #[sl, .slice (some ⟨W.heap.size, 0, none⟩) 2 2]).run Tryz.prog (W.alloc (.cells #[(.string k2), (.string k3)] 9)) = .ok v8 w8 ∧ CellsE z p k d w8 ∧ B4 v8 w8) :
    (Code.region id ops true).wp Tryz.prog (Rg.Only fun a' w' => ∃ (z8 : Nat) (v8 : Value), a' = ⟨#[(.pointer (some ⟨ub, 0, none⟩)), u1, u2, u3, u4, v8, u6, (.pointer (some ⟨z, 0, none⟩)), u8, u9, u10, u11, u12, u13, u14, u15, u16, u17, u18, u19, u20, u21, u22, u23, u24, u25, u26, u27, u28, u29, u30, u31, u32, u33, sl, (.pointer (some ⟨ub, 0, none⟩)), (.pointer (some ⟨z, 1, none⟩)), (.pointer (some ⟨z, 1 + 1, none⟩)), (.string d), (.string k1), (.string k2), (.pointer (some ⟨z, 1, none⟩)), (.pointer (some ⟨z, 1 + 1, none⟩)), (.string d), (.string k3), (.slice (some ⟨z8, 0, none⟩) 2 2), v8, u47, u48, u49], []⟩ ∧ B4 v8 w') ⟨#[(.pointer (some ⟨ub, 0, none⟩)), u1, u2, u3, u4, sl, u6, (.pointer (some ⟨z, 0, none⟩)), u8, u9, u10, u11, u12, u13, u14, u15, u16, u17, u18, u19, u20, u21, u22, u23, u24, u25, u26, u27, u28, u29, u30, u31, u32, u33, u34, u35, u36, u37, u38, u39, u40, u41, u42, u43, u44, u45, u46, u47, u48, u49], []⟩ w := by
  subst hops
  have hNS : Region.noSelect (Rg.opsOf Tryz.f35 8) = true := by kernel_rfl
  refine wp_region_held_drew (S := CellsE z p k d) (by kernel_rfl) hS (fun hHeld => ?_)
  rw [show (Rg.opsOf Tryz.f35 8).size = 14 by kernel_rfl]
  refine Rg.take (ops := (Rg.opsOf Tryz.f35 8)) 0 (some 34) (sl) hNS (by kernel_rfl) (by kernel_rfl) (by kernel_rfl) (by kernel_rfl) (by kernel_rfl) hHeld (Rg.y_move (x := (Operand.tmp 5)) (Or.inl (by kernel_rfl)) (by kernel_rfl)) ?_
  refine Rg.take (ops := (Rg.opsOf Tryz.f35 8)) 1 (some 35) ((.pointer (some ⟨ub, 0, none⟩))) hNS (by kernel_rfl) (by kernel_rfl) (by kernel_rfl) (by kernel_rfl) (by kernel_rfl) hHeld (Rg.y_move (x := (Operand.tmp 0)) (Or.inl (by kernel_rfl)) (by kernel_rfl)) ?_
  refine Rg.take (ops := (Rg.opsOf Tryz.f35 8)) 2 (some 36) ((.pointer (some ⟨z, 1, none⟩))) hNS (by kernel_rfl) (by kernel_rfl) (by kernel_rfl) (by kernel_rfl) (by kernel_rfl) hHeld (Rg.y_field (T := 73) (k := 1) (x := (Operand.tmp 7)) (vx := (.pointer (some ⟨z, 0, none⟩))) (by kernel_rfl) (by kernel_rfl) ?_) ?_
  · (intro w hSw; clear hSw; go_simp)
  refine Rg.take (ops := (Rg.opsOf Tryz.f35 8)) 3 (some 37) ((.pointer (some ⟨z, 1 + 1, none⟩))) hNS (by kernel_rfl) (by kernel_rfl) (by kernel_rfl) (by kernel_rfl) (by kernel_rfl) hHeld (Rg.y_field (T := 71) (k := 1) (x := (Operand.tmp 36)) (vx := (.pointer (some ⟨z, 1, none⟩))) (by kernel_rfl) (by kernel_rfl) ?_) ?_
  · (intro w hSw; clear hSw; go_simp)
  refine Rg.take (ops := (Rg.opsOf Tryz.f35 8)) 4 (some 38) ((.string d)) hNS (by kernel_rfl) (by kernel_rfl) (by kernel_rfl) (by kernel_rfl) (by kernel_rfl) hHeld (Rg.y_load (T := 9) (x := (Operand.tmp 37)) (vx := (.pointer (some ⟨z, 1 + 1, none⟩))) (by kernel_rfl) (by kernel_rfl) ?_) ?_
  · (intro w hSw; obtain ⟨s0, s1, s2⟩ := hSw; have s3 : w.cell? ⟨z, 1 + 1, none⟩ = some (.string d) := s2; go_simp)
  refine Rg.take (ops := (Rg.opsOf Tryz.f35 8)) 7 (some 41) ((.pointer (some ⟨z, 1, none⟩))) hNS (by kernel_rfl) (by kernel_rfl) (by kernel_rfl) (by kernel_rfl) (by kernel_rfl) hHeld (Rg.y_field (T := 73) (k := 1) (x := (Operand.tmp 7)) (vx := (.pointer (some ⟨z, 0, none⟩))) (by kernel_rfl) (by kernel_rfl) ?_) ?_
  · (intro w hSw; clear hSw; go_simp)
  refine Rg.take (ops := (Rg.opsOf Tryz.f35 8)) 8 (some 42) ((.pointer (some ⟨z, 1 + 1, none⟩))) hNS (by kernel_rfl) (by kernel_rfl) (by kernel_rfl) (by kernel_rfl) (by kernel_rfl) hHeld (Rg.y_field (T := 71) (k := 1) (x := (Operand.tmp 41)) (vx := (.pointer (some ⟨z, 1, none⟩))) (by kernel_rfl) (by kernel_rfl) ?_) ?_
  · (intro w hSw; clear hSw; go_simp)
  refine Rg.take (ops := (Rg.opsOf Tryz.f35 8)) 9 (some 43) ((.string d)) hNS (by kernel_rfl) (by kernel_rfl) (by kernel_rfl) (by kernel_rfl) (by kernel_rfl) hHeld (Rg.y_load (T := 9) (x := (Operand.tmp 42)) (vx := (.pointer (some ⟨z, 1 + 1, none⟩))) (by kernel_rfl) (by kernel_rfl) ?_) ?_
  · (intro w hSw; obtain ⟨s0, s1, s2⟩ := hSw; have s3 : w.cell? ⟨z, 1 + 1, none⟩ = some (.string d) := s2; go_simp)
  refine Rg.call (ops := (Rg.opsOf Tryz.f35 8)) (fn := Tryz.f73) (xs := #[Operand.tmp 35, Operand.tmp 38]) (ats := #[30, 9]) 5 (some 39) 73 #[(.pointer (some ⟨ub, 0, none⟩)), (.string d)] (by kernel_rfl) (by kernel_rfl) (by kernel_rfl) (by kernel_rfl) (by kernel_rfl) Tryz.func73 (by kernel_rfl) (by kernel_rfl) (by kernel_rfl) ?_
  refine hA.mono ?_
  rintro e w5 ⟨rfl, h5⟩
  refine ⟨_, rfl, hAS _ h5, fun hHeld => ?_⟩
  refine Rg.call (ops := (Rg.opsOf Tryz.f35 8)) (fn := Tryz.f70) (xs := #[Operand.tmp 39]) (ats := #[9]) 6 (some 40) 70 #[(.string k1)] (by kernel_rfl) (by kernel_rfl) (by kernel_rfl) (by kernel_rfl) (by kernel_rfl) Tryz.func70 (by kernel_rfl) (by kernel_rfl) (by kernel_rfl) ?_
  refine (hB _ h5).mono ?_
  rintro e w6 ⟨rfl, h6⟩
  refine ⟨_, rfl, hBS _ h6, fun hHeld => ?_⟩
  refine Rg.call (ops := (Rg.opsOf Tryz.f35 8)) (fn := Tryz.f74) (xs := #[Operand.tmp 43]) (ats := #[9]) 10 (some 44) 74 #[(.string d)] (by kernel_rfl) (by kernel_rfl) (by kernel_rfl) (by kernel_rfl) (by kernel_rfl) Tryz.func74 (by kernel_rfl) (by kernel_rfl) (by kernel_rfl) ?_
  refine (hC _ h6).mono ?_
  rintro e w7 ⟨rfl, h7⟩
  refine ⟨_, rfl, hCS _ h7, fun hHeld => ?_⟩
  refine Rg.bld (ops := (Rg.opsOf Tryz.f35 8)) 11 (some 45) (T := 52) (len := 2) (parts := #[(0, Operand.tmp 40), (1, Operand.tmp 44)]) (vs := #[(0, (.string k2)), (1, (.string k3))]) (v := (.slice (some ⟨w7.heap.size, 0, none⟩) 2 2)) (w1 := w7.alloc (.cells #[(.string k2), (.string k3)] 9)) (by kernel_rfl) (by kernel_rfl) (by kernel_rfl) (by kernel_rfl) (by kernel_rfl) (by kernel_rfl) ?_ (hES _ h7) (fun hHeld => ?_)
  · (clear hHeld; go_simp)
  refine Rg.app1 (ops := (Rg.opsOf Tryz.f35 8)) 12 (some 46) (T := 52) (x := (Operand.tmp 34)) (y := (Operand.tmp 45)) (vx := sl) (vy := (.slice (some ⟨w7.heap.size, 0, none⟩) 2 2)) (by kernel_rfl) (by kernel_rfl) (by kernel_rfl) (by kernel_rfl) (by kernel_rfl) (by kernel_rfl) (by kernel_rfl) ?_
  intro ty
  obtain ⟨v8, w8, hr8, hs8, h8⟩ := hE _ h7 ty
  refine ⟨_, w8, hr8, hs8, fun hHeld => ?_⟩
  refine Rg.take (ops := (Rg.opsOf Tryz.f35 8)) 13 (some 5) (v8) hNS (by kernel_rfl) (by kernel_rfl) (by kernel_rfl) (by kernel_rfl) (by kernel_rfl) hHeld (Rg.y_move (x := (Operand.tmp 46)) (Or.inr (by kernel_rfl)) (by kernel_rfl)) ?_
  refine Rg.done (ops := (Rg.opsOf Tryz.f35 8)) (by kernel_rfl) ?_
  exact ⟨w7.heap.size, v8, by kernel_rfl, h8⟩
set_option maxRecDepth 100000 in
set_option maxHeartbeats 8000000 in
theorem regSaveZ (ops : Array Oper) (hops : ops = (Rg.opsOf Tryz.f11 7)) (id : Nat) (ub : Nat) (n : Int) (k0 k1 k2 : ByteArray) (sl : Value) {u3 u4 u5 u6 u7 u8 u9 u10 u11 u12 u13 u14 u15 u16 u17 u18 u19 u20 u21 u22 u23 u24 u25 u26 u27 u28 u29 u30 u31 u32 u33 u34 u35 u36 u37 u38 u39 u40 u41 u42 u43 u44 u45 u46 u47 : Value} (w : World) (B : Nat → Option Nat → World → Prop) (hq : B 0 none w.drew)
    (hAl : ∀ i W, B i none W → ∃ zz wz, (Instr.buildSlice 87 1 #[(0, .int .u8 0)]).run Tryz.prog W = .ok (.slice (some ⟨zz, 0, none⟩) 1 1) wz ∧ B i (some zz) wz)
    (hCv : ∀ i zz W, B i (some zz) W → (Go.convert 87 9 (.slice (some ⟨zz, 0, none⟩) 1 1)).run Tryz.prog W = .ok (.string ⟨#[0]⟩) W)
    (hA : ∀ q W, B 0 q W → Calls Tryz.prog 33 #[.int .i64 n] W fun e w' => e = .returned (.string k0) ∧ B 1 q w')
    (hB : ∀ q W, B 1 q W → Calls Tryz.prog 35 #[.pointer (some ⟨ub, 0, none⟩), sl] W fun e w' => e = .returned (.string k1) ∧ B 2 q w')
    (hC : ∀ q W, B 2 q W → Calls Tryz.prog 34 #[.string k1] W fun e w' => e = .returned (.string k2) ∧ B 3 q w')
    (hk2 : k2.size ≤ 9000000000000) (hP : ∀ q W, B 3 q W → Calls Tryz.prog 32 #[.pointer (some ⟨ub, 0, none⟩), .string k0, .string (k2 ++ ⟨#[0]⟩)] W fun e w' => e = .returned (.tuple #[]) ∧ B 4 q w') :
    (Code.region id ops true).wp Tryz.prog (Rg.Only fun a' w' => ∃ z8 : Nat, a' = ⟨#[(.pointer (some ⟨ub, 0, none⟩)), (.int .i64 n), sl, u3, u4, u5, u6, u7, u8, u9, u10, u11, u12, u13, u14, u15, u16, u17, u18, u19, u20, u21, u22, u23, u24, u25, (.pointer (some ⟨ub, 0, none⟩)), (.int .i64 n), (.string k0), (.pointer (some ⟨ub, 0, none⟩)), sl, (.string k1), (.string k2), (.slice (some ⟨z8, 0, none⟩) 1 1), (.string ⟨#[0]⟩), (.string (k2 ++ ⟨#[0]⟩)), (.tuple #[]), u37, u38, u39, u40, u41, u42, u43, u44, u45, u46, u47], []⟩ ∧ ∃ q, B 4 q w') ⟨#[(.pointer (some ⟨ub, 0, none⟩)), (.int .i64 n), sl, u3, u4, u5, u6, u7, u8, u9, u10, u11, u12, u13, u14, u15, u16, u17, u18, u19, u20, u21, u22, u23, u24, u25, u26, u27, u28, u29, u30, u31, u32, u33, u34, u35, u36, u37, u38, u39, u40, u41, u42, u43, u44, u45, u46, u47], []⟩ w := by
  subst hops
  have hNS : Region.noSelect (Rg.opsOf Tryz.f11 7) = true := by kernel_rfl
  refine wp_region_held_drew (S := fun _ => True) (by kernel_rfl) trivial (fun hHeld => ?_)
  rw [show (Rg.opsOf Tryz.f11 7).size = 11 by kernel_rfl]
  refine Rg.take (ops := (Rg.opsOf Tryz.f11 7)) 0 (some 26) ((.pointer (some ⟨ub, 0, none⟩))) hNS (by kernel_rfl) (by kernel_rfl) (by kernel_rfl) (by kernel_rfl) (by kernel_rfl) hHeld (Rg.y_move (x := (Operand.tmp 0)) (Or.inl (by kernel_rfl)) (by kernel_rfl)) ?_
  refine Rg.take (ops := (Rg.opsOf Tryz.f11 7)) 1 (some 27) ((.int .i64 n)) hNS (by kernel_rfl) (by kernel_rfl) (by kernel_rfl) (by kernel_rfl) (by kernel_rfl) hHeld (Rg.y_move (x := (Operand.tmp 1)) (Or.inl (by kernel_rfl)) (by kernel_rfl)) ?_
  refine Rg.take (ops := (Rg.opsOf Tryz.f11 7)) 3 (some 29) ((.pointer (some ⟨ub, 0, none⟩))) hNS (by kernel_rfl) (by kernel_rfl) (by kernel_rfl) (by kernel_rfl) (by kernel_rfl) hHeld (Rg.y_move (x := (Operand.tmp 0)) (Or.inl (by kernel_rfl)) (by kernel_rfl)) ?_
  refine Rg.take (ops := (Rg.opsOf Tryz.f11 7)) 4 (some 30) (sl) hNS (by kernel_rfl) (by kernel_rfl) (by kernel_rfl) (by kernel_rfl) (by kernel_rfl) hHeld (Rg.y_move (x := (Operand.tmp 2)) (Or.inl (by kernel_rfl)) (by kernel_rfl)) ?_
  refine Rg.two (ops := (Rg.opsOf Tryz.f11 7)) (i := 2) (j := 7) (by kernel_rfl) ?_ ?_
  · refine Rg.op_call (ops := (Rg.opsOf Tryz.f11 7)) (fn := Tryz.f33) (xs := #[Operand.tmp 27]) (ats := #[3]) 2 (some 28) 33 #[(.int .i64 n)] (by kernel_rfl) (by kernel_rfl) (by kernel_rfl) (by kernel_rfl) Tryz.func33 (by kernel_rfl) (by kernel_rfl) (by kernel_rfl) ?_
    refine (hA _ _ hq).mono ?_
    clear hq
    rintro e w5 ⟨rfl, hq⟩
    refine ⟨_, rfl, trivial, fun hHeld => ?_⟩
    refine Rg.two (ops := (Rg.opsOf Tryz.f11 7)) (i := 5) (j := 7) (by kernel_rfl) ?_ ?_
    · refine Rg.op_call (ops := (Rg.opsOf Tryz.f11 7)) (fn := Tryz.f35) (xs := #[Operand.tmp 29, Operand.tmp 30]) (ats := #[30, 33]) 5 (some 31) 35 #[(.pointer (some ⟨ub, 0, none⟩)), sl] (by kernel_rfl) (by kernel_rfl) (by kernel_rfl) (by kernel_rfl) Tryz.func35 (by kernel_rfl) (by kernel_rfl) (by kernel_rfl) ?_
      refine (hB _ _ hq).mono ?_
      clear hq
      rintro e w6 ⟨rfl, hq⟩
      refine ⟨_, rfl, trivial, fun hHeld => ?_⟩
      refine Rg.two (ops := (Rg.opsOf Tryz.f11 7)) (i := 6) (j := 7) (by kernel_rfl) ?_ ?_
      · refine Rg.op_call (ops := (Rg.opsOf Tryz.f11 7)) (fn := Tryz.f34) (xs := #[Operand.tmp 31]) (ats := #[9]) 6 (some 32) 34 #[(.string k1)] (by kernel_rfl) (by kernel_rfl) (by kernel_rfl) (by kernel_rfl) Tryz.func34 (by kernel_rfl) (by kernel_rfl) (by kernel_rfl) ?_
        refine (hC _ _ hq).mono ?_
        clear hq
        rintro e w7 ⟨rfl, hq⟩
        refine ⟨_, rfl, trivial, fun hHeld => ?_⟩
        obtain ⟨zz, wz, hrun, hq⟩ := hAl _ _ hq
        refine Rg.bld (ops := (Rg.opsOf Tryz.f11 7)) 7 (some 33) (T := 87) (len := 1) (parts := #[(0, Operand.const (Value.int IntKind.u8 0))]) (vs := #[(0, (Value.int IntKind.u8 0))]) (v := (.slice (some ⟨zz, 0, none⟩) 1 1)) (w1 := wz) (by kernel_rfl) (by kernel_rfl) (by kernel_rfl) (by kernel_rfl) (by kernel_rfl) (by kernel_rfl) ?_ (trivial) (fun hHeld => ?_)
        · exact hrun
        refine Rg.one (ops := (Rg.opsOf Tryz.f11 7)) (i := 8) (by kernel_rfl) ?_
        refine Rg.op_conv (ops := (Rg.opsOf Tryz.f11 7)) 8 (some 34) (T := 87) (U := 9) (x := (Operand.tmp 33)) (vx := (.slice (some ⟨zz, 0, none⟩) 1 1)) (v := (.string ⟨#[0]⟩)) (by kernel_rfl) (by kernel_rfl) (by kernel_rfl) (by kernel_rfl) (by kernel_rfl) ?_ hHeld ?_
        · exact hCv _ _ _ hq
        refine Rg.take (ops := (Rg.opsOf Tryz.f11 7)) 9 (some 35) ((.string (k2 ++ ⟨#[0]⟩))) hNS (by kernel_rfl) (by kernel_rfl) (by kernel_rfl) (by kernel_rfl) (by kernel_rfl) hHeld (Rg.y_bin (b := BinOp.add) (T := 9) (R' := 9) (x := (Operand.tmp 32)) (y := (Operand.tmp 34)) (vx := (.string k2)) (vy := (.string ⟨#[0]⟩)) (by kernel_rfl) (by kernel_rfl) (by kernel_rfl) ?_) ?_
        · (intro w hSw; clear hSw hAl hCv hA hB hC hP; go_simp; omega)
        refine Rg.call (ops := (Rg.opsOf Tryz.f11 7)) (fn := Tryz.f32) (xs := #[Operand.tmp 26, Operand.tmp 28, Operand.tmp 35]) (ats := #[30, 9, 9]) 10 (some 36) 32 #[(.pointer (some ⟨ub, 0, none⟩)), (.string k0), (.string (k2 ++ ⟨#[0]⟩))] (by kernel_rfl) (by kernel_rfl) (by kernel_rfl) (by kernel_rfl) (by kernel_rfl) Tryz.func32 (by kernel_rfl) (by kernel_rfl) (by kernel_rfl) ?_
        refine (hP _ _ hq).mono ?_
        clear hq
        rintro e w8 ⟨rfl, hq⟩
        refine ⟨_, rfl, trivial, fun hHeld => ?_⟩
        refine Rg.done (ops := (Rg.opsOf Tryz.f11 7)) (by kernel_rfl) ?_
        exact ⟨zz, by kernel_rfl, _, hq⟩
      · obtain ⟨zz, wz, hrun, hq⟩ := hAl _ _ hq
        refine Rg.op_bld (ops := (Rg.opsOf Tryz.f11 7)) 7 (some 33) (T := 87) (len := 1) (parts := #[(0, Operand.const (Value.int IntKind.u8 0))]) (vs := #[(0, (Value.int IntKind.u8 0))]) (v := (.slice (some ⟨zz, 0, none⟩) 1 1)) (w1 := wz) (by kernel_rfl) (by kernel_rfl) (by kernel_rfl) (by kernel_rfl) (by kernel_rfl) ?_ (trivial) (fun hHeld => ?_)
        · exact hrun
        refine Rg.two (ops := (Rg.opsOf Tryz.f11 7)) (i := 6) (j := 8) (by kernel_rfl) ?_ ?_
        · refine Rg.op_call (ops := (Rg.opsOf Tryz.f11 7)) (fn := Tryz.f34) (xs := #[Operand.tmp 31]) (ats := #[9]) 6 (some 32) 34 #[(.string k1)] (by kernel_rfl) (by kernel_rfl) (by kernel_rfl) (by kernel_rfl) Tryz.func34 (by kernel_rfl) (by kernel_rfl) (by kernel_rfl) ?_
          refine (hC _ _ hq).mono ?_
          clear hq
          rintro e w7 ⟨rfl, hq⟩
          refine ⟨_, rfl, trivial, fun hHeld => ?_⟩
          refine Rg.one (ops := (Rg.opsOf Tryz.f11 7)) (i := 8) (by kernel_rfl) ?_
          refine Rg.op_conv (ops := (Rg.opsOf Tryz.f11 7)) 8 (some 34) (T := 87) (U := 9) (x := (Operand.tmp 33)) (vx := (.slice (some ⟨zz, 0, none⟩) 1 1)) (v := (.string ⟨#[0]⟩)) (by kernel_rfl) (by kernel_rfl) (by kernel_rfl) (by kernel_rfl) (by kernel_rfl) ?_ hHeld ?_
          · exact hCv _ _ _ hq
          refine Rg.take (ops := (Rg.opsOf Tryz.f11 7)) 9 (some 35) ((.string (k2 ++ ⟨#[0]⟩))) hNS (by kernel_rfl) (by kernel_rfl) (by kernel_rfl) (by kernel_rfl) (by kernel_rfl) hHeld (Rg.y_bin (b := BinOp.add) (T := 9) (R' := 9) (x := (Operand.tmp 32)) (y := (Operand.tmp 34)) (vx := (.string k2)) (vy := (.string ⟨#[0]⟩)) (by kernel_rfl) (by kernel_rfl) (by kernel_rfl) ?_) ?_
          · (intro w hSw; clear hSw hAl hCv hA hB hC hP; go_simp; omega)
          refine Rg.call (ops := (Rg.opsOf Tryz.f11 7)) (fn := Tryz.f32) (xs := #[Operand.tmp 26, Operand.tmp 28, Operand.tmp 35]) (ats := #[30, 9, 9]) 10 (some 36) 32 #[(.pointer (some ⟨ub, 0, none⟩)), (.string k0), (.string (k2 ++ ⟨#[0]⟩))] (by kernel_rfl) (by kernel_rfl) (by kernel_rfl) (by kernel_rfl) (by kernel_rfl) Tryz.func32 (by kernel_rfl) (by kernel_rfl) (by kernel_rfl) ?_
          refine (hP _ _ hq).mono ?_
          clear hq
          rintro e w8 ⟨rfl, hq⟩
          refine ⟨_, rfl, trivial, fun hHeld => ?_⟩
          refine Rg.done (ops := (Rg.opsOf Tryz.f11 7)) (by kernel_rfl) ?_
          exact ⟨zz, by kernel_rfl, _, hq⟩
        · refine Rg.op_conv (ops := (Rg.opsOf Tryz.f11 7)) 8 (some 34) (T := 87) (U := 9) (x := (Operand.tmp 33)) (vx := (.slice (some ⟨zz, 0, none⟩) 1 1)) (v := (.string ⟨#[0]⟩)) (by kernel_rfl) (by kernel_rfl) (by kernel_rfl) (by kernel_rfl) (by kernel_rfl) ?_ hHeld ?_
          · exact hCv _ _ _ hq
          refine Rg.call (ops := (Rg.opsOf Tryz.f11 7)) (fn := Tryz.f34) (xs := #[Operand.tmp 31]) (ats := #[9]) 6 (some 32) 34 #[(.string k1)] (by kernel_rfl) (by kernel_rfl) (by kernel_rfl) (by kernel_rfl) (by kernel_rfl) Tryz.func34 (by kernel_rfl) (by kernel_rfl) (by kernel_rfl) ?_
          refine (hC _ _ hq).mono ?_
          clear hq
          rintro e w7 ⟨rfl, hq⟩
          refine ⟨_, rfl, trivial, fun hHeld => ?_⟩
          refine Rg.take (ops := (Rg.opsOf Tryz.f11 7)) 9 (some 35) ((.string (k2 ++ ⟨#[0]⟩))) hNS (by kernel_rfl) (by kernel_rfl) (by kernel_rfl) (by kernel_rfl) (by kernel_rfl) hHeld (Rg.y_bin (b := BinOp.add) (T := 9) (R' := 9) (x := (Operand.tmp 32)) (y := (Operand.tmp 34)) (vx := (.string k2)) (vy := (.string ⟨#[0]⟩)) (by kernel_rfl) (by kernel_rfl) (by kernel_rfl) ?_) ?_
          · (intro w hSw; clear hSw hAl hCv hA hB hC hP; go_simp; omega)
          refine Rg.call (ops := (Rg.opsOf Tryz.f11 7)) (fn := Tryz.f32) (xs := #[Operand.tmp 26, Operand.tmp 28, Operand.tmp 35]) (ats := #[30, 9, 9]) 10 (some 36) 32 #[(.pointer (some ⟨ub, 0, none⟩)), (.string k0), (.string (k2 ++ ⟨#[0]⟩))] (by kernel_rfl) (by kernel_rfl) (by kernel_rfl) (by kernel_rfl) (by kernel_rfl) Tryz.func32 (by kernel_rfl) (by kernel_rfl) (by kernel_rfl) ?_
          refine (hP _ _ hq).mono ?_
          clear hq
          rintro e w8 ⟨rfl, hq⟩
          refine ⟨_, rfl, trivial, fun hHeld => ?_⟩
          refine Rg.done (ops := (Rg.opsOf Tryz.f11 7)) (by kernel_rfl) ?_
          exact ⟨zz, by kernel_rfl, _, hq⟩
    · obtain ⟨zz, wz, hrun, hq⟩ := hAl _ _ hq
      refine Rg.op_bld (ops := (Rg.opsOf Tryz.f11 7)) 7 (some 33) (T := 87) (len := 1) (parts := #[(0, Operand.const (Value.int IntKind.u8 0))]) (vs := #[(0, (Value.int IntKind.u8 0))]) (v := (.slice (some ⟨zz, 0, none⟩) 1 1)) (w1 := wz) (by kernel_rfl) (by kernel_rfl) (by kernel_rfl) (by kernel_rfl) (by kernel_rfl) ?_ (trivial) (fun hHeld => ?_)
      · exact hrun
      refine Rg.two (ops := (Rg.opsOf Tryz.f11 7)) (i := 5) (j := 8) (by kernel_rfl) ?_ ?_
      · refine Rg.op_call (ops := (Rg.opsOf Tryz.f11 7)) (fn := Tryz.f35) (xs := #[Operand.tmp 29, Operand.tmp 30]) (ats := #[30, 33]) 5 (some 31) 35 #[(.pointer (some ⟨ub, 0, none⟩)), sl] (by kernel_rfl) (by kernel_rfl) (by kernel_rfl) (by kernel_rfl) Tryz.func35 (by kernel_rfl) (by kernel_rfl) (by kernel_rfl) ?_
        refine (hB _ _ hq).mono ?_
        clear hq
        rintro e w6 ⟨rfl, hq⟩
        refine ⟨_, rfl, trivial, fun hHeld => ?_⟩
        refine Rg.two (ops := (Rg.opsOf Tryz.f11 7)) (i := 6) (j := 8) (by kernel_rfl) ?_ ?_
        · refine Rg.op_call (ops := (Rg.opsOf Tryz.f11 7)) (fn := Tryz.f34) (xs := #[Operand.tmp 31]) (ats := #[9]) 6 (some 32) 34 #[(.string k1)] (by kernel_rfl) (by kernel_rfl) (by kernel_rfl) (by kernel_rfl) Tryz.func34 (by kernel_rfl) (by kernel_rfl) (by kernel_rfl) ?_
          refine (hC _ _ hq).mono ?_
          clear hq
          rintro e w7 ⟨rfl, hq⟩
          refine ⟨_, rfl, trivial, fun hHeld => ?_⟩
          refine Rg.one (ops := (Rg.opsOf Tryz.f11 7)) (i := 8) (by kernel_rfl) ?_
          refine Rg.op_conv (ops := (Rg.opsOf Tryz.f11 7)) 8 (some 34) (T := 87) (U := 9) (x := (Operand.tmp 33)) (vx := (.slice (some ⟨zz, 0, none⟩) 1 1)) (v := (.string ⟨#[0]⟩)) (by kernel_rfl) (by kernel_rfl) (by kernel_rfl) (by kernel_rfl) (by kernel_rfl) ?_ hHeld ?_
          · exact hCv _ _ _ hq
          refine Rg.take (ops := (Rg.opsOf Tryz.f11 7)) 9 (some 35) ((.string (k2 ++ ⟨#[0]⟩))) hNS (by kernel_rfl) (by kernel_rfl) (by kernel_rfl) (by kernel_rfl) (by kernel_rfl) hHeld (Rg.y_bin (b := BinOp.add) (T := 9) (R' := 9) (x := (Operand.tmp 32)) (y := (Operand.tmp 34)) (vx := (.string k2)) (vy := (.string ⟨#[0]⟩)) (by kernel_rfl) (by kernel_rfl) (by kernel_rfl) ?_) ?_
          · (intro w hSw; clear hSw hAl hCv hA hB hC hP; go_simp; omega)
          refine Rg.call (ops := (Rg.opsOf Tryz.f11 7)) (fn := Tryz.f32) (xs := #[Operand.tmp 26, Operand.tmp 28, Operand.tmp 35]) (ats := #[30, 9, 9]) 10 (some 36) 32 #[(.pointer (some ⟨ub, 0, none⟩)), (.string k0), (.string (k2 ++ ⟨#[0]⟩))] (by kernel_rfl) (by kernel_rfl) (by kernel_rfl) (by kernel_rfl) (by kernel_rfl) Tryz.func32 (by kernel_rfl) (by kernel_rfl) (by kernel_rfl) ?_
          refine (hP _ _ hq).mono ?_
          clear hq
          rintro e w8 ⟨rfl, hq⟩
          refine ⟨_, rfl, trivial, fun hHeld => ?_⟩
          refine Rg.done (ops := (Rg.opsOf Tryz.f11 7)) (by kernel_rfl) ?_
          exact ⟨zz, by kernel_rfl, _, hq⟩
        · refine Rg.op_conv (ops := (Rg.opsOf Tryz.f11 7)) 8 (some 34) (T := 87) (U := 9) (x := (Operand.tmp 33)) (vx := (.slice (some ⟨zz, 0, none⟩) 1 1)) (v := (.string ⟨#[0]⟩)) (by kernel_rfl) (by kernel_rfl) (by kernel_rfl) (by kernel_rfl) (by kernel_rfl) ?_ hHeld ?_
          · exact hCv _ _ _ hq
          refine Rg.call (ops := (Rg.opsOf Tryz.f11 7)) (fn := Tryz.f34) (xs := #[Operand.tmp 31]) (ats := #[9]) 6 (some 32) 34 #[(.string k1)] (by kernel_rfl) (by kernel_rfl) (by kernel_rfl) (by kernel_rfl) (by kernel_rfl) Tryz.func34 (by kernel_rfl) (by kernel_rfl) (by kernel_rfl) ?_
          refine (hC _ _ hq).mono ?_
          clear hq
          rintro e w7 ⟨rfl, hq⟩
          refine ⟨_, rfl, trivial, fun hHeld => ?_⟩
          refine Rg.take (ops := (Rg.opsOf Tryz.f11 7)) 9 (some 35) ((.string (k2 ++ ⟨#[0]⟩))) hNS (by kernel_rfl) (by kernel_rfl) (by kernel_rfl) (by kernel_rfl) (by kernel_rfl) hHeld (Rg.y_bin (b := BinOp.add) (T := 9) (R' := 9) (x := (Operand.tmp 32)) (y := (Operand.tmp 34)) (vx := (.string k2)) (vy := (.string ⟨#[0]⟩)) (by kernel_rfl) (by kernel_rfl) (by kernel_rfl) ?_) ?_
          · (intro w hSw; clear hSw hAl hCv hA hB hC hP; go_simp; omega)
          refine Rg.call (ops := (Rg.opsOf Tryz.f11 7)) (fn := Tryz.f32) (xs := #[Operand.tmp 26, Operand.tmp 28, Operand.tmp 35]) (ats := #[30, 9, 9]) 10 (some 36) 32 #[(.pointer (some ⟨ub, 0, none⟩)), (.string k0), (.string (k2 ++ ⟨#[0]⟩))] (by kernel_rfl) (by kernel_rfl) (by kernel_rfl) (by kernel_rfl) (by kernel_rfl) Tryz.func32 (by kernel_rfl) (by kernel_rfl) (by kernel_rfl) ?_
          refine (hP _ _ hq).mono ?_
          clear hq
          rintro e w8 ⟨rfl, hq⟩
          refine ⟨_, rfl, trivial, fun hHeld => ?_⟩
          refine Rg.done (ops := (Rg.opsOf Tryz.f11 7)) (by kernel_rfl) ?_
          exact ⟨zz, by kernel_rfl, _, hq⟩
      · refine Rg.op_conv (ops := (Rg.opsOf Tryz.f11 7)) 8 (some 34) (T := 87) (U := 9) (x := (Operand.tmp 33)) (vx := (.slice (some ⟨zz, 0, none⟩) 1 1)) (v := (.string ⟨#[0]⟩)) (by kernel_rfl) (by kernel_rfl) (by kernel_rfl) (by kernel_rfl) (by kernel_rfl) ?_ hHeld ?_
        · exact hCv _ _ _ hq
        refine Rg.call (ops := (Rg.opsOf Tryz.f11 7)) (fn := Tryz.f35) (xs := #[Operand.tmp 29, Operand.tmp 30]) (ats := #[30, 33]) 5 (some 31) 35 #[(.pointer (some ⟨ub, 0, none⟩)), sl] (by kernel_rfl) (by kernel_rfl) (by kernel_rfl) (by kernel_rfl) (by kernel_rfl) Tryz.func35 (by kernel_rfl) (by kernel_rfl) (by kernel_rfl) ?_
        refine (hB _ _ hq).mono ?_
        clear hq
        rintro e w6 ⟨rfl, hq⟩
        refine ⟨_, rfl, trivial, fun hHeld => ?_⟩
        refine Rg.call (ops := (Rg.opsOf Tryz.f11 7)) (fn := Tryz.f34) (xs := #[Operand.tmp 31]) (ats := #[9]) 6 (some 32) 34 #[(.string k1)] (by kernel_rfl) (by kernel_rfl) (by kernel_rfl) (by kernel_rfl) (by kernel_rfl) Tryz.func34 (by kernel_rfl) (by kernel_rfl) (by kernel_rfl) ?_
        refine (hC _ _ hq).mono ?_
        clear hq
        rintro e w7 ⟨rfl, hq⟩
        refine ⟨_, rfl, trivial, fun hHeld => ?_⟩
        refine Rg.take (ops := (Rg.opsOf Tryz.f11 7)) 9 (some 35) ((.string (k2 ++ ⟨#[0]⟩))) hNS (by kernel_rfl) (by kernel_rfl) (by kernel_rfl) (by kernel_rfl) (by kernel_rfl) hHeld (Rg.y_bin (b := BinOp.add) (T := 9) (R' := 9) (x := (Operand.tmp 32)) (y := (Operand.tmp 34)) (vx := (.string k2)) (vy := (.string ⟨#[0]⟩)) (by kernel_rfl) (by kernel_rfl) (by kernel_rfl) ?_) ?_
        · (intro w hSw; clear hSw hAl hCv hA hB hC hP; go_simp; omega)
        refine Rg.call (ops := (Rg.opsOf Tryz.f11 7)) (fn := Tryz.f32) (xs := #[Operand.tmp 26, Operand.tmp 28, Operand.tmp 35]) (ats := #[30, 9, 9]) 10 (some 36) 32 #[(.pointer (some ⟨ub, 0, none⟩)), (.string k0), (.string (k2 ++ ⟨#[0]⟩))] (by kernel_rfl) (by kernel_rfl) (by kernel_rfl) (by kernel_rfl) (by kernel_rfl) Tryz.func32 (by kernel_rfl) (by kernel_rfl) (by kernel_rfl) ?_
        refine (hP _ _ hq).mono ?_
        clear hq
        rintro e w8 ⟨rfl, hq⟩
        refine ⟨_, rfl, trivial, fun hHeld => ?_⟩
        refine Rg.done (ops := (Rg.opsOf Tryz.f11 7)) (by kernel_rfl) ?_
        exact ⟨zz, by kernel_rfl, _, hq⟩
  · obtain ⟨zz, wz, hrun, hq⟩ := hAl _ _ hq
    refine Rg.op_bld (ops := (Rg.opsOf Tryz.f11 7)) 7 (some 33) (T := 87) (len := 1) (parts := #[(0, Operand.const (Value.int IntKind.u8 0))]) (vs := #[(0, (Value.int IntKind.u8 0))]) (v := (.slice (some ⟨zz, 0, none⟩) 1 1)) (w1 := wz) (by kernel_rfl) (by kernel_rfl) (by kernel_rfl) (by kernel_rfl) (by kernel_rfl) ?_ (trivial) (fun hHeld => ?_)
    · exact hrun
    refine Rg.two (ops := (Rg.opsOf Tryz.f11 7)) (i := 2) (j := 8) (by kernel_rfl) ?_ ?_
    · refine Rg.op_call (ops := (Rg.opsOf Tryz.f11 7)) (fn := Tryz.f33) (xs := #[Operand.tmp 27]) (ats := #[3]) 2 (some 28) 33 #[(.int .i64 n)] (by kernel_rfl) (by kernel_rfl) (by kernel_rfl) (by kernel_rfl) Tryz.func33 (by kernel_rfl) (by kernel_rfl) (by kernel_rfl) ?_
      refine (hA _ _ hq).mono ?_
      clear hq
      rintro e w5 ⟨rfl, hq⟩
      refine ⟨_, rfl, trivial, fun hHeld => ?_⟩
      refine Rg.two (ops := (Rg.opsOf Tryz.f11 7)) (i := 5) (j := 8) (by kernel_rfl) ?_ ?_
      · refine Rg.op_call (ops := (Rg.opsOf Tryz.f11 7)) (fn := Tryz.f35) (xs := #[Operand.tmp 29, Operand.tmp 30]) (ats := #[30, 33]) 5 (some 31) 35 #[(.pointer (some ⟨ub, 0, none⟩)), sl] (by kernel_rfl) (by kernel_rfl) (by kernel_rfl) (by kernel_rfl) Tryz.func35 (by kernel_rfl) (by kernel_rfl) (by kernel_rfl) ?_
        refine (hB _ _ hq).mono ?_
        clear hq
        rintro e w6 ⟨rfl, hq⟩
        refine ⟨_, rfl, trivial, fun hHeld => ?_⟩
        refine Rg.two (ops := (Rg.opsOf Tryz.f11 7)) (i := 6) (j := 8) (by kernel_rfl) ?_ ?_
        · refine Rg.op_call (ops := (Rg.opsOf Tryz.f11 7)) (fn := Tryz.f34) (xs := #[Operand.tmp 31]) (ats := #[9]) 6 (some 32) 34 #[(.string k1)] (by kernel_rfl) (by kernel_rfl) (by kernel_rfl) (by kernel_rfl) Tryz.func34 (by kernel_rfl) (by kernel_rfl) (by kernel_rfl) ?_
          refine (hC _ _ hq).mono ?_
          clear hq
          rintro e w7 ⟨rfl, hq⟩
          refine ⟨_, rfl, trivial, fun hHeld => ?_⟩
          refine Rg.one (ops := (Rg.opsOf Tryz.f11 7)) (i := 8) (by kernel_rfl) ?_
          refine Rg.op_conv (ops := (Rg.opsOf Tryz.f11 7)) 8 (some 34) (T := 87) (U := 9) (x := (Operand.tmp 33)) (vx := (.slice (some ⟨zz, 0, none⟩) 1 1)) (v := (.string ⟨#[0]⟩)) (by kernel_rfl) (by kernel_rfl) (by kernel_rfl) (by kernel_rfl) (by kernel_rfl) ?_ hHeld ?_
          · exact hCv _ _ _ hq
          refine Rg.take (ops := (Rg.opsOf Tryz.f11 7)) 9 (some 35) ((.string (k2 ++ ⟨#[0]⟩))) hNS (by kernel_rfl) (by kernel_rfl) (by kernel_rfl) (by kernel_rfl) (by kernel_rfl) hHeld (Rg.y_bin (b := BinOp.add) (T := 9) (R' := 9) (x := (Operand.tmp 32)) (y := (Operand.tmp 34)) (vx := (.string k2)) (vy := (.string ⟨#[0]⟩)) (by kernel_rfl) (by kernel_rfl) (by kernel_rfl) ?_) ?_
          · (intro w hSw; clear hSw hAl hCv hA hB hC hP; go_simp; omega)
          refine Rg.call (ops := (Rg.opsOf Tryz.f11 7)) (fn := Tryz.f32) (xs := #[Operand.tmp 26, Operand.tmp 28, Operand.tmp 35]) (ats := #[30, 9, 9]) 10 (some 36) 32 #[(.pointer (some ⟨ub, 0, none⟩)), (.string k0), (.string (k2 ++ ⟨#[0]⟩))] (by kernel_rfl) (by kernel_rfl) (by kernel_rfl) (by kernel_rfl) (by kernel_rfl) Tryz.func32 (by kernel_rfl) (by kernel_rfl) (by kernel_rfl) ?_
          refine (hP _ _ hq).mono ?_
          clear hq
          rintro e w8 ⟨rfl, hq⟩
          refine ⟨_, rfl, trivial, fun hHeld => ?_⟩
          refine Rg.done (ops := (Rg.opsOf Tryz.f11 7)) (by kernel_rfl) ?_
          exact ⟨zz, by kernel_rfl, _, hq⟩
        · refine Rg.op_conv (ops := (Rg.opsOf Tryz.f11 7)) 8 (some 34) (T := 87) (U := 9) (x := (Operand.tmp 33)) (vx := (.slice (some ⟨zz, 0, none⟩) 1 1)) (v := (.string ⟨#[0]⟩)) (by kernel_rfl) (by kernel_rfl) (by kernel_rfl) (by kernel_rfl) (by kernel_rfl) ?_ hHeld ?_
          · exact hCv _ _ _ hq
          refine Rg.call (ops := (Rg.opsOf Tryz.f11 7)) (fn := Tryz.f34) (xs := #[Operand.tmp 31]) (ats := #[9]) 6 (some 32) 34 #[(.string k1)] (by kernel_rfl) (by kernel_rfl) (by kernel_rfl) (by kernel_rfl) (by kernel_rfl) Tryz.func34 (by kernel_rfl) (by kernel_rfl) (by kernel_rfl) ?_
          refine (hC _ _ hq).mono ?_
          clear hq
          rintro e w7 ⟨rfl, hq⟩
          refine ⟨_, rfl, trivial, fun hHeld => ?_⟩
          refine Rg.take (ops := (Rg.opsOf Tryz.f11 7)) 9 (some 35) ((.string (k2 ++ ⟨#[0]⟩))) hNS (by kernel_rfl) (by kernel_rfl) (by kernel_rfl) (by kernel_rfl) (by kernel_rfl) hHeld (Rg.y_bin (b := BinOp.add) (T := 9) (R' := 9) (x := (Operand.tmp 32)) (y := (Operand.tmp 34)) (vx := (.string k2)) (vy := (.string ⟨#[0]⟩)) (by kernel_rfl) (by kernel_rfl) (by kernel_rfl) ?_) ?_
          · (intro w hSw; clear hSw hAl hCv hA hB hC hP; go_simp; omega)
          refine Rg.call (ops := (Rg.opsOf Tryz.f11 7)) (fn := Tryz.f32) (xs := #[Operand.tmp 26, Operand.tmp 28, Operand.tmp 35]) (ats := #[30, 9, 9]) 10 (some 36) 32 #[(.pointer (some ⟨ub, 0, none⟩)), (.string k0), (.string (k2 ++ ⟨#[0]⟩))] (by kernel_rfl) (by kernel_rfl) (by kernel_rfl) (by kernel_rfl) (by kernel_rfl) Tryz.func32 (by kernel_rfl) (by kernel_rfl) (by kernel_rfl) ?_
          refine (hP _ _ hq).mono ?_
          clear hq
          rintro e w8 ⟨rfl, hq⟩
          refine ⟨_, rfl, trivial, fun hHeld => ?_⟩
          refine Rg.done (ops := (Rg.opsOf Tryz.f11 7)) (by kernel_rfl) ?_
          exact ⟨zz, by kernel_rfl, _, hq⟩
      · refine Rg.op_conv (ops := (Rg.opsOf Tryz.f11 7)) 8 (some 34) (T := 87) (U := 9) (x := (Operand.tmp 33)) (vx := (.slice (some ⟨zz, 0, none⟩) 1 1)) (v := (.string ⟨#[0]⟩)) (by kernel_rfl) (by kernel_rfl) (by kernel_rfl) (by kernel_rfl) (by kernel_rfl) ?_ hHeld ?_
        · exact hCv _ _ _ hq
        refine Rg.call (ops := (Rg.opsOf Tryz.f11 7)) (fn := Tryz.f35) (xs := #[Operand.tmp 29, Operand.tmp 30]) (ats := #[30, 33]) 5 (some 31) 35 #[(.pointer (some ⟨ub, 0, none⟩)), sl] (by kernel_rfl) (by kernel_rfl) (by kernel_rfl) (by kernel_rfl) (by kernel_rfl) Tryz.func35 (by kernel_rfl) (by kernel_rfl) (by kernel_rfl) ?_
        refine (hB _ _ hq).mono ?_
        clear hq
        rintro e w6 ⟨rfl, hq⟩
        refine ⟨_, rfl, trivial, fun hHeld => ?_⟩
        refine Rg.call (ops := (Rg.opsOf Tryz.f11 7)) (fn := Tryz.f34) (xs := #[Operand.tmp 31]) (ats := #[9]) 6 (some 32) 34 #[(.string k1)] (by kernel_rfl) (by kernel_rfl) (by kernel_rfl) (by kernel_rfl) (by kernel_rfl) Tryz.func34 (by kernel_rfl) (by kernel_rfl) (by kernel_rfl) ?_
        refine (hC _ _ hq).mono ?_
        clear hq
        rintro e w7 ⟨rfl, hq⟩
        refine ⟨_, rfl, trivial, fun hHeld => ?_⟩
        refine Rg.take (ops := (Rg.opsOf Tryz.f11 7)) 9 (some 35) ((.string (k2 ++ ⟨#[0]⟩))) hNS (by kernel_rfl) (by kernel_rfl) (by kernel_rfl) (by kernel_rfl) (by kernel_rfl) hHeld (Rg.y_bin (b := BinOp.add) (T := 9) (R' := 9) (x := (Operand.tmp 32)) (y := (Operand.tmp 34)) (vx := (.string k2)) (vy := (.string ⟨#[0]⟩)) (by kernel_rfl) (by kernel_rfl) (by kernel_rfl) ?_) ?_
        · (intro w hSw; clear hSw hAl hCv hA hB hC hP; go_simp; omega)
        refine Rg.call (ops := (Rg.opsOf Tryz.f11 7)) (fn := Tryz.f32) (xs := #[Operand.tmp 26, Operand.tmp 28, Operand.tmp 35]) (ats := #[30, 9, 9]) 10 (some 36) 32 #[(.pointer (some ⟨ub, 0, none⟩)), (.string k0), (.string (k2 ++ ⟨#[0]⟩))] (by kernel_rfl) (by kernel_rfl) (by kernel_rfl) (by kernel_rfl) (by kernel_rfl) Tryz.func32 (by kernel_rfl) (by kernel_rfl) (by kernel_rfl) ?_
        refine (hP _ _ hq).mono ?_
        clear hq
        rintro e w8 ⟨rfl, hq⟩
        refine ⟨_, rfl, trivial, fun hHeld => ?_⟩
        refine Rg.done (ops := (Rg.opsOf Tryz.f11 7)) (by kernel_rfl) ?_
        exact ⟨zz, by kernel_rfl, _, hq⟩
    · refine Rg.op_conv (ops := (Rg.opsOf Tryz.f11 7)) 8 (some 34) (T := 87) (U := 9) (x := (Operand.tmp 33)) (vx := (.slice (some ⟨zz, 0, none⟩) 1 1)) (v := (.string ⟨#[0]⟩)) (by kernel_rfl) (by kernel_rfl) (by kernel_rfl) (by kernel_rfl) (by kernel_rfl) ?_ hHeld ?_
      · exact hCv _ _ _ hq
      refine Rg.call (ops := (Rg.opsOf Tryz.f11 7)) (fn := Tryz.f33) (xs := #[Operand.tmp 27]) (ats := #[3]) 2 (some 28) 33 #[(.int .i64 n)] (by kernel_rfl) (by kernel_rfl) (by kernel_rfl) (by kernel_rfl) (by kernel_rfl) Tryz.func33 (by kernel_rfl) (by kernel_rfl) (by kernel_rfl) ?_
      refine (hA _ _ hq).mono ?_
      clear hq
      rintro e w5 ⟨rfl, hq⟩
      refine ⟨_, rfl, trivial, fun hHeld => ?_⟩
      refine Rg.call (ops := (Rg.opsOf Tryz.f11 7)) (fn := Tryz.f35) (xs := #[Operand.tmp 29, Operand.tmp 30]) (ats := #[30, 33]) 5 (some 31) 35 #[(.pointer (some ⟨ub, 0, none⟩)), sl] (by kernel_rfl) (by kernel_rfl) (by kernel_rfl) (by kernel_rfl) (by kernel_rfl) Tryz.func35 (by kernel_rfl) (by kernel_rfl) (by kernel_rfl) ?_
      refine (hB _ _ hq).mono ?_
      clear hq
      rintro e w6 ⟨rfl, hq⟩
      refine ⟨_, rfl, trivial, fun hHeld => ?_⟩
      refine Rg.call (ops := (Rg.opsOf Tryz.f11 7)) (fn := Tryz.f34) (xs := #[Operand.tmp 31]) (ats := #[9]) 6 (some 32) 34 #[(.string k1)] (by kernel_rfl) (by kernel_rfl) (by kernel_rfl) (by kernel_rfl) (by kernel_rfl) Tryz.func34 (by kernel_rfl) (by kernel_rfl) (by kernel_rfl) ?_
      refine (hC _ _ hq).mono ?_
      clear hq
      rintro e w7 ⟨rfl, hq⟩
      refine ⟨_, rfl, trivial, fun hHeld => ?_⟩
      refine Rg.take (ops := (Rg.opsOf Tryz.f11 7)) 9 (some 35) ((.string (k2 ++ ⟨#[0]⟩))) hNS (by kernel_rfl) (by kernel_rfl) (by kernel_rfl) (by kernel_rfl) (by kernel_rfl) hHeld (Rg.y_bin (b := BinOp.add) (T := 9) (R' := 9) (x := (Operand.tmp 32)) (y := (Operand.tmp 34)) (vx := (.string k2)) (vy := (.string ⟨#[0]⟩)) (by kernel_rfl) (by kernel_rfl) (by kernel_rfl) ?_) ?_
      · (intro w hSw; clear hSw hAl hCv hA hB hC hP; go_simp; omega)
      refine Rg.call (ops := (Rg.opsOf Tryz.f11 7)) (fn := Tryz.f32) (xs := #[Operand.tmp 26, Operand.tmp 28, Operand.tmp 35]) (ats := #[30, 9, 9]) 10 (some 36) 32 #[(.pointer (some ⟨ub, 0, none⟩)), (.string k0), (.string (k2 ++ ⟨#[0]⟩))] (by kernel_rfl) (by kernel_rfl) (by kernel_rfl) (by kernel_rfl) (by kernel_rfl) Tryz.func32 (by kernel_rfl) (by kernel_rfl) (by kernel_rfl) ?_
      refine (hP _ _ hq).mono ?_
      clear hq
      rintro e w8 ⟨rfl, hq⟩
      refine ⟨_, rfl, trivial, fun hHeld => ?_⟩
      refine Rg.done (ops := (Rg.opsOf Tryz.f11 7)) (by kernel_rfl) ?_
      exact ⟨zz, by kernel_rfl, _, hq⟩
end Go.Proofs.YtdkgkomjbpggeaaGreatDoor.Az

namespace Go.Proofs.YtdkgkomjbpggeaaGreatDoor.Az
open Go.RowKit Tx Pm Dk Wm Wr Wl Pl Tb Bl Fm
open Fr hiding sv Texts cnt cnt_snoc
open En (Et tcheck)
set_option linter.unusedVariables false
set_option linter.unusedSimpArgs false
set_option linter.unnecessarySimpa false
section
variable {w0 : World × (Nat → Prop)} {V V' : World} {d j t m u M N M' N' : Nat} {x : Tst} {C C' : List On} {Z Z' : List It} {Q Q' : Nat → Prop}
theorem bz_freshF (h : Bz d j t m u x Z w0 C M N V) : ∃ F' : Nat → Prop, (∀ i, F' i → w0.2 i ∨ w0.1.heap.size ≤ i) ∧ (∀ i, F' i → i < V.heap.size) ∧ ∀ V', (∀ i, F' i → V'.heap[i]? = V.heap[i]?) → Bz d j t m u x Z (V', F') C M N V' := by
  obtain ⟨l, ⟨F', h1, h2, h3⟩, hh⟩ := h
  refine ⟨F', h3, tu_lt h1, fun V' hk => ⟨l, ⟨F', ?_, Chg.refl F' V', fun g hg => .inl hg⟩, hh⟩⟩
  obtain ⟨F1, G, ⟨Fj, h1⟩, ⟨pm, vO, h2⟩, hd, hH⟩ := h1
  exact ⟨F1, G, ⟨Fj, h1.kept (fun i hi => hk i ((hH i).2 (.inl hi)))⟩, ⟨pm, vO, h2.kept (fun i hi => hk i ((hH i).2 (.inr hi)))⟩, hd, hH⟩
def Bq (d j t m u : Nat) (x : Tst) (Z : List It) (w0 : World × (Nat → Prop)) (C : List On) (M N : Nat) (Q : Nat → Prop) (V : World) : Prop :=
  ∃ F : Nat → Prop, (∀ i, F i → w0.2 i ∨ w0.1.heap.size ≤ i) ∧ (∀ i, F i → i < V.heap.size) ∧ Chg w0.2 w0.1 V ∧ (∀ V', (∀ i, F i → V'.heap[i]? = V.heap[i]?) → Bz d j t m u x Z (V', F) C M N V') ∧ ∀ i, Q i → i < V.heap.size ∧ ¬ F i ∧ w0.1.heap.size ≤ i
theorem bq_first (h : Bz d j t m u x Z w0 C M N V) : Bq d j t m u x Z w0 C M N (fun _ => False) V := by
  obtain ⟨F, h1, h2, h3⟩ := bz_freshF h
  exact ⟨F, h1, h2, h.chg, h3, fun i hi => hi.elim⟩
theorem Bq.chg (h : Bq d j t m u x Z w0 C M N Q V) : Chg w0.2 w0.1 V := by
  obtain ⟨F, _, _, h3, _⟩ := h
  exact h3
theorem Bq.bz (h : Bq d j t m u x Z w0 C M N Q V) : Bz d j t m u x Z w0 C M N V := by
  obtain ⟨F, h1, h2, h3, h4, _⟩ := h
  exact (h4 V (fun _ _ => rfl)).back h3 h1
theorem Bq.own (h : Bq d j t m u x Z w0 C M N Q V) {i : Nat} (hi : Q i) : i < V.heap.size := by
  obtain ⟨F, _, _, _, _, h5⟩ := h
  exact (h5 i hi).1
theorem Bq.go (h : Bq d j t m u x Z w0 C M N Q V) (hc : Chg Q V V') (hq : ∀ i, Q' i → Q i ∨ (V.heap.size ≤ i ∧ i < V'.heap.size)) : Bq d j t m u x Z w0 C M N Q' V' := by
  obtain ⟨F, h1, h2, h3, h4, h5⟩ := h
  have hs := hc.size
  have hk : ∀ i, F i → V'.heap[i]? = V.heap[i]? := fun i hi => hc.block i (h2 i hi) (fun hq => (h5 i hq).2.1 hi)
  refine ⟨F, h1, fun i hi => Nat.lt_of_lt_of_le (h2 i hi) hs, h3.trans hc (fun i hi => .inr (h5 i hi).2.2), fun V2 h6 => h4 V2 (fun i hi => (h6 i hi).trans (hk i hi)), fun i hi => ?_⟩
  rcases hq i hi with hh | ⟨hh, hh2⟩
  · exact ⟨Nat.lt_of_lt_of_le (h5 i hh).1 hs, (h5 i hh).2⟩
  · exact ⟨hh2, fun hf => by have := h2 i hf; omega, by have := h3.size; omega⟩
theorem Bq.below (h : Bq d j t m u x Z w0 C M N Q V) (hb : Below V.heap.size V V') : Bq d j t m u x Z w0 C M N Q V' := h.go (Chg.of_below hb) (fun i hi => .inl hi)
theorem Bq.call {f : FuncId} {args : Array Value} {P : Ending → Prop} (h : Bq d j t m u x Z w0 C M N Q V) (hT : TabZ w0) (hc : ∀ F, (∀ i, F i → w0.2 i ∨ w0.1.heap.size ≤ i) → TabZ (V, F) → Bz d j t m u x Z (V, F) C M N V → Calls Tryz.prog f args V fun e w' => P e ∧ Bz d j t m u x Z' (V, F) C' M' N' w') :
    Calls Tryz.prog f args V fun e w' => P e ∧ Bq d j t m u x Z' w0 C' M' N' Q w' ∧ (∀ i, Q i → w'.heap[i]? = V.heap[i]?) ∧ V.heap.size ≤ w'.heap.size := by
  obtain ⟨F, h1, h2, h3, h4, h5⟩ := h
  refine (hc F h1 (fun V2 hV => hT V2 (h3.trans hV h1)) (h4 V (fun _ _ => rfl))).mono fun e w' ⟨hp, hb⟩ => ⟨hp, ?_, ?_, hb.chg.size⟩
  · obtain ⟨F', k1, k2, k3⟩ := bz_freshF hb
    have hcg := hb.chg
    have hs := hcg.size
    refine ⟨F', fun i hi => ?_, k2, h3.trans hcg h1, k3, fun i hi => ⟨Nat.lt_of_lt_of_le (h5 i hi).1 hs, fun hf => ?_, (h5 i hi).2.2⟩⟩
    · rcases k1 i hi with hh | hh
      · exact h1 i hh
      · exact .inr (Nat.le_trans h3.size hh)
    · rcases k1 i hf with hh | hh
      · exact (h5 i hi).2.1 hh
      · have := (h5 i hi).1
        have hh : V.heap.size ≤ i := hh
        omega
  · intro i hi
    exact hb.chg.block i (h5 i hi).1 (h5 i hi).2.1
end
set_option maxRecDepth 100000 in
theorem joinZ_nil (w : World) : Calls Tryz.prog 69 #[.slice none 0 0] w fun e w' => e = .returned (.string ⟨#[]⟩) ∧ Below w.heap.size w w' := by
  go_enter Tryz.func69, Tryz.ntmps69
  go_wp2
  go_ret
  exact ⟨rfl, Below.refl _ _⟩
theorem joinZ_any {B n : Nat} {v : Value} {xs : List ByteArray} (w : World) (hxl : xs.length ≤ 140737488355328) (h : w.ownsRow B 9 1 v n (xs.map sv)) (hlen : (cat xs).size ≤ 140737488355328) :
    Calls Tryz.prog 69 #[v] w fun e w' => e = .returned (.string (cat xs)) ∧ Below w.heap.size w w' := by
  have hl : xs.length = n := by
    have := h.1
    simpa using this
  have hT : Texts w B v xs := own_toT h hl
  obtain ⟨a, c, rfl, hs, hnc, hcm⟩ := hT.form
  rcases hs.2 with h0 | ⟨b, off, rfl, hb, hc⟩
  · obtain rfl : xs = [] := List.eq_nil_of_length_eq_zero h0
    rcases h.2 with ⟨e, _⟩ | ⟨g, cap, cur, e, hg, hh, _⟩
    · injection e with e1 e2 e3
      subst e1 e3
      exact joinZ_nil w
    · injection e with e1 e2 e3
      subst e1
      exact join_any g 0 c [] w (fun j x hx => by cases hx) (Array.getElem?_eq_some_iff.1 hh).1 (Nat.zero_le _) hnc hlen
  · exact join_any b off c xs w hc hb hxl hnc hlen
end Go.Proofs.YtdkgkomjbpggeaaGreatDoor.Az
