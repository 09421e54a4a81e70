/- For WireBack: what is written item by item, and how the readers take it back. -/
import Derived.SizedLaws
import Derived.Test.YtjoafblfloceeaaJoin
namespace Go.Proofs.Ytjoafblfloceeaa.wireBack
open Go.RowKit Wm Wr
set_option linter.unusedVariables false

/-- The number and the text of item k. -/
def nn (zs : List Int) (k : Nat) : Int := zs.getD k 0
def tx (ss : List ByteArray) (k : Nat) : ByteArray := ss.getD k ⟨#[]⟩
/-- What is written of the first k items. -/
def E (zs : List Int) (ss : List ByteArray) : Nat → ByteArray
  | 0 => ⟨#[]⟩
  | k + 1 => cat [E zs ss k, vs (zz (nn zs k)), us (nn zs k), ts (tx ss k)]
/-- The bytes of a number from 0 on; none of another. -/
def ub (n : Int) : List UInt8 := if n < 0 then [] else vb n.toNat
/-- What is written of m items from item k on. -/
def dl (zs : List Int) (ss : List ByteArray) (k : Nat) : Nat → List UInt8
  | 0 => []
  | m + 1 => vb (zz (nn zs k)) ++ (ub (nn zs k) ++ (vb (tx ss k).size ++ ((tx ss k).data.toList ++ dl zs ss (k + 1) m)))

theorem us_list (n : Int) : (us n).data.toList = ub n := by
  unfold us ub
  split
  · rfl
  · exact vs_list _
theorem ts_list (t : ByteArray) : (ts t).data.toList = vb t.size ++ t.data.toList := by
  rw [ts, ByteArray.data_append, Array.toList_append, vs_list]
theorem E_list (zs : List Int) (ss : List ByteArray) (k : Nat) : (E zs ss (k + 1)).data.toList = (E zs ss k).data.toList ++ (vb (zz (nn zs k)) ++ (ub (nn zs k) ++ (vb (tx ss k).size ++ (tx ss k).data.toList))) := by
  rw [E, cat]
  simp only [List.map_cons, List.map_nil, List.flatten_cons, List.flatten_nil, List.append_nil, us_list, ts_list, vs_list]
theorem E_dl (zs : List Int) (ss : List ByteArray) : ∀ (m k : Nat), (E zs ss k).data.toList ++ dl zs ss k m = (E zs ss (k + m)).data.toList
  | 0, k => by rw [dl, List.append_nil]; rfl
  | m + 1, k => by
    have h := E_dl zs ss m (k + 1)
    rw [show k + 1 + m = k + (m + 1) by omega] at h
    rw [← h, E_list, dl]
    simp only [List.append_assoc]
theorem E_all (zs : List Int) (ss : List ByteArray) (n : Nat) : E zs ss n = ⟨(dl zs ss 0 n).toArray⟩ := by
  apply ByteArray.ext
  apply Array.toList_inj.1
  have h := E_dl zs ss n 0
  rw [Nat.zero_add] at h
  rw [← h]
  rfl

theorem us_le (n : Int) (h : n ≤ 9223372036854775807) : (us n).size ≤ 10 := by
  unfold us
  split
  · exact Nat.zero_le _
  · exact vs_le (by omega)
theorem E_size (zs : List Int) (ss : List ByteArray) (T : Nat) (hT : ∀ k, (tx ss k).size ≤ T) (hT2 : T ≤ 1048576) (hz : ∀ k, -9223372036854775808 ≤ nn zs k ∧ nn zs k ≤ 9223372036854775807) : ∀ k, (E zs ss k).size ≤ k * (T + 30)
  | 0 => Nat.zero_le _
  | k + 1 => by
    have ih := E_size zs ss T hT hT2 hz k
    have h1 := vs_le (zz_lt (hz k).1 (hz k).2)
    have h2 := us_le (nn zs k) (hz k).2
    have h3 := hT k
    have h4 : (ts (tx ss k)).size ≤ 10 + (tx ss k).size := by
      rw [ts, ByteArray.size_append]
      have := vs_le (x := (tx ss k).size) (by omega)
      omega
    have e : (E zs ss (k + 1)).size = (E zs ss k).size + (vs (zz (nn zs k))).size + (us (nn zs k)).size + (ts (tx ss k)).size := by
      rw [E, cat_size]
      simp
      omega
    rw [e, Nat.succ_mul]
    omega
theorem tx_le (ss : List ByteArray) (k : Nat) : (tx ss k).size ≤ (cat ss).size := by
  rw [cat_size, tx]
  induction ss generalizing k with
  | nil => exact Nat.zero_le _
  | cons s ss ih =>
    cases k with
    | zero => simp
    | succ k =>
      have := ih k
      simp only [List.getD_cons_succ, List.map_cons, List.sum_cons]
      omega

/-! ### reading it back -/
theorem mk_size (l : List UInt8) : (⟨l.toArray⟩ : ByteArray).size = l.length := by rw [ByteArray.size, List.size_toArray]
theorem rest_of (p r : List UInt8) : (⟨(p ++ r).toArray⟩ : ByteArray).extract p.length (⟨(p ++ r).toArray⟩ : ByteArray).size = ⟨r.toArray⟩ := by
  apply ByteArray.ext
  rw [ByteArray.data_extract]
  apply Array.toList_inj.1
  simp [ByteArray.size]
theorem rat_rest {w : World} {b n : Nat} {p r : List UInt8} (hn : p.length = n) (h : Rat w b ((⟨(p ++ r).toArray⟩ : ByteArray).extract n (⟨(p ++ r).toArray⟩ : ByteArray).size)) : Rat w b ⟨r.toArray⟩ := by
  subst hn
  rw [rest_of] at h
  exact h

theorem int_back (b : Nat) (n : Int) (r : List UInt8) (w : World) (h1 : -9223372036854775808 ≤ n) (h2 : n ≤ 9223372036854775807) (h : Rat w b ⟨(vb (zz n) ++ r).toArray⟩) (hs : (vb (zz n) ++ r).length ≤ maxLen) :
    Calls Try.prog 19 #[.pointer (some ⟨b, 0, none⟩)] w fun e w' => e = .returned (.tuple #[.int .i64 n, .int .i64 0]) ∧ Rat w' b ⟨r.toArray⟩ ∧ w.grownBy w' (some b) := by
  have c := int_any b _ w h (by rw [mk_size]; exact hs)
  have e := rd_vb (zz n) r (zz_lt h1 h2)
  simp only [e] at c
  rw [uz_zz] at c
  exact c.mono fun _ _ ⟨he, hr, hg⟩ => ⟨he, rat_rest rfl hr, hg⟩
theorem rdU_vb (x : Nat) (r : List UInt8) (h : x ≤ 9223372036854775807) : rdU (vb x ++ r) = (x, (vb x).length, 0) := by
  rw [rdU, rd_vb x r (by omega), if_neg]
  rintro ⟨_, h2⟩
  simp only at h2
  omega
theorem uint_back (b : Nat) (n : Int) (r : List UInt8) (w : World) (h1 : 0 ≤ n) (h2 : n ≤ 9223372036854775807) (h : Rat w b ⟨(ub n ++ r).toArray⟩) (hs : (ub n ++ r).length ≤ maxLen) :
    Calls Try.prog 20 #[.pointer (some ⟨b, 0, none⟩)] w fun e w' => e = .returned (.tuple #[.int .i64 n, .int .i64 0]) ∧ Rat w' b ⟨r.toArray⟩ ∧ w.grownBy w' (some b) := by
  rw [ub, if_neg (by omega)] at h hs
  have c := uint_any b _ w h (by rw [mk_size]; exact hs)
  have e := rdU_vb n.toNat r (by omega)
  simp only [e] at c
  rw [Int.toNat_of_nonneg h1] at c
  exact c.mono fun _ _ ⟨he, hr, hg⟩ => ⟨he, rat_rest rfl hr, hg⟩
theorem text_back (b : Nat) (t : ByteArray) (r : List UInt8) (w : World) (h2 : t.size ≤ 9223372036854775807) (h : Rat w b ⟨(vb t.size ++ (t.data.toList ++ r)).toArray⟩) (hs : (vb t.size ++ (t.data.toList ++ r)).length ≤ maxLen) :
    Calls Try.prog 21 #[.pointer (some ⟨b, 0, none⟩)] w fun e w' => e = .returned (.tuple #[.string t, .int .i64 0]) ∧ Rat w' b ⟨r.toArray⟩ ∧ w.grownBy w' (some b) := by
  have c := text_any b _ w h (by rw [mk_size]; exact hs)
  have e : rdU (⟨(vb t.size ++ (t.data.toList ++ r)).toArray⟩ : ByteArray).data.toList = (t.size, (vb t.size).length, 0) := rdU_vb t.size _ h2
  have e2 : rdT ⟨(vb t.size ++ (t.data.toList ++ r)).toArray⟩ = (t, (vb t.size).length + t.size, 0) := by
    rw [rdT, e]
    have hlen : (⟨(vb t.size ++ (t.data.toList ++ r)).toArray⟩ : ByteArray).size = (vb t.size).length + (t.size + r.length) := by
      rw [mk_size, List.length_append, List.length_append, len_l]
    rw [if_neg (fun h => h rfl), if_neg (by rw [hlen]; show ¬ _ < (vb t.size).length + t.size; omega)]
    congr 1
    apply ByteArray.ext
    rw [ByteArray.data_extract]
    apply Array.toList_inj.1
    rw [← len_l t]
    simp
  simp only [e2] at c
  have hp : (vb t.size ++ t.data.toList).length = (vb t.size).length + t.size := by rw [List.length_append, len_l]
  refine c.mono fun _ _ ⟨he, hr, hg⟩ => ⟨he, ?_, hg⟩
  rw [← List.append_assoc] at hr
  exact rat_rest hp hr

end Go.Proofs.Ytjoafblfloceeaa.wireBack
