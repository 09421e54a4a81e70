/- What the document's own functions of paths answer: contracts. -/
import Derived.Test.YthokkobmlhbfgaaPMath
import Derived.Test.YthokkobmlhbfgaaTexts
namespace Go.Proofs.Ythokkobmlhbfgaa.Pr
open Go.RowKit Pm Tx
set_option linter.unusedVariables false

/-- What Split answers. -/
def SplitTo (p : ByteArray) (w : World) (e : Ending) (w' : World) : Prop := ∃ v, e = .returned v ∧ Texts w' w.heap.size v ((spl p.data.toList).map tb) ∧ Below w.heap.size w w'
/-- Of k bytes the texts out are whole, and one has begun. -/
def At (p : ByteArray) (k : Nat) (out : List ByteArray) (one : ByteArray) : Prop := (spl p.data.toList).map tb = out ++ (glue one.data.toList (spl (p.data.toList.drop k))).map tb ∧ out.length + one.size ≤ k
theorem at_start (p : ByteArray) : At p 0 [] ⟨#[]⟩ := by
  refine ⟨?_, Nat.le_refl _⟩
  rw [List.drop_zero, List.nil_append]
  congr 1
  exact (glue_nil (spl_ne _)).symm
theorem drop_at (p : ByteArray) (k : Nat) (h : k < p.size) : p.data.toList.drop k = p[k] :: p.data.toList.drop (k + 1) := by
  have h' : k < p.data.toList.length := by rw [len_l]; exact h
  rw [List.drop_eq_getElem_cons h']
  rfl
theorem at_cut {p one : ByteArray} {k : Nat} {out : List ByteArray} (h : At p k out one) (hk : k < p.size) (hc : p[k].toNat = 47) : At p (k + 1) (out ++ [one]) ⟨#[]⟩ := by
  have e : p[k] = 47 := UInt8.toNat_inj.1 hc
  obtain ⟨h1, h2⟩ := h
  refine ⟨?_, by rw [List.length_append]; show _ + 1 + 0 ≤ _; omega⟩
  rw [h1, drop_at p k hk, e, glue_cut]
  have e2 : (glue (ByteArray.mk #[]).data.toList (spl (p.data.toList.drop (k + 1)))) = spl (p.data.toList.drop (k + 1)) := glue_nil (spl_ne _)
  rw [e2, List.map_cons, tb_of, List.append_assoc]
  rfl
theorem at_more {p one : ByteArray} {k : Nat} {out : List ByteArray} (h : At p k out one) (hk : k < p.size) (hc : p[k].toNat ≠ 47) : At p (k + 1) out (one ++ p.extract k (k + 1)) := by
  have e : p[k] ≠ 47 := fun e => hc (by rw [e]; rfl)
  obtain ⟨h1, h2⟩ := h
  have e2 : (p.extract k (k + 1)).data.toList = [p[k]] := by
    rw [ByteArray.data_extract, Array.toList_extract, List.extract_eq_take_drop, drop_at p k hk]
    simp
  refine ⟨?_, ?_⟩
  · rw [h1, drop_at p k hk, glue_step _ _ _ e, ByteArray.data_append, Array.toList_append, e2]
  · rw [ByteArray.size_append, ← len_l (p.extract k (k + 1)), e2]
    show _ + (_ + 1) ≤ _
    omega
theorem at_end {p one : ByteArray} {k : Nat} {out : List ByteArray} (h : At p k out one) (hk : ¬ k < p.size) : (spl p.data.toList).map tb = out ++ [one] := by
  rw [h.1, List.drop_of_length_le (by rw [len_l]; omega)]
  simp [spl, glue, tb_of]

set_option maxRecDepth 100000 in
set_option maxHeartbeats 1000000 in
theorem refSplit_any (p : ByteArray) (w : World) (hs : p.size ≤ 8796093022207) :
    Calls Try.prog 51 #[.string p] w (SplitTo p w) := by
  obtain ⟨i0, hi, hz0, hz1, hz2⟩ := info_parts info9
  go_enter Try.func51, Try.ntmps51
  go_wp2_with fail
  go_loopw [3, 4, 5] (fun v o i wr => ∃ (k : Nat) (out : List ByteArray) (one : ByteArray), k ≤ p.size ∧ i = .int .i64 k ∧ o = .string one ∧ Hid (At p k out one) ∧ Texts wr w.heap.size v out ∧ Below w.heap.size w wr) (fun _ _ i _ => p.size - (intOf i).toNat)
  case atStart => exact ⟨0, [], ⟨#[]⟩, Nat.zero_le _, rfl, rfl, at_start p, World.ownsRow_nil _ _ _ _, Below.refl _ _⟩
  case round =>
    obtain ⟨k, out, one, hk, rfl, rfl, hat, htx, hb⟩ := hrel
    have hlen := hat.out.2
    have hsz := hb.size
    have hown := htx
    unfold Texts at hown
    by_cases hlt : k < p.size
    · by_cases hc : p[k].toNat = 47
      · have hat' := Lib.hid (at_cut hat.out hlt hc)
        have hc' : ((p[k].toNat : Int) == 47) = true := by simp [hc]
        clear hc htx
        go_wp2_with (at_builtin; refine wpList_append_own _ rfl _ _ 36 rfl w.heap.size 9 i0 (.string ⟨#[]⟩) 1 16 Try.underlying36 hi hz0 hz1 hz2 rfl (by decide) _ _ _ rfl (hown.alloc _) ⟨wr.heap.size, 0, none⟩ 1 1 [sv one] rfl rfl ?c1 ?c2 ?c3 ?c4 ?c5 ?_)
        case c1 => exact cell_one_new _ _ _
        case c2 => exact sv_one [one]
        case c3 => unfold maxLen; omega
        case c4 => omega
        case c5 => simp; omega
        intro v' w2 hown' hgrow _
        have hb3 := below_step hb hown hgrow
        have htx2 : Texts w2 w.heap.size v' (out ++ [one]) := by
          unfold Texts
          rw [List.length_append, List.map_append]
          exact hown'
        clear hown hown' hgrow hb
        go_wp2_with fail
        go_roundw
        case rel => exact ⟨k + 1, out ++ [one], ⟨#[]⟩, by omega, by go_num, rfl, hat', htx2, hb3⟩
        case measure => simp [intOf]; omega
      · have hat' := Lib.hid (at_more hat.out hlt hc)
        have hc' : ((p[k].toNat : Int) == 47) = false := beq_eq_false_iff_ne.2 (by omega)
        have hes : (p.extract k (k + 1)).size ≤ 1 := by simp; omega
        clear hc hown
        go_wp2_with fail
        go_roundw
        case rel => exact ⟨k + 1, out, _, by omega, by go_num, rfl, hat', htx, hb⟩
        case measure => simp [intOf]; omega
    · have hend := Lib.hid (at_end hat.out hlt)
      clear htx
      go_wp2_with (at_builtin; refine wpList_append_own _ rfl _ _ 36 rfl w.heap.size 9 i0 (.string ⟨#[]⟩) 1 16 Try.underlying36 hi hz0 hz1 hz2 rfl (by decide) _ _ _ rfl (hown.alloc _) ⟨wr.heap.size, 0, none⟩ 1 1 [sv one] rfl rfl ?c1 ?c2 ?c3 ?c4 ?c5 ?_)
      case c1 => exact cell_one_new _ _ _
      case c2 => exact sv_one [one]
      case c3 => unfold maxLen; omega
      case c4 => omega
      case c5 => simp; omega
      intro v' w2 hown' hgrow _
      have hb3 := below_step hb hown hgrow
      have htx2 : Texts w2 w.heap.size v' (out ++ [one]) := by
        unfold Texts
        rw [List.length_append, List.map_append]
        exact hown'
      clear hown hown' hgrow hb
      go_wp2_with fail
      go_ret
      unfold SplitTo
      rw [hend.out]
      exact ⟨_, rfl, htx2, hb3⟩

end Go.Proofs.Ythokkobmlhbfgaa.Pr
