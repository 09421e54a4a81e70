/- What the package's own Scan answers: contract. -/
import Derived.Test.YtihbibhmkpefgaaFScan
import Derived.Test.YtihbibhmkpefgaaFRd
namespace Go.Proofs.Ytihbibhmkpefgaa.Fr
open Go.RowKit Wm Wr Fm
set_option linter.unusedVariables false

set_option maxRecDepth 100000 in
set_option maxHeartbeats 1000000 in
theorem fScan_any (s : ByteArray) (w : World) (hs : s.size ≤ 8796093022207) :
    Calls Try.prog 17 #[.string s] w (ScanTo s w) := by
  obtain ⟨i0, hi, hz0, hz1, hz2⟩ := info_parts info9
  go_enter Try.func17, Try.ntmps17
  go_wp2_with fail
  go_loopw [2, 3, 5, 6, 7] (fun v i _ _ _ wr => ∃ (pre : List ByteArray) (a : Nat), i = .int .i64 a ∧ Far s pre a ∧ Texts wr w.heap.size v pre ∧ Below w.heap.size w wr) (fun _ i _ _ _ _ => s.size - (intOf i).toNat)
  case atStart => exact ⟨[], 0, rfl, far_start s, World.ownsRow_nil _ _ _ _, Below.refl _ _⟩
  case round =>
    obtain ⟨pre, a, rfl, hfar, htx, hb⟩ := hrel
    have ha := hfar.2.1
    have hp := hfar.2.2
    have hsz := hb.size
    by_cases hlt : a < s.size
    · obtain ⟨t, n, e, h2⟩ := trip (fr (s.extract a s.size))
      have c := fRead_any s a wr (by omega) (by omega) (by omega)
      have ha' : (a : Int) ≤ s.size := by omega
      by_cases he : e = 0
      · subst he
        rw [frAt_ok ha h2] at c
        simp only at c
        have hfar' := far_step hfar hlt h2
        have hn := (fr_ok h2).2.1
        have ha2 := hfar'.2.1
        have HF := Lib.hid hfar'
        clear hfar hfar' h2
        go_wp2_with fail
        go_at_call 15
        refine c.mono ?_
        rintro e w1 ⟨rfl, hb1⟩
        have htx1 := htx.below hb1
        have hb2 := below_call hb hb1
        have hsz2 := hb2.size
        have hown := htx1
        unfold Texts at hown
        clear htx htx1 hb1 hb c
        go_wp2_with (at_builtin; refine wpList_append_own _ rfl _ _ 33 rfl w.heap.size 9 i0 (.string ⟨#[]⟩) 1 16 Try.underlying33 hi hz0 hz1 hz2 rfl (by decide) _ _ _ rfl (hown.alloc _) ⟨w1.heap.size, 0, none⟩ 1 1 [sv t] rfl rfl ?c1 ?c2 ?c3 ?c4 ?c5 ?_)
        case c1 => exact cell_one_new _ _ _
        case c2 => exact sv_one [t]
        case c3 => unfold maxLen; omega
        case c4 => omega
        case c5 => simp; omega
        intro v' w2 hown' hgrow _
        have hb3 := below_step hb2 hown hgrow
        have htx2 : Texts w2 w.heap.size v' (pre ++ [t]) := by
          unfold Texts
          rw [List.length_append, List.map_append]
          exact hown'
        clear hown hown' hgrow hb2
        go_wp2_with fail
        go_roundw
        case rel => exact ⟨pre ++ [t], a + n, by go_num, HF.out, htx2, hb3⟩
        case measure => simp only [intOf]; omega
      · have hend := far_bad hfar hlt h2 he
        rw [frAt_bad ha h2 he] at c
        have hne : ((e : Int) == 0) = false := by simp; omega
        have hne' : (!((e : Int) == 0)) = true := by simp; omega
        have HE := Lib.hid hend
        clear hfar h2 hend he
        go_wp2_with fail
        go_at_call 15
        refine c.mono ?_
        rintro e w1 ⟨rfl, hb1⟩
        have htx1 := htx.below hb1
        have hb2 := below_call hb hb1
        clear htx hb hb1 c
        go_wp2_with fail
        go_ret3
        unfold ScanTo
        rw [HE.out]
        exact ⟨_, rfl, htx1, hb2⟩
    · have hend := far_end hfar hlt
      have HE := Lib.hid hend
      clear hfar hend
      go_wp2_with fail
      go_ret3
      unfold ScanTo
      rw [HE.out]
      exact ⟨_, rfl, htx, hb⟩

end Go.Proofs.Ytihbibhmkpefgaa.Fr
