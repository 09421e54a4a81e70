/- What the document's own Scan answers: contract; lists of texts of one's own. -/
import Derived.Test.YtihbibhmkpefgaaFRef
import Derived.Deep.AppendLies
namespace Go.Proofs.Ytihbibhmkpefgaa.Fr
open Go.RowKit Wm Wr Fm
set_option linter.unusedVariables false

theorem info9 : (Try.prog.info? 9).map (fun i => (i.zero, i.size, i.bytes)) = some (some (.string ⟨#[]⟩), 1, 16) := by kernel_rfl
/-- A string as a value. -/
def sv (s : ByteArray) : Value := .string s
theorem sv_one (l : List ByteArray) : ∀ u ∈ l.map sv, u.oneCell' = true := by
  intro u hu
  obtain ⟨s, _, rfl⟩ := List.mem_map.1 hu
  rfl
/-- v is a list of texts of one's own, from block B on. -/
def Texts (w : World) (B : Nat) (v : Value) (l : List ByteArray) : Prop := w.ownsRow B 9 1 v l.length (l.map sv)
theorem Texts.below {w w1 : World} {B : Nat} {v : Value} {l : List ByteArray} (h : Texts w B v l) (hb : Below w.heap.size w w1) : Texts w1 B v l := by
  refine ⟨h.1, ?_⟩
  rcases h.2 with h0 | ⟨g', cap', cur, hv, hg, hh, r⟩
  · exact .inl h0
  · exact .inr ⟨g', cap', cur, hv, hg, (hb.block g' (Array.getElem?_eq_some_iff.1 hh).1).trans hh, r⟩

/-- What Scan comes to. -/
def ScanTo (s : ByteArray) (w : World) (e : Ending) (w' : World) : Prop := ∃ v, e = .returned (.tuple #[v, .int .i64 ((sc s 0).2.1 : Int), .int .i64 ((sc s 0).2.2 : Int)]) ∧ Texts w' w.heap.size v (sc s 0).1 ∧ Below w.heap.size w w'

/-- Behind the texts of pre, at the place a. -/
def Far (s : ByteArray) (pre : List ByteArray) (a : Nat) : Prop := sc s 0 = (pre ++ (sc s a).1, (sc s a).2.1, (sc s a).2.2) ∧ a ≤ s.size ∧ pre.length ≤ a
theorem far_start (s : ByteArray) : Far s [] 0 := ⟨rfl, Nat.zero_le _, Nat.le_refl _⟩
theorem far_step {s t : ByteArray} {pre : List ByteArray} {a n : Nat} (h : Far s pre a) (ha : a < s.size) (h2 : fr (s.extract a s.size) = (t, n, 0)) : Far s (pre ++ [t]) (a + n) := by
  obtain ⟨h1, h3, h4⟩ := h
  have hk := fr_ok h2
  have hs : (s.extract a s.size).size = s.size - a := by simp
  refine ⟨?_, by omega, by rw [List.length_append]; show _ + 1 ≤ _; omega⟩
  rw [h1, sc_one ha h2]
  simp
theorem far_bad {s t : ByteArray} {pre : List ByteArray} {a n e : Nat} (h : Far s pre a) (ha : a < s.size) (h2 : fr (s.extract a s.size) = (t, n, e)) (he : e ≠ 0) : sc s 0 = (pre, a, e) := by
  rw [h.1, sc_bad ha h2 he, List.append_nil]
theorem far_end {s : ByteArray} {pre : List ByteArray} {a : Nat} (h : Far s pre a) (ha : ¬ a < s.size) : sc s 0 = (pre, a, 0) := by
  rw [h.1, sc_end ha, List.append_nil]

theorem ret3v {v : Value} {x y x' y' : Int} (h1 : x = x') (h2 : y = y') : Ending.returned (.tuple #[v, .int .i64 x, .int .i64 y]) = .returned (.tuple #[v, .int .i64 x', .int .i64 y']) := by rw [h1, h2]

set_option maxRecDepth 100000 in
set_option maxHeartbeats 1000000 in
theorem refScan_any (s : ByteArray) (w : World) (hs : s.size ≤ 8796093022207) :
    Calls Try.prog 18 #[.string s] w (ScanTo s w) := by
  obtain ⟨i0, hi, hz0, hz1, hz2⟩ := info_parts info9
  go_enter Try.func18, Try.ntmps18
  go_wp2_with fail
  go_loopw [5, 6] (fun v i wr => ∃ (pre : List ByteArray) (a : Nat), i = .int .i64 a ∧ Far s pre a ∧ Texts wr w.heap.size v pre ∧ Below w.heap.size w wr) (fun _ i _ => s.size - (intOf i).toNat)
  case atStart => exact ⟨[], 0, rfl, far_start s, World.ownsRow_nil _ _ _ _, Below.refl _ _⟩
  case round =>
    obtain ⟨pre, a, rfl, hfar, htx, hb⟩ := hrel
    have ha := hfar.2.1
    have hp := hfar.2.2
    have hsz := hb.size
    by_cases hlt : a < s.size
    · obtain ⟨t, n, e, h2⟩ := trip (fr (s.extract a s.size))
      have c := refRead_any (s.extract a s.size) wr (by simp; omega)
      rw [h2] at c
      simp only at c
      have ha' : (a : Int) ≤ s.size := by omega
      by_cases he : e = 0
      · subst he
        have hfar' := far_step hfar hlt h2
        have hn := (fr_ok h2).2.1
        have ha2 := hfar'.2.1
        have HF := Lib.hid hfar'
        clear hfar hfar' h2
        go_wp2_with fail
        go_at_call 16
        refine c.mono ?_
        rintro e w1 ⟨rfl, hb1⟩
        have htx1 := htx.below hb1
        have hb2 := below_call hb hb1
        have hsz2 := hb2.size
        have hown := htx1
        unfold Texts at hown
        clear htx htx1 hb1 hb c
        go_wp2_with (at_builtin; refine wpList_append_own _ rfl _ _ 33 rfl w.heap.size 9 i0 (.string ⟨#[]⟩) 1 16 Try.underlying33 hi hz0 hz1 hz2 rfl (by decide) _ _ _ rfl (hown.alloc _) ⟨w1.heap.size, 0, none⟩ 1 1 [sv t] rfl rfl ?c1 ?c2 ?c3 ?c4 ?c5 ?_)
        case c1 => exact cell_one_new _ _ _
        case c2 => exact sv_one [t]
        case c3 => unfold maxLen; omega
        case c4 => omega
        case c5 => simp; omega
        intro v' w2 hown' hgrow _
        have hb3 := below_step hb2 hown hgrow
        have htx2 : Texts w2 w.heap.size v' (pre ++ [t]) := by
          unfold Texts
          rw [List.length_append, List.map_append]
          exact hown'
        clear hown hown' hgrow hb2
        go_wp2_with fail
        go_roundw
        case rel => exact ⟨pre ++ [t], a + n, by go_num, HF.out, htx2, hb3⟩
        case measure => simp only [intOf]; omega
      · have hend := far_bad hfar hlt h2 he
        have hne : ((e : Int) == 0) = false := by simp; omega
        have hne' : (!((e : Int) == 0)) = true := by simp; omega
        have HE := Lib.hid hend
        clear hfar h2 hend he
        go_wp2_with fail
        go_at_call 16
        refine c.mono ?_
        rintro e w1 ⟨rfl, hb1⟩
        have htx1 := htx.below hb1
        have hb2 := below_call hb hb1
        clear htx hb hb1 c
        go_wp2_with fail
        go_ret3
        unfold ScanTo
        rw [HE.out]
        exact ⟨_, rfl, htx1, hb2⟩
    · have hend := far_end hfar hlt
      have HE := Lib.hid hend
      clear hfar hend
      go_wp2_with fail
      go_ret3
      unfold ScanTo
      rw [HE.out]
      exact ⟨_, rfl, htx, hb⟩

end Go.Proofs.Ytihbibhmkpefgaa.Fr
