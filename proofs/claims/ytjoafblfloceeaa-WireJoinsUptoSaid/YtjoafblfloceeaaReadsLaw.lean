/-
  WireReads: for all strings a and b and every list of ints: two readers over a and b, called in turns as the list says, answer at every call what the document's own readers answer: the law returns true, and writes nothing that was there. No condition.
-/
import Derived.Test.YtjoafblfloceeaaReads
import Derived.ProofKit
import Derived.OpenShut
import Derived.ShutString
import Derived.ChangeOld
import Derived.Below
namespace Go.Proofs.Ytjoafblfloceeaa.wireReads
open Go.ChangeMaps (open_string shut_string)
open Go.ChangeShapes Go.WideShapes Go.ChangeAt Go.RowKit Wm Wr
set_option linter.unusedVariables false

theorem own : ownKnob Try.prog.godebug = none := by kernel_rfl
theorem laidOut : laidOutB Try.prog = true := by kernel_rfl

theorem rat_lt {w : World} {b : Nat} {s : ByteArray} (h : Rat w b s) : b < w.heap.size := World.block_lt_of_cell? w ⟨b, 0, none⟩ h.1
theorem rat_below {w w1 : World} {b B : Nat} {s : ByteArray} (h : Rat w b s) (hb : Below B w w1) (hB : b < B) : Rat w1 b s :=
  ⟨(hb.cell (p := ⟨b, 0, none⟩) hB).trans h.1, (hb.frozen (p := ⟨b, 0, none⟩) hB).trans h.2⟩
theorem rat_other {w w1 : World} {b c : Nat} {s : ByteArray} (h : Rat w b s) (hg : w.grownBy w1 (some c)) (hne : b ≠ c) : Rat w1 b s := by
  have hk := hg.block b (rat_lt h) (fun e => hne (by injection e))
  exact ⟨(World.cell?_of_block (a := ⟨b, 0, none⟩) hk).trans h.1, (World.frozen?_of_block (a := ⟨b, 0, none⟩) hk).trans h.2⟩
theorem rat_alloc {w : World} {b : Nat} {s : ByteArray} (h : Rat w b s) (o : Obj) : Rat (w.alloc o) b s :=
  rat_below h (Below.refl w.heap.size w |>.alloc (Nat.le_refl _) o) (rat_lt h)

theorem below_new2 {w wa : World} {o p : Obj} (h : Below ((w.alloc o).alloc p).heap.size ((w.alloc o).alloc p) wa) : Below w.heap.size w wa :=
  (((Below.refl _ _).alloc (Nat.le_refl _) o).alloc (by simp) p).trans (h.mono (by simp; omega))

theorem add_plain (b o i : Nat) : (⟨b, o, none⟩ : Addr).add i = ⟨b, o + i, none⟩ := by unfold Addr.add; split <;> simp_all

/-- The numbers of a slice that came in, nil or not. -/
def IsRow (w : World) (a : Option Addr) (len : Nat) (zs : List Int) : Prop :=
  len = 0 ∨ ∃ b off, a = some ⟨b, off, none⟩ ∧ ∀ i, i < len → w.cell? ⟨b, off + i, none⟩ = some (.int .i64 (zs.getD i 0))

set_option maxRecDepth 100000 in
set_option maxHeartbeats 1000000 in
theorem walk (a b : ByteArray) (s0 : Option Addr) (len cap : Nat) (zs : List Int) (w : World) (ha : a.size ≤ maxLen) (hb : b.size ≤ maxLen) (hl : len ≤ 9223372036854775807) (hrow : IsRow w s0 len zs) :
    Calls Try.prog 5 #[.string a, .string b, .slice s0 len cap] w fun e w' => e = .returned (.bool true) ∧ Below w.heap.size w w' := by
  have cn := fun s W => new_any s W
  have r1 := rat_alloc (rat_new w a) (.cells #[.string b] 53)
  have r2 := rat_new (w.alloc (.cells #[.string a] 53)) b
  simp only [World.size_alloc] at r2
  rcases hrow with rfl | ⟨bs, off, rfl, hc⟩
  · go_enter Try.func5, Try.ntmps5
    go_wp2_with (first
      | (go_at_call 17; refine (cn _ _).mono ?_; rintro e w2 ⟨rfl, rfl⟩)
      | (go_at_call 11; refine (awake_any _).mono ?_; rintro e wa ⟨rfl, hba⟩))
    have hsz : w.heap.size + 2 ≤ wa.heap.size := by have := hba.size; simp at this; omega
    have hB0 : Below w.heap.size w wa := below_new2 hba
    have R1 : Rat wa w.heap.size a := rat_below r1 hba (by rw [World.size_alloc, World.size_alloc]; omega)
    have R2 : Rat wa (w.heap.size + 1) b := rat_below r2 hba (by rw [World.size_alloc, World.size_alloc]; omega)
    clear cn r1 r2 hba
    go_loopw [0, 1, 9] (fun x y i wr => ∃ (k : Nat) (sa sb : ByteArray), k ≤ 0 ∧ i = .int .i64 k ∧ x = .string sa ∧ y = .string sb ∧ sa.size ≤ maxLen ∧ sb.size ≤ maxLen ∧ Rat wr w.heap.size sa ∧ Rat wr (w.heap.size + 1) sb ∧ Below w.heap.size w wr ∧ w.heap.size + 2 ≤ wr.heap.size) (fun _ _ i _ => 0 - (intOf i).toNat)
    case atStart => exact ⟨0, a, b, Nat.zero_le _, rfl, rfl, rfl, ha, hb, R1, R2, hB0, hsz⟩
    case round =>
      obtain ⟨k, sa, sb, hk, rfl, rfl, rfl, hsa, hsb, hRa, hRb, hB, hwr⟩ := hrel
      clear R1 R2 hB0 hsz
      by_cases hlt : k < 0
      · exact absurd hlt (by omega)
      · have hread := reads_any w.heap.size sa 4 wr hRa hsa
        go_wp2_with fail
        go_at_call 18
        refine hread.mono ?_
        rintro e w1 ⟨t, rfl, ht, hR1, hg1⟩
        have hR2 := rat_other hRb hg1 (by omega)
        go_wp2_with fail
        go_at_call 18
        refine (reads_any (w.heap.size + 1) sb 5 w1 hR2 hsb).mono ?_
        rintro e w2 ⟨t2, rfl, ht2, hR3, hg2⟩
        go_wp2_with fail
        go_ret
        exact ⟨rfl, below_at (below_at hB hg1 (by omega)) hg2 (by omega)⟩
  · go_enter Try.func5, Try.ntmps5
    go_wp2_with (first
      | (go_at_call 17; refine (cn _ _).mono ?_; rintro e w2 ⟨rfl, rfl⟩)
      | (go_at_call 11; refine (awake_any _).mono ?_; rintro e wa ⟨rfl, hba⟩))
    have hsz : w.heap.size + 2 ≤ wa.heap.size := by have := hba.size; simp at this; omega
    have hB0 : Below w.heap.size w wa := below_new2 hba
    have R1 : Rat wa w.heap.size a := rat_below r1 hba (by rw [World.size_alloc, World.size_alloc]; omega)
    have R2 : Rat wa (w.heap.size + 1) b := rat_below r2 hba (by rw [World.size_alloc, World.size_alloc]; omega)
    clear cn r1 r2 hba
    go_loopw [0, 1, 9] (fun x y i wr => ∃ (k : Nat) (sa sb : ByteArray), k ≤ len ∧ i = .int .i64 k ∧ x = .string sa ∧ y = .string sb ∧ sa.size ≤ maxLen ∧ sb.size ≤ maxLen ∧ Rat wr w.heap.size sa ∧ Rat wr (w.heap.size + 1) sb ∧ Below w.heap.size w wr ∧ w.heap.size + 2 ≤ wr.heap.size) (fun _ _ i _ => len - (intOf i).toNat)
    case atStart => exact ⟨0, a, b, Nat.zero_le _, rfl, rfl, rfl, ha, hb, R1, R2, hB0, hsz⟩
    case round =>
      obtain ⟨k, sa, sb, hk, rfl, rfl, rfl, hsa, hsb, hRa, hRb, hB, hwr⟩ := hrel
      clear R1 R2 hB0 hsz
      by_cases hlt : k < len
      · have hcell : wr.cell? ⟨bs, off + k, none⟩ = some (.int .i64 (zs.getD k 0)) := (hB.cell (p := ⟨bs, off + k, none⟩) (World.block_lt_of_cell? w _ (hc k hlt))).trans (hc k hlt)
        by_cases hm : (k : Int) % 3 = 2
        · have hm' : ((k : Int) % 3 == 2) = true := by simp [hm]
          have hread := reads_any (w.heap.size + 1) sb (zs.getD k 0) wr hRb hsb
          clear hm
          go_wp2_with (go_at_call 18; refine hread.mono ?_; rintro e w1 ⟨t, rfl, ht, hR1, hg1⟩)
          go_roundw
          case rel => exact ⟨k + 1, sa, t, by omega, by go_num, rfl, rfl, hsa, Nat.le_trans ht hsb, rat_other hRa hg1 (by omega), hR1, below_at hB hg1 (by omega), Nat.le_trans hwr hg1.size⟩
          case measure => simp [intOf]; omega
        · have hm' : ((k : Int) % 3 == 2) = false := by simp [hm]
          have hread := reads_any w.heap.size sa (zs.getD k 0) wr hRa hsa
          clear hm
          go_wp2_with (go_at_call 18; refine hread.mono ?_; rintro e w1 ⟨t, rfl, ht, hR1, hg1⟩)
          go_roundw
          case rel => exact ⟨k + 1, t, sb, by omega, by go_num, rfl, rfl, Nat.le_trans ht hsa, hsb, hR1, rat_other hRb hg1 (by omega), below_at hB hg1 (by omega), Nat.le_trans hwr hg1.size⟩
          case measure => simp [intOf]; omega
      · have hread := reads_any w.heap.size sa 4 wr hRa hsa
        go_wp2_with fail
        go_at_call 18
        refine hread.mono ?_
        rintro e w1 ⟨t, rfl, ht, hR1, hg1⟩
        have hR2 := rat_other hRb hg1 (by omega)
        go_wp2_with fail
        go_at_call 18
        refine (reads_any (w.heap.size + 1) sb 5 w1 hR2 hsb).mono ?_
        rintro e w2 ⟨t2, rfl, ht2, hR3, hg2⟩
        go_wp2_with fail
        go_ret
        exact ⟨rfl, below_at (below_at hB hg1 (by omega)) hg2 (by omega)⟩

set_option maxRecDepth 100000 in
theorem lifted (os : Os) (started : os.Started) (H : Type) (enc : TypeId × Value → H) :
    ReturnsInHanded {} Try.checked os 5 .any (Rows.wireReadsSpec.pre6 enc Try.prog Try.f5 Rows.wireReadsRow.domain false) (Rows.wireReadsSpec.post enc Try.prog Try.f5 false true false false) := by
  refine returnsInHanded_of_change (C := Try.checked) own started (by kernel_rfl) Try.func5
    (ChangeSpec.witness6 (enc := enc) (C := Try.checked) false ⟨#[], #[.string ByteArray.empty, .string ByteArray.empty, .slice none 0 0], []⟩ 8 (by kernel_rfl) (by kernel_rfl) (by kernel_rfl) (by kernel_rfl)) ?_
  intro W base args ds gs before hval0 hW hcnd _
  have hval : ∀ (j : Nat) t v, Try.f5.params[j]? = some t → args[j]? = some v → Value.okWide Try.prog W .any base t v := hval0
  have hW' := hW
  obtain ⟨p, q, hA0, hV, rfl, hfz, hnd⟩ := hW
  have hA : DataW.TrodAll enc Try.prog W 0 (fun _ => true) true Try.f5.params.toList args.toList ds p := hA0
  rw [Try.params5] at hA hval
  obtain ⟨v0, vs0, d0, ds0, p0, q0, hargs, rfl, rfl, h0, r0⟩ := trodAll_cons hA
  obtain ⟨v1, vs1, d1, ds1, p1, q1, rfl, rfl, rfl, h1, r1⟩ := trodAll_cons r0
  obtain ⟨v2, vs2, d2, ds2, p2, q2, rfl, rfl, rfl, h2, r2⟩ := trodAll_cons r1
  obtain ⟨rfl, rfl, rfl⟩ := trodAll_nil r2
  obtain rfl : args = #[v0, v1, v2] := by cases args; simp_all
  obtain ⟨rfl, rfl⟩ := trodVars_none hV
  obtain ⟨a, rfl, rfl, rfl, w0⟩ := open_string Try.underlying9 (hval 0 9 v0 rfl rfl) h0
  obtain ⟨b, rfl, rfl, rfl, w1⟩ := open_string Try.underlying9 (hval 1 9 v1 rfl rfl) h1
  obtain ⟨s0, len, cap, rfl⟩ := okWide_slice Try.underlying34 (hval 2 34 v2 rfl rfl)
  have k2 := h2
  have lt2 : ∀ x ∈ p2, x.block < W.heap.size := by obtain ⟨m, hm⟩ := k2; exact DataW.trod_lt m _ _ _ hm
  obtain ⟨zs, hrow, hl⟩ : ∃ zs, IsRow W s0 len zs ∧ len ≤ 9223372036854775807 := by
    obtain ⟨fuel, hf⟩ := h2
    rcases open_ints Try.underlying34 Try.underlying3 (by kernel_rfl) hf with ⟨hcs, _⟩ | ⟨x, l, c, zs, hcs, _, hl, hm, hz, _, hcell, hwz⟩
    · simp [Value.cells] at hcs
      obtain ⟨rfl, rfl, rfl⟩ := hcs
      exact ⟨[], .inl rfl, by omega⟩
    · simp [Value.cells] at hcs
      obtain ⟨rfl, rfl, rfl⟩ := hcs
      unfold maxLen at hm
      have hz' : zs.length = cap := by simpa using hz
      refine ⟨zs, ?_, by omega⟩
      by_cases h0 : len = 0
      · exact .inl h0
      · obtain ⟨bs, off, spot⟩ := x
        have hc := hcell 0 (by omega)
        have hspot : spot = none := by simpa [Addr.add] using World.cell?_spot hc
        subst hspot
        exact .inr ⟨bs, off, rfl, fun i hi => by rw [← add_plain]; exact hcell i (by omega)⟩
  clear hA0 hval0
  refine (walk a b s0 len cap zs W w0 w1 hl hrow).mono fun e W' ⟨he, bel⟩ => ?_
  subst he
  exact ⟨_, rfl, _, _, _, [], _, [], hW', trodAll_mk1 (shut_bool Try.underlying4 _), (trodAll_cons_mk (shut_string Try.underlying9 w0) (trodAll_cons_mk (shut_string Try.underlying9 w1) (trodAll_cons_mk (Below.trod laidOut (by kernel_rfl) (of_decide_eq_true (by kernel_rfl)) k2 bel lt2) trodAll_mk0))), rfl, bel.frame _, fun h => by cases h⟩

theorem over : Rows.wireReadsRow.holds Try.pinned (OpenSpec.ofChange Rows.wireReadsSpec) :=
  OpenClaim.holds_of_wide 5 Try.f5 rfl rfl rfl rfl rfl rfl rfl ⟨rfl, rfl, rfl, rfl, rfl⟩ rfl rfl rfl rfl rfl (by kernel_rfl) Try.func5 (by kernel_rfl)
    (of_decide_eq_true (by kernel_rfl)) (by unfold Func.isWrapper; first | (rw [if_pos (by decide +kernel)]; kernel_rfl) | (rw [if_neg (by decide +kernel)]; exact ⟨rfl, rfl⟩))
    (fun os started H enc _ => lifted os started H enc)

end Go.Proofs.Ytjoafblfloceeaa.wireReads
namespace Go.Proofs.Ytjoafblfloceeaa
theorem wireReads_holds : Rows.WireReadsSaid := wireReads.over
#print axioms wireReads_holds
end Go.Proofs.Ytjoafblfloceeaa
