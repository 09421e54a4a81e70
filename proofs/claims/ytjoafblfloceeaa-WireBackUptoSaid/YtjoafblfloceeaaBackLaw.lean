/-
  WireBack, up to the bound: for every list of ints and every list of strings (which hold together at most 1048576 values and letters): the numbers and texts that were written one behind the other are read back as they were, and nothing is left: the law returns true, and writes nothing that was there. Condition: the bound of the second form.
-/
import Derived.Test.YtjoafblfloceeaaBack
import Derived.JoinedCond
import Derived.SliceStrings
namespace Go.Proofs.Ytjoafblfloceeaa.wireBack
open Go.ChangeMaps (open_string shut_string)
open Go.ChangeShapes Go.WideShapes Go.ChangeAt Go.RowKit Wm Wr wireReads
set_option linter.unusedVariables false

theorem bulk_strs {H : Type} (l : List ByteArray) : Rows.uptoBulkAll (strs (H := H) l) = (l.map (·.size)).sum + l.length := by
  induction l with
  | nil => rfl
  | cons s l ih =>
    have e : Rows.uptoBulkAll (strs (H := H) (s :: l)) = (s.data.toList.length + 1) + Rows.uptoBulkAll (strs (H := H) l) := rfl
    rw [e, ih, len_l]
    simp
    omega
theorem bulk_ints {H : Type} (l : List Int) : Rows.uptoBulkAll (lits (H := H) .i64 l) = l.length := by
  induction l with
  | nil => rfl
  | cons n l ih =>
    have e : Rows.uptoBulkAll (lits (H := H) .i64 (n :: l)) = 1 + Rows.uptoBulkAll (lits (H := H) .i64 l) := rfl
    rw [e, ih]
    simp
    omega
theorem bulk_two {H : Type} (d e : DataW H) (h : Rows.uptoBulkAll [d, e] ≤ 1048576) : Rows.uptoBulk d ≤ 1048576 ∧ Rows.uptoBulk e ≤ 1048576 := by
  have x : Rows.uptoBulkAll [d, e] = Rows.uptoBulk d + (Rows.uptoBulk e + 0) := rfl
  rw [x] at h
  omega
theorem bulk_nums {H : Type} (l r : List Int) (h : Rows.uptoBulk (DataW.slice (lits (H := H) .i64 l) (lits .i64 r)) ≤ 1048576) : l.length ≤ 1048576 := by
  have e : Rows.uptoBulk (DataW.slice (lits (H := H) .i64 l) (lits .i64 r)) = Rows.uptoBulkAll (lits (H := H) .i64 l) + Rows.uptoBulkAll (lits (H := H) .i64 r) + 1 := rfl
  rw [e, bulk_ints] at h
  omega
theorem bulk_texts {H : Type} (l r : List ByteArray) (h : Rows.uptoBulk (DataW.slice (strs (H := H) l) (strs r)) ≤ 1048576) : l.length ≤ 1048576 ∧ (cat l).size ≤ 1048576 := by
  have e : Rows.uptoBulk (DataW.slice (strs (H := H) l) (strs r)) = Rows.uptoBulkAll (strs (H := H) l) + Rows.uptoBulkAll (strs (H := H) r) + 1 := rfl
  rw [e, bulk_strs] at h
  rw [cat_size]
  omega
theorem nn_in {zs : List Int} (h : ∀ n ∈ zs, (Lit.int .i64 n).wf = true) (k : Nat) : -9223372036854775808 ≤ nn zs k ∧ nn zs k ≤ 9223372036854775807 := by
  rw [nn, List.getD_eq_getElem?_getD]
  rcases Nat.lt_or_ge k zs.length with hk | hk
  · rw [List.getElem?_eq_getElem hk]
    have := h zs[k] (List.getElem_mem hk)
    simpa [Lit.wf, IntKind.min, IntKind.max, IntKind.signed, IntKind.bits] using this
  · rw [List.getElem?_eq_none hk]
    simp

/-- The texts of a slice that came in: none, or a row of cells. -/
def IsTexts (w : World) (a : Option Addr) (n : Nat) (ss : List ByteArray) : Prop :=
  (n = 0 ∧ ss = []) ∨ ∃ b off, a = some ⟨b, off, none⟩ ∧ ss.length = n ∧ n ≤ 1048576 ∧ (cat ss).size ≤ 1048576 ∧ ∀ k, k < n → w.cell? ⟨b, off + k, none⟩ = some (.string (tx ss k))

theorem contract (H : Type) (enc : TypeId × Value → H) (W : World) (base : Nat) (args : Array Value) (ds gs : List (DataW H)) (before : List MemPlace)
    (hval0 : ∀ (j : Nat) t v, Try.f6.params[j]? = some t → args[j]? = some v → Value.okWide Try.prog W .any base t v)
    (hW : DataW.Whole enc Try.prog Try.f6.params.toList Rows.wireBackSpec.vars false W args.toList ds gs before)
    (hk : Rows.uptoSmall H (ds ++ gs) = true) :
    Calls Try.prog 6 args W fun e W' => ∃ v, e = .returned v ∧ Rows.wireBackSpec.post enc Try.prog Try.f6 false true false false W args v W' := by
  have hval : ∀ (j : Nat) t v, Try.f6.params[j]? = some t → args[j]? = some v → Value.okWide Try.prog W .any base t v := hval0
  have hW' := hW
  obtain ⟨p, q, hA0, hV, rfl, hfz, hnd⟩ := hW
  have hA : DataW.TrodAll enc Try.prog W 0 (fun _ => true) true Try.f6.params.toList args.toList ds p := hA0
  rw [Try.params6] at hA hval
  obtain ⟨v0, vs0, d0, ds0, p0, q0, hargs, rfl, rfl, h0, r0⟩ := trodAll_cons hA
  obtain ⟨v1, vs1, d1, ds1, p1, q1, rfl, rfl, rfl, h1, r1⟩ := trodAll_cons r0
  obtain ⟨rfl, rfl, rfl⟩ := trodAll_nil r1
  obtain rfl : args = #[v0, v1] := by cases args; simp_all
  obtain ⟨rfl, rfl⟩ := trodVars_none hV
  obtain ⟨s0, len, cap, rfl⟩ := okWide_slice Try.underlying34 (hval 0 34 v0 rfl rfl)
  obtain ⟨s1, lent, capt, rfl⟩ := okWide_slice Try.underlying31 (hval 1 31 v1 rfl rfl)
  have k0 := h0
  have k1 := h1
  have lt0 : ∀ x ∈ p0, x.block < W.heap.size := by obtain ⟨m, hm⟩ := k0; exact DataW.trod_lt m _ _ _ hm
  have lt1 : ∀ x ∈ p1, x.block < W.heap.size := by obtain ⟨m, hm⟩ := k1; exact DataW.trod_lt m _ _ _ hm
  have hbulk : Rows.uptoBulk d0 ≤ 1048576 ∧ Rows.uptoBulk d1 ≤ 1048576 := by
    have h := of_decide_eq_true hk
    rw [List.append_nil] at h
    exact bulk_two d0 d1 h
  obtain ⟨hbulk0, hbulk1⟩ := hbulk
  have hTexts : ∃ ss, IsTexts W s1 lent ss := by
    obtain ⟨fuel, hf⟩ := h1
    rcases open_strings Try.underlying31 Try.underlying9 (by kernel_rfl) hf with ⟨hcs, _⟩ | ⟨x, l, c, ss, hcs, _, hl, hm, hz, hx, hcell, _⟩
    · simp [Value.cells] at hcs
      obtain ⟨rfl, rfl, rfl⟩ := hcs
      exact ⟨[], .inl ⟨rfl, rfl⟩⟩
    · simp [Value.cells] at hcs
      obtain ⟨rfl, rfl, rfl⟩ := hcs
      have hz' : ss.length = capt := by simpa using hz
      have hd : d1 = .slice (strs (ss.take lent)) (strs (ss.drop lent)) := congrArg Prod.fst hx
      rw [hd] at hbulk1
      obtain ⟨hb1, hb2⟩ := bulk_texts _ _ hbulk1
      have hlen : (ss.take lent).length = lent := by rw [List.length_take]; omega
      by_cases h0 : lent = 0
      · exact ⟨[], .inl ⟨h0, rfl⟩⟩
      · obtain ⟨bs, off, spot⟩ := x
        have hc := hcell 0 (by omega)
        have hspot : spot = none := by simpa [Addr.add] using World.cell?_spot hc
        subst hspot
        refine ⟨ss.take lent, .inr ⟨bs, off, rfl, hlen, by omega, hb2, fun k hk => ?_⟩⟩
        rw [← wireReads.add_plain]
        refine (hcell k (by omega)).trans ?_
        rw [tx, List.getD_eq_getElem?_getD, List.getD_eq_getElem?_getD, List.getElem?_take, if_pos hk, List.getElem?_eq_getElem (show k < ss.length by omega)]
        rfl
  obtain ⟨ss, hTexts⟩ := hTexts
  have hwalk : Calls Try.prog 6 #[.slice s0 len cap, .slice s1 lent capt] W fun e w' => e = .returned (.bool true) ∧ Below W.heap.size W w' := by
    by_cases hlen0 : len = 0
    · subst hlen0
      exact walk_empty s0 s1 cap lent capt W
    obtain ⟨fuel, hf⟩ := h0
    rcases open_ints Try.underlying34 Try.underlying3 (by kernel_rfl) hf with ⟨hcs, _⟩ | ⟨x, l, c, zs, hcs, _, hl, hm, hz, hx, hcell, hwf⟩
    · simp [Value.cells] at hcs
      obtain ⟨rfl, rfl, rfl⟩ := hcs
      exact absurd rfl hlen0
    · simp [Value.cells] at hcs
      obtain ⟨rfl, rfl, rfl⟩ := hcs
      have hz' : zs.length = cap := by simpa using hz
      have hd : d0 = .slice (lits .i64 (zs.take len)) (lits .i64 (zs.drop len)) := congrArg Prod.fst hx
      rw [hd] at hbulk0
      have hb := bulk_nums _ _ hbulk0
      rw [List.length_take] at hb
      obtain ⟨bs, off, spot⟩ := x
      have hc := hcell 0 (by omega)
      have hspot : spot = none := by simpa [Addr.add] using World.cell?_spot hc
      subst hspot
      have hcn : ∀ k, k < len → W.cell? ⟨bs, off + k, none⟩ = some (.int .i64 (nn zs k)) := fun k hk => by
        rw [← wireReads.add_plain]
        exact hcell k (by omega)
      rcases hTexts with ⟨rfl, rfl⟩ | ⟨bt, offt, rfl, hss, hmt, hsum, hct⟩
      · exact walk_plain bs off len cap s1 0 capt zs [] W (by omega) (by omega) rfl rfl (Nat.zero_le _) (nn_in hwf) hcn
      · exact walk_texts bs off len cap bt offt lent capt zs ss W (by omega) (by omega) hmt hss hsum (nn_in hwf) hcn hct
  clear hA0 hval0
  refine hwalk.mono fun e W' ⟨he, bel⟩ => ?_
  subst he
  exact ⟨_, rfl, _, _, _, [], _, [], hW', trodAll_mk1 (shut_bool Try.underlying4 _), (trodAll_cons_mk (Below.trod laidOut (by kernel_rfl) (of_decide_eq_true (by kernel_rfl)) k0 bel lt0) (trodAll_cons_mk (Below.trod laidOut (by kernel_rfl) (of_decide_eq_true (by kernel_rfl)) k1 bel lt1) trodAll_mk0)), rfl, bel.frame _, fun h => by cases h⟩

set_option maxRecDepth 100000 in
theorem lifted (os : Os) (started : os.Started) (H : Type) (enc : TypeId × Value → H) (F : Stop.Interp) :
    ReturnsInHanded {} Try.checked os 6 .any ((Rows.OpenSpec.upto Rows.wireBackSpec).pre6 enc Try.prog Try.f6 Rows.wireBackUptoRow.domain false) (((Rows.OpenSpec.upto Rows.wireBackSpec).at F).post enc Try.prog Try.f6 false true false false) := by
  refine returnsInHanded_of_cond (C := Try.checked) (s := Rows.OpenSpec.upto Rows.wireBackSpec) (k := Rows.uptoSmall) rfl own started (by kernel_rfl) Try.func6
    (OpenSpec.witness (enc := enc) (C := Try.checked) (s := Rows.OpenSpec.upto Rows.wireBackSpec) (k := Rows.uptoSmall) rfl false ⟨#[], #[.slice none 0 0, .slice none 0 0], []⟩ 8 (by kernel_rfl) (by kernel_rfl) (by kernel_rfl)
      (x := ([.nil, .nil], [], [])) (by kernel_rfl) rfl (by kernel_rfl)) ?_
  intro W base args ds gs before hval hW _ hk _
  exact contract H enc W base args ds gs before hval hW hk

theorem over : Rows.wireBackUptoRow.holds Try.pinned (Rows.OpenSpec.upto Rows.wireBackSpec) :=
  OpenClaim.holds_of_cond 6 Try.f6 rfl rfl rfl rfl rfl rfl rfl ⟨rfl, rfl, rfl, rfl, rfl⟩ rfl rfl rfl rfl rfl (by kernel_rfl) Try.func6 (by kernel_rfl)
    (of_decide_eq_true (by kernel_rfl)) (by unfold Func.isWrapper; first | (rw [if_pos (by decide +kernel)]; kernel_rfl) | (rw [if_neg (by decide +kernel)]; exact ⟨rfl, rfl⟩))
    (fun os started H enc _ F => lifted os started H enc F)

end Go.Proofs.Ytjoafblfloceeaa.wireBack
namespace Go.Proofs.Ytjoafblfloceeaa
theorem wireBackUpto_holds : Rows.WireBackUptoSaid := wireBack.over
#print axioms wireBackUpto_holds
end Go.Proofs.Ytjoafblfloceeaa
