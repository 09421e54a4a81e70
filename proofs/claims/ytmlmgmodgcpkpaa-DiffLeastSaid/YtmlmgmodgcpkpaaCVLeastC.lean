/-
  DiffLeast: for every two lists of lines and every list of pairs of numbers: no row of lines that both lists have, in their order, is longer than what is kept; the distance is what that leaves, the same both ways.
  It is said of the code of package diff as it landed, for every argument of the given row's domain, in the first form; the law returns true, and writes nothing that was there. No other condition.
-/
import Derived.Test.YtmlmgmodgcpkpaaT2
import Derived.ProofKit
import Derived.OpenShut
import Derived.Deep.Slices
import Derived.Deep.Fields
import Derived.ChangeSame
import Derived.ChangeOld
import Derived.Below
import Derived.JoinedCond
namespace Go.Proofs.Ytmlmgmodgcpkpaa.Ud
open Go.ChangeShapes Go.WideShapes Go.ChangeAt Go.RowKit Tx Um Aq
set_option linter.unusedVariables false
set_option linter.unusedSimpArgs false
set_option linter.unnecessarySimpa false
def PrsI (w : World) (a : Option Addr) (n : Nat) (l : List (Int × Int)) : Prop := l.length = n ∧ (n = 0 ∨ ∃ b off, a = some ⟨b, off, none⟩ ∧ b < w.heap.size ∧ ∀ (k : Nat) x, l[k]? = some x → w.cell? ⟨b, off + k * 2, none⟩ = some (.int .i64 x.1) ∧ w.cell? ⟨b, off + k * 2 + 1, none⟩ = some (.int .i64 x.2))
section
variable {H : Type} {enc : TypeId × Value → H} {P : Program} {w : World} {base : Nat} {spare : Nat → Bool} {held : Bool}
theorem trod_array2 {t e : TypeId} {fuel : Nat} {c0 c1 : Value} {x : DataW H × List MemPlace} (ht : P.underlying t = some (.array 2 e)) (hce : P.cellsOf e = 1)
    (h : DataW.trod enc P w base spare held fuel t [c0, c1] = some x) :
    ∃ y0 y1 n, DataW.trod enc P w base spare held n e [c0] = some y0 ∧ DataW.trod enc P w base spare held n e [c1] = some y1 := by
  cases fuel with
  | zero => simp [DataW.trod] at h
  | succ n =>
    unfold DataW.trod at h
    rw [ht] at h
    have r2 : List.range 2 = [0, 1] := rfl
    simp [r2, hce] at h
    obtain ⟨_, h⟩ := h
    cases h0 : DataW.trod enc P w base spare held n e [c0] with
    | none => simp [h0] at h
    | some y0 =>
      cases h1 : DataW.trod enc P w base spare held n e [c1] with
      | none => simp [h0, h1] at h
      | some y1 => exact ⟨y0, y1, n, h0, h1⟩
end
theorem pair_at {H : Type} {enc : TypeId × Value → H} {w : World} {base : Nat} {spare : Nat → Bool} {held : Bool} {m : Nat} {a : Addr} {cs' : List Value} {y : DataW H × List MemPlace} (hc : w.cells? base a 2 = some cs') (h : DataW.trod enc Try.prog w base spare held m 42 cs' = some y) :
    ∃ x : Int × Int, w.cell? a = some (.int .i64 x.1) ∧ w.cell? (a.add 1) = some (.int .i64 x.2) := by
  obtain ⟨_, hcl, hat⟩ := World.cells?_some hc
  match cs', hcl with
  | [c0, c1], _ =>
    obtain ⟨y0, y1, n, h0, h1⟩ := trod_array2 (show Try.prog.underlying 42 = some (.array 2 3) by kernel_rfl) (by kernel_rfl) h
    obtain ⟨p, hp, _, _⟩ := DataW.trod_int Try.underlying3 h0
    obtain ⟨q, hq, _, _⟩ := DataW.trod_int Try.underlying3 h1
    simp at hp hq
    have a0 := hat 0 (by omega)
    have a1 := hat 1 (by omega)
    refine ⟨(p, q), ?_, ?_⟩
    · have e : a.add 0 = a := by simp [Addr.add]
      rw [e] at a0
      rw [a0, hp]
      rfl
    · rw [a1, hq]; rfl
theorem cellsP : Try.prog.cellsOf 42 = 2 := by kernel_rfl
theorem arg_pairs {H : Type} {enc : TypeId × Value → H} {w : World} {base : Nat} {spare : Nat → Bool} {held : Bool} {A : Option Addr} {n c : Nat} {d : DataW H} {p : List MemPlace} (h : DataW.Trod enc Try.prog w base spare held 29 (.slice A n c) d p) :
    ∃ l, PrsI w A n l ∧ n ≤ 9223372036854775807 := by
  obtain ⟨fuel, hf⟩ := h
  rcases Go.Deep.open_slice Try.underlying29 hf with h0 | ⟨a, len, cap, m, n', D, Pl, hcs, hb, hl, hm, hmm, hx, hi⟩
  · have hcs := h0.1
    simp [Value.cells] at hcs
    obtain ⟨rfl, rfl, rfl⟩ := hcs
    exact ⟨[], ⟨rfl, .inl rfl⟩, by omega⟩
  · simp [Value.cells] at hcs
    obtain ⟨rfl, rfl, rfl⟩ := hcs
    unfold maxLen at hm
    have hlm : n ≤ m := by
      rw [hmm]
      split
      · exact hl
      · exact Nat.le_refl _
    have hex : ∀ i, i < n → ∃ e : Int × Int, w.cell? (a.add (i * 2)) = some (.int .i64 e.1) ∧ w.cell? ((a.add (i * 2)).add 1) = some (.int .i64 e.2) := by
      intro i him
      obtain ⟨cs', hc, ht⟩ := hi i (by omega)
      rw [cellsP] at hc
      exact pair_at hc ht
    obtain ⟨X, hX⟩ := Go.Deep.choose_lt hex
    have hget : ∀ k y, ((List.range n).map X)[k]? = some y → k < n ∧ y = X k := by
      intro k y hk
      have hk2 := (List.getElem?_eq_some_iff.1 hk).1
      simp at hk2
      rw [List.getElem?_map, List.getElem?_range hk2] at hk
      injection hk with hk
      exact ⟨hk2, hk.symm⟩
    refine ⟨(List.range n).map X, ⟨by simp, ?_⟩, by omega⟩
    by_cases h0 : n = 0
    · exact .inl h0
    · right
      obtain ⟨b, off, spot⟩ := a
      have hc0 := (hX 0 (by omega)).1
      rw [Nat.zero_mul] at hc0
      have hspot : spot = none := by simpa [Addr.add] using World.cell?_spot hc0
      subst hspot
      refine ⟨b, off, rfl, ?_, fun k y hk => ?_⟩
      · have := World.block_lt_of_cell? w _ hc0
        simpa [Addr.add] using this
      · obtain ⟨hk2, rfl⟩ := hget k y hk
        obtain ⟨h1, h2⟩ := hX k hk2
        rw [add_plain] at h1 h2
        rw [add_plain] at h2
        exact ⟨h1, h2⟩
end Go.Proofs.Ytmlmgmodgcpkpaa.Ud

namespace Go.Proofs.Ytmlmgmodgcpkpaa.diffLeast
open Go.ChangeShapes Go.WideShapes Go.ChangeAt Go.RowKit Tx Um Ud Aq
set_option linter.unusedVariables false
def Ris (a b : List ByteArray) (ls : List (Nat × Nat)) (I J : Int) : Prop :=
  ls.Pairwise (fun x y => x.1 < y.1 ∧ x.2 < y.2) ∧ (∀ x, x ∈ ls → a[x.1]?.isSome ∧ a[x.1]? = b[x.2]?) ∧ (∀ x, x ∈ ls → (x.1 : Int) ≤ I ∧ (x.2 : Int) ≤ J) ∧ -1 ≤ I ∧ -1 ≤ J
theorem ris_start (a b : List ByteArray) : Ris a b [] (-1) (-1) := ⟨List.Pairwise.nil, fun x hx => (by cases hx), fun x hx => (by cases hx), by omega, by omega⟩
theorem ris_next {a b : List ByteArray} {ls : List (Nat × Nat)} {I J : Int} (h : Ris a b ls I J) {P Q : Nat} (hP : I < P) (hQ : J < Q) (hi : P < a.length) (hj : Q < b.length) (he : a[P] = b[Q]) : Ris a b (ls ++ [(P, Q)]) P Q := by
  obtain ⟨h1, h2, h3, h4, h5⟩ := h
  refine ⟨?_, fun x hx => ?_, fun x hx => ?_, by omega, by omega⟩
  · rw [List.pairwise_append]
    refine ⟨h1, by simp, fun x hx y hy => ?_⟩
    obtain rfl := List.mem_singleton.1 hy
    have := h3 x hx
    exact ⟨by omega, by omega⟩
  · rcases List.mem_append.1 hx with hx | hx
    · exact h2 x hx
    · obtain rfl := List.mem_singleton.1 hx
      rw [List.getElem?_eq_getElem hi, List.getElem?_eq_getElem hj, he]
      exact ⟨rfl, rfl⟩
  · rcases List.mem_append.1 hx with hx | hx
    · have := h3 x hx
      exact ⟨by omega, by omega⟩
    · obtain rfl := List.mem_singleton.1 hx
      exact ⟨Int.le_refl _, Int.le_refl _⟩
theorem ris_most {a b : List ByteArray} {ls : List (Nat × Nat)} {I J : Int} (h : Ris a b ls I J) : ls.length ≤ lcs a b := by
  have := rising_most a b ls 0 0 (fun x _ => ⟨Nat.zero_le _, Nat.zero_le _⟩) h.1 h.2.1
  simpa using this
set_option maxRecDepth 100000 in
set_option maxHeartbeats 2000000 in
theorem walk (hM : Impl) (A B C : Option Addr) (ca cb co : Nat) (a b : List ByteArray) (os : List (Int × Int)) (w : World) (hA : Strs w A a.length a) (hB : Strs w B b.length b) (hza : Szs a) (hzb : Szs b) (hAn : a.length ≤ 9223372036854775807) (hBn : b.length ≤ 9223372036854775807) (hC : PrsI w C os.length os) (hCn : os.length ≤ 9223372036854775807) :
    Calls Try.prog 5 #[.slice A a.length ca, .slice B b.length cb, .slice C os.length co] w fun e w' => e = .returned (.bool true) ∧ Below w.heap.size w w' := by
  have c1 := hM.kept A B ca cb a b w hA hB hza hzb
  unfold PrsTo at c1
  cases hL : lng a b with
  | true =>
    rw [kep_yes hL, err_yes hL] at c1
    clear hL hza hzb
    go_enter Try.func5, Try.ntmps5
    go_wp2_with fail
    go_at_call 9
    refine c1.mono ?_
    rintro e w1 ⟨v, rfl, hv, hb1⟩
    clear hv c1
    go_wp2_with fail
    go_at_call 12
    refine (awake_any12 hM _).mono ?_
    rintro e w2 ⟨rfl, hb2⟩
    have hB2 := below_call hb1 hb2
    go_wp2_with fail
    go_at_call 12
    refine (awake_any12 hM _).mono ?_
    rintro e w3 ⟨rfl, hb3⟩
    have hB3 := below_call hB2 hb3
    go_wp2_with fail
    go_ret
    exact ⟨rfl, hB3⟩
  | false =>
    rw [kep_no hL, err_no hL] at c1
    obtain ⟨ha4, hb4⟩ := lng_small hL
    have hL2 := lng_no hb4 ha4
    have hkl : (pairs 0 0 (steps a b)).length = lcs a b := by rw [pairs_len, kept]
    have hll := lcs_le_left a b
    have hlr := lcs_le_right a b
    have c5 := fun W h1 h2 => hM.dist A B ca cb a b W h1 h2 hza hzb
    have c6 := fun W h1 h2 => hM.dist B A cb ca b a W h1 h2 hzb hza
    rw [dst_no hL, err_no hL] at c5
    rw [dst_no hL2, err_no hL2, Um.dist_comm b a] at c6
    have hde := dist_eq a b
    obtain ⟨d, hd⟩ : ∃ d, d = Um.dist a b := ⟨_, rfl⟩
    rw [← hd] at c5 c6 hde
    obtain ⟨Z, hZ⟩ : ∃ Z, Z = lcs a b := ⟨_, rfl⟩
    rw [← hZ] at hkl hll hlr hde
    have HZ := Lib.hid hZ
    obtain ⟨m, hm⟩ : ∃ m, m = a.length := ⟨_, rfl⟩
    obtain ⟨n, hn⟩ : ∃ n, n = b.length := ⟨_, rfl⟩
    obtain ⟨O, hO⟩ : ∃ O, O = os.length := ⟨_, rfl⟩
    rw [← hm] at c1 c5 c6 hll hde ha4 ⊢
    rw [← hn] at c1 c5 c6 hlr hde hb4 ⊢
    rw [← hO] at hCn ⊢
    have HM := Lib.hid hm
    have HN := Lib.hid hn
    have HO := Lib.hid hO
    have HAS := Lib.hid hA
    have HBS := Lib.hid hB
    have HCS := Lib.hid hC
    have HC5 := Lib.hid c5
    have HC6 := Lib.hid c6
    clear hL hL2 hd hZ hm hn hO hA hB hC hAn hBn c5 c6 hza hzb
    go_enter Try.func5, Try.ntmps5
    go_wp2_with fail
    go_at_call 9
    refine c1.mono ?_
    rintro e w1 ⟨v, rfl, hv, hb1⟩
    obtain ⟨ad, cc, rfl, hrd⟩ := hv.form
    rw [hkl]
    clear hv c1 hrd hkl
    go_wp2_with fail
    go_at_call 12
    refine (awake_any12 hM _).mono ?_
    rintro e w2 ⟨rfl, hb2⟩
    have HB2 := Lib.hid (below_call hb1 hb2)
    clear hb1 hb2
    go_wp2_with fail
    go_loopw [9, 10, 11, 12, 13, 14] (fun c i j x _ _ wr => ∃ (ls : List (Nat × Nat)) (I J : Int) (t : Nat), c = .int .i64 (ls.length : Nat) ∧ i = .int .i64 I ∧ j = .int .i64 J ∧ x = .int .i64 t ∧ t ≤ O ∧ ls.length ≤ t ∧ Hid (Ris a b ls I J) ∧ Below w2.heap.size w2 wr) (fun _ _ _ x _ _ _ => O - (intOf x).toNat)
    case atStart => exact ⟨[], -1, -1, 0, rfl, rfl, rfl, rfl, Nat.zero_le _, Nat.le_refl _, ris_start a b, Below.refl _ _⟩
    case round =>
      obtain ⟨ls, I, J, t, rfl, rfl, rfl, rfl, ht, hlt0, HR, hb⟩ := hrel
      have hI := HR.out.2.2.2.1
      have hJ := HR.out.2.2.2.2
      have hmost := ris_most HR.out
      rw [← HZ.out] at hmost
      by_cases hlt : t < O
      · have e1 : (t : Int) < (O : Int) := by omega
        have hBw : Below w.heap.size w wr := HB2.out.trans (hb.mono HB2.out.size)
        obtain ⟨bo, oo, rfl, hbo, hc⟩ := HCS.out.2.resolve_left (by rw [← HO.out]; omega)
        obtain ⟨pq, hp⟩ : ∃ pq, os[t]? = some pq := ⟨_, List.getElem?_eq_getElem (by rw [← HO.out]; exact hlt)⟩
        obtain ⟨g1, g2⟩ := hc t pq hp
        have d1 := (hBw.cell (p := ⟨bo, _, none⟩) hbo).trans g1
        have d2 := (hBw.cell (p := ⟨bo, _, none⟩) hbo).trans g2
        obtain ⟨p, q⟩ := pq
        simp only at d1 d2
        clear hc hp g1 g2
        by_cases h1 : I < p
        · by_cases h2 : J < q
          · by_cases h3 : p < (m : Int)
            · by_cases h4 : q < (n : Int)
              · obtain ⟨P, rfl⟩ : ∃ P : Nat, p = (P : Int) := ⟨p.toNat, by omega⟩
                obtain ⟨Q, rfl⟩ : ∃ Q : Nat, q = (Q : Int) := ⟨q.toNat, by omega⟩
                have hPm : P < a.length := by rw [← HM.out]; omega
                have hQn : Q < b.length := by rw [← HN.out]; omega
                obtain ⟨ba, oa, hAe, k1⟩ := strs_cell HAS.out hPm hBw
                obtain ⟨bc, oc, hBe, k2⟩ := strs_cell HBS.out hQn hBw
                obtain ⟨S, hS⟩ : ∃ S, S = a[P] := ⟨_, rfl⟩
                obtain ⟨T, hT⟩ : ∃ T, T = b[Q] := ⟨_, rfl⟩
                rw [← hS] at k1
                rw [← hT] at k2
                rw [hAe, hBe]
                have h3' : P < m := by omega
                have h4' : Q < n := by omega
                by_cases he : S = T
                · have HN2 := Lib.hid (ris_next HR.out h1 h2 hPm hQn (by rw [← hS, ← hT]; exact he))
                  have e2 : (S.toList == T.toList) = true := by rw [he]; exact beq_self_eq_true _
                  clear he hS hT hAe hBe hPm hQn HR
                  go_wp2_with fail
                  go_region
                  go_wp2_with fail
                  go_region
                  go_wp2_with fail
                  go_roundw
                  case rel => exact ⟨ls ++ [(P, Q)], P, Q, t + 1, by first | go_num | simp, rfl, rfl, by go_num, by omega, (by simp <;> omega), HN2, below_drewN hb 2⟩
                  case measure => simp only [intOf]; omega
                · have e2 : (S.toList == T.toList) = false := bytes_ne he
                  clear he hS hT hAe hBe hPm hQn
                  go_wp2_with fail
                  go_region
                  go_wp2_with fail
                  go_region
                  go_wp2_with fail
                  go_roundw
                  case rel => exact ⟨ls, I, J, t + 1, rfl, rfl, rfl, by go_num, by omega, by omega, HR, below_drewN hb 2⟩
                  case measure => simp only [intOf]; omega
              · go_wp2_with fail
                go_region
                go_wp2_with fail
                have hx1 : decide (q < (n : Int)) = false := decide_eq_false (by omega)
                have hx2 : ¬ q < (n : Int) := by omega
                go_region
                go_wp2_with fail
                go_roundw
                case rel => exact ⟨ls, I, J, t + 1, rfl, rfl, rfl, by go_num, by omega, by omega, HR, below_drewN hb 2⟩
                case measure => simp only [intOf]; omega
            · go_wp2_with fail
              go_region
              go_wp2_with fail
              have hx1 : decide (p < (m : Int)) = false := decide_eq_false (by omega)
              have hx2 : ¬ p < (m : Int) := by omega
              go_region
              go_wp2_with fail
              go_roundw
              case rel => exact ⟨ls, I, J, t + 1, rfl, rfl, rfl, by go_num, by omega, by omega, HR, below_drewN hb 2⟩
              case measure => simp only [intOf]; omega
          · go_wp2_with fail
            go_region
            go_wp2_with fail
            have hx1 : decide (J < q) = false := decide_eq_false (by omega)
            have hx2 : ¬ J < q := by omega
            go_region
            go_wp2_with fail
            go_roundw
            case rel => exact ⟨ls, I, J, t + 1, rfl, rfl, rfl, by go_num, by omega, by omega, HR, below_drewN hb 2⟩
            case measure => simp only [intOf]; omega
        · go_wp2_with fail
          go_region
          go_wp2_with fail
          have hx1 : decide (I < p) = false := decide_eq_false (by omega)
          have hx2 : ¬ I < p := by omega
          go_region
          go_wp2_with fail
          go_roundw
          case rel => exact ⟨ls, I, J, t + 1, rfl, rfl, rfl, by go_num, by omega, by omega, HR, below_drewN hb 2⟩
          case measure => simp only [intOf]; omega
      · have e1 : ¬ (t : Int) < (O : Int) := by omega
        have hBw : Below w.heap.size w wr := HB2.out.trans (hb.mono HB2.out.size)
        have f1 : (ls.length : Int) ≤ (Z : Int) := by omega
        have f2 : ((d : Int) == (m : Int) + (n : Int) - 2 * (Z : Int)) = true := beq_iff_eq.2 (by omega)
        have f3 : ((d : Int) == (d : Int)) = true := beq_self_eq_true _
        have w1' : IntKind.i64.wrap ((m : Int) + (n : Int)) = (m : Int) + (n : Int) := IntWalk.i64_in _ (by omega)
        have w2' : IntKind.i64.wrap (2 * (Z : Int)) = 2 * (Z : Int) := IntWalk.i64_in _ (by omega)
        have w3' : IntKind.i64.wrap ((m : Int) + (n : Int) - 2 * (Z : Int)) = (m : Int) + (n : Int) - 2 * (Z : Int) := IntWalk.i64_in _ (by omega)
        clear HR
        go_wp2_with fail
        go_at_call 11
        refine (HC5.out _ (by rw [HM.out]; exact HAS.out.below hBw) (by rw [HN.out]; exact HBS.out.below hBw)).mono ?_
        rintro e w5 ⟨rfl, hb5⟩
        have hB5 := below_call hBw hb5
        go_wp2_with fail
        go_at_call 11
        refine (HC6.out _ (by rw [HN.out]; exact HBS.out.below hB5) (by rw [HM.out]; exact HAS.out.below hB5)).mono ?_
        rintro e w6 ⟨rfl, hb6⟩
        have hB6 := below_call hB5 hb6
        clear hb5 hb6 hB5 hBw hb
        go_wp2_with fail
        go_ret
        exact ⟨rfl, hB6⟩
theorem own : ownKnob Try.prog.godebug = none := by kernel_rfl
theorem laidOut : laidOutB Try.prog = true := by kernel_rfl
set_option maxRecDepth 100000 in
theorem contract (hM : Impl) (H : Type) (enc : TypeId × Value → H) (W : World) (base : Nat) (args : Array Value) (ds gs : List (DataW H)) (before : List MemPlace)
    (hval0 : ∀ (j : Nat) t v, Try.f5.params[j]? = some t → args[j]? = some v → Value.okWide Try.prog W .any base t v)
    (hW : DataW.Whole enc Try.prog Try.f5.params.toList Rows.diffLeastSpec.vars false W args.toList ds gs before)
    (hsz0 : (DataW.weightsEach Try.prog (Try.f5.params.toList ++ Rows.diffLeastSpec.plain.varTypes Try.prog) (ds ++ gs)).all (· ≤ reachBytes) = true) :
    Calls Try.prog 5 args W fun e W' => ∃ v, e = .returned v ∧ Rows.diffLeastSpec.post enc Try.prog Try.f5 false true false false W args v W' := by
  have hval : ∀ (j : Nat) t v, Try.f5.params[j]? = some t → args[j]? = some v → Value.okWide Try.prog W .any base t v := hval0
  have hsz := hsz0
  clear hsz0
  have hW' := hW
  obtain ⟨p, q, hA0, hV, rfl, hfz, hnd⟩ := hW
  have hA : DataW.TrodAll enc Try.prog W 0 (fun _ => true) true Try.f5.params.toList args.toList ds p := hA0
  rw [Try.params5] at hA hval hsz
  obtain ⟨v0, vs0, d0, ds0, p0, q0, hargs, rfl, rfl, h0, r0⟩ := trodAll_cons hA
  obtain ⟨v1, vs1, d1, ds1, p1, q1, rfl, rfl, rfl, h1, r1⟩ := trodAll_cons r0
  obtain ⟨v2, vs2, d2, ds2, p2, q2, rfl, rfl, rfl, h2, r2⟩ := trodAll_cons r1
  obtain ⟨rfl, rfl, rfl⟩ := trodAll_nil r2
  obtain rfl : args = #[v0, v1, v2] := by cases args; simp_all
  obtain ⟨rfl, rfl⟩ := trodVars_none hV
  obtain ⟨A0, n0, c0, rfl⟩ := okWide_slice Try.underlying22 (hval 0 22 v0 rfl rfl)
  have k0 := h0
  have lt0 : ∀ x ∈ p0, x.block < W.heap.size := by obtain ⟨m, hm⟩ := k0; exact DataW.trod_lt m _ _ _ hm
  obtain ⟨A1, n1, c1, rfl⟩ := okWide_slice Try.underlying22 (hval 1 22 v1 rfl rfl)
  have k1 := h1
  have lt1 : ∀ x ∈ p1, x.block < W.heap.size := by obtain ⟨m, hm⟩ := k1; exact DataW.trod_lt m _ _ _ hm
  obtain ⟨A2, n2, c2, rfl⟩ := okWide_slice Try.underlying29 (hval 2 29 v2 rfl rfl)
  have k2 := h2
  have lt2 : ∀ x ∈ p2, x.block < W.heap.size := by obtain ⟨m, hm⟩ := k2; exact DataW.trod_lt m _ _ _ hm
  clear hA0 hval0
  obtain ⟨l0, hl0⟩ := arg_list h0 (j := 0) hsz rfl rfl
  obtain ⟨l1, hl1⟩ := arg_list h1 (j := 1) hsz rfl rfl
  obtain ⟨l2, hl2, hn2⟩ := arg_pairs h2
  have e0 := hl0.1.1
  have e1 := hl1.1.1
  have e2 := hl2.1
  subst e0
  subst e1
  subst e2
  refine (walk hM A0 A1 A2 c0 c1 c2 l0 l1 l2 W hl0.1 hl1.1 hl0.2.2.2 hl1.2.2.2 (by have := hl0.2.2.1; omega) (by have := hl1.2.2.1; omega) hl2 hn2).mono fun e W' ⟨he, bel⟩ => ?_
  subst he
  exact ⟨_, rfl, _, _, _, [], _, [], hW', trodAll_mk1 (shut_bool Try.underlying4 _), (trodAll_cons_mk (Below.trod laidOut (by kernel_rfl) (of_decide_eq_true (by kernel_rfl)) k0 bel lt0) (trodAll_cons_mk (Below.trod laidOut (by kernel_rfl) (of_decide_eq_true (by kernel_rfl)) k1 bel lt1) (trodAll_cons_mk (Below.trod laidOut (by kernel_rfl) (of_decide_eq_true (by kernel_rfl)) k2 bel lt2) trodAll_mk0))), rfl, bel.frame _, fun h => by cases h⟩
set_option maxRecDepth 100000 in
theorem lifted (hM : Impl) (os : Os) (started : os.Started) (H : Type) (enc : TypeId × Value → H) :
    ReturnsInHanded {} Try.checked os 5 .any (Rows.diffLeastSpec.pre6 enc Try.prog Try.f5 Rows.diffLeastRow.domain false) (Rows.diffLeastSpec.post enc Try.prog Try.f5 false true false false) := by
  refine returnsInHanded_of_change_sized (C := Try.checked) own started (by kernel_rfl) Try.func5
    (ChangeSpec.witness6 (enc := enc) (C := Try.checked) false ⟨#[], #[.slice none 0 0, .slice none 0 0, .slice none 0 0], []⟩ 8 (by kernel_rfl) (by kernel_rfl) (by kernel_rfl) (by kernel_rfl)) ?_
  intro W base args ds gs before hval0 hW _ hsz0 _
  exact contract hM H enc W base args ds gs before hval0 hW hsz0
theorem over (hM : Impl) : Rows.diffLeastRow.holds Try.pinned (OpenSpec.ofChange Rows.diffLeastSpec) :=
  OpenClaim.holds_of_wide 5 Try.f5 rfl rfl rfl rfl rfl rfl rfl ⟨rfl, rfl, rfl, rfl, rfl⟩ rfl rfl rfl rfl rfl (by kernel_rfl) Try.func5 (by kernel_rfl)
    (of_decide_eq_true (by kernel_rfl)) (by unfold Func.isWrapper; first | (rw [if_pos (by decide +kernel)]; kernel_rfl) | (rw [if_neg (by decide +kernel)]; exact ⟨rfl, rfl⟩))
    (fun os started H enc _ => lifted hM os started H enc)
end Go.Proofs.Ytmlmgmodgcpkpaa.diffLeast

namespace Go.Proofs.Ytmlmgmodgcpkpaa
theorem diffLeast_holds : Rows.DiffLeastSaid := diffLeast.over Ud.impl
#print axioms diffLeast_holds
end Go.Proofs.Ytmlmgmodgcpkpaa
