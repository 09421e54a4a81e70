/-
  DiffSame: for every three lists of lines: a list and itself have no distance; like lines ahead of two lists, or behind both, add nothing to it; no distance just where two lists are alike.
  It is said of the code of package diff as it landed, for every argument of the given row's domain, in the first form; the law returns true, and writes nothing that was there. No other condition.
-/
import Derived.Test.YtmlmgmodgcpkpaaT2
import Derived.Deep.QuietTactic
import Derived.BigQuiet
import Derived.ProofKit
import Derived.OpenShut
import Derived.ChangeOld
import Derived.Below
import Derived.JoinedCond
namespace Go.Proofs.Ytmlmgmodgcpkpaa.Ud
open Go.RowKit Tx Um Aq
set_option linter.unusedVariables false
def SameT (la lb : List ByteArray) (w : World) (e : Ending) (w' : World) : Prop := ∃ B, (B = true ↔ la = lb) ∧ e = .returned (.bool B) ∧ Below w.heap.size w w'
set_option maxRecDepth 100000 in
set_option maxHeartbeats 1000000 in
theorem same_any (A B : Option Addr) (ca cb : Nat) (a b : List ByteArray) (w : World) (hA : Strs w A a.length a) (hB : Strs w B b.length b) (hn : a.length ≤ 9223372036854775806) (hm : b.length ≤ 9223372036854775806) :
    Calls Try.prog 15 #[.slice A a.length ca, .slice B b.length cb] w (SameT a b w) := by
  have HAS := Lib.hid hA
  have HBS := Lib.hid hB
  obtain ⟨m, hm'⟩ : ∃ m, m = a.length := ⟨_, rfl⟩
  obtain ⟨n, hn'⟩ : ∃ n, n = b.length := ⟨_, rfl⟩
  rw [← hm'] at hn ⊢
  rw [← hn'] at hm ⊢
  have HM := Lib.hid hm'
  have HN := Lib.hid hn'
  clear hA hB hm' hn'
  by_cases hmn : m = n
  · have e0 : ((m : Int) == n) = true := beq_iff_eq.2 (by omega)
    have hmn' : (m : Int) = (n : Int) := by omega
    go_enter Try.func15, Try.ntmps15
    go_wp2_with fail
    go_loopw [5] (fun i wr => ∃ k : Nat, k ≤ m ∧ i = .int .i64 k ∧ Hid (a.take k = b.take k) ∧ Below w.heap.size w wr) (fun i _ => m - (intOf i).toNat)
    case atStart => exact ⟨0, Nat.zero_le _, rfl, rfl, Below.refl _ _⟩
    case round =>
      obtain ⟨k, hk, rfl, hT, hW⟩ := hrel
      by_cases hlt : k < m
      · have hka : k < a.length := by rw [← HM.out]; exact hlt
        have hkb : k < b.length := by rw [← HN.out]; omega
        obtain ⟨ba, oa, rfl, c1⟩ := strs_cell HAS.out hka hW
        obtain ⟨bb, ob, rfl, c2⟩ := strs_cell HBS.out hkb hW
        obtain ⟨S, hS⟩ : ∃ S, S = a[k] := ⟨_, rfl⟩
        obtain ⟨T, hT0⟩ : ∃ T, T = b[k] := ⟨_, rfl⟩
        rw [← hS] at c1
        rw [← hT0] at c2
        have hlt1 : (k : Int) < (m : Int) := by omega
        have hlt2 : (k : Int) < (n : Int) := by omega
        by_cases he : S = T
        · have e1 : (S.toList == T.toList) = true := by rw [he]; exact beq_self_eq_true _
          have HNX : Hid (a.take (k + 1) = b.take (k + 1)) := by
            show _ = _
            rw [List.take_succ_eq_append_getElem hka, List.take_succ_eq_append_getElem hkb, hT.out, ← hS, ← hT0, he]
          clear hS hT0 he hT hka hkb
          go_wp2_with fail
          go_quiet (fail)
          go_wp2_with fail
          go_roundw
          case rel => exact ⟨k + 1, by omega, by go_num, HNX, below_drewN hW _⟩
          case measure => simp [intOf]; omega
        · have e1 : (S.toList == T.toList) = false := bytes_ne he
          have HE : Hid (a ≠ b) := fun h => he (by subst h; rw [hS, hT0])
          clear hS hT0 he hT hka hkb
          go_wp2_with fail
          go_quiet (fail)
          go_wp2_with fail
          go_ret
          exact ⟨false, Iff.intro (fun h => by cases h) (fun h => absurd h HE.out), rfl, below_drewN hW _⟩
      · have hkm : k = m := by omega
        have h := hT.out
        rw [List.take_of_length_le (by rw [← HM.out]; omega), List.take_of_length_le (by rw [← HN.out]; omega)] at h
        have HE := Lib.hid h
        clear hT h
        go_wp2_with fail
        go_ret
        exact ⟨true, Iff.intro (fun _ => HE.out) (fun _ => rfl), rfl, hW⟩
  · have e0 : ((m : Int) == n) = false := beq_eq_false_iff_ne.2 (by omega)
    have HE : Hid (a ≠ b) := fun h => hmn (by rw [HM.out, HN.out, h])
    clear hmn
    go_enter Try.func15, Try.ntmps15
    go_wp2
    go_ret
    exact ⟨false, Iff.intro (fun h => by cases h) (fun h => absurd h HE.out), rfl, Below.refl _ _⟩
end Go.Proofs.Ytmlmgmodgcpkpaa.Ud

namespace Go.Proofs.Ytmlmgmodgcpkpaa.diffSame
open Go.ChangeShapes Go.WideShapes Go.ChangeAt Go.RowKit Tx Um Ud Aq
set_option linter.unusedVariables false
theorem grown_below {B : Nat} {W w w1 : World} {e : TypeId} {s n : Nat} {v : Value} {xs : List Value} (hb : Below B W w) (hB : B ≤ w.heap.size) (hown : w.ownsRow B e s v n xs) (hg : w.grownBy w1 v.ownBlock) : Below B W w1 := hb.grown hg hB (fun k hk => (hown.lt k hk).1)
theorem none_made (w : World) : (w.alloc (.cells #[] 9)).ownsRow w.heap.size 9 1 (.slice (some ⟨w.heap.size, 0, none⟩) 0 0) ([] : List ByteArray).length (([] : List ByteArray).map sv) := made0 w
theorem none_below (w : World) : Below w.heap.size w (w.alloc (.cells #[] 9)) := (Below.refl _ w).alloc (Nat.le_refl _) _
set_option maxRecDepth 100000 in
set_option maxHeartbeats 2000000 in
theorem walk (hM : Impl) (A B C : Option Addr) (ca cb cc : Nat) (a b c : List ByteArray) (w : World) (hA : Arg w A a.length ca a) (hB : Arg w B b.length cb b) (hC : Arg w C c.length cc c) :
    Calls Try.prog 6 #[.slice A a.length ca, .slice B b.length cb, .slice C c.length cc] w fun e w' => e = .returned (.bool true) ∧ Below w.heap.size w w' := by
  obtain ⟨hA1, hA2, hA3, hza⟩ := hA
  obtain ⟨hB1, hB2, hB3, hzb⟩ := hB
  obtain ⟨hC1, hC2, hC3, hzc⟩ := hC
  have caa := fun W h1 h2 => hM.dist A A ca ca a a W h1 h2 hza hza
  have cab := fun W h1 h2 => hM.dist A B ca cb a b W h1 h2 hza hzb
  have HZ1 := Lib.hid (szs_app hzc hza)
  have HZ2 := Lib.hid (szs_app hzc hzb)
  have HZ3 := Lib.hid (szs_app hza hzc)
  have HZ4 := Lib.hid (szs_app hzb hzc)
  clear hza hzb hzc
  have csm := fun W h1 h2 => same_any A B ca cb a b W h1 h2 (by omega) (by omega)
  obtain ⟨m, hm⟩ : ∃ m, m = a.length := ⟨_, rfl⟩
  obtain ⟨n, hn⟩ : ∃ n, n = b.length := ⟨_, rfl⟩
  obtain ⟨o, ho⟩ : ∃ o, o = c.length := ⟨_, rfl⟩
  rw [← hm] at hA3 caa cab csm ⊢
  rw [← hn] at hB3 cab csm ⊢
  rw [← ho] at hC3 ⊢
  have HM := Lib.hid hm
  have HN := Lib.hid hn
  have HO := Lib.hid ho
  have HA : Hid (Strs w A m a) := by show Strs w A m a; rw [HM.out]; exact hA1
  have HB : Hid (Strs w B n b) := by show Strs w B n b; rw [HN.out]; exact hB1
  have HC : Hid (Strs w C o c) := by show Strs w C o c; rw [HO.out]; exact hC1
  have HA2 := Lib.hid hA2
  have HB2 := Lib.hid hB2
  have HC2 := Lib.hid hC2
  have e1 : IntKind.i64.wrap ((m : Int) + (o : Int)) = (m : Int) + (o : Int) := IntWalk.i64_in _ (by omega)
  have e2 : IntKind.i64.wrap ((n : Int) + (o : Int)) = (n : Int) + (o : Int) := IntWalk.i64_in _ (by omega)
  clear hA1 hB1 hC1 hA2 hB2 hC2 hm hn ho
  by_cases h1 : 400 < m + o
  · have f1 : (400 : Int) < (m : Int) + (o : Int) := by omega
    clear caa cab csm
    go_enter Try.func6, Try.ntmps6
    go_wp2_with fail
    go_at_call 12
    refine (awake_any12 hM _).mono ?_
    rintro e w1 ⟨rfl, hb1⟩
    go_wp2_with fail
    go_at_call 12
    refine (awake_any12 hM _).mono ?_
    rintro e w2 ⟨rfl, hb2⟩
    have hB := below_call hb1 hb2
    go_wp2_with fail
    go_ret
    exact ⟨rfl, hB⟩
  · have f1 : ¬ (400 : Int) < (m : Int) + (o : Int) := by omega
    by_cases h2 : 400 < n + o
    · have f2 : (400 : Int) < (n : Int) + (o : Int) := by omega
      clear caa cab csm
      go_enter Try.func6, Try.ntmps6
      go_wp2_with fail
      go_at_call 12
      refine (awake_any12 hM _).mono ?_
      rintro e w1 ⟨rfl, hb1⟩
      go_wp2_with fail
      go_at_call 12
      refine (awake_any12 hM _).mono ?_
      rintro e w2 ⟨rfl, hb2⟩
      have hB := below_call hb1 hb2
      go_wp2_with fail
      go_ret
      exact ⟨rfl, hB⟩
    · have f2 : ¬ (400 : Int) < (n : Int) + (o : Int) := by omega
      have laa := lng_no (a := a) (b := a) (by rw [← HM.out]; omega) (by rw [← HM.out]; omega)
      have lab := lng_no (a := a) (b := b) (by rw [← HM.out]; omega) (by rw [← HN.out]; omega)
      have lca := lng_no (a := c ++ a) (b := c ++ b) (by rw [List.length_append, ← HM.out, ← HO.out]; omega) (by rw [List.length_append, ← HN.out, ← HO.out]; omega)
      have lac := lng_no (a := a ++ c) (b := b ++ c) (by rw [List.length_append, ← HM.out, ← HO.out]; omega) (by rw [List.length_append, ← HN.out, ← HO.out]; omega)
      rw [dst_no laa, err_no laa, dist_self] at caa
      rw [dst_no lab, err_no lab] at cab
      have cca := fun W A B p q h1 h2 => hM.dist A B p q (c ++ a) (c ++ b) W h1 h2 HZ1.out HZ2.out
      have cac := fun W A B p q h1 h2 => hM.dist A B p q (a ++ c) (b ++ c) W h1 h2 HZ3.out HZ4.out
      rw [dst_no lca, err_no lca, dist_ahead] at cca
      rw [dst_no lac, err_no lac, dist_behind] at cac
      have hdz := dist_zero a b
      have hdl := dist_eq a b
      obtain ⟨d, hd⟩ : ∃ d, d = Um.dist a b := ⟨_, rfl⟩
      rw [← hd] at cab cca cac hdz hdl
      rw [← HM.out, ← HN.out] at hdl
      have HDZ := Lib.hid hdz
      simp only [List.length_append] at cca cac
      have HCCA := Lib.hid cca
      have HCAC := Lib.hid cac
      have HCSM := Lib.hid csm
      have HCAA := Lib.hid caa
      have HCAB := Lib.hid cab
      have f3 : ((d : Int) == (d : Int)) = true := beq_self_eq_true _
      clear laa lab lca lac hdz hd cca cac csm caa cab
      go_enter Try.func6, Try.ntmps6
      go_wp2_with fail
      go_at_call 12
      refine (awake_any12 hM _).mono ?_
      rintro e w1 ⟨rfl, hb1⟩
      go_wp2_with fail
      go_at_call 11
      refine (HCAA.out _ (HA.out.below hb1) (HA.out.below hb1)).mono ?_
      rintro e w2 ⟨rfl, hb2⟩
      have hB2 := below_call hb1 hb2
      clear hb1 hb2
      go_wp2_with fail
      go_at_call 11
      refine (HCAB.out _ (HA.out.below hB2) (HB.out.below hB2)).mono ?_
      rintro e w3 ⟨rfl, hb3⟩
      have hB3 := below_call hB2 hb3
      clear hB2 hb3
      have hlit := none_made w3
      have hlb := none_below w3
      have hls : w3.heap.size ≤ (w3.alloc (.cells #[] 9)).heap.size := hlb.size
      go_wp2_with (at_builtin; refine wp_append_list rfl (.tmp 47) (.tmp 48) rfl w3.heap.size rfl hlit rfl ((HC.out.below hB3).below hlb) HC2.out  (by show (0 + _) * 16 ≤ _; omega) hls (fun e => by cases e) ?_)
      intro v1 p11 ho1 hv1 hg1
      have hb1 := grown_below hlb hls hlit hg1
      have hs1 : w3.heap.size ≤ p11.heap.size := hb1.size
      try rw [List.nil_append] at ho1
      clear hlit hlb hls hg1
      go_wp2_with (at_builtin; refine wp_append_list rfl (.tmp 49) (.tmp 50) rfl w3.heap.size rfl ho1 rfl ((HA.out.below hB3).below hb1) HA2.out (by have k1 := HM.out; have k2 := HN.out; have k3 := HO.out; omega) hs1 hv1 ?_)
      intro p1v p1 ho2 hv2 hg2
      have p1b := grown_below hb1 hs1 ho1 hg2
      have p1t : Texts p1 w3.heap.size p1v (c ++ a) := by unfold Texts; rw [List.length_append, List.map_append]; exact ho2
      clear ho1 hv1 hs1 hb1 ho2 hv2 hg2
      have hlit := none_made p1
      have hlb := none_below p1
      have hls : p1.heap.size ≤ (p1.alloc (.cells #[] 9)).heap.size := hlb.size
      go_wp2_with (at_builtin; refine wp_append_list rfl (.tmp 52) (.tmp 53) rfl p1.heap.size rfl hlit rfl (((HC.out.below hB3).below p1b).below hlb) HC2.out  (by show (0 + _) * 16 ≤ _; omega) hls (fun e => by cases e) ?_)
      intro v1 p21 ho1 hv1 hg1
      have hb1 := grown_below hlb hls hlit hg1
      have hs1 : p1.heap.size ≤ p21.heap.size := hb1.size
      try rw [List.nil_append] at ho1
      clear hlit hlb hls hg1
      go_wp2_with (at_builtin; refine wp_append_list rfl (.tmp 54) (.tmp 55) rfl p1.heap.size rfl ho1 rfl (((HB.out.below hB3).below p1b).below hb1) HB2.out (by have k1 := HM.out; have k2 := HN.out; have k3 := HO.out; omega) hs1 hv1 ?_)
      intro p2v p2 ho2 hv2 hg2
      have p2b := grown_below hb1 hs1 ho1 hg2
      have p2t : Texts p2 p1.heap.size p2v (c ++ b) := by unfold Texts; rw [List.length_append, List.map_append]; exact ho2
      clear ho1 hv1 hs1 hb1 ho2 hv2 hg2
      have p1T := p1t.below p2b
      have p2B := p1b.trans (p2b.mono p1b.size)
      clear p1t p1b p2b
      have hB6 := below_call hB3 p2B
      obtain ⟨pa, pc, rfl, ps, _, _⟩ := p1T.form
      obtain ⟨qa, qc, rfl, qs, _, _⟩ := p2t.form
      simp only [List.length_append] at ps qs ⊢
      go_wp2_with fail
      go_at_call 11
      refine (HCCA.out _ _ _ _ _ ps qs).mono ?_
      rintro e w7 ⟨rfl, hb7⟩
      have hB7 := below_call hB6 hb7
      clear p1T p2t ps qs hB6 hb7 p2B hB3
      have hlit := none_made w7
      have hlb := none_below w7
      have hls : w7.heap.size ≤ (w7.alloc (.cells #[] 9)).heap.size := hlb.size
      go_wp2_with (at_builtin; refine wp_append_list rfl (.tmp 61) (.tmp 62) rfl w7.heap.size rfl hlit rfl ((HA.out.below hB7).below hlb) HA2.out  (by show (0 + _) * 16 ≤ _; omega) hls (fun e => by cases e) ?_)
      intro v1 p31 ho1 hv1 hg1
      have hb1 := grown_below hlb hls hlit hg1
      have hs1 : w7.heap.size ≤ p31.heap.size := hb1.size
      try rw [List.nil_append] at ho1
      clear hlit hlb hls hg1
      go_wp2_with (at_builtin; refine wp_append_list rfl (.tmp 63) (.tmp 64) rfl w7.heap.size rfl ho1 rfl ((HC.out.below hB7).below hb1) HC2.out (by have k1 := HM.out; have k2 := HN.out; have k3 := HO.out; omega) hs1 hv1 ?_)
      intro p3v p3 ho2 hv2 hg2
      have p3b := grown_below hb1 hs1 ho1 hg2
      have p3t : Texts p3 w7.heap.size p3v (a ++ c) := by unfold Texts; rw [List.length_append, List.map_append]; exact ho2
      clear ho1 hv1 hs1 hb1 ho2 hv2 hg2
      have hlit := none_made p3
      have hlb := none_below p3
      have hls : p3.heap.size ≤ (p3.alloc (.cells #[] 9)).heap.size := hlb.size
      go_wp2_with (at_builtin; refine wp_append_list rfl (.tmp 66) (.tmp 67) rfl p3.heap.size rfl hlit rfl (((HB.out.below hB7).below p3b).below hlb) HB2.out  (by show (0 + _) * 16 ≤ _; omega) hls (fun e => by cases e) ?_)
      intro v1 p41 ho1 hv1 hg1
      have hb1 := grown_below hlb hls hlit hg1
      have hs1 : p3.heap.size ≤ p41.heap.size := hb1.size
      try rw [List.nil_append] at ho1
      clear hlit hlb hls hg1
      go_wp2_with (at_builtin; refine wp_append_list rfl (.tmp 68) (.tmp 69) rfl p3.heap.size rfl ho1 rfl (((HC.out.below hB7).below p3b).below hb1) HC2.out (by have k1 := HM.out; have k2 := HN.out; have k3 := HO.out; omega) hs1 hv1 ?_)
      intro p4v p4 ho2 hv2 hg2
      have p4b := grown_below hb1 hs1 ho1 hg2
      have p4t : Texts p4 p3.heap.size p4v (b ++ c) := by unfold Texts; rw [List.length_append, List.map_append]; exact ho2
      clear ho1 hv1 hs1 hb1 ho2 hv2 hg2
      have p3T := p3t.below p4b
      have p4B := p3b.trans (p4b.mono p3b.size)
      clear p3t p3b p4b
      have hBA := below_call hB7 p4B
      obtain ⟨ra, rc, rfl, rs, _, _⟩ := p3T.form
      obtain ⟨sa, sc, rfl, ss, _, _⟩ := p4t.form
      simp only [List.length_append] at rs ss ⊢
      go_wp2_with fail
      go_at_call 11
      refine (HCAC.out _ _ _ _ _ rs ss).mono ?_
      rintro e w8 ⟨rfl, hb8⟩
      have hB8 := below_call hBA hb8
      clear p3T p4t rs ss hBA hb8 p4B hB7
      go_wp2_with fail
      go_at_call 15
      refine (HCSM.out _ (HA.out.below hB8) (HB.out.below hB8)).mono ?_
      rintro e w9 ⟨Y, hY, rfl, hb9⟩
      have hB9 := below_call hB8 hb9
      have f4 : (((d : Int) == 0) == Y) = true := by
        have h := HDZ.out
        cases Y with
        | true =>
          have : d = 0 := h.2 (hY.1 rfl)
          rw [this]; rfl
        | false =>
          have : d ≠ 0 := fun e => by have := hY.2 (h.1 e); cases this
          rw [beq_eq_false_iff_ne.2 (show (d : Int) ≠ 0 by omega)]
          rfl
      go_wp2_with fail
      go_ret
      exact ⟨rfl, hB9⟩
theorem own : ownKnob Try.prog.godebug = none := by kernel_rfl
theorem laidOut : laidOutB Try.prog = true := by kernel_rfl
set_option maxRecDepth 100000 in
theorem contract (hM : Impl) (H : Type) (enc : TypeId × Value → H) (W : World) (base : Nat) (args : Array Value) (ds gs : List (DataW H)) (before : List MemPlace)
    (hval0 : ∀ (j : Nat) t v, Try.f6.params[j]? = some t → args[j]? = some v → Value.okWide Try.prog W .any base t v)
    (hW : DataW.Whole enc Try.prog Try.f6.params.toList Rows.diffSameSpec.vars false W args.toList ds gs before)
    (hsz0 : (DataW.weightsEach Try.prog (Try.f6.params.toList ++ Rows.diffSameSpec.plain.varTypes Try.prog) (ds ++ gs)).all (· ≤ reachBytes) = true) :
    Calls Try.prog 6 args W fun e W' => ∃ v, e = .returned v ∧ Rows.diffSameSpec.post enc Try.prog Try.f6 false true false false W args v W' := by
  have hval : ∀ (j : Nat) t v, Try.f6.params[j]? = some t → args[j]? = some v → Value.okWide Try.prog W .any base t v := hval0
  have hsz := hsz0
  clear hsz0
  have hW' := hW
  obtain ⟨p, q, hA0, hV, rfl, hfz, hnd⟩ := hW
  have hA : DataW.TrodAll enc Try.prog W 0 (fun _ => true) true Try.f6.params.toList args.toList ds p := hA0
  rw [Try.params6] at hA hval hsz
  obtain ⟨v0, vs0, d0, ds0, p0, q0, hargs, rfl, rfl, h0, r0⟩ := trodAll_cons hA
  obtain ⟨v1, vs1, d1, ds1, p1, q1, rfl, rfl, rfl, h1, r1⟩ := trodAll_cons r0
  obtain ⟨v2, vs2, d2, ds2, p2, q2, rfl, rfl, rfl, h2, r2⟩ := trodAll_cons r1
  obtain ⟨rfl, rfl, rfl⟩ := trodAll_nil r2
  obtain rfl : args = #[v0, v1, v2] := by cases args; simp_all
  obtain ⟨rfl, rfl⟩ := trodVars_none hV
  obtain ⟨A0, n0, c0, rfl⟩ := okWide_slice Try.underlying22 (hval 0 22 v0 rfl rfl)
  have k0 := h0
  have lt0 : ∀ x ∈ p0, x.block < W.heap.size := by obtain ⟨m, hm⟩ := k0; exact DataW.trod_lt m _ _ _ hm
  obtain ⟨A1, n1, c1, rfl⟩ := okWide_slice Try.underlying22 (hval 1 22 v1 rfl rfl)
  have k1 := h1
  have lt1 : ∀ x ∈ p1, x.block < W.heap.size := by obtain ⟨m, hm⟩ := k1; exact DataW.trod_lt m _ _ _ hm
  obtain ⟨A2, n2, c2, rfl⟩ := okWide_slice Try.underlying22 (hval 2 22 v2 rfl rfl)
  have k2 := h2
  have lt2 : ∀ x ∈ p2, x.block < W.heap.size := by obtain ⟨m, hm⟩ := k2; exact DataW.trod_lt m _ _ _ hm
  clear hA0 hval0
  obtain ⟨l0, hl0⟩ := arg_list h0 (j := 0) hsz rfl rfl
  obtain ⟨l1, hl1⟩ := arg_list h1 (j := 1) hsz rfl rfl
  obtain ⟨l2, hl2⟩ := arg_list h2 (j := 2) hsz rfl rfl
  have e0 := hl0.1.1
  have e1 := hl1.1.1
  have e2 := hl2.1.1
  subst e0
  subst e1
  subst e2
  refine (walk hM A0 A1 A2 c0 c1 c2 l0 l1 l2 W hl0 hl1 hl2).mono fun e W' ⟨he, bel⟩ => ?_
  subst he
  exact ⟨_, rfl, _, _, _, [], _, [], hW', trodAll_mk1 (shut_bool Try.underlying4 _), (trodAll_cons_mk (Below.trod laidOut (by kernel_rfl) (of_decide_eq_true (by kernel_rfl)) k0 bel lt0) (trodAll_cons_mk (Below.trod laidOut (by kernel_rfl) (of_decide_eq_true (by kernel_rfl)) k1 bel lt1) (trodAll_cons_mk (Below.trod laidOut (by kernel_rfl) (of_decide_eq_true (by kernel_rfl)) k2 bel lt2) trodAll_mk0))), rfl, bel.frame _, fun h => by cases h⟩
set_option maxRecDepth 100000 in
theorem lifted (hM : Impl) (os : Os) (started : os.Started) (H : Type) (enc : TypeId × Value → H) :
    ReturnsInHanded {} Try.checked os 6 .any (Rows.diffSameSpec.pre6 enc Try.prog Try.f6 Rows.diffSameRow.domain false) (Rows.diffSameSpec.post enc Try.prog Try.f6 false true false false) := by
  refine returnsInHanded_of_change_sized (C := Try.checked) own started (by kernel_rfl) Try.func6
    (ChangeSpec.witness6 (enc := enc) (C := Try.checked) false ⟨#[], #[.slice none 0 0, .slice none 0 0, .slice none 0 0], []⟩ 8 (by kernel_rfl) (by kernel_rfl) (by kernel_rfl) (by kernel_rfl)) ?_
  intro W base args ds gs before hval0 hW _ hsz0 _
  exact contract hM H enc W base args ds gs before hval0 hW hsz0
theorem over (hM : Impl) : Rows.diffSameRow.holds Try.pinned (OpenSpec.ofChange Rows.diffSameSpec) :=
  OpenClaim.holds_of_wide 6 Try.f6 rfl rfl rfl rfl rfl rfl rfl ⟨rfl, rfl, rfl, rfl, rfl⟩ rfl rfl rfl rfl rfl (by kernel_rfl) Try.func6 (by kernel_rfl)
    (of_decide_eq_true (by kernel_rfl)) (by unfold Func.isWrapper; first | (rw [if_pos (by decide +kernel)]; kernel_rfl) | (rw [if_neg (by decide +kernel)]; exact ⟨rfl, rfl⟩))
    (fun os started H enc _ => lifted hM os started H enc)
end Go.Proofs.Ytmlmgmodgcpkpaa.diffSame

namespace Go.Proofs.Ytmlmgmodgcpkpaa
theorem diffSame_holds : Rows.DiffSameSaid := diffSame.over Ud.impl
#print axioms diffSame_holds
end Go.Proofs.Ytmlmgmodgcpkpaa
