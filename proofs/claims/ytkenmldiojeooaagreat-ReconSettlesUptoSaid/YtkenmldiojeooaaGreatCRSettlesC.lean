/-
  ReconSettles, of the landed code: every path at which the sides are unlike stands under just one item that says what goes where; what goes over overwrites nothing that has changed; what clashes has changed on both sides. Condition: the bound of the second form (what comes in holds at most 1048576 values and letters).
-/
import Derived.Test.YtkenmldiojeooaaGreatT6
import Derived.JoinedCond
import Derived.SizedLaws
import Derived.ChangeOld
import Derived.Deep.CondSized
namespace Go.Proofs.YtkenmldiojeooaaGreat.reconSettles
open Go.ChangeMaps (open_string shut_string)
open Go.ChangeShapes Go.WideShapes Go.ChangeAt Go.RowKit Tx Pm Pr En Rc
set_option linter.unusedVariables false
set_option linter.unusedSimpArgs false
open Classical in
theorem told_next {R : List It} {k : Nat} {x : It} (p : ByteArray) (h : R[k]? = some x) : Rc.told (R.take (k + 1)) p = Rc.told (R.take k) p + (if x.2 ≠ 1 ∧ und p.data.toList x.1.data.toList = true then 1 else 0) := by
  unfold Rc.told
  rw [take_next h, List.filter_append, List.length_append]
  by_cases hc : x.2 ≠ 1 ∧ und p.data.toList x.1.data.toList = true
  · rw [if_pos hc, List.filter_cons, if_pos (decide_eq_true hc)]; rfl
  · rw [if_neg hc, List.filter_cons, if_neg (by rw [decide_eq_false hc]; decide)]; rfl
theorem told_nil (p : ByteArray) : Rc.told [] p = 0 := by unfold Rc.told; rfl
set_option maxRecDepth 100000 in
set_option maxHeartbeats 8000000 in
theorem walk (A0 : Option Addr) (n0 c0 : Nat) (l0 : List Et) (A1 : Option Addr) (n1 c1 : Nat) (l1 : List Et) (A2 : Option Addr) (n2 c2 : Nat) (l2 : List Et) (p : ByteArray) (w : World) (e0 : Ents w A0 n0 l0) (z0 : A0 = none → c0 = 0) (m0 : n0 ≤ 1048576) (s0 : Small l0) (e1 : Ents w A1 n1 l1) (z1 : A1 = none → c1 = 0) (m1 : n1 ≤ 1048576) (s1 : Small l1) (e2 : Ents w A2 n2 l2) (z2 : A2 = none → c2 = 0) (m2 : n2 ≤ 1048576) (s2 : Small l2) (hp : p.size ≤ 1048576) :
    Calls Tryz.prog 7 #[.slice A0 n0 c0, .slice A1 n1 c1, .slice A2 n2 c2, .string p] w fun e w' => e = .returned (.bool true) ∧ Below w.heap.size w w' := by
  have CT := Lib.hid (fun W (h : Below w.heap.size w W) => trees_any A0 A1 A2 n0 n1 n2 c0 c1 c2 l0 l1 l2 W (e0.below h) (e1.below h) (e2.below h) m0 m1 m2 s0 s1 s2)
  have E0 := Lib.hid (fun W (h : Below w.heap.size w W) => e0.below h)
  have E1 := Lib.hid (fun W (h : Below w.heap.size w W) => e1.below h)
  have E2 := Lib.hid (fun W (h : Below w.heap.size w W) => e2.below h)
  have Z0 := Lib.hid z0
  have S0 := Lib.hid s0
  have Z1 := Lib.hid z1
  have S1 := Lib.hid s1
  have Z2 := Lib.hid z2
  have S2 := Lib.hid s2
  clear e0 z0 s0 e1 z1 s1 e2 z2 s2
  go_enter Tryz.func7, Tryz.ntmps7
  go_wp2_with fail
  go_at_call 9
  refine (awake_any17 _).mono ?_
  rintro e w1 ⟨rfl, b1⟩
  have HB1 := Lib.hid b1
  clear b1
  go_wp2_with fail
  go_at_call 10
  refine (CT.out _ HB1.out).mono ?_
  rintro e w2 ⟨B, hB, rfl, b2⟩
  have HB2 := Lib.hid (below_call HB1.out b2)
  have HBB := Lib.hid hB
  clear b2 hB CT HB1
  cases B with
  | false =>
    clear E0 Z0 S0 E1 Z1 S1 E2 Z2 S2 
    go_wp2_with fail
    go_at_call 9
    refine (awake_any17 _).mono ?_
    rintro e w3 ⟨rfl, b3⟩
    have HB3 := Lib.hid (below_call HB2.out b3)
    clear b3
    go_wp2_with fail
    go_ret
    exact ⟨rfl, HB3.out⟩
  | true =>
    obtain ⟨ta, th, ts⟩ := HBB.out.1 rfl
    clear HBB
    have I1 := Lib.hid (fun W (h : Below w.heap.size w W) => its_any ta th ts A0 A1 A2 n0 n1 n2 c0 c1 c2 W (E0.out W h) (E1.out W h) (E2.out W h) Z0.out Z1.out Z2.out)
    have y1 := its_len ta th ts
    have q1 := items_its (M := MM) l0 l1 l2
    have q2 := @Its.path MM l0 l1 l2 (items MM l0 l1 l2) q1 ta th ts
    have q3 := told_le q1 ta th ts p
    have q4 := fun hu => told_one (p := p) q1 ta th ts hu
    have y0 := Rc.tree_len ta
    have yh := Rc.tree_len th
    have ys := Rc.tree_len ts
    have g1 := Lib.hid (fun W (h : Below w.heap.size w W) => refGet_any A1 n1 c1 l1 p W (E1.out W h) (by omega))
    have g2 := Lib.hid (fun W (h : Below w.heap.size w W) => refGet_any A2 n2 c2 l2 p W (E2.out W h) (by omega))
    have u0 : small l0 := fun x hx => by have := tree_size ta hx; omega
    have u1 : small l1 := fun x hx => by have := tree_size th hx; omega
    have u2 : small l2 := fun x hx => by have := tree_size ts hx; omega
    have SUA := Lib.hid (fun (q : ByteArray) (hq : q.size ≤ 1000) W (h : Below w.heap.size w W) => refSub_any A0 n0 c0 l0 q W (E0.out W h) (by omega) u0 (by omega))
    have SUH := Lib.hid (fun (q : ByteArray) (hq : q.size ≤ 1000) W (h : Below w.heap.size w W) => refSub_any A1 n1 c1 l1 q W (E1.out W h) (by omega) u1 (by omega))
    have SUS := Lib.hid (fun (q : ByteArray) (hq : q.size ≤ 1000) W (h : Below w.heap.size w W) => refSub_any A2 n2 c2 l2 q W (E2.out W h) (by omega) u2 (by omega))
    have LA0 := Lib.hid (fun q => sub_len ta q)
    have LH0 := Lib.hid (fun q => sub_len th q)
    have LS0 := Lib.hid (fun q => sub_len ts q)
    have QM := Lib.hid (fun (x : It) (hx : x ∈ items MM l0 l1 l2) => ((q1.mem x).1 hx).2.2)
    have QR := Lib.hid q1.rise
    have Q2 := Lib.hid (fun (x : It) (hx : x ∈ items MM l0 l1 l2) => q2 hx)
    have Q3 := Lib.hid q3
    have Q4 := Lib.hid q4
    clear q1 q2 q3 q4 u0 u1 u2 y0 yh ys ta th ts E0 E1 E2 Z0 Z1 Z2 S0 S1 S2
    generalize items MM l0 l1 l2 = R at I1 y1 QM QR Q2 Q3 Q4
    go_wp2_with fail
    go_at_call 12
    refine (I1.out _ HB2.out).mono ?_
    rintro e w4 ⟨v4, rfl, o4, b4⟩
    have HB4 := Lib.hid (below_call HB2.out b4)
    obtain ⟨a4, k4, rfl, r4⟩ := o4.form
    have HW4 : Hid (∀ {W : World}, Below w4.heap.size w4 W → Below w.heap.size w W) := fun h => below_call HB4.out h
    clear o4 b4 I1 HB2
    obtain ⟨N, hN⟩ : ∃ N, N = R.length := ⟨_, rfl⟩
    rw [← hN] at r4 y1 ⊢
    have HN := Lib.hid hN
    have HR4 := Lib.hid r4
    clear hN r4
    go_wp2_with fail
    go_loopw [10, 11] (fun u i wr => ∃ (k t : Nat), k ≤ N ∧ i = .int .i64 k ∧ u = .int .i64 t ∧ t ≤ k ∧ Hid (Rc.told (R.take k) p = t) ∧ Below w4.heap.size w4 wr) (fun _ i _ => N - (intOf i).toNat)
    case atStart => exact ⟨0, 0, Nat.zero_le _, rfl, rfl, Nat.le_refl _, told_nil p, Below.refl _ _⟩
    case round =>
      obtain ⟨k, t, hk, rfl, rfl, htk, hT, hW⟩ := hrel
      by_cases hlt : k < N
      · obtain ⟨x, hx⟩ : ∃ x, R[k]? = some x := ⟨_, List.getElem?_eq_getElem (by rw [← HN.out]; exact hlt)⟩
        have hxm := List.mem_of_getElem? hx
        obtain ⟨g4, o4, rfl, hg4, hc4⟩ := HR4.out.2.resolve_left (by omega)
        have hce : ∀ W, Below w4.heap.size w4 W → W.cell? ⟨g4, o4 + k * 2, none⟩ = some (.string x.1) ∧ W.cell? ⟨g4, o4 + k * 2 + 1, none⟩ = some (.int .i64 (x.2 : Nat)) := fun W h => ⟨(h.cell (p := ⟨g4, _, none⟩) hg4).trans (hc4 k _ hx).1, (h.cell (p := ⟨g4, _, none⟩) hg4).trans (hc4 k _ hx).2⟩
        have hprev : k = 0 ∨ ∃ j z, k = j + 1 ∧ Op.bytesLess z.toList x.1.toList = true ∧ ∀ W, Below w4.heap.size w4 W → W.cell? ⟨g4, o4 + j * 2, none⟩ = some (.string z) := by
          cases k with
          | zero => exact .inl rfl
          | succ j =>
            have hj : j < R.length := by rw [← HN.out]; omega
            refine .inr ⟨j, R[j].1, rfl, ?_, fun W h => (h.cell (p := ⟨g4, _, none⟩) hg4).trans (hc4 j _ (List.getElem?_eq_getElem hj)).1⟩
            obtain ⟨hk2, he2⟩ := List.getElem?_eq_some_iff.1 hx
            have h1 := QR.out
            rw [List.pairwise_map] at h1
            have := List.pairwise_iff_getElem.1 h1 j (j + 1) hj hk2 (by omega)
            rw [he2] at this
            exact this
        have hq1 := path_len5 (Q2.out x hxm).1
        have hck : ∀ W, Calls Tryz.prog 22 #[.string x.1, .int .i64 5] W fun e w' => e = .returned (.int .i64 0) ∧ Below W.heap.size W w' := fun W => by
          have h1 := refCheck_any x.1 5 W (by omega) (by omega) (by omega)
          rw [(Q2.out x hxm).1] at h1
          exact h1
        have hcu := fun W => refUnder_any p x.1 W (by omega) (by omega)
        have htn := told_next p hx
        rw [hT.out] at htn
        obtain ⟨hv1, hv2⟩ := QM.out x hxm
        have hv5 : x.2 = 1 ∨ x.2 = 2 ∨ x.2 = 3 ∨ x.2 = 4 ∨ x.2 = 5 := by have := said_five (M := MM) l0 l1 l2 x.1; omega
        have hfv : (x.2 = 3 → tsub l1 x.1 = tsub l0 x.1) ∧ (x.2 = 2 → tsub l2 x.1 = tsub l0 x.1) ∧ ((x.2 = 4 ∨ x.2 = 5) → tsub l1 x.1 ≠ tsub l0 x.1 ∧ tsub l2 x.1 ≠ tsub l0 x.1 ∧ tsub l1 x.1 ≠ tsub l2 x.1) :=
          ⟨fun h => said_hubs (hv1.symm.trans h), fun h => said_sides (hv1.symm.trans h), fun h => said_meets (h.imp (hv1.symm.trans ·) (hv1.symm.trans ·))⟩
        have sa := SUA.out x.1 hq1
        have sh := SUH.out x.1 hq1
        have ss := SUS.out x.1 hq1
        have la := LA0.out x.1
        have lh := LH0.out x.1
        have ls := LS0.out x.1
        unfold SubTo at sa sh ss
        clear hx hxm hc4 hv1 hv2
        obtain ⟨P, V⟩ := x
        simp only at hce hprev hq1 hck hcu htn hv5 hfv sa sh ss la lh ls
        generalize tsub l0 P = LA at sa hfv la
        generalize tsub l1 P = LH at sh hfv lh
        generalize tsub l2 P = LS at ss hfv ls
        generalize und p.data.toList P.data.toList = U at hcu htn
        have HCE := Lib.hid hce
        have CK := Lib.hid hck
        have CU := Lib.hid hcu
        have HTN := Lib.hid htn
        have HV5 := Lib.hid hv5
        have HFV := Lib.hid hfv
        have SA := Lib.hid sa
        have SH := Lib.hid sh
        have SS := Lib.hid ss
        obtain ⟨d1, d2⟩ := hce _ hW
        have hltz : (k : Int) < (N : Int) := by omega
        clear hce hck hcu htn hv5 hfv sa sh ss hT SUA SUH SUS LA0 LH0 LS0 QM QR Q2 Q3 Q4 g1 g2 hg4 HN HR4
        rcases hprev with hk0 | ⟨j, z, hj, hless, hz⟩
        · have hkz : ¬ (0 : Int) < (k : Int) := by omega
          clear hk0
          go_wp2_with fail
          go_at_call 22
          refine (CK.out _).mono ?_
          rintro e w5 ⟨rfl, b5⟩
          have HB5 := Lib.hid (below_call hW b5)
          clear b5 hW d1 CK
          obtain ⟨d1, d2⟩ := HCE.out _ HB5.out
          go_wp2_with fail
          go_at_call 23
          refine (SA.out _ (HW4.out HB5.out)).mono ?_
          rintro e w6 ⟨v6, rfl, o6, b6⟩
          obtain ⟨a6, c6, rfl, r6, _⟩ := Own.form o6
          have HB6 := Lib.hid (below_call HB5.out b6)
          clear o6 b6 d1 d2 HB5 SA
          go_wp2_with fail
          go_at_call 23
          refine (SH.out _ (HW4.out HB6.out)).mono ?_
          rintro e w7 ⟨v7, rfl, o7, b7⟩
          obtain ⟨a7, c7, rfl, r7, _⟩ := Own.form o7
          have r6 := r6.below b7
          have HB7 := Lib.hid (below_call HB6.out b7)
          clear o7 b7 HB6 SH
          go_wp2_with fail
          go_at_call 23
          refine (SS.out _ (HW4.out HB7.out)).mono ?_
          rintro e w8 ⟨v8, rfl, o8, b8⟩
          obtain ⟨a8, c8, rfl, r8, _⟩ := Own.form o8
          have r6 := r6.below b8
          have r7 := r7.below b8
          have HB8 := Lib.hid (below_call HB7.out b8)
          clear o8 b8 HB7 SS
          have SMha := Lib.hid (fun W (h : Below w4.heap.size w4 W) (h2 : Below w8.heap.size w8 W) => refSame_any a7 a6 _ _ c7 c6 LH LA W (r7.below h2) (r6.below h2) (by omega) (by omega))
          have SMsa := Lib.hid (fun W (h : Below w4.heap.size w4 W) (h2 : Below w8.heap.size w8 W) => refSame_any a8 a6 _ _ c8 c6 LS LA W (r8.below h2) (r6.below h2) (by omega) (by omega))
          have SMhs := Lib.hid (fun W (h : Below w4.heap.size w4 W) (h2 : Below w8.heap.size w8 W) => refSame_any a7 a8 _ _ c7 c8 LH LS W (r7.below h2) (r8.below h2) (by omega) (by omega))
          obtain ⟨d1, d2⟩ := HCE.out _ HB8.out
          clear r6 r7 r8
          rcases HV5.out with hv | hv | hv | hv | hv
          · subst hv
            clear SMha SMsa SMhs HFV CU
            as_aux_lemma =>
              go_wp2_with fail
              go_roundw
              case rel => exact ⟨k + 1, t, by omega, by go_num, rfl, by omega, by have h := HTN.out; rw [if_neg (fun h => h.1 rfl)] at h; exact h, HB8.out⟩
              case measure => simp only [intOf]; omega
          · subst hv
            have K8 : Hid (Below w8.heap.size w8 w8) := Below.refl _ _
            have Fsa := Lib.hid (HFV.out.2.1 rfl)
            clear SMha SMhs HFV
            as_aux_lemma =>
              go_wp2_with fail
              go_at_call 24
              refine (SMsa.out _ HB8.out K8.out).mono ?_
              rintro e w9 ⟨BB, hBB, rfl, b9⟩
              obtain rfl : BB = true := hBB.2 Fsa.out
              have HB9 := Lib.hid (below_call HB8.out b9)
              have K9 := Lib.hid (below_call K8.out b9)
              clear hBB b9 HB8 K8 d1 d2
              obtain ⟨d1, d2⟩ := HCE.out _ HB9.out
              obtain ⟨d1, d2⟩ := HCE.out _ HB9.out
              go_wp2_with fail
              go_at_call 25
              refine (CU.out _).mono ?_
              rintro e w10 ⟨rfl, rfl⟩
              cases U with
              | true =>
                go_wp2_with fail
                go_roundw
                case rel => exact ⟨k + 1, t + 1, by omega, by go_num, by go_num, by omega, by have h := HTN.out; rw [if_pos ⟨by decide, by first | rfl | trivial⟩] at h; exact h, HB9.out⟩
                case measure => simp only [intOf]; omega
              | false =>
                go_wp2_with fail
                go_roundw
                case rel => exact ⟨k + 1, t, by omega, by go_num, rfl, by omega, by have h := HTN.out; rw [if_neg (fun h => by cases h.2)] at h; exact h, HB9.out⟩
                case measure => simp only [intOf]; omega
          · subst hv
            have K8 : Hid (Below w8.heap.size w8 w8) := Below.refl _ _
            have Fha := Lib.hid (HFV.out.1 rfl)
            clear SMsa SMhs HFV
            as_aux_lemma =>
              go_wp2_with fail
              go_at_call 24
              refine (SMha.out _ HB8.out K8.out).mono ?_
              rintro e w9 ⟨BB, hBB, rfl, b9⟩
              obtain rfl : BB = true := hBB.2 Fha.out
              have HB9 := Lib.hid (below_call HB8.out b9)
              have K9 := Lib.hid (below_call K8.out b9)
              clear hBB b9 HB8 K8 d1 d2
              obtain ⟨d1, d2⟩ := HCE.out _ HB9.out
              obtain ⟨d1, d2⟩ := HCE.out _ HB9.out
              go_wp2_with fail
              go_at_call 25
              refine (CU.out _).mono ?_
              rintro e w10 ⟨rfl, rfl⟩
              cases U with
              | true =>
                go_wp2_with fail
                go_roundw
                case rel => exact ⟨k + 1, t + 1, by omega, by go_num, by go_num, by omega, by have h := HTN.out; rw [if_pos ⟨by decide, by first | rfl | trivial⟩] at h; exact h, HB9.out⟩
                case measure => simp only [intOf]; omega
              | false =>
                go_wp2_with fail
                go_roundw
                case rel => exact ⟨k + 1, t, by omega, by go_num, rfl, by omega, by have h := HTN.out; rw [if_neg (fun h => by cases h.2)] at h; exact h, HB9.out⟩
                case measure => simp only [intOf]; omega
          · subst hv
            have K8 : Hid (Below w8.heap.size w8 w8) := Below.refl _ _
            have Fha := Lib.hid (HFV.out.2.2 (by decide)).1
            have Fsa := Lib.hid (HFV.out.2.2 (by decide)).2.1
            have Fhs := Lib.hid (HFV.out.2.2 (by decide)).2.2
            clear HFV
            as_aux_lemma =>
              go_wp2_with fail
              go_at_call 24
              refine (SMha.out _ HB8.out K8.out).mono ?_
              rintro e w9 ⟨BB, hBB, rfl, b9⟩
              obtain rfl : BB = false := Bool.eq_false_iff.2 fun h => Fha.out (hBB.1 h)
              have HB9 := Lib.hid (below_call HB8.out b9)
              have K9 := Lib.hid (below_call K8.out b9)
              clear hBB b9 HB8 K8 d1 d2
              obtain ⟨d1, d2⟩ := HCE.out _ HB9.out
              go_wp2_with fail
              go_at_call 24
              refine (SMsa.out _ HB9.out K9.out).mono ?_
              rintro e w10 ⟨BB, hBB, rfl, b10⟩
              obtain rfl : BB = false := Bool.eq_false_iff.2 fun h => Fsa.out (hBB.1 h)
              have HB10 := Lib.hid (below_call HB9.out b10)
              have K10 := Lib.hid (below_call K9.out b10)
              clear hBB b10 HB9 K9 d1 d2
              obtain ⟨d1, d2⟩ := HCE.out _ HB10.out
              go_wp2_with fail
              go_at_call 24
              refine (SMhs.out _ HB10.out K10.out).mono ?_
              rintro e w11 ⟨BB, hBB, rfl, b11⟩
              obtain rfl : BB = false := Bool.eq_false_iff.2 fun h => Fhs.out (hBB.1 h)
              have HB11 := Lib.hid (below_call HB10.out b11)
              have K11 := Lib.hid (below_call K10.out b11)
              clear hBB b11 HB10 K10 d1 d2
              obtain ⟨d1, d2⟩ := HCE.out _ HB11.out
              obtain ⟨d1, d2⟩ := HCE.out _ HB11.out
              go_wp2_with fail
              go_at_call 25
              refine (CU.out _).mono ?_
              rintro e w12 ⟨rfl, rfl⟩
              cases U with
              | true =>
                go_wp2_with fail
                go_roundw
                case rel => exact ⟨k + 1, t + 1, by omega, by go_num, by go_num, by omega, by have h := HTN.out; rw [if_pos ⟨by decide, by first | rfl | trivial⟩] at h; exact h, HB11.out⟩
                case measure => simp only [intOf]; omega
              | false =>
                go_wp2_with fail
                go_roundw
                case rel => exact ⟨k + 1, t, by omega, by go_num, rfl, by omega, by have h := HTN.out; rw [if_neg (fun h => by cases h.2)] at h; exact h, HB11.out⟩
                case measure => simp only [intOf]; omega
          · subst hv
            have K8 : Hid (Below w8.heap.size w8 w8) := Below.refl _ _
            have Fha := Lib.hid (HFV.out.2.2 (by decide)).1
            have Fsa := Lib.hid (HFV.out.2.2 (by decide)).2.1
            have Fhs := Lib.hid (HFV.out.2.2 (by decide)).2.2
            clear HFV
            as_aux_lemma =>
              go_wp2_with fail
              go_at_call 24
              refine (SMha.out _ HB8.out K8.out).mono ?_
              rintro e w9 ⟨BB, hBB, rfl, b9⟩
              obtain rfl : BB = false := Bool.eq_false_iff.2 fun h => Fha.out (hBB.1 h)
              have HB9 := Lib.hid (below_call HB8.out b9)
              have K9 := Lib.hid (below_call K8.out b9)
              clear hBB b9 HB8 K8 d1 d2
              obtain ⟨d1, d2⟩ := HCE.out _ HB9.out
              go_wp2_with fail
              go_at_call 24
              refine (SMsa.out _ HB9.out K9.out).mono ?_
              rintro e w10 ⟨BB, hBB, rfl, b10⟩
              obtain rfl : BB = false := Bool.eq_false_iff.2 fun h => Fsa.out (hBB.1 h)
              have HB10 := Lib.hid (below_call HB9.out b10)
              have K10 := Lib.hid (below_call K9.out b10)
              clear hBB b10 HB9 K9 d1 d2
              obtain ⟨d1, d2⟩ := HCE.out _ HB10.out
              go_wp2_with fail
              go_at_call 24
              refine (SMhs.out _ HB10.out K10.out).mono ?_
              rintro e w11 ⟨BB, hBB, rfl, b11⟩
              obtain rfl : BB = false := Bool.eq_false_iff.2 fun h => Fhs.out (hBB.1 h)
              have HB11 := Lib.hid (below_call HB10.out b11)
              have K11 := Lib.hid (below_call K10.out b11)
              clear hBB b11 HB10 K10 d1 d2
              obtain ⟨d1, d2⟩ := HCE.out _ HB11.out
              obtain ⟨d1, d2⟩ := HCE.out _ HB11.out
              go_wp2_with fail
              go_at_call 25
              refine (CU.out _).mono ?_
              rintro e w12 ⟨rfl, rfl⟩
              cases U with
              | true =>
                go_wp2_with fail
                go_roundw
                case rel => exact ⟨k + 1, t + 1, by omega, by go_num, by go_num, by omega, by have h := HTN.out; rw [if_pos ⟨by decide, by first | rfl | trivial⟩] at h; exact h, HB11.out⟩
                case measure => simp only [intOf]; omega
              | false =>
                go_wp2_with fail
                go_roundw
                case rel => exact ⟨k + 1, t, by omega, by go_num, rfl, by omega, by have h := HTN.out; rw [if_neg (fun h => by cases h.2)] at h; exact h, HB11.out⟩
                case measure => simp only [intOf]; omega
        · subst hj
          have hsub : ((j + 1 : Nat) : Int) - 1 = j := by omega
          have HZ := Lib.hid hz
          clear hz
          go_wp2_with fail
          go_at_call 22
          refine (CK.out _).mono ?_
          rintro e w5 ⟨rfl, b5⟩
          have HB5 := Lib.hid (below_call hW b5)
          clear b5 hW d1 CK
          obtain ⟨d1, d2⟩ := HCE.out _ HB5.out
          have hzc := HZ.out _ HB5.out
          go_wp2_with fail
          go_at_call 23
          refine (SA.out _ (HW4.out HB5.out)).mono ?_
          rintro e w6 ⟨v6, rfl, o6, b6⟩
          obtain ⟨a6, c6, rfl, r6, _⟩ := Own.form o6
          have HB6 := Lib.hid (below_call HB5.out b6)
          clear o6 b6 d1 d2 HB5 SA hzc HZ
          go_wp2_with fail
          go_at_call 23
          refine (SH.out _ (HW4.out HB6.out)).mono ?_
          rintro e w7 ⟨v7, rfl, o7, b7⟩
          obtain ⟨a7, c7, rfl, r7, _⟩ := Own.form o7
          have r6 := r6.below b7
          have HB7 := Lib.hid (below_call HB6.out b7)
          clear o7 b7 HB6 SH
          go_wp2_with fail
          go_at_call 23
          refine (SS.out _ (HW4.out HB7.out)).mono ?_
          rintro e w8 ⟨v8, rfl, o8, b8⟩
          obtain ⟨a8, c8, rfl, r8, _⟩ := Own.form o8
          have r6 := r6.below b8
          have r7 := r7.below b8
          have HB8 := Lib.hid (below_call HB7.out b8)
          clear o8 b8 HB7 SS
          have SMha := Lib.hid (fun W (h : Below w4.heap.size w4 W) (h2 : Below w8.heap.size w8 W) => refSame_any a7 a6 _ _ c7 c6 LH LA W (r7.below h2) (r6.below h2) (by omega) (by omega))
          have SMsa := Lib.hid (fun W (h : Below w4.heap.size w4 W) (h2 : Below w8.heap.size w8 W) => refSame_any a8 a6 _ _ c8 c6 LS LA W (r8.below h2) (r6.below h2) (by omega) (by omega))
          have SMhs := Lib.hid (fun W (h : Below w4.heap.size w4 W) (h2 : Below w8.heap.size w8 W) => refSame_any a7 a8 _ _ c7 c8 LH LS W (r7.below h2) (r8.below h2) (by omega) (by omega))
          obtain ⟨d1, d2⟩ := HCE.out _ HB8.out
          clear r6 r7 r8
          rcases HV5.out with hv | hv | hv | hv | hv
          · subst hv
            clear SMha SMsa SMhs HFV CU
            as_aux_lemma =>
              go_wp2_with fail
              go_roundw
              case rel => exact ⟨j + 1 + 1, t, by omega, by go_num, rfl, by omega, by have h := HTN.out; rw [if_neg (fun h => h.1 rfl)] at h; exact h, HB8.out⟩
              case measure => simp only [intOf]; omega
          · subst hv
            have K8 : Hid (Below w8.heap.size w8 w8) := Below.refl _ _
            have Fsa := Lib.hid (HFV.out.2.1 rfl)
            clear SMha SMhs HFV
            as_aux_lemma =>
              go_wp2_with fail
              go_at_call 24
              refine (SMsa.out _ HB8.out K8.out).mono ?_
              rintro e w9 ⟨BB, hBB, rfl, b9⟩
              obtain rfl : BB = true := hBB.2 Fsa.out
              have HB9 := Lib.hid (below_call HB8.out b9)
              have K9 := Lib.hid (below_call K8.out b9)
              clear hBB b9 HB8 K8 d1 d2
              obtain ⟨d1, d2⟩ := HCE.out _ HB9.out
              obtain ⟨d1, d2⟩ := HCE.out _ HB9.out
              go_wp2_with fail
              go_at_call 25
              refine (CU.out _).mono ?_
              rintro e w10 ⟨rfl, rfl⟩
              cases U with
              | true =>
                go_wp2_with fail
                go_roundw
                case rel => exact ⟨j + 1 + 1, t + 1, by omega, by go_num, by go_num, by omega, by have h := HTN.out; rw [if_pos ⟨by decide, by first | rfl | trivial⟩] at h; exact h, HB9.out⟩
                case measure => simp only [intOf]; omega
              | false =>
                go_wp2_with fail
                go_roundw
                case rel => exact ⟨j + 1 + 1, t, by omega, by go_num, rfl, by omega, by have h := HTN.out; rw [if_neg (fun h => by cases h.2)] at h; exact h, HB9.out⟩
                case measure => simp only [intOf]; omega
          · subst hv
            have K8 : Hid (Below w8.heap.size w8 w8) := Below.refl _ _
            have Fha := Lib.hid (HFV.out.1 rfl)
            clear SMsa SMhs HFV
            as_aux_lemma =>
              go_wp2_with fail
              go_at_call 24
              refine (SMha.out _ HB8.out K8.out).mono ?_
              rintro e w9 ⟨BB, hBB, rfl, b9⟩
              obtain rfl : BB = true := hBB.2 Fha.out
              have HB9 := Lib.hid (below_call HB8.out b9)
              have K9 := Lib.hid (below_call K8.out b9)
              clear hBB b9 HB8 K8 d1 d2
              obtain ⟨d1, d2⟩ := HCE.out _ HB9.out
              obtain ⟨d1, d2⟩ := HCE.out _ HB9.out
              go_wp2_with fail
              go_at_call 25
              refine (CU.out _).mono ?_
              rintro e w10 ⟨rfl, rfl⟩
              cases U with
              | true =>
                go_wp2_with fail
                go_roundw
                case rel => exact ⟨j + 1 + 1, t + 1, by omega, by go_num, by go_num, by omega, by have h := HTN.out; rw [if_pos ⟨by decide, by first | rfl | trivial⟩] at h; exact h, HB9.out⟩
                case measure => simp only [intOf]; omega
              | false =>
                go_wp2_with fail
                go_roundw
                case rel => exact ⟨j + 1 + 1, t, by omega, by go_num, rfl, by omega, by have h := HTN.out; rw [if_neg (fun h => by cases h.2)] at h; exact h, HB9.out⟩
                case measure => simp only [intOf]; omega
          · subst hv
            have K8 : Hid (Below w8.heap.size w8 w8) := Below.refl _ _
            have Fha := Lib.hid (HFV.out.2.2 (by decide)).1
            have Fsa := Lib.hid (HFV.out.2.2 (by decide)).2.1
            have Fhs := Lib.hid (HFV.out.2.2 (by decide)).2.2
            clear HFV
            as_aux_lemma =>
              go_wp2_with fail
              go_at_call 24
              refine (SMha.out _ HB8.out K8.out).mono ?_
              rintro e w9 ⟨BB, hBB, rfl, b9⟩
              obtain rfl : BB = false := Bool.eq_false_iff.2 fun h => Fha.out (hBB.1 h)
              have HB9 := Lib.hid (below_call HB8.out b9)
              have K9 := Lib.hid (below_call K8.out b9)
              clear hBB b9 HB8 K8 d1 d2
              obtain ⟨d1, d2⟩ := HCE.out _ HB9.out
              go_wp2_with fail
              go_at_call 24
              refine (SMsa.out _ HB9.out K9.out).mono ?_
              rintro e w10 ⟨BB, hBB, rfl, b10⟩
              obtain rfl : BB = false := Bool.eq_false_iff.2 fun h => Fsa.out (hBB.1 h)
              have HB10 := Lib.hid (below_call HB9.out b10)
              have K10 := Lib.hid (below_call K9.out b10)
              clear hBB b10 HB9 K9 d1 d2
              obtain ⟨d1, d2⟩ := HCE.out _ HB10.out
              go_wp2_with fail
              go_at_call 24
              refine (SMhs.out _ HB10.out K10.out).mono ?_
              rintro e w11 ⟨BB, hBB, rfl, b11⟩
              obtain rfl : BB = false := Bool.eq_false_iff.2 fun h => Fhs.out (hBB.1 h)
              have HB11 := Lib.hid (below_call HB10.out b11)
              have K11 := Lib.hid (below_call K10.out b11)
              clear hBB b11 HB10 K10 d1 d2
              obtain ⟨d1, d2⟩ := HCE.out _ HB11.out
              obtain ⟨d1, d2⟩ := HCE.out _ HB11.out
              go_wp2_with fail
              go_at_call 25
              refine (CU.out _).mono ?_
              rintro e w12 ⟨rfl, rfl⟩
              cases U with
              | true =>
                go_wp2_with fail
                go_roundw
                case rel => exact ⟨j + 1 + 1, t + 1, by omega, by go_num, by go_num, by omega, by have h := HTN.out; rw [if_pos ⟨by decide, by first | rfl | trivial⟩] at h; exact h, HB11.out⟩
                case measure => simp only [intOf]; omega
              | false =>
                go_wp2_with fail
                go_roundw
                case rel => exact ⟨j + 1 + 1, t, by omega, by go_num, rfl, by omega, by have h := HTN.out; rw [if_neg (fun h => by cases h.2)] at h; exact h, HB11.out⟩
                case measure => simp only [intOf]; omega
          · subst hv
            have K8 : Hid (Below w8.heap.size w8 w8) := Below.refl _ _
            have Fha := Lib.hid (HFV.out.2.2 (by decide)).1
            have Fsa := Lib.hid (HFV.out.2.2 (by decide)).2.1
            have Fhs := Lib.hid (HFV.out.2.2 (by decide)).2.2
            clear HFV
            as_aux_lemma =>
              go_wp2_with fail
              go_at_call 24
              refine (SMha.out _ HB8.out K8.out).mono ?_
              rintro e w9 ⟨BB, hBB, rfl, b9⟩
              obtain rfl : BB = false := Bool.eq_false_iff.2 fun h => Fha.out (hBB.1 h)
              have HB9 := Lib.hid (below_call HB8.out b9)
              have K9 := Lib.hid (below_call K8.out b9)
              clear hBB b9 HB8 K8 d1 d2
              obtain ⟨d1, d2⟩ := HCE.out _ HB9.out
              go_wp2_with fail
              go_at_call 24
              refine (SMsa.out _ HB9.out K9.out).mono ?_
              rintro e w10 ⟨BB, hBB, rfl, b10⟩
              obtain rfl : BB = false := Bool.eq_false_iff.2 fun h => Fsa.out (hBB.1 h)
              have HB10 := Lib.hid (below_call HB9.out b10)
              have K10 := Lib.hid (below_call K9.out b10)
              clear hBB b10 HB9 K9 d1 d2
              obtain ⟨d1, d2⟩ := HCE.out _ HB10.out
              go_wp2_with fail
              go_at_call 24
              refine (SMhs.out _ HB10.out K10.out).mono ?_
              rintro e w11 ⟨BB, hBB, rfl, b11⟩
              obtain rfl : BB = false := Bool.eq_false_iff.2 fun h => Fhs.out (hBB.1 h)
              have HB11 := Lib.hid (below_call HB10.out b11)
              have K11 := Lib.hid (below_call K10.out b11)
              clear hBB b11 HB10 K10 d1 d2
              obtain ⟨d1, d2⟩ := HCE.out _ HB11.out
              obtain ⟨d1, d2⟩ := HCE.out _ HB11.out
              go_wp2_with fail
              go_at_call 25
              refine (CU.out _).mono ?_
              rintro e w12 ⟨rfl, rfl⟩
              cases U with
              | true =>
                go_wp2_with fail
                go_roundw
                case rel => exact ⟨j + 1 + 1, t + 1, by omega, by go_num, by go_num, by omega, by have h := HTN.out; rw [if_pos ⟨by decide, by first | rfl | trivial⟩] at h; exact h, HB11.out⟩
                case measure => simp only [intOf]; omega
              | false =>
                go_wp2_with fail
                go_roundw
                case rel => exact ⟨j + 1 + 1, t, by omega, by go_num, rfl, by omega, by have h := HTN.out; rw [if_neg (fun h => by cases h.2)] at h; exact h, HB11.out⟩
                case measure => simp only [intOf]; omega
      · obtain rfl : k = N := by omega
        have h := hT.out
        rw [List.take_of_length_le (by rw [← HN.out]; exact Nat.le_refl _)] at h
        have h3 := Q3.out
        have h4 := Q4.out
        rw [h] at h3 h4
        have hkz : ¬ (k : Int) < (k : Int) := by omega
        clear h hT SUA SUH SUS LA0 LH0 LS0 QM QR Q2 Q3 Q4
        have HBW := Lib.hid (HW4.out hW)
        clear hW
        obtain ⟨G1, hG1⟩ : ∃ G, G = tget l1 p := ⟨_, rfl⟩
        obtain ⟨G2, hG2⟩ : ∃ G, G = tget l2 p := ⟨_, rfl⟩
        rw [← hG1] at g1 h4
        rw [← hG2] at g2 h4
        obtain ⟨K1, D1⟩ := G1
        obtain ⟨K2, D2⟩ := G2
        rw [show nv ⟨K1, D1⟩ = .agg #[.int .i64 K1, .string D1] from rfl] at g1
        rw [show nv ⟨K2, D2⟩ = .agg #[.int .i64 K2, .string D2] from rfl] at g2
        have hgN := guardN
        clear hG1 hG2
        have hcases : (K1 = K2 ∧ D1.toList = D2.toList) ∨ (t = 1 ∧ K1 ≠ K2) ∨ (t = 1 ∧ K1 = K2 ∧ D1.toList ≠ D2.toList) := by
          by_cases h1 : K1 = K2
          · by_cases h2 : D1.toList = D2.toList
            · exact .inl ⟨h1, h2⟩
            · exact .inr (.inr ⟨h4 (fun h => by injection h with _ h; exact h2 (to_list.2 h)), h1, h2⟩)
          · exact .inr (.inl ⟨h4 (fun h => by injection h with h _; exact h1 h), h1⟩)
        have htz : (t : Int) ≤ 1 := by omega
        clear h4 HN HR4 h3
        rcases hcases with ⟨hK, hD⟩ | ⟨ht1, hK⟩ | ⟨ht1, hK, hD⟩
        · obtain rfl := to_list.1 hD
          subst hK
          clear hD
          go_wp2_with fail
          go_at_call 26
          refine (g1.out _ HBW.out).mono ?_
          rintro e w5 ⟨rfl, b5⟩
          have HB5 := Lib.hid (below_call HBW.out b5)
          clear b5
          go_wp2_with fail
          go_at_call 26
          refine (g2.out _ HB5.out).mono ?_
          rintro e w6 ⟨rfl, b6⟩
          have HB6 := Lib.hid (below_call HB5.out b6)
          clear b6
          go_wp2_with fail
          go_ret
          exact ⟨rfl, HB6.out⟩
        · subst ht1
          clear htk htz
          go_wp2_with fail
          go_at_call 26
          refine (g1.out _ HBW.out).mono ?_
          rintro e w5 ⟨rfl, b5⟩
          have HB5 := Lib.hid (below_call HBW.out b5)
          clear b5
          go_wp2_with fail
          go_at_call 26
          refine (g2.out _ HB5.out).mono ?_
          rintro e w6 ⟨rfl, b6⟩
          have HB6 := Lib.hid (below_call HB5.out b6)
          clear b6
          go_wp2_with fail
          go_ret
          exact ⟨rfl, HB6.out⟩
        · subst hK ht1
          clear htk htz
          go_wp2_with fail
          go_at_call 26
          refine (g1.out _ HBW.out).mono ?_
          rintro e w5 ⟨rfl, b5⟩
          have HB5 := Lib.hid (below_call HBW.out b5)
          clear b5
          go_wp2_with fail
          go_at_call 26
          refine (g2.out _ HB5.out).mono ?_
          rintro e w6 ⟨rfl, b6⟩
          have HB6 := Lib.hid (below_call HB5.out b6)
          clear b6
          go_wp2_with fail
          go_ret
          exact ⟨rfl, HB6.out⟩
theorem own : ownKnob Tryz.prog.godebug = none := by kernel_rfl
theorem laidOut : laidOutB Tryz.prog = true := by kernel_rfl
set_option maxRecDepth 100000 in
theorem contract (H : Type) (enc : TypeId × Value → H) (W : World) (base : Nat) (args : Array Value) (ds gs : List (DataW H)) (before : List MemPlace)
    (hval0 : ∀ (j : Nat) t v, Tryz.f7.params[j]? = some t → args[j]? = some v → Value.okWide Tryz.prog W .any base t v)
    (hW : DataW.Whole enc Tryz.prog Tryz.f7.params.toList Rows.reconSettlesSpec.vars false W args.toList ds gs before)
    (hk : Rows.uptoSmall H (ds ++ gs) = true)
    (hsz0 : (DataW.weightsEach Tryz.prog (Tryz.f7.params.toList ++ Rows.reconSettlesSpec.plain.varTypes Tryz.prog) (ds ++ gs)).all (· ≤ reachBytes) = true) :
    Calls Tryz.prog 7 args W fun e W' => ∃ v, e = .returned v ∧ Rows.reconSettlesSpec.post enc Tryz.prog Tryz.f7 false true false false W args v W' := by
  have hval : ∀ (j : Nat) t v, Tryz.f7.params[j]? = some t → args[j]? = some v → Value.okWide Tryz.prog W .any base t v := hval0
  have hsz := hsz0
  clear hsz0
  have hW' := hW
  obtain ⟨p, q, hA0, hV, rfl, hfz, hnd⟩ := hW
  have hA : DataW.TrodAll enc Tryz.prog W 0 (fun _ => true) true Tryz.f7.params.toList args.toList ds p := hA0
  rw [Tryz.params7] at hA hval hsz
  obtain ⟨v0, vs0, d0, ds0, p0, q0, hargs, rfl, rfl, h0, r0⟩ := trodAll_cons hA
  obtain ⟨v1, vs1, d1, ds1, p1, q1, rfl, rfl, rfl, h1, r1⟩ := trodAll_cons r0
  obtain ⟨v2, vs2, d2, ds2, p2, q2, rfl, rfl, rfl, h2, r2⟩ := trodAll_cons r1
  obtain ⟨v3, vs3, d3, ds3, p3, q3, rfl, rfl, rfl, h3, r3⟩ := trodAll_cons r2
  obtain ⟨rfl, rfl, rfl⟩ := trodAll_nil r3
  obtain rfl : args = #[v0, v1, v2, v3] := by cases args; simp_all
  obtain ⟨rfl, rfl⟩ := trodVars_none hV
  obtain ⟨A0, n0, c0, rfl⟩ := okWide_slice Tryz.underlying22 (hval 0 22 v0 rfl rfl)
  have k0 := h0
  have lt0 : ∀ x ∈ p0, x.block < W.heap.size := by obtain ⟨m, hm⟩ := k0; exact DataW.trod_lt m _ _ _ hm
  obtain ⟨A1, n1, c1, rfl⟩ := okWide_slice Tryz.underlying22 (hval 1 22 v1 rfl rfl)
  have k1 := h1
  have lt1 : ∀ x ∈ p1, x.block < W.heap.size := by obtain ⟨m, hm⟩ := k1; exact DataW.trod_lt m _ _ _ hm
  obtain ⟨A2, n2, c2, rfl⟩ := okWide_slice Tryz.underlying22 (hval 2 22 v2 rfl rfl)
  have k2 := h2
  have lt2 : ∀ x ∈ p2, x.block < W.heap.size := by obtain ⟨m, hm⟩ := k2; exact DataW.trod_lt m _ _ _ hm
  obtain ⟨s3, rfl, rfl, rfl, w3⟩ := open_string Tryz.underlying9 (hval 3 9 v3 rfl rfl) h3
  have hreach3 : s3.size ≤ 140737488351232 := by
    have := sized_string hsz (j := 3) (t := 9) rfl rfl
    simpa [reachBytes] using this
  clear hA0 hval0
  obtain ⟨l0, e0, z0, _, m0, sm0⟩ := arg_ents k0
  obtain ⟨l1, e1, z1, _, m1, sm1⟩ := arg_ents k1
  obtain ⟨l2, e2, z2, _, m2, sm2⟩ := arg_ents k2
  have hbulk : Rows.uptoBulk d0 ≤ 1048576 ∧ Rows.uptoBulk d1 ≤ 1048576 ∧ Rows.uptoBulk d2 ≤ 1048576 ∧ s3.size ≤ 1048576 := by
    have h := of_decide_eq_true hk
    rw [List.append_nil] at h
    have x : Rows.uptoBulkAll [d0, d1, d2, DataW.lit (H := H) (.string s3.data.toList)] = Rows.uptoBulk d0 + (Rows.uptoBulk d1 + (Rows.uptoBulk d2 + ((s3.data.toList.length + 1) + 0))) := rfl
    rw [x, len_l] at h
    omega
  refine (walk A0 n0 c0 l0 A1 n1 c1 l1 A2 n2 c2 l2 s3 W e0 z0 (by omega) (fun x hx => by have := sm0 x hx; omega) e1 z1 (by omega) (fun x hx => by have := sm1 x hx; omega) e2 z2 (by omega) (fun x hx => by have := sm2 x hx; omega) (by omega)).mono fun e W' ⟨he, belF⟩ => ?_
  subst he
  exact ⟨_, rfl, _, _, _, [], _, [], hW', trodAll_mk1 (shut_bool Tryz.underlying4 _), (trodAll_cons_mk (Below.trod laidOut (by kernel_rfl) (of_decide_eq_true (by kernel_rfl)) k0 belF lt0) (trodAll_cons_mk (Below.trod laidOut (by kernel_rfl) (of_decide_eq_true (by kernel_rfl)) k1 belF lt1) (trodAll_cons_mk (Below.trod laidOut (by kernel_rfl) (of_decide_eq_true (by kernel_rfl)) k2 belF lt2) (trodAll_cons_mk (shut_string Tryz.underlying9 w3) trodAll_mk0)))), rfl, belF.frame _, fun h => by cases h⟩
set_option maxRecDepth 100000 in
theorem lifted (os : Os) (started : os.Started) (H : Type) (enc : TypeId × Value → H) (F : Stop.Interp) :
    ReturnsInHanded {} Tryz.checked os 7 .any ((Rows.OpenSpec.upto Rows.reconSettlesSpec).pre6 enc Tryz.prog Tryz.f7 Rows.reconSettlesUptoRow.domain false) (((Rows.OpenSpec.upto Rows.reconSettlesSpec).at F).post enc Tryz.prog Tryz.f7 false true false false) := by
  refine returnsInHanded_of_cond_sized (C := Tryz.checked) (s := Rows.OpenSpec.upto Rows.reconSettlesSpec) (k := Rows.uptoSmall) rfl own started (by kernel_rfl) Tryz.func7
    (OpenSpec.witness (enc := enc) (C := Tryz.checked) (s := Rows.OpenSpec.upto Rows.reconSettlesSpec) (k := Rows.uptoSmall) rfl false ⟨#[], #[.slice none 0 0, .slice none 0 0, .slice none 0 0, .string ByteArray.empty], []⟩ 8 (by kernel_rfl) (by kernel_rfl) (by kernel_rfl)
      (x := ([.nil, .nil, .nil, .lit (.string [])], [], [])) (by kernel_rfl) rfl (by kernel_rfl)) ?_
  intro W base args ds gs before hval hW _ hk hsz0 _
  exact contract H enc W base args ds gs before hval hW hk hsz0
theorem over : Rows.reconSettlesUptoRow.holds Tryz.pinned (Rows.OpenSpec.upto Rows.reconSettlesSpec) :=
  OpenClaim.holds_of_cond 7 Tryz.f7 rfl rfl rfl rfl rfl rfl rfl ⟨rfl, rfl, rfl, rfl, rfl⟩ rfl rfl rfl rfl rfl (by kernel_rfl) Tryz.func7 (by kernel_rfl)
    (of_decide_eq_true (by kernel_rfl)) (by unfold Func.isWrapper; first | (rw [if_pos (by decide +kernel)]; kernel_rfl) | (rw [if_neg (by decide +kernel)]; exact ⟨rfl, rfl⟩))
    (fun os started H enc _ F => lifted os started H enc F)
end Go.Proofs.YtkenmldiojeooaaGreat.reconSettles

namespace Go.Proofs.YtkenmldiojeooaaGreat
theorem reconSettlesUpto_holds : Rows.ReconSettlesUptoSaid := reconSettles.over
#print axioms reconSettlesUpto_holds
end Go.Proofs.YtkenmldiojeooaaGreat
