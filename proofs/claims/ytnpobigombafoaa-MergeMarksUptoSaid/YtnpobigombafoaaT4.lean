/- Texts of this seat, one behind the other. -/
import Derived.Test.YtnpobigombafoaaT3
import Derived.Shelf.Strings.Builder1
import Derived.Shelf.Strings.Builder2
import Derived.Shelf.Strings.OnBuilder
import Derived.Shelf.Strings.Search1
import Derived.Test.YtnpobigombafoaaProg
import Derived.Lib.SliceRun
namespace Go.Proofs.Ytnpobigombafoaa.Mg
open Go.RowKit Go.ChangeShapes Go.WideShapes Tx Um Ud Aq Km Kd Lm Ln
set_option linter.unusedVariables false
def slen : Value → Nat
  | .slice _ n _ => n
  | _ => 0
theorem prs_tail {w : World} {A : Option Addr} {c : Nat} {p : Nat × Nat} {l : List (Nat × Nat)} (h : PrsR w A (l.length + 1) (p :: l)) (hc : l.length + 1 ≤ c) :
    ∃ A', sliced A 1 (l.length + 1) c 2 = .slice A' l.length (c - 1) ∧ PrsR w A' l.length l ∧ l.length ≤ c - 1 := by
  obtain ⟨b, off, rfl, hb, hcell⟩ := h.2.resolve_left (by omega)
  unfold sliced
  refine ⟨_, rfl, ⟨rfl, ?_⟩, by omega⟩
  by_cases h0 : l.length = 0
  · exact .inl h0
  · refine .inr ⟨b, off + 2, ?_, hb, fun k x hx => ?_⟩
    · rw [if_neg (by omega)]
      simp [Addr.add]
    · have h1 := hcell (k + 1) x hx
      rw [show off + (k + 1) * 2 = off + 2 + k * 2 by omega] at h1
      exact h1
theorem prs_slice1 (A : Option Addr) (n c : Nat) (h : 1 ≤ n) (W : World) : (Instr.slice 76 (.slice A n c) (some (.int .i64 1)) none none).run Try.prog W = .ok (sliced A 1 n c 2) W := by
  rw [run_slice_l W 76 A n c (by kernel_rfl) .i64 1 (by omega) (by omega)]
  have e : (sizeOf (Try.prog.elem 76)).run Try.prog W = .ok 2 W := by kernel_rfl
  rw [e]
  rfl
theorem prs_room {E : TypeId} {w : World} {B : Nat} {v : Value} {l : List (Nat × Nat)} (h : Prs E w B v l) : ∃ a c, v = .slice a l.length c ∧ l.length ≤ c ∧ PrsR w a l.length l := by
  obtain ⟨a, c, hv, hr⟩ := h.form
  refine ⟨a, c, hv, ?_, hr⟩
  rcases h.2 with ⟨rfl, h0⟩ | ⟨g, cap, cur, rfl, hg, hh2, hn, _⟩
  · omega
  · injection hv with _ _ hc
    omega
structure Lf (o a b : List ByteArray) (F : List (Tr × Tr)) (x y : List (Nat × Nat)) (R : List (Tr × Tr)) : Prop where
  left : ∃ i j, Pth o a x i j
  right : ∃ i k, Pth o b y i k
  same : (trip x y).foldl jn R = F
  few : R.length + x.length ≤ 400
theorem lf_top {o a b : List ByteArray} {F : List (Tr × Tr)} {p q : Nat × Nat} {x y : List (Nat × Nat)} {R : List (Tr × Tr)} (h : Lf o a b F (p :: x) (q :: y) R) (ho : o.length ≤ 400) (ha : a.length ≤ 400) (hb : b.length ≤ 400) : p.1 ≤ 400 ∧ p.2 ≤ 400 ∧ q.1 ≤ 400 ∧ q.2 ≤ 400 := by
  obtain ⟨i, j, hx⟩ := h.left
  obtain ⟨i2, k, hy⟩ := h.right
  obtain ⟨_, _, h1, h2, _⟩ := pth_ge _ hx p (by simp)
  obtain ⟨_, _, h3, h4, _⟩ := pth_ge _ hy q (by simp)
  omega
theorem lf_next {o a b : List ByteArray} {F : List (Tr × Tr)} {p q : Nat × Nat} {x y : List (Nat × Nat)} {R : List (Tr × Tr)} (h : Lf o a b F (p :: x) (q :: y) R) :
    (p.1 = q.1 → Lf o a b F x y (jn R (p.1, p.2, q.2))) ∧ (p.1 < q.1 → Lf o a b F x (q :: y) R) ∧ (q.1 < p.1 → Lf o a b F (p :: x) y R) := by
  obtain ⟨i, j, hx⟩ := h.left
  obtain ⟨i2, k, hy⟩ := h.right
  have hs := h.same
  have hf := h.few
  rw [List.length_cons] at hf
  obtain ⟨s1, s2, s3⟩ := trip_step (pth_less hx (Nat.zero_le i) (Nat.zero_le j)) (pth_less hy (Nat.zero_le i2) (Nat.zero_le k))
  have hxt : ∃ i j, Pth o a x i j := ⟨_, _, hx.2.2.2⟩
  have hyt : ∃ i k, Pth o b y i k := ⟨_, _, hy.2.2.2⟩
  refine ⟨fun e => ?_, fun e => ?_, fun e => ?_⟩
  · rw [s1 e, List.foldl_cons] at hs
    refine ⟨hxt, hyt, hs, ?_⟩
    have := jn_len R (p.1, p.2, q.2)
    omega
  · rw [s2 e] at hs
    exact ⟨hxt, ⟨i2, k, hy⟩, hs, by omega⟩
  · rw [s3 e] at hs
    exact ⟨⟨i, j, hx⟩, hyt, hs, by rw [List.length_cons]; omega⟩
theorem lf_end {o a b : List ByteArray} {F : List (Tr × Tr)} {x y : List (Nat × Nat)} {R : List (Tr × Tr)} (h : Lf o a b F x y R) (h0 : x = [] ∨ y = []) : R = F := by
  have hs := h.same
  rcases h0 with rfl | rfl
  · exact hs
  · rw [trip_none] at hs
    exact hs
def RwTo (F : List (Tr × Tr)) (w : World) (e : Ending) (w' : World) : Prop := ∃ v, e = .returned (.tuple #[v, .int .i64 0]) ∧ Rwo w' w.heap.size v F ∧ Below w.heap.size w w'
set_option maxRecDepth 100000 in
set_option maxHeartbeats 8000000 in
theorem rows_any (A B C : Option Addr) (ca cb cc : Nat) (o a b : List ByteArray) (w : World) (hA : Strs w A o.length o) (hB : Strs w B a.length a) (hC : Strs w C b.length b) (ho : o.length ≤ 400) (ha : a.length ≤ 400) (hb : b.length ≤ 400)
    (so : ∀ x, x ∈ o → x.size ≤ maxLen) (sa : ∀ x, x ∈ a → x.size ≤ maxLen) (sb : ∀ x, x ∈ b → x.size ≤ maxLen) :
    Calls Try.prog 22 #[.agg #[.slice A o.length ca, .slice B a.length cb, .slice C b.length cc]] w (RwTo (rws o a b) w) := by
  have l1 := lng_no ho ha
  have l2 := lng_no ho hb
  have k1 := fun w1 (h1 : Below w.heap.size w w1) => kept_any A B ca cb o a w1 (hA.below h1) (hB.below h1) so sa
  have k2 := fun w1 (h1 : Below w.heap.size w w1) => kept_any A C ca cc o b w1 (hA.below h1) (hC.below h1) so sb
  unfold PrsTo at k1 k2
  rw [kep_no l1, err_no l1] at k1
  rw [kep_no l2, err_no l2] at k2
  have hlf : Lf o a b (rws o a b) (pairs 0 0 (steps o a)) (pairs 0 0 (steps o b)) [] := ⟨⟨0, 0, pth_steps o a⟩, ⟨0, 0, pth_steps o b⟩, rfl, by
    have q1 := pairs_len (steps o a) 0 0
    have q2 := kept o a
    have q3 := lcs_le_left o a
    rw [List.length_nil]
    omega⟩
  obtain ⟨X, hX⟩ : ∃ X, X = pairs 0 0 (steps o a) := ⟨_, rfl⟩
  obtain ⟨Y, hY⟩ : ∃ Y, Y = pairs 0 0 (steps o b) := ⟨_, rfl⟩
  obtain ⟨F, hF⟩ : ∃ F, F = rws o a b := ⟨_, rfl⟩
  rw [← hX] at k1 hlf
  rw [← hY] at k2 hlf
  rw [← hF] at hlf ⊢
  have K1 := Lib.hid k1
  have K2 := Lib.hid k2
  have HLF := Lib.hid hlf
  clear hA hB hC k1 k2 hlf l1 l2 hX hY hF so sa sb
  have TOP := fun (p q : Nat × Nat) (x y : List (Nat × Nat)) (R : List (Tr × Tr)) (h : Lf o a b F (p :: x) (q :: y) R) => lf_top h ho ha hb
  have HTOP := Lib.hid TOP
  clear TOP
  obtain ⟨no, hno⟩ : ∃ n, n = o.length := ⟨_, rfl⟩
  obtain ⟨na, hna⟩ : ∃ n, n = a.length := ⟨_, rfl⟩
  obtain ⟨nb, hnb⟩ : ∃ n, n = b.length := ⟨_, rfl⟩
  rw [← hno] at K1 K2 ho ⊢
  rw [← hna] at K1 ha ⊢
  rw [← hnb] at K2 hb ⊢
  clear hno hna hnb
  go_enter Try.func22, Try.ntmps22
  go_wp2_with fail
  go_at_call 37
  refine (K1.out _ ((Below.refl _ w).alloc (Nat.le_refl _) _)).mono ?_
  rintro e w1 ⟨v1, rfl, hv1, hb1⟩
  obtain ⟨ax, cx, rfl, hcx, hx⟩ := prs_room hv1
  have HB1 : Hid (Below w.heap.size w w1) := ((Below.refl _ w).alloc (Nat.le_refl _) _).trans (hb1.mono (by simp))
  have hl1 : w.heap.size < (w.alloc (.cells #[.slice A no ca, .slice B na cb, .slice C nb cc] 45)).heap.size := by simp
  have c0 : w1.cell? ⟨w.heap.size, 0, none⟩ = some (.slice A no ca) := (hb1.cell (p := ⟨_, 0, none⟩) hl1).trans (by go_simp)
  have c2 : w1.cell? ⟨w.heap.size, 2, none⟩ = some (.slice C nb cc) := (hb1.cell (p := ⟨_, 2, none⟩) hl1).trans (by go_simp)
  have HX := Lib.hid hx
  clear hv1 hb1 hl1 hx K1
  go_wp2_with fail
  go_at_call 37
  refine (K2.out _ HB1.out).mono ?_
  rintro e w2 ⟨v2, rfl, hv2, hb2⟩
  obtain ⟨ay, cy, rfl, hcy, hy⟩ := prs_room hv2
  have HB2 : Hid (Below w.heap.size w w2) := below_call HB1.out hb2
  have HX2 : Hid (PrsR w2 ax X.length X) := HX.out.below hb2
  have HY := Lib.hid hy
  clear hv2 hb2 hy K2 HX HB1 c0 c2
  go_wp2_with fail
  go_loopw [4, 6, 7, 8, 9] (fun xv yv rv _ _ wr => ∃ (x y : List (Nat × Nat)) (R : List (Tr × Tr)) (A' : Option Addr) (cx' : Nat) (B' : Option Addr) (cy' : Nat), xv = .slice A' x.length cx' ∧ yv = .slice B' y.length cy' ∧ x.length ≤ cx' ∧ y.length ≤ cy' ∧ Hid (PrsR w2 A' x.length x) ∧ Hid (PrsR w2 B' y.length y) ∧ Hid (Lf o a b F x y R) ∧ Hid (Rwo wr w2.heap.size rv R) ∧ Hid (Below w2.heap.size w2 wr)) (fun xv yv _ _ _ _ => slen xv + slen yv)
  case atStart => exact ⟨X, Y, [], ax, cx, ay, cy, rfl, rfl, hcx, hcy, HX2, HY, HLF, rwo_nil _ _, Below.refl _ _⟩
  case round =>
    obtain ⟨x, y, R, A', cx', B', cy', rfl, rfl, hcx', hcy', HPX, HPY, HL, HR, HB⟩ := hrel
    clear hcx hcy HX2 HY HLF
    cases x with
    | nil =>
      have hE : R = F := lf_end HL.out (.inl rfl)
      have HE := Lib.hid hE
      clear hE hcx' hcy' HTOP
      go_wp2_with fail
      go_ret2
      exact ⟨_, rfl, own_base (by have h := HR.out; rw [HE.out] at h; exact h) HB2.out.size, HB2.out.trans (HB.out.mono HB2.out.size)⟩
    | cons p x =>
      rw [List.length_cons] at hcx'
      have HPX2 : Hid (PrsR w2 A' (x.length + 1) (p :: x)) := HPX
      clear HPX
      simp only [List.length_cons]
      have hx1 : (0 : Int) < ((x.length + 1 : Nat) : Int) := by omega
      cases y with
      | nil =>
        have hE : R = F := lf_end HL.out (.inr rfl)
        have HE := Lib.hid hE
        clear hE hcx' hcy' HTOP
        go_wp2_with fail
        go_ret2
        exact ⟨_, rfl, own_base (by have h := HR.out; rw [HE.out] at h; exact h) HB2.out.size, HB2.out.trans (HB.out.mono HB2.out.size)⟩
      | cons q y =>
        rw [List.length_cons] at hcy'
        have HPY2 : Hid (PrsR w2 B' (y.length + 1) (q :: y)) := HPY
        clear HPY
        simp only [List.length_cons]
        have hy1 : (0 : Int) < ((y.length + 1 : Nat) : Int) := by omega
        obtain ⟨p1, p2⟩ := p
        obtain ⟨q1, q2⟩ := q
        obtain ⟨hp1, hp2, hq1, hq2⟩ := HTOP.out _ _ _ _ _ HL.out
        simp only at hp1 hp2 hq1 hq2
        obtain ⟨hnE, hnL, hnR⟩ := lf_next HL.out
        simp only at hnE hnL hnR
        obtain ⟨Ax, hslx, hrx, hlx⟩ := prs_tail HPX2.out hcx'
        obtain ⟨Ay, hsly, hry, hly⟩ := prs_tail HPY2.out hcy'
        have S1 := fun W => prs_slice1 A' (x.length + 1) cx' (by omega) W
        have S2 := fun W => prs_slice1 B' (y.length + 1) cy' (by omega) W
        simp only [hslx] at S1
        simp only [hsly] at S2
        obtain ⟨bx, ox, rfl, hbx, hcellx⟩ := HPX2.out.2.resolve_left (by omega)
        obtain ⟨bY, oY, rfl, hbY, hcelly⟩ := HPY2.out.2.resolve_left (by omega)
        have hX : ∀ W, Below wr.heap.size wr W → W.cell? ⟨bx, ox, none⟩ = some (.int .i64 (p1 : Int)) ∧ W.cell? ⟨bx, ox + 1, none⟩ = some (.int .i64 (p2 : Int)) ∧ W.cell? ⟨bY, oY, none⟩ = some (.int .i64 (q1 : Int)) ∧ W.cell? ⟨bY, oY + 1, none⟩ = some (.int .i64 (q2 : Int)) := fun W hW => by
          have h2 : Below w2.heap.size w2 W := HB.out.trans (hW.mono HB.out.size)
          obtain ⟨k1, k2⟩ := hcellx 0 _ rfl
          obtain ⟨k3, k4⟩ := hcelly 0 _ rfl
          rw [Nat.zero_mul, Nat.add_zero] at k1 k2 k3 k4
          exact ⟨(h2.cell (p := ⟨bx, _, none⟩) hbx).trans k1, (h2.cell (p := ⟨bx, _, none⟩) hbx).trans k2, (h2.cell (p := ⟨bY, _, none⟩) hbY).trans k3, (h2.cell (p := ⟨bY, _, none⟩) hbY).trans k4⟩
        have hlen : R.length ≤ 1000000 := by have := HL.out.few; omega
        have HRX := Lib.hid hrx
        have HRY := Lib.hid hry
        have HNE := Lib.hid hnE
        have HNL := Lib.hid hnL
        have HNR := Lib.hid hnR
        have HSX := Lib.hid S1
        have HSY := Lib.hid S2
        clear hrx hry hnE hnL hnR hslx hsly S1 S2 hcellx hcelly HTOP
        go_wp2_with fail
        refine Rg.wp_only ?_ (pairReg _ (by kernel_rfl) _ bx ox (x.length + 1) cx' bY oY (y.length + 1) cy' (p1, p2) (q1, q2) wr hx1 hy1 hX)
        rintro _ w5 ⟨g8, g9, rfl, hg8, hg9, ⟨z0, z1⟩, ⟨z2, z3⟩, hb5⟩
        simp only at z0 z1 z2 z3
        have hR5 : Rwo w5 w2.heap.size u7 R := HR.out.below hb5
        have hne8 : ∀ k, u7.ownBlock = some k → k < g8 ∧ k < g9 := fun k hk => by have := (HR.out.lt k hk).2; omega
        have HB5 : Hid (Below w2.heap.size w2 w5) := HB.out.trans (hb5.mono HB.out.size)
        have S1 := HSX.out
        have S2 := HSY.out
        clear hX hb5 HB HR HSX HSY
        rcases Nat.lt_trichotomy p1 q1 with hpq | hpq | hpq
        · have hnx := HNL.out hpq
          have HN := Lib.hid hnx
          have e1 : ((p1 : Int) == (q1 : Int)) = false := beq_eq_false_iff_ne.2 (by omega)
          have e2 : ¬ (p1 : Int) = (q1 : Int) := by omega
          have e3 : (p1 : Int) ≤ (q1 : Int) := by omega
          have e4 : decide ((q1 : Int) ≤ (p1 : Int)) = false := decide_eq_false (by omega)
          have e5 : ¬ (q1 : Int) ≤ (p1 : Int) := by omega
          have HR5 := Lib.hid hR5
          clear hpq hnx HNE HNL HNR HL hne8 hR5
          go_wp2_with fail
          go_roundw
          case rel => exact ⟨x, (q1, q2) :: y, R, _, _, _, _, rfl, rfl, hlx, hcy', HRX, HPY2, HN, HR5, HB5⟩
          case measure => simp [slen] <;> omega
        · subst hpq
          have hnx := HNE.out rfl
          have HN := Lib.hid hnx
          clear hnx HNE HNL HNR HL
          have cJ := joined_any w2.heap.size u7 R (p1, p2, q2) w5 hR5 hlen ⟨by show p1 ≤ _; omega, by show p2 ≤ _; omega, by show q2 ≤ _; omega⟩ HB5.out.size
          have CJ := Lib.hid cJ
          have HR5 := Lib.hid hR5
          clear cJ hR5
          go_wp2_with fail
          go_at_call 38
          refine CJ.out.mono ?_
          rintro e w6 ⟨v6, rfl, hv6, hg6⟩
          have y0 := hg6.cell z0 (fun e => by have := (hne8 _ e.symm).1; simp only at this; omega)
          have y1 := hg6.cell z1 (fun e => by have := (hne8 _ e.symm).1; simp only at this; omega)
          have y2 := hg6.cell z2 (fun e => by have := (hne8 _ e.symm).2; simp only at this; omega)
          have y3 := hg6.cell z3 (fun e => by have := (hne8 _ e.symm).2; simp only at this; omega)
          have HB6 : Hid (Below w2.heap.size w2 w6) := HB5.out.grown hg6 HB5.out.size (fun k hk => (HR5.out.lt k hk).1)
          have HR6 := Lib.hid hv6
          clear hv6 hg6 z0 z1 z2 z3 hne8 CJ
          go_wp2_with fail
          go_roundw
          case rel => exact ⟨x, y, _, _, _, _, _, rfl, rfl, hlx, hly, HRX, HRY, HN, HR6, HB6⟩
          case measure => simp [slen] <;> omega
        · have hnx := HNR.out hpq
          have HN := Lib.hid hnx
          have e1 : ((p1 : Int) == (q1 : Int)) = false := beq_eq_false_iff_ne.2 (by omega)
          have e2 : ¬ (p1 : Int) = (q1 : Int) := by omega
          have e3 : (q1 : Int) ≤ (p1 : Int) := by omega
          have e4 : decide ((p1 : Int) ≤ (q1 : Int)) = false := decide_eq_false (by omega)
          have e5 : ¬ (p1 : Int) ≤ (q1 : Int) := by omega
          have HR5 := Lib.hid hR5
          clear hpq hnx HNE HNL HNR HL hne8 hR5
          go_wp2_with fail
          go_roundw
          case rel => exact ⟨(p1, p2) :: x, y, R, _, _, _, _, rfl, rfl, hcx', hly, HPX2, HRY, HN, HR5, HB5⟩
          case measure => simp [slen] <;> omega
end Go.Proofs.Ytnpobigombafoaa.Mg

namespace Go.Proofs
open Go.Shelf
def Try.lays156_ren : Go.Shelf.Ren := ⟨fun | 156 => 33 | 165 => 44 | 166 => 29 | 169 => 30 | 240 => 43 | 241 => 54 | 276 => 53 | 277 => 64 | n => n, fun | 31 => 31 | 9 => 9 | 3 => 3 | 4 => 4 | 0 => 0 | 20 => 20 | 72 => 62 | 76 => 68 | 70 => 59 | 37 => 60 | 75 => 67 | 127 => 83 | 164 => 94 | 5 => 5 | 80 => 70 | n => n, fun | n => n⟩
theorem Try.lays156 : Go.Proofs.Lays.n156 Try.prog Try.lays156_ren := {
  mixed := by kernel_rfl
  f156 := Try.func33.trans (congrArg some (by kernel_rfl))
  f165 := Try.func44.trans (congrArg some (by kernel_rfl))
  f166 := Try.func29.trans (congrArg some (by kernel_rfl))
  f169 := Try.func30.trans (congrArg some (by kernel_rfl))
  f240 := Try.func43.trans (congrArg some (by kernel_rfl))
  f241 := Try.func54.trans (congrArg some (by kernel_rfl))
  f276 := Try.func53.trans (congrArg some (by kernel_rfl))
  f277 := Try.func64.trans (congrArg some (by kernel_rfl))
  t0 := Try.underlying0
  a0 := Try.isAgg0
  z0 := Try.sizeOf0
  v0 := Try.zeroValue0
  t3 := Try.underlying3
  a3 := Try.isAgg3
  z3 := Try.sizeOf3
  v3 := Try.zeroValue3
  t4 := Try.underlying4
  a4 := Try.isAgg4
  z4 := Try.sizeOf4
  v4 := Try.zeroValue4
  t9 := Try.underlying9
  a9 := Try.isAgg9
  z9 := Try.sizeOf9
  v9 := Try.zeroValue9
  t20 := Try.underlying20
  a20 := Try.isAgg20
  z20 := Try.sizeOf20
  v20 := Try.zeroValue20
  t31 := Try.underlying31
  a31 := Try.isAgg31
  z31 := Try.sizeOf31
  v31 := Try.zeroValue31
  t37 := Try.underlying60
  a37 := Try.isAgg60
  z37 := Try.sizeOf60
  v37 := Try.zeroValue60
  t70 := Try.underlying59
  a70 := Try.isAgg59
  z70 := Try.sizeOf59
  v70 := Try.zeroValue59
  t72 := Try.underlying62
  a72 := Try.isAgg62
  z72 := Try.sizeOf62
  v72 := Try.zeroValue62
  t75 := Try.underlying67
  a75 := Try.isAgg67
  z75 := Try.sizeOf67
  v75 := Try.zeroValue67
  t76 := Try.underlying68
  a76 := Try.isAgg68
  z76 := Try.sizeOf68
  v76 := Try.zeroValue68
  t127 := Try.underlying83
  a127 := Try.isAgg83
  z127 := Try.sizeOf83
  v127 := Try.zeroValue83
  t164 := Try.underlying94
  a164 := Try.isAgg94
  z164 := Try.sizeOf94
  v164 := Try.zeroValue94 }
theorem Try.Builder_Extra_156 : Builder.Extra Try.prog Try.lays156_ren := {
  sizeBuilder := by kernel_rfl
  liesBuilder := by kernel_rfl
  t5 := Try.underlying5
  a5 := Try.isAgg5
  z5 := Try.sizeOf5
  v5 := Try.zeroValue5
  infoByte := by kernel_rfl
  cellsByte := by kernel_rfl
  sizeByte := by kernel_rfl
  neB5 := by decide }
end Go.Proofs

namespace Go.Proofs.Ytnpobigombafoaa.Ln
open Go.RowKit Tx Lm Aq
set_option linter.unusedVariables false
set_option maxRecDepth 100000 in
theorem ended_any (s : ByteArray) (w : World) (hs : s.size ≤ 562949953421312) :
    Calls Try.prog 47 #[.string s] w fun e w' => e = .returned (.bool (ends s.data.toList)) ∧ w = w' := by
  go_enter Try.func47, Try.ntmps47
  go_wp2_with (go_at_call 58; refine (suffix_any _ _ hs).mono ?_; rintro e w' ⟨rfl, rfl⟩)
  go_ret
  exact ⟨rfl, rfl⟩
theorem nil_yes {s : ByteArray} (h : s = ⟨#[]⟩) : (s.toList == []) = true ∧ s.toList.isEmpty = true := by
  rw [h, ByteArray.toList_eq]; exact ⟨rfl, rfl⟩
theorem nil_no {s : ByteArray} (h : s ≠ ⟨#[]⟩) : (s.toList == []) = false ∧ s.toList.isEmpty = false := by
  rw [ByteArray.toList_eq]
  have h1 : s.data.toList ≠ [] := fun e => h (by rw [← tb_of s, e]; rfl)
  exact ⟨beq_eq_false_iff_ne.2 h1, by rw [List.isEmpty_eq_false_iff]; exact h1⟩
theorem cnt_nil {s : ByteArray} (h : s = ⟨#[]⟩) : (lns s).length = s.data.toList.count 10 := by subst h; rfl
theorem cnt_ends {s : ByteArray} (h : ends s.data.toList = true) : (lns s).length = s.data.toList.count 10 := by
  rw [← lns_cnt, cnt, if_pos (.inr h)]
theorem cnt_more {s : ByteArray} (h0 : s ≠ ⟨#[]⟩) (h : ends s.data.toList = false) : (lns s).length = s.data.toList.count 10 + 1 := by
  rw [← lns_cnt, cnt, if_neg]
  rintro (h1 | h1)
  · exact h0 (by rw [← tb_of s, h1]; rfl)
  · rw [h] at h1; cases h1
set_option maxRecDepth 100000 in
set_option maxHeartbeats 1000000 in
theorem count_lines (s : ByteArray) (w : World) (hs : s.size ≤ 562949953421312) :
    Calls Try.prog 35 #[.string s] w fun e w' => e = .returned (.int .i64 ((lns s).length : Nat)) ∧ w = w' := by
  have hle : s.data.toList.count 10 ≤ s.size := by rw [← len_l]; exact List.count_le_length
  by_cases h0 : s = ⟨#[]⟩
  · have HC := Lib.hid (cnt_nil h0)
    obtain ⟨e0, e1⟩ := nil_yes h0
    have HZ := Lib.hid h0
    clear h0
    obtain ⟨K, hK⟩ : ∃ K, K = s.data.toList.count 10 := ⟨_, rfl⟩
    have c2 := fun W => count_any s W
    rw [← hK] at hle HC c2
    clear hK
    go_enter Try.func35, Try.ntmps35
    go_wp2_with (go_at_call 46; refine (c2 _).mono ?_; rintro e w' ⟨rfl, rfl⟩)
    go_ret
    exact ⟨by rw [HC.out]; rfl, rfl⟩
  · obtain ⟨e0, e1⟩ := nil_no h0
    cases hE : ends s.data.toList with
    | true =>
      have HC := Lib.hid (cnt_ends hE)
      have c := fun W => ended_any s W hs
      rw [hE] at c
      clear hE h0
      obtain ⟨K, hK⟩ : ∃ K, K = s.data.toList.count 10 := ⟨_, rfl⟩
      have c2 := fun W => count_any s W
      rw [← hK] at hle HC c2
      clear hK
      go_enter Try.func35, Try.ntmps35
      go_wp2_with (first
        | (go_at_call 46; refine (c2 _).mono ?_; rintro e w' ⟨rfl, rfl⟩)
        | (go_at_call 47; refine (c _).mono ?_; rintro e w' ⟨rfl, rfl⟩))
      go_ret
      exact ⟨by rw [HC.out]; rfl, rfl⟩
    | false =>
      have HC := Lib.hid (cnt_more h0 hE)
      have c := fun W => ended_any s W hs
      rw [hE] at c
      clear hE h0
      obtain ⟨K, hK⟩ : ∃ K, K = s.data.toList.count 10 := ⟨_, rfl⟩
      have c2 := fun W => count_any s W
      rw [← hK] at hle HC c2
      clear hK
      go_enter Try.func35, Try.ntmps35
      go_wp2_with (first
        | (go_at_call 46; refine (c2 _).mono ?_; rintro e w' ⟨rfl, rfl⟩)
        | (go_at_call 47; refine (c _).mono ?_; rintro e w' ⟨rfl, rfl⟩))
      go_ret
      exact ⟨by rw [HC.out]; first | rfl | go_num, rfl⟩
set_option maxRecDepth 100000 in
set_option maxHeartbeats 1000000 in
theorem text_lines (s : ByteArray) (w : World) (hs : s.size ≤ 562949953421312) :
    Calls Try.prog 18 #[.string s] w fun e w' => e = .returned (.int .i64 (txt s : Nat)) ∧ w = w' := by
  have c := fun W => contains_zero s W
  have c2 := fun W => count_lines s W hs
  by_cases hz : s.data.toList.contains 0 = true
  · have HT : Hid (txt s = 21) := by show txt s = 21; unfold txt; rw [if_pos hz]
    rw [hz] at c
    clear hz
    go_enter Try.func18, Try.ntmps18
    go_wp2_with (go_at_call 34; refine (c _).mono ?_; rintro e w' ⟨rfl, rfl⟩)
    go_ret
    exact ⟨by rw [HT.out]; rfl, rfl⟩
  · have HT : Hid (txt s = if 400 < (lns s).length then 4 else 0) := by show txt s = _; unfold txt; rw [if_neg hz]
    rw [Bool.eq_false_iff.2 hz] at c
    clear hz
    obtain ⟨L, hL⟩ : ∃ L, L = (lns s).length := ⟨_, rfl⟩
    rw [← hL] at HT c2
    clear hL
    by_cases hm : 400 < L
    · have hm' : (400 : Int) < (L : Int) := by omega
      go_enter Try.func18, Try.ntmps18
      go_wp2_with (first
        | (go_at_call 34; refine (c _).mono ?_; rintro e w' ⟨rfl, rfl⟩)
        | (go_at_call 35; refine (c2 _).mono ?_; rintro e w' ⟨rfl, rfl⟩))
      go_ret
      exact ⟨by rw [HT.out, if_pos hm]; rfl, rfl⟩
    · have hm' : ¬ (400 : Int) < (L : Int) := by omega
      go_enter Try.func18, Try.ntmps18
      go_wp2_with (first
        | (go_at_call 34; refine (c _).mono ?_; rintro e w' ⟨rfl, rfl⟩)
        | (go_at_call 35; refine (c2 _).mono ?_; rintro e w' ⟨rfl, rfl⟩))
      go_ret
      exact ⟨by rw [HT.out, if_neg hm]; rfl, rfl⟩
def ListN (l : List ByteArray) (w : World) (e : Ending) (w' : World) : Prop := ∃ g c, e = .returned (.slice (some ⟨g, 0, none⟩) l.length c) ∧ Texts w' w.heap.size (.slice (some ⟨g, 0, none⟩) l.length c) l ∧ Below w.heap.size w w'
theorem own_some {w : World} {B n : Nat} {e : TypeId} {v : Value} {xs : List Value} (h : w.ownsRow B e 1 v n xs) (hv : v ≠ .slice none 0 0) : ∃ g c, v = .slice (some ⟨g, 0, none⟩) n c := by
  rcases h.2 with ⟨h0, _⟩ | ⟨g, cap, cur, h0, _⟩
  · exact absurd h0 hv
  · exact ⟨g, cap, h0⟩
theorem cut_bytes (r : ByteArray) (h : r ≠ ⟨#[]⟩) : lns r = r.extract 0 (r.size - (tb (cutB r.data.toList)).size) :: lns (tb (cutB r.data.toList)) ∧ (tb (cutB r.data.toList)).size < r.size := by
  have hne : r.data.toList ≠ [] := fun e => h (by rw [← tb_of r, e]; rfl)
  have h1 := cut_len r.data.toList
  have h2 := cutL_pos hne
  rw [len_l] at h1
  refine ⟨?_, by rw [tb_size]; omega⟩
  rw [lns, spl_step _ hne, List.map_cons, lns, tb_list, tb_size]
  congr 1
  apply ByteArray.ext
  apply Array.toList_inj.1
  rw [ByteArray.data_extract, Array.toList_extract, List.extract_eq_take_drop, List.drop_zero, show r.size - (cutB r.data.toList).length - 0 = (cutL r.data.toList).length by omega]
  show cutL r.data.toList = _
  conv => rhs; rw [← cut_join r.data.toList]
  rw [cut_join r.data.toList, ← cut_join r.data.toList]
  simp only [cut_join]
  conv => rhs; arg 2; rw [← cut_join r.data.toList]
  rw [List.take_left]
set_option maxRecDepth 100000 in
set_option maxHeartbeats 2000000 in
theorem split_few (s : ByteArray) (w : World) (hs : s.size ≤ 562949953421312) (hfew : (lns s).length ≤ 8796093022207) :
    Calls Try.prog 21 #[.string s] w (ListN (lns s) w) := by
  obtain ⟨i0, hi, hz0, hz1, hz2⟩ := info_parts info9
  have hle := lns_le s
  have c0 := fun W => count_lines s W (by omega)
  obtain ⟨L, hL⟩ : ∃ L, L = lns s := ⟨_, rfl⟩
  rw [← hL] at hle c0 hfew ⊢
  obtain ⟨N, hN⟩ : ∃ N, N = L.length := ⟨_, rfl⟩
  rw [← hN] at hle c0 hfew
  have HL := Lib.hid hL
  clear hL
  have HNN := Lib.hid hN
  clear hN
  go_enter Try.func21, Try.ntmps21
  go_wp2_with fail
  go_at_call 35
  refine (c0 _).mono ?_
  rintro e w' ⟨rfl, rfl⟩
  go_wp2_with (at_make; refine wpList_make_own _ rfl _ _ _ rfl w.heap.size 9 i0 (.string ⟨#[]⟩) 1 Try.underlying31 hi hz0 hz1 _ _ _ N rfl rfl rfl (by rw [hz2]; omega) (by unfold maxLen; omega) (Nat.le_refl _) ?_)
  intro w2 hown2 hgrow2
  have hB2 : Below w.heap.size w w2 := (Below.refl _ w).grown hgrow2 (Nat.le_refl _) (fun k hk => by cases hk)
  clear hgrow2
  go_wp2_with fail
  go_loopw [0, 3, 4, 5, 6] (fun x v _ _ _ wr => ∃ (pre : List ByteArray) (r : ByteArray), x = .string r ∧ r.size + pre.length ≤ s.size ∧ Hid (L = pre ++ lns r) ∧ Texts wr w.heap.size v pre ∧ v ≠ .slice none 0 0 ∧ Below w.heap.size w wr) (fun x _ _ _ _ _ => match x with | .string r => r.size | _ => 0)
  case atStart => exact ⟨[], s, rfl, by simp, HL.out, hown2, by simp, hB2⟩
  case round =>
    obtain ⟨pre, r, rfl, hrs, HP, htx, hv, hb⟩ := hrel
    have hsz := hb.size
    clear HL
    by_cases h0 : r = ⟨#[]⟩
    · obtain ⟨e0, e1⟩ := nil_yes h0
      have HE : Hid (L = pre) := by
        have h := HP.out
        rw [h0] at h
        exact h.trans (List.append_nil _)
      clear HP h0
      obtain ⟨g, c, rfl⟩ := own_some htx hv
      go_wp2_with fail
      go_ret
      have h := HE.out
      subst h
      exact ⟨g, c, rfl, htx, hb⟩
    · obtain ⟨e0, e1⟩ := nil_no h0
      obtain ⟨hcut, hlt⟩ := cut_bytes r h0
      have c1 := fun W => cut_any r W (by omega)
      unfold CutTo at c1
      obtain ⟨R, hR⟩ : ∃ R, R = tb (cutB r.data.toList) := ⟨_, rfl⟩
      rw [← hR] at hcut hlt c1
      have HP2 : Hid (L = (pre ++ [r.extract 0 (r.size - R.size)]) ++ lns R) := by
        show L = _
        rw [HP.out, hcut, List.append_assoc]
        rfl
      clear hR hcut HP h0
      have k1 : (0 : Int) ≤ (r.size : Int) - R.size := by omega
      have k2 : (r.size : Int) - R.size ≤ r.size := by omega
      have k3 : ((r.size : Int) - R.size).toNat = r.size - R.size := by omega
      have hown := htx
      unfold Texts at hown
      go_wp2_with fail
      go_at_call 36
      refine (c1 _).mono ?_
      rintro e w' ⟨⟨xa, xb, rfl⟩, nn, rfl⟩
      have hbd : Below w.heap.size w (wr.drewN nn) := ⟨hb.os, hb.tape, hb.output, hb.size, hb.block⟩
      have hownd : (wr.drewN nn).ownsRow w.heap.size 9 1 _ pre.length (pre.map sv) := hown
      have hszd : w.heap.size ≤ (wr.drewN nn).heap.size := hsz
      have hpl : pre.length ≤ 8796093022206 := by
        have h := congrArg List.length HP2.out
        rw [List.length_append, List.length_append, List.length_singleton, ← HNN.out] at h
        omega
      generalize wr.drewN nn = wd at hbd hownd hszd ⊢
      clear htx hown hb hsz c1
      go_wp2_with (at_builtin; refine wpList_append_own _ rfl _ _ 31 rfl w.heap.size 9 i0 (.string ⟨#[]⟩) 1 16 Try.underlying31 hi hz0 hz1 hz2 rfl (by decide) _ _ _ rfl (hownd.alloc _) ⟨wd.heap.size, 0, none⟩ 1 1 [sv (r.extract 0 (r.size - R.size))] rfl rfl ?c1 ?c2 ?c3 ?c4 ?c5 ?_)
      case c1 => exact cell_one_new _ _ _
      case c2 => exact sv_one [r.extract 0 (r.size - R.size)]
      case c3 => unfold maxLen; omega
      case c4 => omega
      case c5 => simp; omega
      intro v' w2 hown' hgrow hnil
      have hb3 := below_step hbd hownd hgrow
      have htx2 : Texts w2 w.heap.size v' (pre ++ [r.extract 0 (r.size - R.size)]) := by
        unfold Texts
        rw [List.length_append, List.map_append]
        exact hown'
      have hv2 : v' ≠ .slice none 0 0 := hnil
      clear hownd hown' hgrow hbd hnil hv
      go_wp2_with fail
      go_roundw
      case rel => exact ⟨pre ++ [r.extract 0 (r.size - R.size)], R, rfl, by simp; omega, HP2, htx2, hv2, hb3⟩
      case measure => exact hlt
end Go.Proofs.Ytnpobigombafoaa.Ln

namespace Go.Proofs.Ytnpobigombafoaa.Mg
open Go.RowKit Go.ChangeShapes Go.WideShapes Tx Um Ud Aq Km Kd Lm Ln
set_option linter.unusedVariables false
def Kz (x : Nat) (w w1 : World) : Prop := ∀ (g : Nat) (cs : Array Value) (ty : TypeId) (fr : Nat × Nat), ty ≠ 33 → g ≠ x → w.heap[g]? = some (Obj.cells cs ty fr) → w1.heap[g]? = some (Obj.cells cs ty fr)
theorem Kz.refl (x : Nat) (w : World) : Kz x w w := fun _ _ _ _ _ _ h => h
theorem Kz.then {x : Nat} {a b c : World} (h : Kz x a b) (k : Kq b c) : Kz x a c := fun g cs ty fr n m y => k g cs ty fr n (h g cs ty fr n m y)
theorem Kz.set {x : Nat} {a b : World} (h : Kz x a b) (k : Nat) (u : Value) : Kz x a (b.setCell ⟨x, k, none⟩ u) := fun g cs ty fr n m y => by
  refine (Below.heap_setCell _ _ _ _ m).trans (h g cs ty fr n m y)
theorem Kz.bk {x g : Nat} {w w1 : World} {cs : Array Value} {ty : TypeId} (h : Kz x w w1) (hb : Bk w g cs ty) (hne : ty ≠ 33) (hg : g ≠ x) : Bk w1 g cs ty := h g cs ty _ hne hg hb
theorem Kz.kp {x : Nat} {w w1 : World} {cs : Array Value} {ty : TypeId} (h : Kz x w w1) (hb : Bk w x cs ty) (hne : ty ≠ 9) : Kp w w1 := fun g cs2 fr y => by
  refine h g cs2 _ fr (by decide) (fun e => ?_) y
  subst e
  unfold Bk at hb
  rw [hb] at y
  injection y with y
  injection y with _ y _
  exact hne y
def Ks (w w1 : World) : Prop := ∀ (g : Nat) (cs : Array Value) (ty : TypeId) (fr : Nat × Nat), ty = 33 ∨ ty = 9 → w.heap[g]? = some (Obj.cells cs ty fr) → w1.heap[g]? = some (Obj.cells cs ty fr)
theorem Ks.kp {w w1 : World} (h : Ks w w1) : Kp w w1 := fun g cs fr y => h g cs _ fr (.inr rfl) y
theorem Ks.set {w : World} {x : Nat} {cs : Array Value} {ty : TypeId} (hb : Bk w x cs ty) (h1 : ty ≠ 33) (h2 : ty ≠ 9) (k : Nat) (u : Value) : Ks w (w.setCell ⟨x, k, none⟩ u) := fun g cs2 ty2 fr ht y => by
  refine (Below.heap_setCell _ _ _ _ (fun e => ?_)).trans y
  subst e
  unfold Bk at hb
  rw [hb] at y
  injection y with y
  injection y with _ y _
  subst y
  rcases ht with ht | ht
  · exact h1 ht
  · exact h2 ht
theorem Ks.trans {a b c : World} (h : Ks a b) (k : Ks b c) : Ks a c := fun g cs ty fr t y => k g cs ty fr t (h g cs ty fr t y)
theorem Rwc.keep {B : Nat} {w w1 : World} {v : Value} {r : List (Ck ByteArray)} (h : Rwc B w v r) (hk : Ks w w1) : Rwc B w1 v r := by
  obtain ⟨cs, h1, h2, h3⟩ := h
  refine ⟨cs, ⟨h1.1, ?_⟩, h2.keep hk.kp, h3.keep hk.kp⟩
  rcases h1.2 with h0 | ⟨g', cap', cur, hv, hg, hh, q⟩
  · exact .inl h0
  · exact .inr ⟨g', cap', cur, hv, hg, hk g' cur _ (0, 0) (.inl rfl) hh, q⟩
theorem bk_set {w : World} {g k : Nat} {cs : Array Value} {ty : TypeId} (h : Bk w g cs ty) (u : Value) : Bk (w.setCell ⟨g, k, none⟩ u) g (cs.setIfInBounds k u) ty := by
  unfold Bk at h ⊢
  simp only [World.setCell, Array.getElem?_modify, if_true, h, Option.map_some]
  rfl
theorem bk_new (w : World) (cs : Array Value) (ty : TypeId) : Bk (w.alloc (.cells cs ty)) w.heap.size cs ty := heap_alloc_new w _
def cl3 (t : Tr) : Array Value := #[.int .i64 (t.1 : Int), .int .i64 (t.2.1 : Int), .int .i64 (t.2.2 : Int)]
theorem bk_set3 {w : World} {g : Nat} {d e : Tr} {ty : TypeId} (h : Bk w g (cl3 d) ty) : Bk (((w.setCell ⟨g, 0, none⟩ (.int .i64 (e.1 : Int))).setCell ⟨g, 1, none⟩ (.int .i64 (e.2.1 : Int))).setCell ⟨g, 2, none⟩ (.int .i64 (e.2.2 : Int))) g (cl3 e) ty :=
  bk_set (bk_set (bk_set h _) _) _
def Rb (w : World) (g : Nat) (R : List (Tr × Tr)) : Prop := ∃ cur, Bk w g cur 54 ∧ ∀ (k : Nat) x, R[k]? = some x → ∀ (j : Nat) u, (h6 x)[j]? = some u → cur[k * 6 + j]? = some u
theorem rb_of {w : World} {B n : Nat} {v : Value} {R : List (Tr × Tr)} (h : w.ownsRow B 54 6 v n (R.flatMap h6)) (hn : n = R.length) (h0 : 0 < n) : ∃ g c, v = .slice (some ⟨g, 0, none⟩) n c ∧ B ≤ g ∧ Rb w g R := by
  rcases h.2 with ⟨rfl, h1⟩ | ⟨g, cap, cur, rfl, hg, hh, h2, h3, h4, h5⟩
  · omega
  · refine ⟨g, cap, rfl, hg, cur, hh, fun k x hx j u hj => ?_⟩
    have e := flat6_get R k x hx j u hj
    rw [← h5, List.getElem?_take] at e
    split at e
    · rw [Array.getElem?_toList] at e
      exact e
    · cases e
theorem Rb.six {w : World} {g : Nat} {R : List (Tr × Tr)} (h : Rb w g R) {k : Nat} {x : Tr × Tr} (hx : R[k]? = some x) : Six g k x w := by
  obtain ⟨cur, h1, h2⟩ := h
  exact ⟨h1.cell _ (h2 k x hx 0 _ rfl), h1.cell _ (h2 k x hx 1 _ rfl), h1.cell _ (h2 k x hx 2 _ rfl), h1.cell _ (h2 k x hx 3 _ rfl), h1.cell _ (h2 k x hx 4 _ rfl), h1.cell _ (h2 k x hx 5 _ rfl)⟩
theorem Rb.kz {w w1 : World} {g x : Nat} {R : List (Tr × Tr)} (h : Rb w g R) (hk : Kz x w w1) (hne : g ≠ x) : Rb w1 g R := by
  obtain ⟨cur, h1, h2⟩ := h
  exact ⟨cur, hk.bk h1 (by decide) hne, h2⟩
theorem line_size {s x : ByteArray} (h : x ∈ lns s) : x.size ≤ s.size := by
  have e := congrArg ByteArray.size (lns_cat s)
  have key : ∀ (l : List ByteArray), x ∈ l → x.size ≤ (cat l).size := by
    intro l
    induction l with
    | nil => intro h; cases h
    | cons y l ih =>
      intro h
      have e : cat (y :: l) = y ++ cat l := by
        apply ByteArray.ext
        simp [cat, tb]
      rw [e, ByteArray.size_append]
      rcases List.mem_cons.1 h with rfl | h
      · omega
      · have := ih h
        omega
  have := key _ h
  omega
theorem own_kept {w w1 : World} {B sz n : Nat} {e : TypeId} {v : Value} {xs : List Value} (h : w.ownsRow B e sz v n xs) (hg : w.grownBy w1 v.ownBlock) : ∀ (g : Nat) (cs : Array Value) (ty : TypeId) (fr : Nat × Nat), ty ≠ e → w.heap[g]? = some (Obj.cells cs ty fr) → w1.heap[g]? = some (Obj.cells cs ty fr) := by
  intro g cs ty fr hne x
  refine (hg.block g (Array.getElem?_eq_some_iff.1 x).1 fun e2 => ?_).trans x
  rcases h.2 with ⟨rfl, _⟩ | ⟨g1, cap, cur1, rfl, _, hh, _⟩
  · cases e2
  · obtain rfl : g = g1 := by simpa [Value.ownBlock] using e2
    rw [hh] at x
    injection x with x
    injection x with _ x _
    exact hne x.symm
theorem bk_ne {w : World} {g h : Nat} {c1 c2 : Array Value} {t1 t2 : TypeId} (h1 : Bk w g c1 t1) (h2 : Bk w h c2 t2) (hne : t1 ≠ t2) : g ≠ h := by
  rintro rfl
  unfold Bk at h1 h2
  rw [h1] at h2
  injection h2 with h2
  injection h2 with _ h2 _
  exact hne h2
theorem st1_eq (o a b : List ByteArray) (d f t : Tr) (r : List (Ck ByteArray)) : st1 o a b (d, r) (f, t) = (t, lg o a b true f t (lg o a b false d f r)) := rfl
def cl6 (f t : Tr) : Array Value := #[.int .i64 (f.1 : Int), .int .i64 (f.2.1 : Int), .int .i64 (f.2.2 : Int), .int .i64 (t.1 : Int), .int .i64 (t.2.1 : Int), .int .i64 (t.2.2 : Int)]
theorem ks_set3 {w : World} {g : Nat} {d : Tr} (hb : Bk w g (cl3 d) 52) (x y z : Value) : Ks w (((w.setCell ⟨g, 0, none⟩ x).setCell ⟨g, 1, none⟩ y).setCell ⟨g, 2, none⟩ z) :=
  (Ks.set hb (by decide) (by decide) _ _).trans ((Ks.set (bk_set hb _) (by decide) (by decide) _ _).trans (Ks.set (bk_set (bk_set hb _) _) (by decide) (by decide) _ _))
theorem lg_len (o a b : List ByteArray) (s : Bool) (f t : Tr) (r : List (Ck ByteArray)) : (lg o a b s f t r).length ≤ r.length + 1 := by
  unfold lg
  split
  · exact Nat.le_succ _
  · exact Nat.le_refl _
end Go.Proofs.Ytnpobigombafoaa.Mg

namespace Go.Proofs.Ytnpobigombafoaa.Mg
open Go.RowKit Go.ChangeShapes Go.WideShapes Tx Um Ud Aq Km Kd Lm Ln
set_option linter.unusedVariables false
def P1 (g : Nat) (o : List ByteArray) (W : World) : Prop := ∃ A ca, Bk W g #[.slice A o.length ca, .slice none 0 0, .slice none 0 0] 45 ∧ Src W A ca o
def P2 (g : Nat) (o a : List ByteArray) (W : World) : Prop := ∃ A ca C cc, Bk W g #[.slice A o.length ca, .slice C a.length cc, .slice none 0 0] 45 ∧ Src W A ca o ∧ Src W C cc a
def P3 (g : Nat) (o a b : List ByteArray) (W : World) : Prop := ∃ A ca C cc D cd, Bk W g #[.slice A o.length ca, .slice C a.length cc, .slice D b.length cd] 45 ∧ Src W A ca o ∧ Src W C cc a ∧ Src W D cd b
theorem src_list {w w' : World} {l : List ByteArray} {g c : Nat} (h : Texts w' w.heap.size (.slice (some ⟨g, 0, none⟩) l.length c) l) : Src w' (some ⟨g, 0, none⟩) c l := by
  obtain ⟨A, c', e, h1⟩ := src_of (show Lo w' w.heap.size (.slice (some ⟨g, 0, none⟩) l.length c) l from h)
  injection e with e1 _ e3
  subst e1
  subst e3
  exact h1
theorem txt_few {s : ByteArray} (h : txt s = 0) : (lns s).length ≤ 400 := by
  unfold txt at h
  split at h
  · cases h
  · split at h
    · cases h
    · omega
set_option maxRecDepth 100000 in
set_option maxHeartbeats 8000000 in
theorem chunks_any (s t u : ByteArray) (w : World) (hs : s.size ≤ 140737488355328) (ht : t.size ≤ 140737488355328) (hu : u.size ≤ 140737488355328) :
    Calls Try.prog 9 #[.string s, .string t, .string u] w (ChTo (chs s t u) (err3 s t u) w) := by
  obtain ⟨o, ho⟩ : ∃ o, o = lns s := ⟨_, rfl⟩
  obtain ⟨a, ha⟩ : ∃ a, a = lns t := ⟨_, rfl⟩
  obtain ⟨b, hb⟩ : ∃ b, b = lns u := ⟨_, rfl⟩
  have HO := Lib.hid ho
  have HA := Lib.hid ha
  have HBB := Lib.hid hb
  clear ho ha hb
  have HS := Lib.hid hs
  have HT := Lib.hid ht
  have HU := Lib.hid hu
  clear hs ht hu
  go_enter Try.func9, Try.ntmps9
  go_wp2_with fail
  have HB0 : Hid (Below w.heap.size w (w.alloc (.cells #[.slice none 0 0, .slice none 0 0, .slice none 0 0] 45))) := (Below.refl _ w).alloc (Nat.le_refl _) _
  have HK0 : Hid (Bk (w.alloc (.cells #[.slice none 0 0, .slice none 0 0, .slice none 0 0] 45)) w.heap.size #[.slice none 0 0, .slice none 0 0, .slice none 0 0] 45) := bk_new _ _ _
  obtain ⟨w0, hw0⟩ : ∃ w0, w0 = w.alloc (.cells #[.slice none 0 0, .slice none 0 0, .slice none 0 0] 45) := ⟨_, rfl⟩
  rw [← hw0] at HB0 HK0 ⊢
  clear hw0
  obtain ⟨G, hG⟩ : ∃ G, G = w.heap.size := ⟨_, rfl⟩
  have HG := Lib.hid hG
  rw [← hG] at HK0 ⊢
  clear hG
  go_loopw [9, 10, 11, 23] (fun _ _ _ i wr => Hid (Below w.heap.size w wr) ∧ ((i = .int .i64 0 ∧ Hid (Bk wr G #[.slice none 0 0, .slice none 0 0, .slice none 0 0] 45)) ∨ (i = .int .i64 1 ∧ Hid (P1 G o wr ∧ txt s = 0)) ∨ (i = .int .i64 2 ∧ Hid (P2 G o a wr ∧ txt s = 0 ∧ txt t = 0)) ∨ (i = .int .i64 3 ∧ Hid (P3 G o a b wr ∧ txt s = 0 ∧ txt t = 0 ∧ txt u = 0)))) (fun _ _ _ i _ => 3 - (intOf i).toNat)
  case atStart => exact ⟨HB0, .inl ⟨rfl, HK0⟩⟩
  case round =>
    clear HB0 HK0
    obtain ⟨HB, hrel⟩ := hrel
    rcases hrel with ⟨rfl, HP⟩ | ⟨rfl, HP⟩ | ⟨rfl, HP⟩ | ⟨rfl, HP⟩
    · have HK := Lib.hid HP.out
      clear HP
      have hx1 : s.size ≤ 562949953421312 := by have := HS.out; omega
      have hI : ∀ W : World, (Instr.index 46 (.agg #[.string s, .string t, .string u]) (.int .i64 0)).run Try.prog W = .ok (.string s) W := fun W => by kernel_rfl
      go_wp2_with fail
      clear hI
      go_at_call 18
      refine (text_lines s _ hx1).mono ?_
      rintro e w1' ⟨rfl, rfl⟩
      by_cases hz : txt s = 0
      · have HZ := Lib.hid hz
        have few := txt_few hz
        rw [hz]
        have cS := split_few s wr hx1 (by omega)
        rw [← HO.out] at cS few
        have CS := Lib.hid cS
        clear cS hz
        go_wp2_with fail
        go_at_call 21
        refine CS.out.mono ?_
        rintro e w2 ⟨gl, cl, rfl, hl, hb2⟩
        have hS := src_list hl
        have HK2 := Lib.hid (HK.out.below hb2 HK.out.lt)
        have m0 := HK2.out.cell 0 rfl
        have m1 := HK2.out.cell 1 rfl
        have m2 := HK2.out.cell 2 rfl
        have f0 := HK2.out.warm 0
        have f1 := HK2.out.warm 1
        have f2 := HK2.out.warm 2
        have HSet := Lib.hid (bk_set (k := 0) HK2.out (.slice (some ⟨gl, 0, none⟩) o.length cl))
        have HKp : Hid (Kp w2 (w2.setCell ⟨G, 0, none⟩ (.slice (some ⟨gl, 0, none⟩) o.length cl))) := (Ks.set HK2.out (by decide) (by decide) _ _).kp
        have HBk : Hid (Below w.heap.size w (w2.setCell ⟨G, 0, none⟩ (.slice (some ⟨gl, 0, none⟩) o.length cl))) := (HB.out.trans (hb2.mono HB.out.size)).setCell (p := ⟨G, _, none⟩) (by show w.heap.size ≤ G; rw [HG.out]; exact Nat.le_refl _) _
        have HNew := Lib.hid (hS.keep HKp.out)
        clear hl hb2 hS HK HK2 CS
        go_wp2_with fail
        go_roundw
        case rel => exact ⟨HBk, .inr (.inl ⟨by go_num, ⟨_, _, HSet.out, HNew.out⟩, HZ.out⟩)⟩
        case measure => simp only [intOf]; omega
      · have hE : err3 s t u = txt s := by unfold err3; rw [if_pos hz]
        have hz2 : ¬ ((txt s : Nat) : Int) = 0 := by omega
        have HE := Lib.hid hE
        have HNZ := Lib.hid hz
        clear hE hz HK
        go_wp2_with fail
        go_ret2
        have hc : chs s t u = [] := by
          unfold chs
          rw [HE.out, if_neg HNZ.out]
        rw [hc, HE.out]
        exact ⟨_, [], rfl, cs_nil _ _, trivial, OwnC.nil _ _, HB.out⟩
    · obtain ⟨⟨A, ca, hK, hA⟩, z1⟩ := HP.out
      have HK := Lib.hid hK
      have HSA := Lib.hid hA
      have HZ1 := Lib.hid z1
      clear hK hA z1
      clear HP
      have hx1 : t.size ≤ 562949953421312 := by have := HT.out; omega
      have hI : ∀ W : World, (Instr.index 46 (.agg #[.string s, .string t, .string u]) (.int .i64 1)).run Try.prog W = .ok (.string t) W := fun W => by kernel_rfl
      go_wp2_with fail
      clear hI
      go_at_call 18
      refine (text_lines t _ hx1).mono ?_
      rintro e w1' ⟨rfl, rfl⟩
      by_cases hz : txt t = 0
      · have HZ := Lib.hid hz
        have few := txt_few hz
        rw [hz]
        have cS := split_few t wr hx1 (by omega)
        rw [← HA.out] at cS few
        have CS := Lib.hid cS
        clear cS hz
        go_wp2_with fail
        go_at_call 21
        refine CS.out.mono ?_
        rintro e w2 ⟨gl, cl, rfl, hl, hb2⟩
        have hS := src_list hl
        have HK2 := Lib.hid (HK.out.below hb2 HK.out.lt)
        have m0 := HK2.out.cell 0 rfl
        have m1 := HK2.out.cell 1 rfl
        have m2 := HK2.out.cell 2 rfl
        have f0 := HK2.out.warm 0
        have f1 := HK2.out.warm 1
        have f2 := HK2.out.warm 2
        have HSet := Lib.hid (bk_set (k := 1) HK2.out (.slice (some ⟨gl, 0, none⟩) a.length cl))
        have HKp : Hid (Kp w2 (w2.setCell ⟨G, 1, none⟩ (.slice (some ⟨gl, 0, none⟩) a.length cl))) := (Ks.set HK2.out (by decide) (by decide) _ _).kp
        have HBk : Hid (Below w.heap.size w (w2.setCell ⟨G, 1, none⟩ (.slice (some ⟨gl, 0, none⟩) a.length cl))) := (HB.out.trans (hb2.mono HB.out.size)).setCell (p := ⟨G, _, none⟩) (by show w.heap.size ≤ G; rw [HG.out]; exact Nat.le_refl _) _
        have HNew := Lib.hid (hS.keep HKp.out)
        have HQA := Lib.hid ((HSA.out.keep (.of_below hb2)).keep HKp.out)
        clear hl hb2 hS HK HK2 CS
        go_wp2_with fail
        go_roundw
        case rel => exact ⟨HBk, .inr (.inr (.inl ⟨by go_num, ⟨_, _, _, _, HSet.out, HQA.out, HNew.out⟩, HZ1.out, HZ.out⟩))⟩
        case measure => simp only [intOf]; omega
      · have hE : err3 s t u = txt t := by unfold err3; rw [if_neg (fun e => e HZ1.out), if_pos hz]
        have hz2 : ¬ ((txt t : Nat) : Int) = 0 := by omega
        have HE := Lib.hid hE
        have HNZ := Lib.hid hz
        clear hE hz HK
        go_wp2_with fail
        go_ret2
        have hc : chs s t u = [] := by
          unfold chs
          rw [HE.out, if_neg HNZ.out]
        rw [hc, HE.out]
        exact ⟨_, [], rfl, cs_nil _ _, trivial, OwnC.nil _ _, HB.out⟩
    · obtain ⟨⟨A, ca, C, cc, hK, hA, hC⟩, z1, z2⟩ := HP.out
      have HK := Lib.hid hK
      have HSA := Lib.hid hA
      have HSC := Lib.hid hC
      have HZ1 := Lib.hid z1
      have HZ2 := Lib.hid z2
      clear hK hA hC z1 z2
      clear HP
      have hx1 : u.size ≤ 562949953421312 := by have := HU.out; omega
      have hI : ∀ W : World, (Instr.index 46 (.agg #[.string s, .string t, .string u]) (.int .i64 2)).run Try.prog W = .ok (.string u) W := fun W => by kernel_rfl
      go_wp2_with fail
      clear hI
      go_at_call 18
      refine (text_lines u _ hx1).mono ?_
      rintro e w1' ⟨rfl, rfl⟩
      by_cases hz : txt u = 0
      · have HZ := Lib.hid hz
        have few := txt_few hz
        rw [hz]
        have cS := split_few u wr hx1 (by omega)
        rw [← HBB.out] at cS few
        have CS := Lib.hid cS
        clear cS hz
        go_wp2_with fail
        go_at_call 21
        refine CS.out.mono ?_
        rintro e w2 ⟨gl, cl, rfl, hl, hb2⟩
        have hS := src_list hl
        have HK2 := Lib.hid (HK.out.below hb2 HK.out.lt)
        have m0 := HK2.out.cell 0 rfl
        have m1 := HK2.out.cell 1 rfl
        have m2 := HK2.out.cell 2 rfl
        have f0 := HK2.out.warm 0
        have f1 := HK2.out.warm 1
        have f2 := HK2.out.warm 2
        have HSet := Lib.hid (bk_set (k := 2) HK2.out (.slice (some ⟨gl, 0, none⟩) b.length cl))
        have HKp : Hid (Kp w2 (w2.setCell ⟨G, 2, none⟩ (.slice (some ⟨gl, 0, none⟩) b.length cl))) := (Ks.set HK2.out (by decide) (by decide) _ _).kp
        have HBk : Hid (Below w.heap.size w (w2.setCell ⟨G, 2, none⟩ (.slice (some ⟨gl, 0, none⟩) b.length cl))) := (HB.out.trans (hb2.mono HB.out.size)).setCell (p := ⟨G, _, none⟩) (by show w.heap.size ≤ G; rw [HG.out]; exact Nat.le_refl _) _
        have HNew := Lib.hid (hS.keep HKp.out)
        have HQA := Lib.hid ((HSA.out.keep (.of_below hb2)).keep HKp.out)
        have HQC := Lib.hid ((HSC.out.keep (.of_below hb2)).keep HKp.out)
        clear hl hb2 hS HK HK2 CS
        go_wp2_with fail
        go_roundw
        case rel => exact ⟨HBk, .inr (.inr (.inr ⟨by go_num, ⟨_, _, _, _, _, _, HSet.out, HQA.out, HQC.out, HNew.out⟩, HZ1.out, HZ2.out, HZ.out⟩))⟩
        case measure => simp only [intOf]; omega
      · have hE : err3 s t u = txt u := by unfold err3; rw [if_neg (fun e => e HZ1.out), if_neg (fun e => e HZ2.out)]
        have hz2 : ¬ ((txt u : Nat) : Int) = 0 := by omega
        have HE := Lib.hid hE
        have HNZ := Lib.hid hz
        clear hE hz HK
        go_wp2_with fail
        go_ret2
        have hc : chs s t u = [] := by
          unfold chs
          rw [HE.out, if_neg HNZ.out]
        rw [hc, HE.out]
        exact ⟨_, [], rfl, cs_nil _ _, trivial, OwnC.nil _ _, HB.out⟩
    · obtain ⟨⟨A, ca, C, cc, D, cd, hK, hA, hC, hD⟩, z1, z2, z3⟩ := HP.out
      have HK := Lib.hid hK
      have HSA := Lib.hid hA
      have HSC := Lib.hid hC
      have HSD := Lib.hid hD
      have hE : err3 s t u = 0 := by unfold err3; rw [if_neg (fun e => e z1), if_neg (fun e => e z2)]; exact z3
      have hch : chs s t u = (pie o a b).reverse := by unfold chs; rw [if_pos hE, HO.out, HA.out, HBB.out]; rfl
      have HE := Lib.hid hE
      have HCH := Lib.hid hch
      have lo : o.length ≤ 400 := by rw [HO.out]; exact txt_few z1
      have la : a.length ≤ 400 := by rw [HA.out]; exact txt_few z2
      have lb : b.length ≤ 400 := by rw [HBB.out]; exact txt_few z3
      have so : ∀ x, x ∈ o → x.size ≤ maxLen := fun x h => by rw [HO.out] at h; have := line_size h; have := HS.out; unfold maxLen; omega
      have sa : ∀ x, x ∈ a → x.size ≤ maxLen := fun x h => by rw [HA.out] at h; have := line_size h; have := HT.out; unfold maxLen; omega
      have sb : ∀ x, x ∈ b → x.size ≤ maxLen := fun x h => by rw [HBB.out] at h; have := line_size h; have := HU.out; unfold maxLen; omega
      have CR := Lib.hid (rows_any A C D ca cc cd o a b wr hA.strs hC.strs hD.strs lo la lb so sa sb)
      have m0 := hK.cell 0 rfl
      have m1 := hK.cell 1 rfl
      have m2 := hK.cell 2 rfl
      clear hK hA hC hD HP hE hch z1 z2 z3 so sa sb
      go_wp2_with fail
      go_at_call 22
      refine CR.out.mono ?_
      rintro e w2 ⟨v2, rfl, hv2, hb2⟩
      have HB2 : Hid (Below w.heap.size w w2) := HB.out.trans (hb2.mono HB.out.size)
      have HK2 := Lib.hid (HK.out.below hb2 HK.out.lt)
      have HA2 := Lib.hid (HSA.out.keep (.of_below hb2))
      have HC2 := Lib.hid (HSC.out.keep (.of_below hb2))
      have HD2 := Lib.hid (HSD.out.keep (.of_below hb2))
      have n0 := HK2.out.cell 0 rfl
      have n1 := HK2.out.cell 1 rfl
      have n2 := HK2.out.cell 2 rfl
      obtain ⟨R, hR⟩ : ∃ R, R = rws o a b := ⟨_, rfl⟩
      have hRl : R.length ≤ 160000 := by
        have q0 := foldl_jn_len (trip (pairs 0 0 (steps o a)) (pairs 0 0 (steps o b))) []
        have q1 := trip_len (pairs 0 0 (steps o a)) (pairs 0 0 (steps o b))
        have p1 := pairs_len (steps o a) 0 0
        have p2 := kept o a
        have p3 := lcs_le_left o a
        have p4 := pairs_len (steps o b) 0 0
        have p5 := kept o b
        have p6 := lcs_le_left o b
        have q2 : (pairs 0 0 (steps o a)).length * (pairs 0 0 (steps o b)).length ≤ 400 * 400 := Nat.mul_le_mul (by omega) (by omega)
        rw [hR]
        show (List.foldl jn [] _).length ≤ _
        rw [List.length_nil] at q0
        omega
      have hAll := rws_all o a b
      rw [← hR] at hAll hv2
      have HALL := Lib.hid hAll
      have HROW := Lib.hid hv2
      have hszd := hb2.size
      clear hAll hR hv2 hb2 HK HSA HSC HSD CR m0 m1 m2
      obtain ⟨iP, hP, hP0, hP1, hP2⟩ := info_parts infoP
      obtain ⟨av, cv, hvf, _⟩ := HROW.out.form
      have hown2 : w2.ownsRow wr.heap.size 54 6 (.slice av R.length cv) R.length (R.flatMap h6) := by rw [← hvf]; exact HROW.out
      subst hvf
      obtain ⟨NR, hNR⟩ : ∃ NR, NR = R.length := ⟨_, rfl⟩
      rw [← hNR] at hRl hown2 ⊢
      have HNR := Lib.hid hNR
      obtain ⟨W3, hW3⟩ : ∃ W3, W3 = (w2.alloc (.cells #[.int .i64 (o.length : Int), .int .i64 (a.length : Int), .int .i64 (b.length : Int)] 52)).alloc (.cells #[.int .i64 0, .int .i64 0, .int .i64 0] 52) := ⟨_, rfl⟩
      have hs3 : W3.heap.size = w2.heap.size + 1 + 1 := by rw [hW3]; go_simp
      have hown3 : W3.ownsRow wr.heap.size 54 6 (.slice av NR cv) NR (R.flatMap h6) := by rw [hW3]; exact (hown2.alloc _).alloc _
      have hb3 : Below w2.heap.size w2 W3 := by rw [hW3]; exact ((Below.refl _ w2).alloc (Nat.le_refl _) _).alloc (by simp) _
      have hD3 : Bk W3 (w2.heap.size + 1) (cl3 (0, 0, 0)) 52 := by
        rw [hW3]
        have h := bk_new (w2.alloc (.cells #[.int .i64 (o.length : Int), .int .i64 (a.length : Int), .int .i64 (b.length : Int)] 52)) #[.int .i64 0, .int .i64 0, .int .i64 0] 52
        rw [show (w2.alloc (.cells #[.int .i64 (o.length : Int), .int .i64 (a.length : Int), .int .i64 (b.length : Int)] 52)).heap.size = w2.heap.size + 1 by simp] at h
        exact h
      have HD3 := Lib.hid hD3
      have HOW3 := Lib.hid hown3
      have HBW3 : Hid (Below w.heap.size w W3) := HB2.out.trans (hb3.mono HB2.out.size)
      have HK3 := Lib.hid (HK2.out.below hb3 HK2.out.lt)
      have HA3 := Lib.hid (HA2.out.keep (.of_below hb3))
      have HC3 := Lib.hid (HC2.out.keep (.of_below hb3))
      have HD3' := Lib.hid (HD2.out.keep (.of_below hb3))
      clear hNR hown2 hown3 hb3 hD3 HROW
      have hbase : wr.heap.size ≤ W3.heap.size := by omega
      have hown4 := HOW3.out
      rw [hW3] at hown4
      go_wp2_with (at_builtin; refine wpList_append_own _ rfl _ _ 48 rfl wr.heap.size 54 iP (.agg #[.int .i64 0, .int .i64 0, .int .i64 0, .int .i64 0, .int .i64 0, .int .i64 0]) 6 48 Try.underlying48 hP hP0 hP1 hP2 rfl (by decide) _ _ _ rfl (hown4.alloc _) ⟨_, 0, none⟩ 1 1 [iv o.length, iv a.length, iv b.length, iv o.length, iv a.length, iv b.length] rfl rfl ?c1 ?c2 ?c3 ?c4 ?c5 ?_)
      case c1 =>
        have h := cell_six2 W3 (iv o.length) (iv a.length) (iv b.length) (iv o.length) (iv a.length) (iv b.length) 54
        rw [hs3, hW3] at h
        exact h
      case c2 =>
        intro u hu
        simp only [List.mem_cons, List.not_mem_nil, or_false] at hu
        rcases hu with rfl | rfl | rfl | rfl | rfl | rfl <;> rfl
      case c3 => unfold maxLen; omega
      case c4 => omega
      case c5 => rw [hW3] at hbase; exact Nat.le_trans hbase (by simp)
      intro v7 w7 hown7 hgrow _
      rw [← hW3] at hgrow
      clear hown4 hW3 hbase
      have hal : Below W3.heap.size W3 (W3.alloc (.cells (cl6 (o.length, a.length, b.length) (o.length, a.length, b.length)) 54)) := (Below.refl _ W3).alloc (Nat.le_refl _) _
      have hgrow2 : (W3.alloc (.cells (cl6 (o.length, a.length, b.length) (o.length, a.length, b.length)) 54)).grownBy w7 (Value.slice av NR cv).ownBlock := hgrow
      have hkr := own_kept (World.ownsRow.alloc HOW3.out (.cells (cl6 (o.length, a.length, b.length) (o.length, a.length, b.length)) 54)) hgrow2
      have hkp : Kp W3 w7 := (Kp.of_below hal).trans (fun g cs fr x => hkr g cs _ fr (by decide) x)
      have HB7 : Hid (Below w.heap.size w w7) := (HBW3.out.alloc HBW3.out.size _).grown hgrow2 (Nat.le_trans HBW3.out.size hal.size) (fun k hk => Nat.le_trans HB.out.size ((World.ownsRow.lt HOW3.out k hk).1))
      have HK7 : Hid (Bk w7 G #[.slice A o.length ca, .slice C a.length cc, .slice D b.length cd] 45) := hkr G _ _ _ (by decide) (HK3.out.below hal HK3.out.lt)
      have HD7 : Hid (Bk w7 (w2.heap.size + 1) (cl3 (0, 0, 0)) 52) := hkr _ _ _ _ (by decide) (HD3.out.below hal HD3.out.lt)
      have HA7 := Lib.hid (HA3.out.keep hkp)
      have HC7 := Lib.hid (HC3.out.keep hkp)
      have HDD7 := Lib.hid (HD3'.out.keep hkp)
      obtain ⟨E, hEE⟩ : ∃ E, E = R ++ [ends3 o a b] := ⟨_, rfl⟩
      have hEl : E.length = NR + 1 := by rw [hEE, List.length_append, List.length_singleton, HNR.out]
      have hfm : E.flatMap h6 = R.flatMap h6 ++ [iv o.length, iv a.length, iv b.length, iv o.length, iv a.length, iv b.length] := by
        rw [hEE, List.flatMap_append]
        rfl
      rw [← hfm] at hown7
      obtain ⟨gr, cr, rfl, hgr, hrb⟩ := rb_of hown7 hEl.symm (by omega)
      have HRB := Lib.hid hrb
      have HALL2 := HALL.out
      rw [← hEE] at HALL2
      have HAL2 := Lib.hid HALL2
      have HEL := Lib.hid hEl
      have hgD : w.heap.size ≤ w2.heap.size + 1 := by have := HB2.out.size; omega
      obtain ⟨gD, hgDe⟩ : ∃ gD, gD = w2.heap.size + 1 := ⟨_, rfl⟩
      rw [← hgDe] at HD7 hgD ⊢
      clear hgDe HALL HALL2 hEl hEE hfm hown7 hgrow hgrow2 hkr hkp hal hrb HOW3 HD3 HBW3 HK3 HA3 HC3 HD3' HA2 HC2 HD2 HK2 HB2 HB hP hP0 hP1 hP2 HNR hs3 hgr n0 n1 n2 hszd
      go_wp2_with fail
      go_loopw [15, 18, 62] (fun v _ i wx => ∃ n : Nat, i = .int .i64 (n : Int) ∧ n ≤ NR + 1 ∧ Hid (Rwc w.heap.size wx v (stR o a b (E.take n)).2) ∧ Hid (Bk wx gD (cl3 (stR o a b (E.take n)).1) 52) ∧ Hid (Kz gD w7 wx) ∧ Hid (Below w.heap.size w wx)) (fun _ _ i _ => NR + 1 - (intOf i).toNat)
      case atStart => exact ⟨0, rfl, Nat.zero_le _, Rwc.nil _ _, HD7, Kz.refl _ _, HB7⟩
      case round =>
        obtain ⟨n, rfl, hn, HRW, HDX, HKZ, HBX⟩ := hrel
        by_cases hlt : n < NR + 1
        · have e1 : (n : Int) < ((NR + 1 : Nat) : Int) := by omega
          have hlE : n < E.length := by rw [HEL.out]; exact hlt
          obtain ⟨⟨f, t'⟩, hx⟩ : ∃ x, E[n]? = some x := ⟨_, List.getElem?_eq_getElem hlE⟩
          obtain ⟨z1, z2, z3, z4, z5, z6, z7, z8, z9⟩ := rz_at (o := o) (a := a) (b := b) HAL2.out.1 n (f, t') hx []
          have hst := stR_take (o := o) (a := a) (b := b) hx
          have hrl := stR_len o a b (E.take n)
          rw [List.length_take, Nat.min_eq_left (by omega)] at hrl
          obtain ⟨⟨d, r⟩, hS⟩ : ∃ S, S = stR o a b (E.take n) := ⟨_, rfl⟩
          change (stR o a b (E.take n)).1.1 ≤ _ at z1
          change (stR o a b (E.take n)).1.2.1 ≤ _ at z2
          change (stR o a b (E.take n)).1.2.2 ≤ _ at z3
          rw [← hS] at z1 z2 z3 hst hrl HRW HDX
          rw [st1_eq] at hst
          simp only at z1 z2 z3 z4 z5 z6 z7 z8 z9 hrl HRW HDX
          have HST := Lib.hid hst
          have hgrD : gr ≠ gD := by
            obtain ⟨cur, h1, _⟩ := HRB.out
            exact bk_ne h1 HD7.out (by decide)
          have s6 := (HRB.out.kz HKZ.out hgrD).six hx
          obtain ⟨c0, c1, c2, c3, c4, c5⟩ := s6
          unfold iv at c0 c1 c2 c3 c4 c5
          simp only at c0 c1 c2 c3 c4 c5
          have hlr1 := lg_len o a b false d f r
          have hgGD : G ≠ gD := bk_ne HK7.out HD7.out (by decide)
          have hkz1 : Kp w7 wr := HKZ.out.kp HD7.out (by decide)
          have hal1 : Below wr.heap.size wr (wr.alloc (.cells (cl6 f t') 54)) := (Below.refl _ wr).alloc (Nat.le_refl _) _
          have k1 := HKZ.out.bk HK7.out (by decide) hgGD
          have HKA : Hid (Bk (wr.alloc (.cells (cl6 f t') 54)) G #[.slice A o.length ca, .slice C a.length cc, .slice D b.length cd] 45) := k1.below hal1 k1.lt
          have HDA : Hid (Bk (wr.alloc (.cells (cl6 f t') 54)) gD (cl3 d) 52) := HDX.out.below hal1 HDX.out.lt
          have HEA : Hid (Bk (wr.alloc (.cells (cl6 f t') 54)) wr.heap.size (cl6 f t') 54) := bk_new _ _ _
          have HRA := Lib.hid (HRW.out.call hal1)
          have HQA := Lib.hid ((HA7.out.keep hkz1).keep (.of_below hal1))
          have HQC := Lib.hid ((HC7.out.keep hkz1).keep (.of_below hal1))
          have HQD := Lib.hid ((HDD7.out.keep hkz1).keep (.of_below hal1))
          have hsB : w.heap.size ≤ (wr.alloc (.cells (cl6 f t') 54)).heap.size := Nat.le_trans HBX.out.size hal1.size
          have CL1 := Lib.hid (longer_any w.heap.size u15 r A C D ca cc cd o a b false d f _ HRA.out hsB (by omega) HQA.out HQC.out HQD.out lo la lb z1 z2 z3 (by omega) (by omega) (by omega))
          have y0 := HKA.out.cell 0 rfl
          have y1 := HKA.out.cell 1 rfl
          have y2 := HKA.out.cell 2 rfl
          have x0 : (wr.alloc (.cells (cl6 f t') 54)).cell? ⟨gD, 0, none⟩ = some (.int .i64 (d.1 : Int)) := HDA.out.cell 0 rfl
          have x1 : (wr.alloc (.cells (cl6 f t') 54)).cell? ⟨gD, 1, none⟩ = some (.int .i64 (d.2.1 : Int)) := HDA.out.cell 1 rfl
          have x2 : (wr.alloc (.cells (cl6 f t') 54)).cell? ⟨gD, 2, none⟩ = some (.int .i64 (d.2.2 : Int)) := HDA.out.cell 2 rfl
          have HBA : Hid (Below w.heap.size w (wr.alloc (.cells (cl6 f t') 54))) := HBX.out.trans (hal1.mono HBX.out.size)
          have HKZA : Hid (Kz gD w7 (wr.alloc (.cells (cl6 f t') 54))) := HKZ.out.then (.of_below hal1)
          clear hx hS hst hkz1 hal1 k1 HRW HDX HKZ HBX hlE
          unfold cl6 at y0 y1 y2 x0 x1 x2
          unfold ag3 at CL1
          go_wp2_with fail
          go_at_call 23
          refine CL1.out.mono ?_
          rintro e w3 ⟨v3, rfl, hv3, hg3⟩
          have hk3 := HRA.out.kq hg3
          have HK3 := Lib.hid (HKA.out.keep hk3 (by decide))
          have HD3 := Lib.hid (HDA.out.keep hk3 (by decide))
          have HE3 := Lib.hid (HEA.out.keep hk3 (by decide))
          have HA3 := Lib.hid (HQA.out.keep hk3.kp)
          have HC3 := Lib.hid (HQC.out.keep hk3.kp)
          have HDD3 := Lib.hid (HQD.out.keep hk3.kp)
          have HZ3 := Lib.hid (HKZA.out.then hk3)
          have HR3 := Lib.hid hv3
          have hs3 := hg3.size
          have HB3 : Hid (Below w.heap.size w w3) := HBA.out.grown hg3 HBA.out.size (fun k hk => (HRA.out.lt k hk).1)
          have CL2 := Lib.hid (longer_any w.heap.size v3 _ A C D ca cc cd o a b true f t' _ HR3.out HB3.out.size (by omega) HA3.out HC3.out HDD3.out lo la lb z4 z5 z6 z7 z8 z9)
          have y0 := HK3.out.cell 0 rfl
          have y1 := HK3.out.cell 1 rfl
          have y2 := HK3.out.cell 2 rfl
          have x0 : w3.cell? ⟨wr.heap.size, 0, none⟩ = some (.int .i64 (f.1 : Int)) := HE3.out.cell 0 rfl
          have x1 : w3.cell? ⟨wr.heap.size, 1, none⟩ = some (.int .i64 (f.2.1 : Int)) := HE3.out.cell 1 rfl
          have x2 : w3.cell? ⟨wr.heap.size, 2, none⟩ = some (.int .i64 (f.2.2 : Int)) := HE3.out.cell 2 rfl
          have x3 : w3.cell? ⟨wr.heap.size, 3, none⟩ = some (.int .i64 (t'.1 : Int)) := HE3.out.cell 3 rfl
          have x4 : w3.cell? ⟨wr.heap.size, 4, none⟩ = some (.int .i64 (t'.2.1 : Int)) := HE3.out.cell 4 rfl
          have x5 : w3.cell? ⟨wr.heap.size, 5, none⟩ = some (.int .i64 (t'.2.2 : Int)) := HE3.out.cell 5 rfl
          clear hv3 hg3 hk3 HKA HDA HEA HRA HQA HQC HQD HKZA HBA CL1 c0 c1 c2 c3 c4 c5 hsB
          unfold ag3 at CL2
          go_wp2_with fail
          go_at_call 23
          refine CL2.out.mono ?_
          rintro e w4 ⟨v4, rfl, hv4, hg4⟩
          have hk4 := HR3.out.kq hg4
          have HD4 := Lib.hid (HD3.out.keep hk4 (by decide))
          have HE4 := Lib.hid (HE3.out.keep hk4 (by decide))
          have HZ4 := Lib.hid (HZ3.out.then hk4)
          have HR4 := Lib.hid hv4
          have HB4 : Hid (Below w.heap.size w w4) := HB3.out.grown hg4 HB3.out.size (fun k hk => (HR3.out.lt k hk).1)
          have x3 : w4.cell? ⟨wr.heap.size, 3, none⟩ = some (.int .i64 (t'.1 : Int)) := HE4.out.cell 3 rfl
          have x4 : w4.cell? ⟨wr.heap.size, 4, none⟩ = some (.int .i64 (t'.2.1 : Int)) := HE4.out.cell 4 rfl
          have x5 : w4.cell? ⟨wr.heap.size, 5, none⟩ = some (.int .i64 (t'.2.2 : Int)) := HE4.out.cell 5 rfl
          have x0 : w4.cell? ⟨gD, 0, none⟩ = some (.int .i64 (d.1 : Int)) := HD4.out.cell 0 rfl
          have x1 : w4.cell? ⟨gD, 1, none⟩ = some (.int .i64 (d.2.1 : Int)) := HD4.out.cell 1 rfl
          have x2 : w4.cell? ⟨gD, 2, none⟩ = some (.int .i64 (d.2.2 : Int)) := HD4.out.cell 2 rfl
          have m0 := HD4.out.warm 0
          have m1 := HD4.out.warm 1
          have m2 := HD4.out.warm 2
          clear hv4 hg4 hk4 HK3 HD3 HE3 HA3 HC3 HDD3 HZ3 HR3 HB3 CL2 y0 y1 y2 HE4
          go_wp2_with fail
          go_roundw
          case rel =>
            refine ⟨n + 1, by go_num, by omega, ?_, ?_, ((HZ4.out.set _ _).set _ _).set _ _, ((HB4.out.setCell (p := ⟨gD, _, none⟩) hgD _).setCell (p := ⟨gD, _, none⟩) hgD _).setCell (p := ⟨gD, _, none⟩) hgD _⟩
            · rw [HST.out]
              exact HR4.out.keep (ks_set3 HD4.out _ _ _)
            · rw [HST.out]
              exact bk_set3 (e := t') HD4.out
          case measure => simp only [intOf]; omega
        · have hnN : n = NR + 1 := by omega
          have hfull : (stR o a b (E.take n)).2 = pie o a b := by rw [List.take_of_length_le (by rw [HEL.out]; omega)]; exact HAL2.out.2
          have HF := Lib.hid hfull
          have e2 : ¬ (n : Int) < ((NR + 1 : Nat) : Int) := by omega
          clear hfull hnN
          go_wp2_with fail
          go_ret2
          have hrow := HRW.out
          rw [HF.out] at hrow
          obtain ⟨cs, q1, q2, q3⟩ := hrow
          rw [HCH.out, HE.out]
          exact ⟨_, cs, rfl, q1, q2.isC, q3, HBX.out⟩
end Go.Proofs.Ytnpobigombafoaa.Mg

namespace Go.Proofs.Ytnpobigombafoaa.Ln
open Go.RowKit Tx Lm Aq
set_option linter.unusedVariables false
theorem join_empty (l : List (List UInt8)) : Lib.join l (ByteArray.mk #[]).data.toList = l.flatten := by
  cases l with
  | nil => rfl
  | cons x l =>
    rw [Lib.join_cons, Lib.joinTail]
    simp
set_option maxRecDepth 100000 in
theorem join_lines (bk o n c : Nat) (xs : List ByteArray) (w : World) (hn : xs.length = n)
    (hcells : ∀ (j : Nat) x, xs[j]? = some x → w.cell? ⟨bk, o + j, none⟩ = some (.string x))
    (hbk : bk < w.heap.size) (hN : n ≤ 140737488355328) (hcap : n ≤ c) (hlen : (cat xs).size ≤ 140737488355328) :
    Calls Try.prog 16 #[.slice (some ⟨bk, o, none⟩) n c] w fun e w' => e = .returned (.string (cat xs)) ∧ Below w.heap.size w w' := by
  subst hn
  have e : (cat xs) = ⟨(Lib.join (xs.map (·.data.toList)) (ByteArray.mk #[]).data.toList).toArray⟩ := by
    rw [cat, join_empty]; rfl
  have hl : (Lib.join (xs.map (·.data.toList)) (ByteArray.mk #[]).data.toList).length ≤ 140737488355328 := by
    rw [join_empty]
    rw [cat, tb_size] at hlen
    exact hlen
  have c1 := fun W (h : ∀ (j : Nat) x, xs[j]? = some x → W.cell? ⟨bk, o + j, none⟩ = some (.string x)) (h2 : bk < W.heap.size) => Any.strings_Join Try.lays156 Try.Builder_Extra_156 bk o c xs ⟨#[]⟩ W h h2 hN hcap hl
  rw [← e] at c1
  have HC := Lib.hid hcells
  have HB := Lib.hid hbk
  clear hcells e hl hlen hbk
  go_enter Try.func16, Try.ntmps16
  go_wp2_with (go_at_call 33; refine (c1 _ HC.out HB.out).mono ?_; rintro e w1 ⟨rfl, hb⟩)
  go_ret
  exact ⟨rfl, hb⟩
theorem made0 (w : World) : (w.alloc (.cells #[] 9)).ownsRow w.heap.size 9 1 (.slice (some ⟨w.heap.size, 0, none⟩) 0 0) 0 [] :=
  World.ownsRow_made w #[] 0 (Nat.le_refl _) (Nat.zero_le _) rfl
theorem below_first {w w1 : World} {o : Obj} (h : (w.alloc o).grownBy w1 (Value.slice (some ⟨w.heap.size, 0, none⟩) 0 0).ownBlock) : Below w.heap.size w w1 :=
  ((Below.refl _ w).alloc (Nat.le_refl _) o).grown h (by simp) (fun k hk => by simp [Value.ownBlock] at hk; omega)
set_option maxRecDepth 100000 in
set_option maxHeartbeats 1000000 in
theorem clone_any (b off n c : Nat) (l : List ByteArray) (w : World) (hs : Strs w (some ⟨b, off, none⟩) n l) (hn : n ≤ 8796093022207) :
    Calls Try.prog 39 #[.slice (some ⟨b, off, none⟩) n c] w (ListN l w) := by
  obtain ⟨i0, hi, hz0, hz1, hz2⟩ := info_parts info9
  have hln := hs.1
  have q22 : ∀ (w : World) (a : Option Addr) (n c n' c' : Nat), (binOp .eql 31 (.slice a n c) (.slice none n' c')).run Try.prog w = .ok (.bool a.isNone) w := fun w a n c n' c' => Lib.run_eql_slice_nil w _ _ a n c n' c' Try.underlying31
  go_enter Try.func39, Try.ntmps39
  go_wp2_with (at_builtin; refine wpList_append_own _ rfl _ _ 31 rfl w.heap.size 9 i0 (.string ⟨#[]⟩) 1 16 Try.underlying31 hi hz0 hz1 hz2 rfl (by decide) _ _ _ rfl (made0 w) ⟨b, off, none⟩ n c (l.map sv) rfl ?c0 ?c1 ?c2 ?c3 ?c4 ?c5 ?_)
  case c0 => rw [List.length_map, hln, Nat.mul_one]
  case c1 =>
    intro j u hu
    rw [List.getElem?_map] at hu
    obtain ⟨x, hx, rfl⟩ := Option.map_eq_some_iff.1 hu
    have hj := (List.getElem?_eq_some_iff.1 hx).1
    obtain ⟨b', off', ha, hbl, hc⟩ := hs.2.resolve_left (by omega)
    injection ha with ha
    injection ha with h1 h2
    subst h1
    subst h2
    rw [WideShapes.add_plain]
    exact (World.cell?_alloc_lt w _ _ hbl).trans (hc j x hx)
  case c2 => exact sv_one l
  case c3 => unfold maxLen; omega
  case c4 => omega
  case c5 => simp
  intro v1 w1 hown1 hg1 hnil
  have hown : w1.ownsRow w.heap.size 9 1 v1 n (l.map sv) := by simpa using hown1
  have hb1 := below_first hg1
  obtain ⟨g, cp, hv⟩ := own_some hown hnil
  subst hv
  clear hown1 hg1 hnil hs
  subst hln
  go_wp2_with fail
  go_ret
  exact ⟨g, cp, rfl, hown, hb1⟩
theorem clt_set (l : List ByteArray) (n : Nat) (hn : l.length = n + 1) : clt l = l.set n (clot (l[n]'(by omega))) := by
  have e : l = l.take n ++ [l[n]'(by omega)] := by rw [← List.take_succ_eq_append_getElem (by omega), ← hn, List.take_length]
  have h1 : clt l = l.take n ++ [clot (l[n]'(by omega))] := by
    conv => lhs; rw [e]
    rw [clt_snoc]
  rw [h1]
  apply List.ext_getElem?
  intro k
  by_cases hk : k = n
  · subst hk
    rw [List.getElem?_set_self (by omega), List.getElem?_append_right (by simp; omega), List.length_take, Nat.min_eq_left (by omega), Nat.sub_self]
    rfl
  · rw [List.getElem?_set_ne (fun e => hk e.symm)]
    by_cases hk2 : k < n
    · rw [List.getElem?_append_left (by simp; omega), List.getElem?_take, if_pos hk2]
    · rw [List.getElem?_eq_none (by simp; omega), List.getElem?_eq_none (by omega)]
theorem clot_yes {s : ByteArray} (h : ends s.data.toList = true) : clot s = s := by unfold clot; rw [if_pos h]
theorem clot_no {s : ByteArray} (h : ends s.data.toList = false) : clot s = s ++ ⟨#[10]⟩ := by unfold clot; rw [if_neg (by rw [h]; simp)]
set_option maxRecDepth 100000 in
set_option maxHeartbeats 2000000 in
theorem closed_lines (b off n c : Nat) (l : List ByteArray) (w : World) (hs : Strs w (some ⟨b, off, none⟩) n l) (hn : n ≤ 8796093022207) (hsz0 : ∀ (k : Nat) (x : ByteArray), l[k]? = some x → x.size ≤ 140737488355328) :
    Calls Try.prog 52 #[.slice (some ⟨b, off, none⟩) n c] w (ListN (clt l) w) := by
  have hln := hs.1
  have c1 := fun W h => clone_any b off n c l W h hn
  have HS := Lib.hid hs
  clear hs
  unfold ListN at c1
  rw [hln] at c1
  by_cases h0 : n = 0
  · subst h0
    have hl0 : l = [] := List.length_eq_zero_iff.1 hln
    have HE : Hid (clt l = l) := by show clt l = l; rw [hl0]; rfl
    clear hl0
    go_enter Try.func52, Try.ntmps52
    go_wp2_with fail
    go_at_call 39
    refine (c1 _ HS.out).mono ?_
    rintro e w1 ⟨g, cp, rfl, htx, hb1⟩
    go_wp2_with fail
    go_ret
    unfold ListN
    rw [HE.out, hln]
    exact ⟨g, cp, rfl, htx, hb1⟩
  · obtain ⟨m, rfl⟩ : ∃ m, n = m + 1 := ⟨n - 1, by omega⟩
    have HL := Lib.hid (clt_set l m hln)
    have HLEN : Hid ((clt l).length = m + 1) := by show (clt l).length = m + 1; rw [clt_len, hln]
    obtain ⟨S, hS⟩ : ∃ S, S = l[m]'(by omega) := ⟨_, rfl⟩
    have hss : S.size ≤ 140737488355328 := hsz0 m S (by rw [hS]; exact List.getElem?_eq_getElem (by omega))
    have HSET := HL.out
    rw [← hS] at HSET
    have HX : Hid (l[m]? = some S) := by show l[m]? = some S; rw [hS]; exact List.getElem?_eq_getElem (by omega)
    have HN := Lib.hid HSET
    have em : IntKind.i64.wrap ((m : Int) + 1 - 1) = (m : Int) := by rw [show (m : Int) + 1 - 1 = m by omega]; exact IntWalk.i64_in _ (by omega)
    have em2 : (m : Int) + 1 - 1 = (m : Int) := by omega
    have c2 := fun W => ended_any S W (by omega)
    have HLN := Lib.hid hln
    clear HSET hS HL h0 hsz0 hln
    cases hE : ends S.data.toList with
    | true =>
      have HC := Lib.hid (clot_yes hE)
      rw [hE] at c2
      have HEND : Hid (clt l = l) := by
        show clt l = l
        rw [HN.out, HC.out]
        have h := HX.out
        obtain ⟨h1, h2⟩ := List.getElem?_eq_some_iff.1 h
        rw [← h2, List.set_getElem_self]
      clear hE
      go_enter Try.func52, Try.ntmps52
      go_wp2_with fail
      go_at_call 39
      refine (c1 _ HS.out).mono ?_
      rintro e w1 ⟨g, cp, rfl, htx, hb1⟩
      have htx' := htx
      unfold Texts at htx'
      rw [HLN.out] at htx'
      have hcell : w1.cell? ⟨g, m, none⟩ = some (.string S) := own_cell htx' (by rw [List.getElem?_map, HX.out]; rfl)
      clear htx'
      have HTX := Lib.hid htx
      clear htx
      go_wp2_with (go_at_call 47; refine (c2 _).mono ?_; rintro e w' ⟨rfl, rfl⟩)
      go_ret
      unfold ListN
      rw [HEND.out, HLN.out]
      exact ⟨g, cp, rfl, HTX.out, hb1⟩
    | false =>
      have HC := Lib.hid (clot_no hE)
      rw [hE] at c2
      clear hE
      go_enter Try.func52, Try.ntmps52
      go_wp2_with fail
      go_at_call 39
      refine (c1 _ HS.out).mono ?_
      rintro e w1 ⟨g, cp, rfl, htx, hb1⟩
      have htx' := htx
      unfold Texts at htx'
      rw [HLN.out] at htx'
      have hcell : w1.cell? ⟨g, m, none⟩ = some (.string S) := own_cell htx' (by rw [List.getElem?_map, HX.out]; rfl)
      have hfz := own_frozen htx' m
      have HST := Lib.hid (own_store htx' (show m < m + 1 by omega) (sv (S ++ ⟨#[10]⟩)))
      have hg : w.heap.size ≤ g := (htx'.lt g rfl).1
      clear htx' htx
      go_wp2_with (go_at_call 47; refine (c2 _).mono ?_; rintro e w' ⟨rfl, rfl⟩)
      go_ret
      have hT : Texts (w1.setCell ⟨g, m, none⟩ (.string (S ++ ⟨#[10]⟩))) w.heap.size (.slice (some ⟨g, 0, none⟩) (m + 1) cp) (clt l) := by
        unfold Texts
        rw [HLEN.out, HN.out, HC.out, List.map_set]
        exact HST.out
      unfold ListN
      rw [HLEN.out]
      exact ⟨g, cp, rfl, hT, hb1.setCell (p := ⟨g, m, none⟩) hg _⟩
end Go.Proofs.Ytnpobigombafoaa.Ln

namespace Go.Proofs.Ytnpobigombafoaa.Mg
open Go.RowKit Go.ChangeShapes Go.WideShapes Tx Um Ud Aq Km Kd Lm Ln
set_option linter.unusedVariables false
theorem join_lo {w : World} {B : Nat} {v : Value} {l : List ByteArray} (h : Lo w B v l) (hsz : (cat l).size ≤ 140737488355328) (hln : l.length ≤ 140737488355328) :
    Calls Try.prog 16 #[v] w fun e w' => e = .returned (.string (cat l)) ∧ Below w.heap.size w w' := by
  rcases h.2 with ⟨rfl, h0⟩ | ⟨g, cap, cur, rfl, hg, hh, hn, hc, hs, ht⟩
  · obtain rfl : l = [] := List.length_eq_zero_iff.1 h0
    clear h hsz hln
    go_enter Try.func16, Try.ntmps16
    go_wp2_with (go_at_call 33; refine (Any.strings_Join_none Try.lays156 Try.Builder_Extra_156 none 0 ⟨#[]⟩ w).mono ?_; rintro e w1 ⟨rfl, rfl⟩)
    go_ret
    exact ⟨rfl, Below.refl _ _⟩
  · refine join_lines g 0 l.length cap l w rfl (fun j x hx => ?_) (Array.getElem?_eq_some_iff.1 hh).1 hln hn hsz
    have e1 := World.ownsRow.cells (g := g) h rfl j (.string x) (by rw [List.getElem?_map, hx]; rfl)
    rw [WideShapes.add_plain] at e1
    exact e1
theorem lo_strs {w : World} {B : Nat} {A : Option Addr} {n c : Nat} {l : List ByteArray} (h : Lo w B (.slice A n c) l) : n = l.length ∧ Strs w A l.length l ∧ l.length ≤ c ∧ (A = none → c = 0) := by
  rcases h.2 with ⟨h0, h1⟩ | ⟨g, cap, cur, hv, hg, hh, hn, hc, hs, ht⟩
  · injection h0 with h2 h3 h4
    subst h2 h3 h4
    refine ⟨by omega, ⟨rfl, .inl (by omega)⟩, by omega, fun _ => rfl⟩
  · injection hv with h2 h3 h4
    subst h2 h3 h4
    refine ⟨rfl, ⟨rfl, .inr ⟨g, 0, rfl, (Array.getElem?_eq_some_iff.1 hh).1, fun k x hx => ?_⟩⟩, hn, fun h => by cases h⟩
    rw [Nat.zero_add]
    exact own_cell h (by rw [List.getElem?_map, hx]; rfl)
structure Pt (s t u : ByteArray) (L : List (Ck ByteArray)) : Prop where
  base : (L.map (·.b)).flatten = lns s
  left : (L.map (·.l)).flatten = lns t
  right : (L.map (·.r)).flatten = lns u
  full : ∀ c, c ∈ L → 0 < c.b.length + c.l.length + c.r.length ∧ (c.st = true → c.b = c.l ∧ c.b = c.r)
  turns : ∀ (n : Nat) c d, L[n]? = some c → L[n + 1]? = some d → c.st ≠ d.st
theorem pt_pcs3 (s t u : ByteArray) : Pt s t u (pcs3 s t u) := by
  have hp := pie_pcs (lns s) (lns t) (lns u)
  unfold pcs3
  refine ⟨pie_base _ _ _, pie_left _ _ _, pie_right _ _ _, fun c hc => hp.full c (List.mem_reverse.1 hc), fun n c d hc hd => ?_⟩
  have hn := (List.getElem?_eq_some_iff.1 hd).1
  rw [List.length_reverse] at hn
  rw [List.getElem?_reverse (by omega)] at hc hd
  have e : (pie (lns s) (lns t) (lns u)).length - 1 - n = ((pie (lns s) (lns t) (lns u)).length - 1 - (n + 1)) + 1 := by omega
  rw [e] at hc
  exact fun h => hp.turns _ d c hd hc h.symm
theorem flat_take {f : Ck ByteArray → List ByteArray} {L : List (Ck ByteArray)} {k : Nat} {c : Ck ByteArray} (h : L[k]? = some c) : cat (((L.take (k + 1)).map f).flatten) = cat (((L.take k).map f).flatten) ++ cat (f c) := by
  rw [List.take_add_one, h, List.map_append, List.flatten_append, cat_app]
  congr 1
  simp
theorem flat_le {f : Ck ByteArray → List ByteArray} {L : List (Ck ByteArray)} {s : ByteArray} (h : (L.map f).flatten = lns s) (k : Nat) : (cat (((L.take k).map f).flatten)).size ≤ s.size := by
  have e : s.size = (cat ((L.map f).flatten)).size := by rw [h, lns_cat]
  rw [e]
  conv => rhs; rw [← List.take_append_drop k L, List.map_append, List.flatten_append, cat_app, ByteArray.size_append]
  omega
theorem cat_le {f : Ck ByteArray → List ByteArray} {L : List (Ck ByteArray)} {s : ByteArray} (h : (L.map f).flatten = lns s) {k : Nat} {c : Ck ByteArray} (hc : L[k]? = some c) : (cat (f c)).size ≤ s.size := by
  have h1 := flat_le h (k + 1)
  rw [flat_take hc, ByteArray.size_append] at h1
  omega
theorem len_le {f : Ck ByteArray → List ByteArray} {L : List (Ck ByteArray)} {s : ByteArray} (h : (L.map f).flatten = lns s) {k : Nat} {c : Ck ByteArray} (hc : L[k]? = some c) : (f c).length ≤ (lns s).length := by
  rw [← h]
  have hk := List.mem_iff_getElem?.2 ⟨k, hc⟩
  exact (List.sublist_flatten_of_mem (List.mem_map_of_mem hk)).length_le
end Go.Proofs.Ytnpobigombafoaa.Mg

namespace Go.Proofs.Ytnpobigombafoaa.Mg
open Go.RowKit Go.ChangeShapes Go.WideShapes Tx Um Ud Aq Km Kd Lm Ln
set_option linter.unusedVariables false
set_option maxRecDepth 100000 in
theorem kequal_ne (A B : Option Addr) (ca cb n m : Nat) (w : World) (h : n ≠ m) (hn : n ≤ 4611686018427387903) (hm : m ≤ 4611686018427387903) :
    Calls Try.prog 41 #[.slice A n ca, .slice B m cb] w fun e w' => e = .returned (.bool false) ∧ Below w.heap.size w w' := by
  have e0 : ((n : Int) == (m : Int)) = false := beq_eq_false_iff_ne.2 (by omega)
  have e1 : (n == m) = false := beq_eq_false_iff_ne.2 h
  have e2 : ¬ (n : Int) = (m : Int) := by omega
  go_enter Try.func41, Try.ntmps41
  go_wp2_with fail
  go_ret
  exact ⟨rfl, Below.refl _ _⟩
theorem keq (A B : Option Addr) (ca cb : Nat) (a l : List ByteArray) (w : World) (hA : Strs w A a.length a) (hB : Strs w B l.length l) (ha : a.length ≤ 4611686018427387903) (hl : l.length ≤ 4611686018427387903) :
    Calls Try.prog 41 #[.slice A a.length ca, .slice B l.length cb] w fun e w' => e = .returned (.bool (decide (a = l))) ∧ Below w.heap.size w w' := by
  by_cases h : a.length = l.length
  · have c := kequal_any A B ca cb a.length a l w hA (by rw [h]; exact hB) ha
    rw [h] at c ⊢
    exact c
  · rw [decide_eq_false (fun e => h (by rw [e]))]
    exact kequal_ne A B ca cb _ _ w h ha hl
set_option maxRecDepth 100000 in
theorem closed_nil (w : World) : Calls Try.prog 52 #[.slice none 0 0] w (LoTo [] w) := by
  have c := kclone_any none 0 0 [] w ⟨rfl, .inl rfl⟩ (fun _ => rfl) (by omega)
  unfold LoTo at c
  go_enter Try.func52, Try.ntmps52
  go_wp2_with fail
  go_at_call 39
  refine c.mono ?_
  rintro e w1 ⟨v, rfl, h1, hb⟩
  have HL := Lib.hid h1
  obtain ⟨A, n, hv⟩ := h1.form
  subst hv
  clear c h1
  go_wp2_with fail
  go_ret
  exact ⟨_, rfl, HL.out, hb⟩
theorem closed_lo {w : World} {B : Nat} {v : Value} {l : List ByteArray} (h : Lo w B v l) (hn : l.length ≤ 400) (hs : ∀ (k : Nat) (x : ByteArray), l[k]? = some x → x.size ≤ 140737488355328) :
    Calls Try.prog 52 #[v] w (LoTo (clt l) w) := by
  rcases h.2 with ⟨rfl, h0⟩ | ⟨g, cap, cur, rfl, hg, hh, hn2, hc, _⟩
  · obtain rfl : l = [] := List.length_eq_zero_iff.1 h0
    rw [clt_nil]
    exact closed_nil w
  · obtain ⟨_, h1, _, _⟩ := lo_strs h
    refine (closed_lines g 0 l.length cap l w h1 (by omega) hs).mono ?_
    rintro e w1 ⟨g1, c1, rfl, h2, h3⟩
    exact ⟨_, rfl, h2, h3⟩
theorem cat_get {l : List ByteArray} {k : Nat} {x : ByteArray} (h : l[k]? = some x) : x.size ≤ (cat l).size := by
  have hm := List.mem_iff_getElem?.2 ⟨k, h⟩
  clear h
  induction l with
  | nil => cases hm
  | cons y l ih =>
    have e : cat (y :: l) = y ++ cat l := by
      apply ByteArray.ext
      simp [cat, tb]
    rw [e, ByteArray.size_append]
    rcases List.mem_cons.1 hm with rfl | h
    · omega
    · have := ih h
      omega
theorem clot_size2 (s : ByteArray) : (clot s).size ≤ s.size + 1 := by
  unfold clot
  split
  · omega
  · rw [ByteArray.size_append]
    exact Nat.le_refl _
theorem clt_size2 (l : List ByteArray) : (cat (clt l)).size ≤ (cat l).size + 1 := by
  rcases List.eq_nil_or_concat l with rfl | ⟨k, y, rfl⟩
  · rw [clt_nil]; omega
  · rw [List.concat_eq_append, clt_snoc, cat_app, cat_app, ByteArray.size_append, ByteArray.size_append]
    have e : ∀ z, cat [z] = z := fun z => by
      apply ByteArray.ext
      simp [cat, tb]
    rw [e, e]
    have := clot_size2 y
    omega
set_option maxRecDepth 100000 in
theorem mclosed_any {w : World} {B : Nat} {v : Value} {l : List ByteArray} (h : Lo w B v l) (hn : l.length ≤ 400) (hs : (cat l).size ≤ 8388608) :
    Calls Try.prog 42 #[v] w fun e w' => e = .returned (.string (cat (clt l))) ∧ Below w.heap.size w w' := by
  have c1 := closed_lo h hn (fun k x hx => by have := cat_get hx; omega)
  have hcl := clt_len l
  have hcs := clt_size2 l
  have C1 := Lib.hid c1
  clear c1
  obtain ⟨A, n, hv⟩ := h.form
  subst hv
  clear h
  go_enter Try.func42, Try.ntmps42
  go_wp2_with fail
  go_at_call 52
  refine C1.out.mono ?_
  rintro e w1 ⟨v1, rfl, h1, hb1⟩
  have C2 := Lib.hid (join_lo h1 (by omega) (by omega))
  clear h1 C1
  go_wp2_with fail
  go_at_call 16
  refine C2.out.mono ?_
  rintro e w2 ⟨rfl, hb2⟩
  have hb3 := below_call hb1 hb2
  clear C2 hb1 hb2
  go_wp2_with fail
  go_ret
  exact ⟨rfl, hb3⟩
def MdTo (c : Ck ByteArray) (w : World) (e : Ending) (w' : World) : Prop := e = .returned (.tuple #[.string (match pick c with | some l => cat l | none => ⟨#[]⟩), .bool (pick c).isSome]) ∧ Below w.heap.size w w'
theorem pick_one {c : Ck ByteArray} (h : c.l = c.r ∨ c.r = c.b) : pick c = some c.l := by unfold pick; rw [if_pos (.inr h)]
theorem pick_two {c : Ck ByteArray} (hs : Same3 c) (h1 : ¬ c.l = c.r) (h2 : ¬ c.r = c.b) : pick c = if c.l = c.b then some c.r else none := by
  unfold pick
  rw [if_neg]
  rintro (h | h | h)
  · obtain ⟨k1, k2⟩ := hs h
    exact h1 (k1.symm.trans k2)
  · exact h1 h
  · exact h2 h
set_option maxRecDepth 100000 in
set_option maxHeartbeats 2000000 in
theorem merged_any {w : World} {B : Nat} {vb vl vr : Value} (c : Ck ByteArray) (hB : Lo w B vb c.b) (hL : Lo w B vl c.l) (hR : Lo w B vr c.r) (hs : Same3 c) (nb : c.b.length ≤ 400) (nl : c.l.length ≤ 400) (nr : c.r.length ≤ 400) (zl : (cat c.l).size ≤ 8388608) (zr : (cat c.r).size ≤ 8388608) :
    Calls Try.prog 27 #[.agg #[.bool c.st, vb, vl, vr]] w (MdTo c w) := by
  obtain ⟨Ab, kb, rfl, sB, _⟩ := lo_all hB
  obtain ⟨Al, kl, rfl, sL, _⟩ := lo_all hL
  obtain ⟨Ar, kr, rfl, sR, _⟩ := lo_all hR
  obtain ⟨W1, hW1⟩ : ∃ W1, W1 = w.alloc (.cells #[.bool c.st, .slice Ab c.b.length kb, .slice Al c.l.length kl, .slice Ar c.r.length kr] 33) := ⟨_, rfl⟩
  have hb0 : Below w.heap.size w W1 := by rw [hW1]; exact (Below.refl _ w).alloc (Nat.le_refl _) _
  have hk0 : Bk W1 w.heap.size #[.bool c.st, .slice Ab c.b.length kb, .slice Al c.l.length kl, .slice Ar c.r.length kr] 33 := by rw [hW1]; exact bk_new _ _ _
  have hlt := hk0.lt
  have CE1 := fun W (h : Below W1.heap.size W1 W) => keq Al Ar kl kr c.l c.r W ((sL.below hb0).below h) ((sR.below hb0).below h) (by omega) (by omega)
  have CE2 := fun W (h : Below W1.heap.size W1 W) => keq Ar Ab kr kb c.r c.b W ((sR.below hb0).below h) ((sB.below hb0).below h) (by omega) (by omega)
  have CE3 := fun W (h : Below W1.heap.size W1 W) => keq Al Ab kl kb c.l c.b W ((sL.below hb0).below h) ((sB.below hb0).below h) (by omega) (by omega)
  have CJ1 := fun W (h : Below W1.heap.size W1 W) => join_lo ((hL.below hb0).below h) (by omega) (by omega)
  have CJ2 := fun W (h : Below W1.heap.size W1 W) => join_lo ((hR.below hb0).below h) (by omega) (by omega)
  have HCL : Hid (∀ W, Below W1.heap.size W1 W → W.cell? ⟨w.heap.size, 1, none⟩ = some (.slice Ab c.b.length kb) ∧ W.cell? ⟨w.heap.size, 2, none⟩ = some (.slice Al c.l.length kl) ∧ W.cell? ⟨w.heap.size, 3, none⟩ = some (.slice Ar c.r.length kr)) := fun W h =>
    ⟨(hk0.below h hlt).cell 1 rfl, (hk0.below h hlt).cell 2 rfl, (hk0.below h hlt).cell 3 rfl⟩
  have HB0 := Lib.hid hb0
  have H1 := Lib.hid CE1
  have H2 := Lib.hid CE2
  have H3 := Lib.hid CE3
  have HJ1 := Lib.hid CJ1
  have HJ2 := Lib.hid CJ2
  clear hB hL hR sB sL sR hb0 hk0 hlt CE1 CE2 CE3 CJ1 CJ2
  by_cases d1 : c.l = c.r
  · have e1 := decide_eq_true d1
    have HP := Lib.hid (pick_one (.inl d1))
    clear d1
    go_enter Try.func27, Try.ntmps27
    go_wp2_with fail
    rw [← hW1]
    clear hW1
    have hbA : Below W1.heap.size W1 W1 := Below.refl _ _
    go_at_call 41
    refine (H1.out _ hbA).mono ?_
    rintro e w2 ⟨rfl, kw2⟩
    rw [e1]
    have hw2 := below_call hbA kw2
    obtain ⟨x1, x2, x3⟩ := HCL.out _ hw2
    clear kw2
    go_wp2_with fail
    go_at_call 16
    refine (HJ1.out _ hw2).mono ?_
    rintro e w9 ⟨rfl, k9⟩
    have h9 := below_call hw2 k9
    clear x1 x2 x3 k9
    go_wp2_with fail
    go_ret2
    unfold MdTo
    rw [HP.out]
    exact ⟨rfl, HB0.out.trans (h9.mono HB0.out.size)⟩
  · have e1 := decide_eq_false d1
    by_cases d2 : c.r = c.b
    · have e2 := decide_eq_true d2
      have HP := Lib.hid (pick_one (.inr d2))
      clear d1 d2
      go_enter Try.func27, Try.ntmps27
      go_wp2_with fail
      rw [← hW1]
      clear hW1
      have hbA : Below W1.heap.size W1 W1 := Below.refl _ _
      go_at_call 41
      refine (H1.out _ hbA).mono ?_
      rintro e w2 ⟨rfl, kw2⟩
      rw [e1]
      have hw2 := below_call hbA kw2
      obtain ⟨x1, x2, x3⟩ := HCL.out _ hw2
      clear kw2
      go_wp2_with fail
      go_at_call 41
      refine (H2.out _ hw2).mono ?_
      rintro e w3 ⟨rfl, kw3⟩
      rw [e2]
      have hw3 := below_call hw2 kw3
      obtain ⟨x1, x2, x3⟩ := HCL.out _ hw3
      clear kw3
      go_wp2_with fail
      go_at_call 16
      refine (HJ1.out _ hw3).mono ?_
      rintro e w9 ⟨rfl, k9⟩
      have h9 := below_call hw3 k9
      clear x1 x2 x3 k9
      go_wp2_with fail
      go_ret2
      unfold MdTo
      rw [HP.out]
      exact ⟨rfl, HB0.out.trans (h9.mono HB0.out.size)⟩
    · have e2 := decide_eq_false d2
      have hp := pick_two hs d1 d2
      by_cases d3 : c.l = c.b
      · have e3 := decide_eq_true d3
        rw [if_pos d3] at hp
        have HP := Lib.hid hp
        clear d1 d2 d3 hp
        go_enter Try.func27, Try.ntmps27
        go_wp2_with fail
        rw [← hW1]
        clear hW1
        have hbA : Below W1.heap.size W1 W1 := Below.refl _ _
        go_at_call 41
        refine (H1.out _ hbA).mono ?_
        rintro e w2 ⟨rfl, kw2⟩
        rw [e1]
        have hw2 := below_call hbA kw2
        obtain ⟨x1, x2, x3⟩ := HCL.out _ hw2
        clear kw2
        go_wp2_with fail
        go_at_call 41
        refine (H2.out _ hw2).mono ?_
        rintro e w3 ⟨rfl, kw3⟩
        rw [e2]
        have hw3 := below_call hw2 kw3
        obtain ⟨x1, x2, x3⟩ := HCL.out _ hw3
        clear kw3
        go_wp2_with fail
        go_at_call 41
        refine (H3.out _ hw3).mono ?_
        rintro e w4 ⟨rfl, kw4⟩
        rw [e3]
        have hw4 := below_call hw3 kw4
        obtain ⟨x1, x2, x3⟩ := HCL.out _ hw4
        clear kw4
        go_wp2_with fail
        go_at_call 16
        refine (HJ2.out _ hw4).mono ?_
        rintro e w9 ⟨rfl, k9⟩
        have h9 := below_call hw4 k9
        clear x1 x2 x3 k9
        go_wp2_with fail
        go_ret2
        unfold MdTo
        rw [HP.out]
        exact ⟨rfl, HB0.out.trans (h9.mono HB0.out.size)⟩
      · have e3 := decide_eq_false d3
        rw [if_neg d3] at hp
        have HP := Lib.hid hp
        clear d1 d2 d3 hp
        go_enter Try.func27, Try.ntmps27
        go_wp2_with fail
        rw [← hW1]
        clear hW1
        have hbA : Below W1.heap.size W1 W1 := Below.refl _ _
        go_at_call 41
        refine (H1.out _ hbA).mono ?_
        rintro e w2 ⟨rfl, kw2⟩
        rw [e1]
        have hw2 := below_call hbA kw2
        obtain ⟨x1, x2, x3⟩ := HCL.out _ hw2
        clear kw2
        go_wp2_with fail
        go_at_call 41
        refine (H2.out _ hw2).mono ?_
        rintro e w3 ⟨rfl, kw3⟩
        rw [e2]
        have hw3 := below_call hw2 kw3
        obtain ⟨x1, x2, x3⟩ := HCL.out _ hw3
        clear kw3
        go_wp2_with fail
        go_at_call 41
        refine (H3.out _ hw3).mono ?_
        rintro e w4 ⟨rfl, kw4⟩
        rw [e3]
        have hw4 := below_call hw3 kw4
        obtain ⟨x1, x2, x3⟩ := HCL.out _ hw4
        clear kw4
        go_wp2_with fail
        go_ret2
        unfold MdTo
        rw [HP.out]
        exact ⟨rfl, HB0.out.trans (hw4.mono HB0.out.size)⟩
end Go.Proofs.Ytnpobigombafoaa.Mg

namespace Go.Proofs.Ytnpobigombafoaa.Mg
open Go.RowKit Go.ChangeShapes Go.WideShapes Tx Um Ud Aq Km Kd Lm Ln
set_option linter.unusedVariables false
set_option maxRecDepth 100000 in
set_option maxHeartbeats 4000000 in
theorem markReg (ops : Array Oper) (hops : ops = (Rg.opsOf Try.f28 1)) (id : Nat) (pc : Nat) (vl vr : Value) (x y s1 s2 s3 s4 : ByteArray) {u0 u2 u3 u4 u5 u6 u7 u8 u9 u10 u11 u12 : Value} (w : World) (X : World → Prop)
    (hX : ∀ W, X W → W.cell? ⟨pc, 2, none⟩ = some vl ∧ W.cell? ⟨pc, 3, none⟩ = some vr) (hw : X w.drew)
    (S1 : ∀ W : World, (binOp .add 9 (.string AH) (.string x)).run Try.prog W = .ok (.string s1) W)
    (S2 : ∀ W : World, (binOp .add 9 (.string s1) (.string MI)).run Try.prog W = .ok (.string s2) W)
    (S3 : ∀ W : World, (binOp .add 9 (.string s2) (.string y)).run Try.prog W = .ok (.string s3) W)
    (S4 : ∀ W : World, (binOp .add 9 (.string s3) (.string BH)).run Try.prog W = .ok (.string s4) W)
    (hA : ∀ W, X W → Calls Try.prog 42 #[vl] W fun e w' => e = .returned (.string x) ∧ X w')
    (hB : ∀ W, X W → Calls Try.prog 42 #[vr] W fun e w' => e = .returned (.string y) ∧ X w') :
    (Code.region id ops true).wp Try.prog (Rg.Only fun a' w' => a' = ⟨#[u0, (.pointer (some ⟨pc, 0, none⟩)), (.string s4), (.pointer (some ⟨pc, 2, none⟩)), vl, (.string x), (.string s1), (.string s2), (.pointer (some ⟨pc, 3, none⟩)), vr, (.string y), (.string s3), (.string s4)], []⟩ ∧ X w') ⟨#[u0, (.pointer (some ⟨pc, 0, none⟩)), u2, u3, u4, u5, u6, u7, u8, u9, u10, u11, u12], []⟩ w := by
  subst hops
  have hNS : Region.noSelect (Rg.opsOf Try.f28 1) = true := by kernel_rfl
  refine wp_region_held_drew (S := X) (by kernel_rfl) hw (fun hHeld => ?_)
  rw [show (Rg.opsOf Try.f28 1).size = 11 by kernel_rfl]
  refine Rg.take (ops := (Rg.opsOf Try.f28 1)) 0 (some 3) ((.pointer (some ⟨pc, 2, none⟩))) hNS (by kernel_rfl) (by kernel_rfl) (by kernel_rfl) (by kernel_rfl) (by kernel_rfl) hHeld (Rg.y_field (T := 33) (k := 2) (x := (Operand.tmp 1)) (vx := (.pointer (some ⟨pc, 0, none⟩))) (by kernel_rfl) (by kernel_rfl) ?_) ?_
  · (intro W hSw; clear hSw hHeld; go_simp)
  refine Rg.take (ops := (Rg.opsOf Try.f28 1)) 1 (some 4) (vl) hNS (by kernel_rfl) (by kernel_rfl) (by kernel_rfl) (by kernel_rfl) (by kernel_rfl) hHeld (Rg.y_load (T := 31) (x := (Operand.tmp 3)) (vx := (.pointer (some ⟨pc, 2, none⟩))) (by kernel_rfl) (by kernel_rfl) ?_) ?_
  · (intro W hSw; obtain ⟨s0, s1⟩ := hX _ hSw; clear hSw hHeld; go_simp)
  refine Rg.take (ops := (Rg.opsOf Try.f28 1)) 5 (some 8) ((.pointer (some ⟨pc, 3, none⟩))) hNS (by kernel_rfl) (by kernel_rfl) (by kernel_rfl) (by kernel_rfl) (by kernel_rfl) hHeld (Rg.y_field (T := 33) (k := 3) (x := (Operand.tmp 1)) (vx := (.pointer (some ⟨pc, 0, none⟩))) (by kernel_rfl) (by kernel_rfl) ?_) ?_
  · (intro W hSw; clear hSw hHeld; go_simp)
  refine Rg.take (ops := (Rg.opsOf Try.f28 1)) 6 (some 9) (vr) hNS (by kernel_rfl) (by kernel_rfl) (by kernel_rfl) (by kernel_rfl) (by kernel_rfl) hHeld (Rg.y_load (T := 31) (x := (Operand.tmp 8)) (vx := (.pointer (some ⟨pc, 3, none⟩))) (by kernel_rfl) (by kernel_rfl) ?_) ?_
  · (intro W hSw; obtain ⟨s0, s1⟩ := hX _ hSw; clear hSw hHeld; go_simp)
  refine Rg.call (ops := (Rg.opsOf Try.f28 1)) (fn := Try.f42) (xs := #[Operand.tmp 4]) (ats := #[31]) 2 (some 5) 42 #[vl] (by kernel_rfl) (by kernel_rfl) (by kernel_rfl) (by kernel_rfl) (by kernel_rfl) Try.func42 (by kernel_rfl) (by kernel_rfl) (by kernel_rfl) ?_
  refine (hA _ hHeld).mono ?_
  rintro e w5 ⟨rfl, k5⟩
  refine ⟨_, rfl, k5, fun hHeld => ?_⟩
  refine Rg.take (ops := (Rg.opsOf Try.f28 1)) 3 (some 6) ((.string s1)) hNS (by kernel_rfl) (by kernel_rfl) (by kernel_rfl) (by kernel_rfl) (by kernel_rfl) hHeld (Rg.y_bin (b := BinOp.add) (T := 9) (R' := 9) (x := (Operand.const (Value.string { data := #[60, 60, 60, 60, 60, 60, 60, 10] }))) (y := (Operand.tmp 5)) (vx := (Value.string { data := #[60, 60, 60, 60, 60, 60, 60, 10] })) (vy := (.string x)) (by kernel_rfl) (by kernel_rfl) (by kernel_rfl) ?_) ?_
  · (intro W hSw; clear hSw hHeld; exact S1 W)
  refine Rg.take (ops := (Rg.opsOf Try.f28 1)) 4 (some 7) ((.string s2)) hNS (by kernel_rfl) (by kernel_rfl) (by kernel_rfl) (by kernel_rfl) (by kernel_rfl) hHeld (Rg.y_bin (b := BinOp.add) (T := 9) (R' := 9) (x := (Operand.tmp 6)) (y := (Operand.const (Value.string { data := #[61, 61, 61, 61, 61, 61, 61, 10] }))) (vx := (.string s1)) (vy := (Value.string { data := #[61, 61, 61, 61, 61, 61, 61, 10] })) (by kernel_rfl) (by kernel_rfl) (by kernel_rfl) ?_) ?_
  · (intro W hSw; clear hSw hHeld; exact S2 W)
  refine Rg.call (ops := (Rg.opsOf Try.f28 1)) (fn := Try.f42) (xs := #[Operand.tmp 9]) (ats := #[31]) 7 (some 10) 42 #[vr] (by kernel_rfl) (by kernel_rfl) (by kernel_rfl) (by kernel_rfl) (by kernel_rfl) Try.func42 (by kernel_rfl) (by kernel_rfl) (by kernel_rfl) ?_
  refine (hB _ hHeld).mono ?_
  rintro e w6 ⟨rfl, k6⟩
  refine ⟨_, rfl, k6, fun hHeld => ?_⟩
  refine Rg.take (ops := (Rg.opsOf Try.f28 1)) 8 (some 11) ((.string s3)) hNS (by kernel_rfl) (by kernel_rfl) (by kernel_rfl) (by kernel_rfl) (by kernel_rfl) hHeld (Rg.y_bin (b := BinOp.add) (T := 9) (R' := 9) (x := (Operand.tmp 7)) (y := (Operand.tmp 10)) (vx := (.string s2)) (vy := (.string y)) (by kernel_rfl) (by kernel_rfl) (by kernel_rfl) ?_) ?_
  · (intro W hSw; clear hSw hHeld; exact S3 W)
  refine Rg.take (ops := (Rg.opsOf Try.f28 1)) 9 (some 12) ((.string s4)) hNS (by kernel_rfl) (by kernel_rfl) (by kernel_rfl) (by kernel_rfl) (by kernel_rfl) hHeld (Rg.y_bin (b := BinOp.add) (T := 9) (R' := 9) (x := (Operand.tmp 11)) (y := (Operand.const (Value.string { data := #[62, 62, 62, 62, 62, 62, 62, 10] }))) (vx := (.string s3)) (vy := (Value.string { data := #[62, 62, 62, 62, 62, 62, 62, 10] })) (by kernel_rfl) (by kernel_rfl) (by kernel_rfl) ?_) ?_
  · (intro W hSw; clear hSw hHeld; exact S4 W)
  refine Rg.take (ops := (Rg.opsOf Try.f28 1)) 10 (some 2) ((.string s4)) hNS (by kernel_rfl) (by kernel_rfl) (by kernel_rfl) (by kernel_rfl) (by kernel_rfl) hHeld (Rg.y_move (x := (Operand.tmp 12)) (Or.inr (by kernel_rfl)) (by kernel_rfl)) ?_
  refine Rg.done (ops := (Rg.opsOf Try.f28 1)) (by kernel_rfl) ?_
  exact ⟨by kernel_rfl, hHeld⟩
end Go.Proofs.Ytnpobigombafoaa.Mg

namespace Go.Proofs.Ytnpobigombafoaa.Mg
open Go.RowKit Go.ChangeShapes Go.WideShapes Tx Um Ud Aq Km Kd Lm Ln
set_option linter.unusedVariables false
theorem run_plus (a b : ByteArray) (h : a.size + b.size ≤ 9223372036854775807) (W : World) : (binOp .add 9 (.string a) (.string b)).run Try.prog W = .ok (.string (a ++ b)) W := by
  have h1 := run_string_add_sum (P := Try.prog) (w := W) a b h
  have h2 : ¬ ((9223372036854775807 : Int) < (a.size : Int) + (b.size : Int)) := by omega
  simpa [binOp] using h1
set_option maxRecDepth 100000 in
set_option maxHeartbeats 2000000 in
theorem marked_any {w : World} {B : Nat} {vb vl vr : Value} (c : Ck ByteArray) (hB : Lo w B vb c.b) (hL : Lo w B vl c.l) (hR : Lo w B vr c.r) (nl : c.l.length ≤ 400) (nr : c.r.length ≤ 400) (zl : (cat c.l).size ≤ 8388608) (zr : (cat c.r).size ≤ 8388608) :
    Calls Try.prog 28 #[.agg #[.bool c.st, vb, vl, vr]] w fun e w' => e = .returned (.string (AH ++ cat (clt c.l) ++ MI ++ cat (clt c.r) ++ BH)) ∧ Below w.heap.size w w' := by
  obtain ⟨Ab, kb, rfl⟩ := hB.form
  obtain ⟨Al, kl, rfl⟩ := hL.form
  obtain ⟨Ar, kr, rfl⟩ := hR.form
  obtain ⟨W1, hW1⟩ : ∃ W1, W1 = w.alloc (.cells #[.bool c.st, .slice Ab c.b.length kb, .slice Al c.l.length kl, .slice Ar c.r.length kr] 33) := ⟨_, rfl⟩
  have hb0 : Below w.heap.size w W1 := by rw [hW1]; exact (Below.refl _ w).alloc (Nat.le_refl _) _
  have hk0 : Bk W1 w.heap.size #[.bool c.st, .slice Ab c.b.length kb, .slice Al c.l.length kl, .slice Ar c.r.length kr] 33 := by rw [hW1]; exact bk_new _ _ _
  have hlt := hk0.lt
  have z1 := clt_size c.l
  have z2 := clt_size c.r
  have CE1 := fun W (h : Below W1.heap.size W1 W) => mclosed_any ((hL.below hb0).below h) nl zl
  have CE2 := fun W (h : Below W1.heap.size W1 W) => mclosed_any ((hR.below hb0).below h) nr zr
  have hX : ∀ W, Below W1.heap.size W1 W → W.cell? ⟨w.heap.size, 2, none⟩ = some (.slice Al c.l.length kl) ∧ W.cell? ⟨w.heap.size, 3, none⟩ = some (.slice Ar c.r.length kr) := fun W h =>
    ⟨(hk0.below h hlt).cell 2 rfl, (hk0.below h hlt).cell 3 rfl⟩
  obtain ⟨x, hx⟩ : ∃ x, x = cat (clt c.l) := ⟨_, rfl⟩
  obtain ⟨y, hy⟩ : ∃ y, y = cat (clt c.r) := ⟨_, rfl⟩
  rw [← hx] at z1 CE1 ⊢
  rw [← hy] at z2 CE2 ⊢
  have a1 : AH.size = 8 := rfl
  have a2 : MI.size = 8 := rfl
  have a3 : BH.size = 8 := rfl
  have e1 : (AH ++ x).size = 8 + x.size := by rw [ByteArray.size_append, a1]
  have e2 : (AH ++ x ++ MI).size = 16 + x.size := by rw [ByteArray.size_append, e1, a2]; omega
  have e3 : (AH ++ x ++ MI ++ y).size = 16 + x.size + y.size := by rw [ByteArray.size_append, e2]
  have S1 := run_plus AH x (by omega)
  have S2 := run_plus (AH ++ x) MI (by omega)
  have S3 := run_plus (AH ++ x ++ MI) y (by omega)
  have S4 := run_plus (AH ++ x ++ MI ++ y) BH (by omega)
  obtain ⟨s1, hs1⟩ : ∃ s1, s1 = AH ++ x := ⟨_, rfl⟩
  rw [← hs1] at S1 S2 S3 S4 ⊢
  obtain ⟨s2, hs2⟩ : ∃ s2, s2 = s1 ++ MI := ⟨_, rfl⟩
  rw [← hs2] at S2 S3 S4 ⊢
  obtain ⟨s3, hs3⟩ : ∃ s3, s3 = s2 ++ y := ⟨_, rfl⟩
  rw [← hs3] at S3 S4 ⊢
  obtain ⟨s4, hs4⟩ : ∃ s4, s4 = s3 ++ BH := ⟨_, rfl⟩
  rw [← hs4] at S4 ⊢
  have HB0 := Lib.hid hb0
  have HX := Lib.hid hX
  have H1 := Lib.hid CE1
  have H2 := Lib.hid CE2
  have T1 := Lib.hid S1
  have T2 := Lib.hid S2
  have T3 := Lib.hid S3
  have T4 := Lib.hid S4
  clear hB hL hR hb0 hk0 hlt CE1 CE2 hX hx hy hs1 hs2 hs3 hs4 e1 e2 e3 a1 a2 a3 S1 S2 S3 S4 z1 z2
  go_enter Try.func28, Try.ntmps28
  go_wp2_with fail
  rw [← hW1]
  clear hW1
  refine Rg.wp_only ?_ (markReg _ (by kernel_rfl) _ w.heap.size _ _ x y s1 s2 s3 s4 W1 (Below W1.heap.size W1) HX.out (Below.refl _ _).drew T1.out T2.out T3.out T4.out
    (fun W h => (H1.out W h).mono (by rintro e w5 ⟨rfl, k⟩; exact ⟨rfl, below_call h k⟩)) (fun W h => (H2.out W h).mono (by rintro e w5 ⟨rfl, k⟩; exact ⟨rfl, below_call h k⟩)))
  rintro _ w8 ⟨rfl, h8⟩
  have H8 := Lib.hid h8
  clear h8
  go_wp2_with fail
  go_ret
  exact ⟨rfl, HB0.out.trans (H8.out.mono HB0.out.size)⟩
end Go.Proofs.Ytnpobigombafoaa.Mg

namespace Go.Proofs.Ytnpobigombafoaa.Mg
open Go.RowKit Go.ChangeShapes Go.WideShapes Tx Um Ud Aq Km Kd Lm Ln
set_option linter.unusedVariables false
theorem lays166 : Go.Proofs.Lays.n166 Try.prog Try.lays156_ren := { mixed := Try.lays156.mixed, f166 := Try.lays156.f166, f240 := Try.lays156.f240, f276 := Try.lays156.f276, t0 := Try.lays156.t0, a0 := Try.lays156.a0, z0 := Try.lays156.z0, v0 := Try.lays156.v0, t3 := Try.lays156.t3, a3 := Try.lays156.a3, z3 := Try.lays156.z3, v3 := Try.lays156.v3, t4 := Try.lays156.t4, a4 := Try.lays156.a4, z4 := Try.lays156.z4, v4 := Try.lays156.v4, t9 := Try.lays156.t9, a9 := Try.lays156.a9, z9 := Try.lays156.z9, v9 := Try.lays156.v9, t20 := Try.lays156.t20, a20 := Try.lays156.a20, z20 := Try.lays156.z20, v20 := Try.lays156.v20, t37 := Try.lays156.t37, a37 := Try.lays156.a37, z37 := Try.lays156.z37, v37 := Try.lays156.v37, t70 := Try.lays156.t70, a70 := Try.lays156.a70, z70 := Try.lays156.z70, v70 := Try.lays156.v70, t72 := Try.lays156.t72, a72 := Try.lays156.a72, z72 := Try.lays156.z72, v72 := Try.lays156.v72, t75 := Try.lays156.t75, a75 := Try.lays156.a75, z75 := Try.lays156.z75, v75 := Try.lays156.v75, t164 := Try.lays156.t164, a164 := Try.lays156.a164, z164 := Try.lays156.z164, v164 := Try.lays156.v164 }
theorem lays169 : Go.Proofs.Lays.n169 Try.prog Try.lays156_ren := { mixed := Try.lays156.mixed, f169 := Try.lays156.f169, t0 := Try.lays156.t0, a0 := Try.lays156.a0, z0 := Try.lays156.z0, v0 := Try.lays156.v0, t3 := Try.lays156.t3, a3 := Try.lays156.a3, z3 := Try.lays156.z3, v3 := Try.lays156.v3, t9 := Try.lays156.t9, a9 := Try.lays156.a9, z9 := Try.lays156.z9, v9 := Try.lays156.v9, t37 := Try.lays156.t37, a37 := Try.lays156.a37, z37 := Try.lays156.z37, v37 := Try.lays156.v37, t70 := Try.lays156.t70, a70 := Try.lays156.a70, z70 := Try.lays156.z70, v70 := Try.lays156.v70, t72 := Try.lays156.t72, a72 := Try.lays156.a72, z72 := Try.lays156.z72, v72 := Try.lays156.v72, t127 := Try.lays156.t127, a127 := Try.lays156.a127, z127 := Try.lays156.z127, v127 := Try.lays156.v127 }
theorem write_any (B b : Nat) (bs : List Value) (s : ByteArray) (w : World) (h : Lib.IsBuilder 62 5 B b bs w) (hlen : bs.length + s.size ≤ 140737488355328) (hBw : B ≤ w.heap.size) :
    Calls Try.prog 29 #[.pointer (some ⟨b, 0, none⟩), .string s] w fun e w' => e = .returned (.tuple #[.int .i64 s.size, .nilIface]) ∧ (Lib.BuilderAt 62 5 B b (.pointer (some ⟨b, 0, none⟩)) (bs ++ Lib.strCells s) w' ∧ Below B w w') :=
  Any.Builder_WriteString lays166 Try.Builder_Extra_156 B b bs s w h hlen hBw
theorem string_any (B b : Nat) (l : List UInt8) (w : World) (h : Lib.IsBuilder 62 5 B b (Lib.byteCells l) w) (hBw : B ≤ w.heap.size) :
    Calls Try.prog 30 #[.pointer (some ⟨b, 0, none⟩)] w fun e w' => e = .returned (.string ⟨l.toArray⟩) ∧ Below B w w' :=
  Any.Builder_String_any lays169 Try.Builder_Extra_156 B b l w h hBw
end Go.Proofs.Ytnpobigombafoaa.Mg

namespace Go.Proofs.Ytnpobigombafoaa.Mg
open Go.RowKit Go.ChangeShapes Go.WideShapes Tx Um Ud Aq Km Kd Lm Ln
set_option linter.unusedVariables false
theorem builder_below {T e : TypeId} {B b : Nat} {bs : List Value} {w w1 : World} (h : Lib.IsBuilder T e B b bs w) (hb : Below w.heap.size w w1) : Lib.IsBuilder T e B b bs w1 := by
  have key : ∀ p, Lib.BuilderAt T e B b p bs w → Lib.BuilderAt T e B b p bs w1 := by
    rintro p ⟨h1, v, h2, h3, h4⟩
    refine ⟨h1, v, (hb.block b (Array.getElem?_eq_some_iff.1 h2).1).trans h2, ⟨h3.1, ?_⟩, h4⟩
    rcases h3.2 with h0 | ⟨g', cap', cur, hv, hg, hh, r⟩
    · exact .inl h0
    · exact .inr ⟨g', cap', cur, hv, hg, (hb.block g' (Array.getElem?_eq_some_iff.1 hh).1).trans hh, r⟩
  rcases h with h | h
  · exact .inl (key _ h)
  · exact .inr (key _ h)
theorem builder_new (w : World) (B : Nat) (hB : B ≤ w.heap.size) : Lib.IsBuilder 62 5 B w.heap.size [] (w.alloc (.cells #[.pointer none, .slice none 0 0] 62)) :=
  .inl ⟨hB, _, heap_alloc_new w _, World.ownsRow_nil _ _ _ _, by simp [Value.ownBlock]⟩
theorem cs_form {w : World} {B : Nat} {v : Value} {cs : List Cc} (h : Cs w B v cs) : ∃ a c, v = .slice a cs.length c ∧ (cs.length = 0 ∨ ∃ g, a = some ⟨g, 0, none⟩ ∧ g < w.heap.size ∧ ∀ (k : Nat) x, cs[k]? = some x →
    w.cell? ⟨g, k * 4, none⟩ = some (.bool x.1) ∧ w.cell? ⟨g, k * 4 + 1, none⟩ = some x.2.1 ∧ w.cell? ⟨g, k * 4 + 2, none⟩ = some x.2.2.1 ∧ w.cell? ⟨g, k * 4 + 3, none⟩ = some x.2.2.2) := by
  have hh := h
  rcases h.2 with ⟨rfl, h0⟩ | ⟨g, cap, cur, rfl, hg, hh2, hn, hc, _⟩
  · exact ⟨none, 0, by rw [h0], .inl h0⟩
  · refine ⟨some ⟨g, 0, none⟩, cap, rfl, .inr ⟨g, rfl, (Array.getElem?_eq_some_iff.1 hh2).1, fun k x hx => ?_⟩⟩
    obtain ⟨h1, h2, h3, h4'⟩ := flat5_get cs k x hx
    have e1 := World.ownsRow.cells (g := g) hh rfl _ _ h1
    have e2 := World.ownsRow.cells (g := g) hh rfl _ _ h2
    have e3 := World.ownsRow.cells (g := g) hh rfl _ _ h3
    have e4 := World.ownsRow.cells (g := g) hh rfl _ _ h4'
    rw [WideShapes.add_plain, Nat.zero_add] at e1 e2 e3 e4
    exact ⟨e1, e2, e3, e4⟩
theorem chars_app (s t : ByteArray) : Lib.strCells s ++ Lib.strCells t = Lib.strCells (s ++ t) := by
  unfold Lib.strCells
  rw [ByteArray.data_append, Array.toList_append, List.map_append]
theorem chars_back (s : ByteArray) : (⟨s.data.toList.toArray⟩ : ByteArray) = s := by simp
set_option maxRecDepth 100000 in
set_option maxHeartbeats 8000000 in
theorem merge_any (s t u : ByteArray) (w : World) (hq : s.size + t.size + u.size ≤ 4194304) :
    Calls Try.prog 14 #[.string s, .string t, .string u] w (MgTo s t u w) := by
  have k0 := chunks_any s t u w (by omega) (by omega) (by omega)
  unfold ChTo at k0
  by_cases he : err3 s t u = 0
  · obtain ⟨m1, m2, m3⟩ := mg_ok he
    have HG : Hid (mtx s t u = txs (pcs3 s t u) ∧ mcf s t u = cfs (pcs3 s t u) ∧ err3 s t u = 0) := ⟨m1, m2, he⟩
    have HPC : Hid (∀ c, c ∈ pcs3 s t u → c.b.length ≤ 400 ∧ c.l.length ≤ 400 ∧ c.r.length ≤ 400 ∧ (cat c.l).size ≤ t.size ∧ (cat c.r).size ≤ u.size) := fun c hc => pc_small he hc
    have HS3 : Hid (∀ c, c ∈ pcs3 s t u → Same3 c) := fun c hc => ((pt_pcs3 s t u).full c hc).2
    obtain ⟨z1, z2, z3⟩ := txs_size s t u
    obtain ⟨_, _, _, l1, l2, l3⟩ := err_lines he
    rw [m3, he] at k0
    obtain ⟨L, hL⟩ : ∃ L, L = pcs3 s t u := ⟨_, rfl⟩
    rw [← hL] at k0 HPC HS3 HG z1 z2 z3
    have hNL : L.length ≤ 1200 := by omega
    have hTX : (txs L).size ≤ 8388608 := by omega
    have hCF : cfs L ≤ 1200 := by omega
    have HTX : Hid (∀ k, (txs (L.take k)).size ≤ 8388608) := fun k => Nat.le_trans (txs_take_le L k) hTX
    have HCF : Hid (∀ k, cfs (L.take k) ≤ 1200) := fun k => Nat.le_trans (txs_take_cf L k) hCF
    have K0 := Lib.hid k0
    clear k0 hL m1 m2 m3 he z1 z2 z3 l1 l2 l3 hTX hCF
    go_enter Try.func14, Try.ntmps14
    go_wp2_with fail
    go_at_call 9
    refine K0.out.mono ?_
    rintro e w1 ⟨v1, cs, rfl, h1, h2, h3, hb1⟩
    obtain ⟨av, cv, rfl, hf⟩ := cs_form h1
    have hlen := h2.len
    obtain ⟨NC, hNC⟩ : ∃ NC, NC = cs.length := ⟨_, rfl⟩
    rw [← hNC] at hf ⊢
    have HNC := Lib.hid hNC
    have hNC1 : NC ≤ 1200 := by omega
    have HLEN : Hid (NC = L.length) := hNC.trans hlen
    have HF := Lib.hid hf
    have HIC := Lib.hid h2
    have HOW := Lib.hid h3
    have HB1 := Lib.hid hb1
    clear h1 h2 h3 hb1 hf hlen hNC K0
    go_wp2_with fail
    have HBW : Hid (Below w1.heap.size w1 (w1.alloc (.cells #[.pointer none, .slice none 0 0] 62))) := (Below.refl _ _).alloc (Nat.le_refl _) _
    have HBD : Hid (Lib.IsBuilder 62 5 w1.heap.size w1.heap.size [] (w1.alloc (.cells #[.pointer none, .slice none 0 0] 62))) := builder_new w1 _ (Nat.le_refl _)
    obtain ⟨W1, hW1⟩ : ∃ W1, W1 = w1.alloc (.cells #[.pointer none, .slice none 0 0] 62) := ⟨_, rfl⟩
    rw [← hW1] at HBW HBD ⊢
    clear hW1
    go_loopw [7, 12, 13, 14, 27] (fun cv _ _ _ iv wr => ∃ k : Nat, iv = .int .i64 (k : Int) ∧ k ≤ NC ∧ cv = .int .i64 ((cfs (L.take k) : Nat) : Int) ∧ Hid (Lib.IsBuilder 62 5 w1.heap.size w1.heap.size (Lib.strCells (txs (L.take k))) wr) ∧ Hid (Below w1.heap.size w1 wr)) (fun _ _ _ _ iv _ => NC - (intOf iv).toNat)
    case atStart => exact ⟨0, rfl, Nat.zero_le _, rfl, HBD, HBW⟩
    case round =>
      obtain ⟨k, rfl, hk, rfl, HBR, HB⟩ := hrel
      clear HBD HBW
      by_cases hlt : k < NC
      · have e1 : (k : Int) < (NC : Int) := by omega
        obtain ⟨g, rfl, hg, hc⟩ := HF.out.resolve_left (by omega)
        obtain ⟨x, hx⟩ : ∃ x, L[k]? = some x := ⟨_, List.getElem?_eq_getElem (by rw [← HLEN.out]; exact hlt)⟩
        obtain ⟨⟨st, vb, vl, vr⟩, hck, q1, q2, q3, q4⟩ := HIC.out.get k x hx
        obtain ⟨o1, o2, o3⟩ := HOW.out.each k _ x hck hx
        obtain ⟨c0, c1, c2, c3⟩ := hc k _ hck
        simp only at q1 q2 q3 q4 o1 o2 o3 c0 c1 c2 c3
        subst q1
        obtain ⟨p1, p2, p3, p4, p5⟩ := HPC.out x (List.mem_iff_getElem?.2 ⟨k, hx⟩)
        have s3 := HS3.out x (List.mem_iff_getElem?.2 ⟨k, hx⟩)
        obtain ⟨tt, tc⟩ := txs_take hx
        have zt := HTX.out (k + 1)
        have zt0 := HTX.out k
        have zc := HCF.out (k + 1)
        have zc0 := HCF.out k
        obtain ⟨Ab, kb, rfl⟩ := o1.form
        obtain ⟨Al, kl, rfl⟩ := o2.form
        obtain ⟨Ar, kr, rfl⟩ := o3.form
        have d0 := (HB.out.cell (p := ⟨g, _, none⟩) hg).trans c0
        have d1 := (HB.out.cell (p := ⟨g, _, none⟩) hg).trans c1
        have d2 := (HB.out.cell (p := ⟨g, _, none⟩) hg).trans c2
        have d3 := (HB.out.cell (p := ⟨g, _, none⟩) hg).trans c3
        obtain ⟨W2, hW2⟩ : ∃ W2, W2 = wr.alloc (.cells #[.bool x.st, .slice Ab x.b.length kb, .slice Al x.l.length kl, .slice Ar x.r.length kr] 33) := ⟨_, rfl⟩
        have hb2 : Below wr.heap.size wr W2 := by rw [hW2]; exact (Below.refl _ _).alloc (Nat.le_refl _) _
        have hk2 : Bk W2 wr.heap.size #[.bool x.st, .slice Ab x.b.length kb, .slice Al x.l.length kl, .slice Ar x.r.length kr] 33 := by rw [hW2]; exact bk_new _ _ _
        have HB2 : Hid (Below w1.heap.size w1 W2) := HB.out.trans (hb2.mono HB.out.size)
        have HBR2 : Hid (Lib.IsBuilder 62 5 w1.heap.size w1.heap.size (Lib.strCells (txs (L.take k))) W2) := builder_below HBR.out hb2
        have CM := Lib.hid (merged_any x (o1.below HB2.out) (o2.below HB2.out) (o3.below HB2.out) s3 p1 p2 p3 (by omega) (by omega))
        have CK := Lib.hid (fun W (h : Below W2.heap.size W2 W) => marked_any x (o1.below (HB2.out.trans (h.mono HB2.out.size))) (o2.below (HB2.out.trans (h.mono HB2.out.size))) (o3.below (HB2.out.trans (h.mono HB2.out.size))) p2 p3 (by omega) (by omega))
        have HK2 := Lib.hid hk2
        have HTT := Lib.hid tt
        have HTC := Lib.hid tc
        clear hc hx hck q2 q3 q4 o1 o2 o3 c0 c1 c2 c3 s3 tt tc hk2 hb2 HB HBR p1 p2 p3 p4 p5
        have hWR : ∀ X : ByteArray, tx x = X → ∀ W (h : Below W2.heap.size W2 W), Calls Try.prog 29 #[.pointer (some ⟨w1.heap.size, 0, none⟩), .string X] W fun e w' => e = .returned (.tuple #[.int .i64 X.size, .nilIface]) ∧ Lib.IsBuilder 62 5 w1.heap.size w1.heap.size (Lib.strCells (txs (L.take (k + 1)))) w' ∧ Below w1.heap.size w1 w' := fun X hX W h => by
          have hBB : Below w1.heap.size w1 W := HB2.out.trans (h.mono HB2.out.size)
          have hsz : (txs (L.take k)).size + X.size = (txs (L.take (k + 1))).size := by rw [HTT.out, ByteArray.size_append, hX]
          refine (write_any w1.heap.size w1.heap.size (Lib.strCells (txs (L.take k))) X W (builder_below HBR2.out h) (by rw [Lib.strCells_length]; omega) hBB.size).mono ?_
          rintro e w' ⟨rfl, h5, h6⟩
          rw [chars_app, ← hX, ← HTT.out] at h5
          exact ⟨rfl, .inr h5, hBB.trans h6⟩
        have HWR := Lib.hid hWR
        clear hWR
        cases hp : pick x with
        | some l =>
          obtain ⟨y1, y2⟩ := tx_some hp
          have CM2 := CM.out
          unfold MdTo at CM2
          rw [hp] at CM2
          simp only [Option.isSome_some] at CM2
          have HM := Lib.hid CM2
          have HW := Lib.hid (HWR.out _ y1)
          have HC2 : Hid (cfs (L.take (k + 1)) = cfs (L.take k)) := by have h := HTC.out; rw [y2, Nat.add_zero] at h; exact h
          clear CM CM2 CK HWR y1 y2 hp
          go_wp2_with fail
          rw [← hW2]
          clear hW2
          go_at_call 27
          refine HM.out.mono ?_
          rintro e w3 ⟨rfl, hb3⟩
          clear d0 d1 d2 d3
          have HB3 := Lib.hid hb3
          clear hb3
          go_wp2_with fail
          go_at_call 29
          refine (HW.out _ HB3.out).mono ?_
          rintro e w4 ⟨rfl, h5, h6⟩
          have H5 := Lib.hid h5
          have H6 := Lib.hid h6
          clear h5 h6 HW HM
          go_wp2_with fail
          go_roundw
          case rel => exact ⟨k + 1, by go_num, by omega, by rw [HC2.out], H5, H6⟩
          case measure => simp only [intOf]; omega
        | none =>
          obtain ⟨y1, y2⟩ := tx_none hp
          have CM2 := CM.out
          unfold MdTo at CM2
          rw [hp] at CM2
          simp only [Option.isSome_none] at CM2
          have HM := Lib.hid CM2
          have CK2 := fun W (h : Below W2.heap.size W2 W) => CK.out W h
          simp only [← y1] at CK2
          have HK := Lib.hid CK2
          have HW := Lib.hid (HWR.out _ rfl)
          have HC2 : Hid (cfs (L.take (k + 1)) = cfs (L.take k) + 1) := by have h := HTC.out; rw [y2] at h; exact h
          have wc : IntKind.i64.wrap (((cfs (L.take k) : Nat) : Int) + 1) = ((cfs (L.take k) : Nat) : Int) + 1 := IntWalk.i64_in _ (by omega)
          obtain ⟨X, hX⟩ : ∃ X, X = tx x := ⟨_, rfl⟩
          rw [← hX] at HW
          simp only [← hX] at HK
          clear CM CM2 CK CK2 HWR y1 y2 hp hX
          go_wp2_with fail
          rw [← hW2]
          clear hW2
          go_at_call 27
          refine HM.out.mono ?_
          rintro e w3 ⟨rfl, hb3⟩
          have HK3 := HK2.out.below hb3 HK2.out.lt
          have f0 := HK3.cell 0 rfl
          have f1 := HK3.cell 1 rfl
          have f2 := HK3.cell 2 rfl
          have f3 := HK3.cell 3 rfl
          have HB3 := Lib.hid hb3
          clear hb3 HK3 d0 d1 d2 d3
          go_wp2_with fail
          go_at_call 28
          refine (HK.out _ HB3.out).mono ?_
          rintro e w4 ⟨rfl, hb4⟩
          have HB4 : Hid (Below W2.heap.size W2 w4) := below_call HB3.out hb4
          clear hb4 f0 f1 f2 f3
          go_wp2_with fail
          go_at_call 29
          refine (HW.out _ HB4.out).mono ?_
          rintro e w5 ⟨rfl, h5, h6⟩
          have H5 := Lib.hid h5
          have H6 := Lib.hid h6
          clear h5 h6 HW HM HK
          go_wp2_with fail
          go_roundw
          case rel => exact ⟨k + 1, by go_num, by omega, by rw [HC2.out]; go_num, H5, H6⟩
          case measure => simp only [intOf]; omega
      · have hkN : k = NC := by omega
        have e2 : ¬ (k : Int) < (NC : Int) := by omega
        have hall : L.take k = L := List.take_of_length_le (by rw [← HLEN.out]; omega)
        have CS := Lib.hid (string_any w1.heap.size w1.heap.size (txs (L.take k)).data.toList wr HBR.out HB.out.size)
        have HALL := Lib.hid hall
        clear hall hkN
        go_wp2_with fail
        go_at_call 30
        refine CS.out.mono ?_
        rintro e w3 ⟨rfl, hb3⟩
        have HB3 := Lib.hid (HB.out.trans hb3)
        clear hb3
        go_wp2_with fail
        go_ret3
        unfold MgTo
        rw [HG.out.1, HG.out.2.1, HG.out.2.2, HALL.out]
        refine ⟨?_, HB1.out.trans (HB3.out.mono HB1.out.size)⟩
        rw [chars_back]
        rfl
  · obtain ⟨m1, m2⟩ := mg_err he
    have HG : Hid (mtx s t u = ⟨#[]⟩ ∧ mcf s t u = 0) := ⟨m1, m2⟩
    have K0 := Lib.hid k0
    have e1 : ¬ ((err3 s t u : Nat) : Int) = 0 := by omega
    clear k0 m1 m2 he
    go_enter Try.func14, Try.ntmps14
    go_wp2_with fail
    go_at_call 9
    refine K0.out.mono ?_
    rintro e w1 ⟨v1, cs, rfl, h1, h2, h3, hb1⟩
    have HB1 := Lib.hid hb1
    clear h1 h2 h3 hb1 K0
    go_wp2_with fail
    go_ret3
    unfold MgTo
    rw [HG.out.1, HG.out.2]
    exact ⟨rfl, HB1.out⟩
theorem impl : Impl (fun s t u : ByteArray => s.size + t.size + u.size ≤ 4194304) := ⟨chunks_any, fun s t u w h => merge_any s t u w h, fun s t u h => h⟩
end Go.Proofs.Ytnpobigombafoaa.Mg
