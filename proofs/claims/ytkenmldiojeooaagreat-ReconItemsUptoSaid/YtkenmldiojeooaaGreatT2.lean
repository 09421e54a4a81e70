/- Texts of this seat, one behind the other. -/
import Derived.Test.YtkenmldiojeooaaGreatT1
import Derived.Deep.QuietTactic
import Derived.BigQuiet
import Derived.Maps.OwnSet
import Derived.Carry
import Derived.Shelf.RegionOpenPlain
import Derived.Laws.Rows
import Derived.Laws.NewBlocks
namespace Go.Proofs.YtkenmldiojeooaaGreat.Mg
open Go.RowKit Go.ChangeShapes Go.WideShapes Tx Um Ud Aq Km Kd Lm Ln
set_option linter.unusedVariables false
theorem infoT : (Tryz.prog.info? 103).map (fun i => (i.zero, i.size, i.bytes)) = some (some (.agg #[.int .i64 0, .int .i64 0, .int .i64 0]), 3, 24) := by kernel_rfl
def c3 (t : Nat × Nat × Nat) : List Value := [iv t.1, iv t.2.1, iv t.2.2]
theorem c3_one (t : Nat × Nat × Nat) : ∀ u ∈ c3 t, u.oneCell' = true := by
  intro u hu
  simp only [c3, List.mem_cons, List.not_mem_nil, or_false] at hu
  rcases hu with rfl | rfl | rfl <;> rfl
theorem flatt_get (l : List (Nat × Nat × Nat)) (k : Nat) (x : Nat × Nat × Nat) (h : l[k]? = some x) : (l.flatMap c3)[k * 3]? = some (iv x.1) ∧ (l.flatMap c3)[k * 3 + 1]? = some (iv x.2.1) ∧ (l.flatMap c3)[k * 3 + 2]? = some (iv x.2.2) := by
  induction l generalizing k with
  | nil => cases h
  | cons y l ih =>
    rw [List.flatMap_cons]
    cases k with
    | zero =>
      injection h with h
      subst h
      exact ⟨rfl, rfl, rfl⟩
    | succ k =>
      obtain ⟨k1, k2, k3⟩ := ih k h
      have e : (c3 y).length = 3 := rfl
      rw [List.getElem?_append_right (by omega), List.getElem?_append_right (by omega), List.getElem?_append_right (by omega), e, show (k + 1) * 3 - 3 = k * 3 by omega, show (k + 1) * 3 + 1 - 3 = k * 3 + 1 by omega, show (k + 1) * 3 + 2 - 3 = k * 3 + 2 by omega]
      exact ⟨k1, k2, k3⟩
def T3 (w : World) (B : Nat) (v : Value) (l : List (Nat × Nat × Nat)) : Prop := w.ownsRow B 103 3 v l.length (l.flatMap c3)
theorem T3.below {w w1 : World} {B : Nat} {v : Value} {l : List (Nat × Nat × Nat)} (h : T3 w B v l) (hb : Below w.heap.size w w1) : T3 w1 B v l := by
  refine ⟨h.1, ?_⟩
  rcases h.2 with h0 | ⟨g', cap', cur, hv, hg, hh, r⟩
  · exact .inl h0
  · exact .inr ⟨g', cap', cur, hv, hg, (hb.block g' (Array.getElem?_eq_some_iff.1 hh).1).trans hh, r⟩
theorem T3.form {w : World} {B : Nat} {v : Value} {l : List (Nat × Nat × Nat)} (h : T3 w B v l) : ∃ a c, v = .slice a l.length c ∧ (l.length = 0 ∨ ∃ g, a = some ⟨g, 0, none⟩ ∧ B ≤ g ∧ g < w.heap.size ∧
    ∀ (k : Nat) x, l[k]? = some x → w.cell? ⟨g, k * 3, none⟩ = some (iv x.1) ∧ w.cell? ⟨g, k * 3 + 1, none⟩ = some (iv x.2.1) ∧ w.cell? ⟨g, k * 3 + 2, none⟩ = some (iv x.2.2)) := by
  have hh := h
  rcases h.2 with ⟨rfl, h0⟩ | ⟨g, cap, cur, rfl, hg, hh2, hn, hc, _⟩
  · exact ⟨none, 0, by rw [h0], .inl h0⟩
  · refine ⟨some ⟨g, 0, none⟩, cap, rfl, .inr ⟨g, rfl, hg, (Array.getElem?_eq_some_iff.1 hh2).1, fun k x hx => ?_⟩⟩
    obtain ⟨h1, h2, h3⟩ := flatt_get l k x hx
    have e1 := hh.cells (g := g) rfl _ _ h1
    have e2 := hh.cells (g := g) rfl _ _ h2
    have e3 := hh.cells (g := g) rfl _ _ h3
    rw [WideShapes.add_plain, Nat.zero_add] at e1 e2 e3
    exact ⟨e1, e2, e3⟩
def row3 (p : Nat × Nat) (y : List (Nat × Nat)) : List (Nat × Nat × Nat) := (y.filter fun q => decide (q.1 = p.1)).map fun q => (p.1, p.2, q.2)
theorem trip_take {x y : List (Nat × Nat)} {i : Nat} {p : Nat × Nat} (h : x[i]? = some p) : trip (x.take (i + 1)) y = trip (x.take i) y ++ row3 p y := by
  rw [List.take_add_one, h, trip_app]
  congr 1
  show trip [p] y = _
  rw [trip_cons]
  exact List.append_nil _
theorem row3_take {p q : Nat × Nat} {y : List (Nat × Nat)} {k : Nat} (h : y[k]? = some q) : row3 p (y.take (k + 1)) = row3 p (y.take k) ++ if q.1 = p.1 then [(p.1, p.2, q.2)] else [] := by
  unfold row3
  rw [List.take_add_one, h, List.filter_append, List.map_append]
  congr 1
  show List.map _ (List.filter _ [q]) = _
  by_cases e : q.1 = p.1
  · rw [if_pos e, List.filter_cons_of_pos (by simpa using e)]; rfl
  · rw [if_neg e, List.filter_cons_of_neg (by simpa using e)]; rfl
theorem row3_len (p : Nat × Nat) (y : List (Nat × Nat)) : (row3 p y).length ≤ y.length := by
  unfold row3
  rw [List.length_map]
  exact List.length_filter_le _ _
theorem trip_len (x y : List (Nat × Nat)) : (trip x y).length ≤ x.length * y.length := by
  induction x with
  | nil => exact Nat.zero_le _
  | cons p x ih =>
    have h := row3_len p y
    unfold row3 at h
    rw [trip_cons, List.length_append, List.length_cons, Nat.add_mul]
    omega
set_option maxRecDepth 100000 in
set_option maxHeartbeats 4000000 in
theorem stable_any (A B C : Option Addr) (ca cb cc : Nat) (o a b : List ByteArray) (w : World) (hA : Strs w A o.length o) (hB : Strs w B a.length a) (hC : Strs w C b.length b) (ho : o.length ≤ 400) (ha : a.length ≤ 400) (hb : b.length ≤ 400) :
    Calls Tryz.prog 72 #[.slice A o.length ca, .slice B a.length cb, .slice C b.length cc] w fun e w' => ∃ v, e = .returned v ∧ T3 w' w.heap.size v (trip (pairs 0 0 (steps o a)) (pairs 0 0 (steps o b))) ∧ Below w.heap.size w w' := by
  obtain ⟨iT, hI, hI0, hI1, hI2⟩ := info_parts infoT
  have kk : ∀ l : List ByteArray, l.length ≤ 400 → kep o l = pairs 0 0 (steps o l) ∧ err o l = 0 ∧ (pairs 0 0 (steps o l)).length ≤ 400 := fun l hl => by
    have h0 : lng o l = false := by unfold lng; rw [decide_eq_false (by omega), decide_eq_false (by omega)]; rfl
    refine ⟨by unfold kep; rw [h0]; rfl, by unfold err; rw [h0]; rfl, ?_⟩
    have := pairs_len (steps o l) 0 0
    have := kept o l
    have := lcs_le_left o l
    omega
  obtain ⟨x1, x2, x3⟩ := kk a ha
  obtain ⟨y1, y2, y3⟩ := kk b hb
  have k1 := refKept_any A B ca cb o a w hA hB
  have k2 := fun w1 (hb : Below w.heap.size w w1) => refKept_any A C ca cc o b w1 (hA.below hb) (hC.below hb)
  unfold PrsTo at k1 k2
  rw [x1, x2] at k1
  rw [y1, y2] at k2
  obtain ⟨X, hX⟩ : ∃ X, X = pairs 0 0 (steps o a) := ⟨_, rfl⟩
  obtain ⟨Y, hY⟩ : ∃ Y, Y = pairs 0 0 (steps o b) := ⟨_, rfl⟩
  rw [← hX] at k1 x3 ⊢
  rw [← hY] at k2 y3 ⊢
  have K1 := Lib.hid k1
  have K2 := Lib.hid k2
  clear hA hB hC kk x1 x2 y1 y2 k1 k2 hX hY
  go_enter Tryz.func72, Tryz.ntmps72
  go_wp2_with fail
  go_at_call 99
  refine K1.out.mono ?_
  rintro e w1 ⟨v1, rfl, hv1, hb1⟩
  obtain ⟨ax, cx, rfl, hx⟩ := hv1.form
  have HB1 := Lib.hid hb1
  go_wp2_with fail
  go_at_call 99
  refine (K2.out _ HB1.out).mono ?_
  rintro e w2 ⟨v2, rfl, hv2, hb2⟩
  obtain ⟨ay, cy, rfl, hy⟩ := hv2.form
  have HX := Lib.hid (hx.below hb2)
  have HY := Lib.hid hy
  have HB2 : Hid (Below w.heap.size w w2) := below_call HB1.out hb2
  obtain ⟨NX, hNX⟩ : ∃ n, n = X.length := ⟨_, rfl⟩
  obtain ⟨NY, hNY⟩ : ∃ n, n = Y.length := ⟨_, rfl⟩
  rw [← hNX] at HX x3 ⊢
  rw [← hNY] at HY y3 ⊢
  have HNX := Lib.hid hNX
  have HNY := Lib.hid hNY
  clear hv1 hv2 hx hy hb1 hb2 HB1 K1 K2 hNX hNY
  go_wp2_with fail
  go_loopw [11, 12, 13] (fun v i _ wr => ∃ (n : Nat), i = .int .i64 (n : Int) ∧ n ≤ NX ∧ Hid (T3 wr w2.heap.size v (trip (X.take n) Y)) ∧ Hid (Below w2.heap.size w2 wr)) (fun _ i _ _ => NX - (intOf i).toNat)
  case atStart => exact ⟨0, rfl, Nat.zero_le _, World.ownsRow_nil _ _ _ _, Below.refl _ _⟩
  case round =>
    obtain ⟨n, rfl, hn, HT, HB⟩ := hrel
    by_cases hlt : n < NX
    · have e1 : (n : Int) < (NX : Int) := by omega
      obtain ⟨⟨p, q⟩, hp⟩ : ∃ p, X[n]? = some p := ⟨_, List.getElem?_eq_getElem (by rw [← HNX.out]; exact hlt)⟩
      obtain ⟨gx, ox, rfl, hgx, hcx⟩ := HX.out.2.resolve_left (by omega)
      obtain ⟨a0, a1⟩ := hcx n (p, q) hp
      have hT := trip_take (y := Y) hp
      have hTl := trip_len (X.take n) Y
      rw [List.length_take, ← HNY.out] at hTl
      have hTl2 : (trip (X.take n) Y).length ≤ 400 * 400 := Nat.le_trans hTl (Nat.mul_le_mul (by omega) y3)
      have HTT := Lib.hid hT
      have HTL := Lib.hid hTl2
      have HA0 := Lib.hid a0
      have HA1 := Lib.hid a1
      clear hcx a0 a1 hp hT hTl hTl2
      go_wp2_with fail
      go_loopw [11, 13] (fun v k wr => ∃ (m : Nat), k = .int .i64 (m : Int) ∧ m ≤ NY ∧ Hid (T3 wr w2.heap.size v (trip (X.take n) Y ++ row3 (p, q) (Y.take m))) ∧ Hid (Below w2.heap.size w2 wr)) (fun _ k _ => NY - (intOf k).toNat)
      case atStart =>
        refine ⟨0, rfl, Nat.zero_le _, ?_, HB⟩
        show T3 _ _ _ _
        have e : row3 (p, q) (Y.take 0) = [] := rfl
        rw [e, List.append_nil]
        exact HT.out
      case round =>
        clear HT HB
        obtain ⟨m, rfl, hm, HT, HB⟩ := hrel
        by_cases hml : m < NY
        · have e2 : (m : Int) < (NY : Int) := by omega
          obtain ⟨⟨r, s⟩, hr⟩ : ∃ r, Y[m]? = some r := ⟨_, List.getElem?_eq_getElem (by rw [← HNY.out]; exact hml)⟩
          obtain ⟨gy, oy, rfl, hgy, hcy⟩ := HY.out.2.resolve_left (by omega)
          obtain ⟨b0, b1⟩ := hcy m (r, s) hr
          have hR := row3_take (p := (p, q)) hr
          have hRl := row3_len (p, q) (Y.take m)
          rw [List.length_take, ← HNY.out] at hRl
          have d0 : wr.cell? ⟨gx, ox + n * 2, none⟩ = some (.int .i64 (p : Int)) := (HB.out.cell (p := ⟨gx, _, none⟩) hgx).trans HA0.out
          have d1 : wr.cell? ⟨gy, oy + m * 2, none⟩ = some (.int .i64 (r : Int)) := (HB.out.cell (p := ⟨gy, _, none⟩) hgy).trans b0
          have HX3 : Hid (∀ W, Below w2.heap.size w2 W → W.cell? ⟨gx, ox + n * 2, none⟩ = some (.int .i64 (p : Int)) ∧ W.cell? ⟨gx, ox + n * 2 + 1, none⟩ = some (.int .i64 (q : Int)) ∧ W.cell? ⟨gy, oy + m * 2 + 1, none⟩ = some (.int .i64 (s : Int))) := fun W hb =>
            ⟨(hb.cell (p := ⟨gx, _, none⟩) hgx).trans HA0.out, (hb.cell (p := ⟨gx, _, none⟩) hgx).trans HA1.out, (hb.cell (p := ⟨gy, _, none⟩) hgy).trans b1⟩
          by_cases he : p = r
          · have e3 : ((p : Int) == (r : Int)) = true := beq_iff_eq.2 (by omega)
            rw [if_pos he.symm] at hR
            obtain ⟨U, hU⟩ : ∃ U, U = trip (X.take n) Y ++ row3 (p, q) (Y.take m) := ⟨_, rfl⟩
            have hUl : U.length ≤ 200000 := by rw [hU, List.length_append]; have := HTL.out; omega
            have hU2 : trip (X.take n) Y ++ row3 (p, q) (Y.take (m + 1)) = U ++ [(p, q, s)] := by rw [hR, hU, List.append_assoc]
            rw [← hU] at HT
            have HU2 := Lib.hid hU2
            clear hcy b0 b1 hr hR hRl hU hU2 he
            go_wp2_with fail
            go_region
            have hown : wr.drew.drew.ownsRow w2.heap.size 103 3 u11 U.length (U.flatMap c3) := (HT.out.drew).drew
            have hbd := HB.out.drew
            have hbd2 := hbd.drew
            have hszd : w2.heap.size ≤ wr.drew.drew.heap.size := hbd2.size
            have hX2 : Below w2.heap.size w2 (wr.drew.drew.alloc (.cells #[.int .i64 (p : Int), .int .i64 (q : Int), .int .i64 (s : Int)] 103)) := hbd2.alloc hszd _
            have HE8 : Hid (∀ ty, ∃ v8 w8, (Builtin.append_ #[109, 109] ty #[u11, .slice (some ⟨wr.drew.heap.size, 0, none⟩) 1 1]).run Tryz.prog (wr.drew.drew.alloc (.cells #[.int .i64 (p : Int), .int .i64 (q : Int), .int .i64 (s : Int)] 103)) = .ok v8 w8 ∧ Below w2.heap.size w2 w8 ∧ (Below w2.heap.size w2 w8 ∧ T3 w8 w2.heap.size v8 (U ++ [(p, q, s)]))) := by
              intro ty
              obtain ⟨v8, w8, h1, h2, h3', _⟩ := run_append_own (P := Tryz.prog) (wr.drew.drew.alloc (.cells #[.int .i64 (p : Int), .int .i64 (q : Int), .int .i64 (s : Int)] 103)) w2.heap.size 109 ty 103 iT (.agg #[.int .i64 0, .int .i64 0, .int .i64 0]) 3 24 Tryz.underlying109 hI hI0 hI1 hI2 rfl (by decide) u11 U.length (U.flatMap c3) (hown.alloc _) ⟨wr.drew.drew.heap.size, 0, none⟩ 1 1 (c3 (p, q, s)) rfl (cell_three_new _ _ _ _ _) (c3_one _) (by unfold maxLen; omega) (by omega) hX2.size
              refine ⟨v8, w8, h1, ?_, ?_, ?_⟩
              · exact hX2.grown h3' hX2.size (fun q hq => (hown.lt q hq).1)
              · exact hX2.grown h3' hX2.size (fun q hq => (hown.lt q hq).1)
              · unfold T3
                rw [List.length_append, List.flatMap_append]
                simpa using h2
            clear hown hszd
            go_wp2_with fail
            refine Rg.wp_only ?_ (stableReg _ (by kernel_rfl) _ gx ox gy oy NX NY cx cy n m p q s u11 _ e1 e2 (Below w2.heap.size w2) (fun v8 W => Below w2.heap.size w2 W ∧ T3 W w2.heap.size v8 (U ++ [(p, q, s)])) HX3.out hbd2 hX2 HE8.out)
            rintro _ w9 ⟨v9, rfl, h9, ht9⟩
            have HT9 : Hid (T3 w9 w2.heap.size v9 (trip (X.take n) Y ++ row3 (p, q) (Y.take (m + 1)))) := by
              show T3 _ _ _ _
              rw [HU2.out]
              exact ht9
            clear ht9 HE8 HX3 hX2 hbd hbd2 HT HB
            go_wp2_with fail
            go_roundw
            case rel => exact ⟨m + 1, by go_num, by omega, HT9, h9⟩
            case measure => simp only [intOf]; omega
          · have e3 : ((p : Int) == (r : Int)) = false := beq_eq_false_iff_ne.2 (by omega)
            rw [if_neg (fun e => he e.symm), List.append_nil] at hR
            have HT2 : Hid (T3 wr w2.heap.size u11 (trip (X.take n) Y ++ row3 (p, q) (Y.take (m + 1)))) := by show T3 _ _ _ _; rw [hR]; exact HT.out
            clear hcy b0 b1 hr hR hRl HX3 HT
            go_wp2_with fail
            go_region
            go_wp2_with fail
            go_roundw
            case rel => exact ⟨m + 1, by go_num, by omega, HT2.out.drew, HB.out.drew⟩
            case measure => simp only [intOf]; omega
        · have e2 : ¬ (m : Int) < (NY : Int) := by omega
          have HT2 : Hid (T3 wr w2.heap.size u11 (trip (X.take (n + 1)) Y)) := by
            have h := HT.out
            rw [show Y.take m = Y from List.take_of_length_le (by rw [← HNY.out]; omega), ← HTT.out] at h
            exact h
          clear HT
          go_wp2_with fail
          go_roundw
          case rel => exact ⟨n + 1, by go_num, by omega, HT2, HB⟩
          case measure => simp only [intOf]; omega
    · have hnN : n = NX := by omega
      have e1 : ¬ (n : Int) < (NX : Int) := by omega
      have hE : Hid (T3 wr w2.heap.size u11 (trip X Y)) := by
        have h := HT.out
        rw [List.take_of_length_le (by rw [← HNX.out]; omega)] at h
        exact h
      clear HT hnN
      go_wp2_with fail
      go_ret
      exact ⟨_, rfl, own_base hE.out HB2.out.size, HB2.out.trans (HB.out.mono HB2.out.size)⟩
end Go.Proofs.YtkenmldiojeooaaGreat.Mg

namespace Go.Proofs.YtkenmldiojeooaaGreat.Mg
open Go.RowKit Go.ChangeShapes Go.WideShapes Tx Um Ud Aq Km Kd Lm Ln
set_option linter.unusedVariables false
theorem infoP : (Tryz.prog.info? 106).map (fun i => (i.zero, i.size, i.bytes)) = some (some (.agg #[.int .i64 0, .int .i64 0, .int .i64 0, .int .i64 0, .int .i64 0, .int .i64 0]), 6, 48) := by kernel_rfl
def h6 (x : Tr × Tr) : List Value := c3 x.1 ++ c3 x.2
theorem h6_eq (x : Tr × Tr) : h6 x = [iv x.1.1, iv x.1.2.1, iv x.1.2.2, iv x.2.1, iv x.2.2.1, iv x.2.2.2] := rfl
theorem flat6_len (l : List (Tr × Tr)) : (l.flatMap h6).length = l.length * 6 := by
  induction l with
  | nil => rfl
  | cons x l ih => rw [List.flatMap_cons, List.length_append, ih, List.length_cons]; show 6 + _ = _; omega
theorem flat6_get (l : List (Tr × Tr)) (k : Nat) (x : Tr × Tr) (h : l[k]? = some x) (j : Nat) (u : Value) (hj : (h6 x)[j]? = some u) : (l.flatMap h6)[k * 6 + j]? = some u := by
  induction l generalizing k with
  | nil => cases h
  | cons y l ih =>
    rw [List.flatMap_cons]
    cases k with
    | zero =>
      injection h with h
      subst h
      have hlt : j < (h6 y).length := (List.getElem?_eq_some_iff.1 hj).1
      rw [Nat.zero_mul, Nat.zero_add, List.getElem?_append_left hlt]
      exact hj
    | succ k =>
      have e : (h6 y).length = 6 := rfl
      rw [List.getElem?_append_right (by omega), e, show (k + 1) * 6 + j - 6 = k * 6 + j by omega]
      exact ih k h
def Rwo (w : World) (B : Nat) (v : Value) (R : List (Tr × Tr)) : Prop := w.ownsRow B 106 6 v R.length (R.flatMap h6)
theorem Rwo.below {w w1 : World} {B : Nat} {v : Value} {R : List (Tr × Tr)} (h : Rwo w B v R) (hb : Below w.heap.size w w1) : Rwo w1 B v R := by
  refine ⟨h.1, ?_⟩
  rcases h.2 with h0 | ⟨g', cap', cur, hv, hg, hh, r⟩
  · exact .inl h0
  · exact .inr ⟨g', cap', cur, hv, hg, (hb.block g' (Array.getElem?_eq_some_iff.1 hh).1).trans hh, r⟩
theorem rwo_nil (w : World) (B : Nat) : Rwo w B (.slice none 0 0) [] := World.ownsRow_nil _ _ _ _
theorem Rwo.lt {w : World} {B : Nat} {v : Value} {R : List (Tr × Tr)} (h : Rwo w B v R) : ∀ k, v.ownBlock = some k → B ≤ k ∧ k < w.heap.size := World.ownsRow.lt h
def Six (g k : Nat) (x : Tr × Tr) (W : World) : Prop := W.cell? ⟨g, k * 6, none⟩ = some (iv x.1.1) ∧ W.cell? ⟨g, k * 6 + 1, none⟩ = some (iv x.1.2.1) ∧ W.cell? ⟨g, k * 6 + 2, none⟩ = some (iv x.1.2.2) ∧ W.cell? ⟨g, k * 6 + 3, none⟩ = some (iv x.2.1) ∧ W.cell? ⟨g, k * 6 + 4, none⟩ = some (iv x.2.2.1) ∧ W.cell? ⟨g, k * 6 + 5, none⟩ = some (iv x.2.2.2)
theorem Six.below {g k : Nat} {x : Tr × Tr} {B : Nat} {w W : World} (h : Six g k x w) (hb : Below B w W) (hg : g < B) : Six g k x W :=
  ⟨(hb.cell (p := ⟨g, _, none⟩) hg).trans h.1, (hb.cell (p := ⟨g, _, none⟩) hg).trans h.2.1, (hb.cell (p := ⟨g, _, none⟩) hg).trans h.2.2.1, (hb.cell (p := ⟨g, _, none⟩) hg).trans h.2.2.2.1, (hb.cell (p := ⟨g, _, none⟩) hg).trans h.2.2.2.2.1, (hb.cell (p := ⟨g, _, none⟩) hg).trans h.2.2.2.2.2⟩
theorem Rwo.form {w : World} {B : Nat} {v : Value} {R : List (Tr × Tr)} (h : Rwo w B v R) : ∃ a c, v = .slice a R.length c ∧ (R.length = 0 ∨ ∃ g, a = some ⟨g, 0, none⟩ ∧ B ≤ g ∧ g < w.heap.size ∧ (∀ k, w.frozen? ⟨g, k, none⟩ = false) ∧ ∀ (k : Nat) x, R[k]? = some x → Six g k x w) := by
  have hh := h
  rcases h.2 with ⟨rfl, h0⟩ | ⟨g, cap, cur, rfl, hg, hh2, hn, hc, _⟩
  · exact ⟨none, 0, by rw [h0], .inl h0⟩
  · refine ⟨some ⟨g, 0, none⟩, cap, rfl, .inr ⟨g, rfl, hg, (Array.getElem?_eq_some_iff.1 hh2).1, fun k => by simp [World.frozen?, hh2], fun k x hx => ?_⟩⟩
    have key : ∀ j u, (h6 x)[j]? = some u → w.cell? ⟨g, k * 6 + j, none⟩ = some u := fun j u hj => by
      have e := World.ownsRow.cells (g := g) hh rfl _ _ (flat6_get R k x hx j u hj)
      rw [WideShapes.add_plain, Nat.zero_add] at e
      exact e
    exact ⟨key 0 _ rfl, key 1 _ rfl, key 2 _ rfl, key 3 _ rfl, key 4 _ rfl, key 5 _ rfl⟩
theorem run_eql_three (a b c x y z : Int) (w : World) : (Op.equalIn 10000 104 (.agg #[.int .i64 a, .int .i64 b, .int .i64 c]) (.agg #[.int .i64 x, .int .i64 y, .int .i64 z])).run Tryz.prog w = .ok ((a == x) && (b == y) && (c == z)) w := by
  obtain ⟨iI, hI, _⟩ := info_parts infoInt
  have hu : Tryz.prog.underlying 3 = some (.int .i64) := by kernel_rfl
  have hc : Tryz.prog.cellsOf 3 = 1 := by kernel_rfl
  have hk : Tryz.prog.plainKey 3 = true := by kernel_rfl
  have p0 : ∀ (x y z : Int), (part 3 #[.int .i64 x, .int .i64 y, .int .i64 z] (0 * 1)).run Tryz.prog w = .ok (.int .i64 x) w := fun x y z => run_part_plain w hk rfl
  have p1 : ∀ (x y z : Int), (part 3 #[.int .i64 x, .int .i64 y, .int .i64 z] (1 * 1)).run Tryz.prog w = .ok (.int .i64 y) w := fun x y z => run_part_plain w hk rfl
  have p2 : ∀ (x y z : Int), (part 3 #[.int .i64 x, .int .i64 y, .int .i64 z] (2 * 1)).run Tryz.prog w = .ok (.int .i64 z) w := fun x y z => run_part_plain w hk rfl
  rw [show (10000 : Nat) = 9999 + 1 from rfl, run_equalIn_array w 9999 _ _ (show Tryz.prog.underlying 104 = some (.array 3 3) by kernel_rfl) hI, hc, show List.range 3 = [0, 1, 2] from rfl]
  simp only [Op.eqItems, Sem.run_bind, p0, Result.andThen_ok]
  have q1 : ∀ (x y : Int), (Op.equalIn 9999 3 (.int .i64 x) (.int .i64 y)).run Tryz.prog w = .ok (x == y) w := fun x y => run_equalIn_int w 9998 _ .i64 .i64 x y hu
  rw [q1]
  simp only [Result.andThen_ok]
  cases h1 : a == x
  · simp
  · simp only [Bool.not_true, Bool.false_eq_true, if_false, Sem.run_bind, p1, Result.andThen_ok, q1]
    cases h2 : b == y
    · simp
    · simp only [Bool.not_true, Bool.false_eq_true, if_false, Sem.run_bind, p2, Result.andThen_ok, q1]
      cases h3 : c == z <;> simp
theorem three_eq (s t : Tr) : ((((s.1 : Nat) : Int) == (t.1 : Int)) && ((s.2.1 : Int) == (t.2.1 : Int)) && ((s.2.2 : Int) == (t.2.2 : Int))) = decide (s = t) := by
  obtain ⟨a, b, c⟩ := s
  obtain ⟨x, y, z⟩ := t
  by_cases h : (a, b, c) = (x, y, z)
  · injection h with h1 h
    injection h with h2 h3
    subst h1
    subst h2
    subst h3
    simp
  · rw [decide_eq_false h]
    have h0 : ¬ (a = x ∧ b = y ∧ c = z) := fun ⟨h1, h2, h3⟩ => h (by rw [h1, h2, h3])
    simp only [Bool.and_eq_false_iff, beq_eq_false_iff_ne]
    omega
theorem run_neq_three (s t : Tr) (w : World) : (binOp .neq 104 (.agg #[.int .i64 (s.1 : Int), .int .i64 (s.2.1 : Int), .int .i64 (s.2.2 : Int)]) (.agg #[.int .i64 (t.1 : Int), .int .i64 (t.2.1 : Int), .int .i64 (t.2.2 : Int)])).run Tryz.prog w = .ok (.bool (!decide (s = t))) w := by
  rw [run_neq_struct, run_eql_three, three_eq]
  rfl
theorem guard3 : Tryz.prog.eqGuardType Tryz.prog.depth 104 = false := by kernel_rfl
end Go.Proofs.YtkenmldiojeooaaGreat.Mg

namespace Go.Proofs.YtkenmldiojeooaaGreat.Mg
open Go.RowKit Go.ChangeShapes Go.WideShapes Tx Um Ud Aq Km Kd Lm Ln
set_option linter.unusedVariables false
def Thr (p : Nat) (t : Tr) (W : World) : Prop := W.cell? ⟨p, 0, none⟩ = some (.int .i64 (t.1 : Int)) ∧ W.cell? ⟨p, 1, none⟩ = some (.int .i64 (t.2.1 : Int)) ∧ W.cell? ⟨p, 2, none⟩ = some (.int .i64 (t.2.2 : Int))
set_option maxRecDepth 100000 in
set_option maxHeartbeats 4000000 in
theorem joinRegT (ops : Array Oper) (hops : ops = (Rg.opsOf Tryz.f94 3)) (id : Nat) {u0 u1 u2 u3 u4 u5 u7 u8 u9 u10 u11 u12 u13 u14 u15 u16 u17 u18 u19 u20 u21 u22 u23 u24 u25 u26 u27 u28 u29 u30 u31 u32 u33 u34 u35 u36 u37 u38 u39 u40 u41 u42 : Value} (w : World) (X : World → Prop) (hw : X w.drew) :
    (Code.region id ops true).wp Tryz.prog (Rg.Only fun a' w' => a' = ⟨#[u0, u1, u2, u3, u4, u5, (.int .i64 (-1)), u7, u8, u9, u10, u11, u12, u13, u14, u15, u16, u17, u18, u19, (.int .i64 (-1)), (.bool true), (.bool true), undef, undef, undef, undef, undef, undef, undef, (Value.bool true), u31, u32, u33, u34, u35, u36, u37, u38, u39, u40, u41, u42], []⟩ ∧ X w') ⟨#[u0, u1, u2, u3, u4, u5, (.int .i64 (-1)), u7, u8, u9, u10, u11, u12, u13, u14, u15, u16, u17, u18, u19, u20, u21, u22, u23, u24, u25, u26, u27, u28, u29, u30, u31, u32, u33, u34, u35, u36, u37, u38, u39, u40, u41, u42], []⟩ w := by
  subst hops
  have hNS : Region.noSelect (Rg.opsOf Tryz.f94 3) = true := by kernel_rfl
  refine wp_region_held_drew (S := X) (by kernel_rfl) hw (fun hHeld => ?_)
  rw [show (Rg.opsOf Tryz.f94 3).size = 11 by kernel_rfl]
  refine Rg.take (ops := (Rg.opsOf Tryz.f94 3)) 0 (some 20) ((.int .i64 (-1))) hNS (by kernel_rfl) (by kernel_rfl) (by kernel_rfl) (by kernel_rfl) (by kernel_rfl) hHeld (Rg.y_move (x := (Operand.tmp 6)) (Or.inl (by kernel_rfl)) (by kernel_rfl)) ?_
  refine Rg.take (ops := (Rg.opsOf Tryz.f94 3)) 1 (some 21) ((.bool true)) hNS (by kernel_rfl) (by kernel_rfl) (by kernel_rfl) (by kernel_rfl) (by kernel_rfl) hHeld (Rg.y_bin (b := BinOp.lss) (T := 3) (R' := 3) (x := (Operand.tmp 20)) (y := (Operand.const (Value.int IntKind.i64 0))) (vx := (.int .i64 (-1))) (vy := (Value.int IntKind.i64 0)) (by kernel_rfl) (by kernel_rfl) (by kernel_rfl) ?_) ?_
  · (intro W hSw; clear hSw hHeld; go_simp)
  refine Rg.take (ops := (Rg.opsOf Tryz.f94 3)) 2 (some 22) ((.bool true)) hNS (by kernel_rfl) (by kernel_rfl) (by kernel_rfl) (by kernel_rfl) (by kernel_rfl) hHeld (Rg.y_move (x := (Operand.tmp 21)) (Or.inl (by kernel_rfl)) (by kernel_rfl)) ?_
  refine Rg.skip (ops := (Rg.opsOf Tryz.f94 3)) 3 (some 23) hNS (by kernel_rfl) (by kernel_rfl) (by kernel_rfl) (by kernel_rfl) (by kernel_rfl) hHeld ?_
  refine Rg.skip (ops := (Rg.opsOf Tryz.f94 3)) 4 (some 24) hNS (by kernel_rfl) (by kernel_rfl) (by kernel_rfl) (by kernel_rfl) (by kernel_rfl) hHeld ?_
  refine Rg.skip (ops := (Rg.opsOf Tryz.f94 3)) 5 (some 25) hNS (by kernel_rfl) (by kernel_rfl) (by kernel_rfl) (by kernel_rfl) (by kernel_rfl) hHeld ?_
  refine Rg.skip (ops := (Rg.opsOf Tryz.f94 3)) 6 (some 26) hNS (by kernel_rfl) (by kernel_rfl) (by kernel_rfl) (by kernel_rfl) (by kernel_rfl) hHeld ?_
  refine Rg.skip (ops := (Rg.opsOf Tryz.f94 3)) 7 (some 27) hNS (by kernel_rfl) (by kernel_rfl) (by kernel_rfl) (by kernel_rfl) (by kernel_rfl) hHeld ?_
  refine Rg.skip (ops := (Rg.opsOf Tryz.f94 3)) 8 (some 28) hNS (by kernel_rfl) (by kernel_rfl) (by kernel_rfl) (by kernel_rfl) (by kernel_rfl) hHeld ?_
  refine Rg.skip (ops := (Rg.opsOf Tryz.f94 3)) 9 (some 29) hNS (by kernel_rfl) (by kernel_rfl) (by kernel_rfl) (by kernel_rfl) (by kernel_rfl) hHeld ?_
  refine Rg.take (ops := (Rg.opsOf Tryz.f94 3)) 10 (some 30) ((Value.bool true)) hNS (by kernel_rfl) (by kernel_rfl) (by kernel_rfl) (by kernel_rfl) (by kernel_rfl) hHeld (Rg.y_pick (c := (Operand.tmp 22)) (x := (Operand.const (Value.bool true))) (y := (Operand.tmp 29)) (b := true) (by kernel_rfl) (by kernel_rfl) (by kernel_rfl)) ?_
  refine Rg.done (ops := (Rg.opsOf Tryz.f94 3)) (by kernel_rfl) ?_
  exact ⟨by kernel_rfl, hHeld⟩
set_option maxRecDepth 100000 in
set_option maxHeartbeats 4000000 in
theorem joinRegF (ops : Array Oper) (hops : ops = (Rg.opsOf Tryz.f94 3)) (id : Nat) (g n c p k : Nat) (l : Tr × Tr) (t : Tr) {u1 u2 u4 u5 u7 u8 u9 u10 u11 u12 u13 u14 u15 u16 u17 u18 u19 u20 u21 u22 u23 u24 u25 u26 u27 u28 u29 u30 u31 u32 u33 u34 u35 u36 u37 u38 u39 u40 u41 u42 : Value} (w : World) (hk : (k : Int) < (n : Int)) (X : World → Prop) (hX : ∀ W, X W → Six g k l W ∧ Thr p t W) (hw : X w.drew) :
    (Code.region id ops true).wp Tryz.prog (Rg.Only fun a' w' => a' = ⟨#[(.slice (some ⟨g, 0, none⟩) n c), u1, u2, (.pointer (some ⟨p, 0, none⟩)), u4, u5, (.int .i64 (k : Int)), u7, u8, u9, u10, u11, u12, u13, u14, u15, u16, u17, u18, u19, (.int .i64 (k : Int)), (.bool false), (.bool false), (.slice (some ⟨g, 0, none⟩) n c), (.int .i64 (k : Int)), (.pointer (some ⟨g, k * 6, none⟩)), (.pointer (some ⟨g, k * 6 + 3, none⟩)), (.agg #[.int .i64 (l.2.1 : Int), .int .i64 (l.2.2.1 : Int), .int .i64 (l.2.2.2 : Int)]), (.agg #[.int .i64 (t.1 : Int), .int .i64 (t.2.1 : Int), .int .i64 (t.2.2 : Int)]), (.bool (!decide (l.2 = t))), (.bool (!decide (l.2 = t))), u31, u32, u33, u34, u35, u36, u37, u38, u39, u40, u41, u42], []⟩ ∧ X w') ⟨#[(.slice (some ⟨g, 0, none⟩) n c), u1, u2, (.pointer (some ⟨p, 0, none⟩)), u4, u5, (.int .i64 (k : Int)), u7, u8, u9, u10, u11, u12, u13, u14, u15, u16, u17, u18, u19, u20, u21, u22, u23, u24, u25, u26, u27, u28, u29, u30, u31, u32, u33, u34, u35, u36, u37, u38, u39, u40, u41, u42], []⟩ w := by
  subst hops
  have hNS : Region.noSelect (Rg.opsOf Tryz.f94 3) = true := by kernel_rfl
  refine wp_region_held_drew (S := X) (by kernel_rfl) hw (fun hHeld => ?_)
  rw [show (Rg.opsOf Tryz.f94 3).size = 11 by kernel_rfl]
  refine Rg.take (ops := (Rg.opsOf Tryz.f94 3)) 0 (some 20) ((.int .i64 (k : Int))) hNS (by kernel_rfl) (by kernel_rfl) (by kernel_rfl) (by kernel_rfl) (by kernel_rfl) hHeld (Rg.y_move (x := (Operand.tmp 6)) (Or.inl (by kernel_rfl)) (by kernel_rfl)) ?_
  refine Rg.take (ops := (Rg.opsOf Tryz.f94 3)) 1 (some 21) ((.bool false)) hNS (by kernel_rfl) (by kernel_rfl) (by kernel_rfl) (by kernel_rfl) (by kernel_rfl) hHeld (Rg.y_bin (b := BinOp.lss) (T := 3) (R' := 3) (x := (Operand.tmp 20)) (y := (Operand.const (Value.int IntKind.i64 0))) (vx := (.int .i64 (k : Int))) (vy := (Value.int IntKind.i64 0)) (by kernel_rfl) (by kernel_rfl) (by kernel_rfl) ?_) ?_
  · (intro W hSw; clear hSw hHeld; go_simp <;> first | omega | (intro h0; omega))
  refine Rg.take (ops := (Rg.opsOf Tryz.f94 3)) 2 (some 22) ((.bool false)) hNS (by kernel_rfl) (by kernel_rfl) (by kernel_rfl) (by kernel_rfl) (by kernel_rfl) hHeld (Rg.y_move (x := (Operand.tmp 21)) (Or.inl (by kernel_rfl)) (by kernel_rfl)) ?_
  refine Rg.take (ops := (Rg.opsOf Tryz.f94 3)) 3 (some 23) ((.slice (some ⟨g, 0, none⟩) n c)) hNS (by kernel_rfl) (by kernel_rfl) (by kernel_rfl) (by kernel_rfl) (by kernel_rfl) hHeld (Rg.y_move (x := (Operand.tmp 0)) (Or.inl (by kernel_rfl)) (by kernel_rfl)) ?_
  refine Rg.take (ops := (Rg.opsOf Tryz.f94 3)) 4 (some 24) ((.int .i64 (k : Int))) hNS (by kernel_rfl) (by kernel_rfl) (by kernel_rfl) (by kernel_rfl) (by kernel_rfl) hHeld (Rg.y_move (x := (Operand.tmp 6)) (Or.inl (by kernel_rfl)) (by kernel_rfl)) ?_
  refine Rg.take (ops := (Rg.opsOf Tryz.f94 3)) 5 (some 25) ((.pointer (some ⟨g, k * 6, none⟩))) hNS (by kernel_rfl) (by kernel_rfl) (by kernel_rfl) (by kernel_rfl) (by kernel_rfl) hHeld (Rg.y_at (T := 100) (x := (Operand.tmp 23)) (y := (Operand.tmp 24)) (vx := (.slice (some ⟨g, 0, none⟩) n c)) (vy := (.int .i64 (k : Int))) (by kernel_rfl) (by kernel_rfl) (by kernel_rfl) ?_) ?_
  · (intro W hSw; clear hSw hHeld; go_simp)
  refine Rg.take (ops := (Rg.opsOf Tryz.f94 3)) 6 (some 26) ((.pointer (some ⟨g, k * 6 + 3, none⟩))) hNS (by kernel_rfl) (by kernel_rfl) (by kernel_rfl) (by kernel_rfl) (by kernel_rfl) hHeld (Rg.y_field (T := 106) (k := 1) (x := (Operand.tmp 25)) (vx := (.pointer (some ⟨g, k * 6, none⟩))) (by kernel_rfl) (by kernel_rfl) ?_) ?_
  · (intro W hSw; clear hSw hHeld; go_simp)
  refine Rg.take (ops := (Rg.opsOf Tryz.f94 3)) 7 (some 27) ((.agg #[.int .i64 (l.2.1 : Int), .int .i64 (l.2.2.1 : Int), .int .i64 (l.2.2.2 : Int)])) hNS (by kernel_rfl) (by kernel_rfl) (by kernel_rfl) (by kernel_rfl) (by kernel_rfl) hHeld (Rg.y_load (T := 104) (x := (Operand.tmp 26)) (vx := (.pointer (some ⟨g, k * 6 + 3, none⟩))) (by kernel_rfl) (by kernel_rfl) ?_) ?_
  · (intro W hSw; obtain ⟨⟨s0, s1, s2, s3, s4, s5⟩, z0, z1, z2⟩ := hX _ hSw; unfold iv at s0 s1 s2 s3 s4 s5; clear hSw hHeld; go_simp)
  refine Rg.take (ops := (Rg.opsOf Tryz.f94 3)) 8 (some 28) ((.agg #[.int .i64 (t.1 : Int), .int .i64 (t.2.1 : Int), .int .i64 (t.2.2 : Int)])) hNS (by kernel_rfl) (by kernel_rfl) (by kernel_rfl) (by kernel_rfl) (by kernel_rfl) hHeld (Rg.y_load (T := 104) (x := (Operand.tmp 3)) (vx := (.pointer (some ⟨p, 0, none⟩))) (by kernel_rfl) (by kernel_rfl) ?_) ?_
  · (intro W hSw; obtain ⟨⟨s0, s1, s2, s3, s4, s5⟩, z0, z1, z2⟩ := hX _ hSw; unfold iv at s0 s1 s2 s3 s4 s5; clear hSw hHeld; go_simp)
  refine Rg.take (ops := (Rg.opsOf Tryz.f94 3)) 9 (some 29) ((.bool (!decide (l.2 = t)))) hNS (by kernel_rfl) (by kernel_rfl) (by kernel_rfl) (by kernel_rfl) (by kernel_rfl) hHeld (Rg.y_bin (b := BinOp.neq) (T := 104) (R' := 104) (x := (Operand.tmp 27)) (y := (Operand.tmp 28)) (vx := (.agg #[.int .i64 (l.2.1 : Int), .int .i64 (l.2.2.1 : Int), .int .i64 (l.2.2.2 : Int)])) (vy := (.agg #[.int .i64 (t.1 : Int), .int .i64 (t.2.1 : Int), .int .i64 (t.2.2 : Int)])) (by kernel_rfl) (by kernel_rfl) (by kernel_rfl) ?_) ?_
  · (intro W hSw; clear hSw hHeld; exact run_neq_three l.2 t W)
  refine Rg.take (ops := (Rg.opsOf Tryz.f94 3)) 10 (some 30) ((.bool (!decide (l.2 = t)))) hNS (by kernel_rfl) (by kernel_rfl) (by kernel_rfl) (by kernel_rfl) (by kernel_rfl) hHeld (Rg.y_pick (c := (Operand.tmp 22)) (x := (Operand.const (Value.bool true))) (y := (Operand.tmp 29)) (b := false) (by kernel_rfl) (by kernel_rfl) (by kernel_rfl)) ?_
  refine Rg.done (ops := (Rg.opsOf Tryz.f94 3)) (by kernel_rfl) ?_
  exact ⟨by kernel_rfl, hHeld⟩
end Go.Proofs.YtkenmldiojeooaaGreat.Mg

namespace Go.Proofs.YtkenmldiojeooaaGreat.Mg
open Go.RowKit Go.ChangeShapes Go.WideShapes Tx Um Ud Aq Km Kd Lm Ln
set_option linter.unusedVariables false
theorem pie_len {α : Type} [DecidableEq α] (o a b : List α) : (pie o a b).length ≤ o.length + a.length + b.length := by
  have hp := pie_pcs o a b
  have key : ∀ r : List (Ck α), (∀ c, c ∈ r → 0 < c.b.length + c.l.length + c.r.length) → r.length ≤ ((r.map (·.b)).flatten).length + ((r.map (·.l)).flatten).length + ((r.map (·.r)).flatten).length := by
    intro r
    induction r with
    | nil => intro _; exact Nat.le_refl _
    | cons c r ih =>
      intro h
      have h1 := h c (by simp)
      have h2 := ih (fun d hd => h d (by simp [hd]))
      simp only [List.map_cons, List.flatten_cons, List.length_append, List.length_cons]
      omega
  have h := key (pie o a b).reverse (fun c hc => (hp.full c (List.mem_reverse.1 hc)).1)
  rw [List.length_reverse, pie_base, pie_left, pie_right] at h
  exact h
theorem clt_size (l : List ByteArray) : (cat (clt l)).size ≤ (cat l).size + 1 := by
  rcases List.eq_nil_or_concat l with rfl | ⟨k, y, rfl⟩
  · rw [clt_nil]; exact Nat.le_succ _
  · rw [List.concat_eq_append, clt_snoc, cat_app, cat_app, ByteArray.size_append, ByteArray.size_append]
    have e1 : (cat [clot y]).size = (clot y).size := by rw [cat_size]; simp
    have e2 : (cat [y]).size = y.size := by rw [cat_size]; simp
    rw [e1, e2]
    unfold clot
    split
    · omega
    · rw [ByteArray.size_append]
      show _ ≤ _
      have : (⟨#[10]⟩ : ByteArray).size = 1 := rfl
      omega
theorem tx_size (c : Ck ByteArray) : (tx c).size ≤ (cat c.l).size + (cat c.r).size + 26 := by
  unfold tx
  cases hp : pick c with
  | some l =>
    show (cat l).size ≤ _
    have hl2 : l = c.l ∨ l = c.r := by
      unfold pick at hp
      split at hp
      · injection hp with hp; exact .inl hp.symm
      · split at hp
        · injection hp with hp; exact .inr hp.symm
        · cases hp
    rcases hl2 with rfl | rfl <;> omega
  | none =>
    show (AH ++ cat (clt c.l) ++ MI ++ cat (clt c.r) ++ BH).size ≤ _
    rw [ByteArray.size_append, ByteArray.size_append, ByteArray.size_append, ByteArray.size_append]
    have h1 := clt_size c.l
    have h2 := clt_size c.r
    have e1 : AH.size = 8 := rfl
    have e2 : MI.size = 8 := rfl
    have e3 : BH.size = 8 := rfl
    omega
theorem cat_flat (L : List (List ByteArray)) : (cat L.flatten).size = (L.map fun l => (cat l).size).sum := by
  induction L with
  | nil => rfl
  | cons l L ih => rw [List.flatten_cons, cat_app, ByteArray.size_append, ih, List.map_cons, List.sum_cons]
theorem txs_size (s t u : ByteArray) : (txs (pcs3 s t u)).size ≤ t.size + u.size + 26 * (pcs3 s t u).length ∧ cfs (pcs3 s t u) ≤ (pcs3 s t u).length ∧ (pcs3 s t u).length ≤ (lns s).length + (lns t).length + (lns u).length := by
  have key : ∀ (L : List (Ck ByteArray)) (z : ByteArray), (L.foldl (fun s c => s ++ tx c) z).size ≤ z.size + (L.map fun c => (cat c.l).size).sum + (L.map fun c => (cat c.r).size).sum + 26 * L.length := by
    intro L
    induction L with
    | nil => intro z; show z.size ≤ z.size + 0 + 0 + 26 * 0; omega
    | cons c L ih =>
      intro z
      rw [List.foldl_cons]
      have h1 := ih (z ++ tx c)
      have h2 := tx_size c
      rw [ByteArray.size_append] at h1
      simp only [List.map_cons, List.sum_cons, List.length_cons]
      omega
  have h1 := key (pcs3 s t u) ⟨#[]⟩
  have e1 : ((pcs3 s t u).map fun c => (cat c.l).size).sum = t.size := by
    have := cat_flat ((pcs3 s t u).map (·.l))
    rw [show ((pcs3 s t u).map (·.l)).flatten = lns t from pie_left _ _ _, lns_cat, List.map_map] at this
    exact this.symm
  have e2 : ((pcs3 s t u).map fun c => (cat c.r).size).sum = u.size := by
    have := cat_flat ((pcs3 s t u).map (·.r))
    rw [show ((pcs3 s t u).map (·.r)).flatten = lns u from pie_right _ _ _, lns_cat, List.map_map] at this
    exact this.symm
  rw [e1, e2] at h1
  refine ⟨?_, ?_, ?_⟩
  · unfold txs
    have e0 : (⟨#[]⟩ : ByteArray).size = 0 := rfl
    omega
  · unfold cfs
    generalize pcs3 s t u = L
    induction L with
    | nil => exact Nat.le_refl _
    | cons c L ih =>
      have hc : cf c ≤ 1 := by unfold cf; cases pick c <;> simp
      rw [List.map_cons, List.sum_cons, List.length_cons]
      omega
  · unfold pcs3
    rw [List.length_reverse]
    exact pie_len _ _ _
theorem err_lines {s t u : ByteArray} (h : err3 s t u = 0) : txt s = 0 ∧ txt t = 0 ∧ txt u = 0 ∧ (lns s).length ≤ 400 ∧ (lns t).length ≤ 400 ∧ (lns u).length ≤ 400 := by
  unfold err3 at h
  have hs : txt s = 0 := by by_cases e : txt s = 0; exact e; rw [if_pos e] at h; exact h
  rw [if_neg (by omega)] at h
  have ht : txt t = 0 := by by_cases e : txt t = 0; exact e; rw [if_pos e] at h; exact h
  rw [if_neg (by omega)] at h
  have key : ∀ s, txt s = 0 → (lns s).length ≤ 400 := fun s h => by
    unfold txt at h
    split at h
    · cases h
    · split at h
      · cases h
      · omega
  exact ⟨hs, ht, h, key s hs, key t ht, key u h⟩
end Go.Proofs.YtkenmldiojeooaaGreat.Mg

namespace Go.Proofs.YtkenmldiojeooaaGreat.Mg
open Go.RowKit Go.ChangeShapes Go.WideShapes Tx Um Ud Aq Km Kd Lm Ln
set_option linter.unusedVariables false
theorem lo_rd {w : World} {B : Nat} {v : Value} {l : List ByteArray} (h : Lo w B v l) : Rd w v l := by
  have hh := h
  rcases h.2 with ⟨rfl, h0⟩ | ⟨g, cap, cur, rfl, hg, hb, hn, hc, _⟩
  · exact ⟨none, 0, by rw [h0], ⟨rfl, .inl h0⟩, fun _ => rfl⟩
  · refine ⟨some ⟨g, 0, none⟩, cap, rfl, ⟨rfl, .inr ⟨g, 0, rfl, (Array.getElem?_eq_some_iff.1 hb).1, fun k x hx => ?_⟩⟩, fun e => by cases e⟩
    have e1 := World.ownsRow.cells (g := g) hh rfl k (.string x) (by rw [List.getElem?_map, hx]; rfl)
    rw [WideShapes.add_plain] at e1
    exact e1
def Ty (w : World) (u : Value) : Prop := ∀ g, u.ownBlock = some g → ∃ cs fr, w.heap[g]? = some (.cells cs 9 fr)
def Kp (w w1 : World) : Prop := ∀ (g : Nat) (cs : Array Value) (fr : Nat × Nat), w.heap[g]? = some (Obj.cells cs 9 fr) → w1.heap[g]? = some (Obj.cells cs 9 fr)
theorem Kp.refl (w : World) : Kp w w := fun _ _ _ h => h
theorem Kp.trans {a b c : World} (h : Kp a b) (h2 : Kp b c) : Kp a c := fun g cs fr x => h2 g cs fr (h g cs fr x)
theorem Kp.of_below {w w1 : World} (h : Below w.heap.size w w1) : Kp w w1 := fun g cs fr x => (h.block g (Array.getElem?_eq_some_iff.1 x).1).trans x
theorem Ty.keep {w w1 : World} {u : Value} (h : Ty w u) (hk : Kp w w1) : Ty w1 u := fun g e => by
  obtain ⟨cs, fr, x⟩ := h g e
  exact ⟨cs, fr, hk g cs fr x⟩
theorem lo_ty {w : World} {B : Nat} {v : Value} {l : List ByteArray} (h : Lo w B v l) : Ty w v := by
  intro g e
  rcases h.2 with ⟨rfl, _⟩ | ⟨g1, cap, cur, rfl, _, hh, _⟩
  · cases e
  · obtain rfl : g1 = g := by simpa [Value.ownBlock] using e
    exact ⟨cur, (0, 0), hh⟩
theorem rd_keep {w w1 : World} {u : Value} {l : List ByteArray} (h : Rd w u l) (ht : Ty w u) (hk : Kp w w1) : Rd w1 u l := by
  obtain ⟨A, c, rfl, h1, h2⟩ := h
  refine ⟨A, c, rfl, ⟨rfl, ?_⟩, h2⟩
  rcases h1.2 with h0 | ⟨b, off, rfl, hlt, hc⟩
  · exact .inl h0
  · obtain ⟨cs, fr, x⟩ := ht b rfl
    have y := hk b cs fr x
    refine .inr ⟨b, off, rfl, (Array.getElem?_eq_some_iff.1 y).1, fun k z hz => ?_⟩
    exact (World.cell?_of_block (a := ⟨b, off + k, none⟩) (y.trans x.symm)).trans (hc k z hz)
theorem ty_sub {w : World} {A : Option Addr} {c n lo hi : Nat} (h : Ty w (.slice A n c)) : Ty w (sliced A lo hi c 1) := by
  intro g e
  unfold sliced at e
  cases A with
  | none => split at e <;> simp [Value.ownBlock] at e
  | some ad =>
    refine h g ?_
    split at e
    · exact e
    · by_cases hl : lo = 0
      · simpa [Value.ownBlock, Addr.add, hl] using e
      · simpa [Value.ownBlock, Addr.add, hl] using e
def IsS (w : World) : List Cc → List (Ck ByteArray) → Prop
  | [], [] => True
  | c :: cs, h :: hs => (c.1 = h.st ∧ (Rd w c.2.1 h.b ∧ Ty w c.2.1) ∧ (Rd w c.2.2.1 h.l ∧ Ty w c.2.2.1) ∧ (Rd w c.2.2.2 h.r ∧ Ty w c.2.2.2)) ∧ IsS w cs hs
  | _, _ => False
theorem IsS.isC {w : World} : ∀ {cs : List Cc} {hs : List (Ck ByteArray)}, IsS w cs hs → IsC w cs hs
  | [], [], _ => trivial
  | _ :: _, _ :: _, h => ⟨h.1.1, h.1.2.1.1, h.1.2.2.1.1, h.1.2.2.2.1, IsS.isC h.2⟩
theorem IsS.len {w : World} {cs : List Cc} {hs : List (Ck ByteArray)} (h : IsS w cs hs) : cs.length = hs.length := h.isC.len
theorem IsS.keep {w w1 : World} (hk : Kp w w1) : ∀ {cs : List Cc} {hs : List (Ck ByteArray)}, IsS w cs hs → IsS w1 cs hs
  | [], [], _ => trivial
  | _ :: _, _ :: _, ⟨⟨a, ⟨b1, b2⟩, ⟨c1, c2⟩, ⟨d1, d2⟩⟩, h⟩ => ⟨⟨a, ⟨rd_keep b1 b2 hk, b2.keep hk⟩, ⟨rd_keep c1 c2 hk, c2.keep hk⟩, ⟨rd_keep d1 d2 hk, d2.keep hk⟩⟩, IsS.keep hk h⟩
theorem IsS.snoc {w : World} {c : Cc} {x : Ck ByteArray} (h1 : c.1 = x.st ∧ (Rd w c.2.1 x.b ∧ Ty w c.2.1) ∧ (Rd w c.2.2.1 x.l ∧ Ty w c.2.2.1) ∧ (Rd w c.2.2.2 x.r ∧ Ty w c.2.2.2)) : ∀ {cs : List Cc} {hs : List (Ck ByteArray)}, IsS w cs hs → IsS w (cs ++ [c]) (hs ++ [x])
  | [], [], _ => ⟨h1, trivial⟩
  | _ :: _, _ :: _, h => ⟨h.1, IsS.snoc h1 h.2⟩
theorem IsS.unsnoc {w : World} {x : Ck ByteArray} : ∀ {cs : List Cc} {hs : List (Ck ByteArray)}, IsS w cs (hs ++ [x]) → ∃ cs' c, cs = cs' ++ [c] ∧ IsS w cs' hs ∧ c.1 = x.st ∧ (Rd w c.2.1 x.b ∧ Ty w c.2.1) ∧ (Rd w c.2.2.1 x.l ∧ Ty w c.2.2.1) ∧ (Rd w c.2.2.2 x.r ∧ Ty w c.2.2.2)
  | [], [], h => h.elim
  | [], _ :: _, h => h.elim
  | c :: [], [], h => ⟨[], c, rfl, trivial, h.1⟩
  | _ :: _ :: _, [], h => h.2.elim
  | c :: cs, y :: hs, h => by
    obtain ⟨cs', d, e, h1, h2⟩ := IsS.unsnoc (cs := cs) (hs := hs) h.2
    exact ⟨c :: cs', d, by rw [e]; rfl, ⟨h.1, h1⟩, h2⟩
theorem Cs.lt {w : World} {B : Nat} {v : Value} {cs : List Cc} (h : Cs w B v cs) : ∀ k, v.ownBlock = some k → B ≤ k ∧ k < w.heap.size := World.ownsRow.lt h
theorem Cs.kp {w w1 : World} {B : Nat} {v : Value} {cs : List Cc} (h : Cs w B v cs) (hg : w.grownBy w1 v.ownBlock) : Kp w w1 := by
  intro g cur fr x
  refine (hg.block g (Array.getElem?_eq_some_iff.1 x).1 fun e => ?_).trans x
  rcases h.2 with ⟨rfl, _⟩ | ⟨g1, cap, cur1, rfl, _, hh, _⟩
  · cases e
  · obtain rfl : g = g1 := by simpa [Value.ownBlock] using e
    rw [hh] at x
    injection x with x
    injection x with _ x _
    exact absurd x (by decide)
theorem kp_alloc (w : World) (o : Obj) : Kp w (w.alloc o) := Kp.of_below ((Below.refl _ w).alloc (Nat.le_refl _) o)
structure Ct (o a b : List ByteArray) (T : List (Nat × Nat × Nat)) (n i j k : Nat) (r : List (Ck ByteArray)) : Prop where
  le : n ≤ T.length
  same : cks o a b T 0 0 0 [] = cks o a b (T.drop n) i j k r
  rise : Pt3 o a b (T.drop n) i j k
  pcs : Pcs o a b i j k r
  kept : Kept1 r
  few : r.length ≤ 2 * n
theorem ct_start {o a b : List ByteArray} {T : List (Nat × Nat × Nat)} (h : Pt3 o a b T 0 0 0) : Ct o a b T 0 0 0 0 [] := ⟨Nat.zero_le _, rfl, h, pcs_start o a b, (fun c h => by cases h), Nat.le_refl _⟩
theorem gapc_yes {o a b : List ByteArray} {i j k p q s : Nat} {r : List (Ck ByteArray)} (h : i < p ∨ j < q ∨ k < s) : gapc o a b i j k p q s r = ⟨false, (o.take p).drop i, (a.take q).drop j, (b.take s).drop k⟩ :: r := by
  unfold gapc
  rw [if_pos h]
theorem gapc_no {o a b : List ByteArray} {i j k p q s : Nat} {r : List (Ck ByteArray)} (h : ¬ (i < p ∨ j < q ∨ k < s)) : gapc o a b i j k p q s r = r := by
  unfold gapc
  rw [if_neg h]
theorem gapc_len (o a b : List ByteArray) (i j k p q s : Nat) (r : List (Ck ByteArray)) : (gapc o a b i j k p q s r).length ≤ r.length + 1 := by
  unfold gapc
  split
  · exact Nat.le_refl _
  · exact Nat.le_succ _
theorem stab_len (x : ByteArray) (r : List (Ck ByteArray)) : (stab x r).length ≤ r.length + 1 := by
  cases r with
  | nil => exact Nat.le_refl _
  | cons c r =>
    rw [stab]
    split
    · simp
    · exact Nat.le_refl _
theorem ct_at {o a b : List ByteArray} {T : List (Nat × Nat × Nat)} {n i j k : Nat} {r : List (Ck ByteArray)} (h : Ct o a b T n i j k r) {t : Nat × Nat × Nat} (ht : T[n]? = some t) :
    i ≤ t.1 ∧ j ≤ t.2.1 ∧ k ≤ t.2.2 ∧ t.2.1 < a.length ∧ t.2.2 < b.length ∧ ∃ x, o[t.1]? = some x ∧ t.1 < o.length ∧ Ct o a b T (n + 1) (t.1 + 1) (t.2.1 + 1) (t.2.2 + 1) (stab x (gapc o a b i j k t.1 t.2.1 t.2.2 r)) := by
  have hn : n < T.length := (List.getElem?_eq_some_iff.1 ht).1
  have e : T.drop n = t :: T.drop (n + 1) := by
    rw [List.drop_eq_getElem_cons hn, (List.getElem?_eq_some_iff.1 ht).2]
  have h1 := h.same
  have h2 := h.rise
  rw [e] at h1 h2
  obtain ⟨k1, k2, k3, ⟨g1, g2, g3, e1, e2⟩, k4⟩ := h2
  rw [cks_cons g1] at h1
  refine ⟨k1, k2, k3, g2, g3, o[t.1], List.getElem?_eq_getElem g1, g1, ⟨hn, h1, k4, pcs_stab (pcs_gap h.pcs h.kept k1 k2 k3 (by omega) (by omega) (by omega)) g1 g2 g3 e1 e2, kept_stab _ _, ?_⟩⟩
  have q1 := gapc_len o a b i j k t.1 t.2.1 t.2.2 r
  have q2 := stab_len o[t.1] (gapc o a b i j k t.1 t.2.1 t.2.2 r)
  have := h.few
  omega
theorem ct_end {o a b : List ByteArray} {T : List (Nat × Nat × Nat)} {i j k : Nat} {r : List (Ck ByteArray)} (h : Ct o a b T T.length i j k r) :
    i ≤ o.length ∧ j ≤ a.length ∧ k ≤ b.length ∧ cks o a b T 0 0 0 [] = gapc o a b i j k o.length a.length b.length r := by
  have h1 := h.same
  have h2 := h.rise
  rw [List.drop_length] at h1 h2
  exact ⟨h2.1, h2.2.1, h2.2.2, h1⟩
theorem pcs_line {o a b : List ByteArray} {i j k : Nat} {c : Ck ByteArray} {r : List (Ck ByteArray)} (h : Pcs o a b i j k (c :: r)) (hs : c.st = true) : c.b ≠ [] ∧ c.b.length ≤ o.length := by
  obtain ⟨h1, h2⟩ := h.full c (by simp)
  obtain ⟨e1, e2⟩ := h2 hs
  constructor
  · intro e
    rw [← e1, ← e2, e] at h1
    simp at h1
  · have := congrArg List.length h.base
    rw [List.reverse_cons, List.map_append, List.flatten_append, List.length_append] at this
    simp only [List.map_cons, List.map_nil, List.flatten_cons, List.flatten_nil, List.append_nil, List.length_take] at this
    omega
set_option maxRecDepth 100000 in
theorem app_lo (W : World) (B : Nat) (v : Value) (l m : List ByteArray) (h : Lo W B v l) (g off c : Nat) (hm : ∀ (k : Nat) x, m[k]? = some x → W.cell? ⟨g, off + k, none⟩ = some (.string x)) (hl : l.length + m.length ≤ 1000000) (hB : B ≤ W.heap.size) :
    ∀ ty, ∃ v' W', (Builtin.append_ #[59, 59] ty #[v, .slice (some ⟨g, off, none⟩) m.length c]).run Tryz.prog W = .ok v' W' ∧ Lo W' B v' (l ++ m) ∧ W.grownBy W' v.ownBlock := by
  obtain ⟨i0, hi, hz0, hz1, hz2⟩ := info_parts info9
  intro ty
  obtain ⟨v', W', h1, h2, h3, _⟩ := run_append_own (P := Tryz.prog) W B 59 ty 9 i0 (.string ⟨#[]⟩) 1 16 Tryz.underlying59 hi hz0 hz1 hz2 rfl (by decide) v l.length (l.map sv) h ⟨g, off, none⟩ m.length c (m.map sv) (by rw [List.length_map, Nat.mul_one])
    (fun j u hj => by
      rw [List.getElem?_map] at hj
      cases hx : m[j]? with
      | none => rw [hx] at hj; cases hj
      | some x =>
        rw [hx] at hj
        injection hj with hj
        subst hj
        rw [WideShapes.add_plain]
        exact hm j x hx)
    (fun u hu => by obtain ⟨x, _, rfl⟩ := List.mem_map.1 hu; rfl) (by unfold maxLen; omega) (by omega) hB
  refine ⟨v', W', h1, ?_, h3⟩
  unfold Lo
  rw [List.length_append, List.map_append]
  exact h2
theorem own_new (w : World) (B : Nat) (hb : B ≤ w.heap.size) : Lo (w.alloc (.cells #[] 9)) B (.slice (some ⟨w.heap.size, 0, none⟩) 0 0) [] := World.ownsRow_lit w #[] 0 hb (Nat.zero_le _) rfl
theorem one_new (w : World) (B : Nat) (x : ByteArray) (hb : B ≤ w.heap.size) : Lo (w.alloc (.cells #[.string x] 9)) B (.slice (some ⟨w.heap.size, 0, none⟩) 1 1) [x] := World.ownsRow_lit w #[.string x] 1 hb (by unfold maxLen; omega) rfl
set_option maxRecDepth 100000 in
theorem app_cs (w : World) (B : Nat) (v : Value) (cs : List Cc) (h : Cs w B v cs) (c : Cc) (o1 : c.2.1.oneCell' = true) (o2 : c.2.2.1.oneCell' = true) (o3 : c.2.2.2.oneCell' = true) (hl : cs.length ≤ 1000000) (hB : B ≤ w.heap.size) :
    ∀ ty, ∃ v' W', (Builtin.append_ #[68, 68] ty #[v, .slice (some ⟨w.heap.size, 0, none⟩) 1 1]).run Tryz.prog (w.alloc (.cells #[.bool c.1, c.2.1, c.2.2.1, c.2.2.2] 76)) = .ok v' W' ∧ Cs W' B v' (cs ++ [c]) ∧ (w.alloc (.cells #[.bool c.1, c.2.1, c.2.2.1, c.2.2.2] 76)).grownBy W' v.ownBlock := by
  obtain ⟨i0, hi, hz0, hz1, hz2⟩ := info_parts infoC
  intro ty
  have hb2 : B ≤ (w.alloc (.cells #[.bool c.1, c.2.1, c.2.2.1, c.2.2.2] 76)).heap.size := by go_simp; omega
  obtain ⟨v', W', h1, h2, h3, _⟩ := run_append_own (P := Tryz.prog) (w.alloc (.cells #[.bool c.1, c.2.1, c.2.2.1, c.2.2.2] 76)) B 68 ty 76 i0 (.agg #[.bool false, .slice none 0 0, .slice none 0 0, .slice none 0 0]) 4 80 Tryz.underlying68 hi hz0 hz1 hz2 rfl (by decide) v cs.length (cs.flatMap h4) (h.alloc _) ⟨w.heap.size, 0, none⟩ 1 1 (h4 c) rfl (cell_four_new _ _ _ _ _ _)
    (fun u hu => by
      simp only [h4, List.mem_cons, List.not_mem_nil, or_false] at hu
      rcases hu with rfl | rfl | rfl | rfl
      · rfl
      · exact o1
      · exact o2
      · exact o3) (by unfold maxLen; omega) (by omega) hb2
  refine ⟨v', W', h1, ?_, h3⟩
  unfold Cs
  rw [List.length_append, List.flatMap_append]
  simpa using h2
theorem slice_run14 (A : Option Addr) (n c lo hi : Nat) (h1 : lo ≤ hi) (h2 : hi ≤ c) (W : World) : (Instr.slice 59 (.slice A n c) (some (.int .i64 (lo : Int))) (some (.int .i64 (hi : Int))) none).run Tryz.prog W = .ok (sliced A lo hi c 1) W := by
  rw [run_slice_lh W 59 A n c (by kernel_rfl) .i64 .i64 (lo : Int) (hi : Int) (by omega) (by omega) (by omega), Int.toNat_natCast, Int.toNat_natCast]
  have e : (sizeOf (Tryz.prog.elem 59)).run Tryz.prog W = .ok 1 W := by kernel_rfl
  rw [e]
  rfl
theorem lo_all {w : World} {B : Nat} {v : Value} {l : List ByteArray} (h : Lo w B v l) : ∃ A c, v = .slice A l.length c ∧ Strs w A l.length l ∧ (A = none → c = 0) ∧ l.length ≤ c ∧ Ty w v := by
  have ht := lo_ty h
  have hr := lo_rd h
  rcases h.2 with ⟨rfl, h0⟩ | ⟨g, cap, cur, rfl, hg, hb, hn, hc, _⟩
  · exact ⟨none, 0, by rw [h0], ⟨rfl, .inl h0⟩, fun _ => rfl, by omega, ht⟩
  · obtain ⟨A, c, e, h1, h2⟩ := hr
    injection e with e1 _ e3
    subst e1
    subst e3
    exact ⟨_, _, rfl, h1, h2, hn, ht⟩
def Reads (w : World) (c : Cc) (x : Ck ByteArray) : Prop := c.1 = x.st ∧ (Rd w c.2.1 x.b ∧ Ty w c.2.1) ∧ (Rd w c.2.2.1 x.l ∧ Ty w c.2.2.1) ∧ (Rd w c.2.2.2 x.r ∧ Ty w c.2.2.2)
theorem Reads.keep {w w1 : World} {c : Cc} {x : Ck ByteArray} (h : Reads w c x) (hk : Kp w w1) : Reads w1 c x := ⟨h.1, ⟨rd_keep h.2.1.1 h.2.1.2 hk, h.2.1.2.keep hk⟩, ⟨rd_keep h.2.2.1.1 h.2.2.1.2 hk, h.2.2.1.2.keep hk⟩, ⟨rd_keep h.2.2.2.1 h.2.2.2.2 hk, h.2.2.2.2.keep hk⟩⟩
def Row (w7 : World) (w : World) (v : Value) (r : List (Ck ByteArray)) : Prop := ∃ cs, Cs w w7.heap.size v cs ∧ IsS w cs r.reverse ∧ Below w7.heap.size w7 w
theorem Row.nil (w7 : World) : Row w7 w7 (.slice none 0 0) [] := ⟨[], cs_nil _ _, trivial, Below.refl _ _⟩
theorem Row.drew {w7 w : World} {v : Value} {r : List (Ck ByteArray)} (h : Row w7 w v r) : Row w7 w.drew v r := by
  obtain ⟨cs, h1, h2, h3⟩ := h
  exact ⟨cs, h1, h2.keep (show Kp w w.drew from fun _ _ _ x => x), h3.drew⟩
theorem Row.call {w7 w w1 : World} {v : Value} {r : List (Ck ByteArray)} (h : Row w7 w v r) (hb : Below w.heap.size w w1) : Row w7 w1 v r := by
  obtain ⟨cs, h1, h2, h3⟩ := h
  exact ⟨cs, h1.below hb, h2.keep (Kp.of_below hb), h3.trans (hb.mono h3.size)⟩
theorem Row.len {w7 w : World} {v : Value} {r : List (Ck ByteArray)} (h : Row w7 w v r) : ∃ a c, v = .slice a r.length c := by
  obtain ⟨cs, h1, h2, h3⟩ := h
  obtain ⟨a, c, e, _⟩ := h1.form h2.isC
  rw [List.length_reverse] at e
  exact ⟨a, c, e⟩
theorem Row.grown {w7 W w8 : World} {v v8 : Value} {cs : List Cc} {r : List (Ck ByteArray)} {c : Cc} {g : Ck ByteArray} (h1 : Cs W w7.heap.size v cs) (h2 : IsS W cs r.reverse) (h3 : Below w7.heap.size w7 W) (hc : Reads W c g) (h8 : Cs w8 w7.heap.size v8 (cs ++ [c])) (hg : W.grownBy w8 v.ownBlock) : Row w7 w8 v8 (g :: r) := by
  have hk := h1.kp hg
  refine ⟨cs ++ [c], h8, ?_, h3.grown hg h3.size (fun q e => (h1.lt q e).1)⟩
  rw [List.reverse_cons]
  exact IsS.snoc (hc.keep hk) (h2.keep hk)
theorem Row.put {w7 wr : World} {v : Value} {r : List (Ck ByteArray)} (h : Row w7 wr v r) (hl : r.length ≤ 1000000) {g : Ck ByteArray} (c : Cc) (hc : Reads wr c g) :
    ∀ ty, ∃ v8 w8, (Builtin.append_ #[68, 68] ty #[v, .slice (some ⟨wr.heap.size, 0, none⟩) 1 1]).run Tryz.prog (wr.drew.alloc (.cells #[.bool c.1, c.2.1, c.2.2.1, c.2.2.2] 76)) = .ok v8 w8 ∧ Below w7.heap.size w7 w8 ∧ Row w7 w8 v8 (g :: r) := by
  obtain ⟨cs, h1, h2, h3⟩ := h
  have hn := h2.len
  rw [List.length_reverse] at hn
  intro ty
  obtain ⟨v8, w8, e, k1, k2⟩ := app_cs wr.drew w7.heap.size v cs h1 c hc.2.1.1.one hc.2.2.1.1.one hc.2.2.2.1.one (by omega) h3.size ty
  have hkp : Kp wr (wr.drew.alloc (.cells #[.bool c.1, c.2.1, c.2.2.1, c.2.2.2] 76)) := Kp.trans (b := wr.drew) (fun _ _ _ x => x) (kp_alloc _ _)
  have hrow : Row w7 w8 v8 (g :: r) := Row.grown (W := wr.drew.alloc (.cells #[.bool c.1, c.2.1, c.2.2.1, c.2.2.2] 76)) (World.ownsRow.alloc (w := wr.drew) h1 _) (h2.keep hkp) (h3.drew.alloc h3.size _) (hc.keep hkp) k1 k2
  exact ⟨v8, w8, e, hrow.elim fun _ q => q.2.2, hrow⟩
end Go.Proofs.YtkenmldiojeooaaGreat.Mg

namespace Go.Proofs.YtkenmldiojeooaaGreat.Rg
open Go.RowKit
set_option linter.unusedVariables false
section
variable {P : Program} {S : World → Prop} {ops : Array Oper} {R : Act → World → Prop}
theorem op_app (i : Nat) (d : Option Tmp) {T : TypeId} {x y : Operand} {vx vy : Value} {fuel : Nat} {listed : Array Bool} {a : Act} {w : World}
    (hi : decide (i < ops.size) = true) (hd : (opOf ops i).dst = d)
    (hw : Region.wanted (opOf ops i) (yielded ops a.tmps) = true) (ho : (opOf ops i).op = .call { callee := .builtin .append, args := #[x, y], argTypes := #[T, T] }) (hx : a.eval x = vx) (hy : a.eval y = vy)
    (h : ∀ ty, ∃ v w1, (Builtin.append_ #[T, T] ty #[vx, vy]).run P w = .ok v w1 ∧ S w1 ∧ (S w1 → wpAnyH P .any ops (Only R) S fuel (listed.setIfInBounds i true) (a.put d v) w1)) :
    wpOp P ops (Only R) i (fun a' w' => S w' ∧ wpAnyH P .any ops (Only R) S fuel (listed.setIfInBounds i true) a' w') a w := by
  subst hd
  unfold wpOp
  rw [opOf_some hi]
  simp only [hw, if_true]
  refine .inl ?_
  obtain ⟨v, w1, hrun, hS, hk⟩ := h (opOf ops i).type
  generalize opOf ops i = o at ho hrun hk ⊢
  obtain ⟨dst, op, ty, pos, after, guard⟩ := o
  simp only at ho hrun hk ⊢
  subst ho
  unfold Oper.wp
  simp only [execOp, resolve, invoke, builtin, Sem.run_bind, Sem.run_pure, Result.andThen_ok, List.map_toArray, List.map_cons, List.map_nil, hx, hy, hrun]
  exact ⟨hS, hk hS⟩
end
end Go.Proofs.YtkenmldiojeooaaGreat.Rg
namespace Go.Proofs.YtkenmldiojeooaaGreat.Mg
open Go.RowKit Go.ChangeShapes Go.WideShapes Tx Um Ud Aq Km Kd Lm Ln
set_option linter.unusedVariables false
def Tri (gt n p q s : Nat) (W : World) : Prop := W.cell? ⟨gt, n * 3, none⟩ = some (.int .i64 (p : Int)) ∧ W.cell? ⟨gt, n * 3 + 1, none⟩ = some (.int .i64 (q : Int)) ∧ W.cell? ⟨gt, n * 3 + 2, none⟩ = some (.int .i64 (s : Int))
set_option maxRecDepth 100000 in
set_option maxHeartbeats 4000000 in
theorem gapReg (ops : Array Oper) (hops : ops = (Rg.opsOf Tryz.f48 15)) (id : Nat) (gt nt ct n p q s mo co ma ca mb cb i j k no do_ na da nb db : Nat) {u0 u1 u2 u3 u4 u5 u6 u7 u8 u9 u19 u20 u21 u22 u23 u24 u25 u26 u27 u28 u29 u30 u31 u32 u33 u34 u35 u36 u37 u38 u39 u40 u41 u42 u43 u44 u45 u46 u47 u48 u49 u50 u51 u52 u53 u54 u55 u56 u57 u58 u59 u60 u61 u62 u63 u64 u65 u66 u67 u68 u69 u70 u71 u72 u73 u74 u75 u76 u77 u78 u79 u80 u81 u82 u83 u84 u85 u86 u87 u88 u89 u90 u91 u92 u93 u94 u95 u96 u97 u98 u99 u100 u101 u102 u103 u104 u105 u106 u107 u108 u109 u110 u111 u112 u113 u114 u115 u116 u117 u118 u119 u120 u121 u122 u123 u124 u125 u126 u127 u128 u129 u130 u131 u132 u133 u134 u135 u136 u137 u138 u139 u140 u141 u142 u143 u144 u145 u146 u147 u148 u149 u150 u151 u152 u153 u154 u155 u156 u157 u158 u159 u160 u161 u162 u163 u164 u165 u166 u167 u168 u169 u170 u171 u172 u173 u174 u175 u176 u177 u178 u179 u180 u181 u182 u183 u184 u185 u186 u187 u188 : Value} (w : World) (hn : (n : Int) < (nt : Int)) (X : World → Prop)
    (hX : ∀ W, X W → Tri gt n p q s W) (hw : X w.drew) (Ao Aa Ab Bo Ba Bb : Option Addr) (vL : Value) (Z : Value → World → Prop)
    (S1 : ∀ W : World, (Instr.slice 59 (.slice Ao mo co) (some (.int .i64 (i : Int))) (some (.int .i64 (p : Int))) none).run Tryz.prog W = .ok (.slice Bo no do_) W)
    (S2 : ∀ W : World, (Instr.slice 59 (.slice Aa ma ca) (some (.int .i64 (j : Int))) (some (.int .i64 (q : Int))) none).run Tryz.prog W = .ok (.slice Ba na da) W)
    (S3 : ∀ W : World, (Instr.slice 59 (.slice Ab mb cb) (some (.int .i64 (k : Int))) (some (.int .i64 (s : Int))) none).run Tryz.prog W = .ok (.slice Bb nb db) W)
    (hX2 : X (w.drew.alloc (.cells #[.bool false, .slice Bo no do_, .slice Ba na da, .slice Bb nb db] 76)))
    (hE : ∀ ty, ∃ v8 w8, (Builtin.append_ #[68, 68] ty #[vL, .slice (some ⟨w.heap.size, 0, none⟩) 1 1]).run Tryz.prog (w.drew.alloc (.cells #[.bool false, .slice Bo no do_, .slice Ba na da, .slice Bb nb db] 76)) = .ok v8 w8 ∧ X w8 ∧ Z v8 w8) :
    (Code.region id ops true).wp Tryz.prog (Rg.Only fun a' w' => ∃ v8 : Value, a' = ⟨#[u0, u1, u2, u3, u4, u5, u6, u7, u8, u9, (.slice Ao mo co), (.slice Aa ma ca), (.slice Ab mb cb), (.slice (some ⟨gt, 0, none⟩) nt ct), v8, (.int .i64 (i : Int)), (.int .i64 (j : Int)), (.int .i64 (k : Int)), (.int .i64 (n : Int)), u19, u20, u21, u22, u23, u24, u25, u26, u27, u28, u29, u30, u31, u32, u33, u34, u35, u36, u37, u38, u39, u40, u41, u42, u43, u44, u45, u46, u47, u48, u49, u50, u51, u52, u53, u54, u55, u56, u57, u58, u59, u60, u61, u62, u63, u64, u65, u66, u67, u68, u69, u70, u71, u72, u73, u74, u75, u76, u77, u78, u79, u80, u81, u82, u83, u84, u85, u86, u87, u88, u89, vL, (.slice Ao mo co), (.int .i64 (i : Int)), (.slice (some ⟨gt, 0, none⟩) nt ct), (.int .i64 (n : Int)), (.pointer (some ⟨gt, n * 3, none⟩)), (.pointer (some ⟨gt, n * 3, none⟩)), (.int .i64 (p : Int)), (.slice Bo no do_), (.slice Aa ma ca), (.int .i64 (j : Int)), (.slice (some ⟨gt, 0, none⟩) nt ct), (.int .i64 (n : Int)), (.pointer (some ⟨gt, n * 3, none⟩)), (.pointer (some ⟨gt, n * 3 + 1, none⟩)), (.int .i64 (q : Int)), (.slice Ba na da), (.slice Ab mb cb), (.int .i64 (k : Int)), (.slice (some ⟨gt, 0, none⟩) nt ct), (.int .i64 (n : Int)), (.pointer (some ⟨gt, n * 3, none⟩)), (.pointer (some ⟨gt, n * 3 + 2, none⟩)), (.int .i64 (s : Int)), (.slice Bb nb db), (.agg #[.bool false, .slice Bo no do_, .slice Ba na da, .slice Bb nb db]), (.slice (some ⟨w.heap.size, 0, none⟩) 1 1), v8, u118, u119, u120, u121, u122, u123, u124, u125, u126, u127, u128, u129, u130, u131, u132, u133, u134, u135, u136, u137, u138, u139, u140, u141, u142, u143, u144, u145, u146, u147, u148, u149, u150, u151, u152, u153, u154, u155, u156, u157, u158, u159, u160, u161, u162, u163, u164, u165, u166, u167, u168, u169, u170, u171, u172, u173, u174, u175, u176, u177, u178, u179, u180, u181, u182, u183, u184, u185, u186, u187, u188], []⟩ ∧ Z v8 w') ⟨#[u0, u1, u2, u3, u4, u5, u6, u7, u8, u9, (.slice Ao mo co), (.slice Aa ma ca), (.slice Ab mb cb), (.slice (some ⟨gt, 0, none⟩) nt ct), vL, (.int .i64 (i : Int)), (.int .i64 (j : Int)), (.int .i64 (k : Int)), (.int .i64 (n : Int)), u19, u20, u21, u22, u23, u24, u25, u26, u27, u28, u29, u30, u31, u32, u33, u34, u35, u36, u37, u38, u39, u40, u41, u42, u43, u44, u45, u46, u47, u48, u49, u50, u51, u52, u53, u54, u55, u56, u57, u58, u59, u60, u61, u62, u63, u64, u65, u66, u67, u68, u69, u70, u71, u72, u73, u74, u75, u76, u77, u78, u79, u80, u81, u82, u83, u84, u85, u86, u87, u88, u89, u90, u91, u92, u93, u94, u95, u96, u97, u98, u99, u100, u101, u102, u103, u104, u105, u106, u107, u108, u109, u110, u111, u112, u113, u114, u115, u116, u117, u118, u119, u120, u121, u122, u123, u124, u125, u126, u127, u128, u129, u130, u131, u132, u133, u134, u135, u136, u137, u138, u139, u140, u141, u142, u143, u144, u145, u146, u147, u148, u149, u150, u151, u152, u153, u154, u155, u156, u157, u158, u159, u160, u161, u162, u163, u164, u165, u166, u167, u168, u169, u170, u171, u172, u173, u174, u175, u176, u177, u178, u179, u180, u181, u182, u183, u184, u185, u186, u187, u188], []⟩ w := by
  subst hops
  have hNS : Region.noSelect (Rg.opsOf Tryz.f48 15) = true := by kernel_rfl
  refine wp_region_held_drew (S := X) (by kernel_rfl) hw (fun hHeld => ?_)
  rw [show (Rg.opsOf Tryz.f48 15).size = 29 by kernel_rfl]
  refine Rg.take (ops := (Rg.opsOf Tryz.f48 15)) 0 (some 90) (vL) hNS (by kernel_rfl) (by kernel_rfl) (by kernel_rfl) (by kernel_rfl) (by kernel_rfl) hHeld (Rg.y_move (x := (Operand.tmp 14)) (Or.inl (by kernel_rfl)) (by kernel_rfl)) ?_
  refine Rg.take (ops := (Rg.opsOf Tryz.f48 15)) 1 (some 91) ((.slice Ao mo co)) hNS (by kernel_rfl) (by kernel_rfl) (by kernel_rfl) (by kernel_rfl) (by kernel_rfl) hHeld (Rg.y_move (x := (Operand.tmp 10)) (Or.inl (by kernel_rfl)) (by kernel_rfl)) ?_
  refine Rg.take (ops := (Rg.opsOf Tryz.f48 15)) 2 (some 92) ((.int .i64 (i : Int))) hNS (by kernel_rfl) (by kernel_rfl) (by kernel_rfl) (by kernel_rfl) (by kernel_rfl) hHeld (Rg.y_move (x := (Operand.tmp 15)) (Or.inl (by kernel_rfl)) (by kernel_rfl)) ?_
  refine Rg.take (ops := (Rg.opsOf Tryz.f48 15)) 3 (some 93) ((.slice (some ⟨gt, 0, none⟩) nt ct)) hNS (by kernel_rfl) (by kernel_rfl) (by kernel_rfl) (by kernel_rfl) (by kernel_rfl) hHeld (Rg.y_move (x := (Operand.tmp 13)) (Or.inl (by kernel_rfl)) (by kernel_rfl)) ?_
  refine Rg.take (ops := (Rg.opsOf Tryz.f48 15)) 4 (some 94) ((.int .i64 (n : Int))) hNS (by kernel_rfl) (by kernel_rfl) (by kernel_rfl) (by kernel_rfl) (by kernel_rfl) hHeld (Rg.y_move (x := (Operand.tmp 18)) (Or.inl (by kernel_rfl)) (by kernel_rfl)) ?_
  refine Rg.take (ops := (Rg.opsOf Tryz.f48 15)) 5 (some 95) ((.pointer (some ⟨gt, n * 3, none⟩))) hNS (by kernel_rfl) (by kernel_rfl) (by kernel_rfl) (by kernel_rfl) (by kernel_rfl) hHeld (Rg.y_at (T := 109) (x := (Operand.tmp 93)) (y := (Operand.tmp 94)) (vx := (.slice (some ⟨gt, 0, none⟩) nt ct)) (vy := (.int .i64 (n : Int))) (by kernel_rfl) (by kernel_rfl) (by kernel_rfl) ?_) ?_
  · (intro W hSw; clear hSw hHeld; go_simp)
  refine Rg.take (ops := (Rg.opsOf Tryz.f48 15)) 6 (some 96) ((.pointer (some ⟨gt, n * 3, none⟩))) hNS (by kernel_rfl) (by kernel_rfl) (by kernel_rfl) (by kernel_rfl) (by kernel_rfl) hHeld (Rg.y_at (T := 103) (x := (Operand.tmp 95)) (y := (Operand.const (Value.int IntKind.i64 0))) (vx := (.pointer (some ⟨gt, n * 3, none⟩))) (vy := (Value.int IntKind.i64 0)) (by kernel_rfl) (by kernel_rfl) (by kernel_rfl) ?_) ?_
  · (intro W hSw; clear hSw hHeld; go_simp)
  refine Rg.take (ops := (Rg.opsOf Tryz.f48 15)) 7 (some 97) ((.int .i64 (p : Int))) hNS (by kernel_rfl) (by kernel_rfl) (by kernel_rfl) (by kernel_rfl) (by kernel_rfl) hHeld (Rg.y_load (T := 3) (x := (Operand.tmp 96)) (vx := (.pointer (some ⟨gt, n * 3, none⟩))) (by kernel_rfl) (by kernel_rfl) ?_) ?_
  · (intro W hSw; obtain ⟨s0, s1, s2⟩ := hX _ hSw; clear hSw hHeld; go_simp)
  refine Rg.take (ops := (Rg.opsOf Tryz.f48 15)) 8 (some 98) ((.slice Bo no do_)) hNS (by kernel_rfl) (by kernel_rfl) (by kernel_rfl) (by kernel_rfl) (by kernel_rfl) hHeld (Rg.y_sl2 (T := 59) (x := (Operand.tmp 91)) (l := (Operand.tmp 92)) (h := (Operand.tmp 97)) (vx := (.slice Ao mo co)) (vl := (.int .i64 (i : Int))) (vh := (.int .i64 (p : Int))) (by kernel_rfl) (by kernel_rfl) (by kernel_rfl) (by kernel_rfl) ?_) ?_
  · (intro W hSw; clear hSw hHeld; rw [run_sliceAt_slice _ _ _ _ _ _ (by kernel_rfl)]; exact S1 W)
  refine Rg.take (ops := (Rg.opsOf Tryz.f48 15)) 9 (some 99) ((.slice Aa ma ca)) hNS (by kernel_rfl) (by kernel_rfl) (by kernel_rfl) (by kernel_rfl) (by kernel_rfl) hHeld (Rg.y_move (x := (Operand.tmp 11)) (Or.inl (by kernel_rfl)) (by kernel_rfl)) ?_
  refine Rg.take (ops := (Rg.opsOf Tryz.f48 15)) 10 (some 100) ((.int .i64 (j : Int))) hNS (by kernel_rfl) (by kernel_rfl) (by kernel_rfl) (by kernel_rfl) (by kernel_rfl) hHeld (Rg.y_move (x := (Operand.tmp 16)) (Or.inl (by kernel_rfl)) (by kernel_rfl)) ?_
  refine Rg.take (ops := (Rg.opsOf Tryz.f48 15)) 11 (some 101) ((.slice (some ⟨gt, 0, none⟩) nt ct)) hNS (by kernel_rfl) (by kernel_rfl) (by kernel_rfl) (by kernel_rfl) (by kernel_rfl) hHeld (Rg.y_move (x := (Operand.tmp 13)) (Or.inl (by kernel_rfl)) (by kernel_rfl)) ?_
  refine Rg.take (ops := (Rg.opsOf Tryz.f48 15)) 12 (some 102) ((.int .i64 (n : Int))) hNS (by kernel_rfl) (by kernel_rfl) (by kernel_rfl) (by kernel_rfl) (by kernel_rfl) hHeld (Rg.y_move (x := (Operand.tmp 18)) (Or.inl (by kernel_rfl)) (by kernel_rfl)) ?_
  refine Rg.take (ops := (Rg.opsOf Tryz.f48 15)) 13 (some 103) ((.pointer (some ⟨gt, n * 3, none⟩))) hNS (by kernel_rfl) (by kernel_rfl) (by kernel_rfl) (by kernel_rfl) (by kernel_rfl) hHeld (Rg.y_at (T := 109) (x := (Operand.tmp 101)) (y := (Operand.tmp 102)) (vx := (.slice (some ⟨gt, 0, none⟩) nt ct)) (vy := (.int .i64 (n : Int))) (by kernel_rfl) (by kernel_rfl) (by kernel_rfl) ?_) ?_
  · (intro W hSw; clear hSw hHeld; go_simp)
  refine Rg.take (ops := (Rg.opsOf Tryz.f48 15)) 14 (some 104) ((.pointer (some ⟨gt, n * 3 + 1, none⟩))) hNS (by kernel_rfl) (by kernel_rfl) (by kernel_rfl) (by kernel_rfl) (by kernel_rfl) hHeld (Rg.y_at (T := 103) (x := (Operand.tmp 103)) (y := (Operand.const (Value.int IntKind.i64 1))) (vx := (.pointer (some ⟨gt, n * 3, none⟩))) (vy := (Value.int IntKind.i64 1)) (by kernel_rfl) (by kernel_rfl) (by kernel_rfl) ?_) ?_
  · (intro W hSw; clear hSw hHeld; go_simp)
  refine Rg.take (ops := (Rg.opsOf Tryz.f48 15)) 15 (some 105) ((.int .i64 (q : Int))) hNS (by kernel_rfl) (by kernel_rfl) (by kernel_rfl) (by kernel_rfl) (by kernel_rfl) hHeld (Rg.y_load (T := 3) (x := (Operand.tmp 104)) (vx := (.pointer (some ⟨gt, n * 3 + 1, none⟩))) (by kernel_rfl) (by kernel_rfl) ?_) ?_
  · (intro W hSw; obtain ⟨s0, s1, s2⟩ := hX _ hSw; clear hSw hHeld; go_simp)
  refine Rg.take (ops := (Rg.opsOf Tryz.f48 15)) 16 (some 106) ((.slice Ba na da)) hNS (by kernel_rfl) (by kernel_rfl) (by kernel_rfl) (by kernel_rfl) (by kernel_rfl) hHeld (Rg.y_sl2 (T := 59) (x := (Operand.tmp 99)) (l := (Operand.tmp 100)) (h := (Operand.tmp 105)) (vx := (.slice Aa ma ca)) (vl := (.int .i64 (j : Int))) (vh := (.int .i64 (q : Int))) (by kernel_rfl) (by kernel_rfl) (by kernel_rfl) (by kernel_rfl) ?_) ?_
  · (intro W hSw; clear hSw hHeld; rw [run_sliceAt_slice _ _ _ _ _ _ (by kernel_rfl)]; exact S2 W)
  refine Rg.take (ops := (Rg.opsOf Tryz.f48 15)) 17 (some 107) ((.slice Ab mb cb)) hNS (by kernel_rfl) (by kernel_rfl) (by kernel_rfl) (by kernel_rfl) (by kernel_rfl) hHeld (Rg.y_move (x := (Operand.tmp 12)) (Or.inl (by kernel_rfl)) (by kernel_rfl)) ?_
  refine Rg.take (ops := (Rg.opsOf Tryz.f48 15)) 18 (some 108) ((.int .i64 (k : Int))) hNS (by kernel_rfl) (by kernel_rfl) (by kernel_rfl) (by kernel_rfl) (by kernel_rfl) hHeld (Rg.y_move (x := (Operand.tmp 17)) (Or.inl (by kernel_rfl)) (by kernel_rfl)) ?_
  refine Rg.take (ops := (Rg.opsOf Tryz.f48 15)) 19 (some 109) ((.slice (some ⟨gt, 0, none⟩) nt ct)) hNS (by kernel_rfl) (by kernel_rfl) (by kernel_rfl) (by kernel_rfl) (by kernel_rfl) hHeld (Rg.y_move (x := (Operand.tmp 13)) (Or.inl (by kernel_rfl)) (by kernel_rfl)) ?_
  refine Rg.take (ops := (Rg.opsOf Tryz.f48 15)) 20 (some 110) ((.int .i64 (n : Int))) hNS (by kernel_rfl) (by kernel_rfl) (by kernel_rfl) (by kernel_rfl) (by kernel_rfl) hHeld (Rg.y_move (x := (Operand.tmp 18)) (Or.inl (by kernel_rfl)) (by kernel_rfl)) ?_
  refine Rg.take (ops := (Rg.opsOf Tryz.f48 15)) 21 (some 111) ((.pointer (some ⟨gt, n * 3, none⟩))) hNS (by kernel_rfl) (by kernel_rfl) (by kernel_rfl) (by kernel_rfl) (by kernel_rfl) hHeld (Rg.y_at (T := 109) (x := (Operand.tmp 109)) (y := (Operand.tmp 110)) (vx := (.slice (some ⟨gt, 0, none⟩) nt ct)) (vy := (.int .i64 (n : Int))) (by kernel_rfl) (by kernel_rfl) (by kernel_rfl) ?_) ?_
  · (intro W hSw; clear hSw hHeld; go_simp)
  refine Rg.take (ops := (Rg.opsOf Tryz.f48 15)) 22 (some 112) ((.pointer (some ⟨gt, n * 3 + 2, none⟩))) hNS (by kernel_rfl) (by kernel_rfl) (by kernel_rfl) (by kernel_rfl) (by kernel_rfl) hHeld (Rg.y_at (T := 103) (x := (Operand.tmp 111)) (y := (Operand.const (Value.int IntKind.i64 2))) (vx := (.pointer (some ⟨gt, n * 3, none⟩))) (vy := (Value.int IntKind.i64 2)) (by kernel_rfl) (by kernel_rfl) (by kernel_rfl) ?_) ?_
  · (intro W hSw; clear hSw hHeld; go_simp)
  refine Rg.take (ops := (Rg.opsOf Tryz.f48 15)) 23 (some 113) ((.int .i64 (s : Int))) hNS (by kernel_rfl) (by kernel_rfl) (by kernel_rfl) (by kernel_rfl) (by kernel_rfl) hHeld (Rg.y_load (T := 3) (x := (Operand.tmp 112)) (vx := (.pointer (some ⟨gt, n * 3 + 2, none⟩))) (by kernel_rfl) (by kernel_rfl) ?_) ?_
  · (intro W hSw; obtain ⟨s0, s1, s2⟩ := hX _ hSw; clear hSw hHeld; go_simp)
  refine Rg.take (ops := (Rg.opsOf Tryz.f48 15)) 24 (some 114) ((.slice Bb nb db)) hNS (by kernel_rfl) (by kernel_rfl) (by kernel_rfl) (by kernel_rfl) (by kernel_rfl) hHeld (Rg.y_sl2 (T := 59) (x := (Operand.tmp 107)) (l := (Operand.tmp 108)) (h := (Operand.tmp 113)) (vx := (.slice Ab mb cb)) (vl := (.int .i64 (k : Int))) (vh := (.int .i64 (s : Int))) (by kernel_rfl) (by kernel_rfl) (by kernel_rfl) (by kernel_rfl) ?_) ?_
  · (intro W hSw; clear hSw hHeld; rw [run_sliceAt_slice _ _ _ _ _ _ (by kernel_rfl)]; exact S3 W)
  refine Rg.take (ops := (Rg.opsOf Tryz.f48 15)) 25 (some 115) ((.agg #[.bool false, .slice Bo no do_, .slice Ba na da, .slice Bb nb db])) hNS (by kernel_rfl) (by kernel_rfl) (by kernel_rfl) (by kernel_rfl) (by kernel_rfl) hHeld (Rg.y_build (T := 76) (parts := #[(1, Operand.tmp 98), (2, Operand.tmp 106), (3, Operand.tmp 114)]) (vs := #[(1, (.slice Bo no do_)), (2, (.slice Ba na da)), (3, (.slice Bb nb db))]) (by kernel_rfl) (by kernel_rfl) ?_) ?_
  · (intro W hSw; clear hSw hHeld; go_simp)
  refine Rg.bld (ops := (Rg.opsOf Tryz.f48 15)) 26 (some 116) (T := 68) (len := 1) (parts := #[(0, Operand.tmp 115)]) (vs := #[(0, (.agg #[.bool false, .slice Bo no do_, .slice Ba na da, .slice Bb nb db]))]) (v := (.slice (some ⟨w.heap.size, 0, none⟩) 1 1)) (w1 := w.drew.alloc (.cells #[.bool false, .slice Bo no do_, .slice Ba na da, .slice Bb nb db] 76)) (by kernel_rfl) (by kernel_rfl) (by kernel_rfl) (by kernel_rfl) (by kernel_rfl) (by kernel_rfl) ?_ (hX2) (fun hHeld => ?_)
  · (clear hHeld hE; go_simp)
  refine Rg.app1 (ops := (Rg.opsOf Tryz.f48 15)) 27 (some 117) (T := 68) (x := (Operand.tmp 90)) (y := (Operand.tmp 116)) (vx := vL) (vy := (.slice (some ⟨w.heap.size, 0, none⟩) 1 1)) (by kernel_rfl) (by kernel_rfl) (by kernel_rfl) (by kernel_rfl) (by kernel_rfl) (by kernel_rfl) (by kernel_rfl) ?_
  intro ty
  obtain ⟨v8, w8, e8, h8, h9⟩ := hE ty
  refine ⟨v8, w8, e8, h8, fun hHeld => ?_⟩
  refine Rg.take (ops := (Rg.opsOf Tryz.f48 15)) 28 (some 14) (v8) hNS (by kernel_rfl) (by kernel_rfl) (by kernel_rfl) (by kernel_rfl) (by kernel_rfl) hHeld (Rg.y_move (x := (Operand.tmp 117)) (Or.inr (by kernel_rfl)) (by kernel_rfl)) ?_
  refine Rg.done (ops := (Rg.opsOf Tryz.f48 15)) (by kernel_rfl) ?_
  exact ⟨v8, by kernel_rfl, h9⟩
set_option maxRecDepth 100000 in
set_option maxHeartbeats 4000000 in
theorem triReg (ops : Array Oper) (hops : ops = (Rg.opsOf Tryz.f48 16)) (id : Nat) (gt nt ct n p q s : Nat) {u0 u1 u2 u3 u4 u5 u6 u7 u8 u9 u10 u11 u12 u14 u15 u16 u17 u19 u20 u21 u22 u23 u24 u25 u26 u27 u28 u29 u30 u31 u32 u33 u34 u35 u36 u37 u38 u39 u40 u41 u42 u43 u44 u45 u46 u47 u48 u49 u50 u51 u52 u53 u54 u55 u56 u57 u58 u59 u60 u61 u62 u63 u64 u65 u66 u67 u68 u69 u70 u71 u72 u73 u74 u75 u76 u77 u78 u79 u80 u81 u82 u83 u84 u85 u86 u87 u88 u89 u90 u91 u92 u93 u94 u95 u96 u97 u98 u99 u100 u101 u102 u103 u104 u105 u106 u107 u108 u109 u110 u111 u112 u113 u114 u115 u116 u117 u118 u119 u120 u121 u122 u123 u124 u125 u126 u127 u128 u129 u130 u131 u132 u133 u134 u135 u136 u137 u138 u139 u140 u141 u142 u143 u144 u145 u146 u147 u148 u149 u150 u151 u152 u153 u154 u155 u156 u157 u158 u159 u160 u161 u162 u163 u164 u165 u166 u167 u168 u169 u170 u171 u172 u173 u174 u175 u176 u177 u178 u179 u180 u181 u182 u183 u184 u185 u186 u187 u188 : Value} (w : World) (hn : (n : Int) < (nt : Int)) (X : World → Prop)
    (hX : ∀ W, X W → Tri gt n p q s W) (hw : X w.drew) :
    (Code.region id ops true).wp Tryz.prog (Rg.Only fun a' w' => a' = ⟨#[u0, u1, u2, u3, u4, u5, u6, u7, u8, u9, u10, u11, u12, (.slice (some ⟨gt, 0, none⟩) nt ct), u14, (.int .i64 (p : Int)), (.int .i64 (q : Int)), (.int .i64 (s : Int)), (.int .i64 (n : Int)), u19, u20, u21, u22, u23, u24, u25, u26, u27, u28, u29, u30, u31, u32, u33, u34, u35, u36, u37, u38, u39, u40, u41, u42, u43, u44, u45, u46, u47, u48, u49, u50, u51, u52, u53, u54, u55, u56, u57, u58, u59, u60, u61, u62, u63, u64, u65, u66, u67, u68, u69, u70, u71, u72, u73, u74, u75, u76, u77, u78, u79, u80, u81, u82, u83, u84, u85, u86, u87, u88, u89, u90, u91, u92, u93, u94, u95, u96, u97, u98, u99, u100, u101, u102, u103, u104, u105, u106, u107, u108, u109, u110, u111, u112, u113, u114, u115, u116, u117, (.slice (some ⟨gt, 0, none⟩) nt ct), (.int .i64 (n : Int)), (.pointer (some ⟨gt, n * 3, none⟩)), (.pointer (some ⟨gt, n * 3, none⟩)), (.int .i64 (p : Int)), (.slice (some ⟨gt, 0, none⟩) nt ct), (.int .i64 (n : Int)), (.pointer (some ⟨gt, n * 3, none⟩)), (.pointer (some ⟨gt, n * 3 + 1, none⟩)), (.int .i64 (q : Int)), (.slice (some ⟨gt, 0, none⟩) nt ct), (.int .i64 (n : Int)), (.pointer (some ⟨gt, n * 3, none⟩)), (.pointer (some ⟨gt, n * 3 + 2, none⟩)), (.int .i64 (s : Int)), u133, u134, u135, u136, u137, u138, u139, u140, u141, u142, u143, u144, u145, u146, u147, u148, u149, u150, u151, u152, u153, u154, u155, u156, u157, u158, u159, u160, u161, u162, u163, u164, u165, u166, u167, u168, u169, u170, u171, u172, u173, u174, u175, u176, u177, u178, u179, u180, u181, u182, u183, u184, u185, u186, u187, u188], []⟩ ∧ X w') ⟨#[u0, u1, u2, u3, u4, u5, u6, u7, u8, u9, u10, u11, u12, (.slice (some ⟨gt, 0, none⟩) nt ct), u14, u15, u16, u17, (.int .i64 (n : Int)), u19, u20, u21, u22, u23, u24, u25, u26, u27, u28, u29, u30, u31, u32, u33, u34, u35, u36, u37, u38, u39, u40, u41, u42, u43, u44, u45, u46, u47, u48, u49, u50, u51, u52, u53, u54, u55, u56, u57, u58, u59, u60, u61, u62, u63, u64, u65, u66, u67, u68, u69, u70, u71, u72, u73, u74, u75, u76, u77, u78, u79, u80, u81, u82, u83, u84, u85, u86, u87, u88, u89, u90, u91, u92, u93, u94, u95, u96, u97, u98, u99, u100, u101, u102, u103, u104, u105, u106, u107, u108, u109, u110, u111, u112, u113, u114, u115, u116, u117, u118, u119, u120, u121, u122, u123, u124, u125, u126, u127, u128, u129, u130, u131, u132, u133, u134, u135, u136, u137, u138, u139, u140, u141, u142, u143, u144, u145, u146, u147, u148, u149, u150, u151, u152, u153, u154, u155, u156, u157, u158, u159, u160, u161, u162, u163, u164, u165, u166, u167, u168, u169, u170, u171, u172, u173, u174, u175, u176, u177, u178, u179, u180, u181, u182, u183, u184, u185, u186, u187, u188], []⟩ w := by
  subst hops
  have hNS : Region.noSelect (Rg.opsOf Tryz.f48 16) = true := by kernel_rfl
  refine wp_region_held_drew (S := X) (by kernel_rfl) hw (fun hHeld => ?_)
  rw [show (Rg.opsOf Tryz.f48 16).size = 18 by kernel_rfl]
  refine Rg.take (ops := (Rg.opsOf Tryz.f48 16)) 0 (some 118) ((.slice (some ⟨gt, 0, none⟩) nt ct)) hNS (by kernel_rfl) (by kernel_rfl) (by kernel_rfl) (by kernel_rfl) (by kernel_rfl) hHeld (Rg.y_move (x := (Operand.tmp 13)) (Or.inl (by kernel_rfl)) (by kernel_rfl)) ?_
  refine Rg.take (ops := (Rg.opsOf Tryz.f48 16)) 1 (some 119) ((.int .i64 (n : Int))) hNS (by kernel_rfl) (by kernel_rfl) (by kernel_rfl) (by kernel_rfl) (by kernel_rfl) hHeld (Rg.y_move (x := (Operand.tmp 18)) (Or.inl (by kernel_rfl)) (by kernel_rfl)) ?_
  refine Rg.take (ops := (Rg.opsOf Tryz.f48 16)) 2 (some 120) ((.pointer (some ⟨gt, n * 3, none⟩))) hNS (by kernel_rfl) (by kernel_rfl) (by kernel_rfl) (by kernel_rfl) (by kernel_rfl) hHeld (Rg.y_at (T := 109) (x := (Operand.tmp 118)) (y := (Operand.tmp 119)) (vx := (.slice (some ⟨gt, 0, none⟩) nt ct)) (vy := (.int .i64 (n : Int))) (by kernel_rfl) (by kernel_rfl) (by kernel_rfl) ?_) ?_
  · (intro W hSw; clear hSw hHeld; go_simp)
  refine Rg.take (ops := (Rg.opsOf Tryz.f48 16)) 3 (some 121) ((.pointer (some ⟨gt, n * 3, none⟩))) hNS (by kernel_rfl) (by kernel_rfl) (by kernel_rfl) (by kernel_rfl) (by kernel_rfl) hHeld (Rg.y_at (T := 103) (x := (Operand.tmp 120)) (y := (Operand.const (Value.int IntKind.i64 0))) (vx := (.pointer (some ⟨gt, n * 3, none⟩))) (vy := (Value.int IntKind.i64 0)) (by kernel_rfl) (by kernel_rfl) (by kernel_rfl) ?_) ?_
  · (intro W hSw; clear hSw hHeld; go_simp)
  refine Rg.take (ops := (Rg.opsOf Tryz.f48 16)) 4 (some 122) ((.int .i64 (p : Int))) hNS (by kernel_rfl) (by kernel_rfl) (by kernel_rfl) (by kernel_rfl) (by kernel_rfl) hHeld (Rg.y_load (T := 3) (x := (Operand.tmp 121)) (vx := (.pointer (some ⟨gt, n * 3, none⟩))) (by kernel_rfl) (by kernel_rfl) ?_) ?_
  · (intro W hSw; obtain ⟨s0, s1, s2⟩ := hX _ hSw; clear hSw hHeld; go_simp)
  refine Rg.take (ops := (Rg.opsOf Tryz.f48 16)) 5 (some 123) ((.slice (some ⟨gt, 0, none⟩) nt ct)) hNS (by kernel_rfl) (by kernel_rfl) (by kernel_rfl) (by kernel_rfl) (by kernel_rfl) hHeld (Rg.y_move (x := (Operand.tmp 13)) (Or.inl (by kernel_rfl)) (by kernel_rfl)) ?_
  refine Rg.take (ops := (Rg.opsOf Tryz.f48 16)) 6 (some 124) ((.int .i64 (n : Int))) hNS (by kernel_rfl) (by kernel_rfl) (by kernel_rfl) (by kernel_rfl) (by kernel_rfl) hHeld (Rg.y_move (x := (Operand.tmp 18)) (Or.inl (by kernel_rfl)) (by kernel_rfl)) ?_
  refine Rg.take (ops := (Rg.opsOf Tryz.f48 16)) 7 (some 125) ((.pointer (some ⟨gt, n * 3, none⟩))) hNS (by kernel_rfl) (by kernel_rfl) (by kernel_rfl) (by kernel_rfl) (by kernel_rfl) hHeld (Rg.y_at (T := 109) (x := (Operand.tmp 123)) (y := (Operand.tmp 124)) (vx := (.slice (some ⟨gt, 0, none⟩) nt ct)) (vy := (.int .i64 (n : Int))) (by kernel_rfl) (by kernel_rfl) (by kernel_rfl) ?_) ?_
  · (intro W hSw; clear hSw hHeld; go_simp)
  refine Rg.take (ops := (Rg.opsOf Tryz.f48 16)) 8 (some 126) ((.pointer (some ⟨gt, n * 3 + 1, none⟩))) hNS (by kernel_rfl) (by kernel_rfl) (by kernel_rfl) (by kernel_rfl) (by kernel_rfl) hHeld (Rg.y_at (T := 103) (x := (Operand.tmp 125)) (y := (Operand.const (Value.int IntKind.i64 1))) (vx := (.pointer (some ⟨gt, n * 3, none⟩))) (vy := (Value.int IntKind.i64 1)) (by kernel_rfl) (by kernel_rfl) (by kernel_rfl) ?_) ?_
  · (intro W hSw; clear hSw hHeld; go_simp)
  refine Rg.take (ops := (Rg.opsOf Tryz.f48 16)) 9 (some 127) ((.int .i64 (q : Int))) hNS (by kernel_rfl) (by kernel_rfl) (by kernel_rfl) (by kernel_rfl) (by kernel_rfl) hHeld (Rg.y_load (T := 3) (x := (Operand.tmp 126)) (vx := (.pointer (some ⟨gt, n * 3 + 1, none⟩))) (by kernel_rfl) (by kernel_rfl) ?_) ?_
  · (intro W hSw; obtain ⟨s0, s1, s2⟩ := hX _ hSw; clear hSw hHeld; go_simp)
  refine Rg.take (ops := (Rg.opsOf Tryz.f48 16)) 10 (some 128) ((.slice (some ⟨gt, 0, none⟩) nt ct)) hNS (by kernel_rfl) (by kernel_rfl) (by kernel_rfl) (by kernel_rfl) (by kernel_rfl) hHeld (Rg.y_move (x := (Operand.tmp 13)) (Or.inl (by kernel_rfl)) (by kernel_rfl)) ?_
  refine Rg.take (ops := (Rg.opsOf Tryz.f48 16)) 11 (some 129) ((.int .i64 (n : Int))) hNS (by kernel_rfl) (by kernel_rfl) (by kernel_rfl) (by kernel_rfl) (by kernel_rfl) hHeld (Rg.y_move (x := (Operand.tmp 18)) (Or.inl (by kernel_rfl)) (by kernel_rfl)) ?_
  refine Rg.take (ops := (Rg.opsOf Tryz.f48 16)) 12 (some 130) ((.pointer (some ⟨gt, n * 3, none⟩))) hNS (by kernel_rfl) (by kernel_rfl) (by kernel_rfl) (by kernel_rfl) (by kernel_rfl) hHeld (Rg.y_at (T := 109) (x := (Operand.tmp 128)) (y := (Operand.tmp 129)) (vx := (.slice (some ⟨gt, 0, none⟩) nt ct)) (vy := (.int .i64 (n : Int))) (by kernel_rfl) (by kernel_rfl) (by kernel_rfl) ?_) ?_
  · (intro W hSw; clear hSw hHeld; go_simp)
  refine Rg.take (ops := (Rg.opsOf Tryz.f48 16)) 13 (some 131) ((.pointer (some ⟨gt, n * 3 + 2, none⟩))) hNS (by kernel_rfl) (by kernel_rfl) (by kernel_rfl) (by kernel_rfl) (by kernel_rfl) hHeld (Rg.y_at (T := 103) (x := (Operand.tmp 130)) (y := (Operand.const (Value.int IntKind.i64 2))) (vx := (.pointer (some ⟨gt, n * 3, none⟩))) (vy := (Value.int IntKind.i64 2)) (by kernel_rfl) (by kernel_rfl) (by kernel_rfl) ?_) ?_
  · (intro W hSw; clear hSw hHeld; go_simp)
  refine Rg.take (ops := (Rg.opsOf Tryz.f48 16)) 14 (some 132) ((.int .i64 (s : Int))) hNS (by kernel_rfl) (by kernel_rfl) (by kernel_rfl) (by kernel_rfl) (by kernel_rfl) hHeld (Rg.y_load (T := 3) (x := (Operand.tmp 131)) (vx := (.pointer (some ⟨gt, n * 3 + 2, none⟩))) (by kernel_rfl) (by kernel_rfl) ?_) ?_
  · (intro W hSw; obtain ⟨s0, s1, s2⟩ := hX _ hSw; clear hSw hHeld; go_simp)
  refine Rg.take (ops := (Rg.opsOf Tryz.f48 16)) 15 (some 15) ((.int .i64 (p : Int))) hNS (by kernel_rfl) (by kernel_rfl) (by kernel_rfl) (by kernel_rfl) (by kernel_rfl) hHeld (Rg.y_move (x := (Operand.tmp 122)) (Or.inr (by kernel_rfl)) (by kernel_rfl)) ?_
  refine Rg.take (ops := (Rg.opsOf Tryz.f48 16)) 16 (some 16) ((.int .i64 (q : Int))) hNS (by kernel_rfl) (by kernel_rfl) (by kernel_rfl) (by kernel_rfl) (by kernel_rfl) hHeld (Rg.y_move (x := (Operand.tmp 127)) (Or.inr (by kernel_rfl)) (by kernel_rfl)) ?_
  refine Rg.take (ops := (Rg.opsOf Tryz.f48 16)) 17 (some 17) ((.int .i64 (s : Int))) hNS (by kernel_rfl) (by kernel_rfl) (by kernel_rfl) (by kernel_rfl) (by kernel_rfl) hHeld (Rg.y_move (x := (Operand.tmp 132)) (Or.inr (by kernel_rfl)) (by kernel_rfl)) ?_
  refine Rg.done (ops := (Rg.opsOf Tryz.f48 16)) (by kernel_rfl) ?_
  exact ⟨by kernel_rfl, hHeld⟩
theorem cell_one_new (w : World) (x : ByteArray) (e : TypeId) : (w.alloc (.cells #[.string x] e)).cell? ⟨w.heap.size, 0, none⟩ = some (.string x) := by go_simp
theorem one_cell {W : World} {g : Nat} {x : ByteArray} (h : W.cell? ⟨g, 0, none⟩ = some (.string x)) : ∀ (k : Nat) y, [x][k]? = some y → W.cell? ⟨g, 0 + k, none⟩ = some (.string y) := by
  intro k y hy
  cases k with
  | zero => injection hy with hy; subst hy; exact h
  | succ k => cases hy
set_option maxRecDepth 100000 in
set_option maxHeartbeats 4000000 in
theorem moreReg (ops : Array Oper) (hops : ops = (Rg.opsOf Tryz.f48 21)) (id : Nat) (go oo mo co gc nc cc i z gb ob cb B : Nat) (l : List ByteArray) (x : ByteArray) {u0 u1 u2 u3 u4 u5 u6 u7 u8 u9 u11 u12 u13 u16 u17 u18 u19 u21 u22 u23 u24 u25 u26 u27 u28 u29 u30 u31 u32 u33 u34 u35 u36 u37 u38 u39 u40 u41 u42 u43 u44 u45 u46 u47 u48 u49 u50 u51 u52 u53 u54 u55 u56 u57 u58 u59 u60 u61 u62 u63 u64 u65 u66 u67 u68 u69 u70 u71 u72 u73 u74 u75 u76 u77 u78 u79 u80 u81 u82 u83 u84 u85 u86 u87 u88 u89 u90 u91 u92 u93 u94 u95 u96 u97 u98 u99 u100 u101 u102 u103 u104 u105 u106 u107 u108 u109 u110 u111 u112 u113 u114 u115 u116 u117 u118 u119 u120 u121 u122 u123 u124 u125 u126 u127 u128 u129 u130 u131 u132 u133 u134 u135 u136 u137 u138 u139 u140 u141 u142 u143 u144 u145 u146 u147 u148 u149 u150 u151 u152 u153 u154 u155 u156 u157 u158 u159 u160 u161 u162 u163 u164 u165 u166 u167 u168 u169 u170 u171 u172 u173 u174 u175 u176 u177 u178 u179 u180 u181 u182 u183 u184 u185 u186 u187 u188 : Value} (w : World) (hi : (i : Int) < (mo : Int)) (hz : (z : Int) < (nc : Int)) (hl : l.length ≤ 400) (X : World → Prop)
    (hX : ∀ W, X W → W.cell? ⟨gc, z * 4 + 1, none⟩ = some (.slice (some ⟨gb, ob, none⟩) l.length cb) ∧ W.cell? ⟨go, oo + i, none⟩ = some (.string x) ∧ ∀ (k : Nat) y, l[k]? = some y → W.cell? ⟨gb, ob + k, none⟩ = some (.string y))
    (hw : X w.drew) (hAl : ∀ W o, X W → X (W.alloc o)) (hB0 : B ≤ w.drew.heap.size) (hB1 : B ≤ (w.drew.alloc (.cells #[.string x] 9)).heap.size)
    (hAp : ∀ (W W' : World) {row : Option Nat}, X W → W.grownBy W' row → (∀ q, row = some q → B ≤ q) → X W') :
    (Code.region id ops true).wp Tryz.prog (Rg.Only fun a' w' => ∃ p0 p1 p2 v8 : Value, a' = ⟨#[u0, u1, u2, u3, u4, u5, u6, u7, u8, u9, (.slice (some ⟨go, oo, none⟩) mo co), u11, u12, u13, (.slice (some ⟨gc, 0, none⟩) nc cc), (.int .i64 (i : Int)), u16, u17, u18, v8, (.int .i64 (z : Int)), u21, u22, u23, u24, u25, u26, u27, u28, u29, u30, u31, u32, u33, u34, u35, u36, u37, u38, u39, u40, u41, u42, u43, u44, u45, u46, u47, u48, u49, u50, u51, u52, u53, u54, u55, u56, u57, u58, u59, u60, u61, u62, u63, u64, u65, u66, u67, u68, u69, u70, u71, u72, u73, u74, u75, u76, u77, u78, u79, u80, u81, u82, u83, u84, u85, u86, u87, u88, u89, u90, u91, u92, u93, u94, u95, u96, u97, u98, u99, u100, u101, u102, u103, u104, u105, u106, u107, u108, u109, u110, u111, u112, u113, u114, u115, u116, u117, u118, u119, u120, u121, u122, u123, u124, u125, u126, u127, u128, u129, u130, u131, u132, u133, u134, u135, u136, u137, u138, u139, u140, u141, u142, u143, u144, u145, u146, u147, u148, u149, u150, u151, u152, u153, u154, p0, (.slice (some ⟨gc, 0, none⟩) nc cc), (.int .i64 (z : Int)), (.pointer (some ⟨gc, z * 4, none⟩)), (.pointer (some ⟨gc, z * 4 + 1, none⟩)), (.slice (some ⟨gb, ob, none⟩) l.length cb), p1, (.slice (some ⟨go, oo, none⟩) mo co), (.int .i64 (i : Int)), (.pointer (some ⟨go, oo + i, none⟩)), (.string x), p2, v8, u168, u169, u170, u171, u172, u173, u174, u175, u176, u177, u178, u179, u180, u181, u182, u183, u184, u185, u186, u187, u188], []⟩ ∧ Lo w' B v8 (l ++ [x]) ∧ X w') ⟨#[u0, u1, u2, u3, u4, u5, u6, u7, u8, u9, (.slice (some ⟨go, oo, none⟩) mo co), u11, u12, u13, (.slice (some ⟨gc, 0, none⟩) nc cc), (.int .i64 (i : Int)), u16, u17, u18, u19, (.int .i64 (z : Int)), u21, u22, u23, u24, u25, u26, u27, u28, u29, u30, u31, u32, u33, u34, u35, u36, u37, u38, u39, u40, u41, u42, u43, u44, u45, u46, u47, u48, u49, u50, u51, u52, u53, u54, u55, u56, u57, u58, u59, u60, u61, u62, u63, u64, u65, u66, u67, u68, u69, u70, u71, u72, u73, u74, u75, u76, u77, u78, u79, u80, u81, u82, u83, u84, u85, u86, u87, u88, u89, u90, u91, u92, u93, u94, u95, u96, u97, u98, u99, u100, u101, u102, u103, u104, u105, u106, u107, u108, u109, u110, u111, u112, u113, u114, u115, u116, u117, u118, u119, u120, u121, u122, u123, u124, u125, u126, u127, u128, u129, u130, u131, u132, u133, u134, u135, u136, u137, u138, u139, u140, u141, u142, u143, u144, u145, u146, u147, u148, u149, u150, u151, u152, u153, u154, u155, u156, u157, u158, u159, u160, u161, u162, u163, u164, u165, u166, u167, u168, u169, u170, u171, u172, u173, u174, u175, u176, u177, u178, u179, u180, u181, u182, u183, u184, u185, u186, u187, u188], []⟩ w := by
  subst hops
  have hNS : Region.noSelect (Rg.opsOf Tryz.f48 21) = true := by kernel_rfl
  refine wp_region_held_drew (S := X) (by kernel_rfl) hw (fun hHeld => ?_)
  rw [show (Rg.opsOf Tryz.f48 21).size = 14 by kernel_rfl]
  refine Rg.take (ops := (Rg.opsOf Tryz.f48 21)) 1 (some 156) ((.slice (some ⟨gc, 0, none⟩) nc cc)) hNS (by kernel_rfl) (by kernel_rfl) (by kernel_rfl) (by kernel_rfl) (by kernel_rfl) hHeld (Rg.y_move (x := (Operand.tmp 14)) (Or.inl (by kernel_rfl)) (by kernel_rfl)) ?_
  refine Rg.take (ops := (Rg.opsOf Tryz.f48 21)) 2 (some 157) ((.int .i64 (z : Int))) hNS (by kernel_rfl) (by kernel_rfl) (by kernel_rfl) (by kernel_rfl) (by kernel_rfl) hHeld (Rg.y_move (x := (Operand.tmp 20)) (Or.inl (by kernel_rfl)) (by kernel_rfl)) ?_
  refine Rg.take (ops := (Rg.opsOf Tryz.f48 21)) 3 (some 158) ((.pointer (some ⟨gc, z * 4, none⟩))) hNS (by kernel_rfl) (by kernel_rfl) (by kernel_rfl) (by kernel_rfl) (by kernel_rfl) hHeld (Rg.y_at (T := 68) (x := (Operand.tmp 156)) (y := (Operand.tmp 157)) (vx := (.slice (some ⟨gc, 0, none⟩) nc cc)) (vy := (.int .i64 (z : Int))) (by kernel_rfl) (by kernel_rfl) (by kernel_rfl) ?_) ?_
  · (intro W hSw; clear hSw hHeld; go_simp)
  refine Rg.take (ops := (Rg.opsOf Tryz.f48 21)) 4 (some 159) ((.pointer (some ⟨gc, z * 4 + 1, none⟩))) hNS (by kernel_rfl) (by kernel_rfl) (by kernel_rfl) (by kernel_rfl) (by kernel_rfl) hHeld (Rg.y_field (T := 76) (k := 1) (x := (Operand.tmp 158)) (vx := (.pointer (some ⟨gc, z * 4, none⟩))) (by kernel_rfl) (by kernel_rfl) ?_) ?_
  · (intro W hSw; clear hSw hHeld; go_simp)
  refine Rg.take (ops := (Rg.opsOf Tryz.f48 21)) 5 (some 160) ((.slice (some ⟨gb, ob, none⟩) l.length cb)) hNS (by kernel_rfl) (by kernel_rfl) (by kernel_rfl) (by kernel_rfl) (by kernel_rfl) hHeld (Rg.y_load (T := 59) (x := (Operand.tmp 159)) (vx := (.pointer (some ⟨gc, z * 4 + 1, none⟩))) (by kernel_rfl) (by kernel_rfl) ?_) ?_
  · (intro W hSw; obtain ⟨s0, s1⟩ := hX _ hSw; clear hSw hHeld; go_simp)
  refine Rg.take (ops := (Rg.opsOf Tryz.f48 21)) 7 (some 162) ((.slice (some ⟨go, oo, none⟩) mo co)) hNS (by kernel_rfl) (by kernel_rfl) (by kernel_rfl) (by kernel_rfl) (by kernel_rfl) hHeld (Rg.y_move (x := (Operand.tmp 10)) (Or.inl (by kernel_rfl)) (by kernel_rfl)) ?_
  refine Rg.take (ops := (Rg.opsOf Tryz.f48 21)) 8 (some 163) ((.int .i64 (i : Int))) hNS (by kernel_rfl) (by kernel_rfl) (by kernel_rfl) (by kernel_rfl) (by kernel_rfl) hHeld (Rg.y_move (x := (Operand.tmp 15)) (Or.inl (by kernel_rfl)) (by kernel_rfl)) ?_
  refine Rg.take (ops := (Rg.opsOf Tryz.f48 21)) 9 (some 164) ((.pointer (some ⟨go, oo + i, none⟩))) hNS (by kernel_rfl) (by kernel_rfl) (by kernel_rfl) (by kernel_rfl) (by kernel_rfl) hHeld (Rg.y_at (T := 59) (x := (Operand.tmp 162)) (y := (Operand.tmp 163)) (vx := (.slice (some ⟨go, oo, none⟩) mo co)) (vy := (.int .i64 (i : Int))) (by kernel_rfl) (by kernel_rfl) (by kernel_rfl) ?_) ?_
  · (intro W hSw; clear hSw hHeld; go_simp)
  refine Rg.take (ops := (Rg.opsOf Tryz.f48 21)) 10 (some 165) ((.string x)) hNS (by kernel_rfl) (by kernel_rfl) (by kernel_rfl) (by kernel_rfl) (by kernel_rfl) hHeld (Rg.y_load (T := 9) (x := (Operand.tmp 164)) (vx := (.pointer (some ⟨go, oo + i, none⟩))) (by kernel_rfl) (by kernel_rfl) ?_) ?_
  · (intro W hSw; obtain ⟨s0, s1⟩ := hX _ hSw; clear hSw hHeld; go_simp)
  refine Rg.two (ops := (Rg.opsOf Tryz.f48 21)) (i := 0) (j := 11) (by kernel_rfl) ?_ ?_
  · refine Rg.op_bld (ops := (Rg.opsOf Tryz.f48 21)) 0 (some 155) (T := 59) (len := 0) (parts := #[]) (vs := #[]) (v := (.slice (some ⟨w.drew.heap.size, 0, none⟩) 0 0)) (w1 := w.drew.alloc (.cells #[] 9)) (by kernel_rfl) (by kernel_rfl) (by kernel_rfl) (by kernel_rfl) (by kernel_rfl) ?_ (hAl _ _ hHeld) (fun hHeld => ?_)
    · (clear hHeld; go_simp)
    refine Rg.two (ops := (Rg.opsOf Tryz.f48 21)) (i := 6) (j := 11) (by kernel_rfl) ?_ ?_
    · refine Rg.op_app (ops := (Rg.opsOf Tryz.f48 21)) 6 (some 161) (T := 59) (x := (Operand.tmp 155)) (y := (Operand.tmp 160)) (vx := (.slice (some ⟨w.drew.heap.size, 0, none⟩) 0 0)) (vy := (.slice (some ⟨gb, ob, none⟩) l.length cb)) (by kernel_rfl) (by kernel_rfl) (by kernel_rfl) (by kernel_rfl) (by kernel_rfl) (by kernel_rfl) ?_
      intro ty
      have o0 : Lo (w.drew.alloc (.cells #[] 9)) B (.slice (some ⟨w.drew.heap.size, 0, none⟩) 0 0) [] := (own_new _ B hB0)
      obtain ⟨v6, w6, e6, o6, g6⟩ := app_lo (w.drew.alloc (.cells #[] 9)) B (.slice (some ⟨w.drew.heap.size, 0, none⟩) 0 0) [] l o0 gb ob cb (hX _ hHeld).2.2 (by simp only [List.length_nil]; omega) (Nat.le_trans hB0 (by go_simp <;> omega)) ty
      have x6 : X w6 := hAp _ _ hHeld g6 (fun q hq => (o0.lt q hq).1)
      refine ⟨v6, w6, e6, x6, fun hHeld => ?_⟩
      refine Rg.bld (ops := (Rg.opsOf Tryz.f48 21)) 11 (some 166) (T := 59) (len := 1) (parts := #[(0, Operand.tmp 165)]) (vs := #[(0, (.string x))]) (v := (.slice (some ⟨w6.heap.size, 0, none⟩) 1 1)) (w1 := w6.alloc (.cells #[.string x] 9)) (by kernel_rfl) (by kernel_rfl) (by kernel_rfl) (by kernel_rfl) (by kernel_rfl) (by kernel_rfl) ?_ (hAl _ _ hHeld) (fun hHeld => ?_)
      · (clear hHeld; go_simp)
      refine Rg.app1 (ops := (Rg.opsOf Tryz.f48 21)) 12 (some 167) (T := 59) (x := (Operand.tmp 161)) (y := (Operand.tmp 166)) (vx := v6) (vy := (.slice (some ⟨w6.heap.size, 0, none⟩) 1 1)) (by kernel_rfl) (by kernel_rfl) (by kernel_rfl) (by kernel_rfl) (by kernel_rfl) (by kernel_rfl) (by kernel_rfl) ?_
      intro ty
      have hm : ∀ (k : Nat) y, [x][k]? = some y → (w6.alloc (.cells #[.string x] 9)).cell? ⟨w6.heap.size, 0 + k, none⟩ = some (.string y) := one_cell (cell_one_new _ _ _)
      have hb : B ≤ (w6.alloc (.cells #[.string x] 9)).heap.size := Nat.le_trans hB0 (Nat.le_trans (Nat.le_trans (by go_simp <;> omega) g6.size) (by go_simp <;> omega))
      obtain ⟨v8, w8, e8, o8, g8⟩ := app_lo (w6.alloc (.cells #[.string x] 9)) B v6 l [x] (World.ownsRow.alloc o6 _) w6.heap.size 0 1 hm (by simp only [List.length_singleton]; omega) hb ty
      have x8 : X w8 := hAp _ _ hHeld g8 (fun q hq => (o6.lt q hq).1)
      refine ⟨v8, w8, e8, x8, fun hHeld => ?_⟩
      refine Rg.take (ops := (Rg.opsOf Tryz.f48 21)) 13 (some 19) (v8) hNS (by kernel_rfl) (by kernel_rfl) (by kernel_rfl) (by kernel_rfl) (by kernel_rfl) hHeld (Rg.y_move (x := (Operand.tmp 167)) (Or.inr (by kernel_rfl)) (by kernel_rfl)) ?_
      refine Rg.done (ops := (Rg.opsOf Tryz.f48 21)) (by kernel_rfl) ?_
      exact ⟨(.slice (some ⟨w.drew.heap.size, 0, none⟩) 0 0), v6, (.slice (some ⟨w6.heap.size, 0, none⟩) 1 1), v8, by kernel_rfl, by simpa using o8, hHeld⟩
    · refine Rg.op_bld (ops := (Rg.opsOf Tryz.f48 21)) 11 (some 166) (T := 59) (len := 1) (parts := #[(0, Operand.tmp 165)]) (vs := #[(0, (.string x))]) (v := (.slice (some ⟨(w.drew.alloc (.cells #[] 9)).heap.size, 0, none⟩) 1 1)) (w1 := (w.drew.alloc (.cells #[] 9)).alloc (.cells #[.string x] 9)) (by kernel_rfl) (by kernel_rfl) (by kernel_rfl) (by kernel_rfl) (by kernel_rfl) ?_ (hAl _ _ hHeld) (fun hHeld => ?_)
      · (clear hHeld; go_simp)
      refine Rg.app1 (ops := (Rg.opsOf Tryz.f48 21)) 6 (some 161) (T := 59) (x := (Operand.tmp 155)) (y := (Operand.tmp 160)) (vx := (.slice (some ⟨w.drew.heap.size, 0, none⟩) 0 0)) (vy := (.slice (some ⟨gb, ob, none⟩) l.length cb)) (by kernel_rfl) (by kernel_rfl) (by kernel_rfl) (by kernel_rfl) (by kernel_rfl) (by kernel_rfl) (by kernel_rfl) ?_
      intro ty
      have o0 : Lo ((w.drew.alloc (.cells #[] 9)).alloc (.cells #[.string x] 9)) B (.slice (some ⟨w.drew.heap.size, 0, none⟩) 0 0) [] := (by first | exact World.ownsRow.alloc (own_new _ B hB0) _ | exact own_new _ B hB1)
      obtain ⟨v6, w6, e6, o6, g6⟩ := app_lo ((w.drew.alloc (.cells #[] 9)).alloc (.cells #[.string x] 9)) B (.slice (some ⟨w.drew.heap.size, 0, none⟩) 0 0) [] l o0 gb ob cb (hX _ hHeld).2.2 (by simp only [List.length_nil]; omega) (Nat.le_trans hB0 (by go_simp <;> omega)) ty
      have x6 : X w6 := hAp _ _ hHeld g6 (fun q hq => (o0.lt q hq).1)
      refine ⟨v6, w6, e6, x6, fun hHeld => ?_⟩
      refine Rg.app1 (ops := (Rg.opsOf Tryz.f48 21)) 12 (some 167) (T := 59) (x := (Operand.tmp 161)) (y := (Operand.tmp 166)) (vx := v6) (vy := (.slice (some ⟨(w.drew.alloc (.cells #[] 9)).heap.size, 0, none⟩) 1 1)) (by kernel_rfl) (by kernel_rfl) (by kernel_rfl) (by kernel_rfl) (by kernel_rfl) (by kernel_rfl) (by kernel_rfl) ?_
      intro ty
      have hm : ∀ (k : Nat) y, [x][k]? = some y → w6.cell? ⟨(w.drew.alloc (.cells #[] 9)).heap.size, 0 + k, none⟩ = some (.string y) := one_cell ((World.cell?_of_block (a := ⟨(w.drew.alloc (.cells #[] 9)).heap.size, 0, none⟩) (g6.block _ (by go_simp) (by simp [Value.ownBlock]))).trans (by go_simp))
      have hb : B ≤ w6.heap.size := Nat.le_trans hB0 (Nat.le_trans (Nat.le_trans (by go_simp <;> omega) g6.size) (by go_simp <;> omega))
      obtain ⟨v8, w8, e8, o8, g8⟩ := app_lo w6 B v6 l [x] o6 (w.drew.alloc (.cells #[] 9)).heap.size 0 1 hm (by simp only [List.length_singleton]; omega) hb ty
      have x8 : X w8 := hAp _ _ hHeld g8 (fun q hq => (o6.lt q hq).1)
      refine ⟨v8, w8, e8, x8, fun hHeld => ?_⟩
      refine Rg.take (ops := (Rg.opsOf Tryz.f48 21)) 13 (some 19) (v8) hNS (by kernel_rfl) (by kernel_rfl) (by kernel_rfl) (by kernel_rfl) (by kernel_rfl) hHeld (Rg.y_move (x := (Operand.tmp 167)) (Or.inr (by kernel_rfl)) (by kernel_rfl)) ?_
      refine Rg.done (ops := (Rg.opsOf Tryz.f48 21)) (by kernel_rfl) ?_
      exact ⟨(.slice (some ⟨w.drew.heap.size, 0, none⟩) 0 0), v6, (.slice (some ⟨(w.drew.alloc (.cells #[] 9)).heap.size, 0, none⟩) 1 1), v8, by kernel_rfl, by simpa using o8, hHeld⟩
  · refine Rg.op_bld (ops := (Rg.opsOf Tryz.f48 21)) 11 (some 166) (T := 59) (len := 1) (parts := #[(0, Operand.tmp 165)]) (vs := #[(0, (.string x))]) (v := (.slice (some ⟨w.drew.heap.size, 0, none⟩) 1 1)) (w1 := w.drew.alloc (.cells #[.string x] 9)) (by kernel_rfl) (by kernel_rfl) (by kernel_rfl) (by kernel_rfl) (by kernel_rfl) ?_ (hAl _ _ hHeld) (fun hHeld => ?_)
    · (clear hHeld; go_simp)
    refine Rg.bld (ops := (Rg.opsOf Tryz.f48 21)) 0 (some 155) (T := 59) (len := 0) (parts := #[]) (vs := #[]) (v := (.slice (some ⟨(w.drew.alloc (.cells #[.string x] 9)).heap.size, 0, none⟩) 0 0)) (w1 := (w.drew.alloc (.cells #[.string x] 9)).alloc (.cells #[] 9)) (by kernel_rfl) (by kernel_rfl) (by kernel_rfl) (by kernel_rfl) (by kernel_rfl) (by kernel_rfl) ?_ (hAl _ _ hHeld) (fun hHeld => ?_)
    · (clear hHeld; go_simp)
    refine Rg.app1 (ops := (Rg.opsOf Tryz.f48 21)) 6 (some 161) (T := 59) (x := (Operand.tmp 155)) (y := (Operand.tmp 160)) (vx := (.slice (some ⟨(w.drew.alloc (.cells #[.string x] 9)).heap.size, 0, none⟩) 0 0)) (vy := (.slice (some ⟨gb, ob, none⟩) l.length cb)) (by kernel_rfl) (by kernel_rfl) (by kernel_rfl) (by kernel_rfl) (by kernel_rfl) (by kernel_rfl) (by kernel_rfl) ?_
    intro ty
    have o0 : Lo ((w.drew.alloc (.cells #[.string x] 9)).alloc (.cells #[] 9)) B (.slice (some ⟨(w.drew.alloc (.cells #[.string x] 9)).heap.size, 0, none⟩) 0 0) [] := (by first | exact World.ownsRow.alloc (own_new _ B hB0) _ | exact own_new _ B hB1)
    obtain ⟨v6, w6, e6, o6, g6⟩ := app_lo ((w.drew.alloc (.cells #[.string x] 9)).alloc (.cells #[] 9)) B (.slice (some ⟨(w.drew.alloc (.cells #[.string x] 9)).heap.size, 0, none⟩) 0 0) [] l o0 gb ob cb (hX _ hHeld).2.2 (by simp only [List.length_nil]; omega) (Nat.le_trans hB0 (by go_simp <;> omega)) ty
    have x6 : X w6 := hAp _ _ hHeld g6 (fun q hq => (o0.lt q hq).1)
    refine ⟨v6, w6, e6, x6, fun hHeld => ?_⟩
    refine Rg.app1 (ops := (Rg.opsOf Tryz.f48 21)) 12 (some 167) (T := 59) (x := (Operand.tmp 161)) (y := (Operand.tmp 166)) (vx := v6) (vy := (.slice (some ⟨w.drew.heap.size, 0, none⟩) 1 1)) (by kernel_rfl) (by kernel_rfl) (by kernel_rfl) (by kernel_rfl) (by kernel_rfl) (by kernel_rfl) (by kernel_rfl) ?_
    intro ty
    have hm : ∀ (k : Nat) y, [x][k]? = some y → w6.cell? ⟨w.drew.heap.size, 0 + k, none⟩ = some (.string y) := one_cell ((World.cell?_of_block (a := ⟨w.drew.heap.size, 0, none⟩) (g6.block _ (by go_simp) (by simp [Value.ownBlock]))).trans (by go_simp))
    have hb : B ≤ w6.heap.size := Nat.le_trans hB0 (Nat.le_trans (Nat.le_trans (by go_simp <;> omega) g6.size) (by go_simp <;> omega))
    obtain ⟨v8, w8, e8, o8, g8⟩ := app_lo w6 B v6 l [x] o6 w.drew.heap.size 0 1 hm (by simp only [List.length_singleton]; omega) hb ty
    have x8 : X w8 := hAp _ _ hHeld g8 (fun q hq => (o6.lt q hq).1)
    refine ⟨v8, w8, e8, x8, fun hHeld => ?_⟩
    refine Rg.take (ops := (Rg.opsOf Tryz.f48 21)) 13 (some 19) (v8) hNS (by kernel_rfl) (by kernel_rfl) (by kernel_rfl) (by kernel_rfl) (by kernel_rfl) hHeld (Rg.y_move (x := (Operand.tmp 167)) (Or.inr (by kernel_rfl)) (by kernel_rfl)) ?_
    refine Rg.done (ops := (Rg.opsOf Tryz.f48 21)) (by kernel_rfl) ?_
    exact ⟨(.slice (some ⟨(w.drew.alloc (.cells #[.string x] 9)).heap.size, 0, none⟩) 0 0), v6, (.slice (some ⟨w.drew.heap.size, 0, none⟩) 1 1), v8, by kernel_rfl, by simpa using o8, hHeld⟩
end Go.Proofs.YtkenmldiojeooaaGreat.Mg

namespace Go.Proofs.YtkenmldiojeooaaGreat.Mg
open Go.RowKit Go.ChangeShapes Go.WideShapes Tx Um Ud Aq Km Kd Lm Ln
set_option linter.unusedVariables false
def Txt3 (pt mo co ma ca mb cb : Nat) (Ao Aa Ab : Option Addr) (W : World) : Prop := W.cell? ⟨pt, 0, none⟩ = some (.slice Ao mo co) ∧ W.cell? ⟨pt, 1, none⟩ = some (.slice Aa ma ca) ∧ W.cell? ⟨pt, 2, none⟩ = some (.slice Ab mb cb)
set_option maxRecDepth 100000 in
set_option maxHeartbeats 4000000 in
theorem longReg (ops : Array Oper) (hops : ops = (Rg.opsOf Tryz.f65 3)) (id : Nat) (pt pf pg mo co ma ca mb cb no lo na la nb lb : Nat) (Ao Aa Ab Eo Ea Eb : Option Addr) (st : Bool) (f t : Tr) (vL : Value) {u1 u3 u4 u5 u7 u10 u11 u12 u13 u14 u15 u16 u17 u18 u19 u20 u21 u22 u23 u24 u25 u26 u27 u28 u29 u30 u31 u32 u33 u34 u35 u36 u37 u38 u39 u40 u41 u42 u43 : Value} (w : World) (X : World → Prop) (Y1 Y2 Y3 : World → World → Value → Prop) (Z : Value → World → Prop)
    (hX0 : ∀ W, X W → Txt3 pt mo co ma ca mb cb Ao Aa Ab W ∧ Thr pf f W ∧ Thr pg t W) (hw : X w.drew) (hXa : ∀ W o, X W → X (W.alloc o))
    (S1 : ∀ W : World, (Instr.slice 59 (.slice Ao mo co) (some (.int .i64 (f.1 : Int))) (some (.int .i64 (t.1 : Int))) none).run Tryz.prog W = .ok (.slice Eo no lo) W)
    (S2 : ∀ W : World, (Instr.slice 59 (.slice Aa ma ca) (some (.int .i64 (f.2.1 : Int))) (some (.int .i64 (t.2.1 : Int))) none).run Tryz.prog W = .ok (.slice Ea na la) W)
    (S3 : ∀ W : World, (Instr.slice 59 (.slice Ab mb cb) (some (.int .i64 (f.2.2 : Int))) (some (.int .i64 (t.2.2 : Int))) none).run Tryz.prog W = .ok (.slice Eb nb lb) W)
    (hA : ∀ W, X W → Calls Tryz.prog 95 #[.slice Eo no lo] W fun e w' => X w' ∧ ∃ Bo do_, e = .returned (.slice Bo no do_) ∧ Below W.heap.size W w' ∧ Y1 W w' (.slice Bo no do_))
    (hB : ∀ W, X W → Calls Tryz.prog 95 #[.slice Ea na la] W fun e w' => X w' ∧ ∃ Bo do_, e = .returned (.slice Bo na do_) ∧ Below W.heap.size W w' ∧ Y2 W w' (.slice Bo na do_))
    (hC : ∀ W, X W → Calls Tryz.prog 95 #[.slice Eb nb lb] W fun e w' => X w' ∧ ∃ Bo do_, e = .returned (.slice Bo nb do_) ∧ Below W.heap.size W w' ∧ Y3 W w' (.slice Bo nb do_))
    (hE : ∀ w5 w6 w7 Bo do_ Ba da Bb db, X w5 → Below w.drew.heap.size w.drew w5 → Y1 w.drew w5 (.slice Bo no do_) → X w6 → Below w5.heap.size w5 w6 → Y2 w5 w6 (.slice Ba na da) → X w7 → Below w6.heap.size w6 w7 → Y3 w6 w7 (.slice Bb nb db) → ∀ ty, ∃ v8 w8, (Builtin.append_ #[68, 68] ty #[vL, .slice (some ⟨w7.heap.size, 0, none⟩) 1 1]).run Tryz.prog (w7.alloc (.cells #[.bool st, .slice Bo no do_, .slice Ba na da, .slice Bb nb db] 76)) = .ok v8 w8 ∧ X w8 ∧ Z v8 w8) :
    (Code.region id ops true).wp Tryz.prog (Rg.Only fun a' w' => ∃ (v8 : Value) (Bo : Option Addr) (do_ : Nat) (Ba : Option Addr) (da : Nat) (Bb : Option Addr) (db g7 : Nat), a' = ⟨#[vL, u1, (.bool st), u3, u4, u5, (.pointer (some ⟨pt, 0, none⟩)), u7, (.pointer (some ⟨pf, 0, none⟩)), (.pointer (some ⟨pg, 0, none⟩)), v8, u11, u12, u13, u14, vL, (.bool st), (.pointer (some ⟨pt, 0, none⟩)), (.slice Ao mo co), (.pointer (some ⟨pf, 0, none⟩)), (.int .i64 (f.1 : Int)), (.pointer (some ⟨pg, 0, none⟩)), (.int .i64 (t.1 : Int)), (.slice Eo no lo), (.slice Bo no do_), (.pointer (some ⟨pt, 1, none⟩)), (.slice Aa ma ca), (.pointer (some ⟨pf, 1, none⟩)), (.int .i64 (f.2.1 : Int)), (.pointer (some ⟨pg, 1, none⟩)), (.int .i64 (t.2.1 : Int)), (.slice Ea na la), (.slice Ba na da), (.pointer (some ⟨pt, 2, none⟩)), (.slice Ab mb cb), (.pointer (some ⟨pf, 2, none⟩)), (.int .i64 (f.2.2 : Int)), (.pointer (some ⟨pg, 2, none⟩)), (.int .i64 (t.2.2 : Int)), (.slice Eb nb lb), (.slice Bb nb db), (.agg #[.bool st, .slice Bo no do_, .slice Ba na da, .slice Bb nb db]), (.slice (some ⟨g7, 0, none⟩) 1 1), v8], []⟩ ∧ Z v8 w') ⟨#[vL, u1, (.bool st), u3, u4, u5, (.pointer (some ⟨pt, 0, none⟩)), u7, (.pointer (some ⟨pf, 0, none⟩)), (.pointer (some ⟨pg, 0, none⟩)), u10, u11, u12, u13, u14, u15, u16, u17, u18, u19, u20, u21, u22, u23, u24, u25, u26, u27, u28, u29, u30, u31, u32, u33, u34, u35, u36, u37, u38, u39, u40, u41, u42, u43], []⟩ w := by
  subst hops
  have hX : ∀ W, X W → W.cell? ⟨pt, 0, none⟩ = some (.slice Ao mo co) ∧ W.cell? ⟨pt, 1, none⟩ = some (.slice Aa ma ca) ∧ W.cell? ⟨pt, 2, none⟩ = some (.slice Ab mb cb) ∧ W.cell? ⟨pf, 0, none⟩ = some (.int .i64 (f.1 : Int)) ∧ W.cell? ⟨pf, 1, none⟩ = some (.int .i64 (f.2.1 : Int)) ∧ W.cell? ⟨pf, 2, none⟩ = some (.int .i64 (f.2.2 : Int)) ∧ W.cell? ⟨pg, 0, none⟩ = some (.int .i64 (t.1 : Int)) ∧ W.cell? ⟨pg, 1, none⟩ = some (.int .i64 (t.2.1 : Int)) ∧ W.cell? ⟨pg, 2, none⟩ = some (.int .i64 (t.2.2 : Int)) := fun W h => by
    obtain ⟨⟨a0, a1, a2⟩, ⟨b0, b1, b2⟩, c0, c1, c2⟩ := hX0 W h
    exact ⟨a0, a1, a2, b0, b1, b2, c0, c1, c2⟩
  clear hX0
  have hNS : Region.noSelect (Rg.opsOf Tryz.f65 3) = true := by kernel_rfl
  refine wp_region_held_drew (S := X) (by kernel_rfl) hw (fun hHeld => ?_)
  rw [show (Rg.opsOf Tryz.f65 3).size = 30 by kernel_rfl]
  refine Rg.take (ops := (Rg.opsOf Tryz.f65 3)) 0 (some 15) (vL) hNS (by kernel_rfl) (by kernel_rfl) (by kernel_rfl) (by kernel_rfl) (by kernel_rfl) hHeld (Rg.y_move (x := (Operand.tmp 0)) (Or.inl (by kernel_rfl)) (by kernel_rfl)) ?_
  refine Rg.take (ops := (Rg.opsOf Tryz.f65 3)) 1 (some 16) ((.bool st)) hNS (by kernel_rfl) (by kernel_rfl) (by kernel_rfl) (by kernel_rfl) (by kernel_rfl) hHeld (Rg.y_move (x := (Operand.tmp 2)) (Or.inl (by kernel_rfl)) (by kernel_rfl)) ?_
  refine Rg.take (ops := (Rg.opsOf Tryz.f65 3)) 2 (some 17) ((.pointer (some ⟨pt, 0, none⟩))) hNS (by kernel_rfl) (by kernel_rfl) (by kernel_rfl) (by kernel_rfl) (by kernel_rfl) hHeld (Rg.y_at (T := 97) (x := (Operand.tmp 6)) (y := (Operand.const (Value.int IntKind.i64 0))) (vx := (.pointer (some ⟨pt, 0, none⟩))) (vy := (Value.int IntKind.i64 0)) (by kernel_rfl) (by kernel_rfl) (by kernel_rfl) ?_) ?_
  · (intro W hSw; clear hSw hHeld; go_simp)
  refine Rg.take (ops := (Rg.opsOf Tryz.f65 3)) 3 (some 18) ((.slice Ao mo co)) hNS (by kernel_rfl) (by kernel_rfl) (by kernel_rfl) (by kernel_rfl) (by kernel_rfl) hHeld (Rg.y_load (T := 59) (x := (Operand.tmp 17)) (vx := (.pointer (some ⟨pt, 0, none⟩))) (by kernel_rfl) (by kernel_rfl) ?_) ?_
  · (intro W hSw; obtain ⟨s0, s1, s2, s3, s4, s5, s6, s7, s8⟩ := hX _ hSw; clear hSw hHeld; go_simp)
  refine Rg.take (ops := (Rg.opsOf Tryz.f65 3)) 4 (some 19) ((.pointer (some ⟨pf, 0, none⟩))) hNS (by kernel_rfl) (by kernel_rfl) (by kernel_rfl) (by kernel_rfl) (by kernel_rfl) hHeld (Rg.y_at (T := 104) (x := (Operand.tmp 8)) (y := (Operand.const (Value.int IntKind.i64 0))) (vx := (.pointer (some ⟨pf, 0, none⟩))) (vy := (Value.int IntKind.i64 0)) (by kernel_rfl) (by kernel_rfl) (by kernel_rfl) ?_) ?_
  · (intro W hSw; clear hSw hHeld; go_simp)
  refine Rg.take (ops := (Rg.opsOf Tryz.f65 3)) 5 (some 20) ((.int .i64 (f.1 : Int))) hNS (by kernel_rfl) (by kernel_rfl) (by kernel_rfl) (by kernel_rfl) (by kernel_rfl) hHeld (Rg.y_load (T := 3) (x := (Operand.tmp 19)) (vx := (.pointer (some ⟨pf, 0, none⟩))) (by kernel_rfl) (by kernel_rfl) ?_) ?_
  · (intro W hSw; obtain ⟨s0, s1, s2, s3, s4, s5, s6, s7, s8⟩ := hX _ hSw; clear hSw hHeld; go_simp)
  refine Rg.take (ops := (Rg.opsOf Tryz.f65 3)) 6 (some 21) ((.pointer (some ⟨pg, 0, none⟩))) hNS (by kernel_rfl) (by kernel_rfl) (by kernel_rfl) (by kernel_rfl) (by kernel_rfl) hHeld (Rg.y_at (T := 104) (x := (Operand.tmp 9)) (y := (Operand.const (Value.int IntKind.i64 0))) (vx := (.pointer (some ⟨pg, 0, none⟩))) (vy := (Value.int IntKind.i64 0)) (by kernel_rfl) (by kernel_rfl) (by kernel_rfl) ?_) ?_
  · (intro W hSw; clear hSw hHeld; go_simp)
  refine Rg.take (ops := (Rg.opsOf Tryz.f65 3)) 7 (some 22) ((.int .i64 (t.1 : Int))) hNS (by kernel_rfl) (by kernel_rfl) (by kernel_rfl) (by kernel_rfl) (by kernel_rfl) hHeld (Rg.y_load (T := 3) (x := (Operand.tmp 21)) (vx := (.pointer (some ⟨pg, 0, none⟩))) (by kernel_rfl) (by kernel_rfl) ?_) ?_
  · (intro W hSw; obtain ⟨s0, s1, s2, s3, s4, s5, s6, s7, s8⟩ := hX _ hSw; clear hSw hHeld; go_simp)
  refine Rg.take (ops := (Rg.opsOf Tryz.f65 3)) 8 (some 23) ((.slice Eo no lo)) hNS (by kernel_rfl) (by kernel_rfl) (by kernel_rfl) (by kernel_rfl) (by kernel_rfl) hHeld (Rg.y_sl2 (T := 59) (x := (Operand.tmp 18)) (l := (Operand.tmp 20)) (h := (Operand.tmp 22)) (vx := (.slice Ao mo co)) (vl := (.int .i64 (f.1 : Int))) (vh := (.int .i64 (t.1 : Int))) (by kernel_rfl) (by kernel_rfl) (by kernel_rfl) (by kernel_rfl) ?_) ?_
  · (intro W hSw; clear hSw hHeld; rw [run_sliceAt_slice _ _ _ _ _ _ (by kernel_rfl)]; exact S1 W)
  refine Rg.take (ops := (Rg.opsOf Tryz.f65 3)) 10 (some 25) ((.pointer (some ⟨pt, 1, none⟩))) hNS (by kernel_rfl) (by kernel_rfl) (by kernel_rfl) (by kernel_rfl) (by kernel_rfl) hHeld (Rg.y_at (T := 97) (x := (Operand.tmp 6)) (y := (Operand.const (Value.int IntKind.i64 1))) (vx := (.pointer (some ⟨pt, 0, none⟩))) (vy := (Value.int IntKind.i64 1)) (by kernel_rfl) (by kernel_rfl) (by kernel_rfl) ?_) ?_
  · (intro W hSw; clear hSw hHeld; go_simp)
  refine Rg.take (ops := (Rg.opsOf Tryz.f65 3)) 11 (some 26) ((.slice Aa ma ca)) hNS (by kernel_rfl) (by kernel_rfl) (by kernel_rfl) (by kernel_rfl) (by kernel_rfl) hHeld (Rg.y_load (T := 59) (x := (Operand.tmp 25)) (vx := (.pointer (some ⟨pt, 1, none⟩))) (by kernel_rfl) (by kernel_rfl) ?_) ?_
  · (intro W hSw; obtain ⟨s0, s1, s2, s3, s4, s5, s6, s7, s8⟩ := hX _ hSw; clear hSw hHeld; go_simp)
  refine Rg.take (ops := (Rg.opsOf Tryz.f65 3)) 12 (some 27) ((.pointer (some ⟨pf, 1, none⟩))) hNS (by kernel_rfl) (by kernel_rfl) (by kernel_rfl) (by kernel_rfl) (by kernel_rfl) hHeld (Rg.y_at (T := 104) (x := (Operand.tmp 8)) (y := (Operand.const (Value.int IntKind.i64 1))) (vx := (.pointer (some ⟨pf, 0, none⟩))) (vy := (Value.int IntKind.i64 1)) (by kernel_rfl) (by kernel_rfl) (by kernel_rfl) ?_) ?_
  · (intro W hSw; clear hSw hHeld; go_simp)
  refine Rg.take (ops := (Rg.opsOf Tryz.f65 3)) 13 (some 28) ((.int .i64 (f.2.1 : Int))) hNS (by kernel_rfl) (by kernel_rfl) (by kernel_rfl) (by kernel_rfl) (by kernel_rfl) hHeld (Rg.y_load (T := 3) (x := (Operand.tmp 27)) (vx := (.pointer (some ⟨pf, 1, none⟩))) (by kernel_rfl) (by kernel_rfl) ?_) ?_
  · (intro W hSw; obtain ⟨s0, s1, s2, s3, s4, s5, s6, s7, s8⟩ := hX _ hSw; clear hSw hHeld; go_simp)
  refine Rg.take (ops := (Rg.opsOf Tryz.f65 3)) 14 (some 29) ((.pointer (some ⟨pg, 1, none⟩))) hNS (by kernel_rfl) (by kernel_rfl) (by kernel_rfl) (by kernel_rfl) (by kernel_rfl) hHeld (Rg.y_at (T := 104) (x := (Operand.tmp 9)) (y := (Operand.const (Value.int IntKind.i64 1))) (vx := (.pointer (some ⟨pg, 0, none⟩))) (vy := (Value.int IntKind.i64 1)) (by kernel_rfl) (by kernel_rfl) (by kernel_rfl) ?_) ?_
  · (intro W hSw; clear hSw hHeld; go_simp)
  refine Rg.take (ops := (Rg.opsOf Tryz.f65 3)) 15 (some 30) ((.int .i64 (t.2.1 : Int))) hNS (by kernel_rfl) (by kernel_rfl) (by kernel_rfl) (by kernel_rfl) (by kernel_rfl) hHeld (Rg.y_load (T := 3) (x := (Operand.tmp 29)) (vx := (.pointer (some ⟨pg, 1, none⟩))) (by kernel_rfl) (by kernel_rfl) ?_) ?_
  · (intro W hSw; obtain ⟨s0, s1, s2, s3, s4, s5, s6, s7, s8⟩ := hX _ hSw; clear hSw hHeld; go_simp)
  refine Rg.take (ops := (Rg.opsOf Tryz.f65 3)) 16 (some 31) ((.slice Ea na la)) hNS (by kernel_rfl) (by kernel_rfl) (by kernel_rfl) (by kernel_rfl) (by kernel_rfl) hHeld (Rg.y_sl2 (T := 59) (x := (Operand.tmp 26)) (l := (Operand.tmp 28)) (h := (Operand.tmp 30)) (vx := (.slice Aa ma ca)) (vl := (.int .i64 (f.2.1 : Int))) (vh := (.int .i64 (t.2.1 : Int))) (by kernel_rfl) (by kernel_rfl) (by kernel_rfl) (by kernel_rfl) ?_) ?_
  · (intro W hSw; clear hSw hHeld; rw [run_sliceAt_slice _ _ _ _ _ _ (by kernel_rfl)]; exact S2 W)
  refine Rg.take (ops := (Rg.opsOf Tryz.f65 3)) 18 (some 33) ((.pointer (some ⟨pt, 2, none⟩))) hNS (by kernel_rfl) (by kernel_rfl) (by kernel_rfl) (by kernel_rfl) (by kernel_rfl) hHeld (Rg.y_at (T := 97) (x := (Operand.tmp 6)) (y := (Operand.const (Value.int IntKind.i64 2))) (vx := (.pointer (some ⟨pt, 0, none⟩))) (vy := (Value.int IntKind.i64 2)) (by kernel_rfl) (by kernel_rfl) (by kernel_rfl) ?_) ?_
  · (intro W hSw; clear hSw hHeld; go_simp)
  refine Rg.take (ops := (Rg.opsOf Tryz.f65 3)) 19 (some 34) ((.slice Ab mb cb)) hNS (by kernel_rfl) (by kernel_rfl) (by kernel_rfl) (by kernel_rfl) (by kernel_rfl) hHeld (Rg.y_load (T := 59) (x := (Operand.tmp 33)) (vx := (.pointer (some ⟨pt, 2, none⟩))) (by kernel_rfl) (by kernel_rfl) ?_) ?_
  · (intro W hSw; obtain ⟨s0, s1, s2, s3, s4, s5, s6, s7, s8⟩ := hX _ hSw; clear hSw hHeld; go_simp)
  refine Rg.take (ops := (Rg.opsOf Tryz.f65 3)) 20 (some 35) ((.pointer (some ⟨pf, 2, none⟩))) hNS (by kernel_rfl) (by kernel_rfl) (by kernel_rfl) (by kernel_rfl) (by kernel_rfl) hHeld (Rg.y_at (T := 104) (x := (Operand.tmp 8)) (y := (Operand.const (Value.int IntKind.i64 2))) (vx := (.pointer (some ⟨pf, 0, none⟩))) (vy := (Value.int IntKind.i64 2)) (by kernel_rfl) (by kernel_rfl) (by kernel_rfl) ?_) ?_
  · (intro W hSw; clear hSw hHeld; go_simp)
  refine Rg.take (ops := (Rg.opsOf Tryz.f65 3)) 21 (some 36) ((.int .i64 (f.2.2 : Int))) hNS (by kernel_rfl) (by kernel_rfl) (by kernel_rfl) (by kernel_rfl) (by kernel_rfl) hHeld (Rg.y_load (T := 3) (x := (Operand.tmp 35)) (vx := (.pointer (some ⟨pf, 2, none⟩))) (by kernel_rfl) (by kernel_rfl) ?_) ?_
  · (intro W hSw; obtain ⟨s0, s1, s2, s3, s4, s5, s6, s7, s8⟩ := hX _ hSw; clear hSw hHeld; go_simp)
  refine Rg.take (ops := (Rg.opsOf Tryz.f65 3)) 22 (some 37) ((.pointer (some ⟨pg, 2, none⟩))) hNS (by kernel_rfl) (by kernel_rfl) (by kernel_rfl) (by kernel_rfl) (by kernel_rfl) hHeld (Rg.y_at (T := 104) (x := (Operand.tmp 9)) (y := (Operand.const (Value.int IntKind.i64 2))) (vx := (.pointer (some ⟨pg, 0, none⟩))) (vy := (Value.int IntKind.i64 2)) (by kernel_rfl) (by kernel_rfl) (by kernel_rfl) ?_) ?_
  · (intro W hSw; clear hSw hHeld; go_simp)
  refine Rg.take (ops := (Rg.opsOf Tryz.f65 3)) 23 (some 38) ((.int .i64 (t.2.2 : Int))) hNS (by kernel_rfl) (by kernel_rfl) (by kernel_rfl) (by kernel_rfl) (by kernel_rfl) hHeld (Rg.y_load (T := 3) (x := (Operand.tmp 37)) (vx := (.pointer (some ⟨pg, 2, none⟩))) (by kernel_rfl) (by kernel_rfl) ?_) ?_
  · (intro W hSw; obtain ⟨s0, s1, s2, s3, s4, s5, s6, s7, s8⟩ := hX _ hSw; clear hSw hHeld; go_simp)
  refine Rg.take (ops := (Rg.opsOf Tryz.f65 3)) 24 (some 39) ((.slice Eb nb lb)) hNS (by kernel_rfl) (by kernel_rfl) (by kernel_rfl) (by kernel_rfl) (by kernel_rfl) hHeld (Rg.y_sl2 (T := 59) (x := (Operand.tmp 34)) (l := (Operand.tmp 36)) (h := (Operand.tmp 38)) (vx := (.slice Ab mb cb)) (vl := (.int .i64 (f.2.2 : Int))) (vh := (.int .i64 (t.2.2 : Int))) (by kernel_rfl) (by kernel_rfl) (by kernel_rfl) (by kernel_rfl) ?_) ?_
  · (intro W hSw; clear hSw hHeld; rw [run_sliceAt_slice _ _ _ _ _ _ (by kernel_rfl)]; exact S3 W)
  refine Rg.call (ops := (Rg.opsOf Tryz.f65 3)) (fn := Tryz.f95) (xs := #[Operand.tmp 23]) (ats := #[59]) 9 (some 24) 95 #[(.slice Eo no lo)] (by kernel_rfl) (by kernel_rfl) (by kernel_rfl) (by kernel_rfl) (by kernel_rfl) Tryz.func95 (by kernel_rfl) (by kernel_rfl) (by kernel_rfl) ?_
  refine (hA _ hHeld).mono ?_
  rintro e w5 ⟨k5, Bo, do_, rfl, l5, h5⟩
  refine ⟨_, rfl, k5, fun hHeld => ?_⟩
  refine Rg.call (ops := (Rg.opsOf Tryz.f65 3)) (fn := Tryz.f95) (xs := #[Operand.tmp 31]) (ats := #[59]) 17 (some 32) 95 #[(.slice Ea na la)] (by kernel_rfl) (by kernel_rfl) (by kernel_rfl) (by kernel_rfl) (by kernel_rfl) Tryz.func95 (by kernel_rfl) (by kernel_rfl) (by kernel_rfl) ?_
  refine (hB _ hHeld).mono ?_
  rintro e w6 ⟨k6, Ba, da, rfl, l6, h6⟩
  refine ⟨_, rfl, k6, fun hHeld => ?_⟩
  refine Rg.call (ops := (Rg.opsOf Tryz.f65 3)) (fn := Tryz.f95) (xs := #[Operand.tmp 39]) (ats := #[59]) 25 (some 40) 95 #[(.slice Eb nb lb)] (by kernel_rfl) (by kernel_rfl) (by kernel_rfl) (by kernel_rfl) (by kernel_rfl) Tryz.func95 (by kernel_rfl) (by kernel_rfl) (by kernel_rfl) ?_
  refine (hC _ hHeld).mono ?_
  rintro e w7 ⟨k7, Bb, db, rfl, l7, h7⟩
  refine ⟨_, rfl, k7, fun hHeld => ?_⟩
  refine Rg.take (ops := (Rg.opsOf Tryz.f65 3)) 26 (some 41) ((.agg #[.bool st, .slice Bo no do_, .slice Ba na da, .slice Bb nb db])) hNS (by kernel_rfl) (by kernel_rfl) (by kernel_rfl) (by kernel_rfl) (by kernel_rfl) hHeld (Rg.y_build (T := 76) (parts := #[(0, Operand.tmp 16), (1, Operand.tmp 24), (2, Operand.tmp 32), (3, Operand.tmp 40)]) (vs := #[(0, (.bool st)), (1, (.slice Bo no do_)), (2, (.slice Ba na da)), (3, (.slice Bb nb db))]) (by kernel_rfl) (by kernel_rfl) ?_) ?_
  · (intro W hSw; clear hSw hHeld; go_simp)
  refine Rg.bld (ops := (Rg.opsOf Tryz.f65 3)) 27 (some 42) (T := 68) (len := 1) (parts := #[(0, Operand.tmp 41)]) (vs := #[(0, (.agg #[.bool st, .slice Bo no do_, .slice Ba na da, .slice Bb nb db]))]) (v := (.slice (some ⟨w7.heap.size, 0, none⟩) 1 1)) (w1 := w7.alloc (.cells #[.bool st, .slice Bo no do_, .slice Ba na da, .slice Bb nb db] 76)) (by kernel_rfl) (by kernel_rfl) (by kernel_rfl) (by kernel_rfl) (by kernel_rfl) (by kernel_rfl) ?_ (hXa _ _ k7) (fun hHeld => ?_)
  · (clear hHeld hE h5 h6 h7 k5 k6 k7 l5 l6 l7; go_simp)
  refine Rg.app1 (ops := (Rg.opsOf Tryz.f65 3)) 28 (some 43) (T := 68) (x := (Operand.tmp 15)) (y := (Operand.tmp 42)) (vx := vL) (vy := (.slice (some ⟨w7.heap.size, 0, none⟩) 1 1)) (by kernel_rfl) (by kernel_rfl) (by kernel_rfl) (by kernel_rfl) (by kernel_rfl) (by kernel_rfl) (by kernel_rfl) ?_
  intro ty
  obtain ⟨v8, w8, e8, h8, h9⟩ := hE w5 w6 w7 Bo do_ Ba da Bb db k5 l5 h5 k6 l6 h6 k7 l7 h7 ty
  refine ⟨v8, w8, e8, h8, fun hHeld => ?_⟩
  refine Rg.take (ops := (Rg.opsOf Tryz.f65 3)) 29 (some 10) (v8) hNS (by kernel_rfl) (by kernel_rfl) (by kernel_rfl) (by kernel_rfl) (by kernel_rfl) hHeld (Rg.y_move (x := (Operand.tmp 43)) (Or.inr (by kernel_rfl)) (by kernel_rfl)) ?_
  refine Rg.done (ops := (Rg.opsOf Tryz.f65 3)) (by kernel_rfl) ?_
  exact ⟨v8, Bo, do_, Ba, da, Bb, db, w7.heap.size, by kernel_rfl, h9⟩
end Go.Proofs.YtkenmldiojeooaaGreat.Mg

namespace Go.Proofs.YtkenmldiojeooaaGreat.Mg
open Go.RowKit Go.ChangeShapes Go.WideShapes Tx Um Ud Aq Km Kd Lm Ln
set_option linter.unusedVariables false
def Kq (w w1 : World) : Prop := ∀ (g : Nat) (cs : Array Value) (ty : TypeId) (fr : Nat × Nat), ty ≠ 76 → w.heap[g]? = some (Obj.cells cs ty fr) → w1.heap[g]? = some (Obj.cells cs ty fr)
theorem Kq.refl (w : World) : Kq w w := fun _ _ _ _ _ h => h
theorem Kq.trans {a b c : World} (h : Kq a b) (h2 : Kq b c) : Kq a c := fun g cs ty fr n x => h2 g cs ty fr n (h g cs ty fr n x)
theorem Kq.of_below {w w1 : World} (h : Below w.heap.size w w1) : Kq w w1 := fun g cs ty fr _ x => (h.block g (Array.getElem?_eq_some_iff.1 x).1).trans x
theorem Kq.kp {w w1 : World} (h : Kq w w1) : Kp w w1 := fun g cs fr x => h g cs _ fr (by decide) x
theorem Kq.drew (w : World) : Kq w w.drew := fun _ _ _ _ _ x => x
theorem Kq.alloc {w w1 : World} (h : Kq w w1) (o : Obj) : Kq w (w1.alloc o) := h.trans (.of_below ((Below.refl _ w1).alloc (Nat.le_refl _) o))
theorem Cs.kq {w w1 : World} {B : Nat} {v : Value} {cs : List Cc} (h : Cs w B v cs) (hg : w.grownBy w1 v.ownBlock) : Kq w w1 := by
  intro g cur ty fr hne x
  refine (hg.block g (Array.getElem?_eq_some_iff.1 x).1 fun e => ?_).trans x
  rcases h.2 with ⟨rfl, _⟩ | ⟨g1, cap, cur1, rfl, _, hh, _⟩
  · cases e
  · obtain rfl : g = g1 := by simpa [Value.ownBlock] using e
    rw [hh] at x
    injection x with x
    injection x with _ x _
    exact hne x.symm
def Bk (w : World) (g : Nat) (cs : Array Value) (ty : TypeId) : Prop := w.heap[g]? = some (.cells cs ty (0, 0))
theorem Bk.keep {w w1 : World} {g : Nat} {cs : Array Value} {ty : TypeId} (h : Bk w g cs ty) (hk : Kq w w1) (hne : ty ≠ 76) : Bk w1 g cs ty := hk g cs ty _ hne h
theorem Bk.below {w w1 : World} {g : Nat} {cs : Array Value} {ty : TypeId} {B : Nat} (h : Bk w g cs ty) (hb : Below B w w1) (hg : g < B) : Bk w1 g cs ty := (hb.block g hg).trans h
theorem Bk.lt {w : World} {g : Nat} {cs : Array Value} {ty : TypeId} (h : Bk w g cs ty) : g < w.heap.size := (Array.getElem?_eq_some_iff.1 h).1
theorem Bk.cell {w : World} {g : Nat} {cs : Array Value} {ty : TypeId} (h : Bk w g cs ty) (k : Nat) {u : Value} (hu : cs[k]? = some u) : w.cell? ⟨g, k, none⟩ = some u := by
  unfold Bk at h
  simp [World.cell?, h, hu]
theorem Bk.warm {w : World} {g : Nat} {cs : Array Value} {ty : TypeId} (h : Bk w g cs ty) (k : Nat) : w.frozen? ⟨g, k, none⟩ = false := by
  unfold Bk at h
  simp [World.frozen?, h]
theorem lo_keepP {w w1 : World} {B : Nat} {v : Value} {l : List ByteArray} (h : Lo w B v l) (hk : Kp w w1) : Lo w1 B v l := by
  refine ⟨h.1, ?_⟩
  rcases h.2 with h0 | ⟨g', cap', cur, hv, hg, hh, r⟩
  · exact .inl h0
  · exact .inr ⟨g', cap', cur, hv, hg, hk g' cur (0, 0) hh, r⟩
theorem vals3_snoc (cs : List Cc) (c : Cc) : vals3 (cs ++ [c]) = vals3 cs ++ [c.2.1, c.2.2.1, c.2.2.2] := by
  unfold vals3
  rw [List.flatMap_append]
  rfl
theorem OwnC.lt {w : World} {B : Nat} {cs : List Cc} {hs : List (Ck ByteArray)} (h : OwnC w B cs hs) (hl : cs.length = hs.length) {i : Nat} {u : Value} {g : Nat} (hu : (vals3 cs)[i]? = some u) (hg : u.ownBlock = some g) : B ≤ g ∧ g < w.heap.size := by
  obtain ⟨c, hc, hu2⟩ := List.mem_flatMap.1 (List.mem_iff_getElem?.2 ⟨i, hu⟩)
  obtain ⟨k, hk⟩ := List.mem_iff_getElem?.1 hc
  have hk2 := (List.getElem?_eq_some_iff.1 hk).1
  obtain ⟨h1, h2, h3⟩ := h.each k c hs[k] hk (List.getElem?_eq_getElem (by omega))
  simp only [List.mem_cons, List.not_mem_nil, or_false] at hu2
  rcases hu2 with rfl | rfl | rfl
  · exact World.ownsRow.lt h1 g hg
  · exact World.ownsRow.lt h2 g hg
  · exact World.ownsRow.lt h3 g hg
theorem OwnC.keep {w w1 : World} {B : Nat} {cs : List Cc} {hs : List (Ck ByteArray)} (h : OwnC w B cs hs) (hk : Kp w w1) : OwnC w1 B cs hs :=
  ⟨fun k c x h1 h2 => ⟨lo_keepP (h.each k c x h1 h2).1 hk, lo_keepP (h.each k c x h1 h2).2.1 hk, lo_keepP (h.each k c x h1 h2).2.2 hk⟩, h.far⟩
theorem OwnC.snoc {w w1 : World} {B m : Nat} {cs : List Cc} {hs : List (Ck ByteArray)} {c : Cc} {x : Ck ByteArray} (h : OwnC w1 B cs hs) (hl : cs.length = hs.length) (hm : ∀ (i : Nat) u g, (vals3 cs)[i]? = some u → u.ownBlock = some g → g < m)
    (h1 : Lo w1 m c.2.1 x.b) (h2 : Lo w1 m c.2.2.1 x.l) (h3 : Lo w1 m c.2.2.2 x.r) (hB : B ≤ m) (f1 : ∀ g, c.2.1.ownBlock = some g → c.2.2.1.ownBlock ≠ some g) (f2 : ∀ g, c.2.1.ownBlock = some g → c.2.2.2.ownBlock ≠ some g) (f3 : ∀ g, c.2.2.1.ownBlock = some g → c.2.2.2.ownBlock ≠ some g) : OwnC w1 B (cs ++ [c]) (hs ++ [x]) := by
  refine ⟨fun k d y hd hy => ?_, fun i j u v g hu hv hne e1 e2 => ?_⟩
  · by_cases hk : k < cs.length
    · rw [List.getElem?_append_left hk] at hd
      rw [List.getElem?_append_left (by omega)] at hy
      exact h.each k d y hd hy
    · have hd2 := (List.getElem?_eq_some_iff.1 hd).1
      rw [List.length_append, List.length_singleton] at hd2
      obtain rfl : k = cs.length := by omega
      rw [List.getElem?_append_right (Nat.le_refl _), Nat.sub_self] at hd
      rw [hl, List.getElem?_append_right (Nat.le_refl _), Nat.sub_self] at hy
      injection hd with hd
      injection hy with hy
      subst hd
      subst hy
      exact ⟨own_base h1 hB, own_base h2 hB, own_base h3 hB⟩
  · rw [vals3_snoc] at hu hv
    have key : ∀ (i : Nat) u, (vals3 cs ++ [c.2.1, c.2.2.1, c.2.2.2])[i]? = some u → (i < (vals3 cs).length ∧ (vals3 cs)[i]? = some u) ∨ (i = (vals3 cs).length ∧ u = c.2.1) ∨ (i = (vals3 cs).length + 1 ∧ u = c.2.2.1) ∨ (i = (vals3 cs).length + 2 ∧ u = c.2.2.2) := fun i u hu => by
      by_cases hi : i < (vals3 cs).length
      · rw [List.getElem?_append_left hi] at hu
        exact .inl ⟨hi, hu⟩
      · rw [List.getElem?_append_right (by omega)] at hu
        obtain ⟨d, hd⟩ : ∃ d, i = (vals3 cs).length + d := ⟨i - (vals3 cs).length, by omega⟩
        rw [hd, Nat.add_sub_cancel_left] at hu
        match d, hu with
        | 0, hu => injection hu with hu; exact .inr (.inl ⟨hd, hu.symm⟩)
        | 1, hu => injection hu with hu; exact .inr (.inr (.inl ⟨hd, hu.symm⟩))
        | 2, hu => injection hu with hu; exact .inr (.inr (.inr ⟨hd, hu.symm⟩))
    have g1 : ∀ {g}, c.2.1.ownBlock = some g → m ≤ g := fun e => (World.ownsRow.lt h1 _ e).1
    have g2 : ∀ {g}, c.2.2.1.ownBlock = some g → m ≤ g := fun e => (World.ownsRow.lt h2 _ e).1
    have g3 : ∀ {g}, c.2.2.2.ownBlock = some g → m ≤ g := fun e => (World.ownsRow.lt h3 _ e).1
    rcases key i u hu with ⟨i1, i2⟩ | ⟨i1, rfl⟩ | ⟨i1, rfl⟩ | ⟨i1, rfl⟩
    · rcases key j v hv with ⟨j1, j2⟩ | ⟨j1, rfl⟩ | ⟨j1, rfl⟩ | ⟨j1, rfl⟩
      · exact h.far i j u v g i2 j2 hne e1 e2
      · have := hm _ _ _ i2 e1; have := g1 e2; omega
      · have := hm _ _ _ i2 e1; have := g2 e2; omega
      · have := hm _ _ _ i2 e1; have := g3 e2; omega
    · rcases key j v hv with ⟨j1, j2⟩ | ⟨j1, rfl⟩ | ⟨j1, rfl⟩ | ⟨j1, rfl⟩
      · have := hm _ _ _ j2 e2; have := g1 e1; omega
      · omega
      · exact f1 g e1 e2
      · exact f2 g e1 e2
    · rcases key j v hv with ⟨j1, j2⟩ | ⟨j1, rfl⟩ | ⟨j1, rfl⟩ | ⟨j1, rfl⟩
      · have := hm _ _ _ j2 e2; have := g2 e1; omega
      · exact f1 g e2 e1
      · omega
      · exact f3 g e1 e2
    · rcases key j v hv with ⟨j1, j2⟩ | ⟨j1, rfl⟩ | ⟨j1, rfl⟩ | ⟨j1, rfl⟩
      · have := hm _ _ _ j2 e2; have := g3 e1; omega
      · exact f2 g e2 e1
      · exact f3 g e2 e1
      · omega
def Rwc (B : Nat) (w : World) (v : Value) (r : List (Ck ByteArray)) : Prop := ∃ cs, Cs w B v cs ∧ IsS w cs r.reverse ∧ OwnC w B cs r.reverse
theorem Rwc.nil (B : Nat) (w : World) : Rwc B w (.slice none 0 0) [] := ⟨[], cs_nil _ _, trivial, OwnC.nil _ _⟩
theorem Rwc.call {B : Nat} {w w1 : World} {v : Value} {r : List (Ck ByteArray)} (h : Rwc B w v r) (hb : Below w.heap.size w w1) : Rwc B w1 v r := by
  obtain ⟨cs, h1, h2, h3⟩ := h
  exact ⟨cs, h1.below hb, h2.keep (.of_below hb), h3.keep (.of_below hb)⟩
theorem Rwc.lt {B : Nat} {w : World} {v : Value} {r : List (Ck ByteArray)} (h : Rwc B w v r) : ∀ k, v.ownBlock = some k → B ≤ k ∧ k < w.heap.size := by
  obtain ⟨cs, h1, h2, h3⟩ := h
  exact h1.lt
theorem Rwc.kq {B : Nat} {w w1 : World} {v : Value} {r : List (Ck ByteArray)} (h : Rwc B w v r) (hg : w.grownBy w1 v.ownBlock) : Kq w w1 := by
  obtain ⟨cs, h1, h2, h3⟩ := h
  exact h1.kq hg
theorem Rwc.put {B : Nat} {w w5 w6 w7 : World} {v : Value} {r : List (Ck ByteArray)} (h : Rwc B w v r) (hB : B ≤ w.heap.size) (hl : r.length ≤ 1000000) (st : Bool) {v5 v6 v7 : Value} {l5 l6 l7 : List ByteArray}
    (b5 : Below w.heap.size w w5) (k5 : Lo w5 w.heap.size v5 l5) (b6 : Below w5.heap.size w5 w6) (k6 : Lo w6 w5.heap.size v6 l6) (b7 : Below w6.heap.size w6 w7) (k7 : Lo w7 w6.heap.size v7 l7) :
    ∀ ty, ∃ v8 w8, (Builtin.append_ #[68, 68] ty #[v, .slice (some ⟨w7.heap.size, 0, none⟩) 1 1]).run Tryz.prog (w7.alloc (.cells #[.bool st, v5, v6, v7] 76)) = .ok v8 w8 ∧ Kq w w8 ∧ Rwc B w8 v8 (⟨st, l5, l6, l7⟩ :: r) ∧ w.grownBy w8 v.ownBlock := by
  obtain ⟨cs, h1, h2, h3⟩ := h
  have hn := h2.len
  rw [List.length_reverse] at hn
  intro ty
  have b67 : Below w5.heap.size w5 w7 := b6.trans (b7.mono b6.size)
  have b57 : Below w.heap.size w w7 := b5.trans (b67.mono b5.size)
  have s5 := b5.size
  have s6 := b6.size
  have s7 := b7.size
  have c7 : Cs w7 B v cs := h1.below b57
  have one : ∀ {W : World} {m : Nat} {u : Value} {l : List ByteArray}, Lo W m u l → u.oneCell' = true := fun hh => (lo_rd hh).one
  obtain ⟨v8, w8, e, k1, k2⟩ := app_cs w7 B v cs c7 (st, v5, v6, v7) (one k5) (one k6) (one k7) (by omega) (by omega) ty
  have c8 : Cs (w7.alloc (.cells #[.bool st, v5, v6, v7] 76)) B v cs := World.ownsRow.alloc c7 _
  have kq7 : Kq w7 w8 := (Kq.of_below ((Below.refl _ w7).alloc (Nat.le_refl _) _)).trans (c8.kq k2)
  have kq : Kq w w8 := (Kq.of_below b57).trans kq7
  have q5 : Lo w8 w.heap.size v5 l5 := lo_keepP (k5.below b67) kq7.kp
  have q6 : Lo w8 w5.heap.size v6 l6 := lo_keepP (k6.below b7) kq7.kp
  have q7 : Lo w8 w6.heap.size v7 l7 := lo_keepP k7 kq7.kp
  refine ⟨v8, w8, e, kq, ⟨cs ++ [(st, v5, v6, v7)], k1, ?_, ?_⟩, ?_⟩
  · rw [List.reverse_cons]
    exact IsS.snoc ⟨rfl, ⟨lo_rd q5, lo_ty q5⟩, ⟨lo_rd q6, lo_ty q6⟩, ⟨lo_rd q7, lo_ty q7⟩⟩ (h2.keep kq.kp)
  · rw [List.reverse_cons]
    refine OwnC.snoc (w := w) (m := w.heap.size) (h3.keep kq.kp) (by rw [List.length_reverse]; exact hn) (fun i u g hu hg => (h3.lt (by rw [List.length_reverse]; exact hn) hu hg).2) q5 (own_base q6 s5) (own_base q7 (Nat.le_trans s5 s6)) hB ?_ ?_ ?_
    · intro g e1 e2
      have := (World.ownsRow.lt k5 g e1).2
      have := (World.ownsRow.lt q6 g e2).1
      omega
    · intro g e1 e2
      have := (World.ownsRow.lt k5 g e1).2
      have := (World.ownsRow.lt q7 g e2).1
      omega
    · intro g e1 e2
      have := (World.ownsRow.lt k6 g e1).2
      have := (World.ownsRow.lt q7 g e2).1
      omega
  · have ba : Below w.heap.size w (w7.alloc (.cells #[.bool st, v5, v6, v7] 76)) := b57.alloc b57.size _
    exact ⟨k2.os.trans ba.os, k2.tape.trans ba.tape, k2.output.trans ba.output, Nat.le_trans ba.size k2.size, fun k hk hne => (k2.block k (Nat.lt_of_lt_of_le hk ba.size) hne).trans (ba.block k hk)⟩
end Go.Proofs.YtkenmldiojeooaaGreat.Mg

namespace Go.Proofs.YtkenmldiojeooaaGreat.Mg
open Go.RowKit Go.ChangeShapes Go.WideShapes Tx Um Ud Aq Km Kd Lm Ln
set_option linter.unusedVariables false
structure Src (w : World) (A : Option Addr) (c : Nat) (l : List ByteArray) : Prop where
  strs : Strs w A l.length l
  ty : Ty w (.slice A l.length c)
  room : l.length ≤ c
  none_ : A = none → c = 0
theorem src_of {w : World} {B : Nat} {v : Value} {l : List ByteArray} (h : Lo w B v l) : ∃ A c, v = .slice A l.length c ∧ Src w A c l := by
  obtain ⟨A, c, rfl, h1, h2, h3, h4⟩ := lo_all h
  exact ⟨A, c, rfl, h1, h4, h3, h2⟩
theorem Src.keep {w w1 : World} {A : Option Addr} {c : Nat} {l : List ByteArray} (h : Src w A c l) (hk : Kp w w1) : Src w1 A c l := by
  refine ⟨?_, h.ty.keep hk, h.room, h.none_⟩
  obtain ⟨A', c', e, h1, _⟩ := rd_keep ⟨A, c, rfl, h.strs, h.none_⟩ h.ty hk
  injection e with e1 _ _
  rw [e1]
  exact h1
theorem Src.sub {w : World} {A : Option Addr} {c lo hi : Nat} {l : List ByteArray} (h : Src w A c l) (h1 : lo ≤ hi) (h2 : hi ≤ l.length) : ((l.take hi).drop lo).length = hi - lo ∧ ∃ A', sliced A lo hi c 1 = .slice A' (hi - lo) (c - lo) ∧ Src w A' (c - lo) ((l.take hi).drop lo) := by
  have e : ((l.take hi).drop lo).length = hi - lo := by rw [List.length_drop, List.length_take]; omega
  obtain ⟨A', k1, k2, k3⟩ := rd_room h.strs h1 h2 h.room h.none_
  have ht := ty_sub (lo := lo) (hi := hi) h.ty
  rw [k1] at ht
  have hr := h.room
  exact ⟨e, A', k1, ⟨by rw [e]; exact k2, by rw [e]; exact ht, by rw [e]; omega, k3⟩⟩
theorem grown_below {w w1 : World} (h : Below w.heap.size w w1) (row : Option Nat) : w.grownBy w1 row := ⟨h.os, h.tape, h.output, h.size, fun k hk _ => h.block k hk⟩
theorem grown_of2 {w w2 w3 : World} {row : Option Nat} (hb : Below w.heap.size w w2) (hg : w2.grownBy w3 row) : w.grownBy w3 row :=
  ⟨hg.os.trans hb.os, hg.tape.trans hb.tape, hg.output.trans hb.output, Nat.le_trans hb.size hg.size, fun k hk hne => (hg.block k (Nat.lt_of_lt_of_le hk hb.size) hne).trans (hb.block k hk)⟩
theorem clone_src {w0 w : World} {A : Option Addr} {c n : Nat} {l : List ByteArray} (h : Src w0 A c l) (hn : l.length = n) (hl : n ≤ 400) (hk : Kq w0 w) (X : World → Prop) (hX : ∀ w1, Below w.heap.size w w1 → X w1) :
    Calls Tryz.prog 95 #[.slice A n c] w fun e w' => X w' ∧ ∃ Bo do_, e = .returned (.slice Bo n do_) ∧ Below w.heap.size w w' ∧ Lo w' w.heap.size (.slice Bo n do_) l := by
  subst hn
  refine (kclone_any A l.length c l w (h.keep hk.kp).strs h.none_ (by omega)).mono ?_
  rintro e w1 ⟨v, rfl, h1, h2⟩
  obtain ⟨Bo, do_, rfl⟩ := h1.form
  exact ⟨hX _ h2, Bo, do_, rfl, h2, h1⟩
def LgTo (B : Nat) (v : Value) (r : List (Ck ByteArray)) (w : World) (e : Ending) (w' : World) : Prop := ∃ v', e = .returned v' ∧ Rwc B w' v' r ∧ w.grownBy w' v.ownBlock
abbrev ag3 (t : Tr) : Value := .agg #[.int .i64 (t.1 : Int), .int .i64 (t.2.1 : Int), .int .i64 (t.2.2 : Int)]
set_option maxRecDepth 100000 in
set_option maxHeartbeats 4000000 in
theorem longer_any (B : Nat) (v : Value) (r : List (Ck ByteArray)) (A C D : Option Addr) (co ca cb : Nat) (o a b : List ByteArray) (st : Bool) (f t : Tr) (w : World) (hR : Rwc B w v r) (hB : B ≤ w.heap.size) (hl : r.length ≤ 1000000)
    (sA : Src w A co o) (sC : Src w C ca a) (sD : Src w D cb b) (lo : o.length ≤ 400) (la : a.length ≤ 400) (lb : b.length ≤ 400)
    (f1 : f.1 ≤ t.1) (f2 : f.2.1 ≤ t.2.1) (f3 : f.2.2 ≤ t.2.2) (t1 : t.1 ≤ o.length) (t2 : t.2.1 ≤ a.length) (t3 : t.2.2 ≤ b.length) :
    Calls Tryz.prog 65 #[v, .agg #[.slice A o.length co, .slice C a.length ca, .slice D b.length cb], .bool st, ag3 f, ag3 t] w (LgTo B v (lg o a b st f t r) w) := by
  have hQ : ∀ W : World, (binOp .eql 104 (ag3 f) (ag3 t)).run Tryz.prog W = .ok (.bool (decide (f = t))) W := fun W => by
    rw [run_eql_struct, run_eql_three, three_eq]
    rfl
  have hQ2 : ∀ W : World, (Op.equalIn 10000 104 (ag3 f) (ag3 t)).run Tryz.prog W = .ok (decide (f = t)) W := fun W => by
    rw [run_eql_three, three_eq]
  have hG := guard3
  unfold ag3 at hQ hQ2 ⊢
  by_cases hft : f = t
  · have hd : decide (f = t) = true := decide_eq_true hft
    have HL : Hid (lg o a b st f t r = r) := by show _ = _; unfold lg; rw [if_pos hft]
    have HR := Lib.hid hR
    clear hft hR sA sC sD
    go_enter Tryz.func65, Tryz.ntmps65
    go_wp2_with fail
    go_ret
    have hb : ∀ W, W = ((w.alloc (.cells #[.slice A o.length co, .slice C a.length ca, .slice D b.length cb] 97)).alloc (.cells #[.int .i64 (f.1 : Int), .int .i64 (f.2.1 : Int), .int .i64 (f.2.2 : Int)] 104)).alloc (.cells #[.int .i64 (t.1 : Int), .int .i64 (t.2.1 : Int), .int .i64 (t.2.2 : Int)] 104) → Below w.heap.size w W := fun W e => by
      rw [e]
      exact (((Below.refl _ w).alloc (Nat.le_refl _) _).alloc (by simp) _).alloc (by simp; omega) _
    refine ⟨_, rfl, ?_, grown_below (hb _ rfl) _⟩
    rw [HL.out]
    exact HR.out.call (hb _ rfl)
  · have hd : decide (f = t) = false := decide_eq_false hft
    have HL : Hid (lg o a b st f t r = ⟨st, (o.take t.1).drop f.1, (a.take t.2.1).drop f.2.1, (b.take t.2.2).drop f.2.2⟩ :: r) := by show _ = _; unfold lg; rw [if_neg hft]
    obtain ⟨n1, Eo, x1, y1⟩ := sA.sub f1 t1
    obtain ⟨n2, Ea, x2, y2⟩ := sC.sub f2 t2
    obtain ⟨n3, Eb, x3, y3⟩ := sD.sub f3 t3
    have r1 := sA.room
    have r2 := sC.room
    have r3 := sD.room
    have S1 := fun W => slice_run14 A o.length co f.1 t.1 f1 (by omega) W
    have S2 := fun W => slice_run14 C a.length ca f.2.1 t.2.1 f2 (by omega) W
    have S3 := fun W => slice_run14 D b.length cb f.2.2 t.2.2 f3 (by omega) W
    simp only [x1] at S1
    simp only [x2] at S2
    simp only [x3] at S3
    have HR := Lib.hid hR
    have HS1 := Lib.hid S1
    have HS2 := Lib.hid S2
    have HS3 := Lib.hid S3
    have HN1 := Lib.hid n1
    have HN2 := Lib.hid n2
    have HN3 := Lib.hid n3
    have HY1 := Lib.hid y1
    have HY2 := Lib.hid y2
    have HY3 := Lib.hid y3
    clear hft hR sA sC sD S1 S2 S3 n1 n2 n3 x1 x2 x3 y1 y2 y3 r1 r2 r3
    go_enter Tryz.func65, Tryz.ntmps65
    go_wp2_with fail
    obtain ⟨W3, hW3⟩ : ∃ W3, W3 = ((w.alloc (.cells #[.slice A o.length co, .slice C a.length ca, .slice D b.length cb] 97)).alloc (.cells #[.int .i64 (f.1 : Int), .int .i64 (f.2.1 : Int), .int .i64 (f.2.2 : Int)] 104)).alloc (.cells #[.int .i64 (t.1 : Int), .int .i64 (t.2.1 : Int), .int .i64 (t.2.2 : Int)] 104) := ⟨_, rfl⟩
    have hb3 : Below w.heap.size w W3 := by rw [hW3]; exact (((Below.refl _ w).alloc (Nat.le_refl _) _).alloc (by simp) _).alloc (by simp; omega) _
    have a1 : ((w.alloc (.cells #[.slice A o.length co, .slice C a.length ca, .slice D b.length cb] 97)).alloc (.cells #[.int .i64 (f.1 : Int), .int .i64 (f.2.1 : Int), .int .i64 (f.2.2 : Int)] 104)).heap.size = w.heap.size + 1 + 1 := by simp
    have k1 : Bk W3 w.heap.size #[.slice A o.length co, .slice C a.length ca, .slice D b.length cb] 97 := by
      rw [hW3]
      exact (Below.heap_alloc _ _ _ (by rw [a1]; omega)).trans ((Below.heap_alloc _ _ _ (by simp)).trans (heap_alloc_new w _))
    have k2 : Bk W3 (w.heap.size + 1) #[.int .i64 (f.1 : Int), .int .i64 (f.2.1 : Int), .int .i64 (f.2.2 : Int)] 104 := by
      rw [hW3]
      refine (Below.heap_alloc _ _ _ (by rw [a1]; omega)).trans ?_
      have := heap_alloc_new (w.alloc (.cells #[.slice A o.length co, .slice C a.length ca, .slice D b.length cb] 97)) (.cells #[.int .i64 (f.1 : Int), .int .i64 (f.2.1 : Int), .int .i64 (f.2.2 : Int)] 104)
      simpa using this
    have k3 : Bk W3 (w.heap.size + 1 + 1) #[.int .i64 (t.1 : Int), .int .i64 (t.2.1 : Int), .int .i64 (t.2.2 : Int)] 104 := by
      rw [hW3, ← a1]
      exact heap_alloc_new _ _
    rw [← hW3]
    clear hW3 a1
    have hs3 := hb3.size
    have hq3 : Kq w W3 := .of_below hb3
    have hR3 : Rwc B W3.drew v r := (HR.out.call hb3).call (Below.refl _ _).drew
    refine Rg.wp_only ?_ (longReg _ (by kernel_rfl) _ w.heap.size (w.heap.size + 1) (w.heap.size + 1 + 1) o.length co a.length ca b.length cb (t.1 - f.1) (co - f.1) (t.2.1 - f.2.1) (ca - f.2.1) (t.2.2 - f.2.2) (cb - f.2.2) A C D Eo Ea Eb st f t v W3 (Kq W3)
      (fun W w' u => Lo w' W.heap.size u ((o.take t.1).drop f.1)) (fun W w' u => Lo w' W.heap.size u ((a.take t.2.1).drop f.2.1)) (fun W w' u => Lo w' W.heap.size u ((b.take t.2.2).drop f.2.2))
      (fun v8 w8 => Rwc B w8 v8 (⟨st, (o.take t.1).drop f.1, (a.take t.2.1).drop f.2.1, (b.take t.2.2).drop f.2.2⟩ :: r) ∧ W3.grownBy w8 v.ownBlock)
      (fun W hW => ⟨⟨(k1.keep hW (by decide)).cell 0 rfl, (k1.keep hW (by decide)).cell 1 rfl, (k1.keep hW (by decide)).cell 2 rfl⟩, ⟨(k2.keep hW (by decide)).cell 0 rfl, (k2.keep hW (by decide)).cell 1 rfl, (k2.keep hW (by decide)).cell 2 rfl⟩, ⟨(k3.keep hW (by decide)).cell 0 rfl, (k3.keep hW (by decide)).cell 1 rfl, (k3.keep hW (by decide)).cell 2 rfl⟩⟩)
      (Kq.drew W3) (fun W o h => h.alloc o) HS1.out HS2.out HS3.out
      (fun W hW => clone_src HY1.out HN1.out (by omega) (hq3.trans hW) (Kq W3) (fun w1 h1 => hW.trans (.of_below h1)))
      (fun W hW => clone_src HY2.out HN2.out (by omega) (hq3.trans hW) (Kq W3) (fun w1 h1 => hW.trans (.of_below h1)))
      (fun W hW => clone_src HY3.out HN3.out (by omega) (hq3.trans hW) (Kq W3) (fun w1 h1 => hW.trans (.of_below h1)))
      (fun w5 w6 w7 Bo do_ Ba da Bb db q5 b5 l5 q6 b6 l6 q7 b7 l7 ty => by
        obtain ⟨v8, w8, e, j1, j2, j3⟩ := hR3.put (by show B ≤ W3.heap.size; omega) hl st b5 l5 b6 l6 b7 l7 ty
        exact ⟨v8, w8, e, (Kq.drew W3).trans j1, j2, grown_of2 (Below.refl _ _).drew j3⟩))
    rintro _ w8 ⟨v8, Bo, do_, Ba, da, Bb, db, g7, rfl, hz1, hz2⟩
    have HZ1 := Lib.hid hz1
    have HZ2 := Lib.hid hz2
    clear hz1 hz2 k1 k2 k3 hR3 hq3
    go_wp2_with fail
    go_ret
    refine ⟨_, rfl, ?_, grown_of2 hb3 HZ2.out⟩
    rw [HL.out]
    exact HZ1.out
end Go.Proofs.YtkenmldiojeooaaGreat.Mg

namespace Go.Proofs.YtkenmldiojeooaaGreat.Mg
open Go.RowKit Go.ChangeShapes Go.WideShapes Tx Um Ud Aq Km Kd Lm Ln
set_option linter.unusedVariables false
def Duo (g : Nat) (p : Nat × Nat) (W : World) : Prop := W.cell? ⟨g, 0, none⟩ = some (.int .i64 (p.1 : Int)) ∧ W.cell? ⟨g, 1, none⟩ = some (.int .i64 (p.2 : Int))
set_option maxRecDepth 100000 in
set_option maxHeartbeats 4000000 in
theorem pairReg (ops : Array Oper) (hops : ops = (Rg.opsOf Tryz.f64 9)) (id : Nat) (bx ox nx cx bY oY ny cy : Nat) (p q : Nat × Nat) {u0 u1 u2 u3 u5 u7 u8 u9 u10 u11 u12 u13 u14 u15 u16 u17 u18 u19 u20 u21 u22 u23 u24 u25 u26 u27 u28 u29 u30 u31 u32 u33 u34 u35 u36 u37 u38 u39 u40 u41 u42 u43 u44 u45 u46 u47 u48 u49 u50 u51 u52 u53 u54 u55 u56 u57 u58 u59 u60 u61 u62 u63 u64 u65 u66 u67 u68 u69 u70 u71 u72 u73 u74 : Value} (w : World) (hnx : (0 : Int) < (nx : Int)) (hny : (0 : Int) < (ny : Int))
    (hX : ∀ W, Below w.heap.size w W → W.cell? ⟨bx, ox, none⟩ = some (.int .i64 (p.1 : Int)) ∧ W.cell? ⟨bx, ox + 1, none⟩ = some (.int .i64 (p.2 : Int)) ∧ W.cell? ⟨bY, oY, none⟩ = some (.int .i64 (q.1 : Int)) ∧ W.cell? ⟨bY, oY + 1, none⟩ = some (.int .i64 (q.2 : Int))) :
    (Code.region id ops true).wp Tryz.prog (Rg.Only fun a' w' => ∃ g8 g9 : Nat, a' = ⟨#[u0, u1, u2, u3, (.slice (some ⟨bx, ox, none⟩) nx cx), u5, (.slice (some ⟨bY, oY, none⟩) ny cy), u7, (.pointer (some ⟨g8, 0, none⟩)), (.pointer (some ⟨g9, 0, none⟩)), u10, u11, u12, u13, u14, u15, u16, u17, u18, u19, u20, u21, u22, u23, u24, u25, u26, u27, u28, u29, u30, u31, u32, u33, u34, u35, u36, u37, u38, u39, (.slice (some ⟨bx, ox, none⟩) nx cx), (.pointer (some ⟨bx, ox, none⟩)), (.agg #[.int .i64 (p.1 : Int), .int .i64 (p.2 : Int)]), (.slice (some ⟨bY, oY, none⟩) ny cy), (.pointer (some ⟨bY, oY, none⟩)), (.agg #[.int .i64 (q.1 : Int), .int .i64 (q.2 : Int)]), u46, u47, u48, u49, u50, u51, u52, u53, u54, u55, u56, u57, u58, u59, u60, u61, u62, u63, u64, u65, u66, u67, u68, u69, u70, u71, u72, u73, u74], []⟩ ∧ w.heap.size ≤ g8 ∧ w.heap.size ≤ g9 ∧ Duo g8 p w' ∧ Duo g9 q w' ∧ Below w.heap.size w w') ⟨#[u0, u1, u2, u3, (.slice (some ⟨bx, ox, none⟩) nx cx), u5, (.slice (some ⟨bY, oY, none⟩) ny cy), u7, u8, u9, u10, u11, u12, u13, u14, u15, u16, u17, u18, u19, u20, u21, u22, u23, u24, u25, u26, u27, u28, u29, u30, u31, u32, u33, u34, u35, u36, u37, u38, u39, u40, u41, u42, u43, u44, u45, u46, u47, u48, u49, u50, u51, u52, u53, u54, u55, u56, u57, u58, u59, u60, u61, u62, u63, u64, u65, u66, u67, u68, u69, u70, u71, u72, u73, u74], []⟩ w := by
  subst hops
  have hNS : Region.noSelect (Rg.opsOf Tryz.f64 9) = true := by kernel_rfl
  have hB0 : w.heap.size ≤ w.drew.heap.size := Nat.le_refl _
  refine wp_region_held_drew (S := Below w.heap.size w) (by kernel_rfl) (Below.refl _ w).drew (fun hHeld => ?_)
  rw [show (Rg.opsOf Tryz.f64 9).size = 10 by kernel_rfl]
  refine Rg.take (ops := (Rg.opsOf Tryz.f64 9)) 0 (some 40) ((.slice (some ⟨bx, ox, none⟩) nx cx)) hNS (by kernel_rfl) (by kernel_rfl) (by kernel_rfl) (by kernel_rfl) (by kernel_rfl) hHeld (Rg.y_move (x := (Operand.tmp 4)) (Or.inl (by kernel_rfl)) (by kernel_rfl)) ?_
  refine Rg.take (ops := (Rg.opsOf Tryz.f64 9)) 1 (some 41) ((.pointer (some ⟨bx, ox, none⟩))) hNS (by kernel_rfl) (by kernel_rfl) (by kernel_rfl) (by kernel_rfl) (by kernel_rfl) hHeld (Rg.y_at (T := 126) (x := (Operand.tmp 40)) (y := (Operand.const (Value.int IntKind.i64 0))) (vx := (.slice (some ⟨bx, ox, none⟩) nx cx)) (vy := (Value.int IntKind.i64 0)) (by kernel_rfl) (by kernel_rfl) (by kernel_rfl) ?_) ?_
  · (intro W hSw; clear hSw hHeld; go_simp <;> first | omega | (intro h0; omega))
  refine Rg.take (ops := (Rg.opsOf Tryz.f64 9)) 2 (some 42) ((.agg #[.int .i64 (p.1 : Int), .int .i64 (p.2 : Int)])) hNS (by kernel_rfl) (by kernel_rfl) (by kernel_rfl) (by kernel_rfl) (by kernel_rfl) hHeld (Rg.y_load (T := 129) (x := (Operand.tmp 41)) (vx := (.pointer (some ⟨bx, ox, none⟩))) (by kernel_rfl) (by kernel_rfl) ?_) ?_
  · (intro W hSw; obtain ⟨s0, s1, s2, s3⟩ := hX _ hSw; clear hSw hHeld; go_simp)
  refine Rg.take (ops := (Rg.opsOf Tryz.f64 9)) 3 (some 43) ((.slice (some ⟨bY, oY, none⟩) ny cy)) hNS (by kernel_rfl) (by kernel_rfl) (by kernel_rfl) (by kernel_rfl) (by kernel_rfl) hHeld (Rg.y_move (x := (Operand.tmp 6)) (Or.inl (by kernel_rfl)) (by kernel_rfl)) ?_
  refine Rg.take (ops := (Rg.opsOf Tryz.f64 9)) 4 (some 44) ((.pointer (some ⟨bY, oY, none⟩))) hNS (by kernel_rfl) (by kernel_rfl) (by kernel_rfl) (by kernel_rfl) (by kernel_rfl) hHeld (Rg.y_at (T := 126) (x := (Operand.tmp 43)) (y := (Operand.const (Value.int IntKind.i64 0))) (vx := (.slice (some ⟨bY, oY, none⟩) ny cy)) (vy := (Value.int IntKind.i64 0)) (by kernel_rfl) (by kernel_rfl) (by kernel_rfl) ?_) ?_
  · (intro W hSw; clear hSw hHeld; go_simp <;> first | omega | (intro h0; omega))
  refine Rg.take (ops := (Rg.opsOf Tryz.f64 9)) 5 (some 45) ((.agg #[.int .i64 (q.1 : Int), .int .i64 (q.2 : Int)])) hNS (by kernel_rfl) (by kernel_rfl) (by kernel_rfl) (by kernel_rfl) (by kernel_rfl) hHeld (Rg.y_load (T := 129) (x := (Operand.tmp 44)) (vx := (.pointer (some ⟨bY, oY, none⟩))) (by kernel_rfl) (by kernel_rfl) ?_) ?_
  · (intro W hSw; obtain ⟨s0, s1, s2, s3⟩ := hX _ hSw; clear hSw hHeld; go_simp)
  refine Rg.two (ops := (Rg.opsOf Tryz.f64 9)) (i := 6) (j := 7) (by kernel_rfl) ?_ ?_
  · refine Rg.op_alloc (ops := (Rg.opsOf Tryz.f64 9)) 6 (some 8) (T := 129) (v := (.pointer (some ⟨w.drew.heap.size, 0, none⟩))) (w1 := w.drew.alloc (.cells #[.int .i64 0, .int .i64 0] 129)) (by kernel_rfl) (by kernel_rfl) (by kernel_rfl) (by kernel_rfl) ?_ (hHeld.alloc (Nat.le_trans hB0 (by go_simp <;> omega)) _) (fun hHeld => ?_)
    · (clear hHeld; go_simp <;> rfl)
    refine Rg.one (ops := (Rg.opsOf Tryz.f64 9)) (i := 7) (by kernel_rfl) ?_
    refine Rg.op_alloc (ops := (Rg.opsOf Tryz.f64 9)) 7 (some 9) (T := 129) (v := (.pointer (some ⟨(w.drew.alloc (.cells #[.int .i64 0, .int .i64 0] 129)).heap.size, 0, none⟩))) (w1 := (w.drew.alloc (.cells #[.int .i64 0, .int .i64 0] 129)).alloc (.cells #[.int .i64 0, .int .i64 0] 129)) (by kernel_rfl) (by kernel_rfl) (by kernel_rfl) (by kernel_rfl) ?_ (hHeld.alloc (Nat.le_trans hB0 (by go_simp <;> omega)) _) (fun hHeld => ?_)
    · (clear hHeld; go_simp <;> rfl)
    refine Rg.store (ops := (Rg.opsOf Tryz.f64 9)) 8 (T := 129) (x := (Operand.tmp 8)) (y := (Operand.tmp 42)) (vx := (.pointer (some ⟨w.drew.heap.size, 0, none⟩))) (vy := (.agg #[.int .i64 (p.1 : Int), .int .i64 (p.2 : Int)])) (w1 := (w.drew.alloc (.cells #[.int .i64 (p.1 : Int), .int .i64 (p.2 : Int)] 129)).alloc (.cells #[.int .i64 0, .int .i64 0] 129)) (by kernel_rfl) (by kernel_rfl) (by kernel_rfl) (by kernel_rfl) (by kernel_rfl) (by kernel_rfl) (by kernel_rfl) ?_ (((Below.refl _ w).drew.alloc (by go_simp) _).alloc (by go_simp <;> omega) _) (fun hHeld => ?_)
    · (clear hHeld; go_simp)
    refine Rg.store (ops := (Rg.opsOf Tryz.f64 9)) 9 (T := 129) (x := (Operand.tmp 9)) (y := (Operand.tmp 45)) (vx := (.pointer (some ⟨(w.drew.alloc (.cells #[.int .i64 0, .int .i64 0] 129)).heap.size, 0, none⟩))) (vy := (.agg #[.int .i64 (q.1 : Int), .int .i64 (q.2 : Int)])) (w1 := (w.drew.alloc (.cells #[.int .i64 (p.1 : Int), .int .i64 (p.2 : Int)] 129)).alloc (.cells #[.int .i64 (q.1 : Int), .int .i64 (q.2 : Int)] 129)) (by kernel_rfl) (by kernel_rfl) (by kernel_rfl) (by kernel_rfl) (by kernel_rfl) (by kernel_rfl) (by kernel_rfl) ?_ (((Below.refl _ w).drew.alloc (by go_simp) _).alloc (by go_simp <;> omega) _) (fun hHeld => ?_)
    · (clear hHeld; go_simp)
    refine Rg.done (ops := (Rg.opsOf Tryz.f64 9)) (by kernel_rfl) ?_
    exact ⟨w.drew.heap.size, (w.drew.alloc (.cells #[.int .i64 0, .int .i64 0] 129)).heap.size, by kernel_rfl, by go_simp <;> omega, by go_simp <;> omega, by unfold Duo; refine ⟨?_, ?_⟩ <;> go_simp, by unfold Duo; refine ⟨?_, ?_⟩ <;> go_simp, hHeld⟩
  · refine Rg.op_alloc (ops := (Rg.opsOf Tryz.f64 9)) 7 (some 9) (T := 129) (v := (.pointer (some ⟨w.drew.heap.size, 0, none⟩))) (w1 := w.drew.alloc (.cells #[.int .i64 0, .int .i64 0] 129)) (by kernel_rfl) (by kernel_rfl) (by kernel_rfl) (by kernel_rfl) ?_ (hHeld.alloc (Nat.le_trans hB0 (by go_simp <;> omega)) _) (fun hHeld => ?_)
    · (clear hHeld; go_simp <;> rfl)
    refine Rg.one (ops := (Rg.opsOf Tryz.f64 9)) (i := 6) (by kernel_rfl) ?_
    refine Rg.op_alloc (ops := (Rg.opsOf Tryz.f64 9)) 6 (some 8) (T := 129) (v := (.pointer (some ⟨(w.drew.alloc (.cells #[.int .i64 0, .int .i64 0] 129)).heap.size, 0, none⟩))) (w1 := (w.drew.alloc (.cells #[.int .i64 0, .int .i64 0] 129)).alloc (.cells #[.int .i64 0, .int .i64 0] 129)) (by kernel_rfl) (by kernel_rfl) (by kernel_rfl) (by kernel_rfl) ?_ (hHeld.alloc (Nat.le_trans hB0 (by go_simp <;> omega)) _) (fun hHeld => ?_)
    · (clear hHeld; go_simp <;> rfl)
    refine Rg.store (ops := (Rg.opsOf Tryz.f64 9)) 8 (T := 129) (x := (Operand.tmp 8)) (y := (Operand.tmp 42)) (vx := (.pointer (some ⟨(w.drew.alloc (.cells #[.int .i64 0, .int .i64 0] 129)).heap.size, 0, none⟩))) (vy := (.agg #[.int .i64 (p.1 : Int), .int .i64 (p.2 : Int)])) (w1 := (w.drew.alloc (.cells #[.int .i64 0, .int .i64 0] 129)).alloc (.cells #[.int .i64 (p.1 : Int), .int .i64 (p.2 : Int)] 129)) (by kernel_rfl) (by kernel_rfl) (by kernel_rfl) (by kernel_rfl) (by kernel_rfl) (by kernel_rfl) (by kernel_rfl) ?_ (((Below.refl _ w).drew.alloc (by go_simp) _).alloc (by go_simp <;> omega) _) (fun hHeld => ?_)
    · (clear hHeld; go_simp)
    refine Rg.store (ops := (Rg.opsOf Tryz.f64 9)) 9 (T := 129) (x := (Operand.tmp 9)) (y := (Operand.tmp 45)) (vx := (.pointer (some ⟨w.drew.heap.size, 0, none⟩))) (vy := (.agg #[.int .i64 (q.1 : Int), .int .i64 (q.2 : Int)])) (w1 := (w.drew.alloc (.cells #[.int .i64 (q.1 : Int), .int .i64 (q.2 : Int)] 129)).alloc (.cells #[.int .i64 (p.1 : Int), .int .i64 (p.2 : Int)] 129)) (by kernel_rfl) (by kernel_rfl) (by kernel_rfl) (by kernel_rfl) (by kernel_rfl) (by kernel_rfl) (by kernel_rfl) ?_ (((Below.refl _ w).drew.alloc (by go_simp) _).alloc (by go_simp <;> omega) _) (fun hHeld => ?_)
    · (clear hHeld; go_simp)
    refine Rg.done (ops := (Rg.opsOf Tryz.f64 9)) (by kernel_rfl) ?_
    exact ⟨(w.drew.alloc (.cells #[.int .i64 0, .int .i64 0] 129)).heap.size, w.drew.heap.size, by kernel_rfl, by go_simp <;> omega, by go_simp <;> omega, by unfold Duo; refine ⟨?_, ?_⟩ <;> go_simp, by unfold Duo; refine ⟨?_, ?_⟩ <;> go_simp, hHeld⟩
end Go.Proofs.YtkenmldiojeooaaGreat.Mg

namespace Go.Proofs.YtkenmldiojeooaaGreat.Mg
open Go.RowKit Go.ChangeShapes Go.WideShapes Tx Um Ud Aq Km Kd Lm Ln
set_option linter.unusedVariables false
theorem grown_of {w w2 w3 : World} {row : Option Nat} (hb : Below w.heap.size w w2) (hg : w2.grownBy w3 row) : w.grownBy w3 row :=
  ⟨hg.os.trans hb.os, hg.tape.trans hb.tape, hg.output.trans hb.output, Nat.le_trans hb.size hg.size, fun k hk hne => (hg.block k (Nat.lt_of_lt_of_le hk hb.size) hne).trans (hb.block k hk)⟩
theorem set_grown (w : World) (g k : Nat) (u : Value) : w.grownBy (w.setCell ⟨g, k, none⟩ u) (some g) :=
  ⟨rfl, rfl, rfl, by simp [World.setCell], fun q hq hne => Below.heap_setCell _ _ _ _ (fun e => hne (by rw [e]))⟩
theorem cell_six2 (w : World) (a b c x y z : Value) (e : TypeId) : ∀ (j : Nat) u, [a, b, c, x, y, z][j]? = some u → (w.alloc (.cells #[a, b, c, x, y, z] e)).cell? ((⟨w.heap.size, 0, none⟩ : Addr).add j) = some u := by
  intro j u hj
  rw [WideShapes.add_plain]
  match j, hj with
  | 0, hj => injection hj with hj; subst hj; show (w.alloc _).cell? ⟨w.heap.size, 0, none⟩ = _; go_simp
  | 1, hj => injection hj with hj; subst hj; show (w.alloc _).cell? ⟨w.heap.size, 1, none⟩ = _; go_simp
  | 2, hj => injection hj with hj; subst hj; show (w.alloc _).cell? ⟨w.heap.size, 2, none⟩ = _; go_simp
  | 3, hj => injection hj with hj; subst hj; show (w.alloc _).cell? ⟨w.heap.size, 3, none⟩ = _; go_simp
  | 4, hj => injection hj with hj; subst hj; show (w.alloc _).cell? ⟨w.heap.size, 4, none⟩ = _; go_simp
  | 5, hj => injection hj with hj; subst hj; show (w.alloc _).cell? ⟨w.heap.size, 5, none⟩ = _; go_simp
def JnTo (B : Nat) (v : Value) (R : List (Tr × Tr)) (t : Tr) (w : World) (e : Ending) (w' : World) : Prop := ∃ v', e = .returned v' ∧ Rwo w' B v' (jn R t) ∧ w.grownBy w' v.ownBlock
theorem rwo_put {w1 : World} {B : Nat} {v1 : Value} {R : List (Tr × Tr)} {x : Tr × Tr} (ho : w1.ownsRow B 106 6 v1 (R.length + 1) (R.flatMap h6 ++ h6 x)) : Rwo w1 B v1 (R ++ [x]) := by
  unfold Rwo
  rw [List.length_append, List.flatMap_append]
  simpa using ho
theorem flat6_set (R0 : List (Tr × Tr)) (x y : Tr × Tr) (h : y.1 = x.1) : (((((R0 ++ [x]).flatMap h6).set (R0.length * 6 + 3) (iv y.2.1)).set (R0.length * 6 + 4) (iv y.2.2.1)).set (R0.length * 6 + 5) (iv y.2.2.2)) = (R0 ++ [y]).flatMap h6 := by
  have e := flat6_len R0
  rw [List.flatMap_append, List.flatMap_append]
  rw [← e, List.set_append_right _ _ (by omega), List.set_append_right _ _ (by omega), List.set_append_right _ _ (by omega)]
  simp [h6_eq, h]
theorem rwo_set {w : World} {B g k c : Nat} {R0 : List (Tr × Tr)} {x y : Tr × Tr} (hk : k = R0.length) (h : Rwo w B (.slice (some ⟨g, 0, none⟩) (k + 1) c) (R0 ++ [x])) (he : y.1 = x.1) :
    Rwo (((w.setCell ⟨g, k * 6 + 3, none⟩ (iv y.2.1)).setCell ⟨g, k * 6 + 4, none⟩ (iv y.2.2.1)).setCell ⟨g, k * 6 + 5, none⟩ (iv y.2.2.2)) B (.slice (some ⟨g, 0, none⟩) (k + 1) c) (R0 ++ [y]) := by
  have l1 : (R0 ++ [x]).length = k + 1 := by simp [hk]
  have l2 : (R0 ++ [y]).length = k + 1 := by simp [hk]
  unfold Rwo at h ⊢
  rw [l1] at h
  rw [l2, ← flat6_set R0 x y he, ← hk]
  exact own_put4 (own_put4 (own_put4 h (k * 6 + 3) _) (k * 6 + 4) _) (k * 6 + 5) _
set_option maxRecDepth 100000 in
set_option maxHeartbeats 4000000 in
theorem joined_any (B : Nat) (v : Value) (R : List (Tr × Tr)) (t : Tr) (w : World) (hR : Rwo w B v R) (hl : R.length ≤ 1000000) (ht : t.1 ≤ 1000000 ∧ t.2.1 ≤ 1000000 ∧ t.2.2 ≤ 1000000) (hB : B ≤ w.heap.size) :
    Calls Tryz.prog 94 #[v, .agg #[.int .i64 (t.1 : Int), .int .i64 (t.2.1 : Int), .int .i64 (t.2.2 : Int)]] w (JnTo B v R t w) := by
  obtain ⟨a, c, rfl, hf⟩ := hR.form
  obtain ⟨iP, hP, hP0, hP1, hP2⟩ := info_parts infoP
  obtain ⟨t1, t2, t3⟩ := ht
  have w1 : IntKind.i64.wrap ((t.1 : Int) + 1) = (t.1 : Int) + 1 := IntWalk.i64_in _ (by omega)
  have w2 : IntKind.i64.wrap ((t.2.1 : Int) + 1) = (t.2.1 : Int) + 1 := IntWalk.i64_in _ (by omega)
  have w3 : IntKind.i64.wrap ((t.2.2 : Int) + 1) = (t.2.2 : Int) + 1 := IntWalk.i64_in _ (by omega)
  have HF := Lib.hid hf
  have HR := Lib.hid hR
  clear hf hR
  obtain ⟨t1v, ht1⟩ : ∃ z, z = t.1 := ⟨_, rfl⟩
  obtain ⟨t2v, ht2⟩ : ∃ z, z = t.2.1 := ⟨_, rfl⟩
  obtain ⟨t3v, ht3⟩ : ∃ z, z = t.2.2 := ⟨_, rfl⟩
  rw [← ht1] at w1 ⊢
  rw [← ht2] at w2 ⊢
  rw [← ht3] at w3 ⊢
  have HT1 := Lib.hid ht1
  have HT2 := Lib.hid ht2
  have HT3 := Lib.hid ht3
  clear ht1 ht2 ht3 t1 t2 t3
  obtain ⟨n, hn⟩ : ∃ n, n = R.length := ⟨_, rfl⟩
  have HN := Lib.hid hn
  rw [← hn] at hl ⊢
  clear hn
  rcases List.eq_nil_or_concat R with h0 | ⟨R0, l, h0⟩
  · obtain rfl : n = 0 := by rw [HN.out, h0]; rfl
    have HJ : Hid (jn R t = R ++ [(t, tr1 t)]) := by show _ = _; rw [h0]; exact jn_nil t
    have wn : IntKind.i64.wrap ((0 : Int) - 1) = -1 := rfl
    clear h0 HF
    go_enter Tryz.func94, Tryz.ntmps94
    go_wp2_with fail
    obtain ⟨W0, hW0⟩ : ∃ W0, W0 = (w.alloc (.cells #[.int .i64 (t1v : Int), .int .i64 (t2v : Int), .int .i64 (t3v : Int)] 104)).alloc (.cells #[.int .i64 ((t1v : Int) + 1), .int .i64 ((t2v : Int) + 1), .int .i64 ((t3v : Int) + 1)] 104) := ⟨_, rfl⟩
    have hbW : Below w.heap.size w W0 := by rw [hW0]; exact ((Below.refl _ w).alloc (Nat.le_refl _) _).alloc (by simp) _
    have hsW : W0.heap.size = w.heap.size + 1 + 1 := by rw [hW0]; go_simp
    have hc1 : W0.cell? ⟨w.heap.size, 0, none⟩ = some (.int .i64 (t1v : Int)) ∧ W0.cell? ⟨w.heap.size, 1, none⟩ = some (.int .i64 (t2v : Int)) ∧ W0.cell? ⟨w.heap.size, 2, none⟩ = some (.int .i64 (t3v : Int)) := by rw [hW0]; refine ⟨?_, ?_, ?_⟩ <;> go_simp
    have hc2 : W0.cell? ⟨w.heap.size + 1, 0, none⟩ = some (.int .i64 ((t1v : Int) + 1)) ∧ W0.cell? ⟨w.heap.size + 1, 1, none⟩ = some (.int .i64 ((t2v : Int) + 1)) ∧ W0.cell? ⟨w.heap.size + 1, 2, none⟩ = some (.int .i64 ((t3v : Int) + 1)) := by rw [hW0]; refine ⟨?_, ?_, ?_⟩ <;> go_simp
    rw [← hW0]
    clear hW0
    refine Rg.wp_only ?_ (joinRegT _ (by kernel_rfl) _ W0 (fun W => Below W0.heap.size W0 W) (Below.refl _ _).drew)
    rintro _ w2 ⟨rfl, hb2⟩
    obtain ⟨x0, x1, x2⟩ := hc1
    obtain ⟨y0, y1, y2⟩ := hc2
    have z0 := (hb2.cell (p := ⟨w.heap.size, 0, none⟩) (by simp only; omega)).trans x0
    have z1 := (hb2.cell (p := ⟨w.heap.size, 1, none⟩) (by simp only; omega)).trans x1
    have z2 := (hb2.cell (p := ⟨w.heap.size, 2, none⟩) (by simp only; omega)).trans x2
    have z3 := (hb2.cell (p := ⟨w.heap.size + 1, 0, none⟩) (by simp only; omega)).trans y0
    have z4 := (hb2.cell (p := ⟨w.heap.size + 1, 1, none⟩) (by simp only; omega)).trans y1
    have z5 := (hb2.cell (p := ⟨w.heap.size + 1, 2, none⟩) (by simp only; omega)).trans y2
    have hb2w : Below w.heap.size w w2 := hbW.trans (hb2.mono (by omega))
    clear x0 x1 x2 y0 y1 y2 hbW hsW hb2
    have hown2 : w2.ownsRow B 106 6 (.slice a 0 c) 0 (R.flatMap h6) := by
      have h := HR.out.below hb2w
      unfold Rwo at h
      rw [← HN.out] at h
      exact h
    have hsz2 := hb2w.size
    have HB2 := Lib.hid hb2w
    clear hb2w
    go_wp2_with (at_builtin; refine wpList_append_own _ rfl _ _ 100 rfl B 106 iP (.agg #[.int .i64 0, .int .i64 0, .int .i64 0, .int .i64 0, .int .i64 0, .int .i64 0]) 6 48 Tryz.underlying100 hP hP0 hP1 hP2 rfl (by decide) _ _ _ rfl (hown2.alloc _) ⟨_, 0, none⟩ 1 1 [iv t1v, iv t2v, iv t3v, iv (t1v + 1), iv (t2v + 1), iv (t3v + 1)] rfl rfl ?c1 ?c2 ?c3 ?c4 ?c5 ?_)
    case c1 => exact cell_six2 _ _ _ _ _ _ _ _
    case c2 =>
      intro u hu
      simp only [List.mem_cons, List.not_mem_nil, or_false] at hu
      rcases hu with rfl | rfl | rfl | rfl | rfl | rfl <;> rfl
    case c3 => unfold maxLen; omega
    case c4 => omega
    case c5 => simp; omega
    intro v3 w3 hown3 hgrow3 _
    go_wp2_with fail
    go_ret
    have hrow : Rwo w3 B v3 (R ++ [(t, tr1 t)]) := rwo_put (by
      have h := hown3
      rw [HT1.out, HT2.out, HT3.out] at h
      rw [← HN.out]
      exact h)
    refine ⟨_, rfl, ?_, grown_of (HB2.out.alloc hsz2 _) hgrow3⟩
    rw [HJ.out]
    exact hrow
  · obtain ⟨k, hk⟩ : ∃ k, k = R0.length := ⟨_, rfl⟩
    obtain rfl : n = k + 1 := by rw [HN.out, h0, hk]; simp
    obtain ⟨g, rfl, hgB, hgl, hfz, hsix⟩ := HF.out.resolve_left (by rw [← HN.out]; omega)
    have hs6 := hsix k l (by rw [h0, hk]; simp)
    have wn : IntKind.i64.wrap (((k + 1 : Nat) : Int) - 1) = (k : Int) := (IntWalk.i64_in _ (by omega)).trans (by omega)
    have HK := Lib.hid hk
    have H0 := Lib.hid h0
    have HFZ := Lib.hid hfz
    have HS6 := Lib.hid hs6
    clear hk h0 HF hfz hsix hs6
    go_enter Tryz.func94, Tryz.ntmps94
    go_wp2_with fail
    obtain ⟨W0, hW0⟩ : ∃ W0, W0 = (w.alloc (.cells #[.int .i64 (t1v : Int), .int .i64 (t2v : Int), .int .i64 (t3v : Int)] 104)).alloc (.cells #[.int .i64 ((t1v : Int) + 1), .int .i64 ((t2v : Int) + 1), .int .i64 ((t3v : Int) + 1)] 104) := ⟨_, rfl⟩
    have hbW : Below w.heap.size w W0 := by rw [hW0]; exact ((Below.refl _ w).alloc (Nat.le_refl _) _).alloc (by simp) _
    have hsW : W0.heap.size = w.heap.size + 1 + 1 := by rw [hW0]; go_simp
    have hc1 : W0.cell? ⟨w.heap.size, 0, none⟩ = some (.int .i64 (t1v : Int)) ∧ W0.cell? ⟨w.heap.size, 1, none⟩ = some (.int .i64 (t2v : Int)) ∧ W0.cell? ⟨w.heap.size, 2, none⟩ = some (.int .i64 (t3v : Int)) := by rw [hW0]; refine ⟨?_, ?_, ?_⟩ <;> go_simp
    have hc2 : W0.cell? ⟨w.heap.size + 1, 0, none⟩ = some (.int .i64 ((t1v : Int) + 1)) ∧ W0.cell? ⟨w.heap.size + 1, 1, none⟩ = some (.int .i64 ((t2v : Int) + 1)) ∧ W0.cell? ⟨w.heap.size + 1, 2, none⟩ = some (.int .i64 ((t3v : Int) + 1)) := by rw [hW0]; refine ⟨?_, ?_, ?_⟩ <;> go_simp
    rw [← hW0]
    clear hW0
    have hX : ∀ W, Below W0.heap.size W0 W → Six g k l W ∧ Thr w.heap.size t W := fun W hb => by
      obtain ⟨x0, x1, x2⟩ := hc1
      refine ⟨(HS6.out.below hbW hgl).below hb (by omega), ?_⟩
      unfold Thr
      rw [← HT1.out, ← HT2.out, ← HT3.out]
      exact ⟨(hb.cell (p := ⟨w.heap.size, 0, none⟩) (by simp only; omega)).trans x0, (hb.cell (p := ⟨w.heap.size, 1, none⟩) (by simp only; omega)).trans x1, (hb.cell (p := ⟨w.heap.size, 2, none⟩) (by simp only; omega)).trans x2⟩
    have hkn : (k : Int) < ((k + 1 : Nat) : Int) := by omega
    have ha : ∀ s : Tr, (Value.agg #[.int .i64 (s.1 : Int), .int .i64 (s.2.1 : Int), .int .i64 (s.2.2 : Int)]) = .agg #[.int .i64 (s.1 : Int), .int .i64 (s.2.1 : Int), .int .i64 (s.2.2 : Int)] := fun _ => rfl
    refine Rg.wp_only ?_ (joinRegF _ (by kernel_rfl) _ g (k + 1) c w.heap.size k l t W0 hkn (fun W => Below W0.heap.size W0 W) hX (Below.refl _ _).drew)
    rintro _ w2 ⟨rfl, hb2⟩
    clear hX ha
    obtain ⟨x0, x1, x2⟩ := hc1
    obtain ⟨y0, y1, y2⟩ := hc2
    have z0 := (hb2.cell (p := ⟨w.heap.size, 0, none⟩) (by simp only; omega)).trans x0
    have z1 := (hb2.cell (p := ⟨w.heap.size, 1, none⟩) (by simp only; omega)).trans x1
    have z2 := (hb2.cell (p := ⟨w.heap.size, 2, none⟩) (by simp only; omega)).trans x2
    have z3 := (hb2.cell (p := ⟨w.heap.size + 1, 0, none⟩) (by simp only; omega)).trans y0
    have z4 := (hb2.cell (p := ⟨w.heap.size + 1, 1, none⟩) (by simp only; omega)).trans y1
    have z5 := (hb2.cell (p := ⟨w.heap.size + 1, 2, none⟩) (by simp only; omega)).trans y2
    have hb2w : Below w.heap.size w w2 := hbW.trans (hb2.mono (by omega))
    clear x0 x1 x2 y0 y1 y2 hbW hsW hb2
    by_cases he : l.2 = t
    · have HJ : Hid (jn R t = R0 ++ [(l.1, tr1 t)]) := by show _ = _; rw [H0.out, List.concat_eq_append, jn_snoc, if_pos he]
      have de : decide (l.2 = t) = true := decide_eq_true he
      rw [de]
      have hx0 := (HS6.out.below hb2w hgl)
      obtain ⟨_, _, _, m3, m4, m5⟩ := hx0
      have f3 : w2.frozen? ⟨g, k * 6 + 3, none⟩ = false := (hb2w.frozen (p := ⟨g, _, none⟩) hgl).trans (HFZ.out _)
      have f4 : w2.frozen? ⟨g, k * 6 + 4, none⟩ = false := (hb2w.frozen (p := ⟨g, _, none⟩) hgl).trans (HFZ.out _)
      have f5 : w2.frozen? ⟨g, k * 6 + 5, none⟩ = false := (hb2w.frozen (p := ⟨g, _, none⟩) hgl).trans (HFZ.out _)
      unfold iv at m3 m4 m5
      have HOW : Hid (Rwo w2 B (.slice (some ⟨g, 0, none⟩) R.length c) R) := HR.out.below hb2w
      have HB2 := Lib.hid hb2w
      clear he de hb2w HFZ HS6
      go_wp2_with fail
      go_ret
      refine ⟨_, rfl, ?_, ?_⟩
      · rw [HJ.out]
        have hs := rwo_set (x := l) (k := k) (R0 := R0) (y := (l.1, tr1 t)) (B := B) (w := w2) (g := g) (c := c) HK.out (by rw [H0.out, List.concat_eq_append, List.length_append, ← HK.out] at *; exact HOW.out) rfl
        rw [HT1.out, HT2.out, HT3.out]
        exact hs
      · exact grown_of HB2.out ((set_grown _ _ _ _).trans ((set_grown _ _ _ _).trans (set_grown _ _ _ _)))
    · have HJ : Hid (jn R t = R ++ [(t, tr1 t)]) := by show _ = _; rw [H0.out, List.concat_eq_append, jn_snoc, if_neg he]
      have de : decide (l.2 = t) = false := decide_eq_false he
      rw [de]
      clear he de HFZ HS6
      have hown2 : w2.ownsRow B 106 6 (.slice (some ⟨g, 0, none⟩) (k + 1) c) (k + 1) (R.flatMap h6) := by
        have h := HR.out.below hb2w
        unfold Rwo at h
        rw [← HN.out] at h
        exact h
      have hsz2 := hb2w.size
      have HB2 := Lib.hid hb2w
      clear hb2w
      go_wp2_with (at_builtin; refine wpList_append_own _ rfl _ _ 100 rfl B 106 iP (.agg #[.int .i64 0, .int .i64 0, .int .i64 0, .int .i64 0, .int .i64 0, .int .i64 0]) 6 48 Tryz.underlying100 hP hP0 hP1 hP2 rfl (by decide) _ _ _ rfl (hown2.alloc _) ⟨_, 0, none⟩ 1 1 [iv t1v, iv t2v, iv t3v, iv (t1v + 1), iv (t2v + 1), iv (t3v + 1)] rfl rfl ?c1 ?c2 ?c3 ?c4 ?c5 ?_)
      case c1 => exact cell_six2 _ _ _ _ _ _ _ _
      case c2 =>
        intro u hu
        simp only [List.mem_cons, List.not_mem_nil, or_false] at hu
        rcases hu with rfl | rfl | rfl | rfl | rfl | rfl <;> rfl
      case c3 => unfold maxLen; omega
      case c4 => omega
      case c5 => simp; omega
      intro v3 w3 hown3 hgrow3 _
      go_wp2_with fail
      go_ret
      have hrow : Rwo w3 B v3 (R ++ [(t, tr1 t)]) := rwo_put (by
        have h := hown3
        rw [HT1.out, HT2.out, HT3.out] at h
        rw [← HN.out]
        exact h)
      refine ⟨_, rfl, ?_, grown_of (HB2.out.alloc hsz2 _) hgrow3⟩
      rw [HJ.out]
      exact hrow
end Go.Proofs.YtkenmldiojeooaaGreat.Mg

namespace Go.Proofs.YtkenmldiojeooaaGreat.Ud
open Go.RowKit Tx Um Aq
set_option linter.unusedVariables false
def num : List ByteArray → ByteArray → Nat
  | [], _ => 0
  | y :: M, x => if y = x then 0 else num M x + 1
theorem num_le (M : List ByteArray) (x : ByteArray) : num M x ≤ M.length := by
  induction M with
  | nil => exact Nat.le_refl _
  | cons y M ih => unfold num; rw [List.length_cons]; split <;> omega
theorem num_app (M r : List ByteArray) (x : ByteArray) (h : num M x < M.length) : num (M ++ r) x = num M x := by
  induction M with
  | nil => cases h
  | cons y M ih =>
    rw [List.cons_append]
    unfold num at h ⊢
    by_cases e : y = x
    · rw [if_pos e, if_pos e]
    · rw [if_neg e] at h
      rw [if_neg e, if_neg e, ih (by rw [List.length_cons] at h; omega)]
theorem num_new (M : List ByteArray) (x : ByteArray) (h : ¬ num M x < M.length) : num (M ++ [x]) x = M.length := by
  induction M with
  | nil => show num [x] x = 0; unfold num; rw [if_pos rfl]
  | cons y M ih =>
    rw [List.cons_append]
    unfold num at h ⊢
    by_cases e : y = x
    · rw [if_pos e] at h; exact absurd (Nat.succ_pos _) h
    · rw [if_neg e] at h
      rw [if_neg e, ih (by rw [List.length_cons] at h; omega), List.length_cons]
theorem num_inj (M : List ByteArray) (x y : ByteArray) (h : num M x < M.length) (he : num M x = num M y) : x = y := by
  induction M with
  | nil => cases h
  | cons z M ih =>
    unfold num at h he
    by_cases e : z = x
    · rw [if_pos e] at he
      by_cases e2 : z = y
      · exact e.symm.trans e2
      · rw [if_neg e2] at he; cases he
    · rw [if_neg e] at h he
      by_cases e2 : z = y
      · rw [if_pos e2] at he; cases he
      · rw [if_neg e2] at he
        exact ih (by rw [List.length_cons] at h; omega) (by omega)
theorem num_other (M : List ByteArray) (x y : ByteArray) (h : x ≠ y) (hy : ¬ num M y < M.length) : num (M ++ [x]) y = M.length + 1 := by
  induction M with
  | nil => show num [x] y = 1; unfold num; rw [if_neg h]; rfl
  | cons z M ih =>
    rw [List.cons_append]
    unfold num at hy ⊢
    by_cases e : z = y
    · rw [if_pos e] at hy; exact absurd (Nat.succ_pos _) hy
    · rw [if_neg e] at hy
      rw [if_neg e, ih (by rw [List.length_cons] at hy; omega), List.length_cons]
def ad (M : List ByteArray) (x : ByteArray) : List ByteArray := if num M x < M.length then M else M ++ [x]
def ads (M l : List ByteArray) : List ByteArray := l.foldl ad M
theorem ad_has (M : List ByteArray) (x : ByteArray) : num (ad M x) x < (ad M x).length := by
  unfold ad
  split
  · assumption
  · rename_i h
    rw [num_new M x h, List.length_append]
    exact Nat.lt_succ_self _
theorem ad_keeps (M : List ByteArray) (x y : ByteArray) (h : num M y < M.length) : num (ad M x) y = num M y ∧ num (ad M x) y < (ad M x).length := by
  unfold ad
  split
  · exact ⟨rfl, h⟩
  · rw [num_app M [x] y h, List.length_append]
    exact ⟨rfl, by omega⟩
theorem ad_len (M : List ByteArray) (x : ByteArray) : (ad M x).length ≤ M.length + 1 := by
  unfold ad
  split
  · omega
  · rw [List.length_append]; exact Nat.le_refl _
theorem ads_keeps (l : List ByteArray) : ∀ (M : List ByteArray) (y : ByteArray), num M y < M.length → num (ads M l) y = num M y ∧ num (ads M l) y < (ads M l).length := by
  induction l with
  | nil => intro M y h; exact ⟨rfl, h⟩
  | cons x l ih =>
    intro M y h
    obtain ⟨h1, h2⟩ := ad_keeps M x y h
    obtain ⟨h3, h4⟩ := ih (ad M x) y h2
    exact ⟨h3.trans h1, h4⟩
theorem ads_len (l : List ByteArray) : ∀ (M : List ByteArray), (ads M l).length ≤ M.length + l.length := by
  induction l with
  | nil => intro M; exact Nat.le_refl _
  | cons x l ih =>
    intro M
    have h1 := ih (ad M x)
    have h2 := ad_len M x
    have h3 : ads M (x :: l) = ads (ad M x) l := rfl
    rw [h3, List.length_cons]
    omega
theorem ads_has (l : List ByteArray) : ∀ (M : List ByteArray) (y : ByteArray), y ∈ l → num (ads M l) y < (ads M l).length := by
  induction l with
  | nil => intro M y h; cases h
  | cons x l ih =>
    intro M y h
    rcases List.mem_cons.1 h with rfl | h
    · exact (ads_keeps l (ad M y) y (ad_has M y)).2
    · exact ih (ad M x) y h
theorem ads_snoc (M l : List ByteArray) (x : ByteArray) : ads M (l ++ [x]) = ad (ads M l) x := by
  unfold ads
  rw [List.foldl_append]
  rfl
theorem ads_take {M l : List ByteArray} {k : Nat} {x : ByteArray} (h : l[k]? = some x) : ads M (l.take (k + 1)) = ad (ads M (l.take k)) x := by
  obtain ⟨h1, h2⟩ := List.getElem?_eq_some_iff.1 h
  rw [List.take_add_one, h, ← ads_snoc]
  rfl
def kLn (p : ByteArray) : Lit := .string p.data.toList
theorem kLn_inj {p q : ByteArray} (h : kLn p = kLn q) : p = q := by
  unfold kLn at h
  injection h with h
  exact ByteArray.ext (Array.toList_inj.1 h)
theorem strKn : Go.Maps.Keyed Tryz.prog 9 := Go.Maps.string_keyed Tryz.underlying9
theorem keyPn {p : ByteArray} (hp : p.size ≤ maxLen) : keyOf Tryz.prog 9 (.string p) = some (kLn p) := Go.WideMaps.keyOf_string_mk Tryz.underlying9 hp
theorem zeroNn (w : World) : (zeroValue 3).run Tryz.prog w = .ok (.int .i64 0) w := by kernel_rfl
def ReadsN (D : DataW Unit) (M : List ByteArray) : Prop := ∀ p z, D.atKey (kLn p) z = if num M p < M.length then .lit (.int .i64 (num M p : Nat)) else z
def Nm (w : World) (bm : Nat) (M : List ByteArray) : Prop := ∃ D : DataW Unit, w.ownsMap Tryz.prog 9 (plainElem Tryz.prog 3) bm M.length D ∧ ReadsN D M ∧ Go.Maps.size D = M.length
theorem Nm.lt {w : World} {bm : Nat} {M : List ByteArray} (h : Nm w bm M) : bm < w.heap.size := by
  obtain ⟨D, h, _⟩ := h
  exact h.lt
theorem Nm.kept {w w1 : World} {bm : Nat} {M : List ByteArray} (h : Nm w bm M) (he : w1.heap[bm]? = w.heap[bm]?) : Nm w1 bm M := by
  obtain ⟨D, ⟨es, clock, hb, r⟩, q⟩ := h
  exact ⟨D, ⟨es, clock, he.trans hb, r⟩, q⟩
theorem readsN_has {D : DataW Unit} {M : List ByteArray} (h : ReadsN D M) (v : ByteArray) : Go.Maps.has D (kLn v) = decide (num M v < M.length) := by
  by_cases hf : num M v < M.length
  · rw [decide_eq_true hf]
    exact Go.Maps.has_true_of_atKey (y := .lit (.int .i64 (num M v : Nat))) fun z => by rw [h v z, if_pos hf]
  · rw [decide_eq_false hf]
    exact Go.Maps.has_false_of_atKey fun z => by rw [h v z, if_neg hf]
theorem Nm.look {w : World} {bm : Nat} {M : List ByteArray} (h : Nm w bm M) {v : ByteArray} (hp : v.size ≤ maxLen) :
    (Instr.lookup 171 (.map (some bm)) (.string v) true).run Tryz.prog w = .ok (.tuple #[.int .i64 (if num M v < M.length then (num M v : Nat) else 0 : Nat), .bool (decide (num M v < M.length))]) w := by
  obtain ⟨D, ho, hr, _⟩ := h
  obtain ⟨u, ps, hrun, hv⟩ := ho.look_ok strKn Tryz.underlying171 (zeroNn w) (plainElem_int Tryz.underlying3 (by decide)) (keyPn hp)
  rw [hrun, readsN_has hr]
  obtain ⟨c, rfl, hc, hwc⟩ := plainElem_int_inv Tryz.underlying3 hv
  have hc := congrArg Prod.fst hc
  simp only [hr v] at hc
  by_cases hf : num M v < M.length
  · rw [if_pos hf] at hc ⊢
    cases hc
    rfl
  · rw [if_neg hf] at hc ⊢
    cases hc
    rfl
theorem Nm.len {w : World} {bm : Nat} {M : List ByteArray} (h : Nm w bm M) (ty : TypeId) : (Builtin.len_ #[171] ty #[.map (some bm)]).run Tryz.prog w = .ok (.int .i64 (M.length : Nat)) w := by
  obtain ⟨D, ho, _, hs⟩ := h
  rw [ho.len Tryz.underlying171 ty, hs]
theorem Nm.store {w : World} {bm : Nat} {M : List ByteArray} (h : Nm w bm M) {v : ByteArray} (hp : v.size ≤ maxLen) (hn : M.length ≤ 1000) (hv : ¬ num M v < M.length) :
    ∃ w', (Instr.mapUpdate 171 (.map (some bm)) (.string v) (.int .i64 (M.length : Nat))).run Tryz.prog w = .ok () w' ∧ Nm w' bm (M ++ [v]) ∧ w.grownBy w' (some bm) := by
  obtain ⟨D, ho, hr, hs⟩ := h
  have hw : (Lit.int .i64 (M.length : Nat)).wf = true := by simp [Lit.wf, IntKind.min, IntKind.max, IntKind.signed, IntKind.bits]; omega
  obtain ⟨w', hrun, ho', ht⟩ := ho.store strKn Tryz.underlying171 (by unfold maxLen; omega) (keyPn hp) (plainElem_int Tryz.underlying3 hw)
  have hsz : Go.Maps.size (D.put (kLn v) (.lit (.int .i64 (M.length : Nat)))) = (M ++ [v]).length := by
    have h1 := Go.Maps.size_put (ho.tidy strKn) (k := kLn v) (.lit (.int .i64 (M.length : Nat)))
    rw [readsN_has hr, decide_eq_false hv] at h1
    rw [h1, hs, List.length_append]
    rfl
  refine ⟨w', hrun, ⟨_, ?_, fun p z => ?_, hsz⟩, ht.grown⟩
  · rw [List.length_append]
    exact ho'.mono (by simp)
  · by_cases he : p = v
    · subst he
      rw [Go.Maps.atKey_put_same ho.isMap (by trivial), num_new M p hv, List.length_append, if_pos (by simp)]
    · rw [Go.Maps.atKey_put_other (fun e => he (kLn_inj e)), hr p z]
      by_cases hf : num M p < M.length
      · rw [if_pos hf, num_app M [v] p hf, if_pos (by rw [List.length_append]; omega)]
      · rw [if_neg hf, num_other M v p (fun e => he e.symm) hf, if_neg (by rw [List.length_append]; exact Nat.lt_irrefl _)]
theorem nm_made (w : World) : Nm (w.alloc (.map #[] 0)) w.heap.size [] := ⟨_, World.ownsMap_made w _ _ _, fun p z => rfl, rfl⟩
end Go.Proofs.YtkenmldiojeooaaGreat.Ud

namespace Go.Proofs.YtkenmldiojeooaaGreat.Ud
open Go.RowKit Tx Um Aq
set_option linter.unusedVariables false
def Nk (w0 : World) (g bm : Nat) (M l : List ByteArray) (k : Nat) (w : World) : Prop :=
  Nm w bm (ads M (l.take k)) ∧ (∃ ys, w.ownsRow w0.heap.size 3 1 (.slice (some ⟨g, 0, none⟩) l.length l.length) l.length ys ∧ ∀ (j : Nat) x, j < k → l[j]? = some x → ys[j]? = some (iv (num (ads M (l.take k)) x)) ∧ num (ads M (l.take k)) x < (ads M (l.take k)).length) ∧ w0.grownBy w (some bm)
theorem Nk.done {w0 w : World} {g bm : Nat} {M l : List ByteArray} (h : Nk w0 g bm M l l.length w) : Ints w w0.heap.size (.slice (some ⟨g, 0, none⟩) l.length l.length) (l.map (num (ads M l))) ∧ Nm w bm (ads M l) ∧ w0.grownBy w (some bm) := by
  obtain ⟨h1, ⟨ys, h2, h3⟩, h4⟩ := h
  rw [List.take_length] at h1 h3
  refine ⟨?_, h1, h4⟩
  unfold Ints
  rw [List.length_map]
  have e : ys = (l.map (num (ads M l))).map iv := by
    apply List.ext_getElem?
    intro j
    by_cases hj : j < l.length
    · rw [(h3 j l[j] hj (List.getElem?_eq_getElem hj)).1, List.getElem?_map, List.getElem?_map, List.getElem?_eq_getElem hj]
      rfl
    · have hy := h2.1
      rw [List.getElem?_eq_none (by omega), List.getElem?_eq_none (by simp; omega)]
  rw [← e]
  exact h2
theorem Nk.put {w0 w : World} {g bm : Nat} {M l : List ByteArray} {k : Nat} {x : ByteArray} (h : Nk w0 g bm M l k w) (hx : l[k]? = some x) (hg : g ≠ bm) (hg0 : w0.heap.size ≤ g) (w1 : World) (hm : Nm w1 bm (ad (ads M (l.take k)) x)) (hg1 : w.grownBy w1 (some bm)) (c : Nat) (hc : c = num (ad (ads M (l.take k)) x) x) :
    Nk w0 g bm M l (k + 1) (w1.setCell ⟨g, k, none⟩ (.int .i64 (c : Int))) := by
  obtain ⟨h1, ⟨ys, h2, h3⟩, h4⟩ := h
  have hk := (List.getElem?_eq_some_iff.1 hx).1
  have h2' := h2.kept hg1 (.inr (fun e => hg (by injection e)))
  unfold Nk
  rw [ads_take hx]
  refine ⟨hm.kept (Below.heap_setCell w1 ⟨g, k, none⟩ _ bm (fun e => hg e.symm)), ⟨_, own_store h2' (by simpa using hk) (.int .i64 (c : Int)), fun j y hj hy => ?_⟩, ?_⟩
  · by_cases e : j = k
    · subst e
      rw [hx] at hy
      injection hy with hy
      subst hy
      rw [List.getElem?_set_self (by rw [h2.1]; omega), ← hc]
      refine ⟨rfl, ?_⟩
      rw [hc]
      exact ad_has _ _
    · rw [List.getElem?_set_ne (fun e2 => e e2.symm)]
      obtain ⟨h5, h6⟩ := h3 j y (by omega) hy
      obtain ⟨h7, h8⟩ := ad_keeps _ x y h6
      rw [h5, h7]
      exact ⟨rfl, by rw [h7] at h8; exact h8⟩
  · exact (h4.trans hg1).andThen (row' := some g) ⟨rfl, rfl, rfl, by simp [World.setCell], fun i _ hi => Below.heap_setCell w1 ⟨g, k, none⟩ _ i (fun e => hi (by rw [e]))⟩ (fun j hj => by injection hj with hj; exact .inl (by omega))
def NumTo (w : World) (bm : Nat) (M l : List ByteArray) (e : Ending) (w' : World) : Prop := ∃ v, e = .returned v ∧ Ints w' w.heap.size v (l.map (num (ads M l))) ∧ Nm w' bm (ads M l) ∧ w.grownBy w' (some bm)
set_option maxRecDepth 100000 in
set_option maxHeartbeats 2000000 in
theorem number_any (q bm : Nat) (A : Option Addr) (ca : Nat) (M l : List ByteArray) (w : World) (hA : Strs w A l.length l) (hsz : ∀ x, x ∈ l → x.size ≤ maxLen) (hl : l.length ≤ 400) (hM : M.length ≤ 400) (hm : Nm w bm M) (hq : w.cell? ⟨q, 0, none⟩ = some (.map (some bm))) (hqb : q ≠ bm)
    (hAb : l.length ≠ 0 → ∀ ba oa, A = some ⟨ba, oa, none⟩ → ba ≠ bm) :
    Calls Tryz.prog 142 #[.slice A l.length ca, .pointer (some ⟨q, 0, none⟩)] w (NumTo w bm M l) := by
  obtain ⟨iI, hI, hI0, hI1, hI2⟩ := info_parts infoInt
  have HA := Lib.hid hA
  have HAB := Lib.hid hAb
  have HSZ := Lib.hid hsz
  have HM := Lib.hid hm
  have hbl := hm.lt
  have hql : q < w.heap.size := World.block_lt_of_cell? w _ hq
  have hlen := ads_len l M
  obtain ⟨n, hn⟩ : ∃ n, n = l.length := ⟨_, rfl⟩
  rw [← hn] at hl hlen ⊢
  have HN := Lib.hid hn
  have HQB := Lib.hid hqb
  clear hA hAb hsz hm hn hqb
  go_enter Tryz.func142, Tryz.ntmps142
  go_wp2_with (at_make; refine wpList_make_full _ rfl _ _ _ rfl w.heap.size 3 iI (.int .i64 0) 1 Tryz.underlying153 hI hI0 hI1 _ _ _ _ n rfl rfl rfl rfl (by rw [hI2]; omega) (by unfold maxLen; omega) (Nat.le_refl _) ?_)
  intro w1 hown1 hgrow1
  obtain ⟨g, hg⟩ : ∃ g, g = w.heap.size := ⟨_, rfl⟩
  have hst0 : Hid (Nk w g bm M l 0 w1) := by
    show Nk w g bm M l 0 w1
    refine ⟨HM.out.kept (hgrow1.block _ hbl (by simp)), ⟨(madeCells #[.int .i64 0] n).toList, ?_, fun j x hj => absurd hj (Nat.not_lt_zero _)⟩, hgrow1.but _⟩
    rw [← HN.out, hg]
    exact hown1
  have hgb : g ≠ bm := by omega
  have hgq : g ≠ q := by omega
  have hgw : w.heap.size ≤ g := by omega
  rw [← hg]
  have HG := Lib.hid hg
  clear hg hown1 hgrow1
  go_wp2_with fail
  go_loopw [5, 6, 7, 8, 14] (fun _ _ _ _ i wr => ∃ k : Nat, i = .int .i64 k ∧ k ≤ n ∧ Hid (Nk w g bm M l k wr)) (fun _ _ _ _ i _ => n - (intOf i).toNat)
  case atStart => exact ⟨0, rfl, Nat.zero_le _, hst0⟩
  case round =>
    obtain ⟨k, rfl, hk, HK⟩ := hrel
    clear hst0
    by_cases hlt : k < n
    · have e1 : (k : Int) < (n : Int) := by omega
      obtain ⟨x, hx⟩ : ∃ x, l[k]? = some x := ⟨_, List.getElem?_eq_getElem (by rw [← HN.out]; exact hlt)⟩
      have hxs := HSZ.out x (List.mem_iff_getElem?.2 ⟨k, hx⟩)
      obtain ⟨ba, oa, rfl, hba, hc⟩ := HA.out.2.resolve_left (by rw [← HN.out]; omega)
      have hbb := HAB.out (by rw [← HN.out]; omega) ba oa rfl
      obtain ⟨h1, ⟨ys, h2, h3⟩, h4⟩ := HK.out
      have c1 : wr.cell? ⟨ba, oa + k, none⟩ = some (.string x) := h4.cell (hc k x hx) (fun e => hbb (by injection e))
      have c2 : wr.cell? ⟨q, 0, none⟩ = some (.map (some bm)) := h4.cell hq (fun e => HQB.out (by injection e))
      have hfz := own_frozen h2 k
      have hst := own_cell h2 (List.getElem?_eq_getElem (show k < ys.length by rw [h2.1, ← HN.out]; omega))
      obtain ⟨old, hold⟩ : ∃ old, old = ys[k]'(by rw [h2.1, ← HN.out]; omega) := ⟨_, rfl⟩
      rw [← hold] at hst
      have hle := ads_len (l.take k) M
      have hltk : (l.take k).length ≤ k := List.length_take_le _ _
      have hlook := h1.look hxs
      have h1len := h1.len 3
      have hnle := num_le (ads M (l.take k)) x
      by_cases hh : num (ads M (l.take k)) x < (ads M (l.take k)).length
      · rw [if_pos hh, decide_eq_true hh] at hlook
        have hpa : ad (ads M (l.take k)) x = ads M (l.take k) := by unfold ad; rw [if_pos hh]
        have HP : Hid (Nk w g bm M l (k + 1) (wr.setCell ⟨g, k, none⟩ (.int .i64 ((num (ads M (l.take k)) x : Nat) : Int)))) := Nk.put HK.out hx hgb hgw wr (by rw [hpa]; exact h1) (World.grownBy.refl _ _) _ (by rw [hpa])
        obtain ⟨c, hcc⟩ : ∃ c, c = num (ads M (l.take k)) x := ⟨_, rfl⟩
        rw [← hcc] at HP hlook
        clear HK h1 h2 h3 h4 hc hx hold hnle hh hpa hcc hxs hba hbb h1len hq
        go_wp2_with fail
        go_roundw
        case rel => exact ⟨k + 1, by go_num, by omega, HP⟩
        case measure => simp only [intOf]; omega
      · rw [if_neg hh, decide_eq_false hh] at hlook
        obtain ⟨w2, hrun, hm2, hg2⟩ := h1.store hxs (by omega) hh
        have hpa : ad (ads M (l.take k)) x = ads M (l.take k) ++ [x] := by unfold ad; rw [if_neg hh]
        have HP : Hid (Nk w g bm M l (k + 1) (w2.setCell ⟨g, k, none⟩ (.int .i64 (((ads M (l.take k)).length : Nat) : Int)))) := Nk.put HK.out hx hgb hgw w2 (by rw [hpa]; exact hm2) hg2 _ (by rw [hpa, num_new _ _ hh])
        have hfz2 := own_frozen (h2.kept hg2 (.inr (fun e => hgb (by injection e)))) k
        have hst2 : w2.cell? ⟨g, k, none⟩ = some old := hg2.cell hst (fun e => hgb (by injection e))
        obtain ⟨c, hcc⟩ : ∃ c, c = (ads M (l.take k)).length := ⟨_, rfl⟩
        rw [← hcc] at HP hrun h1len
        clear HK h1 h2 h3 h4 hc hx hold hnle hh hpa hcc hxs hba hbb hm2 hg2 hq
        go_wp2_with fail
        go_roundw
        case rel => exact ⟨k + 1, by go_num, by omega, HP⟩
        case measure => simp only [intOf]; omega
    · have e1 : ¬ (k : Int) < (n : Int) := by omega
      obtain rfl : k = n := by omega
      have HE : Hid (NumTo w bm M l (.returned (.slice (some ⟨g, 0, none⟩) k k)) wr) := by
        show NumTo _ _ _ _ _ _
        have h := HK.out
        rw [HN.out] at h ⊢
        exact ⟨_, rfl, h.done⟩
      clear HK
      go_wp2_with fail
      go_ret
      exact HE.out
def NumbTo (a b : List ByteArray) (w : World) (e : Ending) (w' : World) : Prop := ∃ M va vb, e = .returned (.tuple #[va, vb]) ∧ Ints w' w.heap.size va (a.map (num M)) ∧ Ints w' w.heap.size vb (b.map (num M)) ∧ (∀ x, x ∈ a → num M x < M.length) ∧ Below w.heap.size w w'
set_option maxRecDepth 100000 in
set_option maxHeartbeats 2000000 in
theorem numbered_any (A B : Option Addr) (ca cb : Nat) (a b : List ByteArray) (w : World) (hA : Strs w A a.length a) (hB : Strs w B b.length b) (ha : ∀ x, x ∈ a → x.size ≤ maxLen) (hb : ∀ x, x ∈ b → x.size ≤ maxLen) (hal : a.length ≤ 400) (hbl : b.length ≤ 400) :
    Calls Tryz.prog 130 #[.slice A a.length ca, .slice B b.length cb] w (NumbTo a b w) := by
  have hmm := @run_makeMap Tryz.prog
  have hB0 : Below w.heap.size w ((w.alloc (.map #[] 0)).alloc (.cells #[.map (some w.heap.size)] 171)) := ((Below.refl _ w).alloc (Nat.le_refl _) _).alloc (by simp) _
  have hm0 : Nm ((w.alloc (.map #[] 0)).alloc (.cells #[.map (some w.heap.size)] 171)) w.heap.size [] := (nm_made w).kept (Below.heap_alloc _ _ _ (by simp))
  have hq0 : ((w.alloc (.map #[] 0)).alloc (.cells #[.map (some w.heap.size)] 171)).cell? ⟨w.heap.size + 1, 0, none⟩ = some (.map (some w.heap.size)) := by go_simp
  have hs0 : ((w.alloc (.map #[] 0)).alloc (.cells #[.map (some w.heap.size)] 171)).heap.size = w.heap.size + 2 := by simp
  have old : ∀ (W : World) (C : Option Addr) (n : Nat) (l : List ByteArray), Strs W C n l → ∀ bc oc, n ≠ 0 → C = some ⟨bc, oc, none⟩ → bc < W.heap.size := fun W C n l h bc oc hn0 hc => by
    obtain ⟨b', o', h1, h2, _⟩ := h.2.resolve_left hn0
    rw [hc] at h1
    injection h1 with h1
    injection h1 with h1
    rw [h1]
    exact h2
  have c1 := number_any (w.heap.size + 1) w.heap.size A ca [] a _ (hA.below hB0) ha hal (Nat.zero_le _) hm0 hq0 (by omega) (fun hn ba oa h => by have := old w A _ a hA ba oa hn h; omega)
  have c2 := fun w1 (hb1 : Below w.heap.size w w1) h1 h2 => number_any (w.heap.size + 1) w.heap.size B cb (ads [] a) b w1 (hB.below hb1) hb hbl (by have := ads_len a []; simp at this; omega) h1 h2 (by omega) (fun hn ba oa h => by have := old w B _ b hB ba oa hn h; omega)
  have HOLD := Lib.hid old
  unfold NumTo at c1 c2
  have C1 := Lib.hid c1
  have C2 := Lib.hid c2
  have HQ0 := Lib.hid hq0
  have HB0 := Lib.hid hB0
  clear c1 c2 hm0 hq0 hB0 hA hB ha hb old
  go_enter Tryz.func130, Tryz.ntmps130
  go_wp2_with fail
  go_at_call 142
  refine C1.out.mono ?_
  rintro e w1 ⟨va, rfl, hva, hm1, hg1⟩
  rw [hs0] at hva
  have hq1 : w1.cell? ⟨w.heap.size + 1, 0, none⟩ = some (.map (some w.heap.size)) := hg1.cell HQ0.out (fun e => by injection e with e; change w.heap.size + 1 = w.heap.size at e; omega)
  have hB1 : Below w.heap.size w w1 := HB0.out.grown hg1 HB0.out.size (fun k hk => by injection hk with hk; omega)
  have cc := Lib.hid (C2.out w1 hB1 hm1 hq1)
  have HVA := Lib.hid hva
  have HB1 := Lib.hid hB1
  clear hva hm1 hg1 hB1 C1 C2 HQ0 HB0 hs0
  go_wp2_with fail
  go_at_call 142
  refine cc.out.mono ?_
  rintro e w2 ⟨vb, rfl, hvb, hm2, hg2⟩
  have hB2 : Below w.heap.size w w2 := HB1.out.grown hg2 HB1.out.size (fun k hk => by injection hk with hk; omega)
  have hva2 : Ints w2 (w.heap.size + 2) va (a.map (num (ads [] a))) := by
    refine HVA.out.kept hg2 (.inr (fun e => ?_))
    have := HVA.out.lt _ e
    omega
  have HE : Hid (NumbTo a b w (.returned (.tuple #[va, vb])) w2) := by
    refine ⟨ads (ads [] a) b, va, vb, rfl, ?_, own_base hvb HB1.out.size, fun x hx => (ads_keeps b _ x (ads_has a [] x hx)).2, hB2⟩
    have e : a.map (num (ads (ads [] a) b)) = a.map (num (ads [] a)) := List.map_congr_left (fun x hx => (ads_keeps b _ x (ads_has a [] x hx)).1)
    rw [e]
    exact own_base hva2 (by omega)
  clear hvb hm2 hg2 hB2 hva2 cc
  go_wp2_with fail
  go_ret2
  exact HE.out
end Go.Proofs.YtkenmldiojeooaaGreat.Ud

namespace Go.Proofs.YtkenmldiojeooaaGreat.Ud
open Go.RowKit Tx Um Aq
set_option linter.unusedVariables false
def Nums (w : World) (A : Option Addr) (l : List Nat) : Prop := l.length = 0 ∨ ∃ g, A = some ⟨g, 0, none⟩ ∧ g < w.heap.size ∧ ∀ (k : Nat) x, l[k]? = some x → w.cell? ⟨g, k, none⟩ = some (.int .i64 (x : Int))
theorem Nums.kept {w w1 : World} {A : Option Addr} {l : List Nat} (h : Nums w A l) (hk : ∀ g, l.length ≠ 0 → A = some ⟨g, 0, none⟩ → w1.heap[g]? = w.heap[g]?) (hs : w.heap.size ≤ w1.heap.size) : Nums w1 A l := by
  by_cases h0 : l.length = 0
  · exact .inl h0
  · obtain ⟨g, h1, h2, h3⟩ := h.resolve_left h0
    exact .inr ⟨g, h1, Nat.lt_of_lt_of_le h2 hs, fun k x hx => cell_keep (h3 k x hx) (hk g h0 h1)⟩
theorem Nums.below {w w1 : World} {A : Option Addr} {l : List Nat} (h : Nums w A l) (hb : Below w.heap.size w w1) : Nums w1 A l :=
  h.kept (fun g h0 h1 => by
    obtain ⟨g', h2, h3, _⟩ := h.resolve_left h0
    rw [h1] at h2
    injection h2 with h2
    injection h2 with h2
    exact hb.block g (by rw [h2]; exact h3)) hb.size
theorem Nums.lt {w : World} {A : Option Addr} {l : List Nat} (h : Nums w A l) {g o : Nat} (h0 : l.length ≠ 0) (h1 : A = some ⟨g, o, none⟩) : g < w.heap.size := by
  obtain ⟨g', h2, h3, _⟩ := h.resolve_left h0
  rw [h1] at h2
  injection h2 with h2
  injection h2 with h2
  rw [h2]
  exact h3
theorem num_eq {M a : List ByteArray} (h : ∀ x, x ∈ a → num M x < M.length) {x y : ByteArray} (hx : x ∈ a) : num M x = num M y ↔ x = y := ⟨num_inj M x y (h x hx), fun e => by rw [e]⟩
theorem F_eq (a b : List ByteArray) (i j : Nat) (hi : i < a.length) (hj : j < b.length) (h : a[i] = b[j]) : F a b i j = F a b (i + 1) (j + 1) + 1 := by
  unfold F
  conv => lhs; rw [List.drop_eq_getElem_cons hi, List.drop_eq_getElem_cons hj, h, lcs_head]
theorem F_ne (a b : List ByteArray) (i j : Nat) (hi : i < a.length) (hj : j < b.length) (h : a[i] ≠ b[j]) : F a b i j = max (F a b (i + 1) j) (F a b i (j + 1)) := by
  rw [F_step a b i j hi hj, if_neg h, Nat.max_comm]
structure Tb (w : World) (B g : Nat) (r : Nat → Nat) (a b : List ByteArray) (K : Nat) (P : Nat → Nat → Prop) : Prop where
  outer : ∃ xs, w.ownsRow B 153 1 (.slice (some ⟨g, 0, none⟩) (a.length + 1) (a.length + 1)) (a.length + 1) xs
  cell : ∀ i, i < K → w.cell? ⟨g, i, none⟩ = some (.slice (some ⟨r i, 0, none⟩) (b.length + 1) (b.length + 1))
  row : ∀ i, i < K → ∃ ys, w.ownsRow B 3 1 (.slice (some ⟨r i, 0, none⟩) (b.length + 1) (b.length + 1)) (b.length + 1) ys ∧ ∀ j, j ≤ b.length → P i j → ys[j]? = some (.int .i64 (F a b i j : Nat))
  apart : ∀ i, i < K → r i ≠ g
  inj : ∀ i j, i < K → j < K → r i = r j → i = j
theorem Tb.glt {w : World} {B g K : Nat} {r : Nat → Nat} {a b : List ByteArray} {P : Nat → Nat → Prop} (h : Tb w B g r a b K P) : B ≤ g ∧ g < w.heap.size := by
  obtain ⟨xs, h1⟩ := h.outer
  exact h1.lt g rfl
theorem Tb.rlt {w : World} {B g K : Nat} {r : Nat → Nat} {a b : List ByteArray} {P : Nat → Nat → Prop} (h : Tb w B g r a b K P) {i : Nat} (hi : i < K) : B ≤ r i ∧ r i < w.heap.size := by
  obtain ⟨ys, h1, _⟩ := h.row i hi
  exact h1.lt (r i) rfl
theorem Tb.weak {w : World} {B g K : Nat} {r : Nat → Nat} {a b : List ByteArray} {P P' : Nat → Nat → Prop} (h : Tb w B g r a b K P) (hp : ∀ i j, i < K → j ≤ b.length → P' i j → P i j) : Tb w B g r a b K P' :=
  ⟨h.outer, h.cell, fun i hi => by
    obtain ⟨ys, h1, h2⟩ := h.row i hi
    exact ⟨ys, h1, fun j hj hpj => h2 j hj (hp i j hi hj hpj)⟩, h.apart, h.inj⟩
theorem Tb.drew1 {w : World} {B g K : Nat} {r : Nat → Nat} {a b : List ByteArray} {P : Nat → Nat → Prop} (h : Tb w B g r a b K P) : Tb w.drew B g r a b K P := ⟨h.outer, h.cell, h.row, h.apart, h.inj⟩
theorem Tb.make {w w1 : World} {B g K h : Nat} {r : Nat → Nat} {a b : List ByteArray} (ht : Tb w B g r a b K fun i j => i = a.length ∨ j = b.length) (hK : K ≤ a.length) (hh : h = w.heap.size) (hg1 : w.grownBy w1 none)
    (hown : w1.ownsRow B 3 1 (.slice (some ⟨h, 0, none⟩) (b.length + 1) (b.length + 1)) (b.length + 1) (List.replicate (b.length + 1) (.int .i64 0))) :
    Tb (w1.setCell ⟨g, K, none⟩ (.slice (some ⟨h, 0, none⟩) (b.length + 1) (b.length + 1))) B g (fun i => if i = K then h else r i) a b (K + 1) fun i j => i = a.length ∨ j = b.length := by
  obtain ⟨xs, h1⟩ := ht.outer
  have hg := ht.glt
  have hne : h ≠ g := by omega
  have h1' := h1.kept hg1 (.inr (by simp [Value.ownBlock]))
  have hst := own_store h1' (show K < a.length + 1 by omega) (.slice (some ⟨h, 0, none⟩) (b.length + 1) (b.length + 1))
  have e1 : ∀ q, q ≠ g → (w1.setCell ⟨g, K, none⟩ (.slice (some ⟨h, 0, none⟩) (b.length + 1) (b.length + 1))).heap[q]? = w1.heap[q]? := fun q hq => Below.heap_setCell w1 ⟨g, K, none⟩ _ q hq
  have e2 : ∀ i, i < K → (w1.setCell ⟨g, K, none⟩ (.slice (some ⟨h, 0, none⟩) (b.length + 1) (b.length + 1))).heap[r i]? = w.heap[r i]? := fun i hi => (e1 _ (ht.apart i hi)).trans (hg1.block _ (ht.rlt hi).2 (by simp))
  refine ⟨⟨_, hst⟩, fun i hi => ?_, fun i hi => ?_, fun i hi => ?_, fun i j hi hj e => ?_⟩
  · by_cases e : i = K
    · subst e
      rw [if_pos rfl]
      exact own_cell hst (List.getElem?_set_self (by rw [h1.1]; omega))
    · rw [if_neg e, World.cell?_setCell_other _ _ _ _ (fun e2 => e (by injection e2 with _ e3; exact e3.symm))]
      exact hg1.cell (ht.cell i (by omega)) (by simp)
  · by_cases e : i = K
    · subst e
      rw [if_pos rfl]
      refine ⟨_, own_stay hown (fun q hq => by simp only [Value.ownBlock, Option.some.injEq] at hq; subst hq; exact e1 _ hne), fun j hj hp => ?_⟩
      rw [List.getElem?_replicate, if_pos (by omega)]
      rcases hp with rfl | rfl
      · rw [F_end]; rfl
      · rw [F_end2]; rfl
    · rw [if_neg e]
      obtain ⟨ys, h3, h4⟩ := ht.row i (by omega)
      exact ⟨ys, own_stay h3 (fun q hq => by simp only [Value.ownBlock, Option.some.injEq] at hq; subst hq; exact e2 i (by omega)), h4⟩
  · by_cases e : i = K
    · rw [if_pos e]; exact hne
    · rw [if_neg e]; exact ht.apart i (by omega)
  · by_cases e1 : i = K
    · by_cases e2 : j = K
      · omega
      · simp only [if_pos e1, if_neg e2] at e
        have := (ht.rlt (i := j) (by omega)).2
        omega
    · by_cases e2 : j = K
      · simp only [if_neg e1, if_pos e2] at e
        have := (ht.rlt (i := i) (by omega)).2
        omega
      · simp only [if_neg e1, if_neg e2] at e
        exact ht.inj i j (by omega) (by omega) e
theorem Tb.put {w : World} {B g K : Nat} {r : Nat → Nat} {a b : List ByteArray} {P : Nat → Nat → Prop} (ht : Tb w B g r a b K P) {i j : Nat} (hi : i < K) (hj : j ≤ b.length) (c : Nat) (hc : c = F a b i j) :
    Tb (w.setCell ⟨r i, j, none⟩ (.int .i64 (c : Int))) B g r a b K fun i' j' => P i' j' ∨ (i' = i ∧ j' = j) := by
  obtain ⟨xs, h1⟩ := ht.outer
  have e1 : ∀ q, q ≠ r i → (w.setCell ⟨r i, j, none⟩ (.int .i64 (c : Int))).heap[q]? = w.heap[q]? := fun q hq => Below.heap_setCell w ⟨r i, j, none⟩ _ q hq
  have hgr : g ≠ r i := fun e => ht.apart i hi e.symm
  refine ⟨⟨xs, own_stay h1 (fun q hq => by simp only [Value.ownBlock, Option.some.injEq] at hq; subst hq; exact e1 _ hgr)⟩, fun i' hi' => cell_keep (ht.cell i' hi') (e1 g hgr), fun i' hi' => ?_, ht.apart, ht.inj⟩
  obtain ⟨ys, h3, h4⟩ := ht.row i' hi'
  by_cases e : i' = i
  · subst e
    refine ⟨_, own_store h3 (show j < b.length + 1 by omega) _, fun j' hj' hp => ?_⟩
    by_cases e2 : j' = j
    · subst e2
      rw [List.getElem?_set_self (by rw [h3.1]; omega), hc]
    · rw [List.getElem?_set_ne (fun e3 => e2 e3.symm)]
      exact h4 j' hj' (hp.resolve_right (fun h => e2 h.2))
  · exact ⟨ys, own_stay h3 (fun q hq => by simp only [Value.ownBlock, Option.some.injEq] at hq; subst hq; exact e1 _ (fun e2 => e (ht.inj i' i hi' hi e2))), fun j' hj' hp => h4 j' hj' (hp.resolve_right (fun h => e h.1))⟩
theorem Tb.tab {w : World} {B g : Nat} {r : Nat → Nat} {a b : List ByteArray} {P : Nat → Nat → Prop} (ht : Tb w B g r a b (a.length + 1) P) (hp : ∀ i j, i ≤ a.length → j ≤ b.length → P i j) : Tab w B g r a b 0 :=
  ⟨ht.outer, fun i _ hi => ht.cell i (by omega), fun i _ hi j hj => by
    obtain ⟨ys, h3, h4⟩ := ht.row i (by omega)
    exact own_cell h3 (h4 j hj (hp i j hi hj)), fun i _ hi => ⟨ht.apart i (by omega), (ht.rlt (i := i) (by omega)).2⟩⟩
theorem Tb.val {w : World} {B g K : Nat} {r : Nat → Nat} {a b : List ByteArray} {P : Nat → Nat → Prop} (ht : Tb w B g r a b K P) {i j : Nat} (hi : i < K) (hj : j ≤ b.length) (hp : P i j) : w.cell? ⟨r i, j, none⟩ = some (.int .i64 (F a b i j : Nat)) := by
  obtain ⟨ys, h3, h4⟩ := ht.row i hi
  exact own_cell h3 (h4 j hj hp)
theorem Tb.any {w : World} {B g K : Nat} {r : Nat → Nat} {a b : List ByteArray} {P : Nat → Nat → Prop} (ht : Tb w B g r a b K P) {i j : Nat} (hi : i < K) (hj : j ≤ b.length) : (∃ u, w.cell? ⟨r i, j, none⟩ = some u) ∧ w.frozen? ⟨r i, j, none⟩ = false := by
  obtain ⟨ys, h3, h4⟩ := ht.row i hi
  have : j < ys.length := by rw [h3.1]; omega
  exact ⟨⟨ys[j], own_cell h3 (List.getElem?_eq_getElem this)⟩, own_frozen h3 j⟩
theorem Tb.gany {w : World} {B g K : Nat} {r : Nat → Nat} {a b : List ByteArray} {P : Nat → Nat → Prop} (ht : Tb w B g r a b K P) {i : Nat} (hi : i ≤ a.length) : (∃ u, w.cell? ⟨g, i, none⟩ = some u) ∧ w.frozen? ⟨g, i, none⟩ = false := by
  obtain ⟨xs, h3⟩ := ht.outer
  have : i < xs.length := by rw [h3.1]; omega
  exact ⟨⟨xs[i], own_cell h3 (List.getElem?_eq_getElem this)⟩, own_frozen h3 i⟩
end Go.Proofs.YtkenmldiojeooaaGreat.Ud

namespace Go.Proofs.YtkenmldiojeooaaGreat.Ud
open Go.RowKit Tx Um Aq
set_option linter.unusedVariables false
set_option maxRecDepth 100000 in
set_option maxHeartbeats 4000000 in
theorem lengths_any (A B : Option Addr) (ca cb : Nat) (M a b : List ByteArray) (w : World) (hM : ∀ x, x ∈ a → num M x < M.length) (hm4 : a.length ≤ 400) (hn4 : b.length ≤ 400) (hA : Nums w A (a.map (num M))) (hB : Nums w B (b.map (num M))) :
    Calls Tryz.prog 131 #[.slice A a.length ca, .slice B b.length cb] w (TableTo a b w) := by
  obtain ⟨iI, hI, hI0, hI1, hI2⟩ := info_parts infoInt
  obtain ⟨iS, hS, hS0, hS1, hS2⟩ := info_parts infoInts
  have HAS := Lib.hid hA
  have HBS := Lib.hid hB
  have HMM := Lib.hid hM
  clear hA hB hM
  obtain ⟨m, hm⟩ : ∃ m, m = a.length := ⟨_, rfl⟩
  obtain ⟨n, hn⟩ : ∃ n, n = b.length := ⟨_, rfl⟩
  rw [← hm] at hm4 ⊢
  rw [← hn] at hn4 ⊢
  have HM := Lib.hid hm
  have HN := Lib.hid hn
  clear hm hn
  go_enter Tryz.func131, Tryz.ntmps131
  go_wp2_with (at_make; refine wpList_make_full _ rfl _ _ _ rfl w.heap.size 153 iS (.slice none 0 0) 1 Tryz.underlying163 hS hS0 hS1 _ _ _ _ (m + 1) rfl rfl rfl rfl (by rw [hS2]; omega) (by unfold maxLen; omega) (Nat.le_refl _) ?_)
  intro w1 hown1 hgrow1
  have hB1 : Below w.heap.size w w1 := (Below.refl _ w).grown hgrow1 (Nat.le_refl _) (fun k hk => by cases hk)
  obtain ⟨B0, hB0⟩ : ∃ B0, B0 = w.heap.size := ⟨_, rfl⟩
  obtain ⟨g, hg⟩ : ∃ g, g = w.heap.size := ⟨_, rfl⟩
  rw [← hg] at hown1 ⊢
  have hgB : B0 ≤ g := by omega
  have hT1 : Hid (Tb w1 B0 g (fun _ => 0) a b 0 fun i j => i = a.length ∨ j = b.length) := by
    show Tb _ _ _ _ _ _ _ _
    refine ⟨⟨(madeCells #[.slice none 0 0] (m + 1)).toList, ?_⟩, fun i hi => by omega, fun i hi => by omega, fun i hi => by omega, fun i j hi => by omega⟩
    rw [hB0, ← HM.out, ← hg]
    exact hown1
  rw [← hB0] at hB1
  have HB0 := Lib.hid hB0
  clear hg hgrow1 hB0 hown1
  go_wp2_with fail
  go_loopw [6, 15] (fun _ i wr => ∃ (k : Nat) (r : Nat → Nat), i = .int .i64 (k : Int) ∧ k ≤ m + 1 ∧ Hid (Tb wr B0 g r a b k fun i j => i = a.length ∨ j = b.length) ∧ Below B0 w wr) (fun _ i _ => m + 1 - (intOf i).toNat)
  case atStart => exact ⟨0, _, rfl, Nat.zero_le _, hT1, hB1⟩
  case round =>
    obtain ⟨k, r, rfl, hk, hT, hb⟩ := hrel
    clear hT1 hB1
    by_cases hlt : k < m + 1
    · have e1 : (k : Int) < (m : Int) + 1 := by omega
      have hszB : B0 ≤ wr.heap.size := by have := HB0.out; have := hb.size; omega
      go_wp2_with (at_make; refine wpList_make_full _ rfl _ _ _ rfl B0 3 iI (.int .i64 0) 1 Tryz.underlying153 hI hI0 hI1 _ _ _ _ (n + 1) rfl rfl rfl rfl (by rw [hI2]; omega) (by unfold maxLen; omega) hszB ?_)
      intro w3 hown3 hgrow3
      obtain ⟨h, hh⟩ : ∃ h, h = wr.heap.size := ⟨_, rfl⟩
      rw [← hh] at hown3 ⊢
      have ho3 : w3.ownsRow B0 3 1 (.slice (some ⟨h, 0, none⟩) (b.length + 1) (b.length + 1)) (b.length + 1) (List.replicate (b.length + 1) (.int .i64 0)) := by rw [← HN.out, ← made_zero]; simpa using hown3
      have hT4 : Hid (Tb (w3.setCell ⟨g, k, none⟩ (.slice (some ⟨h, 0, none⟩) (n + 1) (n + 1))) B0 g (fun i => if i = k then h else r i) a b (k + 1) fun i j => i = a.length ∨ j = b.length) := by
        show Tb _ _ _ _ _ _ _ _
        have h := hT.out.make (by rw [← HM.out]; omega) hh hgrow3 ho3
        rw [HN.out]
        exact h
      have hb4 : Below B0 w (w3.setCell ⟨g, k, none⟩ (.slice (some ⟨h, 0, none⟩) (n + 1) (n + 1))) := (hb.grown hgrow3 hszB (fun k hk => by cases hk)).setCell (p := ⟨g, k, none⟩) hgB _
      obtain ⟨⟨old, hst⟩, hfz⟩ := hT.out.gany (i := k) (by rw [← HM.out]; omega)
      have hgl := hT.out.glt.2
      have hst3 : w3.cell? ⟨g, k, none⟩ = some old := hgrow3.cell hst (by simp)
      have hfz3 : w3.frozen? ⟨g, k, none⟩ = false := (hgrow3.frozen_far ⟨g, k, none⟩ hgl (by simp)).trans hfz
      clear hown3 hgrow3 ho3 hT hst hfz hb hszB hgl hh
      go_wp2_with fail
      go_roundw
      case rel => exact ⟨k + 1, _, by go_num, by omega, hT4, hb4⟩
      case measure => simp [intOf]; try omega
    · obtain rfl : k = m + 1 := by omega
      have e1 : ¬ ((m + 1 : Nat) : Int) < (m : Int) + 1 := by omega
      have hT0 : Hid (Tb wr B0 g r a b (a.length + 1) fun i j => m ≤ i ∨ j = b.length) := by
        show Tb _ _ _ _ _ _ _ _
        have h := hT.out
        rw [HM.out] at h ⊢
        exact h.weak (fun i j hi hj hp => hp.imp (fun h => by omega) id)
      clear hT
      go_wp2_with fail
      go_loopw [7, 8] (fun i _ wr => ∃ k : Nat, i = .int .i64 ((k : Int) - 1) ∧ k ≤ m ∧ Hid (Tb wr B0 g r a b (a.length + 1) fun i j => k ≤ i ∨ j = b.length) ∧ Below B0 w wr) (fun i _ _ => (intOf i + 1).toNat)
      case atStart => exact ⟨m, rfl, Nat.le_refl _, hT0, hb⟩
      case round =>
        obtain ⟨k, rfl, hk, hT, hb⟩ := hrel
        clear hT0
        rcases k with _ | q
        · have e2 : ¬ (0 : Int) ≤ ((0 : Nat) : Int) - 1 := by omega
          go_wp2_with fail
          go_ret
          unfold TableTo
          rw [← HB0.out, ← HM.out]
          exact ⟨g, r, rfl, hT.out.tab (fun i j hi hj => .inl (Nat.zero_le _)), hb⟩
        · rw [show (((q + 1 : Nat) : Int) - 1) = (q : Int) by omega]
          have hT3 : Hid (Tb wr B0 g r a b (a.length + 1) fun i j => q + 1 ≤ i ∨ j = b.length ∨ (i = q ∧ n ≤ j)) := hT.out.weak (fun i j hi hj hp => by rcases hp with h | h | h; exact .inl h; exact .inr h; have := HN.out; exact .inr (by omega))
          clear hT
          go_wp2_with fail
          go_loopw [8] (fun j wx => ∃ k : Nat, j = .int .i64 ((k : Int) - 1) ∧ k ≤ n ∧ Hid (Tb wx B0 g r a b (a.length + 1) fun i j => q + 1 ≤ i ∨ j = b.length ∨ (i = q ∧ k ≤ j)) ∧ Below B0 w wx) (fun j _ => (intOf j + 1).toNat)
          case atStart => exact ⟨n, rfl, Nat.le_refl _, hT3, hb⟩
          case round =>
            obtain ⟨k, rfl, hkn, hT, hb⟩ := hrel
            clear hT3
            rcases k with _ | p
            · have e2 : ¬ (0 : Int) ≤ ((0 : Nat) : Int) - 1 := by omega
              have hT4 : Hid (Tb wr B0 g r a b (a.length + 1) fun i j => q ≤ i ∨ j = b.length) := hT.out.weak (fun i j hi hj hp => by
                rcases hp with h | h
                · by_cases e : i = q
                  · exact .inr (.inr ⟨e, Nat.zero_le _⟩)
                  · exact .inl (by omega)
                · exact .inr (.inl h))
              clear hT
              go_wp2_with fail
              go_roundw
              case rel => exact ⟨q, by go_num, by omega, hT4, hb⟩
              case measure => simp [intOf]; try omega
            · rw [show (((p + 1 : Nat) : Int) - 1) = (p : Int) by omega]
              have hqa : q < a.length := by rw [← HM.out]; omega
              have hpb : p < b.length := by rw [← HN.out]; omega
              obtain ⟨ga, rfl, hga, hca⟩ := HAS.out.resolve_left (by rw [List.length_map]; omega)
              obtain ⟨gb, rfl, hgb, hcb⟩ := HBS.out.resolve_left (by rw [List.length_map]; omega)
              rw [← HB0.out] at hga hgb
              have c1 := (hb.cell (p := ⟨ga, q, none⟩) hga).trans (hca q (num M a[q]) (by rw [List.getElem?_map, List.getElem?_eq_getElem hqa]; rfl))
              have c2 := (hb.cell (p := ⟨gb, p, none⟩) hgb).trans (hcb p (num M b[p]) (by rw [List.getElem?_map, List.getElem?_eq_getElem hpb]; rfl))
              have hiff := num_eq HMM.out (y := b[p]) (List.getElem_mem hqa)
              have d1 := hT.out.cell q (by omega)
              have d2 := hT.out.cell (q + 1) (by omega)
              obtain ⟨⟨old, hst⟩, hfz⟩ := hT.out.any (i := q) (j := p) (by omega) (by omega)
              have wq : IntKind.i64.wrap ((q : Int) + 1) = (q : Int) + 1 := IntWalk.i64_in _ (by omega)
              have wp : IntKind.i64.wrap ((p : Int) + 1) = (p : Int) + 1 := IntWalk.i64_in _ (by omega)
              have nq : ((q : Int) + 1).toNat = q + 1 := by omega
              have np : ((p : Int) + 1).toNat = p + 1 := by omega
              have zq : (0 : Int) ≤ (q : Int) + 1 := by omega
              have zp : (0 : Int) ≤ (p : Int) + 1 := by omega
              have f1 : (p : Int) + 1 < (n : Int) + 1 := by omega
              have f2 : (p : Int) < (n : Int) + 1 := by omega
              have f3 : (q : Int) + 1 < (m : Int) + 1 := by omega
              have f4 : (q : Int) < (m : Int) + 1 := by omega
              have f5 : (q : Int) < (m : Int) := by omega
              have f6 : (p : Int) < (n : Int) := by omega
              have hput := fun c hc => (hT.out.put (i := q) (j := p) (by omega) (by omega) c hc).weak (P' := fun i j => q + 1 ≤ i ∨ j = b.length ∨ (i = q ∧ p ≤ j)) (fun i j hi hj hp => by
                rcases hp with h | h | h
                · exact .inl (.inl h)
                · exact .inl (.inr (.inl h))
                · by_cases e : j = p
                  · exact .inr ⟨h.1, e⟩
                  · exact .inl (.inr (.inr ⟨h.1, by omega⟩)))
              have hbp := fun u : Value => hb.setCell (p := ⟨r q, p, none⟩) (hT.out.rlt (i := q) (by omega)).1 u
              rw [← HN.out] at d1 d2
              by_cases he : a[q] = b[p]
              · have hF := F_eq a b q p hqa hpb he
                have d3 := hT.out.val (i := q + 1) (j := p + 1) (by omega) (by omega) (.inl (Nat.le_refl _))
                have hE4 := F_le a b (q + 1) (p + 1)
                have e3 : (((num M a[q] : Nat) : Int) == ((num M b[p] : Nat) : Int)) = true := by rw [he]; exact beq_self_eq_true _
                have HP := Lib.hid (hput _ hF.symm)
                have HB := Lib.hid (hbp (.int .i64 ((F a b (q + 1) (p + 1) + 1 : Nat) : Int)))
                obtain ⟨X, hX⟩ : ∃ X, X = num M a[q] := ⟨_, rfl⟩
                obtain ⟨Y, hY⟩ : ∃ Y, Y = num M b[p] := ⟨_, rfl⟩
                obtain ⟨E, hE⟩ : ∃ E, E = F a b (q + 1) (p + 1) := ⟨_, rfl⟩
                obtain ⟨r0, hr0⟩ : ∃ r0, r0 = r q := ⟨_, rfl⟩
                obtain ⟨r1, hr1⟩ : ∃ r1, r1 = r (q + 1) := ⟨_, rfl⟩
                rw [← hX] at c1 e3
                rw [← hY] at c2 e3
                rw [← hE, ← hr0] at HP
                rw [← hE, ← hr0] at HB
                rw [← hr1, ← hE] at d3
                rw [← hE] at hE4
                rw [← hr0] at d1 hst hfz
                rw [← hr1] at d2
                have hE5 : E ≤ 400 := by rw [← HM.out] at hE4; omega
                have wE : IntKind.i64.wrap ((E : Int) + 1) = (E : Int) + 1 := IntWalk.i64_in _ (by omega)
                rw [show ((E + 1 : Nat) : Int) = (E : Int) + 1 by omega] at HP HB
                clear hX hY hE hr0 hr1 hF he hiff hput hbp hT hb hca hcb hE4
                go_wp2_with fail
                go_region
                go_wp2_with fail
                go_region
                go_wp2_with fail
                go_roundw
                case rel => exact ⟨p, by go_num, by omega, Lib.hid HP.out.drew1.drew1, HB.out.drew.drew⟩
                case measure => simp [intOf]; try omega
              · have hF := F_ne a b q p hqa hpb he
                have d3 := hT.out.val (i := q + 1) (j := p) (by omega) (by omega) (.inl (Nat.le_refl _))
                have d4 := hT.out.val (i := q) (j := p + 1) (by omega) (by omega) (.inr (.inr ⟨rfl, Nat.le_refl _⟩))
                have hQ4 := F_le a b (q + 1) p
                have hR4 := F_le a b q (p + 1)
                have e3 : (((num M a[q] : Nat) : Int) == ((num M b[p] : Nat) : Int)) = false := beq_eq_false_iff_ne.2 (fun e => he (hiff.1 (by omega)))
                have HP := Lib.hid (hput _ hF.symm)
                have HB := Lib.hid (hbp (.int .i64 ((max (F a b (q + 1) p) (F a b q (p + 1)) : Nat) : Int)))
                obtain ⟨X, hX⟩ : ∃ X, X = num M a[q] := ⟨_, rfl⟩
                obtain ⟨Y, hY⟩ : ∃ Y, Y = num M b[p] := ⟨_, rfl⟩
                obtain ⟨Q, hQ⟩ : ∃ Q, Q = F a b (q + 1) p := ⟨_, rfl⟩
                obtain ⟨R, hR⟩ : ∃ R, R = F a b q (p + 1) := ⟨_, rfl⟩
                obtain ⟨r0, hr0⟩ : ∃ r0, r0 = r q := ⟨_, rfl⟩
                obtain ⟨r1, hr1⟩ : ∃ r1, r1 = r (q + 1) := ⟨_, rfl⟩
                rw [← hX] at c1 e3
                rw [← hY] at c2 e3
                rw [← hQ, ← hR, ← hr0] at HP
                rw [← hQ, ← hR, ← hr0] at HB
                rw [← hr1, ← hQ] at d3
                rw [← hr0, ← hR] at d4
                rw [← hQ] at hQ4
                rw [← hR] at hR4
                rw [← hr0] at d1 hst hfz
                rw [← hr1] at d2
                have hmx : (if Q < R then (R : Int) else (Q : Int)) = ((max Q R : Nat) : Int) := by split <;> omega
                rw [← hmx] at HP HB
                clear hX hY hQ hR hr0 hr1 hF he hiff hput hbp hT hb hca hcb hQ4 hR4 hmx
                go_wp2_with fail
                go_region
                go_wp2_with fail
                go_region
                go_wp2_with fail
                go_roundw
                case rel => exact ⟨p, by go_num, by omega, Lib.hid HP.out.drew1.drew1, HB.out.drew.drew⟩
                case measure => simp [intOf]; try omega
end Go.Proofs.YtkenmldiojeooaaGreat.Ud

namespace Go.Proofs.YtkenmldiojeooaaGreat.Ud
open Go.RowKit Tx Um Aq
set_option linter.unusedVariables false
def Does (a b : List ByteArray) (p q x : Nat) : Prop :=
  (x = 0 ∧ ∃ (hp : p < a.length) (hq : q < b.length), a[p] = b[q]) ∨
  (x = 1 ∧ p < a.length ∧ (q = b.length ∨ ∃ (hp : p < a.length) (hq : q < b.length), a[p] ≠ b[q] ∧ ¬ F a b (p + 1) q < F a b p (q + 1))) ∨
  (x = 2 ∧ q < b.length ∧ (p = a.length ∨ ∃ (hp : p < a.length) (hq : q < b.length), a[p] ≠ b[q] ∧ F a b (p + 1) q < F a b p (q + 1)))
theorem Does.le {a b : List ByteArray} {p q x : Nat} (h : Does a b p q x) : x = 0 ∨ x = 1 ∨ x = 2 := by
  rcases h with ⟨h, _⟩ | ⟨h, _⟩ | ⟨h, _⟩
  · exact .inl h
  · exact .inr (.inl h)
  · exact .inr (.inr h)
def onA (p x : Nat) : Nat := if x = 2 then p else p + 1
def onB (q x : Nat) : Nat := if x = 1 then q else q + 1
theorem St.does {a b : List ByteArray} {pre : List Nat} {p q x : Nat} (h : St a b pre p q) (hx : Does a b p q x) : St a b (pre ++ [x]) (onA p x) (onB q x) := by
  rcases hx with ⟨rfl, hp, hq, he⟩ | ⟨rfl, hp, he⟩ | ⟨rfl, hq, he⟩
  · exact st_keep h hp hq he
  · exact st_drop h hp (he.imp id (fun ⟨_, hq, h1, h2⟩ => ⟨hq, h1, h2⟩))
  · exact st_add h hq (he.imp id (fun ⟨hp, _, h1, h2⟩ => ⟨hp, h1, h2⟩))
set_option maxRecDepth 100000 in
set_option maxHeartbeats 600000 in
theorem next_any (A B : Option Addr) (ca cb g p q B0 : Nat) (r : Nat → Nat) (M a b : List ByteArray) (w : World) (hM : ∀ x, x ∈ a → num M x < M.length) (hm4 : a.length ≤ 400) (hn4 : b.length ≤ 400) (hA : Nums w A (a.map (num M))) (hB : Nums w B (b.map (num M))) (hT : Tab w B0 g r a b 0)
    (hp : p ≤ a.length) (hq : q ≤ b.length) (hpq : p < a.length ∨ q < b.length) :
    Calls Tryz.prog 132 #[.slice A a.length ca, .slice B b.length cb, .slice (some ⟨g, 0, none⟩) (a.length + 1) (a.length + 1), .agg #[.int .i64 (p : Int), .int .i64 (q : Int)]] w fun e w' => ∃ x : Nat, e = .returned (.int .i64 (x : Int)) ∧ Does a b p q x ∧ Below w.heap.size w w' := by
  by_cases hpm : p < a.length
  · by_cases hqn : q < b.length
    · have HB0 : Below w.heap.size w (w.alloc (.cells #[.int .i64 (p : Int), .int .i64 (q : Int)] 129)) := (Below.refl _ w).alloc (Nat.le_refl _) _
      obtain ⟨ga, rfl, hga, hca⟩ := (hA.below HB0).resolve_left (by rw [List.length_map]; omega)
      obtain ⟨gb, rfl, hgb, hcb⟩ := (hB.below HB0).resolve_left (by rw [List.length_map]; omega)
      have c1 := hca p (num M a[p]) (by rw [List.getElem?_map, List.getElem?_eq_getElem hpm]; rfl)
      have c2 := hcb q (num M b[q]) (by rw [List.getElem?_map, List.getElem?_eq_getElem hqn]; rfl)
      have hiff := num_eq hM (y := b[q]) (List.getElem_mem hpm)
      have hTw := hT.below HB0
      have d1 := hTw.cell (p + 1) (Nat.zero_le _) hpm
      have d2 := hTw.cell p (Nat.zero_le _) (by omega)
      have d3 := hTw.row (p + 1) (Nat.zero_le _) hpm q (by omega)
      have d4 := hTw.row p (Nat.zero_le _) (by omega) (q + 1) hqn
      have hX4 := F_le a b (p + 1) q
      have hY4 := F_le a b p (q + 1)
      by_cases he : a[p] = b[q]
      · have e3 : (((num M a[p] : Nat) : Int) == ((num M b[q] : Nat) : Int)) = true := by rw [he]; exact beq_self_eq_true _
        have HD := Lib.hid (show Does a b p q 0 from .inl ⟨rfl, hpm, hqn, he⟩)
        obtain ⟨X, hX⟩ : ∃ X, X = num M a[p] := ⟨_, rfl⟩
        obtain ⟨Y, hY⟩ : ∃ Y, Y = num M b[q] := ⟨_, rfl⟩
        rw [← hX] at c1 e3
        rw [← hY] at c2 e3
        obtain ⟨m, hm⟩ : ∃ m, m = a.length := ⟨_, rfl⟩
        obtain ⟨n, hn⟩ : ∃ n, n = b.length := ⟨_, rfl⟩
        rw [← hm] at hm4 hpm hp  ⊢
        rw [← hn] at hn4 hqn hq  ⊢
        clear hX hY hiff hTw hX4 hY4 he hca hcb hga hgb hA hB hT hM hpq hm hn d1 d2 d3 d4
        have HBX := Lib.hid HB0
        clear HB0
        have f1 : (p : Int) < (m : Int) := by omega
        have f2 : (q : Int) < (n : Int) := by omega
        go_enter Tryz.func132, Tryz.ntmps132
        go_wp2_with fail
        go_region
        go_wp2_with fail
        go_region
        go_wp2_with fail
        go_ret
        exact ⟨0, rfl, HD.out, HBX.out.drew.drew⟩
      · have e3 : (((num M a[p] : Nat) : Int) == ((num M b[q] : Nat) : Int)) = false := beq_eq_false_iff_ne.2 (fun e => he (hiff.1 (by omega)))
        by_cases hlt : F a b (p + 1) q < F a b p (q + 1)
        · have HD := Lib.hid (show Does a b p q 2 from .inr (.inr ⟨rfl, hqn, .inr ⟨hpm, hqn, he, hlt⟩⟩))
          obtain ⟨X, hX⟩ : ∃ X, X = num M a[p] := ⟨_, rfl⟩
          obtain ⟨Y, hY⟩ : ∃ Y, Y = num M b[q] := ⟨_, rfl⟩
          rw [← hX] at c1 e3
          rw [← hY] at c2 e3
          obtain ⟨P, hP⟩ : ∃ P, P = F a b (p + 1) q := ⟨_, rfl⟩
          obtain ⟨Q, hQ⟩ : ∃ Q, Q = F a b p (q + 1) := ⟨_, rfl⟩
          obtain ⟨r1, hr1⟩ : ∃ r1, r1 = r (p + 1) := ⟨_, rfl⟩
          obtain ⟨r2, hr2⟩ : ∃ r2, r2 = r p := ⟨_, rfl⟩
          rw [← hr1] at d1 d3
          rw [← hr2] at d2 d4
          rw [← hP] at d3 hlt hX4
          rw [← hQ] at d4 hlt hY4
          obtain ⟨m, hm⟩ : ∃ m, m = a.length := ⟨_, rfl⟩
          obtain ⟨n, hn⟩ : ∃ n, n = b.length := ⟨_, rfl⟩
          rw [← hm] at hm4 hpm hp hX4 hY4 ⊢
          rw [← hn] at hn4 hqn hq d1 d2 ⊢
          clear hX hY hiff hTw hX4 hY4 he hca hcb hga hgb hA hB hT hM hpq hm hn hP hQ hr1 hr2
          have HBX := Lib.hid HB0
          clear HB0
          have f1 : (p : Int) < (m : Int) := by omega
          have f2 : (q : Int) < (n : Int) := by omega
          have e4 : ((q : Int) == (n : Int)) = false := beq_eq_false_iff_ne.2 (by omega)
          have wq : IntKind.i64.wrap ((q : Int) + 1) = (q : Int) + 1 := IntWalk.i64_in _ (by omega)
          have wp : IntKind.i64.wrap ((p : Int) + 1) = (p : Int) + 1 := IntWalk.i64_in _ (by omega)
          have nq : ((q : Int) + 1).toNat = q + 1 := by omega
          have np : ((p : Int) + 1).toNat = p + 1 := by omega
          have zq : (0 : Int) ≤ (q : Int) + 1 := by omega
          have zp : (0 : Int) ≤ (p : Int) + 1 := by omega
          have g1 : (p : Int) + 1 < (m : Int) + 1 := by omega
          have g2 : (p : Int) < (m : Int) + 1 := by omega
          have g3 : (q : Int) + 1 < (n : Int) + 1 := by omega
          have g4 : (q : Int) < (n : Int) + 1 := by omega
          have g5 : ¬ (Q : Int) ≤ (P : Int) := by omega
          have g6 : (P : Int) < (Q : Int) := by omega
          go_enter Tryz.func132, Tryz.ntmps132
          go_wp2_with fail
          go_region
          go_wp2_with fail
          go_region
          go_wp2_with fail
          go_region
          go_wp2_with fail
          go_ret
          exact ⟨2, rfl, HD.out, HBX.out.drew.drew.drew⟩
        · have HD := Lib.hid (show Does a b p q 1 from .inr (.inl ⟨rfl, hpm, .inr ⟨hpm, hqn, he, hlt⟩⟩))
          obtain ⟨X, hX⟩ : ∃ X, X = num M a[p] := ⟨_, rfl⟩
          obtain ⟨Y, hY⟩ : ∃ Y, Y = num M b[q] := ⟨_, rfl⟩
          rw [← hX] at c1 e3
          rw [← hY] at c2 e3
          obtain ⟨P, hP⟩ : ∃ P, P = F a b (p + 1) q := ⟨_, rfl⟩
          obtain ⟨Q, hQ⟩ : ∃ Q, Q = F a b p (q + 1) := ⟨_, rfl⟩
          obtain ⟨r1, hr1⟩ : ∃ r1, r1 = r (p + 1) := ⟨_, rfl⟩
          obtain ⟨r2, hr2⟩ : ∃ r2, r2 = r p := ⟨_, rfl⟩
          rw [← hr1] at d1 d3
          rw [← hr2] at d2 d4
          rw [← hP] at d3 hlt hX4
          rw [← hQ] at d4 hlt hY4
          obtain ⟨m, hm⟩ : ∃ m, m = a.length := ⟨_, rfl⟩
          obtain ⟨n, hn⟩ : ∃ n, n = b.length := ⟨_, rfl⟩
          rw [← hm] at hm4 hpm hp hX4 hY4 ⊢
          rw [← hn] at hn4 hqn hq d1 d2 ⊢
          clear hX hY hiff hTw hX4 hY4 he hca hcb hga hgb hA hB hT hM hpq hm hn hP hQ hr1 hr2
          have HBX := Lib.hid HB0
          clear HB0
          have f1 : (p : Int) < (m : Int) := by omega
          have f2 : (q : Int) < (n : Int) := by omega
          have e4 : ((q : Int) == (n : Int)) = false := beq_eq_false_iff_ne.2 (by omega)
          have wq : IntKind.i64.wrap ((q : Int) + 1) = (q : Int) + 1 := IntWalk.i64_in _ (by omega)
          have wp : IntKind.i64.wrap ((p : Int) + 1) = (p : Int) + 1 := IntWalk.i64_in _ (by omega)
          have nq : ((q : Int) + 1).toNat = q + 1 := by omega
          have np : ((p : Int) + 1).toNat = p + 1 := by omega
          have zq : (0 : Int) ≤ (q : Int) + 1 := by omega
          have zp : (0 : Int) ≤ (p : Int) + 1 := by omega
          have g1 : (p : Int) + 1 < (m : Int) + 1 := by omega
          have g2 : (p : Int) < (m : Int) + 1 := by omega
          have g3 : (q : Int) + 1 < (n : Int) + 1 := by omega
          have g4 : (q : Int) < (n : Int) + 1 := by omega
          have g5 : (Q : Int) ≤ (P : Int) := by omega
          have g6 : ¬ (P : Int) < (Q : Int) := by omega
          go_enter Tryz.func132, Tryz.ntmps132
          go_wp2_with fail
          go_region
          go_wp2_with fail
          go_region
          go_wp2_with fail
          go_region
          go_wp2_with fail
          go_ret
          exact ⟨1, rfl, HD.out, HBX.out.drew.drew.drew⟩
    · have hqe : q = b.length := by omega
      have HD := Lib.hid (show Does a b p q 1 from .inr (.inl ⟨rfl, hpm, .inl hqe⟩))
      have HB0 : Below w.heap.size w (w.alloc (.cells #[.int .i64 (p : Int), .int .i64 (q : Int)] 129)) := (Below.refl _ w).alloc (Nat.le_refl _) _
      obtain ⟨m, hm⟩ : ∃ m, m = a.length := ⟨_, rfl⟩
      obtain ⟨n, hn⟩ : ∃ n, n = b.length := ⟨_, rfl⟩
      rw [← hm] at hm4 hpm hp  ⊢
      rw [← hn] at hn4 hqn hq hqe ⊢
      clear hA hB hT hM hpq hm hn
      have HBX := Lib.hid HB0
      clear HB0
      have f1 : (p : Int) < (m : Int) := by omega
      have hqe2 : n ≤ q := by omega
      have e4 : ((q : Int) == (n : Int)) = true := beq_iff_eq.2 (by omega)
      have HQ := Lib.hid hqe
      clear hqe hqn
      go_enter Tryz.func132, Tryz.ntmps132
      go_wp2_with fail
      go_region
      go_wp2_with fail
      have f3 : decide ((q : Int) < (n : Int)) = false := decide_eq_false (by omega)
      have f2 : ¬ (q : Int) < (n : Int) := by omega
      go_region
      go_wp2_with fail
      have f3 : decide ((q : Int) < (n : Int)) = false := decide_eq_false (by omega)
      have f2 : ¬ (q : Int) < (n : Int) := by omega
      go_region
      go_wp2_with fail
      go_ret
      exact ⟨1, rfl, HD.out, HBX.out.drew.drew.drew⟩
  · have hpe : p = a.length := by omega
    have hqn : q < b.length := by omega
    have HD := Lib.hid (show Does a b p q 2 from .inr (.inr ⟨rfl, hqn, .inl hpe⟩))
    have HB0 : Below w.heap.size w (w.alloc (.cells #[.int .i64 (p : Int), .int .i64 (q : Int)] 129)) := (Below.refl _ w).alloc (Nat.le_refl _) _
    obtain ⟨m, hm⟩ : ∃ m, m = a.length := ⟨_, rfl⟩
    obtain ⟨n, hn⟩ : ∃ n, n = b.length := ⟨_, rfl⟩
    rw [← hm] at hm4 hpm hp hpe ⊢
    rw [← hn] at hn4 hqn hq  ⊢
    clear hA hB hT hM hpq hm hn
    have HBX := Lib.hid HB0
    clear HB0
    have hpe2 : m ≤ p := by omega
    have f2 : (q : Int) < (n : Int) := by omega
    have e4 : ((q : Int) == (n : Int)) = false := beq_eq_false_iff_ne.2 (by omega)
    have HQ := Lib.hid hpe
    clear hpe hpm
    go_enter Tryz.func132, Tryz.ntmps132
    go_wp2_with fail
    go_region
    go_wp2_with fail
    have f3 : decide ((p : Int) < (m : Int)) = false := decide_eq_false (by omega)
    have f1 : ¬ (p : Int) < (m : Int) := by omega
    go_region
    go_wp2_with fail
    have f3 : decide ((p : Int) < (m : Int)) = false := decide_eq_false (by omega)
    have f1 : ¬ (p : Int) < (m : Int) := by omega
    go_region
    go_wp2_with fail
    go_ret
    exact ⟨2, rfl, HD.out, HBX.out.drew.drew.drew⟩
end Go.Proofs.YtkenmldiojeooaaGreat.Ud

namespace Go.Proofs.YtkenmldiojeooaaGreat.Ud
open Go.RowKit Go.ChangeShapes Go.WideShapes Tx Um Aq
set_option linter.unusedVariables false
theorem heap_new2 (w : World) (o1 o2 : Obj) : ((w.alloc o1).alloc o2).heap[w.heap.size + 1]? = some o2 := by
  have := heap_alloc_new (w.alloc o1) o2
  simpa using this
theorem infoPair2 : (Tryz.prog.info? 129).map (·.size) = some 2 := by kernel_rfl
set_option maxRecDepth 100000 in
set_option maxHeartbeats 600000 in
theorem behind_any (p q x : Nat) (w : World) (hx : x = 0 ∨ x = 1 ∨ x = 2) (hp : p ≤ 1000) (hq : q ≤ 1000) :
    Calls Tryz.prog 116 #[.agg #[.int .i64 (p : Int), .int .i64 (q : Int)], .int .i64 (x : Int)] w fun e w' => e = .returned (.agg #[.int .i64 (onA p x : Nat), .int .i64 (onB q x : Nat)]) ∧ Below w.heap.size w w' := by
  rcases hx with rfl | rfl | rfl
  all_goals
    go_enter Tryz.func116, Tryz.ntmps116
    go_wp2_with fail
    refine bodyPost_ret (results_cell_row rfl _ _ _ _ _ _ _ rfl (heap_new2 _ _ _) Tryz.underlying129 rfl infoPair2) rfl ?_
    exact ⟨rfl, ((Below.refl _ w).alloc (Nat.le_refl _) _).alloc (by simp) _⟩
def bump : List (Nat × Nat) → Nat → List (Nat × Nat)
  | [], x => [(x, 1)]
  | [(y, n)], x => if y = x then [(y, n + 1)] else [(y, n), (x, 1)]
  | p :: q :: r, x => p :: bump (q :: r) x
theorem bump_last (l : List (Nat × Nat)) (y n x : Nat) : bump (l ++ [(y, n)]) x = if y = x then l ++ [(y, n + 1)] else l ++ [(y, n)] ++ [(x, 1)] := by
  induction l with
  | nil => rfl
  | cons p l ih =>
    cases l with
    | nil =>
      show p :: bump [(y, n)] x = _
      have e : bump [(y, n)] x = if y = x then [(y, n + 1)] else [(y, n), (x, 1)] := rfl
      rw [e]
      split <;> rfl
    | cons q r =>
      have e : bump (p :: q :: r ++ [(y, n)]) x = p :: bump (q :: r ++ [(y, n)]) x := rfl
      rw [e, ih]
      split <;> rfl
theorem bump_runs (s : List Nat) (x : Nat) : runs (s ++ [x]) = bump (runs s) x := by
  induction s with
  | nil => rfl
  | cons y s ih =>
    rw [List.cons_append, runs_cons, runs_cons, ih]
    cases hr : runs s with
    | nil =>
      have e1 : bump [] x = [(x, 1)] := rfl
      have e2 : bump [(y, 1)] x = if y = x then [(y, 1 + 1)] else [(y, 1), (x, 1)] := rfl
      simp only [e1, e2]
      by_cases e : y = x
      · rw [if_pos e, if_pos e, e]
      · rw [if_neg e, if_neg e]
    | cons p r =>
      obtain ⟨z, n⟩ := p
      cases r with
      | nil =>
        have e0 : bump [(z, n)] x = if z = x then [(z, n + 1)] else [(z, n), (x, 1)] := rfl
        have e3 : bump [(z, n + 1)] x = if z = x then [(z, n + 1 + 1)] else [(z, n + 1), (x, 1)] := rfl
        have e4 : bump [(y, 1), (z, n)] x = (y, 1) :: (if z = x then [(z, n + 1)] else [(z, n), (x, 1)]) := rfl
        rw [e0]
        by_cases e1 : z = x
        · by_cases e2 : y = z
          · simp only [if_pos e1, if_pos e2, e3]
          · simp only [if_pos e1, if_neg e2, e4]
        · by_cases e2 : y = z
          · simp only [if_neg e1, if_pos e2, e3]
          · simp only [if_neg e1, if_neg e2, e4]
      | cons q r =>
        have e0 : bump ((z, n) :: q :: r) x = (z, n) :: bump (q :: r) x := rfl
        have e3 : bump ((z, n + 1) :: q :: r) x = (z, n + 1) :: bump (q :: r) x := rfl
        have e4 : bump ((y, 1) :: (z, n) :: q :: r) x = (y, 1) :: (z, n) :: bump (q :: r) x := rfl
        rw [e0]
        by_cases e2 : y = z
        · simp only [if_pos e2, e3]
        · simp only [if_neg e2, e4]
theorem flat2_set (l : List (Nat × Nat)) (y n c : Nat) : ((l ++ [(y, n)]).flatMap c2).set (l.length * 2 + 1) (.int .i64 (c : Int)) = (l ++ [(y, c)]).flatMap c2 := by
  have h := flat2_len l
  rw [List.flatMap_append, List.flatMap_append, List.set_append_right _ _ (by omega), show l.length * 2 + 1 - (l.flatMap c2).length = 1 by omega]
  rfl
theorem own_put2 {w : World} {base g n cap size : Nat} {e : TypeId} {xs : List Value} (h : w.ownsRow base e size (.slice (some ⟨g, 0, none⟩) n cap) n xs) (k : Nat) (u : Value) :
    (w.setCell ⟨g, k, none⟩ u).ownsRow base e size (.slice (some ⟨g, 0, none⟩) n cap) n (xs.set k u) := by
  refine ⟨by rw [List.length_set]; exact h.1, ?_⟩
  rcases h.2 with ⟨h0, _⟩ | ⟨g', cap', cur, hv, hb, hh, hn, hc, hs, ht⟩
  · cases h0
  · injection hv with hg _ hcap
    injection hg with hg
    injection hg with hg
    subst hg
    subst hcap
    refine .inr ⟨g, cap, cur.setIfInBounds k u, rfl, hb, ?_, hn, hc, by simpa using hs, ?_⟩
    · simp [World.setCell, Array.getElem?_modify, hh]
    · rw [Array.toList_setIfInBounds, List.take_set, ht]
set_option maxRecDepth 100000 in
set_option maxHeartbeats 1000000 in
theorem longer_any (B : Nat) (v : Value) (l : List (Nat × Nat)) (x : Nat) (w : World) (hv : Prs 150 w B v l) (hx : x ≤ 2) (hl : l.length ≤ 1000) (hn : ∀ p, p ∈ l → p.1 ≤ 2 ∧ p.2 ≤ 1000) (hB : B ≤ w.heap.size) :
    Calls Tryz.prog 133 #[v, .int .i64 (x : Int)] w fun e w' => ∃ v', e = .returned v' ∧ Prs 150 w' B v' (bump l x) ∧ Below B w w' := by
  obtain ⟨iE, hI, hI0, hI1, hI2⟩ := info_parts infoEdit
  rcases List.eq_nil_or_concat l with rfl | ⟨pre, ⟨y, n⟩, rfl⟩
  · have hown : w.ownsRow B 150 2 v 0 [] := hv
    obtain ⟨a, c, rfl, _⟩ := hv.form
    have hBB : Below B w (w.alloc (.cells #[.int .i64 (x : Int), .int .i64 1] 150)) := (Below.refl _ w).alloc hB _
    clear hv hn
    go_enter Tryz.func133, Tryz.ntmps133
    go_wp2_with (at_builtin; refine wpList_append_own _ rfl _ _ 146 rfl B 150 iE (.agg #[.int .i64 0, .int .i64 0]) 2 16 Tryz.underlying146 hI hI0 hI1 hI2 rfl (by decide) _ _ _ rfl (hown.alloc _) ⟨w.heap.size, 0, none⟩ 1 1 (c2 (x, 1)) rfl rfl ?c1 ?c2 ?c3 ?c4 ?c5 ?_)
    case c1 => exact cell_two_new _ _ _ _
    case c2 => exact c2_one (x, 1)
    case c3 => unfold maxLen; omega
    case c4 => omega
    case c5 => simp; omega
    intro v' w2 hown' hgrow _
    have hb3 : Below B w w2 := hBB.grown hgrow (by simp; omega) (fun k hk => (hown.lt k hk).1)
    go_wp2_with fail
    go_ret
    exact ⟨_, rfl, hown', hb3⟩
  · rw [List.concat_eq_append] at hv hl hn ⊢
    obtain ⟨R, hR⟩ : ∃ R, R = bump (pre ++ [(y, n)]) x := ⟨_, rfl⟩
    rw [← hR]
    rw [bump_last] at hR
    obtain ⟨hn1, hn2⟩ := hn (y, n) (by simp)
    have hown : w.ownsRow B 150 2 v (pre ++ [(y, n)]).length ((pre ++ [(y, n)]).flatMap c2) := hv
    have hlen : (pre ++ [(y, n)]).length = pre.length + 1 := by simp
    have hsl : (pre ++ [(y, n)])[pre.length]? = some (y, n) := by rw [List.getElem?_append_right (Nat.le_refl _), Nat.sub_self]; rfl
    obtain ⟨k1, k2⟩ := flat2_get _ _ _ hsl
    rcases hown.2 with ⟨_, h0⟩ | ⟨g, cap, cur, rfl, hg, hh, hnc, hcc, _⟩
    · rw [hlen] at h0; cases h0
    have d1 : w.cell? ⟨g, pre.length * 2, none⟩ = some (.int .i64 (y : Int)) := by
      have := hown.cells (g := g) rfl _ _ k1
      rwa [WideShapes.add_plain, Nat.zero_add] at this
    have d2 : w.cell? ⟨g, pre.length * 2 + 1, none⟩ = some (.int .i64 (n : Int)) := by
      have := hown.cells (g := g) rfl _ _ k2
      rwa [WideShapes.add_plain, Nat.zero_add] at this
    have hfz : w.frozen? ⟨g, pre.length * 2 + 1, none⟩ = false := by simp [World.frozen?, hh]
    have hput := own_put2 hown (pre.length * 2 + 1) (.int .i64 ((n + 1 : Nat) : Int))
    simp only at hn1 hn2
    rw [flat2_set] at hput
    rw [hlen] at hown hput hnc hl ⊢
    obtain ⟨k, hk⟩ : ∃ k, k = pre.length := ⟨_, rfl⟩
    rw [← hk] at d1 d2 hfz hown hput hnc hl ⊢
    have HK := Lib.hid hk
    have wk : IntKind.i64.wrap (((k + 1 : Nat) : Int) - 1) = (k : Int) := (IntWalk.i64_in _ (by omega)).trans (by omega)
    have f1 : ¬ (k : Int) < 0 := by omega
    have f2 : (k : Int) < ((k + 1 : Nat) : Int) := by omega
    have wn : IntKind.i64.wrap ((n : Int) + 1) = (n : Int) + 1 := IntWalk.i64_in _ (by omega)
    rw [show ((n + 1 : Nat) : Int) = (n : Int) + 1 by omega] at hput
    by_cases hyx : y = x
    · have e3 : ((y : Int) == (x : Int)) = true := by rw [hyx]; exact beq_self_eq_true _
      have HE : Hid (Prs 150 (w.setCell ⟨g, pre.length * 2 + 1, none⟩ (.int .i64 ((n : Int) + 1))) B (.slice (some ⟨g, 0, none⟩) (k + 1) cap) R ∧ Below B w (w.setCell ⟨g, pre.length * 2 + 1, none⟩ (.int .i64 ((n : Int) + 1)))) := by
        show _ ∧ _
        rw [hR, if_pos hyx]
        refine ⟨?_, (Below.refl _ w).setCell (p := ⟨g, _, none⟩) hg _⟩
        unfold Prs
        rw [List.length_append, ← hk]
        exact hput
      rw [← hk] at HE
      clear hyx hput hown hh hk hR
      go_enter Tryz.func133, Tryz.ntmps133
      go_wp2_with fail
      go_ret
      exact ⟨_, rfl, HE.out⟩
    · have e3 : ((y : Int) == (x : Int)) = false := beq_eq_false_iff_ne.2 (by omega)
      have hBB : Below B w (w.alloc (.cells #[.int .i64 (x : Int), .int .i64 1] 150)) := (Below.refl _ w).alloc hB _
      have HI : Hid (R = pre ++ [(y, n)] ++ [(x, 1)]) := hR.trans (if_neg hyx)
      have e4 : (y == x) = false := beq_eq_false_iff_ne.2 hyx
      have e5 : decide (y = x) = false := decide_eq_false hyx
      clear hput hh hk hR d2 hfz
      go_enter Tryz.func133, Tryz.ntmps133
      go_wp2_with (at_builtin; refine wpList_append_own _ rfl _ _ 146 rfl B 150 iE (.agg #[.int .i64 0, .int .i64 0]) 2 16 Tryz.underlying146 hI hI0 hI1 hI2 rfl (by decide) _ _ _ rfl (hown.alloc _) ⟨w.heap.size, 0, none⟩ 1 1 (c2 (x, 1)) rfl rfl ?c1 ?c2 ?c3 ?c4 ?c5 ?_)
      case c1 => exact fun j u h => h
      case c2 => exact c2_one (x, 1)
      case c3 => unfold maxLen; omega
      case c4 => omega
      case c5 => omega
      intro v' w2 hown' hgrow _
      have hb3 : Below B w w2 := hBB.grown hgrow (by simp; omega) (fun k hk => (hown.lt k hk).1)
      have hpr : Prs 150 w2 B v' (pre ++ [(y, n)] ++ [(x, 1)]) := by
        unfold Prs
        have e : ((pre ++ [(y, n)] ++ [(x, 1)]).flatMap c2) = pre.flatMap c2 ++ (c2 (y, n) ++ c2 (x, 1)) := by simp
        have hll : (pre ++ [(y, n)] ++ [(x, 1)]).length = k + 1 + 1 := by
          have := HK.out
          simp
          omega
        rw [e, hll]
        exact hown'
      go_wp2_with fail
      go_ret
      rw [HI.out]
      exact ⟨_, rfl, hpr, hb3⟩
end Go.Proofs.YtkenmldiojeooaaGreat.Ud
