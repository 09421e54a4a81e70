/- Texts of this seat, one behind the other. -/
import Derived.Test.YtbghokdlnnaeeaaQ3
/- The statements' own made and awake: a disk with a volume; true. -/
namespace Go.Proofs.Ytbghokdlnnaeeaa.Wl
open Go.RowKit Tx Pm Pl Pr Dk
set_option linter.unusedVariables false

theorem add_PK {l R : List ByteArray} {r : ByteArray} {sn st sm : Nat} {dm : Bool} : addS ⟨J (PK l) sn st sm (-1), R, dm⟩ pL r = (0, ⟨J (PK (l ++ [r])) (sm + 1) (st + 2) (sm + 1) (-1), R ++ [r], dm⟩) := by
  rw [j_add (by decide) (by decide), PK_snoc]
  rfl
theorem open_PK {l : List ByteArray} {sn st sm : Nat} {a : Int} (h : ∀ r ∈ l, r.size ≤ 140737488351232) : openS (J (PK l) sn st sm a) pL = (0, ⟨J (PK l) sn st sm a, l, false⟩) := open_whole (j_kind _ _ _ _ _) (j_read _ _ _ _ _) (scan_all l h)
theorem openok_PK {l : List ByteArray} {sn st sm : Nat} {a : Int} (h : ∀ r ∈ l, r.size ≤ 140737488351232) (hl : l.length ≤ 100) (h1 : st ≤ 10000) (h2 : sm ≤ 10000) (ha : -1 ≤ a ∧ a ≤ 9223372036854775807) : OpenOk (J (PK l) sn st sm a) pL :=
  openok_J (PK_le h hl (by omega)) h1 h2 ha (by rw [scan_all l h]; show l.length ≤ _; omega)
set_option maxRecDepth 100000 in
set_option maxHeartbeats 2000000 in
theorem made_any (w0 W : World) (hb : Below w0.heap.size w0 W) : Calls Try.prog 5 #[] W fun e w' => ∃ b, e = .returned (.pointer (some ⟨b, 0, none⟩)) ∧ Own (ImpAt b) w0 a1S w' := by
  have cn := w_new w0 hb
  go_enter Try.func5, Try.ntmps5
  go_wp2_with fail
  go_at_call 15
  refine cn.mono ?_
  rintro e w1 ⟨b, rfl, o1⟩
  go_wp2_with fail
  go_at_call 16
  refine (w_mkdir (p := pV) o1 ok_new (by decide) a1_mk).mono ?_
  rintro e w2 ⟨rfl, o2⟩
  go_wp2_with fail
  go_ret
  exact ⟨_, rfl, o2⟩
def tOne : ByteArray := ⟨#[111, 110, 101]⟩
theorem one_strs (W : World) (T : TypeId) : Strs (W.alloc (.cells #[.string tOne] T)) (some ⟨W.heap.size, 0, none⟩) 1 [tOne] := by
  refine ⟨rfl, .inr ⟨W.heap.size, 0, rfl, by simp, fun k x hx => ?_⟩⟩
  match k, hx with
  | 0, hx =>
    injection hx with hx
    subst hx
    simp
  | k + 1, hx => cases hx
set_option maxRecDepth 100000 in
set_option maxHeartbeats 4000000 in
theorem awake_any6 (w0 W : World) (hb : Below w0.heap.size w0 W) : Calls Try.prog 6 #[] W fun e w' => e = .returned (.bool true) ∧ Below w0.heap.size w0 w' := by
  have cm := made_any w0 W hb
  have hone : ∀ r ∈ [tOne], r.size ≤ 140737488351232 := fun r hr => by
    obtain rfl : r = tOne := by simpa using hr
    decide
  go_enter Try.func6, Try.ntmps6
  go_wp2_with fail
  go_at_call 5
  refine cm.mono ?_
  rintro e w1 ⟨b, rfl, o1⟩
  go_wp2_with fail
  go_at_call 7
  refine (w_open o1 openok_new new_open).mono ?_
  rintro e w2 ⟨j, rfl, o2⟩
  go_wp2_with fail
  go_at_call 8
  refine (w_add (r := tOne) o2 (addok_J (by decide) (by decide) (by decide) (by decide) (by decide) (by decide)) (add_PK (l := []))).mono ?_
  rintro e w3 ⟨rfl, o3⟩
  go_wp2_with fail
  go_at_call 7
  refine (w_open o3.disk (openok_PK (l := [] ++ [tOne]) hone (by decide) (by decide) (by decide) (by decide)) (open_PK hone)).mono ?_
  rintro e w4 ⟨j2, rfl, o4⟩
  have cr := w_records o4 (by decide)
  go_wp2_with fail
  go_at_call 13
  refine cr.mono ?_
  rintro e w5 ⟨a, c, rfl, hs, hb5⟩
  have o5 := o4.belowJ hb5
  have hs2 := one_strs w5 9
  have hb6 : Below w5.heap.size w5 (w5.alloc (.cells #[.string tOne] 9)) := (Below.refl _ _).alloc (Nat.le_refl _) _
  have cs := same_true a (some ⟨w5.heap.size, 0, none⟩) 1 c 1 [tOne] _ (by decide) (hs.below hb6) hs2
  go_wp2_with fail
  go_at_call 12
  refine cs.mono ?_
  rintro e w7 ⟨rfl, hb7⟩
  have o7 := (o5.belowJ hb6).belowJ hb7
  go_wp2_with fail
  go_at_call 11
  refine (w_damaged o7).mono ?_
  rintro e w8 ⟨rfl, rfl⟩
  go_wp2_with fail
  go_ret
  exact ⟨rfl, o7.bel⟩
end Go.Proofs.Ytbghokdlnnaeeaa.Wl
