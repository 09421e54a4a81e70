/- What wire.Uint, Int, Text and the document's own answer; what awake answers: contracts. -/
import Derived.Test.YtjoafblfloceeaaWrite2
import Derived.Test.YtjoafblfloceeaaRead2
namespace Go.Proofs.Ytjoafblfloceeaa.Wr
open Go.RowKit Wm
set_option linter.unusedVariables false

/-- The bytes of a number from 0 on, and the error. -/
def us (n : Int) : ByteArray := if n < 0 then ⟨#[]⟩ else vs n.toNat
def ue (n : Int) : Int := if n < 0 then 1 else 0
/-- A text's length and the text. -/
def ts (s : ByteArray) : ByteArray := vs s.size ++ s

set_option maxRecDepth 100000 in
theorem putUint_any (n : Int) (w : World) (h1 : -9223372036854775808 ≤ n) (h2 : n ≤ 9223372036854775807) :
    Calls Try.prog 9 #[.int .i64 n] w fun e w' => e = .returned (.tuple #[.string (us n), .int .i64 (ue n)]) ∧ Below w.heap.size w w' := by
  by_cases h : n < 0
  · rw [us, ue, if_pos h, if_pos h]
    go_enter Try.func9, Try.ntmps9
    go_wp2_with fail
    go_ret2
    exact ⟨rfl, Below.refl _ _⟩
  · have c := fun W => varint_any n.toNat W (by omega)
    rw [us, ue, if_neg h, if_neg h]
    have e : ((n.toNat : Nat) : Int) = n := by omega
    rw [e] at c
    clear e
    go_enter Try.func9, Try.ntmps9
    go_wp2_with (go_at_call 24; refine (c _).mono ?_; rintro e w1 ⟨rfl, hb⟩)
    go_ret2
    exact ⟨rfl, hb⟩
set_option maxRecDepth 100000 in
theorem refUint_any (n : Int) (w : World) (h1 : -9223372036854775808 ≤ n) (h2 : n ≤ 9223372036854775807) :
    Calls Try.prog 10 #[.int .i64 n] w fun e w' => e = .returned (.tuple #[.string (us n), .int .i64 (ue n)]) ∧ Below w.heap.size w w' := by
  by_cases h : n < 0
  · rw [us, ue, if_pos h, if_pos h]
    go_enter Try.func10, Try.ntmps10
    go_wp2_with fail
    go_ret2
    exact ⟨rfl, Below.refl _ _⟩
  · have c := fun W => refvarint_any 9 n.toNat W (by omega) (by omega)
    rw [us, ue, if_neg h, if_neg h]
    have e : ((n.toNat : Nat) : Int) = n := by omega
    rw [e] at c
    clear e
    go_enter Try.func10, Try.ntmps10
    go_wp2_with (go_at_call 25; refine (c _).mono ?_; rintro e w1 ⟨rfl, hb⟩)
    go_ret2
    exact ⟨rfl, hb⟩

set_option maxRecDepth 100000 in
theorem putInt_any (n : Int) (w : World) (h1 : -9223372036854775808 ≤ n) (h2 : n ≤ 9223372036854775807) :
    Calls Try.prog 12 #[.int .i64 n] w fun e w' => e = .returned (.string (vs (zz n))) ∧ Below w.heap.size w w' := by
  have c := fun W => varint_any (zz n) W (zz_lt h1 h2)
  have cf := fun W => fold_any n W h1 h2
  go_enter Try.func12, Try.ntmps12
  go_wp2_with (first | (go_at_call 24; refine (c _).mono ?_; rintro e w1 ⟨rfl, hb⟩) | (go_at_call 26; refine (cf _).mono ?_; rintro e w1 ⟨rfl, rfl⟩))
  go_ret
  exact ⟨rfl, hb⟩
set_option maxRecDepth 100000 in
theorem refInt_any (n : Int) (w : World) (h1 : -9223372036854775808 ≤ n) (h2 : n ≤ 9223372036854775807) :
    Calls Try.prog 13 #[.int .i64 n] w fun e w' => e = .returned (.string (vs (zz n))) ∧ Below w.heap.size w w' := by
  have c := fun W => refvarint_any 9 (zz n) W (by have := zz_lt h1 h2; omega) (zz_lt h1 h2)
  by_cases h : n < 0
  · have e : ((zz n : Nat) : Int) = 2 * (-(n + 1)) + 1 := by rw [zz, if_pos h]; omega
    rw [e] at c
    clear e
    have hb1 : 0 ≤ -(n + 1) := by omega
    have hb2 : -(n + 1) ≤ 9223372036854775807 := by omega
    have hb3 : n + 1 ≤ 0 := by omega
    go_enter Try.func13, Try.ntmps13
    go_wp2_with (go_at_call 25; refine (c _).mono ?_; rintro e w1 ⟨rfl, hb⟩)
    go_ret
    exact ⟨rfl, hb⟩
  · have e : ((zz n : Nat) : Int) = 2 * n := by rw [zz, if_neg h]; omega
    rw [e] at c
    clear e
    go_enter Try.func13, Try.ntmps13
    go_wp2_with (go_at_call 25; refine (c _).mono ?_; rintro e w1 ⟨rfl, hb⟩)
    go_ret
    exact ⟨rfl, hb⟩

set_option maxRecDepth 100000 in
theorem putText_any (s : ByteArray) (w : World) (hs : s.size ≤ 9223372036854775797) :
    Calls Try.prog 14 #[.string s] w fun e w' => e = .returned (.string (ts s)) ∧ Below w.heap.size w w' := by
  have c := fun W => varint_any s.size W (by omega)
  have hv : (vs s.size).size ≤ 10 := vs_le (by omega)
  rw [ts]
  obtain ⟨V, hV⟩ : ∃ V, V = vs s.size := ⟨_, rfl⟩
  rw [← hV] at c hv ⊢
  clear hV
  have hsum : V.size + s.size ≤ 9223372036854775807 := by omega
  go_enter Try.func14, Try.ntmps14
  go_wp2_with (go_at_call 24; refine (c _).mono ?_; rintro e w1 ⟨rfl, hb⟩)
  go_ret
  exact ⟨rfl, hb⟩
set_option maxRecDepth 100000 in
theorem refText_any (s : ByteArray) (w : World) (hs : s.size ≤ 9223372036854775797) :
    Calls Try.prog 15 #[.string s] w fun e w' => e = .returned (.string (ts s)) ∧ Below w.heap.size w w' := by
  have c := fun W => refvarint_any 9 s.size W (by omega) (by omega)
  have hv : (vs s.size).size ≤ 10 := vs_le (by omega)
  rw [ts]
  obtain ⟨V, hV⟩ : ∃ V, V = vs s.size := ⟨_, rfl⟩
  rw [← hV] at c hv ⊢
  clear hV
  have hsum : V.size + s.size ≤ 9223372036854775807 := by omega
  go_enter Try.func15, Try.ntmps15
  go_wp2_with (go_at_call 25; refine (c _).mono ?_; rintro e w1 ⟨rfl, hb⟩)
  go_ret
  exact ⟨rfl, hb⟩

end Go.Proofs.Ytjoafblfloceeaa.Wr
