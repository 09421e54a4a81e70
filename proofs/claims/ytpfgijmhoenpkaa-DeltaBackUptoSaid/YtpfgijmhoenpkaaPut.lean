/- What wire.Uint, Int, Text and the document's own answer; what awake answers: contracts. -/
import Derived.Test.YtpfgijmhoenpkaaWrite2
import Derived.Test.YtpfgijmhoenpkaaRead2
namespace Go.Proofs.Ytpfgijmhoenpkaa.Wr
open Go.RowKit Wm
set_option linter.unusedVariables false

theorem below_new {w w1 : World} {o : Obj} (h : Below w.heap.size w w1) : Below w.heap.size w (w1.alloc o) := h.alloc h.size o
theorem below_at {w w1 w2 : World} {b : Nat} (h : Below w.heap.size w w1) (hg : w1.grownBy w2 (some b)) (hb : w.heap.size ≤ b) : Below w.heap.size w w2 :=
  h.grown hg h.size (fun k hk => by injection hk with hk; omega)
theorem below_call {w w1 w2 : World} (h : Below w.heap.size w w1) (h2 : Below w1.heap.size w1 w2) : Below w.heap.size w w2 := h.trans (h2.mono h.size)

/-- The bytes of a number from 0 on, and the error. -/
def us (n : Int) : ByteArray := if n < 0 then ⟨#[]⟩ else vs n.toNat
def ue (n : Int) : Int := if n < 0 then 1 else 0
/-- A text's length and the text. -/
def ts (s : ByteArray) : ByteArray := vs s.size ++ s

set_option maxRecDepth 100000 in
theorem putUint_any (n : Int) (w : World) (h1 : -9223372036854775808 ≤ n) (h2 : n ≤ 9223372036854775807) :
    Calls Try.prog 24 #[.int .i64 n] w fun e w' => e = .returned (.tuple #[.string (us n), .int .i64 (ue n)]) ∧ Below w.heap.size w w' := by
  by_cases h : n < 0
  · rw [us, ue, if_pos h, if_pos h]
    go_enter Try.func24, Try.ntmps24
    go_wp2_with fail
    go_ret2
    exact ⟨rfl, Below.refl _ _⟩
  · have c := fun W => varint_any n.toNat W (by omega)
    rw [us, ue, if_neg h, if_neg h]
    have e : ((n.toNat : Nat) : Int) = n := by omega
    rw [e] at c
    clear e
    go_enter Try.func24, Try.ntmps24
    go_wp2_with (go_at_call 28; refine (c _).mono ?_; rintro e w1 ⟨rfl, hb⟩)
    go_ret2
    exact ⟨rfl, hb⟩
end Go.Proofs.Ytpfgijmhoenpkaa.Wr
