/- Texts of this seat, one behind the other. -/
import Derived.Test.YtoncghamkedhcaaT1
import Derived.Maps.AppendAt
import Derived.Laws.AppendOwnNone
import Derived.Laws.NewBlocks
import Derived.SliceStrings
import Derived.SizedLaws
import Derived.Deep.QuietTactic
import Derived.BigQuiet
import Derived.Lib.SliceRun
import Derived.Maps.OwnSet
import Derived.Carry
import Derived.Shelf.RegionOpenPlain
import Derived.Laws.Rows
namespace Go.Proofs.Ytoncghamkedhcaa.Kd
open Go.RowKit Tx
set_option linter.unusedVariables false
def Alk (ba oa bb ob k : Nat) (at_ : Int) (u1 u2 v1 v2 : Value) (W : World) : Prop := W.cell? ⟨ba, oa + k * 3, none⟩ = some (.int .i64 at_) ∧ W.cell? ⟨ba, oa + k * 3 + 1, none⟩ = some u1 ∧ W.cell? ⟨ba, oa + k * 3 + 2, none⟩ = some u2 ∧ W.cell? ⟨bb, ob + k * 3, none⟩ = some (.int .i64 at_) ∧ W.cell? ⟨bb, ob + k * 3 + 1, none⟩ = some v1 ∧ W.cell? ⟨bb, ob + k * 3 + 2, none⟩ = some v2
set_option maxRecDepth 100000 in
set_option maxHeartbeats 4000000 in
theorem sameReg (ops : Array Oper) (hops : ops = (Rg.opsOf Try.f10 6)) (id : Nat) (ba oa bb ob k n ca cb N1 N2 c1 c2 d1 d2 : Nat) (A1 A2 B1 B2 : Option Addr) (at_ : Int) {u2 u3 u4 u6 u7 u8 u9 u10 u11 u12 u13 u14 u15 u16 u17 u18 u19 u20 u21 u22 u23 u24 u25 u26 u27 u28 u29 u30 u31 u32 u33 u34 u35 u36 u37 u38 u39 u40 u41 u42 u43 u44 u45 u46 u47 u48 u49 u50 u51 u52 u53 u54 u55 : Value} (w : World) (hk : (k : Int) < (n : Int)) (X : World → Prop)
    (hX : ∀ W, X W → Alk ba oa bb ob k at_ (.slice A1 N1 c1) (.slice A2 N2 c2) (.slice B1 N1 d1) (.slice B2 N2 d2) W) (hw : X w.drew)
    (hA : ∀ W, X W → Calls Try.prog 21 #[.slice A1 N1 c1, .slice B1 N1 d1] W fun e w' => e = .returned (.bool true) ∧ X w')
    (hB : ∀ W, X W → Calls Try.prog 21 #[.slice A2 N2 c2, .slice B2 N2 d2] W fun e w' => e = .returned (.bool true) ∧ X w') :
    (Code.region id ops true).wp Try.prog (Rg.Only fun a' w' => a' = ⟨#[(.slice (some ⟨ba, oa, none⟩) n ca), (.slice (some ⟨bb, ob, none⟩) n cb), u2, u3, u4, (.int .i64 (k : Int)), u6, u7, u8, u9, u10, u11, u12, u13, u14, u15, u16, (.slice (some ⟨ba, oa, none⟩) n ca), (.int .i64 (k : Int)), (.pointer (some ⟨ba, oa + k * 3, none⟩)), (.pointer (some ⟨ba, oa + k * 3, none⟩)), (.int .i64 at_), (.slice (some ⟨bb, ob, none⟩) n cb), (.int .i64 (k : Int)), (.pointer (some ⟨bb, ob + k * 3, none⟩)), (.pointer (some ⟨bb, ob + k * 3, none⟩)), (.int .i64 at_), (.bool false), (.bool false), (.slice (some ⟨ba, oa, none⟩) n ca), (.int .i64 (k : Int)), (.pointer (some ⟨ba, oa + k * 3, none⟩)), (.pointer (some ⟨ba, oa + k * 3 + 1, none⟩)), (.slice A1 N1 c1), (.slice (some ⟨bb, ob, none⟩) n cb), (.int .i64 (k : Int)), (.pointer (some ⟨bb, ob + k * 3, none⟩)), (.pointer (some ⟨bb, ob + k * 3 + 1, none⟩)), (.slice B1 N1 d1), (.bool true), (.bool false), (.bool false), (.bool false), (.slice (some ⟨ba, oa, none⟩) n ca), (.int .i64 (k : Int)), (.pointer (some ⟨ba, oa + k * 3, none⟩)), (.pointer (some ⟨ba, oa + k * 3 + 2, none⟩)), (.slice A2 N2 c2), (.slice (some ⟨bb, ob, none⟩) n cb), (.int .i64 (k : Int)), (.pointer (some ⟨bb, ob + k * 3, none⟩)), (.pointer (some ⟨bb, ob + k * 3 + 2, none⟩)), (.slice B2 N2 d2), (.bool true), (.bool false), (.bool false)], []⟩ ∧ X w') ⟨#[(.slice (some ⟨ba, oa, none⟩) n ca), (.slice (some ⟨bb, ob, none⟩) n cb), u2, u3, u4, (.int .i64 (k : Int)), u6, u7, u8, u9, u10, u11, u12, u13, u14, u15, u16, u17, u18, u19, u20, u21, u22, u23, u24, u25, u26, u27, u28, u29, u30, u31, u32, u33, u34, u35, u36, u37, u38, u39, u40, u41, u42, u43, u44, u45, u46, u47, u48, u49, u50, u51, u52, u53, u54, u55], []⟩ w := by
  subst hops
  have hNS : Region.noSelect (Rg.opsOf Try.f10 6) = true := by kernel_rfl
  refine wp_region_held_drew (S := X) (by kernel_rfl) hw (fun hHeld => ?_)
  rw [show (Rg.opsOf Try.f10 6).size = 39 by kernel_rfl]
  refine Rg.take (ops := (Rg.opsOf Try.f10 6)) 0 (some 17) ((.slice (some ⟨ba, oa, none⟩) n ca)) hNS (by kernel_rfl) (by kernel_rfl) (by kernel_rfl) (by kernel_rfl) (by kernel_rfl) hHeld (Rg.y_move (x := (Operand.tmp 0)) (Or.inl (by kernel_rfl)) (by kernel_rfl)) ?_
  refine Rg.take (ops := (Rg.opsOf Try.f10 6)) 1 (some 18) ((.int .i64 (k : Int))) hNS (by kernel_rfl) (by kernel_rfl) (by kernel_rfl) (by kernel_rfl) (by kernel_rfl) hHeld (Rg.y_move (x := (Operand.tmp 5)) (Or.inl (by kernel_rfl)) (by kernel_rfl)) ?_
  refine Rg.take (ops := (Rg.opsOf Try.f10 6)) 2 (some 19) ((.pointer (some ⟨ba, oa + k * 3, none⟩))) hNS (by kernel_rfl) (by kernel_rfl) (by kernel_rfl) (by kernel_rfl) (by kernel_rfl) hHeld (Rg.y_at (T := 23) (x := (Operand.tmp 17)) (y := (Operand.tmp 18)) (vx := (.slice (some ⟨ba, oa, none⟩) n ca)) (vy := (.int .i64 (k : Int))) (by kernel_rfl) (by kernel_rfl) (by kernel_rfl) ?_) ?_
  · (intro w hSw; clear hSw; go_simp)
  refine Rg.take (ops := (Rg.opsOf Try.f10 6)) 3 (some 20) ((.pointer (some ⟨ba, oa + k * 3, none⟩))) hNS (by kernel_rfl) (by kernel_rfl) (by kernel_rfl) (by kernel_rfl) (by kernel_rfl) hHeld (Rg.y_field (T := 33) (k := 0) (x := (Operand.tmp 19)) (vx := (.pointer (some ⟨ba, oa + k * 3, none⟩))) (by kernel_rfl) (by kernel_rfl) ?_) ?_
  · (intro w hSw; clear hSw; go_simp)
  refine Rg.take (ops := (Rg.opsOf Try.f10 6)) 4 (some 21) ((.int .i64 at_)) hNS (by kernel_rfl) (by kernel_rfl) (by kernel_rfl) (by kernel_rfl) (by kernel_rfl) hHeld (Rg.y_load (T := 3) (x := (Operand.tmp 20)) (vx := (.pointer (some ⟨ba, oa + k * 3, none⟩))) (by kernel_rfl) (by kernel_rfl) ?_) ?_
  · (intro w hSw; obtain ⟨p0, p1, p2, r0, r1, r2⟩ := hX _ hSw; go_simp)
  refine Rg.take (ops := (Rg.opsOf Try.f10 6)) 5 (some 22) ((.slice (some ⟨bb, ob, none⟩) n cb)) hNS (by kernel_rfl) (by kernel_rfl) (by kernel_rfl) (by kernel_rfl) (by kernel_rfl) hHeld (Rg.y_move (x := (Operand.tmp 1)) (Or.inl (by kernel_rfl)) (by kernel_rfl)) ?_
  refine Rg.take (ops := (Rg.opsOf Try.f10 6)) 6 (some 23) ((.int .i64 (k : Int))) hNS (by kernel_rfl) (by kernel_rfl) (by kernel_rfl) (by kernel_rfl) (by kernel_rfl) hHeld (Rg.y_move (x := (Operand.tmp 5)) (Or.inl (by kernel_rfl)) (by kernel_rfl)) ?_
  refine Rg.take (ops := (Rg.opsOf Try.f10 6)) 7 (some 24) ((.pointer (some ⟨bb, ob + k * 3, none⟩))) hNS (by kernel_rfl) (by kernel_rfl) (by kernel_rfl) (by kernel_rfl) (by kernel_rfl) hHeld (Rg.y_at (T := 23) (x := (Operand.tmp 22)) (y := (Operand.tmp 23)) (vx := (.slice (some ⟨bb, ob, none⟩) n cb)) (vy := (.int .i64 (k : Int))) (by kernel_rfl) (by kernel_rfl) (by kernel_rfl) ?_) ?_
  · (intro w hSw; clear hSw; go_simp)
  refine Rg.take (ops := (Rg.opsOf Try.f10 6)) 8 (some 25) ((.pointer (some ⟨bb, ob + k * 3, none⟩))) hNS (by kernel_rfl) (by kernel_rfl) (by kernel_rfl) (by kernel_rfl) (by kernel_rfl) hHeld (Rg.y_field (T := 33) (k := 0) (x := (Operand.tmp 24)) (vx := (.pointer (some ⟨bb, ob + k * 3, none⟩))) (by kernel_rfl) (by kernel_rfl) ?_) ?_
  · (intro w hSw; clear hSw; go_simp)
  refine Rg.take (ops := (Rg.opsOf Try.f10 6)) 9 (some 26) ((.int .i64 at_)) hNS (by kernel_rfl) (by kernel_rfl) (by kernel_rfl) (by kernel_rfl) (by kernel_rfl) hHeld (Rg.y_load (T := 3) (x := (Operand.tmp 25)) (vx := (.pointer (some ⟨bb, ob + k * 3, none⟩))) (by kernel_rfl) (by kernel_rfl) ?_) ?_
  · (intro w hSw; obtain ⟨p0, p1, p2, r0, r1, r2⟩ := hX _ hSw; go_simp)
  refine Rg.take (ops := (Rg.opsOf Try.f10 6)) 10 (some 27) ((.bool false)) hNS (by kernel_rfl) (by kernel_rfl) (by kernel_rfl) (by kernel_rfl) (by kernel_rfl) hHeld (Rg.y_bin (b := BinOp.neq) (T := 3) (R' := 3) (x := (Operand.tmp 21)) (y := (Operand.tmp 26)) (vx := (.int .i64 at_)) (vy := (.int .i64 at_)) (by kernel_rfl) (by kernel_rfl) (by kernel_rfl) ?_) ?_
  · (intro w hSw; clear hSw; have e2 : (at_ == at_) = true := beq_self_eq_true _; go_simp)
  refine Rg.take (ops := (Rg.opsOf Try.f10 6)) 11 (some 28) ((.bool false)) hNS (by kernel_rfl) (by kernel_rfl) (by kernel_rfl) (by kernel_rfl) (by kernel_rfl) hHeld (Rg.y_move (x := (Operand.tmp 27)) (Or.inl (by kernel_rfl)) (by kernel_rfl)) ?_
  refine Rg.take (ops := (Rg.opsOf Try.f10 6)) 12 (some 29) ((.slice (some ⟨ba, oa, none⟩) n ca)) hNS (by kernel_rfl) (by kernel_rfl) (by kernel_rfl) (by kernel_rfl) (by kernel_rfl) hHeld (Rg.y_move (x := (Operand.tmp 0)) (Or.inl (by kernel_rfl)) (by kernel_rfl)) ?_
  refine Rg.take (ops := (Rg.opsOf Try.f10 6)) 13 (some 30) ((.int .i64 (k : Int))) hNS (by kernel_rfl) (by kernel_rfl) (by kernel_rfl) (by kernel_rfl) (by kernel_rfl) hHeld (Rg.y_move (x := (Operand.tmp 5)) (Or.inl (by kernel_rfl)) (by kernel_rfl)) ?_
  refine Rg.take (ops := (Rg.opsOf Try.f10 6)) 14 (some 31) ((.pointer (some ⟨ba, oa + k * 3, none⟩))) hNS (by kernel_rfl) (by kernel_rfl) (by kernel_rfl) (by kernel_rfl) (by kernel_rfl) hHeld (Rg.y_at (T := 23) (x := (Operand.tmp 29)) (y := (Operand.tmp 30)) (vx := (.slice (some ⟨ba, oa, none⟩) n ca)) (vy := (.int .i64 (k : Int))) (by kernel_rfl) (by kernel_rfl) (by kernel_rfl) ?_) ?_
  · (intro w hSw; clear hSw; go_simp)
  refine Rg.take (ops := (Rg.opsOf Try.f10 6)) 15 (some 32) ((.pointer (some ⟨ba, oa + k * 3 + 1, none⟩))) hNS (by kernel_rfl) (by kernel_rfl) (by kernel_rfl) (by kernel_rfl) (by kernel_rfl) hHeld (Rg.y_field (T := 33) (k := 1) (x := (Operand.tmp 31)) (vx := (.pointer (some ⟨ba, oa + k * 3, none⟩))) (by kernel_rfl) (by kernel_rfl) ?_) ?_
  · (intro w hSw; clear hSw; go_simp)
  refine Rg.take (ops := (Rg.opsOf Try.f10 6)) 16 (some 33) ((.slice A1 N1 c1)) hNS (by kernel_rfl) (by kernel_rfl) (by kernel_rfl) (by kernel_rfl) (by kernel_rfl) hHeld (Rg.y_load (T := 22) (x := (Operand.tmp 32)) (vx := (.pointer (some ⟨ba, oa + k * 3 + 1, none⟩))) (by kernel_rfl) (by kernel_rfl) ?_) ?_
  · (intro w hSw; obtain ⟨p0, p1, p2, r0, r1, r2⟩ := hX _ hSw; go_simp)
  refine Rg.take (ops := (Rg.opsOf Try.f10 6)) 17 (some 34) ((.slice (some ⟨bb, ob, none⟩) n cb)) hNS (by kernel_rfl) (by kernel_rfl) (by kernel_rfl) (by kernel_rfl) (by kernel_rfl) hHeld (Rg.y_move (x := (Operand.tmp 1)) (Or.inl (by kernel_rfl)) (by kernel_rfl)) ?_
  refine Rg.take (ops := (Rg.opsOf Try.f10 6)) 18 (some 35) ((.int .i64 (k : Int))) hNS (by kernel_rfl) (by kernel_rfl) (by kernel_rfl) (by kernel_rfl) (by kernel_rfl) hHeld (Rg.y_move (x := (Operand.tmp 5)) (Or.inl (by kernel_rfl)) (by kernel_rfl)) ?_
  refine Rg.take (ops := (Rg.opsOf Try.f10 6)) 19 (some 36) ((.pointer (some ⟨bb, ob + k * 3, none⟩))) hNS (by kernel_rfl) (by kernel_rfl) (by kernel_rfl) (by kernel_rfl) (by kernel_rfl) hHeld (Rg.y_at (T := 23) (x := (Operand.tmp 34)) (y := (Operand.tmp 35)) (vx := (.slice (some ⟨bb, ob, none⟩) n cb)) (vy := (.int .i64 (k : Int))) (by kernel_rfl) (by kernel_rfl) (by kernel_rfl) ?_) ?_
  · (intro w hSw; clear hSw; go_simp)
  refine Rg.take (ops := (Rg.opsOf Try.f10 6)) 20 (some 37) ((.pointer (some ⟨bb, ob + k * 3 + 1, none⟩))) hNS (by kernel_rfl) (by kernel_rfl) (by kernel_rfl) (by kernel_rfl) (by kernel_rfl) hHeld (Rg.y_field (T := 33) (k := 1) (x := (Operand.tmp 36)) (vx := (.pointer (some ⟨bb, ob + k * 3, none⟩))) (by kernel_rfl) (by kernel_rfl) ?_) ?_
  · (intro w hSw; clear hSw; go_simp)
  refine Rg.take (ops := (Rg.opsOf Try.f10 6)) 21 (some 38) ((.slice B1 N1 d1)) hNS (by kernel_rfl) (by kernel_rfl) (by kernel_rfl) (by kernel_rfl) (by kernel_rfl) hHeld (Rg.y_load (T := 22) (x := (Operand.tmp 37)) (vx := (.pointer (some ⟨bb, ob + k * 3 + 1, none⟩))) (by kernel_rfl) (by kernel_rfl) ?_) ?_
  · (intro w hSw; obtain ⟨p0, p1, p2, r0, r1, r2⟩ := hX _ hSw; go_simp)
  refine Rg.call (ops := (Rg.opsOf Try.f10 6)) (fn := Try.f21) (xs := #[Operand.tmp 33, Operand.tmp 38]) (ats := #[22, 22]) 22 (some 39) 21 #[(.slice A1 N1 c1), (.slice B1 N1 d1)] (by kernel_rfl) (by kernel_rfl) (by kernel_rfl) (by kernel_rfl) (by kernel_rfl) Try.func21 (by kernel_rfl) (by kernel_rfl) (by kernel_rfl) ?_
  refine (hA _ hHeld).mono ?_
  rintro e w5 ⟨rfl, h5⟩
  refine ⟨_, rfl, h5, fun hHeld => ?_⟩
  refine Rg.take (ops := (Rg.opsOf Try.f10 6)) 23 (some 40) ((.bool false)) hNS (by kernel_rfl) (by kernel_rfl) (by kernel_rfl) (by kernel_rfl) (by kernel_rfl) hHeld (Rg.y_un (b := UnOp.not) (T := 4) (x := (Operand.tmp 39)) (vx := (.bool true)) (by kernel_rfl) (by kernel_rfl) ?_) ?_
  · (intro w hSw; clear hSw; go_simp)
  refine Rg.take (ops := (Rg.opsOf Try.f10 6)) 24 (some 41) ((.bool false)) hNS (by kernel_rfl) (by kernel_rfl) (by kernel_rfl) (by kernel_rfl) (by kernel_rfl) hHeld (Rg.y_pick (c := (Operand.tmp 28)) (x := (Operand.const (Value.bool true))) (y := (Operand.tmp 40)) (b := false) (by kernel_rfl) (by kernel_rfl) (by kernel_rfl)) ?_
  refine Rg.take (ops := (Rg.opsOf Try.f10 6)) 25 (some 42) ((.bool false)) hNS (by kernel_rfl) (by kernel_rfl) (by kernel_rfl) (by kernel_rfl) (by kernel_rfl) hHeld (Rg.y_move (x := (Operand.tmp 41)) (Or.inl (by kernel_rfl)) (by kernel_rfl)) ?_
  refine Rg.take (ops := (Rg.opsOf Try.f10 6)) 26 (some 43) ((.slice (some ⟨ba, oa, none⟩) n ca)) hNS (by kernel_rfl) (by kernel_rfl) (by kernel_rfl) (by kernel_rfl) (by kernel_rfl) hHeld (Rg.y_move (x := (Operand.tmp 0)) (Or.inl (by kernel_rfl)) (by kernel_rfl)) ?_
  refine Rg.take (ops := (Rg.opsOf Try.f10 6)) 27 (some 44) ((.int .i64 (k : Int))) hNS (by kernel_rfl) (by kernel_rfl) (by kernel_rfl) (by kernel_rfl) (by kernel_rfl) hHeld (Rg.y_move (x := (Operand.tmp 5)) (Or.inl (by kernel_rfl)) (by kernel_rfl)) ?_
  refine Rg.take (ops := (Rg.opsOf Try.f10 6)) 28 (some 45) ((.pointer (some ⟨ba, oa + k * 3, none⟩))) hNS (by kernel_rfl) (by kernel_rfl) (by kernel_rfl) (by kernel_rfl) (by kernel_rfl) hHeld (Rg.y_at (T := 23) (x := (Operand.tmp 43)) (y := (Operand.tmp 44)) (vx := (.slice (some ⟨ba, oa, none⟩) n ca)) (vy := (.int .i64 (k : Int))) (by kernel_rfl) (by kernel_rfl) (by kernel_rfl) ?_) ?_
  · (intro w hSw; clear hSw; go_simp)
  refine Rg.take (ops := (Rg.opsOf Try.f10 6)) 29 (some 46) ((.pointer (some ⟨ba, oa + k * 3 + 2, none⟩))) hNS (by kernel_rfl) (by kernel_rfl) (by kernel_rfl) (by kernel_rfl) (by kernel_rfl) hHeld (Rg.y_field (T := 33) (k := 2) (x := (Operand.tmp 45)) (vx := (.pointer (some ⟨ba, oa + k * 3, none⟩))) (by kernel_rfl) (by kernel_rfl) ?_) ?_
  · (intro w hSw; clear hSw; go_simp)
  refine Rg.take (ops := (Rg.opsOf Try.f10 6)) 30 (some 47) ((.slice A2 N2 c2)) hNS (by kernel_rfl) (by kernel_rfl) (by kernel_rfl) (by kernel_rfl) (by kernel_rfl) hHeld (Rg.y_load (T := 22) (x := (Operand.tmp 46)) (vx := (.pointer (some ⟨ba, oa + k * 3 + 2, none⟩))) (by kernel_rfl) (by kernel_rfl) ?_) ?_
  · (intro w hSw; obtain ⟨p0, p1, p2, r0, r1, r2⟩ := hX _ hSw; go_simp)
  refine Rg.take (ops := (Rg.opsOf Try.f10 6)) 31 (some 48) ((.slice (some ⟨bb, ob, none⟩) n cb)) hNS (by kernel_rfl) (by kernel_rfl) (by kernel_rfl) (by kernel_rfl) (by kernel_rfl) hHeld (Rg.y_move (x := (Operand.tmp 1)) (Or.inl (by kernel_rfl)) (by kernel_rfl)) ?_
  refine Rg.take (ops := (Rg.opsOf Try.f10 6)) 32 (some 49) ((.int .i64 (k : Int))) hNS (by kernel_rfl) (by kernel_rfl) (by kernel_rfl) (by kernel_rfl) (by kernel_rfl) hHeld (Rg.y_move (x := (Operand.tmp 5)) (Or.inl (by kernel_rfl)) (by kernel_rfl)) ?_
  refine Rg.take (ops := (Rg.opsOf Try.f10 6)) 33 (some 50) ((.pointer (some ⟨bb, ob + k * 3, none⟩))) hNS (by kernel_rfl) (by kernel_rfl) (by kernel_rfl) (by kernel_rfl) (by kernel_rfl) hHeld (Rg.y_at (T := 23) (x := (Operand.tmp 48)) (y := (Operand.tmp 49)) (vx := (.slice (some ⟨bb, ob, none⟩) n cb)) (vy := (.int .i64 (k : Int))) (by kernel_rfl) (by kernel_rfl) (by kernel_rfl) ?_) ?_
  · (intro w hSw; clear hSw; go_simp)
  refine Rg.take (ops := (Rg.opsOf Try.f10 6)) 34 (some 51) ((.pointer (some ⟨bb, ob + k * 3 + 2, none⟩))) hNS (by kernel_rfl) (by kernel_rfl) (by kernel_rfl) (by kernel_rfl) (by kernel_rfl) hHeld (Rg.y_field (T := 33) (k := 2) (x := (Operand.tmp 50)) (vx := (.pointer (some ⟨bb, ob + k * 3, none⟩))) (by kernel_rfl) (by kernel_rfl) ?_) ?_
  · (intro w hSw; clear hSw; go_simp)
  refine Rg.take (ops := (Rg.opsOf Try.f10 6)) 35 (some 52) ((.slice B2 N2 d2)) hNS (by kernel_rfl) (by kernel_rfl) (by kernel_rfl) (by kernel_rfl) (by kernel_rfl) hHeld (Rg.y_load (T := 22) (x := (Operand.tmp 51)) (vx := (.pointer (some ⟨bb, ob + k * 3 + 2, none⟩))) (by kernel_rfl) (by kernel_rfl) ?_) ?_
  · (intro w hSw; obtain ⟨p0, p1, p2, r0, r1, r2⟩ := hX _ hSw; go_simp)
  refine Rg.call (ops := (Rg.opsOf Try.f10 6)) (fn := Try.f21) (xs := #[Operand.tmp 47, Operand.tmp 52]) (ats := #[22, 22]) 36 (some 53) 21 #[(.slice A2 N2 c2), (.slice B2 N2 d2)] (by kernel_rfl) (by kernel_rfl) (by kernel_rfl) (by kernel_rfl) (by kernel_rfl) Try.func21 (by kernel_rfl) (by kernel_rfl) (by kernel_rfl) ?_
  refine (hB _ hHeld).mono ?_
  rintro e w6 ⟨rfl, h6⟩
  refine ⟨_, rfl, h6, fun hHeld => ?_⟩
  refine Rg.take (ops := (Rg.opsOf Try.f10 6)) 37 (some 54) ((.bool false)) hNS (by kernel_rfl) (by kernel_rfl) (by kernel_rfl) (by kernel_rfl) (by kernel_rfl) hHeld (Rg.y_un (b := UnOp.not) (T := 4) (x := (Operand.tmp 53)) (vx := (.bool true)) (by kernel_rfl) (by kernel_rfl) ?_) ?_
  · (intro w hSw; clear hSw; go_simp)
  refine Rg.take (ops := (Rg.opsOf Try.f10 6)) 38 (some 55) ((.bool false)) hNS (by kernel_rfl) (by kernel_rfl) (by kernel_rfl) (by kernel_rfl) (by kernel_rfl) hHeld (Rg.y_pick (c := (Operand.tmp 42)) (x := (Operand.const (Value.bool true))) (y := (Operand.tmp 54)) (b := false) (by kernel_rfl) (by kernel_rfl) (by kernel_rfl)) ?_
  refine Rg.done (ops := (Rg.opsOf Try.f10 6)) (by kernel_rfl) ?_
  exact ⟨by kernel_rfl, hHeld⟩
end Go.Proofs.Ytoncghamkedhcaa.Kd

namespace Go.Proofs.Ytoncghamkedhcaa.Kd
open Go.RowKit Tx Um Ud Aq Km
set_option linter.unusedVariables false
theorem stands_self (l : List ByteArray) : stands l 0 l = true := by
  unfold stands
  rw [List.drop_zero, List.take_length]
  exact decide_eq_true rfl
set_option maxRecDepth 100000 in
theorem same13_any (A B : Option Addr) (ca cb n : Nat) (l : List ByteArray) (w : World) (hn : n = l.length) (hA : Strs w A l.length l) (hB : Strs w B l.length l) (hl : l.length ≤ 4611686018427387903) :
    Calls Try.prog 21 #[.slice A n ca, .slice B n cb] w fun e w' => e = .returned (.bool true) ∧ Below w.heap.size w w' := by
  have cs := stands_any A B ca cb 0 l l w hA hB hl hl (Nat.zero_le _)
  rw [stands_self, ← hn] at cs
  have CS := Lib.hid cs
  clear cs hn hA hB hl
  have e1 : ((n : Int) == (n : Int)) = true := beq_self_eq_true _
  go_enter Try.func21, Try.ntmps21
  go_wp2_with fail
  go_at_call 23
  refine CS.out.mono ?_
  rintro e w1 ⟨rfl, hb⟩
  go_wp2_with fail
  go_ret
  exact ⟨rfl, hb⟩
set_option maxRecDepth 100000 in
set_option maxHeartbeats 2000000 in
theorem same13s_any (A B : Option Addr) (ca cb n : Nat) (hs : List (Hz ByteArray)) (w : World) (hA : HzR w A n hs) (hB : HzR w B n hs) (hn : n ≤ 4611686018427387903) (hl : ∀ h, h ∈ hs → h.old.length ≤ 4611686018427387903 ∧ h.new.length ≤ 4611686018427387903) :
    Calls Try.prog 10 #[.slice A n ca, .slice B n cb] w fun e w' => e = .returned (.bool true) ∧ Below w.heap.size w w' := by
  have HA := Lib.hid hA
  have HB := Lib.hid hB
  have HL := Lib.hid hl
  have e0 : ((n : Int) == (n : Int)) = true := beq_self_eq_true _
  clear hA hB hl
  go_enter Try.func10, Try.ntmps10
  go_wp2_with fail
  go_loopw [5] (fun i wr => ∃ k : Nat, k ≤ n ∧ i = .int .i64 (k : Int) ∧ Hid (Below w.heap.size w wr)) (fun i _ => n - (intOf i).toNat)
  case atStart => exact ⟨0, Nat.zero_le _, rfl, Below.refl _ _⟩
  case round =>
    obtain ⟨k, hk, rfl, HW⟩ := hrel
    by_cases hlt : k < n
    · have e1 : (k : Int) < (n : Int) := by omega
      obtain ⟨h, hh⟩ : ∃ h, hs[k]? = some h := ⟨_, List.getElem?_eq_getElem (by rw [HA.out.1]; exact hlt)⟩
      obtain ⟨hl1, hl2⟩ := HL.out h (List.mem_iff_getElem?.2 ⟨k, hh⟩)
      obtain ⟨ba, oa, rfl, hba, hca⟩ := HA.out.2.resolve_left (by omega)
      obtain ⟨bb, ob, rfl, hbb, hcb⟩ := HB.out.2.resolve_left (by omega)
      obtain ⟨u1, u2, a0, a1, a2, ⟨A1, c1, rfl, s1, _⟩, ⟨A2, c2, rfl, s2, _⟩⟩ := hca k h hh
      obtain ⟨v1, v2, b0, b1, b2, ⟨B1, d1, rfl, t1, _⟩, ⟨B2, d2, rfl, t2, _⟩⟩ := hcb k h hh
      have a0' := a0
      have a1' := a1
      have a2' := a2
      have b0' := b0
      have b1' := b1
      have b2' := b2
      obtain ⟨N1, hN1⟩ : ∃ N1, N1 = h.old.length := ⟨_, rfl⟩
      obtain ⟨N2, hN2⟩ : ∃ N2, N2 = h.new.length := ⟨_, rfl⟩
      have CO := fun (w1 : World) (hb : Below w.heap.size w w1) => same13_any A1 B1 c1 d1 N1 h.old w1 hN1 (s1.below hb) (t1.below hb) hl1
      have CN := fun (w1 : World) (hb : Below w.heap.size w w1) => same13_any A2 B2 c2 d2 N2 h.new w1 hN2 (s2.below hb) (t2.below hb) hl2
      rw [← hN1] at a1' b1'
      rw [← hN2] at a2' b2'
      obtain ⟨at_, hat⟩ : ∃ at_, at_ = h.at_ := ⟨_, rfl⟩
      rw [← hat] at a0' b0'
      have e2 : (at_ == at_) = true := beq_self_eq_true _
      have hX : ∀ W, Below w.heap.size w W → Alk ba oa bb ob k at_ (.slice A1 N1 c1) (.slice A2 N2 c2) (.slice B1 N1 d1) (.slice B2 N2 d2) W := fun W hb =>
        ⟨(hb.cell (p := ⟨ba, _, none⟩) hba).trans a0', (hb.cell (p := ⟨ba, _, none⟩) hba).trans a1', (hb.cell (p := ⟨ba, _, none⟩) hba).trans a2', (hb.cell (p := ⟨bb, _, none⟩) hbb).trans b0', (hb.cell (p := ⟨bb, _, none⟩) hbb).trans b1', (hb.cell (p := ⟨bb, _, none⟩) hbb).trans b2'⟩
      have CO' := Lib.hid CO
      have CN' := Lib.hid CN
      have HX := Lib.hid hX
      clear hca hcb a0 a1 a2 b0 b1 b2 s1 s2 t1 t2 hh hl1 hl2 hN1 hN2 hat CO CN hX a0' a1' a2' b0' b1' b2'
      go_wp2_with fail
      refine Rg.wp_only ?_ (sameReg _ (by kernel_rfl) _ ba oa bb ob k n ca cb N1 N2 c1 c2 d1 d2 A1 A2 B1 B2 at_ _ e1 (Below w.heap.size w) HX.out HW.out.drew (fun W hb => (CO'.out W hb).mono fun e w' h => ⟨h.1, below_call hb h.2⟩) (fun W hb => (CN'.out W hb).mono fun e w' h => ⟨h.1, below_call hb h.2⟩))
      rintro _ w9 ⟨rfl, h9⟩
      go_wp2_with fail
      go_roundw
      case rel => exact ⟨k + 1, by omega, by go_num, h9⟩
      case measure => simp only [intOf]; omega
    · have hkn : k = n := by omega
      have e1 : ¬ (k : Int) < (n : Int) := by omega
      clear hkn
      go_wp2_with fail
      go_ret
      exact ⟨rfl, HW.out⟩
end Go.Proofs.Ytoncghamkedhcaa.Kd

namespace Go.Proofs.Ytoncghamkedhcaa.Ap
open Go.RowKit Tx
set_option linter.unusedVariables false
section
variable {P : Program}
theorem append_two (w : World) (base : Nat) (t ty e : TypeId) (i : TypeInfo) (z : Value) (size bytes : Nat) (ht : P.underlying t = some (.slice e)) (hi : P.info? e = some i) (hz : i.zero = some z)
    (hsize : i.size = size) (hby : i.bytes = bytes) (hzs : z.cells.size = size) (hsp : 0 < size) (hs16 : size ≤ 16)
    (v : Value) (n : Nat) (xs : List Value) (hown : w.ownsRow base e size v n xs)
    (a : Addr) (c : Nat) (us : List Value) (hul : us.length = size) (hnews : ∀ j x, us[j]? = some x → w.cell? (a.add j) = some x) (hone : ∀ x ∈ us, x.oneCell' = true)
    (hn : n + 1 ≤ 57646075230342348) (hbytes : (n + 1) * bytes ≤ 140737488355328) (hbase : base ≤ w.heap.size) :
    ∃ v' w', (Builtin.append_ #[t, t] ty #[v, .slice (some a) 1 c]).run P w = .ok v' w' ∧ w'.ownsRow base e size v' (n + 1) (xs ++ us) ∧
      ((v'.ownBlock = v.ownBlock ∧ w.grownBy w' v.ownBlock) ∨ (v'.ownBlock = some w.heap.size ∧ w.grownBy w' none)) := by
  have hlen : (xs ++ us).length = (n + 1) * size := by rw [List.length_append, hown.1, hul, Nat.add_mul, Nat.one_mul]
  have made : ∀ old, old < n + 1 → (w.drew.alloc (.cells (xs.toArray ++ us.toArray ++ Builtin.zeroCells z.cells (grownCap w (n + 1) old e - (n + 1))) e)).ownsRow base e size (.slice (some ⟨w.heap.size, 0, none⟩) (n + 1) (grownCap w (n + 1) old e)) (n + 1) (xs ++ us) ∧
      w.grownBy (w.drew.alloc (.cells (xs.toArray ++ us.toArray ++ Builtin.zeroCells z.cells (grownCap w (n + 1) old e - (n + 1))) e)) none := by
    intro old _
    have hge := grownCap_ge w (n + 1) old e
    have hcm := grownCap_le_maxLen w (n + 1) old e (by unfold maxLen; omega)
    refine ⟨⟨hlen, .inr ⟨w.heap.size, _, _, rfl, hbase, heap_alloc_new w.drew _, hge, hcm, ?_, ?_⟩⟩, ⟨rfl, rfl, rfl, by simp, fun k hk _ => Below.heap_alloc w.drew _ k hk⟩⟩
    · have h0 := hown.1
      simp only [Array.size_append, List.size_toArray, size_zeroCells, hzs, hul]
      obtain ⟨d, hd⟩ : ∃ d, grownCap w (n + 1) old e = n + 1 + d := ⟨grownCap w (n + 1) old e - (n + 1), by omega⟩
      rw [hd, h0, show n + 1 + d - (n + 1) = d by omega, Nat.add_mul, Nat.add_mul, Nat.one_mul]
    · simp only [Array.toList_append, List.append_assoc]
      rw [← List.append_assoc]
      exact List.take_left' hlen
  rcases hown.2 with ⟨rfl, rfl⟩ | ⟨g, cap, cur, rfl, hbg, hg, hnc, hcm, hcs, htake⟩
  · have hx : xs = [] := List.eq_nil_of_length_eq_zero (by simpa using hown.1)
    subst hx
    have hr := run_append_nil (P := P) w t ty e i z ht hi hz a 1 c us (by rw [hsize, hul, Nat.one_mul]) hnews (by omega) (by omega) (by rw [hby]; have h2 := hbytes; simp only [Nat.zero_add] at h2; omega)
    have hm := made 0 (by omega)
    simp only [Nat.zero_add, List.nil_append, Array.empty_append] at hm ⊢
    exact ⟨_, _, hr, hm.1, .inr ⟨rfl, hm.2⟩⟩
  · by_cases hroom : n + 1 ≤ cap
    · have hle : (n + 1) * size ≤ cap * size := Nat.mul_le_mul_right _ hroom
      have hfit : n * i.size + us.length ≤ cur.size := by rw [hsize, hcs, hul]; rw [Nat.add_mul, Nat.one_mul] at hle; exact hle
      have hr := run_append_room (P := P) w t ty e i ht hi g n cap cur hg a 1 c us (by rw [hsize, hul, Nat.one_mul]) hnews hone hroom hfit
      refine ⟨_, _, hr, ⟨hlen, .inr ⟨g, cap, _, rfl, hbg, setRow_heap w g cur _ e _ hg, hroom, hcm, ?_, ?_⟩⟩, .inl ⟨rfl, ⟨rfl, rfl, rfl, by simp, fun k _ hk => setRow_other w g k _ (fun e => hk (by simp [Value.ownBlock, e]))⟩⟩⟩
      · simp only [List.size_toArray, List.length_append, List.length_take, List.length_drop, Array.length_toList]
        omega
      · rw [hsize, htake]
        exact List.take_left' hlen
    · have hr := run_append_grow (P := P) w t ty e i z ht hi hz ⟨g, 0, none⟩ n cap xs (by rw [hsize]; exact hown.1) (hown.cells (g := g) rfl) a 1 c us (by rw [hsize, hul, Nat.one_mul]) hnews (by omega) (by omega) (growslice_fits (by omega) (by rw [hby]; exact hbytes))
      have hm := made cap (by omega)
      exact ⟨_, _, hr, hm.1, .inr ⟨rfl, hm.2⟩⟩
end
theorem wpList_append_two {P : Program} (w : World) {ops : Array Oper} {rest : List Oper} {o : Oper} {a : Act} {Q : Exit → Act → World → Prop} (hgd : o.guard = none) (s x : Operand) (t : TypeId)
    (ho : o.op = .call { callee := .builtin .append, args := #[s, x], argTypes := #[t, t] })
    (base : Nat) (e : TypeId) (i : TypeInfo) (z : Value) (size bytes : Nat) (ht : P.underlying t = some (.slice e)) (hi : P.info? e = some i) (hz : i.zero = some z)
    (hsize : i.size = size) (hby : i.bytes = bytes) (hzs : z.cells.size = size) (hsp : 0 < size) (hs16 : size ≤ 16)
    (v : Value) (n : Nat) (xs : List Value) (hs : a.eval s = v) (hown : w.ownsRow base e size v n xs)
    (ad : Addr) (c : Nat) (us : List Value) (hx : a.eval x = .slice (some ad) 1 c) (hul : us.length = size) (hnews : ∀ j x, us[j]? = some x → w.cell? (ad.add j) = some x) (hone : ∀ x ∈ us, x.oneCell' = true)
    (hn : n + 1 ≤ 57646075230342348) (hbytes : (n + 1) * bytes ≤ 140737488355328) (hbase : base ≤ w.heap.size)
    (h : ∀ v' w', w'.ownsRow base e size v' (n + 1) (xs ++ us) → ((v'.ownBlock = v.ownBlock ∧ w.grownBy w' v.ownBlock) ∨ (v'.ownBlock = some w.heap.size ∧ w.grownBy w' none)) → wpList P ops Q rest (a.put o.dst v') w') :
    wpList P ops Q (o :: rest) a w := by
  refine wpList_plain hgd fun K hK => ?_
  obtain ⟨v', w', hr, h2, h3⟩ := append_two (P := P) w base t o.type e i z size bytes ht hi hz hsize hby hzs hsp hs16 v n xs hown ad c us hul hnews hone hn hbytes hbase
  unfold Oper.wp execOp
  simp only [ho, resolve, invoke, builtin, Sem.run_bind, Sem.run_pure, Result.andThen_ok, List.map_toArray, List.map_cons, List.map_nil, hs, hx, hr]
  exact hK _ _ (h v' w' h2 h3)
end Go.Proofs.Ytoncghamkedhcaa.Ap

namespace Go.Proofs.Ytoncghamkedhcaa.Kd
open Go.RowKit Tx Um Ud Aq Km
set_option linter.unusedVariables false
theorem ap_err (a : List ByteArray) (H : List (Hz ByteArray)) : ∀ p, (ap a p H).2 ≠ 0 → (ap a p H).1 = [] := by
  cases H with
  | nil => intro p h; exact absurd rfl h
  | cons h H =>
    intro p hne
    rw [ap] at hne ⊢
    by_cases h1 : h.at_ < p ∨ (a.length : Int) < h.at_
    · rw [if_pos h1]
    · rw [if_neg h1] at hne ⊢
      by_cases h2 : stands a h.at_.toNat h.old = false
      · rw [if_pos h2]
      · rw [if_neg h2] at hne ⊢
        by_cases h3 : (ap a (h.at_.toNat + h.old.length) H).2 = 0
        · rw [if_pos h3] at hne; exact absurd rfl hne
        · rw [if_neg h3]
def Av (a : List ByteArray) (hs : List (Hz ByteArray)) (k p : Nat) (pre : List ByteArray) : Prop :=
  ap a 0 hs = if (ap a p (hs.drop k)).2 = 0 then (pre ++ (ap a p (hs.drop k)).1, 0) else ([], (ap a p (hs.drop k)).2)
theorem av_start (a : List ByteArray) (hs : List (Hz ByteArray)) : Av a hs 0 0 [] := by
  unfold Av
  rw [List.drop_zero, List.nil_append]
  by_cases h : (ap a 0 hs).2 = 0
  · rw [if_pos h]
    exact Prod.ext rfl h
  · rw [if_neg h]
    exact Prod.ext (ap_err a hs 0 h) rfl
theorem drop_hz {hs : List (Hz ByteArray)} {k : Nat} {h : Hz ByteArray} (hh : hs[k]? = some h) : hs.drop k = h :: hs.drop (k + 1) := by
  obtain ⟨q1, q2⟩ := List.getElem?_eq_some_iff.1 hh
  rw [List.drop_eq_getElem_cons q1, q2]
theorem av_form {a : List ByteArray} {hs : List (Hz ByteArray)} {k p : Nat} {pre : List ByteArray} {h : Hz ByteArray} (hv : Av a hs k p pre) (hh : hs[k]? = some h) (h1 : h.at_ < p ∨ (a.length : Int) < h.at_) : ap a 0 hs = ([], 3) := by
  unfold Av at hv
  rw [drop_hz hh, ap, if_pos h1] at hv
  exact hv
theorem av_none {a : List ByteArray} {hs : List (Hz ByteArray)} {k p : Nat} {pre : List ByteArray} {h : Hz ByteArray} (hv : Av a hs k p pre) (hh : hs[k]? = some h) (h1 : ¬ (h.at_ < p ∨ (a.length : Int) < h.at_)) (h2 : stands a h.at_.toNat h.old = false) : ap a 0 hs = ([], 11) := by
  unfold Av at hv
  rw [drop_hz hh, ap, if_neg h1, if_pos h2] at hv
  exact hv
theorem av_next {a : List ByteArray} {hs : List (Hz ByteArray)} {k p : Nat} {pre : List ByteArray} {h : Hz ByteArray} (hv : Av a hs k p pre) (hh : hs[k]? = some h) (h1 : ¬ (h.at_ < p ∨ (a.length : Int) < h.at_)) (h2 : stands a h.at_.toNat h.old = true) :
    Av a hs (k + 1) (h.at_.toNat + h.old.length) (pre ++ (a.take h.at_.toNat).drop p ++ h.new) := by
  have e : ap a p (h :: hs.drop (k + 1)) = if (ap a (h.at_.toNat + h.old.length) (hs.drop (k + 1))).2 = 0 then ((a.take h.at_.toNat).drop p ++ (h.new ++ (ap a (h.at_.toNat + h.old.length) (hs.drop (k + 1))).1), 0) else ([], (ap a (h.at_.toNat + h.old.length) (hs.drop (k + 1))).2) := by
    rw [ap, if_neg h1, if_neg (by rw [h2]; simp)]
  unfold Av at hv ⊢
  rw [drop_hz hh] at hv
  by_cases h3 : (ap a (h.at_.toNat + h.old.length) (hs.drop (k + 1))).2 = 0
  · rw [if_pos h3] at e ⊢
    rw [e, if_pos rfl] at hv
    rw [hv]
    simp
  · rw [if_neg h3] at e ⊢
    rw [e, if_neg h3] at hv
    exact hv
theorem av_end {a : List ByteArray} {hs : List (Hz ByteArray)} {k p : Nat} {pre : List ByteArray} (hv : Av a hs k p pre) (hk : hs.length ≤ k) : ap a 0 hs = (pre ++ a.drop p, 0) := by
  unfold Av at hv
  rw [List.drop_eq_nil_iff.2 hk, ap] at hv
  exact hv
def news (hs : List (Hz ByteArray)) : Nat := (hs.map (fun h => h.new.length)).sum
theorem news_take {hs : List (Hz ByteArray)} {k : Nat} {h : Hz ByteArray} (hh : hs[k]? = some h) : news (hs.take (k + 1)) = news (hs.take k) + h.new.length := by
  unfold news
  rw [List.take_add_one, hh, List.map_append, List.sum_append]
  simp
theorem news_le (hs : List (Hz ByteArray)) (k : Nat) : news (hs.take k) ≤ news hs := by
  unfold news
  conv => rhs; rw [← List.take_append_drop k hs]
  rw [List.map_append, List.sum_append]
  omega
def Lo (w : World) (B : Nat) (v : Value) (l : List ByteArray) : Prop := w.ownsRow B 9 1 v l.length (l.map sv)
theorem Lo.below {w w1 : World} {B : Nat} {v : Value} {l : List ByteArray} (h : Lo w B v l) (hb : Below w.heap.size w w1) : Lo w1 B v l := by
  refine ⟨h.1, ?_⟩
  rcases h.2 with h0 | ⟨g', cap', cur, hv, hg, hh, r⟩
  · exact .inl h0
  · exact .inr ⟨g', cap', cur, hv, hg, (hb.block g' (Array.getElem?_eq_some_iff.1 hh).1).trans hh, r⟩
theorem Lo.form {w : World} {B : Nat} {v : Value} {l : List ByteArray} (h : Lo w B v l) : ∃ a c, v = .slice a l.length c := by
  rcases h.2 with ⟨rfl, h0⟩ | ⟨g, cap, cur, rfl, _⟩
  · exact ⟨none, 0, by rw [h0]⟩
  · exact ⟨_, cap, rfl⟩
theorem wp_append_any {w : World} {ops : Array Oper} {rest : List Oper} {o : Oper} {a : Act} {Q : Exit → Act → World → Prop} {v : Value} {l0 l : List ByteArray} {n c : Nat} {A : Option Addr} (hgd : o.guard = none) (s x : Operand)
    (ho : o.op = .call { callee := .builtin .append, args := #[s, x], argTypes := #[22, 22] }) (base : Nat) (hs : a.eval s = v) (hown : Lo w base v l0) (hx : a.eval x = .slice A n c)
    (hl : Strs w A n l) (hnil : A = none → c = 0) (hn : (l0.length + n) * 16 ≤ 140737488355328) (hb : base ≤ w.heap.size)
    (h : ∀ v' w', Lo w' base v' (l0 ++ l) → w.grownBy w' v.ownBlock → wpList Try.prog ops Q rest (a.put o.dst v') w') : wpList Try.prog ops Q (o :: rest) a w := by
  obtain ⟨i0, hi, hz0, hz1, hz2⟩ := info_parts info9
  have hln := hl.1
  cases A with
  | none =>
    have h0 : n = 0 := by
      rcases hl.2 with h | ⟨_, _, h, _⟩
      · exact h
      · cases h
    subst h0
    obtain rfl := hnil rfl
    obtain rfl : l = [] := List.length_eq_zero_iff.1 hln
    refine wpList_append_own_none hgd s x 22 ho base 9 i0 1 Try.underlying22 hi v l0.length (l0.map sv) hs hown hx (h v w ?_ ⟨rfl, rfl, rfl, Nat.le_refl _, fun _ _ _ => rfl⟩)
    rw [List.append_nil]
    exact hown
  | some ad =>
    refine wpList_append_own w hgd s x 22 ho base 9 i0 (.string ⟨#[]⟩) 1 16 Try.underlying22 hi hz0 hz1 hz2 rfl (by decide) v l0.length (l0.map sv) hs hown ad n c (l.map sv) hx (by rw [List.length_map, hln, Nat.mul_one]) (fun j u hu => ?_) (sv_one l) (by unfold maxLen; omega) hn hb ?_
    · rw [List.getElem?_map] at hu
      obtain ⟨y, hy, rfl⟩ := Option.map_eq_some_iff.1 hu
      have hj := (List.getElem?_eq_some_iff.1 hy).1
      obtain ⟨b, off, ha, hbl, hc⟩ := hl.2.resolve_left (by omega)
      injection ha with ha
      subst ha
      rw [WideShapes.add_plain]
      exact hc j y hy
    · intro v' w' h1 h2 h3
      refine h v' w' ?_ h2
      unfold Lo
      rw [List.length_append, hln, List.map_append]
      exact h1
end Go.Proofs.Ytoncghamkedhcaa.Kd

namespace Go.Proofs.Ytoncghamkedhcaa.Kd
open Go.RowKit Tx Um Ud Aq Km
set_option linter.unusedVariables false
def Hb (w : World) (ph : Nat) (at_ : Int) (uo un : Value) : Prop := w.heap[ph]? = some (.cells #[.int .i64 at_, uo, un] 33 (0, 0))
theorem Hb.cell {w : World} {ph : Nat} {at_ : Int} {uo un : Value} (h : Hb w ph at_ uo un) : w.cell? ⟨ph, 0, none⟩ = some (.int .i64 at_) ∧ w.cell? ⟨ph, 1, none⟩ = some uo ∧ w.cell? ⟨ph, 2, none⟩ = some un := by
  unfold World.cell?
  unfold Hb at h
  simp [h]
theorem Hb.kept {w w1 : World} {ph : Nat} {at_ : Int} {uo un : Value} (h : Hb w ph at_ uo un) (hk : w1.heap[ph]? = w.heap[ph]?) : Hb w1 ph at_ uo un := hk.trans h
theorem Hb.lt {w : World} {ph : Nat} {at_ : Int} {uo un : Value} (h : Hb w ph at_ uo un) : ph < w.heap.size := (Array.getElem?_eq_some_iff.1 h).1
def ApTo (r : List ByteArray × Nat) (w : World) (e : Ending) (w' : World) : Prop := ∃ v, e = .returned (.tuple #[v, .int .i64 (r.2 : Int)]) ∧ Lo w' w.heap.size v r.1 ∧ Below w.heap.size w w'
theorem mid_snoc {a : List ByteArray} {p j : Nat} (hp : p ≤ j) (hj : j < a.length) : (a.take (j + 1)).drop p = (a.take j).drop p ++ [a[j]] := by
  rw [List.take_succ_eq_append_getElem hj, List.drop_append_of_le_length (by rw [List.length_take]; omega)]
theorem mid_len {a : List ByteArray} {p j : Nat} (hj : j ≤ a.length) : ((a.take j).drop p).length = j - p := by
  rw [List.length_drop, List.length_take]
  omega
theorem lo_two {w w' : World} {B : Nat} {v v' : Value} {l : List ByteArray} {o : Obj} (hv : Lo w B v l) (hB : B ≤ w.heap.size) (h : (v'.ownBlock = v.ownBlock ∧ (w.alloc o).grownBy w' v.ownBlock) ∨ (v'.ownBlock = some (w.heap.size + 1) ∧ (w.alloc o).grownBy w' none)) :
    Below B w w' ∧ ∀ i, i < w.heap.size → v.ownBlock ≠ some i → w'.heap[i]? = w.heap[i]? ∧ v'.ownBlock ≠ some i := by
  have hal : Below w.heap.size w (w.alloc o) := (Below.refl _ w).alloc (Nat.le_refl _) _
  have hsz : (w.alloc o).heap.size = w.heap.size + 1 := by simp
  constructor
  · rcases h with ⟨_, h2⟩ | ⟨_, h2⟩
    · exact ((Below.refl B w).alloc hB o).grown h2 (by omega) (fun k hk => (World.ownsRow.lt hv k hk).1)
    · exact ((Below.refl B w).alloc hB o).grown h2 (by omega) (fun k hk => by cases hk)
  · intro i hi hne
    rcases h with ⟨h1, h2⟩ | ⟨h1, h2⟩
    · exact ⟨(h2.block i (by omega) (fun e => hne e.symm)).trans (hal.block i hi), by rw [h1]; exact hne⟩
    · exact ⟨(h2.block i (by omega) (by simp)).trans (hal.block i hi), by rw [h1]; intro e; injection e with e; omega⟩
set_option maxRecDepth 100000 in
set_option maxHeartbeats 4000000 in
theorem refApply_any (A C : Option Addr) (ca cc : Nat) (a : List ByteArray) (hs : List (Hz ByteArray)) (w : World) (hA : Strs w A a.length a) (hC : HzR w C hs.length hs) (hT : a.length + news hs ≤ 8796093022207) (hO : ∀ h, h ∈ hs → h.old.length ≤ 4611686018427387903) (hhl : hs.length ≤ 4611686018427387903) :
    Calls Try.prog 14 #[.slice A a.length ca, .slice C hs.length cc] w (ApTo (ap a 0 hs) w) := by
  obtain ⟨i0, hi0, hz0, hz1, hz2⟩ := info_parts info9
  have HA := Lib.hid hA
  have HC := Lib.hid hC
  have HO := Lib.hid hO
  have HST := Lib.hid (av_start a hs)
  obtain ⟨m, hm⟩ : ∃ m, m = a.length := ⟨_, rfl⟩
  obtain ⟨L, hL⟩ : ∃ L, L = hs.length := ⟨_, rfl⟩
  rw [← hm] at hT ⊢
  rw [← hL] at hhl ⊢
  have HM := Lib.hid hm
  have HL := Lib.hid hL
  clear hA hC hO hm hL
  go_enter Try.func14, Try.ntmps14
  go_wp2_with fail
  go_loopw [6, 7, 8, 9] (fun v at_ i _ wr => ∃ (k p : Nat) (pre : List ByteArray), i = .int .i64 (k : Int) ∧ at_ = .int .i64 (p : Int) ∧ k ≤ L ∧ p ≤ m ∧ Hid (Av a hs k p pre) ∧ Hid (pre.length ≤ p + news (hs.take k)) ∧ Hid (Lo wr w.heap.size v pre) ∧ Hid (Below w.heap.size w wr)) (fun _ _ i _ _ => L - (intOf i).toNat)
  case atStart => exact ⟨0, 0, [], rfl, rfl, Nat.zero_le _, Nat.zero_le _, HST, Nat.zero_le _, World.ownsRow_nil _ _ _ _, Below.refl _ _⟩
  case round =>
    obtain ⟨k, p, pre, rfl, rfl, hk, hp, HV, HPL, HLO, HB⟩ := hrel
    clear HST
    by_cases hlt : k < L
    · have e1 : (k : Int) < (L : Int) := by omega
      obtain ⟨h, hh⟩ : ∃ h, hs[k]? = some h := ⟨_, List.getElem?_eq_getElem (by rw [← HL.out]; exact hlt)⟩
      have hol := HO.out h (List.mem_iff_getElem?.2 ⟨k, hh⟩)
      obtain ⟨bc, oc, rfl, hbc, hcc⟩ := HC.out.2.resolve_left (by rw [← HL.out]; omega)
      obtain ⟨uo, un, b0, b1, b2, ⟨A1, c1, rfl, s1, hn1⟩, ⟨A2, c2, rfl, s2, hn2⟩⟩ := hcc k h hh
      have d0 := (HB.out.cell (p := ⟨bc, _, none⟩) hbc).trans b0
      have d1 := (HB.out.cell (p := ⟨bc, _, none⟩) hbc).trans b1
      have d2 := (HB.out.cell (p := ⟨bc, _, none⟩) hbc).trans b2
      have S1 := Lib.hid s1
      have S2 := Lib.hid s2
      have HH := Lib.hid hh
      have HN2 := Lib.hid hn2
      obtain ⟨n1, hn1'⟩ : ∃ n1, n1 = h.old.length := ⟨_, rfl⟩
      obtain ⟨n2, hn2'⟩ : ∃ n2, n2 = h.new.length := ⟨_, rfl⟩
      rw [← hn1'] at d1 hol
      rw [← hn2'] at d2
      have HN1' := Lib.hid hn1'
      have HN2' := Lib.hid hn2'
      have hal : Below w.heap.size w (wr.alloc (.cells #[.int .i64 h.at_, .slice A1 n1 c1, .slice A2 n2 c2] 33)) := HB.out.alloc HB.out.size _
      have hhb : Hb (wr.alloc (.cells #[.int .i64 h.at_, .slice A1 n1 c1, .slice A2 n2 c2] 33)) wr.heap.size h.at_ (.slice A1 n1 c1) (.slice A2 n2 c2) := heap_alloc_new _ _
      have hlo : Lo (wr.alloc (.cells #[.int .i64 h.at_, .slice A1 n1 c1, .slice A2 n2 c2] 33)) w.heap.size u6 pre := HLO.out.below ((Below.refl _ wr).alloc (Nat.le_refl _) _)
      have hne : u6.ownBlock ≠ some wr.heap.size := fun e => by have := (World.ownsRow.lt HLO.out _ e).2; omega
      have hszr := HB.out.size
      obtain ⟨AT, hAT⟩ : ∃ AT, AT = h.at_ := ⟨_, rfl⟩
      rw [← hAT] at d0 hal hhb hlo
      have HAT := Lib.hid hAT
      clear hcc b0 b1 b2 s1 s2 hn1 hn2 hn1' hn2' hh HLO hAT
      by_cases hf : AT < p ∨ (m : Int) < AT
      · have hE : Hid (ApTo (ap a 0 hs) w (.returned (.tuple #[.slice none 0 0, .int .i64 3])) (wr.alloc (.cells #[.int .i64 AT, .slice A1 n1 c1, .slice A2 n2 c2] 33))) := by
          show ApTo _ _ _ _
          rw [av_form HV.out HH.out (by rw [← HAT.out, ← HM.out]; exact hf)]
          exact ⟨_, rfl, World.ownsRow_nil _ _ _ _, hal⟩
        clear hhb hlo hne hal
        by_cases hf1 : AT < p
        · have f1 : AT < (p : Int) := hf1
          clear hf
          go_wp2_with fail
          go_ret2
          exact hE.out
        · have f1 : ¬ AT < (p : Int) := hf1
          have f2 : (m : Int) < AT := by omega
          clear hf
          go_wp2_with fail
          go_ret2
          exact hE.out
      · obtain ⟨q, hq⟩ : ∃ q : Nat, AT = (q : Int) := ⟨AT.toNat, by omega⟩
        have hnf : ¬ (h.at_ < (p : Int) ∨ (a.length : Int) < h.at_) := by rw [← HAT.out, ← HM.out]; exact hf
        have hqn : h.at_.toNat = q := by rw [← HAT.out]; omega
        have hpq : p ≤ q := by omega
        have hqm : q ≤ m := by omega
        have f1 : ¬ (q : Int) < (p : Int) := by omega
        have f2 : ¬ (m : Int) < (q : Int) := by omega
        rw [hq] at d0 hal hhb hlo
        clear hf hq
        go_wp2_with fail
        generalize wr.alloc (.cells #[.int .i64 (q : Int), .slice A1 n1 c1, .slice A2 n2 c2] 33) = w4 at hal hhb hlo ⊢
        obtain ⟨ph, hph⟩ : ∃ ph, ph = wr.heap.size := ⟨_, rfl⟩
        rw [← hph] at hhb hne ⊢
        have hwph : w.heap.size ≤ ph := by omega
        have hph4 := hhb.lt
        obtain ⟨g0, g1, g2⟩ := hhb.cell
        have HHB := Lib.hid hhb
        have HLO := Lib.hid hlo
        have HAL := Lib.hid hal
        have hsz4 := hal.size
        have cst := stands_any A A1 ca c1 q a h.old w4 (HA.out.below hal) (S1.out.below hal) (by rw [← HM.out]; omega) (by rw [← HN1'.out]; exact hol) (by rw [← HM.out]; exact hqm)
        rw [← HM.out, ← HN1'.out] at cst
        have CST := Lib.hid cst
        have HQN := Lib.hid hqn
        have HNF := Lib.hid hnf
        clear hhb hlo hal cst hph d0 d1 d2 hnf hqn
        go_wp2_with fail
        go_at_call 23
        refine CST.out.mono ?_
        rintro e w5 ⟨rfl, hb5⟩
        have HB5 : Hid (Below w.heap.size w w5) := HAL.out.trans (hb5.mono HAL.out.size)
        cases hst : stands a q h.old
        · have hE : Hid (ApTo (ap a 0 hs) w (.returned (.tuple #[.slice none 0 0, .int .i64 11])) w5) := by
            show ApTo _ _ _ _
            rw [av_none HV.out HH.out HNF.out (by rw [HQN.out]; exact hst)]
            exact ⟨_, rfl, World.ownsRow_nil _ _ _ _, HB5.out⟩
          clear g0 g1 g2 hb5 hst
          go_wp2_with fail
          go_ret2
          exact hE.out
        · have hon := stands_len hst
          rw [← HM.out, ← HN1'.out] at hon
          have HNX : Hid (Av a hs (k + 1) (q + h.old.length) (pre ++ (a.take q).drop p ++ h.new)) := by
            have := av_next HV.out HH.out HNF.out (by rw [HQN.out]; exact hst)
            rw [HQN.out] at this
            exact this
          have HLO5 := Lib.hid (HLO.out.below hb5)
          have HHB5 := Lib.hid (HHB.out.kept (hb5.block ph hph4))
          have hT2 := news_le hs (k + 1)
          have hT3 := news_take HH.out
          rw [← HN2'.out] at hT3
          have HT2 := Lib.hid hT2
          have HT3 := Lib.hid hT3
          clear g0 g1 g2 hb5 hst CST HLO HHB HAL hT2 hT3
          go_wp2_with fail
          go_loopw [6, 7] (fun v at_ wx => ∃ (j : Nat), at_ = .int .i64 (j : Int) ∧ p ≤ j ∧ j ≤ q ∧ Hid (Lo wx w.heap.size v (pre ++ (a.take j).drop p)) ∧ v.ownBlock ≠ some ph ∧ Hid (Hb wx ph q (.slice A1 n1 c1) (.slice A2 n2 c2)) ∧ Hid (Below w.heap.size w wx)) (fun _ at_ _ => q - (intOf at_).toNat)
          case atStart =>
            refine ⟨p, rfl, Nat.le_refl _, hpq, ?_, hne, HHB5, HB5⟩
            show Lo _ _ _ _
            rw [nil_mid _ _ _ (Nat.le_refl _), List.append_nil]
            exact HLO5.out
          case round =>
            clear HLO5 HHB5 HB5 hne
            obtain ⟨j, rfl, hpj, hjq, HLX, hnx, HHX, HBX⟩ := hrel
            obtain ⟨g0, g1, g2⟩ := HHX.out.cell
            have hszx := HBX.out.size
            have hphx := HHX.out.lt
            have hpl : pre.length ≤ p + news (hs.take k) := HPL.out
            have hnk := news_le hs k
            by_cases hjl : j < q
            · have h1 : (j : Int) < (q : Int) := by omega
              have hja : j < a.length := by rw [← HM.out]; omega
              obtain ⟨ba, oa, rfl, ca1⟩ := strs_cell HA.out hja HBX.out
              obtain ⟨X, hX⟩ : ∃ X, X = a[j] := ⟨_, rfl⟩
              have hms := mid_snoc hpj hja
              have hml := mid_len (p := p) (Nat.le_of_lt hja)
              rw [← hX] at ca1 hms
              have HMS := Lib.hid hms
              obtain ⟨nl, hnl⟩ : ∃ nl, nl = (pre ++ (a.take j).drop p).length := ⟨_, rfl⟩
              have hnl2 : nl = pre.length + (j - p) := by rw [hnl, List.length_append, hml]
              have hown : wr.ownsRow w.heap.size 9 1 u6 nl ((pre ++ (a.take j).drop p).map sv) := by rw [hnl]; exact HLX.out
              have HNL := Lib.hid hnl
              clear hX hms hml hja hnl
              go_wp2_with (at_builtin; refine Ap.wpList_append_two _ rfl _ _ 22 rfl w.heap.size 9 i0 (.string ⟨#[]⟩) 1 16 Try.underlying22 hi0 hz0 hz1 hz2 rfl (by decide) (by decide) _ _ _ rfl (hown.alloc _) ⟨wr.heap.size, 0, none⟩ 1 [sv X] rfl rfl ?c1 ?c2 ?c3 ?c4 ?c5 ?_)
              case c1 => exact cell_one_new _ _ _
              case c2 => exact sv_one [X]
              case c3 => omega
              case c4 => omega
              case c5 => simp; omega
              intro v3 w3 hown3 hgr3
              obtain ⟨hb3, hold3⟩ := lo_two (o := .cells #[.string X] 9) HLX.out hszx hgr3
              obtain ⟨hk3, hn3⟩ := hold3 ph hphx hnx
              have HLX3 : Hid (Lo w3 w.heap.size v3 (pre ++ (a.take (j + 1)).drop p)) := by
                show Lo _ _ _ _
                rw [HMS.out, ← List.append_assoc]
                unfold Lo
                have hll : (pre ++ (a.take j).drop p ++ [X]).length = pre.length + (j - p) + 1 := by rw [List.length_append, ← HNL.out, hnl2]; rfl
                rw [hll, List.map_append]
                simpa using hown3
              have HHX3 := Lib.hid (HHX.out.kept hk3)
              have HBX3 := Lib.hid (HBX.out.trans hb3)
              clear hown hown3 hgr3 hb3 hold3 hk3 HLX HHX HBX g0 g1 g2 hnx ca1
              go_wp2_with fail
              go_roundw
              case rel => exact ⟨j + 1, by go_num, by omega, by omega, HLX3, hn3, HHX3, HBX3⟩
              case measure => simp only [intOf]; omega
            · have h1 : ¬ (j : Int) < (q : Int) := by omega
              obtain rfl : j = q := by omega
              have hml := mid_len (a := a) (p := p) (j := j) (by rw [← HM.out]; exact hqm)
              have hplen : (pre ++ (a.take j).drop p).length = pre.length + (j - p) := by rw [List.length_append, hml]
              have h3 := HT2.out
              have h4 := HT3.out
              have s2 := S2.out.below HBX.out
              rw [← HN2'.out] at s2
              have hsum : IntKind.i64.wrap ((j : Int) + (n1 : Int)) = (j : Int) + (n1 : Int) := IntWalk.i64_in _ (by omega)
              have HPLN := Lib.hid hplen
              have HLXX := HLX.out
              have hbig : ((pre ++ (a.take j).drop p).length + n2) * 16 ≤ 140737488355328 := by omega
              have HBG := Lib.hid hbig
              clear hml hplen hbig
              go_wp2_with (at_builtin; refine wp_append_any rfl _ _ rfl w.heap.size rfl HLXX rfl s2 HN2.out HBG.out hszx ?_)
              intro v3 w3 hlo3 hgr3
              have hb3 : Below w.heap.size w w3 := HBX.out.grown hgr3 hszx (fun k hk => (World.ownsRow.lt HLXX k hk).1)
              have hk3 : w3.heap[ph]? = wr.heap[ph]? := hgr3.block ph hphx (fun e => hnx e.symm)
              obtain ⟨q0, q1, q2⟩ := (HHX.out.kept hk3).cell
              have HL3 : Hid (Lo w3 w.heap.size v3 (pre ++ (a.take j).drop p ++ h.new)) := by
                show Lo _ _ _ _
                first
                  | exact hlo3
                  | (rw [List.append_assoc]; exact hlo3)
              have HB3 := Lib.hid hb3
              have HP3 : Hid ((pre ++ (a.take j).drop p ++ h.new).length ≤ j + n1 + news (hs.take (k + 1))) := by
                show _ ≤ _
                rw [List.length_append, HPLN.out, h4, HN2'.out]
                omega
              have HNX3 : Hid (Av a hs (k + 1) (j + n1) (pre ++ (a.take j).drop p ++ h.new)) := by
                show Av _ _ _ _ _
                rw [HN1'.out]
                exact HNX.out
              clear hlo3 hgr3 hb3 hk3 HLXX HLX HHX HBX g0 g1 g2 hnx s2 HNX
              go_wp2_with fail
              go_roundw
              case rel => exact ⟨k + 1, j + n1, _, by go_num, by go_num, by omega, by omega, HNX3, HP3, HL3, HB3⟩
              case measure => simp only [intOf]; omega
    · have hkL : k = L := by omega
      have e1 : ¬ (k : Int) < (L : Int) := by omega
      have HEND : Hid (ap a 0 hs = (pre ++ a.drop p, 0)) := av_end HV.out (by rw [← HL.out]; omega)
      have hnk := news_le hs k
      have hpl : pre.length ≤ p + news (hs.take k) := HPL.out
      have HPL2 : Hid (pre.length + (m - p) ≤ 8796093022207) := by show _ ≤ _; omega
      clear hkL HV HPL hnk hpl
      go_wp2_with fail
      go_loopw [6, 7] (fun v at_ wx => ∃ (j : Nat), at_ = .int .i64 (j : Int) ∧ p ≤ j ∧ j ≤ m ∧ Hid (Lo wx w.heap.size v (pre ++ (a.take j).drop p)) ∧ Hid (Below w.heap.size w wx)) (fun _ at_ _ => m - (intOf at_).toNat)
      case atStart =>
        refine ⟨p, rfl, Nat.le_refl _, hp, ?_, HB⟩
        show Lo _ _ _ _
        rw [nil_mid _ _ _ (Nat.le_refl _), List.append_nil]
        exact HLO.out
      case round =>
        clear HLO HB
        obtain ⟨j, rfl, hpj, hjm, HLX, HBX⟩ := hrel
        have hszx := HBX.out.size
        by_cases hjl : j < m
        · have h1 : (j : Int) < (m : Int) := by omega
          have hja : j < a.length := by rw [← HM.out]; omega
          obtain ⟨ba, oa, rfl, ca1⟩ := strs_cell HA.out hja HBX.out
          obtain ⟨X, hX⟩ : ∃ X, X = a[j] := ⟨_, rfl⟩
          have hms := mid_snoc hpj hja
          have hml := mid_len (p := p) (Nat.le_of_lt hja)
          rw [← hX] at ca1 hms
          have HMS := Lib.hid hms
          obtain ⟨nl, hnl⟩ : ∃ nl, nl = (pre ++ (a.take j).drop p).length := ⟨_, rfl⟩
          have hnl2 : nl = pre.length + (j - p) := by rw [hnl, List.length_append, hml]
          have hown : wr.ownsRow w.heap.size 9 1 u6 nl ((pre ++ (a.take j).drop p).map sv) := by rw [hnl]; exact HLX.out
          have HNL := Lib.hid hnl
          have hpl2 : pre.length + (m - p) ≤ 8796093022207 := HPL2.out
          clear hX hms hml hja hnl
          go_wp2_with (at_builtin; refine Ap.wpList_append_two _ rfl _ _ 22 rfl w.heap.size 9 i0 (.string ⟨#[]⟩) 1 16 Try.underlying22 hi0 hz0 hz1 hz2 rfl (by decide) (by decide) _ _ _ rfl (hown.alloc _) ⟨wr.heap.size, 0, none⟩ 1 [sv X] rfl rfl ?c1 ?c2 ?c3 ?c4 ?c5 ?_)
          case c1 => exact cell_one_new _ _ _
          case c2 => exact sv_one [X]
          case c3 => omega
          case c4 => omega
          case c5 => simp; omega
          intro v3 w3 hown3 hgr3
          obtain ⟨hb3, _⟩ := lo_two (o := .cells #[.string X] 9) HLX.out hszx hgr3
          have HLX3 : Hid (Lo w3 w.heap.size v3 (pre ++ (a.take (j + 1)).drop p)) := by
            show Lo _ _ _ _
            rw [HMS.out, ← List.append_assoc]
            unfold Lo
            have hll : (pre ++ (a.take j).drop p ++ [X]).length = pre.length + (j - p) + 1 := by rw [List.length_append, ← HNL.out, hnl2]; rfl
            rw [hll, List.map_append]
            simpa using hown3
          have HBX3 := Lib.hid (HBX.out.trans hb3)
          clear hown hown3 hgr3 hb3 HLX HBX ca1
          go_wp2_with fail
          go_roundw
          case rel => exact ⟨j + 1, by go_num, by omega, by omega, HLX3, HBX3⟩
          case measure => simp only [intOf]; omega
        · have h1 : ¬ (j : Int) < (m : Int) := by omega
          have hjm2 : j = m := by omega
          have hE : Hid (ApTo (ap a 0 hs) w (.returned (.tuple #[u6, .int .i64 0])) wr) := by
            show ApTo _ _ _ _
            have h := HLX.out
            rw [hjm2, HM.out, List.take_length] at h
            rw [HEND.out]
            exact ⟨_, rfl, h, HBX.out⟩
          clear HLX hjm2
          go_wp2_with fail
          go_ret2
          exact hE.out
end Go.Proofs.Ytoncghamkedhcaa.Kd

namespace Go.Proofs.Ytoncghamkedhcaa.Ud
open Go.ChangeShapes Go.WideShapes Go.RowKit Tx Um Aq
set_option linter.unusedVariables false
def dst (a b : List ByteArray) : Nat := if lng a b then 0 else Um.dist a b
def Szs (l : List ByteArray) : Prop := ∀ x, x ∈ l → x.size ≤ maxLen
theorem scr_no {a b : List ByteArray} (h : lng a b = false) : scr a b = runs (steps a b) := by unfold scr; rw [h]; rfl
theorem err_no {a b : List ByteArray} (h : lng a b = false) : err a b = 0 := by unfold err; rw [h]; rfl
theorem scr_yes {a b : List ByteArray} (h : lng a b = true) : scr a b = [] := by unfold scr; rw [h]; rfl
theorem err_yes {a b : List ByteArray} (h : lng a b = true) : err a b = 4 := by unfold err; rw [h]; rfl
theorem lng_small {a b : List ByteArray} (h : lng a b = false) : a.length ≤ 400 ∧ b.length ≤ 400 := by
  unfold lng at h
  rw [Bool.or_eq_false_iff] at h
  have h1 := of_decide_eq_false h.1
  have h2 := of_decide_eq_false h.2
  omega
end Go.Proofs.Ytoncghamkedhcaa.Ud

namespace Go.Proofs.Ytoncghamkedhcaa.Ud
open Go.ChangeShapes Go.WideShapes Go.RowKit Tx Um Aq
set_option linter.unusedVariables false
def Arg (w : World) (A : Option Addr) (n c : Nat) (l : List ByteArray) : Prop := Strs w A n l ∧ (A = none → c = 0) ∧ (n + 1) * 16 ≤ 140737488355328 ∧ Szs l
theorem Arg.below {w w1 : World} {A : Option Addr} {n c : Nat} {l : List ByteArray} (h : Arg w A n c l) (hb : Below w.heap.size w w1) : Arg w1 A n c l := ⟨h.1.below hb, h.2⟩
theorem arg_list {H : Type} {enc : TypeId × Value → H} {w : World} {base : Nat} {spare : Nat → Bool} {held : Bool} {A : Option Addr} {n c : Nat} {d : DataW H} {p : List MemPlace} (h : DataW.Trod enc Try.prog w base spare held 22 (.slice A n c) d p)
    {ts : List TypeId} {ds : List (DataW H)} {j : Nat} (hsz : (DataW.weightsEach Try.prog ts ds).all (· ≤ reachBytes) = true) (ht : ts[j]? = some 22) (hj : ds[j]? = some d) : ∃ l, Arg w A n c l := by
  obtain ⟨fuel, hf⟩ := h
  rcases open_strings Try.underlying22 Try.underlying9 (by kernel_rfl) hf with ⟨hcs, _⟩ | ⟨x, len, cap, ss, hcs, _, hl, hm, hz, hx, hcell, hzs⟩
  · simp [Value.cells] at hcs
    obtain ⟨rfl, rfl, rfl⟩ := hcs
    exact ⟨[], ⟨rfl, .inl rfl⟩, fun _ => rfl, by omega, fun x hx => by cases hx⟩
  · simp [Value.cells] at hcs
    obtain ⟨rfl, rfl, rfl⟩ := hcs
    have hz' : n ≤ ss.length := by rw [hz]; split <;> omega
    have hd : d = .slice (strs (ss.take n)) (strs (ss.drop n)) := congrArg Prod.fst hx
    have hlen : (ss.take n).length = n := by rw [List.length_take]; omega
    have hs := sized_slice hsz ht (hj.trans (congrArg some hd)) Try.underlying22
    have hb : Try.prog.bytesOf 9 = 16 := by kernel_rfl
    have sl : ∀ l : List ByteArray, (strs (H := H) l).length = l.length := fun l => by unfold strs; rw [List.length_map]
    rw [hb, sl, sl, hlen] at hs
    have hr : reachBytes = 140737488351232 := rfl
    rw [hr] at hs
    refine ⟨ss.take n, ⟨hlen, ?_⟩, (fun h => absurd h (by simp)), by omega, fun x hx => hzs x (List.mem_of_mem_take hx)⟩
    by_cases h0 : n = 0
    · exact .inl h0
    · right
      obtain ⟨b, off, spot⟩ := x
      have hc0 := hcell 0 (by omega)
      have hspot : spot = none := by simpa [Addr.add] using World.cell?_spot hc0
      subst hspot
      refine ⟨b, off, rfl, ?_, fun k y hk => ?_⟩
      · have := World.block_lt_of_cell? w _ hc0
        rwa [WideShapes.add_plain] at this
      · have hk2 := (List.getElem?_eq_some_iff.1 hk).1
        rw [hlen] at hk2
        have hk3 := hcell k (by omega)
        rw [WideShapes.add_plain] at hk3
        rw [hk3]
        rw [List.getElem?_take_of_lt hk2] at hk
        rw [List.getD_eq_getElem?_getD, hk]
        rfl
theorem made0 (w : World) : (w.alloc (.cells #[] 9)).ownsRow w.heap.size 9 1 (.slice (some ⟨w.heap.size, 0, none⟩) 0 0) 0 [] :=
  World.ownsRow_made w #[] 0 (Nat.le_refl _) (Nat.zero_le _) rfl
theorem wp_append_list {w : World} {ops : Array Oper} {rest : List Oper} {o : Oper} {a : Act} {Q : Exit → Act → World → Prop} {v : Value} {l0 l : List ByteArray} {n c : Nat} {A : Option Addr} (hgd : o.guard = none) (s x : Operand)
    (ho : o.op = .call { callee := .builtin .append, args := #[s, x], argTypes := #[22, 22] }) (base : Nat) (hs : a.eval s = v) (hown : w.ownsRow base 9 1 v l0.length (l0.map sv)) (hx : a.eval x = .slice A n c)
    (hl : Strs w A n l) (hnil : A = none → c = 0) (hn : (l0.length + n) * 16 ≤ 140737488355328) (hb : base ≤ w.heap.size) (hv : v ≠ .slice none 0 0)
    (h : ∀ v' w', w'.ownsRow base 9 1 v' (l0 ++ l).length ((l0 ++ l).map sv) → v' ≠ .slice none 0 0 → w.grownBy w' v.ownBlock → wpList Try.prog ops Q rest (a.put o.dst v') w') : wpList Try.prog ops Q (o :: rest) a w := by
  obtain ⟨i0, hi, hz0, hz1, hz2⟩ := info_parts info9
  have hln := hl.1
  cases A with
  | none =>
    have h0 : n = 0 := by
      rcases hl.2 with h | ⟨_, _, h, _⟩
      · exact h
      · cases h
    subst h0
    obtain rfl := hnil rfl
    obtain rfl : l = [] := List.length_eq_zero_iff.1 hln
    refine wpList_append_own_none hgd s x 22 ho base 9 i0 1 Try.underlying22 hi v l0.length (l0.map sv) hs hown hx (h v w ?_ hv ⟨rfl, rfl, rfl, Nat.le_refl _, fun _ _ _ => rfl⟩)
    rw [List.append_nil]
    exact hown
  | some ad =>
    refine wpList_append_own w hgd s x 22 ho base 9 i0 (.string ⟨#[]⟩) 1 16 Try.underlying22 hi hz0 hz1 hz2 rfl (by decide) v l0.length (l0.map sv) hs hown ad n c (l.map sv) hx (by rw [List.length_map, hln, Nat.mul_one]) (fun j u hu => ?_) (sv_one l) (by unfold maxLen; omega) hn hb ?_
    · rw [List.getElem?_map] at hu
      obtain ⟨y, hy, rfl⟩ := Option.map_eq_some_iff.1 hu
      have hj := (List.getElem?_eq_some_iff.1 hy).1
      obtain ⟨b, off, ha, hbl, hc⟩ := hl.2.resolve_left (by omega)
      injection ha with ha
      subst ha
      rw [WideShapes.add_plain]
      exact hc j y hy
    · intro v' w' h1 h2 h3
      refine h v' w' ?_ (fun e => hv (h3.1 e).1) h2
      rw [List.length_append, hln, List.map_append]
      exact h1
def SP : ByteArray := ⟨#[115, 112, 97, 114, 101]⟩
structure Cop (w : World) (B g cp : Nat) (l : List ByteArray) : Prop where
  own : w.ownsRow B 9 1 (.slice (some ⟨g, 0, none⟩) (l.length + 1) cp) (l.length + 1) ((l ++ [SP]).map sv)
theorem Cop.below {w w1 : World} {B g cp : Nat} {l : List ByteArray} (h : Cop w B g cp l) (hb : Below w.heap.size w w1) : Cop w1 B g cp l := by
  refine ⟨h.own.1, ?_⟩
  rcases h.own.2 with h0 | ⟨g', cap', cur, hv, hg, hh, r⟩
  · exact .inl h0
  · exact .inr ⟨g', cap', cur, hv, hg, (hb.block g' (Array.getElem?_eq_some_iff.1 hh).1).trans hh, r⟩
theorem Cop.strs {w : World} {B g cp : Nat} {l : List ByteArray} (h : Cop w B g cp l) : Strs w (some ⟨g, 0, none⟩) l.length l := by
  refine ⟨rfl, .inr ⟨g, 0, rfl, (h.own.lt g rfl).2, fun k x hx => ?_⟩⟩
  rw [Nat.zero_add]
  exact own_cell h.own (by rw [List.getElem?_map, List.getElem?_append_left (List.getElem?_eq_some_iff.1 hx).1, hx]; rfl)
theorem Cop.spare {w : World} {B g cp : Nat} {l : List ByteArray} (h : Cop w B g cp l) : w.cell? ⟨g, l.length, none⟩ = some (.string ⟨#[115, 112, 97, 114, 101]⟩) :=
  own_cell h.own (by rw [List.getElem?_map, List.getElem?_append_right (Nat.le_refl _), Nat.sub_self]; rfl)
theorem Cop.cap {w : World} {B g cp : Nat} {l : List ByteArray} (h : Cop w B g cp l) : l.length + 1 ≤ cp ∧ B ≤ g ∧ g < w.heap.size := by
  rcases h.own.2 with ⟨h0, _⟩ | ⟨g', cap', cur, hv, hg, hh, hn, _, _⟩
  · cases h0
  · injection hv with h1 h2 h3
    injection h1 with h1
    injection h1 with h1
    subst h1
    subst h3
    exact ⟨hn, hg, (Array.getElem?_eq_some_iff.1 hh).1⟩
end Go.Proofs.Ytoncghamkedhcaa.Ud

namespace Go.Proofs.Ytoncghamkedhcaa.Ud
open Go.RowKit Tx Um Aq
set_option linter.unusedVariables false
def SameT (la lb : List ByteArray) (w : World) (e : Ending) (w' : World) : Prop := ∃ B, (B = true ↔ la = lb) ∧ e = .returned (.bool B) ∧ Below w.heap.size w w'
set_option maxRecDepth 100000 in
set_option maxHeartbeats 1000000 in
theorem same_any (A B : Option Addr) (ca cb : Nat) (a b : List ByteArray) (w : World) (hA : Strs w A a.length a) (hB : Strs w B b.length b) (hn : a.length ≤ 9223372036854775806) (hm : b.length ≤ 9223372036854775806) :
    Calls Try.prog 11 #[.slice A a.length ca, .slice B b.length cb] w (SameT a b w) := by
  have HAS := Lib.hid hA
  have HBS := Lib.hid hB
  obtain ⟨m, hm'⟩ : ∃ m, m = a.length := ⟨_, rfl⟩
  obtain ⟨n, hn'⟩ : ∃ n, n = b.length := ⟨_, rfl⟩
  rw [← hm'] at hn ⊢
  rw [← hn'] at hm ⊢
  have HM := Lib.hid hm'
  have HN := Lib.hid hn'
  clear hA hB hm' hn'
  by_cases hmn : m = n
  · have e0 : ((m : Int) == n) = true := beq_iff_eq.2 (by omega)
    have hmn' : (m : Int) = (n : Int) := by omega
    go_enter Try.func11, Try.ntmps11
    go_wp2_with fail
    go_loopw [5] (fun i wr => ∃ k : Nat, k ≤ m ∧ i = .int .i64 k ∧ Hid (a.take k = b.take k) ∧ Below w.heap.size w wr) (fun i _ => m - (intOf i).toNat)
    case atStart => exact ⟨0, Nat.zero_le _, rfl, rfl, Below.refl _ _⟩
    case round =>
      obtain ⟨k, hk, rfl, hT, hW⟩ := hrel
      by_cases hlt : k < m
      · have hka : k < a.length := by rw [← HM.out]; exact hlt
        have hkb : k < b.length := by rw [← HN.out]; omega
        obtain ⟨ba, oa, rfl, c1⟩ := strs_cell HAS.out hka hW
        obtain ⟨bb, ob, rfl, c2⟩ := strs_cell HBS.out hkb hW
        obtain ⟨S, hS⟩ : ∃ S, S = a[k] := ⟨_, rfl⟩
        obtain ⟨T, hT0⟩ : ∃ T, T = b[k] := ⟨_, rfl⟩
        rw [← hS] at c1
        rw [← hT0] at c2
        have hlt1 : (k : Int) < (m : Int) := by omega
        have hlt2 : (k : Int) < (n : Int) := by omega
        by_cases he : S = T
        · have e1 : (S.toList == T.toList) = true := by rw [he]; exact beq_self_eq_true _
          have HNX : Hid (a.take (k + 1) = b.take (k + 1)) := by
            show _ = _
            rw [List.take_succ_eq_append_getElem hka, List.take_succ_eq_append_getElem hkb, hT.out, ← hS, ← hT0, he]
          clear hS hT0 he hT hka hkb
          go_wp2_with fail
          go_quiet (fail)
          go_wp2_with fail
          go_roundw
          case rel => exact ⟨k + 1, by omega, by go_num, HNX, below_drewN hW _⟩
          case measure => simp [intOf]; omega
        · have e1 : (S.toList == T.toList) = false := bytes_ne he
          have HE : Hid (a ≠ b) := fun h => he (by subst h; rw [hS, hT0])
          clear hS hT0 he hT hka hkb
          go_wp2_with fail
          go_quiet (fail)
          go_wp2_with fail
          go_ret
          exact ⟨false, Iff.intro (fun h => by cases h) (fun h => absurd h HE.out), rfl, below_drewN hW _⟩
      · have hkm : k = m := by omega
        have h := hT.out
        rw [List.take_of_length_le (by rw [← HM.out]; omega), List.take_of_length_le (by rw [← HN.out]; omega)] at h
        have HE := Lib.hid h
        clear hT h
        go_wp2_with fail
        go_ret
        exact ⟨true, Iff.intro (fun _ => HE.out) (fun _ => rfl), rfl, hW⟩
  · have e0 : ((m : Int) == n) = false := beq_eq_false_iff_ne.2 (by omega)
    have HE : Hid (a ≠ b) := fun h => hmn (by rw [HM.out, HN.out, h])
    clear hmn
    go_enter Try.func11, Try.ntmps11
    go_wp2
    go_ret
    exact ⟨false, Iff.intro (fun h => by cases h) (fun h => absurd h HE.out), rfl, Below.refl _ _⟩
end Go.Proofs.Ytoncghamkedhcaa.Ud

namespace Go.Proofs.Ytoncghamkedhcaa.Kd
open Go.RowKit Go.ChangeShapes Go.WideShapes Tx Um Ud Aq Km
set_option linter.unusedVariables false
def vals (cs : List (Int × Value × Value)) : List Value := cs.flatMap fun c => [c.2.1, c.2.2]
structure Own3 (w : World) (B : Nat) (cs : List (Int × Value × Value)) (hs : List (Hz ByteArray)) : Prop where
  each : ∀ (k : Nat) c h, cs[k]? = some c → hs[k]? = some h → Lo w B c.2.1 h.old ∧ Lo w B c.2.2 h.new
  far : ∀ (i j : Nat) u v g, (vals cs)[i]? = some u → (vals cs)[j]? = some v → i ≠ j → u.ownBlock = some g → v.ownBlock ≠ some g
def int64 (k : Int) : Prop := -9223372036854775808 ≤ k ∧ k ≤ 9223372036854775807
def In (w : World) (A : Option Addr) (c : Nat) (l : List ByteArray) : Prop := Strs w A l.length l ∧ l.length ≤ c ∧ (A = none → c = 0) ∧ Szs l
theorem In.below {w w1 : World} {A : Option Addr} {c : Nat} {l : List ByteArray} (h : In w A c l) (hb : Below w.heap.size w w1) : In w1 A c l := ⟨h.1.below hb, h.2⟩
def In0 (w : World) (A : Option Addr) (c : Nat) (l : List ByteArray) : Prop := Strs w A l.length l ∧ l.length ≤ c ∧ (A = none → c = 0)
theorem In.in0 {w : World} {A : Option Addr} {c : Nat} {l : List ByteArray} (h : In w A c l) : In0 w A c l := ⟨h.1, h.2.1, h.2.2.1⟩
theorem In0.below {w w1 : World} {A : Option Addr} {c : Nat} {l : List ByteArray} (h : In0 w A c l) (hb : Below w.heap.size w w1) : In0 w1 A c l := ⟨h.1.below hb, h.2⟩
def BetTo (hs : List (Hz ByteArray)) (er : Nat) (w : World) (e : Ending) (w' : World) : Prop := ∃ v cs, e = .returned (.tuple #[v, .int .i64 (er : Int)]) ∧ Hu w' w.heap.size v cs ∧ Is w' cs hs ∧ Own3 w' w.heap.size cs hs ∧ Below w.heap.size w w'
def BackTo (hs : List (Hz ByteArray)) (w : World) (e : Ending) (w' : World) : Prop := ∃ v cs, e = .returned v ∧ Hu w' w.heap.size v cs ∧ Is w' cs hs ∧ Below w.heap.size w w'
structure Impl : Prop where
  between : ∀ (A B : Option Addr) (ca cb : Nat) (ar : Int) (a b : List ByteArray) (w : World), In w A ca a → In w B cb b → int64 ar →
    Calls Try.prog 7 #[.slice A a.length ca, .slice B b.length cb, .int .i64 ar] w (BetTo (pcs a b ar) (per a b ar) w)
  apply : ∀ (A C : Option Addr) (ca cc : Nat) (a : List ByteArray) (hs : List (Hz ByteArray)) (w : World), In0 w A ca a → HzR w C hs.length hs → a.length + news hs ≤ 8796093022207 →
    (∀ h, h ∈ hs → h.old.length ≤ 4611686018427387903 ∧ int64 h.at_) → hs.length ≤ 4611686018427387903 →
    Calls Try.prog 13 #[.slice A a.length ca, .slice C hs.length cc] w (ApTo (ap a 0 hs) w)
  back : ∀ (C : Option Addr) (cc : Nat) (hs : List (Hz ByteArray)) (w : World), HzR w C hs.length hs → hs.length ≤ 1000 → (∀ h, h ∈ hs → h.old.length ≤ 1000 ∧ h.new.length ≤ 1000 ∧ -1000000 ≤ h.at_ ∧ h.at_ ≤ 1000000) →
    Calls Try.prog 15 #[.slice C hs.length cc] w (BackTo (bk 0 hs) w)
theorem awake_steps : steps [(⟨#[97]⟩ : ByteArray), ⟨#[98]⟩, ⟨#[99]⟩] [⟨#[97]⟩, ⟨#[120]⟩, ⟨#[99]⟩] = [0, 1, 2, 0] := by
  have n1 : (⟨#[98]⟩ : ByteArray) ≠ ⟨#[120]⟩ := by decide
  have n2 : (⟨#[98]⟩ : ByteArray) ≠ ⟨#[99]⟩ := by decide
  have n3 : (⟨#[99]⟩ : ByteArray) ≠ ⟨#[120]⟩ := by decide
  simp [steps_cons, steps_nil, lcs_cons, lcs_nil, lcs_nil2, n1, n2, n3]
theorem awake_pcs : pcs [⟨#[97]⟩, ⟨#[98]⟩, ⟨#[99]⟩] [⟨#[97]⟩, ⟨#[120]⟩, ⟨#[99]⟩] 0 = [⟨1, [⟨#[98]⟩], [⟨#[120]⟩]⟩] := by
  unfold pcs
  rw [if_neg (by decide), show lng [(⟨#[97]⟩ : ByteArray), ⟨#[98]⟩, ⟨#[99]⟩] [⟨#[97]⟩, ⟨#[120]⟩, ⟨#[99]⟩] = false by decide, awake_steps]
  rfl
theorem awake_per : per [⟨#[97]⟩, ⟨#[98]⟩, ⟨#[99]⟩] [⟨#[97]⟩, ⟨#[120]⟩, ⟨#[99]⟩] 0 = 0 := by decide
end Go.Proofs.Ytoncghamkedhcaa.Kd

namespace Go.Proofs.Ytoncghamkedhcaa.Kd
open Go.ChangeShapes Go.WideShapes Go.RowKit Tx Um Ud Aq Km
set_option linter.unusedVariables false
theorem arg_cap {H : Type} {enc : TypeId × Value → H} {w : World} {base : Nat} {spare : Nat → Bool} {held : Bool} {A : Option Addr} {n c : Nat} {d : DataW H} {p : List MemPlace} (h : DataW.Trod enc Try.prog w base spare held 22 (.slice A n c) d p) : n ≤ c := by
  obtain ⟨fuel, hf⟩ := h
  rcases open_strings Try.underlying22 Try.underlying9 (by kernel_rfl) hf with ⟨hcs, _⟩ | ⟨x, len, cap, ss, hcs, _, hl, _⟩
  · simp [Value.cells] at hcs
    obtain ⟨rfl, rfl, rfl⟩ := hcs
    exact Nat.le_refl _
  · simp [Value.cells] at hcs
    obtain ⟨rfl, rfl, rfl⟩ := hcs
    exact hl
theorem str_weights {H : Type} (s : ByteArray) : DataW.weights Try.prog 9 (.lit (.string s.data.toList) : DataW H) = [s.data.toList.length] := by
  rw [DataW.weights]
theorem strs_weights {H : Type} {x : ByteArray} {n : Nat} : ∀ {l : List ByteArray}, x ∈ l → n ∈ DataW.weights Try.prog 9 (.lit (.string x.data.toList) : DataW H) → n ∈ DataW.weightsAll Try.prog 9 (strs (H := H) l)
  | y :: l, hx, hn => by
    have e : strs (H := H) (y :: l) = .lit (.string y.data.toList) :: strs l := rfl
    rw [e, DataW.weightsAll, List.mem_append]
    rcases List.mem_cons.1 hx with rfl | hx
    · exact .inl hn
    · exact .inr (strs_weights hx hn)
def Wid (l : List ByteArray) : Prop := ∀ x, x ∈ l → x.size ≤ 140737488351232
theorem wide_strs {H : Type} {ts : List TypeId} {ds : List (DataW H)} (h : (DataW.weightsEach Try.prog ts ds).all (· ≤ reachBytes) = true) {j : Nat} {l : List ByteArray} {rest : List (DataW H)} (ht : ts[j]? = some 22) (hd : ds[j]? = some (.slice (strs l) rest)) : Wid l := by
  intro x hx
  have hall := List.all_eq_true.1 h
  have hm := DataW.weights_mem_each (P := Try.prog) ht hd x.data.toList.length (by
    rw [DataW.weights, Try.underlying22]
    exact List.mem_cons_of_mem _ (List.mem_append_left _ (strs_weights hx (by rw [str_weights]; simp))))
  have := of_decide_eq_true (hall _ hm)
  rw [Array.length_toList] at this
  exact this
theorem strs_det {w : World} {A : Option Addr} {n : Nat} {l l' : List ByteArray} (h : Strs w A n l) (h' : Strs w A n l') : l = l' := by
  by_cases h0 : n = 0
  · have e1 := h.1
    have e2 := h'.1
    rw [List.length_eq_zero_iff.1 (by omega : l.length = 0), List.length_eq_zero_iff.1 (by omega : l'.length = 0)]
  · obtain ⟨b, o, ha, hb, hc⟩ := h.2.resolve_left h0
    obtain ⟨b', o', ha', hb', hc'⟩ := h'.2.resolve_left h0
    rw [ha] at ha'
    injection ha' with ha'
    injection ha' with e1 e2
    subst e1 e2
    apply List.ext_getElem?
    intro k
    by_cases hk : k < n
    · have h1 := hc k (l[k]'(by rw [h.1]; exact hk)) (List.getElem?_eq_getElem _)
      have h2 := hc' k (l'[k]'(by rw [h'.1]; exact hk)) (List.getElem?_eq_getElem _)
      rw [h1] at h2
      injection h2 with h2
      injection h2 with h2
      rw [List.getElem?_eq_getElem (by rw [h.1]; exact hk), List.getElem?_eq_getElem (by rw [h'.1]; exact hk), h2]
    · rw [List.getElem?_eq_none (by rw [h.1]; omega), List.getElem?_eq_none (by rw [h'.1]; omega)]
theorem arg_wid {H : Type} {enc : TypeId × Value → H} {w : World} {base : Nat} {spare : Nat → Bool} {held : Bool} {A : Option Addr} {n c : Nat} {d : DataW H} {p : List MemPlace} {l : List ByteArray} (h : DataW.Trod enc Try.prog w base spare held 22 (.slice A n c) d p) (hl0 : Strs w A n l)
    {ts : List TypeId} {ds : List (DataW H)} {j : Nat} (hsz : (DataW.weightsEach Try.prog ts ds).all (· ≤ reachBytes) = true) (ht : ts[j]? = some 22) (hj : ds[j]? = some d) : Wid l := by
  obtain ⟨fuel, hf⟩ := h
  rcases open_strings Try.underlying22 Try.underlying9 (by kernel_rfl) hf with ⟨hcs, _⟩ | ⟨x, len, cap, ss, hcs, _, hl, hm, hz, hx, hcell, _⟩
  · simp [Value.cells] at hcs
    obtain ⟨rfl, rfl, rfl⟩ := hcs
    have := hl0.1
    obtain rfl : l = [] := List.length_eq_zero_iff.1 this
    intro x hx
    cases hx
  · simp [Value.cells] at hcs
    obtain ⟨rfl, rfl, rfl⟩ := hcs
    have hz' : n ≤ ss.length := by rw [hz]; split <;> omega
    have hd : d = .slice (strs (ss.take n)) (strs (ss.drop n)) := congrArg Prod.fst hx
    have hlen : (ss.take n).length = n := by rw [List.length_take]; omega
    have hw := wide_strs hsz ht (hj.trans (congrArg some hd))
    have hs : Strs w (some x) n (ss.take n) := by
      refine ⟨hlen, ?_⟩
      by_cases h0 : n = 0
      · exact .inl h0
      · right
        obtain ⟨b, off, spot⟩ := x
        have hc0 := hcell 0 (by omega)
        have hspot : spot = none := by simpa [Addr.add] using World.cell?_spot hc0
        subst hspot
        refine ⟨b, off, rfl, ?_, fun k y hk => ?_⟩
        · have := World.block_lt_of_cell? w _ hc0
          rwa [WideShapes.add_plain] at this
        · have hk2 := (List.getElem?_eq_some_iff.1 hk).1
          rw [hlen] at hk2
          have hk3 := hcell k (by omega)
          rw [WideShapes.add_plain] at hk3
          rw [hk3]
          rw [List.getElem?_take_of_lt hk2] at hk
          rw [List.getD_eq_getElem?_getD, hk]
          rfl
    rw [strs_det hl0 hs]
    exact hw
theorem arg_in {H : Type} {enc : TypeId × Value → H} {w : World} {base : Nat} {spare : Nat → Bool} {held : Bool} {A : Option Addr} {n c : Nat} {d : DataW H} {p : List MemPlace} (h : DataW.Trod enc Try.prog w base spare held 22 (.slice A n c) d p)
    {ts : List TypeId} {ds : List (DataW H)} {j : Nat} (hsz : (DataW.weightsEach Try.prog ts ds).all (· ≤ reachBytes) = true) (ht : ts[j]? = some 22) (hj : ds[j]? = some d) : ∃ l, In w A c l ∧ n = l.length ∧ (n + 1) * 16 ≤ 140737488355328 ∧ Wid l := by
  obtain ⟨l, h1, h2, h3, h4⟩ := arg_list h hsz ht hj
  have hl := h1.1
  refine ⟨l, ⟨?_, by rw [hl]; exact arg_cap h, h2, h4⟩, hl.symm, h3, arg_wid h h1 hsz ht hj⟩
  rw [hl]
  exact h1
end Go.Proofs.Ytoncghamkedhcaa.Kd

namespace Go.Proofs.Ytoncghamkedhcaa.Kd
open Go.RowKit Go.ChangeShapes Go.WideShapes Tx Um Ud Aq Km
set_option linter.unusedVariables false
theorem szs_three (x y z : UInt8) : Szs [⟨#[x]⟩, ⟨#[y]⟩, ⟨#[z]⟩] := by
  intro l hl
  simp only [List.mem_cons, List.not_mem_nil, or_false] at hl
  rcases hl with rfl | rfl | rfl <;> exact (show (1 : Nat) ≤ maxLen by unfold maxLen; omega)
theorem lit_one (w : World) (x : ByteArray) : Strs (w.alloc (.cells #[.string x] 9)) (some ⟨w.heap.size, 0, none⟩) 1 [x] := by
  refine ⟨rfl, .inr ⟨_, 0, rfl, by simp, fun k y hy => ?_⟩⟩
  match k, hy with
  | 0, hy => injection hy with hy; subst hy; go_simp
set_option maxRecDepth 100000 in
set_option maxHeartbeats 1000000 in
theorem awake_any13 (hM : Impl) (w : World) : Calls Try.prog 9 #[] w fun e w' => e = .returned (.bool true) ∧ Below w.heap.size w w' := by
  have c1 := fun W h1 h2 => hM.between (some ⟨w.heap.size, 0, none⟩) (some ⟨w.heap.size + 1, 0, none⟩) 3 3 0 [⟨#[97]⟩, ⟨#[98]⟩, ⟨#[99]⟩] [⟨#[97]⟩, ⟨#[120]⟩, ⟨#[99]⟩] W h1 h2 (by unfold int64; omega)
  rw [awake_pcs, awake_per] at c1
  unfold BetTo at c1
  have k1 : Hid (In ((w.alloc (.cells #[.string ⟨#[97]⟩, .string ⟨#[98]⟩, .string ⟨#[99]⟩] 9)).alloc (.cells #[.string ⟨#[97]⟩, .string ⟨#[120]⟩, .string ⟨#[99]⟩] 9)) (some ⟨w.heap.size, 0, none⟩) 3 [⟨#[97]⟩, ⟨#[98]⟩, ⟨#[99]⟩]) := by
    refine ⟨⟨rfl, .inr ⟨_, 0, rfl, by simp <;> omega, fun k x hx => ?_⟩⟩, Nat.le_refl _, (fun h => by cases h), szs_three _ _ _⟩
    match k, hx with
    | 0, hx => injection hx with hx; subst hx; go_simp
    | 1, hx => injection hx with hx; subst hx; go_simp
    | 2, hx => injection hx with hx; subst hx; go_simp
  have k2 : Hid (In ((w.alloc (.cells #[.string ⟨#[97]⟩, .string ⟨#[98]⟩, .string ⟨#[99]⟩] 9)).alloc (.cells #[.string ⟨#[97]⟩, .string ⟨#[120]⟩, .string ⟨#[99]⟩] 9)) (some ⟨w.heap.size + 1, 0, none⟩) 3 [⟨#[97]⟩, ⟨#[120]⟩, ⟨#[99]⟩]) := by
    refine ⟨⟨rfl, .inr ⟨_, 0, rfl, by simp <;> omega, fun k x hx => ?_⟩⟩, Nat.le_refl _, (fun h => by cases h), szs_three _ _ _⟩
    match k, hx with
    | 0, hx => injection hx with hx; subst hx; go_simp
    | 1, hx => injection hx with hx; subst hx; go_simp
    | 2, hx => injection hx with hx; subst hx; go_simp
  have hB : Below w.heap.size w ((w.alloc (.cells #[.string ⟨#[97]⟩, .string ⟨#[98]⟩, .string ⟨#[99]⟩] 9)).alloc (.cells #[.string ⟨#[97]⟩, .string ⟨#[120]⟩, .string ⟨#[99]⟩] 9)) := ((Below.refl _ w).alloc (Nat.le_refl _) _).alloc (by simp) _
  have cB := Lib.hid (c1 _ k1.out k2.out)
  clear c1
  go_enter Try.func9, Try.ntmps9
  go_wp2_with fail
  go_at_call 7
  refine cB.out.mono ?_
  rintro e w1 ⟨v, cs, rfl, hu, hi, _, hb1⟩
  obtain ⟨va, vc, rfl, hz⟩ := hu.form hi
  have hB1 := below_call hB hb1
  obtain ⟨gb, go, rfl, hgl, hc⟩ := hz.2.resolve_left (by simp)
  obtain ⟨uo, un, a0, a1, a2, ⟨A1, c1, rfl, s1, _⟩, ⟨A2, c2, rfl, s2, _⟩⟩ := hc 0 _ rfl
  simp only [Nat.zero_mul, Nat.add_zero] at a0 a1 a2
  simp only [List.length_cons, List.length_nil, Nat.zero_add] at a1 a2 s1 s2
  have hgl1 : gb < w1.heap.size := hgl
  have q1 := same_any A1 (some ⟨w1.heap.size, 0, none⟩) c1 1 [⟨#[98]⟩] [⟨#[98]⟩] (w1.alloc (.cells #[.string ⟨#[98]⟩] 9)) (s1.below ((Below.refl _ w1).alloc (Nat.le_refl _) _)) (lit_one w1 _) (by simp) (by simp)
  have q2 := fun w2 (hb : Below w1.heap.size w1 w2) => same_any A2 (some ⟨w2.heap.size, 0, none⟩) c2 1 [⟨#[120]⟩] [⟨#[120]⟩] (w2.alloc (.cells #[.string ⟨#[120]⟩] 9)) ((s2.below hb).below ((Below.refl _ w2).alloc (Nat.le_refl _) _)) (lit_one w2 _) (by simp) (by simp)
  have Q1 := Lib.hid q1
  have Q2 := Lib.hid q2
  have ha1 : Below w1.heap.size w1 (w1.alloc (.cells #[.string ⟨#[98]⟩] 9)) := (Below.refl _ w1).alloc (Nat.le_refl _) _
  clear hu hi hz hc cB k1 k2 q1 q2 hb1 hB s1 s2
  go_wp2_with fail
  go_at_call 11
  refine Q1.out.mono ?_
  rintro e w2 ⟨b1, hb1, rfl, hb2⟩
  obtain rfl : b1 = true := hb1.2 rfl
  have hb12 : Below w1.heap.size w1 w2 := ha1.trans (hb2.mono ha1.size)
  have a2' := (hb12.cell (p := ⟨gb, _, none⟩) hgl1).trans a2
  have HB2 := Lib.hid (below_call hB1 hb12)
  have Q3 := Lib.hid (Q2.out w2 hb12)
  have hal2 : Below w2.heap.size w2 (w2.alloc (.cells #[.string ⟨#[120]⟩] 9)) := (Below.refl _ w2).alloc (Nat.le_refl _) _
  clear hb1 hb2 ha1 Q1 Q2 a0 a1 a2 hb12
  go_wp2_with fail
  go_at_call 11
  refine Q3.out.mono ?_
  rintro e w3 ⟨b2, hb2, rfl, hb3⟩
  obtain rfl : b2 = true := hb2.2 rfl
  have hE : Below w.heap.size w w3 := below_call HB2.out (hal2.trans (hb3.mono hal2.size))
  clear hb2 hb3 hal2 Q3
  go_wp2_with fail
  go_ret
  exact ⟨rfl, hE⟩
end Go.Proofs.Ytoncghamkedhcaa.Kd

namespace Go.Proofs.Ytoncghamkedhcaa.Kd
open Go.RowKit Go.ChangeShapes Go.WideShapes Tx Um Ud Aq Km
set_option linter.unusedVariables false
def LoTo (l : List ByteArray) (w : World) (e : Ending) (w' : World) : Prop := ∃ v, e = .returned v ∧ Lo w' w.heap.size v l ∧ Below w.heap.size w w'
theorem first_below {w w1 : World} {o : Obj} (h : (w.alloc o).grownBy w1 (Value.slice (some ⟨w.heap.size, 0, none⟩) 0 0).ownBlock) : Below w.heap.size w w1 :=
  ((Below.refl _ w).alloc (Nat.le_refl _) o).grown h (by simp) (fun k hk => by simp [Value.ownBlock] at hk; omega)
set_option maxRecDepth 100000 in
set_option maxHeartbeats 1000000 in
theorem kclone_any (A : Option Addr) (n c : Nat) (l : List ByteArray) (w : World) (hs : Strs w A n l) (hnil : A = none → c = 0) (hn : n ≤ 8796093022207) :
    Calls Try.prog 18 #[.slice A n c] w (LoTo l w) := by
  have q22 : ∀ (w : World) (a : Option Addr) (n c n' c' : Nat), (binOp .eql 22 (.slice a n c) (.slice none n' c')).run Try.prog w = .ok (.bool a.isNone) w := fun w a n c n' c' => Lib.run_eql_slice_nil w _ _ a n c n' c' Try.underlying22
  cases A with
  | none =>
    have h0 : n = 0 := by
      rcases hs.2 with h | ⟨_, _, h, _⟩
      · exact h
      · cases h
    subst h0
    obtain rfl := hnil rfl
    obtain rfl : l = [] := List.length_eq_zero_iff.1 hs.1
    clear hs hnil
    go_enter Try.func18, Try.ntmps18
    go_wp2_with fail
    go_ret
    exact ⟨_, rfl, World.ownsRow_nil _ _ _ _, Below.refl _ _⟩
  | some ad =>
    have hown : Lo (w.alloc (.cells #[] 9)) w.heap.size (.slice (some ⟨w.heap.size, 0, none⟩) 0 0) [] := made0 w
    have hs1 := hs.below ((Below.refl _ w).alloc (Nat.le_refl _) (.cells #[] 9))
    have hsz : w.heap.size ≤ (w.alloc (.cells #[] 9)).heap.size := by simp
    have HS := Lib.hid hs1
    clear hs hs1 hnil
    go_enter Try.func18, Try.ntmps18
    go_wp2_with (at_builtin; refine wp_append_any rfl _ _ rfl w.heap.size rfl hown rfl HS.out (fun e => by cases e) (by show (0 + _) * 16 ≤ _; omega) hsz ?_)
    intro v1 w1 ho1 hg1
    have hb1 := first_below hg1
    clear hown hg1
    go_wp2_with fail
    go_ret
    exact ⟨_, rfl, ho1, hb1⟩
set_option maxRecDepth 100000 in
set_option maxHeartbeats 1000000 in
theorem kequal_any (A B : Option Addr) (ca cb n : Nat) (a l : List ByteArray) (w : World) (hA : Strs w A n a) (hB : Strs w B n l) (hn : n ≤ 4611686018427387903) :
    Calls Try.prog 34 #[.slice A n ca, .slice B n cb] w fun e w' => e = .returned (.bool (decide (a = l))) ∧ Below w.heap.size w w' := by
  have hla := hA.1
  have hlb := hB.1
  have HA : Hid (Strs w A a.length a) := by show Strs _ _ _ _; rw [hla]; exact hA
  have HB : Hid (Strs w B l.length l) := by show Strs _ _ _ _; rw [hlb]; exact hB
  have HLA := Lib.hid hla
  have HLB := Lib.hid hlb
  have e0 : ((n : Int) == (n : Int)) = true := beq_self_eq_true _
  clear hA hB hla hlb
  go_enter Try.func34, Try.ntmps34
  go_wp2_with fail
  go_loopw [13] (fun i wr => ∃ k : Nat, k ≤ n ∧ i = .int .i64 k ∧ Hid (∀ j, (hj : j < k) → a[j]? = l[j]?) ∧ Below w.heap.size w wr) (fun i _ => n - (intOf i).toNat)
  case atStart => exact ⟨0, Nat.zero_le _, rfl, fun j hj => by omega, Below.refl _ _⟩
  case round =>
    obtain ⟨k, hk, rfl, HT, hW⟩ := hrel
    by_cases hlt : k < n
    · have hka : k < a.length := by rw [HLA.out]; exact hlt
      have hkb : k < l.length := by rw [HLB.out]; exact hlt
      obtain ⟨ba, oa, rfl, c1⟩ := strs_cell HA.out hka hW
      obtain ⟨bb, ob, rfl, c2⟩ := strs_cell HB.out hkb hW
      obtain ⟨S, hS⟩ : ∃ S, S = a[k] := ⟨_, rfl⟩
      obtain ⟨T, hT0⟩ : ∃ T, T = l[k] := ⟨_, rfl⟩
      rw [← hS] at c1
      rw [← hT0] at c2
      have hlt1 : (k : Int) < (n : Int) := by omega
      by_cases he : S = T
      · have e2 : (S.toList == T.toList) = true := by rw [he]; exact beq_self_eq_true _
        have HNX : Hid (∀ j, (hj : j < k + 1) → a[j]? = l[j]?) := fun j hj => by
          by_cases e : j = k
          · subst e
            rw [List.getElem?_eq_getElem hka, List.getElem?_eq_getElem hkb, ← hS, ← hT0, he]
          · exact HT.out j (by omega)
        clear hS hT0 he HT hka hkb
        go_wp2_with fail
        go_quiet (fail)
        go_wp2_with fail
        go_roundw
        case rel => exact ⟨k + 1, by omega, by go_num, HNX, below_drewN hW _⟩
        case measure => simp [intOf]; omega
      · have e2 : (S.toList == T.toList) = false := bytes_ne he
        have HE : Hid (decide (a = l) = false) := by
          show _ = _
          apply decide_eq_false
          intro e
          subst e
          exact he (hS.trans hT0.symm)
        clear hS hT0 he HT hka hkb
        go_wp2_with fail
        go_quiet (fail)
        go_wp2_with fail
        go_ret
        exact ⟨by rw [HE.out]; rfl, below_drewN hW _⟩
    · have hkn : k = n := by omega
      have HE : Hid (decide (a = l) = true) := by
        show _ = _
        apply decide_eq_true
        apply List.ext_getElem?
        intro j
        by_cases hj : j < n
        · exact HT.out j (by omega)
        · rw [List.getElem?_eq_none (by rw [HLA.out]; omega), List.getElem?_eq_none (by rw [HLB.out]; omega)]
      clear HT hkn
      go_wp2_with fail
      go_ret
      exact ⟨by rw [HE.out]; rfl, hW⟩
theorem slice_to (A : Option Addr) (n c hi : Nat) (h2 : hi ≤ c) (W : World) : (Instr.slice 22 (.slice A n c) none (some (.int .i64 (hi : Int))) none).run Try.prog W = .ok (sliced A 0 hi c 1) W := by
  rw [run_slice_h W 22 A n c (by kernel_rfl) .i64 (hi : Int) (by omega) (by omega), Int.toNat_natCast]
  have e : (sizeOf (Try.prog.elem 22)).run Try.prog W = .ok 1 W := by kernel_rfl
  rw [e]
  rfl
theorem slice_from (A : Option Addr) (n c lo : Nat) (h2 : lo ≤ n) (W : World) : (Instr.slice 22 (.slice A n c) (some (.int .i64 (lo : Int))) none none).run Try.prog W = .ok (sliced A lo n c 1) W := by
  rw [run_slice_l W 22 A n c (by kernel_rfl) .i64 (lo : Int) (by omega) (by omega), Int.toNat_natCast]
  have e : (sizeOf (Try.prog.elem 22)).run Try.prog W = .ok 1 W := by kernel_rfl
  rw [e]
  rfl
theorem rd_room {w : World} {A : Option Addr} {c lo hi : Nat} {l : List ByteArray} (h : Strs w A l.length l) (h1 : lo ≤ hi) (h2 : hi ≤ l.length) (hc : l.length ≤ c) (hnil : A = none → c = 0) :
    ∃ A', sliced A lo hi c 1 = .slice A' (hi - lo) (c - lo) ∧ Strs w A' (hi - lo) ((l.take hi).drop lo) ∧ (A' = none → c - lo = 0) := by
  obtain ⟨A', c', e, h3, h4⟩ := rd_sub h h1 h2 hc hnil
  have hl : ((l.take hi).drop lo).length = hi - lo := by rw [List.length_drop, List.length_take]; omega
  rw [hl] at h3
  have e2 := e
  unfold sliced at e2
  injection e2 with e3 e4 e5
  refine ⟨A', by rw [e, hl, e5], h3, fun hz => ?_⟩
  rw [e5]
  exact h4 hz
set_option maxRecDepth 100000 in
set_option maxHeartbeats 1000000 in
theorem begins_any (A B : Option Addr) (ca cb : Nat) (a l : List ByteArray) (w : World) (hA : Strs w A a.length a) (hB : Strs w B l.length l) (hac : a.length ≤ ca) (hna : A = none → ca = 0) (ha : a.length ≤ 4611686018427387903) (hl : l.length ≤ 4611686018427387903) :
    Calls Try.prog 31 #[.slice A a.length ca, .slice B l.length cb] w fun e w' => e = .returned (.bool (stands a 0 l)) ∧ Below w.heap.size w w' := by
  by_cases h1 : a.length < l.length
  · have HS := Lib.hid (stands_long (a := a) (l := l) (p := 0) (by omega))
    obtain ⟨m, hm⟩ : ∃ m, m = a.length := ⟨_, rfl⟩
    obtain ⟨n, hn⟩ : ∃ n, n = l.length := ⟨_, rfl⟩
    rw [← hm] at h1 ⊢
    rw [← hn] at h1 ⊢
    have e1 : decide ((n : Int) ≤ (m : Int)) = false := decide_eq_false (by omega)
    have e2 : ¬ (n : Int) ≤ (m : Int) := by omega
    clear hm hn hA hB hac ha hl
    go_enter Try.func31, Try.ntmps31
    go_wp2_with fail
    go_ret
    exact ⟨by rw [HS.out]; rfl, Below.refl _ _⟩
  · obtain ⟨A1, c1, hsl, hs1, _⟩ := rd_sub hA (lo := 0) (hi := l.length) (Nat.zero_le _) (by omega) hac hna
    rw [List.drop_zero, show (a.take l.length).length = l.length by rw [List.length_take]; omega] at hsl
    rw [List.drop_zero, show (a.take l.length).length = l.length by rw [List.length_take]; omega] at hs1
    have cE := kequal_any A1 B c1 cb l.length (a.take l.length) l w hs1 hB hl
    have hst : stands a 0 l = decide (a.take l.length = l) := by unfold stands; rw [List.drop_zero]
    rw [← hst] at cE
    have S1 := slice_to A a.length ca l.length (by omega)
    rw [hsl] at S1
    obtain ⟨m, hm⟩ : ∃ m, m = a.length := ⟨_, rfl⟩
    obtain ⟨n, hn⟩ : ∃ n, n = l.length := ⟨_, rfl⟩
    rw [← hm] at h1 S1 ha hac ⊢
    rw [← hn] at h1 S1 hl cE ⊢
    have e1 : decide ((n : Int) ≤ (m : Int)) = true := decide_eq_true (by omega)
    have e2 : (n : Int) ≤ (m : Int) := by omega
    have CE := Lib.hid cE
    clear hm hn hA hB hst cE hs1 hsl
    go_enter Try.func31, Try.ntmps31
    go_wp2_with fail
    go_at_call 34
    refine CE.out.mono ?_
    rintro e w1 ⟨rfl, hb1⟩
    go_wp2_with fail
    go_ret
    exact ⟨rfl, hb1⟩
end Go.Proofs.Ytoncghamkedhcaa.Kd

namespace Go.Proofs.Ytoncghamkedhcaa.Rg
open Go.RowKit
set_option linter.unusedVariables false
section
variable {P : Program} {S : World → Prop}
theorem y_sl1 {o : Oper} {a : Act} {T : TypeId} {x l : Operand} {vx vl v : Value} (ho : o.op = .slice T x (some l) none none) (hx : a.eval x = vx) (hl : a.eval l = vl)
    (hv : ∀ w, S w → (Instr.sliceAt T vx (some vl) none none).run P w = .ok v w) : ∀ w, S w → (execOp a.eval o).run P w = .ok (.value v) w := by
  intro w hw
  obtain ⟨dst, op, ty, pos, after, guard⟩ := o
  simp only at ho
  subst ho
  have := hv w hw
  simp only [execOp, hx, hl, Option.map_some, Option.map_none, Sem.run_bind]
  rw [this]
  rfl
end
end Go.Proofs.Ytoncghamkedhcaa.Rg
namespace Go.Proofs.Ytoncghamkedhcaa.Kd
open Go.RowKit Tx
set_option linter.unusedVariables false
def AtOld (ph q : Nat) (uo : Value) (W : World) : Prop := W.cell? ⟨ph, 0, none⟩ = some (.int .i64 (q : Int)) ∧ W.cell? ⟨ph, 1, none⟩ = some uo
set_option maxRecDepth 100000 in
set_option maxHeartbeats 4000000 in
theorem checkReg (ops : Array Oper) (hops : ops = (Rg.opsOf Try.f22 7)) (id : Nat) (ph q m ca m' ca' n1 c1 : Nat) (A A' A1 : Option Addr) (b : Bool) {u1 u2 u3 u4 u5 u6 u8 u9 u10 u11 u12 u13 u14 u15 u16 u17 u18 u19 u20 u21 u22 u23 u24 u25 u26 u27 u28 u29 u30 u31 u32 u33 u34 u35 u36 u37 u38 u39 : Value} (w : World) (X : World → Prop)
    (hX : ∀ W, X W → AtOld ph q (.slice A1 n1 c1) W) (hw : X w.drew)
    (S1 : ∀ W : World, (Instr.slice 22 (.slice A m ca) (some (.int .i64 (q : Int))) none none).run Try.prog W = .ok (.slice A' m' ca') W)
    (hC : ∀ W, X W → Calls Try.prog 31 #[.slice A' m' ca', .slice A1 n1 c1] W fun e w' => e = .returned (.bool b) ∧ X w') :
    (Code.region id ops true).wp Try.prog (Rg.Only fun a' w' => a' = ⟨#[(.slice A m ca), u1, u2, u3, u4, u5, u6, (.pointer (some ⟨ph, 0, none⟩)), u8, u9, u10, u11, u12, u13, u14, u15, u16, u17, u18, u19, u20, u21, u22, u23, u24, (.slice A m ca), (.pointer (some ⟨ph, 0, none⟩)), (.int .i64 (q : Int)), (.slice A' m' ca'), (.pointer (some ⟨ph, 1, none⟩)), (.slice A1 n1 c1), (.bool b), (.bool (!b)), u33, u34, u35, u36, u37, u38, u39], []⟩ ∧ X w') ⟨#[(.slice A m ca), u1, u2, u3, u4, u5, u6, (.pointer (some ⟨ph, 0, none⟩)), u8, u9, u10, u11, u12, u13, u14, u15, u16, u17, u18, u19, u20, u21, u22, u23, u24, u25, u26, u27, u28, u29, u30, u31, u32, u33, u34, u35, u36, u37, u38, u39], []⟩ w := by
  subst hops
  have hNS : Region.noSelect (Rg.opsOf Try.f22 7) = true := by kernel_rfl
  refine wp_region_held_drew (S := X) (by kernel_rfl) hw (fun hHeld => ?_)
  rw [show (Rg.opsOf Try.f22 7).size = 8 by kernel_rfl]
  refine Rg.take (ops := (Rg.opsOf Try.f22 7)) 0 (some 25) ((.slice A m ca)) hNS (by kernel_rfl) (by kernel_rfl) (by kernel_rfl) (by kernel_rfl) (by kernel_rfl) hHeld (Rg.y_move (x := (Operand.tmp 0)) (Or.inl (by kernel_rfl)) (by kernel_rfl)) ?_
  refine Rg.take (ops := (Rg.opsOf Try.f22 7)) 1 (some 26) ((.pointer (some ⟨ph, 0, none⟩))) hNS (by kernel_rfl) (by kernel_rfl) (by kernel_rfl) (by kernel_rfl) (by kernel_rfl) hHeld (Rg.y_field (T := 33) (k := 0) (x := (Operand.tmp 7)) (vx := (.pointer (some ⟨ph, 0, none⟩))) (by kernel_rfl) (by kernel_rfl) ?_) ?_
  · (intro W hSw; clear hSw hHeld; go_simp)
  refine Rg.take (ops := (Rg.opsOf Try.f22 7)) 2 (some 27) ((.int .i64 (q : Int))) hNS (by kernel_rfl) (by kernel_rfl) (by kernel_rfl) (by kernel_rfl) (by kernel_rfl) hHeld (Rg.y_load (T := 3) (x := (Operand.tmp 26)) (vx := (.pointer (some ⟨ph, 0, none⟩))) (by kernel_rfl) (by kernel_rfl) ?_) ?_
  · (intro W hSw; obtain ⟨s0, s1⟩ := hX _ hSw; clear hSw hHeld; go_simp)
  refine Rg.take (ops := (Rg.opsOf Try.f22 7)) 3 (some 28) ((.slice A' m' ca')) hNS (by kernel_rfl) (by kernel_rfl) (by kernel_rfl) (by kernel_rfl) (by kernel_rfl) hHeld (Rg.y_sl1 (T := 22) (x := (Operand.tmp 25)) (l := (Operand.tmp 27)) (vx := (.slice A m ca)) (vl := (.int .i64 (q : Int))) (by kernel_rfl) (by kernel_rfl) (by kernel_rfl) ?_) ?_
  · (intro W hSw; clear hSw hHeld; rw [run_sliceAt_slice _ _ _ _ _ _ (by kernel_rfl)]; exact S1 W)
  refine Rg.take (ops := (Rg.opsOf Try.f22 7)) 4 (some 29) ((.pointer (some ⟨ph, 1, none⟩))) hNS (by kernel_rfl) (by kernel_rfl) (by kernel_rfl) (by kernel_rfl) (by kernel_rfl) hHeld (Rg.y_field (T := 33) (k := 1) (x := (Operand.tmp 7)) (vx := (.pointer (some ⟨ph, 0, none⟩))) (by kernel_rfl) (by kernel_rfl) ?_) ?_
  · (intro W hSw; clear hSw hHeld; go_simp)
  refine Rg.take (ops := (Rg.opsOf Try.f22 7)) 5 (some 30) ((.slice A1 n1 c1)) hNS (by kernel_rfl) (by kernel_rfl) (by kernel_rfl) (by kernel_rfl) (by kernel_rfl) hHeld (Rg.y_load (T := 22) (x := (Operand.tmp 29)) (vx := (.pointer (some ⟨ph, 1, none⟩))) (by kernel_rfl) (by kernel_rfl) ?_) ?_
  · (intro W hSw; obtain ⟨s0, s1⟩ := hX _ hSw; clear hSw hHeld; go_simp)
  refine Rg.call (ops := (Rg.opsOf Try.f22 7)) (fn := Try.f31) (xs := #[Operand.tmp 28, Operand.tmp 30]) (ats := #[22, 22]) 6 (some 31) 31 #[(.slice A' m' ca'), (.slice A1 n1 c1)] (by kernel_rfl) (by kernel_rfl) (by kernel_rfl) (by kernel_rfl) (by kernel_rfl) Try.func31 (by kernel_rfl) (by kernel_rfl) (by kernel_rfl) ?_
  refine (hC _ hHeld).mono ?_
  rintro e w5 ⟨rfl, h5⟩
  refine ⟨_, rfl, h5, fun hHeld => ?_⟩
  refine Rg.take (ops := (Rg.opsOf Try.f22 7)) 7 (some 32) ((.bool (!b))) hNS (by kernel_rfl) (by kernel_rfl) (by kernel_rfl) (by kernel_rfl) (by kernel_rfl) hHeld (Rg.y_un (b := UnOp.not) (T := 4) (x := (Operand.tmp 31)) (vx := (.bool b)) (by kernel_rfl) (by kernel_rfl) ?_) ?_
  · (intro W hSw; clear hSw hHeld; cases b <;> rfl)
  refine Rg.done (ops := (Rg.opsOf Try.f22 7)) (by kernel_rfl) ?_
  exact ⟨by kernel_rfl, hHeld⟩
end Go.Proofs.Ytoncghamkedhcaa.Kd

namespace Go.Proofs.Ytoncghamkedhcaa.Kd
open Go.RowKit Go.ChangeShapes Go.WideShapes Tx Um Ud Aq Km
set_option linter.unusedVariables false
theorem stands_drop (a l : List ByteArray) (p : Nat) : stands (a.drop p) 0 l = stands a p l := by
  unfold stands
  rw [List.drop_zero]
def ErrTo (n : Nat) (w : World) (e : Ending) (w' : World) : Prop := e = .returned (.int .i64 (n : Int)) ∧ Below w.heap.size w w'
set_option maxRecDepth 100000 in
set_option maxHeartbeats 4000000 in
theorem check_any (A C : Option Addr) (ca cc : Nat) (a : List ByteArray) (hs : List (Hz ByteArray)) (w : World) (hA : Strs w A a.length a) (hac : a.length ≤ ca) (hna : A = none → ca = 0) (hC : HzR w C hs.length hs) (ha : a.length ≤ 4611686018427387903) (hO : ∀ h, h ∈ hs → h.old.length ≤ 4611686018427387903) (hhl : hs.length ≤ 4611686018427387903) :
    Calls Try.prog 22 #[.slice A a.length ca, .slice C hs.length cc] w (ErrTo (ap a 0 hs).2 w) := by
  have HA := Lib.hid hA
  have HC := Lib.hid hC
  have HO := Lib.hid hO
  have HST := Lib.hid (av_start a hs)
  have HNA := Lib.hid hna
  obtain ⟨m, hm⟩ : ∃ m, m = a.length := ⟨_, rfl⟩
  obtain ⟨L, hL⟩ : ∃ L, L = hs.length := ⟨_, rfl⟩
  rw [← hm] at ha hac ⊢
  rw [← hL] at hhl ⊢
  have HM := Lib.hid hm
  have HL := Lib.hid hL
  clear hA hC hO hm hL hna
  go_enter Try.func22, Try.ntmps22
  go_wp2_with fail
  go_loopw [5, 7, 10] (fun at_ _ i wr => ∃ (k p : Nat) (pre : List ByteArray), i = .int .i64 (k : Int) ∧ at_ = .int .i64 (p : Int) ∧ k ≤ L ∧ p ≤ m ∧ Hid (Av a hs k p pre) ∧ Hid (Below w.heap.size w wr)) (fun _ _ i _ => L - (intOf i).toNat)
  case atStart => exact ⟨0, 0, [], rfl, rfl, Nat.zero_le _, Nat.zero_le _, HST, Below.refl _ _⟩
  case round =>
    obtain ⟨k, p, pre, rfl, rfl, hk, hp, HV, HB⟩ := hrel
    clear HST
    by_cases hlt : k < L
    · have e1 : (k : Int) < (L : Int) := by omega
      obtain ⟨h, hh⟩ : ∃ h, hs[k]? = some h := ⟨_, List.getElem?_eq_getElem (by rw [← HL.out]; exact hlt)⟩
      have hol := HO.out h (List.mem_iff_getElem?.2 ⟨k, hh⟩)
      obtain ⟨bc, oc, rfl, hbc, hcc⟩ := HC.out.2.resolve_left (by rw [← HL.out]; omega)
      obtain ⟨uo, un, b0, b1, b2, ⟨A1, c1, rfl, s1, hn1⟩, ⟨A2, c2, rfl, s2, hn2⟩⟩ := hcc k h hh
      have d0 := (HB.out.cell (p := ⟨bc, _, none⟩) hbc).trans b0
      have d1 := (HB.out.cell (p := ⟨bc, _, none⟩) hbc).trans b1
      have d2 := (HB.out.cell (p := ⟨bc, _, none⟩) hbc).trans b2
      have S1 := Lib.hid s1
      have HH := Lib.hid hh
      obtain ⟨n1, hn1'⟩ : ∃ n1, n1 = h.old.length := ⟨_, rfl⟩
      obtain ⟨n2, hn2'⟩ : ∃ n2, n2 = h.new.length := ⟨_, rfl⟩
      rw [← hn1'] at d1 hol
      rw [← hn2'] at d2
      have HN1' := Lib.hid hn1'
      have hszr := HB.out.size
      obtain ⟨AT, hAT⟩ : ∃ AT, AT = h.at_ := ⟨_, rfl⟩
      rw [← hAT] at d0
      have HAT := Lib.hid hAT
      have hal : Below w.heap.size w (wr.alloc (.cells #[.int .i64 AT, .slice A1 n1 c1, .slice A2 n2 c2] 33)) := HB.out.alloc HB.out.size _
      have hhb : Hb (wr.alloc (.cells #[.int .i64 AT, .slice A1 n1 c1, .slice A2 n2 c2] 33)) wr.heap.size AT (.slice A1 n1 c1) (.slice A2 n2 c2) := heap_alloc_new _ _
      clear hcc b0 b1 b2 s1 s2 hn1 hn2 hn1' hn2' hh hAT
      by_cases hf : AT < p ∨ (m : Int) < AT
      · have hE : Hid (ErrTo (ap a 0 hs).2 w (.returned (.int .i64 3)) (wr.alloc (.cells #[.int .i64 AT, .slice A1 n1 c1, .slice A2 n2 c2] 33))) := by
          show ErrTo _ _ _ _
          rw [av_form HV.out HH.out (by rw [← HAT.out, ← HM.out]; exact hf)]
          exact ⟨rfl, hal⟩
        clear hhb hal
        by_cases hf1 : AT < p
        · have f1 : AT < (p : Int) := hf1
          clear hf
          go_wp2_with fail
          go_ret
          exact hE.out
        · have f1 : ¬ AT < (p : Int) := hf1
          have f2 : (m : Int) < AT := by omega
          clear hf
          go_wp2_with fail
          go_ret
          exact hE.out
      · obtain ⟨q, hq⟩ : ∃ q : Nat, AT = (q : Int) := ⟨AT.toNat, by omega⟩
        have hnf : ¬ (h.at_ < (p : Int) ∨ (a.length : Int) < h.at_) := by rw [← HAT.out, ← HM.out]; exact hf
        have hqn : h.at_.toNat = q := by rw [← HAT.out]; omega
        have hqm : q ≤ m := by omega
        have f1 : ¬ (q : Int) < (p : Int) := by omega
        have f2 : ¬ (m : Int) < (q : Int) := by omega
        have hal0 : Below wr.heap.size wr (wr.alloc (.cells #[.int .i64 AT, .slice A1 n1 c1, .slice A2 n2 c2] 33)) := (Below.refl _ wr).alloc (Nat.le_refl _) _
        subst hq
        obtain ⟨A', hsl, hsA, hnA'⟩ := rd_room HA.out (c := ca) (lo := q) (hi := a.length) (by rw [← HM.out]; exact hqm) (Nat.le_refl _) (by rw [← HM.out]; exact hac) HNA.out
        rw [List.take_length, ← HM.out] at hsA
        rw [← HM.out] at hsl
        have SL := slice_from A m ca q hqm
        rw [hsl] at SL
        have hdl : (a.drop q).length = m - q := by rw [List.length_drop, HM.out]
        have cB := fun (W : World) (hb : Below w.heap.size w W) => begins_any A' A1 (ca - q) c1 (a.drop q) h.old W (by rw [hdl]; exact hsA.below hb) (S1.out.below hb) (by rw [hdl]; omega) hnA' (by rw [hdl]; omega) (by rw [← HN1'.out]; exact hol)
        rw [stands_drop, hdl, ← HN1'.out] at cB
        obtain ⟨bs, hbs⟩ : ∃ bs, bs = stands a q h.old := ⟨_, rfl⟩
        rw [← hbs] at cB
        have CB := Lib.hid cB
        have HBS := Lib.hid hbs
        have HHB := Lib.hid hhb
        have HX : Hid (∀ W, Below (wr.heap.size + 1) (wr.alloc (.cells #[.int .i64 (q : Int), .slice A1 n1 c1, .slice A2 n2 c2] 33)) W → AtOld wr.heap.size q (.slice A1 n1 c1) W) := fun W hb => by
          obtain ⟨g0, g1, g2⟩ := (HHB.out.kept (hb.block _ (Nat.lt_succ_self _))).cell
          exact ⟨g0, g1⟩
        have HNF := Lib.hid hnf
        have HQN := Lib.hid hqn
        have HAL := Lib.hid hal
        clear hsA hnA' hdl cB hbs hhb hal hsl hnf hqn
        go_wp2_with fail
        have hsz1 : (wr.alloc (.cells #[.int .i64 (q : Int), .slice A1 n1 c1, .slice A2 n2 c2] 33)).heap.size = wr.heap.size + 1 := by simp
        refine Rg.wp_only ?_ (checkReg _ (by kernel_rfl) _ wr.heap.size q m ca (m - q) (ca - q) n1 c1 A A' A1 bs _ (Below (wr.heap.size + 1) (wr.alloc (.cells #[.int .i64 (q : Int), .slice A1 n1 c1, .slice A2 n2 c2] 33))) HX.out (Below.refl _ _).drew SL (fun W hb => (CB.out W (HAL.out.trans (hb.mono (by omega)))).mono fun e w' h => ⟨h.1, hb.trans (h.2.mono (by have := hb.size; omega))⟩))
        rintro _ w9 ⟨rfl, h9⟩
        have H9 : Hid (Below w.heap.size w w9) := HAL.out.trans (h9.mono (by omega))
        have HHB9 := Lib.hid (HHB.out.kept (h9.block _ (Nat.lt_succ_self _)))
        obtain ⟨g0, g1, g2⟩ := HHB9.out.cell
        clear h9 CB HX SL HHB HAL hal0
        cases bs
        · have hst : stands a q h.old = false := HBS.out.symm
          have hE : Hid (ErrTo (ap a 0 hs).2 w (.returned (.int .i64 11)) w9) := by
            show ErrTo _ _ _ _
            rw [av_none HV.out HH.out HNF.out (by rw [HQN.out]; exact hst)]
            exact ⟨rfl, H9.out⟩
          clear hst
          go_wp2_with fail
          go_ret
          exact hE.out
        · have hst : stands a q h.old = true := HBS.out.symm
          have hon := stands_len hst
          rw [← HM.out, ← HN1'.out] at hon
          have HNX : Hid (Av a hs (k + 1) (q + h.old.length) (pre ++ (a.take q).drop p ++ h.new)) := by
            have := av_next HV.out HH.out HNF.out (by rw [HQN.out]; exact hst)
            rw [HQN.out] at this
            exact this
          rw [← HN1'.out] at HNX
          have hsum : IntKind.i64.wrap ((q : Int) + (n1 : Int)) = (q : Int) + (n1 : Int) := IntWalk.i64_in _ (by omega)
          clear hst
          go_wp2_with fail
          go_roundw
          case rel => exact ⟨k + 1, q + n1, _, by go_num, by go_num, by omega, by omega, HNX, H9⟩
          case measure => simp only [intOf]; omega
    · have hkL : k = L := by omega
      have e1 : ¬ (k : Int) < (L : Int) := by omega
      have HEND : Hid (ErrTo (ap a 0 hs).2 w (.returned (.int .i64 0)) wr) := by
        show ErrTo _ _ _ _
        rw [av_end HV.out (by rw [← HL.out]; omega)]
        exact ⟨rfl, HB.out⟩
      clear hkL HV
      go_wp2_with fail
      go_ret
      exact HEND.out
end Go.Proofs.Ytoncghamkedhcaa.Kd

namespace Go.Proofs.Ytoncghamkedhcaa.Kd
open Go.RowKit Go.ChangeShapes Go.WideShapes Tx Um Ud Aq Km
set_option linter.unusedVariables false
theorem lo_hunk {w : World} {B ph : Nat} {v : Value} {l : List ByteArray} {at_ : Int} {uo un : Value} (h : Lo w B v l) (hb : Hb w ph at_ uo un) : v.ownBlock ≠ some ph := by
  intro e
  rcases h.2 with ⟨rfl, _⟩ | ⟨g, cap, cur, rfl, _, hh, _⟩
  · cases e
  · have e2 : g = ph := by simpa [Value.ownBlock] using e
    subst e2
    unfold Hb at hb
    rw [hh] at hb
    injection hb with hb
    injection hb with _ hb _
    exact absurd hb (by decide)
set_option maxRecDepth 100000 in
set_option maxHeartbeats 4000000 in
theorem apply_any (A C : Option Addr) (ca cc : Nat) (a : List ByteArray) (hs : List (Hz ByteArray)) (w : World) (hA : Strs w A a.length a) (hac : a.length ≤ ca) (hna : A = none → ca = 0) (hC : HzR w C hs.length hs) (hT : a.length + news hs ≤ 8796093022207) (hO : ∀ h, h ∈ hs → h.old.length ≤ 4611686018427387903) (hhl : hs.length ≤ 4611686018427387903) :
    Calls Try.prog 13 #[.slice A a.length ca, .slice C hs.length cc] w (ApTo (ap a 0 hs) w) := by
  have cK := check_any A C ca cc a hs w hA hac hna hC (by omega) hO hhl
  unfold ErrTo at cK
  have HA := Lib.hid hA
  have HC := Lib.hid hC
  have HNA := Lib.hid hna
  have HST := Lib.hid (av_start a hs)
  obtain ⟨m, hm⟩ : ∃ m, m = a.length := ⟨_, rfl⟩
  obtain ⟨L, hL⟩ : ∃ L, L = hs.length := ⟨_, rfl⟩
  rw [← hm] at hT hac cK ⊢
  rw [← hL] at hhl cK ⊢
  have HM := Lib.hid hm
  have HL := Lib.hid hL
  clear hA hC hm hL hna hO
  obtain ⟨er, her⟩ : ∃ er, er = (ap a 0 hs).2 := ⟨_, rfl⟩
  rw [← her] at cK
  by_cases h0 : er = 0
  · subst h0
    have HER : Hid ((ap a 0 hs).2 = 0) := her.symm
    have CK := Lib.hid cK
    clear her cK
    go_enter Try.func13, Try.ntmps13
    go_wp2_with fail
    go_at_call 22
    refine CK.out.mono ?_
    rintro e w0 ⟨rfl, hb0⟩
    have HB0 := Lib.hid hb0
    have hsz0 := hb0.size
    clear hb0 CK
    go_wp2_with fail
    go_loopw [7, 8, 10, 19] (fun v at_ _ i wr => ∃ (k p : Nat) (pre : List ByteArray), i = .int .i64 (k : Int) ∧ at_ = .int .i64 (p : Int) ∧ k ≤ L ∧ p ≤ m ∧ Hid (Av a hs k p pre) ∧ Hid (pre.length ≤ p + news (hs.take k)) ∧ Hid (Lo wr w.heap.size v pre) ∧ Hid (Below w.heap.size w wr)) (fun _ _ _ i _ => L - (intOf i).toNat)
    case atStart => exact ⟨0, 0, [], rfl, rfl, Nat.zero_le _, Nat.zero_le _, HST, Nat.zero_le _, World.ownsRow_nil _ _ _ _, HB0.out⟩
    case round =>
      obtain ⟨k, p, pre, rfl, rfl, hk, hp, HV, HPL, HLO, HB⟩ := hrel
      clear HST HB0 hsz0
      have hszr := HB.out.size
      have hnk := news_le hs k
      have hpl : pre.length ≤ p + news (hs.take k) := HPL.out
      by_cases hlt : k < L
      · have e1 : (k : Int) < (L : Int) := by omega
        obtain ⟨h, hh⟩ : ∃ h, hs[k]? = some h := ⟨_, List.getElem?_eq_getElem (by rw [← HL.out]; exact hlt)⟩
        obtain ⟨bc, oc, rfl, hbc, hcc⟩ := HC.out.2.resolve_left (by rw [← HL.out]; omega)
        obtain ⟨uo, un, b0, b1, b2, ⟨A1, c1, rfl, s1, hn1⟩, ⟨A2, c2, rfl, s2, hn2⟩⟩ := hcc k h hh
        have d0 := (HB.out.cell (p := ⟨bc, _, none⟩) hbc).trans b0
        have d1 := (HB.out.cell (p := ⟨bc, _, none⟩) hbc).trans b1
        have d2 := (HB.out.cell (p := ⟨bc, _, none⟩) hbc).trans b2
        have hnf : ¬ (h.at_ < (p : Int) ∨ (a.length : Int) < h.at_) := fun hf => by
          have := HER.out
          rw [av_form HV.out hh hf] at this
          cases this
        have hst : stands a h.at_.toNat h.old = true := by
          cases hb : stands a h.at_.toNat h.old
          · have := HER.out
            rw [av_none HV.out hh hnf hb] at this
            cases this
          · rfl
        have hav := av_next HV.out hh hnf hst
        have hon := stands_len hst
        have hT2 := news_le hs (k + 1)
        have hT3 := news_take hh
        obtain ⟨q, hq⟩ : ∃ q : Nat, h.at_ = (q : Int) := ⟨h.at_.toNat, by omega⟩
        rw [hq, Int.toNat_natCast] at hav hon
        rw [hq] at d0 hnf
        rw [← HM.out] at hon hnf
        have hpq : p ≤ q := by omega
        have hqm : q ≤ m := by omega
        obtain ⟨n1, hn1'⟩ : ∃ n1, n1 = h.old.length := ⟨_, rfl⟩
        obtain ⟨n2, hn2'⟩ : ∃ n2, n2 = h.new.length := ⟨_, rfl⟩
        rw [← hn1'] at d1 hon hav
        rw [← hn2'] at d2 hT3
        obtain ⟨A', hsl, hsA, hnA'⟩ := rd_room HA.out (c := ca) (lo := p) (hi := q) hpq (by rw [← HM.out]; exact hqm) (by rw [← HM.out]; exact hac) HNA.out
        have SL := slice_run A m ca p q hpq (by omega)
        rw [hsl] at SL
        have hml : ((a.take q).drop p).length = q - p := mid_len (by rw [← HM.out]; exact hqm)
        have hal : Below w.heap.size w (wr.alloc (.cells #[.int .i64 (q : Int), .slice A1 n1 c1, .slice A2 n2 c2] 33)) := HB.out.alloc HB.out.size _
        have hhb : Hb (wr.alloc (.cells #[.int .i64 (q : Int), .slice A1 n1 c1, .slice A2 n2 c2] 33)) wr.heap.size (q : Int) (.slice A1 n1 c1) (.slice A2 n2 c2) := heap_alloc_new _ _
        have hlo : Lo (wr.alloc (.cells #[.int .i64 (q : Int), .slice A1 n1 c1, .slice A2 n2 c2] 33)) w.heap.size u7 pre := HLO.out.below ((Below.refl _ wr).alloc (Nat.le_refl _) _)
        have hne : u7.ownBlock ≠ some wr.heap.size := fun e => by have := (World.ownsRow.lt HLO.out _ e).2; omega
        have hst1 : Strs (wr.alloc (.cells #[.int .i64 (q : Int), .slice A1 n1 c1, .slice A2 n2 c2] 33)) A' (q - p) ((a.take q).drop p) := hsA.below hal
        have hszA : w.heap.size ≤ (wr.alloc (.cells #[.int .i64 (q : Int), .slice A1 n1 c1, .slice A2 n2 c2] 33)).heap.size := hal.size
        have hszB : (wr.alloc (.cells #[.int .i64 (q : Int), .slice A1 n1 c1, .slice A2 n2 c2] 33)).heap.size = wr.heap.size + 1 := by simp
        have hbig1 : (pre.length + (q - p)) * 16 ≤ 140737488355328 := by omega
        have HAV := Lib.hid hav
        have HS2 := Lib.hid s2
        have HN2 := Lib.hid hn2
        have HN2' := Lib.hid hn2'
        have HML := Lib.hid hml
        have HAL := Lib.hid hal
        have HHB := Lib.hid hhb
        have HT2 := Lib.hid hT2
        have HT3 := Lib.hid hT3
        have HBG := Lib.hid hbig1
        clear hcc b0 b1 b2 s1 s2 hn1 hn2 hn1' hn2' hh hav hml hst hnf HLO hsA hsl hal hhb hT2 hT3 hq hbig1 HV HB
        go_wp2_with (at_builtin; refine wp_append_any rfl _ _ rfl w.heap.size rfl hlo rfl hst1 hnA' HBG.out hszA ?_)
        intro v3 w3 hlo3 hgr3
        have hph : w3.heap[wr.heap.size]? = (wr.alloc (.cells #[.int .i64 (q : Int), .slice A1 n1 c1, .slice A2 n2 c2] 33)).heap[wr.heap.size]? := hgr3.block _ (by omega) (fun e => hne e.symm)
        have hb3 : Below w.heap.size w w3 := HAL.out.grown hgr3 hszA (fun k hk => (World.ownsRow.lt hlo k hk).1)
        obtain ⟨g0, g1, g2⟩ := (HHB.out.kept hph).cell
        have HHB3 := Lib.hid (HHB.out.kept hph)
        have hsz3 := hb3.size
        have hlen3 : (pre ++ (a.take q).drop p).length = pre.length + (q - p) := by rw [List.length_append, HML.out]
        have hst2 : Strs w3 A2 n2 h.new := by rw [HN2'.out]; exact HS2.out.below hb3
        have hbig2 : ((pre ++ (a.take q).drop p).length + n2) * 16 ≤ 140737488355328 := by
          rw [hlen3]
          have h3 := HT2.out
          have h4 := HT3.out
          omega
        have HB3 := Lib.hid hb3
        have HBG2 := Lib.hid hbig2
        have HLN := Lib.hid hlen3
        clear hph hb3 hlo hgr3 hne hst1 hszA hszB HHB HAL hlen3 hbig2
        go_wp2_with (at_builtin; refine wp_append_any rfl _ _ rfl w.heap.size rfl hlo3 rfl hst2 HN2.out HBG2.out hsz3 ?_)
        intro v4 w4 hlo4 hgr4
        have hphl : wr.heap.size < w3.heap.size := HHB3.out.lt
        have hb4 : Below w.heap.size w w4 := HB3.out.grown hgr4 hsz3 (fun k hk => (World.ownsRow.lt hlo3 k hk).1)
        obtain ⟨g0, g1, g2⟩ := (HHB3.out.kept (hgr4.block _ hphl (fun e => lo_hunk hlo3 HHB3.out e.symm))).cell
        have hsum : IntKind.i64.wrap ((q : Int) + (n1 : Int)) = (q : Int) + (n1 : Int) := IntWalk.i64_in _ (by omega)
        have HP4 : Hid ((pre ++ (a.take q).drop p ++ h.new).length ≤ q + n1 + news (hs.take (k + 1))) := by
          show _ ≤ _
          rw [List.length_append, HLN.out, HT3.out, HN2'.out]
          omega
        have HB4 := Lib.hid hb4
        have HLO4 : Hid (Lo w4 w.heap.size v4 (pre ++ (a.take q).drop p ++ h.new)) := by
          show Lo _ _ _ _
          first
            | exact hlo4
            | (rw [List.append_assoc]; exact hlo4)
        clear hlo3 hgr4 hb4 hlo4 hst2 hsz3 hphl HHB3 HB3
        go_wp2_with fail
        go_roundw
        case rel => exact ⟨k + 1, q + n1, _, by go_num, by go_num, by omega, by omega, HAV, HP4, HLO4, HB4⟩
        case measure => simp only [intOf]; omega
      · have hkL : k = L := by omega
        have e1 : ¬ (k : Int) < (L : Int) := by omega
        have HEND : Hid (ap a 0 hs = (pre ++ a.drop p, 0)) := av_end HV.out (by rw [← HL.out]; omega)
        obtain ⟨A', hsl, hsA, hnA'⟩ := rd_room HA.out (c := ca) (lo := p) (hi := a.length) (by rw [← HM.out]; exact hp) (Nat.le_refl _) (by rw [← HM.out]; exact hac) HNA.out
        rw [List.take_length, ← HM.out] at hsA
        rw [← HM.out] at hsl
        have SL := slice_from A m ca p hp
        rw [hsl] at SL
        have hst1 : Strs wr A' (m - p) (a.drop p) := hsA.below HB.out
        have hlo : Lo wr w.heap.size u7 pre := HLO.out
        have hbig1 : (pre.length + (m - p)) * 16 ≤ 140737488355328 := by omega
        have HBG := Lib.hid hbig1
        clear hkL HV HPL hnk hpl hsA hsl hbig1 HLO
        go_wp2_with (at_builtin; refine wp_append_any rfl _ _ rfl w.heap.size rfl hlo rfl hst1 hnA' HBG.out hszr ?_)
        intro v3 w3 hlo3 hgr3
        have hb3 : Below w.heap.size w w3 := HB.out.grown hgr3 hszr (fun k hk => (World.ownsRow.lt hlo k hk).1)
        have hE : Hid (ApTo (ap a 0 hs) w (.returned (.tuple #[v3, .int .i64 0])) w3) := by
          show ApTo _ _ _ _
          rw [HEND.out]
          exact ⟨_, rfl, hlo3, hb3⟩
        clear hlo hlo3 hgr3 hb3 hst1
        go_wp2_with fail
        go_ret2
        exact hE.out
  · have HNE := Lib.hid h0
    have HAP : Hid (ap a 0 hs = ([], er)) := Prod.ext (ap_err a hs 0 (by rw [← her]; exact h0)) her.symm
    have e1 : ((er : Int) == 0) = false := beq_eq_false_iff_ne.2 (by omega)
    have e2 : (er == 0) = false := beq_eq_false_iff_ne.2 h0
    have CK := Lib.hid cK
    clear her cK
    go_enter Try.func13, Try.ntmps13
    go_wp2_with fail
    go_at_call 22
    refine CK.out.mono ?_
    rintro e w0 ⟨rfl, hb0⟩
    have hE : Hid (ApTo (ap a 0 hs) w (.returned (.tuple #[.slice none 0 0, .int .i64 (er : Int)])) w0) := by
      show ApTo _ _ _ _
      rw [HAP.out]
      exact ⟨_, rfl, World.ownsRow_nil _ _ _ _, hb0⟩
    clear hb0
    go_wp2_with fail
    go_ret2
    exact hE.out
end Go.Proofs.Ytoncghamkedhcaa.Kd

namespace Go.Proofs.Ytoncghamkedhcaa.Kd
open Go.RowKit Go.ChangeShapes Go.WideShapes Tx Um Ud Aq Km
set_option linter.unusedVariables false
theorem Lo.rd {w : World} {B : Nat} {v : Value} {l : List ByteArray} (h : Lo w B v l) : Rd w v l := by
  have hh := h
  rcases h.2 with ⟨rfl, h0⟩ | ⟨g, cap, cur, rfl, hg, hb, hn, hc, _⟩
  · exact ⟨none, 0, by rw [h0], ⟨rfl, .inl h0⟩, fun _ => rfl⟩
  · refine ⟨some ⟨g, 0, none⟩, cap, rfl, ⟨rfl, .inr ⟨g, 0, rfl, (Array.getElem?_eq_some_iff.1 hb).1, fun k x hx => ?_⟩⟩, fun e => by cases e⟩
    have e1 := World.ownsRow.cells (g := g) hh rfl k (.string x) (by rw [List.getElem?_map, hx]; rfl)
    rw [WideShapes.add_plain] at e1
    exact e1
theorem lo_hu {w : World} {B B2 : Nat} {v u : Value} {l : List ByteArray} {cs : List (Int × Value × Value)} (h : Lo w B v l) (hu : Hu w B2 u cs) {g : Nat} (e : v.ownBlock = some g) : u.ownBlock ≠ some g := by
  intro e2
  rcases h.2 with ⟨rfl, _⟩ | ⟨g1, cap, cur, rfl, _, hh, _⟩
  · cases e
  · rcases hu.2 with ⟨rfl, _⟩ | ⟨g2, cap2, cur2, rfl, _, hh2, _⟩
    · cases e2
    · have x1 : g1 = g := by simpa [Value.ownBlock] using e
      have x2 : g2 = g := by simpa [Value.ownBlock] using e2
      subst x1
      subst x2
      rw [hh] at hh2
      injection hh2 with hh2
      injection hh2 with _ hh2 _
      exact absurd hh2 (by decide)
theorem lo_kept {w w1 : World} {B : Nat} {v : Value} {l : List ByteArray} {row : Option Nat} (h : Lo w B v l) (hg : w.grownBy w1 row) (hne : ∀ g, v.ownBlock = some g → row ≠ some g) : Lo w1 B v l := by
  refine World.ownsRow.kept h hg ?_
  cases hb : v.ownBlock with
  | none => exact .inl rfl
  | some g => exact .inr (fun e => hne g hb e.symm)
theorem vals_snoc (cs : List (Int × Value × Value)) (c : Int × Value × Value) : vals (cs ++ [c]) = vals cs ++ [c.2.1, c.2.2] := by
  unfold vals
  rw [List.flatMap_append]
  rfl
theorem Own3.below {w w1 : World} {B : Nat} {cs : List (Int × Value × Value)} {hs : List (Hz ByteArray)} (h : Own3 w B cs hs) (hb : Below w.heap.size w w1) : Own3 w1 B cs hs :=
  ⟨fun k c x h1 h2 => ⟨(h.each k c x h1 h2).1.below hb, (h.each k c x h1 h2).2.below hb⟩, h.far⟩
theorem Own3.lt {w : World} {B : Nat} {cs : List (Int × Value × Value)} {hs : List (Hz ByteArray)} (h : Own3 w B cs hs) (hl : cs.length = hs.length) {i : Nat} {u : Value} {g : Nat} (hu : (vals cs)[i]? = some u) (hg : u.ownBlock = some g) : B ≤ g ∧ g < w.heap.size := by
  obtain ⟨c, hc, hu2⟩ := List.mem_flatMap.1 (List.mem_iff_getElem?.2 ⟨i, hu⟩)
  obtain ⟨k, hk⟩ := List.mem_iff_getElem?.1 hc
  have hk2 := (List.getElem?_eq_some_iff.1 hk).1
  obtain ⟨h1, h2⟩ := h.each k c hs[k] hk (List.getElem?_eq_getElem (by omega))
  simp only [List.mem_cons, List.not_mem_nil, or_false] at hu2
  rcases hu2 with rfl | rfl
  · exact World.ownsRow.lt h1 g hg
  · exact World.ownsRow.lt h2 g hg
theorem Own3.snoc {w w1 : World} {B : Nat} {cs : List (Int × Value × Value)} {hs : List (Hz ByteArray)} {c : Int × Value × Value} {x : Hz ByteArray} (h : Own3 w B cs hs) (hl : cs.length = hs.length) (hb : Below w.heap.size w w1)
    (h1 : Lo w1 w.heap.size c.2.1 x.old) (h2 : Lo w1 w.heap.size c.2.2 x.new) (hB : B ≤ w.heap.size) (hf : ∀ g, c.2.1.ownBlock = some g → c.2.2.ownBlock ≠ some g) : Own3 w1 B (cs ++ [c]) (hs ++ [x]) := by
  refine ⟨fun k d y hd hy => ?_, fun i j u v g hu hv hne e1 e2 => ?_⟩
  · by_cases hk : k < cs.length
    · rw [List.getElem?_append_left hk] at hd
      rw [List.getElem?_append_left (by omega)] at hy
      obtain ⟨k1, k2⟩ := h.each k d y hd hy
      exact ⟨k1.below hb, k2.below hb⟩
    · have hd2 := (List.getElem?_eq_some_iff.1 hd).1
      rw [List.length_append, List.length_singleton] at hd2
      obtain rfl : k = cs.length := by omega
      rw [List.getElem?_append_right (Nat.le_refl _), Nat.sub_self] at hd
      rw [hl, List.getElem?_append_right (Nat.le_refl _), Nat.sub_self] at hy
      injection hd with hd
      injection hy with hy
      subst hd
      subst hy
      exact ⟨own_base h1 hB, own_base h2 hB⟩
  · rw [vals_snoc] at hu hv
    have key : ∀ (i : Nat) u, (vals cs ++ [c.2.1, c.2.2])[i]? = some u → (i < (vals cs).length ∧ (vals cs)[i]? = some u) ∨ (i = (vals cs).length ∧ u = c.2.1) ∨ (i = (vals cs).length + 1 ∧ u = c.2.2) := fun i u hu => by
      by_cases hi : i < (vals cs).length
      · rw [List.getElem?_append_left hi] at hu
        exact .inl ⟨hi, hu⟩
      · rw [List.getElem?_append_right (by omega)] at hu
        obtain ⟨d, hd⟩ : ∃ d, i = (vals cs).length + d := ⟨i - (vals cs).length, by omega⟩
        rw [hd, Nat.add_sub_cancel_left] at hu
        match d, hu with
        | 0, hu => injection hu with hu; exact .inr (.inl ⟨hd, hu.symm⟩)
        | 1, hu => injection hu with hu; exact .inr (.inr ⟨hd, hu.symm⟩)
    rcases key i u hu with ⟨i1, i2⟩ | ⟨i1, rfl⟩ | ⟨i1, rfl⟩
    · rcases key j v hv with ⟨j1, j2⟩ | ⟨j1, rfl⟩ | ⟨j1, rfl⟩
      · exact h.far i j u v g i2 j2 hne e1 e2
      · have := (h.lt hl i2 e1).2
        have := (World.ownsRow.lt h1 g e2).1
        omega
      · have := (h.lt hl i2 e1).2
        have := (World.ownsRow.lt h2 g e2).1
        omega
    · rcases key j v hv with ⟨j1, j2⟩ | ⟨j1, rfl⟩ | ⟨j1, rfl⟩
      · have := (h.lt hl j2 e2).2
        have := (World.ownsRow.lt h1 g e1).1
        omega
      · omega
      · exact hf g e1 e2
    · rcases key j v hv with ⟨j1, j2⟩ | ⟨j1, rfl⟩ | ⟨j1, rfl⟩
      · have := (h.lt hl j2 e2).2
        have := (World.ownsRow.lt h2 g e1).1
        omega
      · exact hf g e2 e1
      · omega
theorem Own3.grown {w w1 : World} {B B2 : Nat} {u : Value} {cs ds : List (Int × Value × Value)} {hs : List (Hz ByteArray)} (h : Own3 w B cs hs) (hu : Hu w B2 u ds) (hg : w.grownBy w1 u.ownBlock) : Own3 w1 B cs hs :=
  ⟨fun k c x h1 h2 => ⟨lo_kept (h.each k c x h1 h2).1 hg (fun g e => lo_hu (h.each k c x h1 h2).1 hu e), lo_kept (h.each k c x h1 h2).2 hg (fun g e => lo_hu (h.each k c x h1 h2).2 hu e)⟩, h.far⟩
theorem Own3.nil (w : World) (B : Nat) : Own3 w B [] [] := ⟨(fun k c x h1 _ => by cases h1), (fun i j u v g h1 _ _ => by cases h1)⟩
theorem Own3.reads {w : World} {B : Nat} : ∀ {cs : List (Int × Value × Value)} {hs : List (Hz ByteArray)}, Own3 w B cs hs → cs.map (·.1) = hs.map (·.at_) → Is w cs hs
  | [], [], _, _ => trivial
  | [], x :: hs, _, e => by cases e
  | c :: cs, [], _, e => by cases e
  | c :: cs, x :: hs, h, e => by
    rw [List.map_cons, List.map_cons] at e
    injection e with e1 e2
    obtain ⟨k1, k2⟩ := h.each 0 c x rfl rfl
    have ev : vals (c :: cs) = c.2.1 :: c.2.2 :: vals cs := rfl
    exact ⟨e1, k1.rd, k2.rd, Own3.reads ⟨fun k d y hd hy => h.each (k + 1) d y hd hy, fun i j u v g hu hv hne => h.far (i + 2) (j + 2) u v g (by rw [ev]; exact hu) (by rw [ev]; exact hv) (by omega)⟩ e2⟩
end Go.Proofs.Ytoncghamkedhcaa.Kd

namespace Go.Proofs.Ytoncghamkedhcaa.Km
open Um
set_option linter.unusedVariables false
def ra (i : Nat) (x : Nat × Nat) : Nat := if x.1 = 2 then i else i + x.2
def rb (j : Nat) (x : Nat × Nat) : Nat := if x.1 = 1 then j else j + x.2
def pr (bt : Nat) : List (Nat × Nat) → Nat → Nat → List G → List G
  | [], _, _, r => r
  | x :: R, i, j, r => pr bt R (ra i x) (rb j x) (if x.1 = 0 then r else add bt i (ra i x) j (rb j x) r)
theorem add_add (bt i p j q p' q' : Nat) (r : List G) : add bt p p' q q' (add bt i p j q r) = add bt i p' j q' r := by
  cases r with
  | nil =>
    show (if p - p ≤ bt then _ else _) = _
    rw [if_pos (by omega)]
    rfl
  | cons l r =>
    rw [show add bt i p j q (l :: r) = (if i - l.t ≤ bt then ⟨l.f, p, l.u, q⟩ :: r else ⟨i, p, j, q⟩ :: l :: r) from rfl, show add bt i p' j q' (l :: r) = (if i - l.t ≤ bt then ⟨l.f, p', l.u, q'⟩ :: r else ⟨i, p', j, q'⟩ :: l :: r) from rfl]
    by_cases h : i - l.t ≤ bt
    · rw [if_pos h, if_pos h]
      show (if p - p ≤ bt then _ else _) = _
      rw [if_pos (by omega)]
    · rw [if_neg h, if_neg h]
      show (if p - p ≤ bt then _ else _) = _
      rw [if_pos (by omega)]
theorem pr_runs (bt : Nat) (s : List Nat) : ∀ i j r, pr bt (runs s) i j r = pr bt (s.map fun x => (x, 1)) i j r := by
  induction s with
  | nil => intro i j r; rfl
  | cons x s ih =>
    intro i j r
    rw [runs_cons, List.map_cons]
    cases hr : runs s with
    | nil =>
      rw [hr] at ih
      exact ih _ _ _
    | cons p R =>
      obtain ⟨y, n⟩ := p
      rw [hr] at ih
      by_cases e : x = y
      · subst e
        simp only [if_true]
        show pr bt R _ _ _ = pr bt (s.map fun x => (x, 1)) _ _ _
        rw [← ih]
        show _ = pr bt R _ _ _
        have h1 : ra i (x, n + 1) = ra (ra i (x, 1)) (x, n) := by unfold ra; simp only; split <;> omega
        have h2 : rb j (x, n + 1) = rb (rb j (x, 1)) (x, n) := by unfold rb; simp only; split <;> omega
        rw [h1, h2]
        by_cases h0 : x = 0
        · simp only [if_pos h0]
        · simp only [if_neg h0, add_add]
      · simp only [if_neg e]
        show pr bt ((y, n) :: R) _ _ _ = pr bt (s.map fun x => (x, 1)) _ _ _
        rw [← ih]
theorem one_self (bt i j : Nat) (r : List G) : one bt i j r i j = r := by
  unfold one
  rw [if_neg (by omega)]
theorem add_one (bt i0 j0 i j p q : Nat) (r : List G) (hi : i0 ≤ i) (hj : j0 ≤ j) (hp : i ≤ p) (hq : j ≤ q) (h : i < p ∨ j < q) : add bt i p j q (one bt i0 j0 r i j) = one bt i0 j0 r p q := by
  unfold one
  rw [if_pos (show i0 < p ∨ j0 < q by omega)]
  by_cases hg : i0 < i ∨ j0 < j
  · rw [if_pos hg, add_add]
  · rw [if_neg hg]
    obtain rfl : i0 = i := by omega
    obtain rfl : j0 = j := by omega
    rfl
theorem pr_makes {α : Type} {la lb : List α} {s : List Nat} (bt : Nat) (h : Makes la lb s) : ∀ i j i0 j0 r, i0 ≤ i → j0 ≤ j → pr bt (s.map fun x => (x, 1)) i j (one bt i0 j0 r i j) = gp bt (pairs i j s ++ [(i + la.length, j + lb.length)]) i0 j0 r := by
  induction h with
  | nil => intro i j i0 j0 r _ _; rfl
  | keep x h ih =>
    intro i j i0 j0 r hi hj
    have e := ih (i + 1) (j + 1) (i + 1) (j + 1) (one bt i0 j0 r i j) (Nat.le_refl _) (Nat.le_refl _)
    rw [one_self] at e
    rw [List.length_cons, List.length_cons, (show ∀ n, i + (n + 1) = i + 1 + n from fun n => by omega), (show ∀ n, j + (n + 1) = j + 1 + n from fun n => by omega)]
    exact e
  | drop x h ih =>
    intro i j i0 j0 r hi hj
    have e := ih (i + 1) j i0 j0 r (by omega) hj
    rw [List.length_cons, (show ∀ n, i + (n + 1) = i + 1 + n from fun n => by omega)]
    refine Eq.trans ?_ e
    show pr bt _ (i + 1) j (add bt i (i + 1) j j _) = _
    rw [add_one bt i0 j0 i j (i + 1) j r hi hj (by omega) (by omega) (by omega)]
  | add x h ih =>
    intro i j i0 j0 r hi hj
    have e := ih i (j + 1) i0 j0 r hi (by omega)
    rw [List.length_cons, (show ∀ n, j + (n + 1) = j + 1 + n from fun n => by omega)]
    refine Eq.trans ?_ e
    show pr bt _ i (j + 1) (add bt i i j (j + 1) _) = _
    rw [add_one bt i0 j0 i j i (j + 1) r hi hj (by omega) (by omega) (by omega)]
theorem pr_gaps {α : Type} [DecidableEq α] (bt : Nat) (a b : List α) : pr bt (runs (steps a b)) 0 0 [] = gp bt (pairs 0 0 (steps a b) ++ [(a.length, b.length)]) 0 0 [] := by
  rw [pr_runs]
  have e := pr_makes bt (makes a b) 0 0 0 0 [] (Nat.le_refl _) (Nat.le_refl _)
  rw [one_self, Nat.zero_add, Nat.zero_add] at e
  exact e
end Go.Proofs.Ytoncghamkedhcaa.Km
namespace Go.Proofs.Ytoncghamkedhcaa.Kd
open Go.RowKit Tx Um Ud Aq Km
set_option linter.unusedVariables false
theorem infoP : (Try.prog.info? 51).map (fun i => (i.zero, i.size, i.bytes)) = some (some (.agg #[.int .i64 0, .int .i64 0, .int .i64 0, .int .i64 0]), 4, 32) := by kernel_rfl
def p4 (x : G) : List Value := [iv x.f, iv x.u, iv x.t, iv x.v]
theorem p4_one (x : G) : ∀ u ∈ p4 x, u.oneCell' = true := by
  intro u hu
  simp only [p4, List.mem_cons, List.not_mem_nil, or_false] at hu
  rcases hu with rfl | rfl | rfl | rfl <;> rfl
theorem flatp_len (l : List G) : (l.flatMap p4).length = l.length * 4 := by
  induction l with
  | nil => rfl
  | cons x l ih => rw [List.flatMap_cons, List.length_append, ih, List.length_cons]; show 4 + _ = _; omega
theorem flatp_get (l : List G) (k : Nat) (x : G) (h : l[k]? = some x) : (l.flatMap p4)[k * 4]? = some (iv x.f) ∧ (l.flatMap p4)[k * 4 + 1]? = some (iv x.u) ∧ (l.flatMap p4)[k * 4 + 2]? = some (iv x.t) ∧ (l.flatMap p4)[k * 4 + 3]? = some (iv x.v) := by
  induction l generalizing k with
  | nil => cases h
  | cons y l ih =>
    rw [List.flatMap_cons]
    cases k with
    | zero =>
      injection h with h
      subst h
      exact ⟨rfl, rfl, rfl, rfl⟩
    | succ k =>
      obtain ⟨h1, h2, h3, h4⟩ := ih k h
      have e : (p4 y).length = 4 := rfl
      rw [List.getElem?_append_right (by omega), List.getElem?_append_right (by omega), List.getElem?_append_right (by omega), List.getElem?_append_right (by omega), e, show (k + 1) * 4 - 4 = k * 4 by omega, show (k + 1) * 4 + 1 - 4 = k * 4 + 1 by omega, show (k + 1) * 4 + 2 - 4 = k * 4 + 2 by omega, show (k + 1) * 4 + 3 - 4 = k * 4 + 3 by omega]
      exact ⟨h1, h2, h3, h4⟩
theorem flatp_set (l : List G) (x : G) (p q : Nat) : (((l ++ [x]).flatMap p4).set (l.length * 4 + 2) (.int .i64 (p : Int))).set (l.length * 4 + 3) (.int .i64 (q : Int)) = (l ++ [(⟨x.f, p, x.u, q⟩ : G)]).flatMap p4 := by
  have h := flatp_len l
  rw [List.flatMap_append, List.flatMap_append, List.set_append_right _ _ (by omega), List.set_append_right _ _ (by omega), show l.length * 4 + 2 - (l.flatMap p4).length = 2 by omega, show l.length * 4 + 3 - (l.flatMap p4).length = 3 by omega]
  rfl
def Pc (w : World) (B : Nat) (v : Value) (l : List G) : Prop := w.ownsRow B 51 4 v l.length (l.flatMap p4)
theorem Pc.below {w w1 : World} {B : Nat} {v : Value} {l : List G} (h : Pc w B v l) (hb : Below w.heap.size w w1) : Pc w1 B v l := by
  refine ⟨h.1, ?_⟩
  rcases h.2 with h0 | ⟨g', cap', cur, hv, hg, hh, r⟩
  · exact .inl h0
  · exact .inr ⟨g', cap', cur, hv, hg, (hb.block g' (Array.getElem?_eq_some_iff.1 hh).1).trans hh, r⟩
theorem Pc.form {w : World} {B : Nat} {v : Value} {l : List G} (h : Pc w B v l) : ∃ a c, v = .slice a l.length c ∧ (l.length = 0 ∨ ∃ g, a = some ⟨g, 0, none⟩ ∧ B ≤ g ∧ g < w.heap.size ∧ (∀ k, w.frozen? ⟨g, k, none⟩ = false) ∧
    ∀ (k : Nat) x, l[k]? = some x → w.cell? ⟨g, k * 4, none⟩ = some (iv x.f) ∧ w.cell? ⟨g, k * 4 + 1, none⟩ = some (iv x.u) ∧ w.cell? ⟨g, k * 4 + 2, none⟩ = some (iv x.t) ∧ w.cell? ⟨g, k * 4 + 3, none⟩ = some (iv x.v)) := by
  have hh := h
  rcases h.2 with ⟨rfl, h0⟩ | ⟨g, cap, cur, rfl, hg, hh2, hn, hc, _⟩
  · exact ⟨none, 0, by rw [h0], .inl h0⟩
  · refine ⟨some ⟨g, 0, none⟩, cap, rfl, .inr ⟨g, rfl, hg, (Array.getElem?_eq_some_iff.1 hh2).1, fun k => by simp [World.frozen?, hh2], fun k x hx => ?_⟩⟩
    obtain ⟨h1, h2, h3, h4⟩ := flatp_get l k x hx
    have e1 := hh.cells (g := g) rfl _ _ h1
    have e2 := hh.cells (g := g) rfl _ _ h2
    have e3 := hh.cells (g := g) rfl _ _ h3
    have e4 := hh.cells (g := g) rfl _ _ h4
    rw [WideShapes.add_plain, Nat.zero_add] at e1 e2 e3 e4
    exact ⟨e1, e2, e3, e4⟩
theorem Pc.last {w : World} {B g c : Nat} {r : List G} {l : G} (h : Pc w B (.slice (some ⟨g, 0, none⟩) (r.length + 1) c) (r.reverse ++ [l])) (p q : Nat) :
    Pc ((w.setCell ⟨g, r.length * 4 + 2, none⟩ (.int .i64 (p : Int))).setCell ⟨g, r.length * 4 + 3, none⟩ (.int .i64 (q : Int))) B (.slice (some ⟨g, 0, none⟩) (r.length + 1) c) (r.reverse ++ [⟨l.f, p, l.u, q⟩]) := by
  have hl : (r.reverse ++ [l]).length = r.length + 1 := by simp
  have hl2 : (r.reverse ++ [(⟨l.f, p, l.u, q⟩ : G)]).length = r.length + 1 := by simp
  unfold Pc at h ⊢
  rw [hl] at h
  rw [hl2, ← flatp_set]
  have e : r.length = r.reverse.length := by simp
  have := own_put4 (own_put4 h (r.length * 4 + 2) (.int .i64 (p : Int))) (r.length * 4 + 3) (.int .i64 (q : Int))
  rw [← e]
  exact this
end Go.Proofs.Ytoncghamkedhcaa.Kd

namespace Go.Proofs.Ytoncghamkedhcaa.Kd
open Go.RowKit Tx Um Ud Aq Km
set_option linter.unusedVariables false
def PcTo (B : Nat) (l : List G) (w : World) (e : Ending) (w' : World) : Prop := ∃ v', e = .returned v' ∧ Pc w' B v' l ∧ Below B w w'
theorem add_new {bt i p j q : Nat} {r : List G} (hl : ∀ l, r.head? = some l → ¬ i - l.t ≤ bt) : (add bt i p j q r).reverse = r.reverse ++ [⟨i, p, j, q⟩] := by
  cases r with
  | nil => rfl
  | cons l r =>
    rw [add_cons, if_neg (hl l rfl)]
    simp
theorem add_last {bt i j p q : Nat} {r : List G} {l : G} (hl : i - l.t ≤ bt) : (add bt i p j q (l :: r)).reverse = r.reverse ++ [⟨l.f, p, l.u, q⟩] := by
  rw [add_cons, if_pos hl]
  simp
theorem cell_four_drew (w : World) (o : Obj) (u v x y : Value) (e : TypeId) : ∀ (j : Nat) z, [u, v, x, y][j]? = some z → ((w.alloc o).alloc (.cells #[u, v, x, y] e)).drew.cell? ((⟨w.heap.size + 1, 0, none⟩ : Addr).add j) = some z := by
  have h := cell_four_new (w.alloc o) u v x y e
  have hs : (w.alloc o).heap.size = w.heap.size + 1 := by simp
  rw [hs] at h
  intro j z hj
  exact h j z hj
set_option maxRecDepth 100000 in
set_option maxHeartbeats 1000000 in
theorem plonger_any (B : Nat) (v : Value) (r : List G) (i p j q bt : Nat) (w : World) (hv : Pc w B v r.reverse) (hB : B ≤ w.heap.size) (hr : r.length ≤ 1000) (hl : ∀ l, r.head? = some l → l.t ≤ i) (hi : i ≤ 1000000) (hbt : bt ≤ 1000000) :
    Calls Try.prog 29 #[v, .agg #[.int .i64 (i : Int), .int .i64 (j : Int), .int .i64 (p : Int), .int .i64 (q : Int)], .int .i64 (bt : Int)] w (PcTo B (add bt i p j q r).reverse w) := by
  obtain ⟨iP, hI, hI0, hI1, hI2⟩ := info_parts infoP
  have hal : Below B w (w.alloc (.cells #[.int .i64 (i : Int), .int .i64 (j : Int), .int .i64 (p : Int), .int .i64 (q : Int)] 51)) := (Below.refl _ w).alloc hB _
  cases r with
  | nil =>
    have hown : w.ownsRow B 51 4 v 0 [] := hv
    obtain ⟨a, c, rfl, _⟩ := hv.form
    clear hv hr hl
    go_enter Try.func29, Try.ntmps29
    go_wp2_with fail
    go_region
    go_wp2_with (at_builtin; refine wpList_append_own _ rfl _ _ 47 rfl B 51 iP (.agg #[.int .i64 0, .int .i64 0, .int .i64 0, .int .i64 0]) 4 32 Try.underlying47 hI hI0 hI1 hI2 rfl (by decide) _ _ _ rfl (((hown.alloc _).drew).alloc _) ⟨w.heap.size + 1, 0, none⟩ 1 1 (p4 ⟨i, p, j, q⟩) rfl rfl ?c1 ?c2 ?c3 ?c4 ?c5 ?_)
    case c1 => exact cell_four_drew _ _ _ _ _ _ _
    case c2 => exact p4_one _
    case c3 => unfold maxLen; omega
    case c4 => omega
    case c5 => simp; omega
    intro v' w2 hown' hgrow _
    have hb3 : Below B w w2 := (hal.drew.alloc (by simp; omega) _).grown hgrow (by simp; omega) (fun k hk => (hown.lt k hk).1)
    go_wp2_with fail
    go_ret
    exact ⟨_, rfl, hown', hb3⟩
  | cons l r =>
    have hli := hl l rfl
    have hown : w.ownsRow B 51 4 v (r.length + 1) ((r.reverse ++ [l]).flatMap p4) := by
      have h := hv
      unfold Pc at h
      rw [List.reverse_cons, List.length_append, List.length_reverse] at h
      exact h
    have hpc : Pc w B v (r.reverse ++ [l]) := by rw [← List.reverse_cons]; exact hv
    have hrl : (r.reverse ++ [l]).length = r.length + 1 := by simp
    obtain ⟨av, cv, rfl, hf⟩ := hpc.form
    rw [hrl] at hpc hf hown ⊢
    obtain ⟨g, rfl, hgB, hgl, hfz, hcl⟩ := hf.resolve_left (by omega)
    obtain ⟨d0, d1, d2, d3⟩ := hcl r.length l (by rw [List.getElem?_append_right (by simp), List.length_reverse, Nat.sub_self]; rfl)
    obtain ⟨R, hR⟩ : ∃ R, R = (add bt i p j q (l :: r)).reverse := ⟨_, rfl⟩
    rw [← hR]
    have hr4 : r.length ≤ 1000 := by simp only [List.length_cons] at hr; omega
    by_cases hb : i - l.t ≤ bt
    · rw [add_last hb] at hR
      have hput := hpc.last p q
      obtain ⟨k, hk⟩ : ∃ k, k = r.length := ⟨_, rfl⟩
      obtain ⟨T, hT⟩ : ∃ T, T = l.t := ⟨_, rfl⟩
      obtain ⟨V, hV⟩ : ∃ V, V = l.v := ⟨_, rfl⟩
      unfold iv at d2 d3
      rw [← hk] at d2 d3 hown hpc hput hr4 ⊢
      rw [← hV] at d3
      rw [← hT] at d2 hli hb
      have HPUT : Hid (Pc ((w.setCell ⟨g, k * 4 + 2, none⟩ (.int .i64 (p : Int))).setCell ⟨g, k * 4 + 2 + 1, none⟩ (.int .i64 (q : Int))) B (.slice (some ⟨g, 0, none⟩) (k + 1) cv) R ∧ Below B w ((w.setCell ⟨g, k * 4 + 2, none⟩ (.int .i64 (p : Int))).setCell ⟨g, k * 4 + 2 + 1, none⟩ (.int .i64 (q : Int)))) := by
        show Pc _ _ _ _ ∧ _
        rw [hR]
        exact ⟨hput, ((Below.refl _ w).setCell (p := ⟨g, _, none⟩) hgB _).setCell (p := ⟨g, _, none⟩) hgB _⟩
      have f1 := hfz (k * 4 + 2)
      have f2 : w.frozen? ⟨g, k * 4 + 2 + 1, none⟩ = false := hfz (k * 4 + 3)
      have d3' : w.cell? ⟨g, k * 4 + 2 + 1, none⟩ = some (.int .i64 (V : Int)) := d3
      have wk : IntKind.i64.wrap (((k + 1 : Nat) : Int) - 1) = (k : Int) := (IntWalk.i64_in _ (by omega)).trans (by omega)
      have wi : IntKind.i64.wrap ((i : Int) - (T : Int)) = (i : Int) - (T : Int) := IntWalk.i64_in _ (by omega)
      have e1 : ¬ (k : Int) < 0 := by omega
      have e2 : (k : Int) < ((k + 1 : Nat) : Int) := by omega
      have e3 : ¬ (bt : Int) < (i : Int) - (T : Int) := by omega
      have e4 : decide ((bt : Int) < (i : Int) - (T : Int)) = false := decide_eq_false e3
      have e5 : decide ((k : Int) < 0) = false := decide_eq_false e1
      clear hv hl hf hcl hR hrl hpc hput hk hT hV hown hfz d0 d1 d3 hb hr
      go_enter Try.func29, Try.ntmps29
      go_wp2_with fail
      go_region
      go_wp2_with fail
      go_ret
      obtain ⟨k1, k2⟩ := HPUT.out
      have k3 : Below B w (((w.setCell ⟨g, k * 4 + 2, none⟩ (.int .i64 (p : Int))).setCell ⟨g, k * 4 + 2 + 1, none⟩ (.int .i64 (q : Int))).alloc (.cells #[.int .i64 (i : Int), .int .i64 (j : Int), .int .i64 (p : Int), .int .i64 (q : Int)] 51)) := k2.alloc (by simp; omega) _
      exact ⟨_, rfl, (k1.below ((Below.refl _ _).alloc (Nat.le_refl _) _)).below ((Below.refl _ _).drew), k3.drew⟩
    · rw [add_new (fun l' hl' => by injection hl' with hl'; subst hl'; exact hb)] at hR
      obtain ⟨k, hk⟩ : ∃ k, k = r.length := ⟨_, rfl⟩
      obtain ⟨T, hT⟩ : ∃ T, T = l.t := ⟨_, rfl⟩
      unfold iv at d2
      rw [← hk] at d2 hown hpc hr4 hrl ⊢
      rw [← hT] at d2 hli hb
      have HR : Hid (R = r.reverse ++ [l] ++ [⟨i, p, j, q⟩]) := by show _ = _; rw [hR]; simp
      have HRL := Lib.hid hrl
      have wk : IntKind.i64.wrap (((k + 1 : Nat) : Int) - 1) = (k : Int) := (IntWalk.i64_in _ (by omega)).trans (by omega)
      have wi : IntKind.i64.wrap ((i : Int) - (T : Int)) = (i : Int) - (T : Int) := IntWalk.i64_in _ (by omega)
      have e1 : ¬ (k : Int) < 0 := by omega
      have e2 : (k : Int) < ((k + 1 : Nat) : Int) := by omega
      have e3 : (bt : Int) < (i : Int) - (T : Int) := by omega
      have e4 : decide ((bt : Int) < (i : Int) - (T : Int)) = true := decide_eq_true e3
      have e5 : decide ((k : Int) < 0) = false := decide_eq_false e1
      clear hv hl hf hcl hR hrl hpc hk hT hfz d0 d1 d3 hb hr
      go_enter Try.func29, Try.ntmps29
      go_wp2_with fail
      go_region
      go_wp2_with (at_builtin; refine wpList_append_own _ rfl _ _ 47 rfl B 51 iP (.agg #[.int .i64 0, .int .i64 0, .int .i64 0, .int .i64 0]) 4 32 Try.underlying47 hI hI0 hI1 hI2 rfl (by decide) _ _ _ rfl (((hown.alloc _).drew).alloc _) ⟨w.heap.size + 1, 0, none⟩ 1 1 (p4 ⟨i, p, j, q⟩) rfl rfl ?c1 ?c2 ?c3 ?c4 ?c5 ?_)
      case c1 => exact cell_four_drew _ _ _ _ _ _ _
      case c2 => exact p4_one _
      case c3 => unfold maxLen; omega
      case c4 => omega
      case c5 => simp; omega
      intro v' w2 hown' hgrow _
      have hb3 : Below B w w2 := (hal.drew.alloc (by simp; omega) _).grown hgrow (by simp; omega) (fun k hk => (hown.lt k hk).1)
      have hpr : Pc w2 B v' (r.reverse ++ [l] ++ [⟨i, p, j, q⟩]) := by
        unfold Pc
        rw [List.flatMap_append, List.length_append, HRL.out]
        simpa using hown'
      go_wp2_with fail
      go_ret
      rw [HR.out]
      exact ⟨_, rfl, hpr, hb3⟩
end Go.Proofs.Ytoncghamkedhcaa.Kd

namespace Go.Proofs.Ytoncghamkedhcaa.Ud
open Go.RowKit Tx Um Aq
set_option linter.unusedVariables false
def num : List ByteArray → ByteArray → Nat
  | [], _ => 0
  | y :: M, x => if y = x then 0 else num M x + 1
theorem num_le (M : List ByteArray) (x : ByteArray) : num M x ≤ M.length := by
  induction M with
  | nil => exact Nat.le_refl _
  | cons y M ih => unfold num; rw [List.length_cons]; split <;> omega
theorem num_app (M r : List ByteArray) (x : ByteArray) (h : num M x < M.length) : num (M ++ r) x = num M x := by
  induction M with
  | nil => cases h
  | cons y M ih =>
    rw [List.cons_append]
    unfold num at h ⊢
    by_cases e : y = x
    · rw [if_pos e, if_pos e]
    · rw [if_neg e] at h
      rw [if_neg e, if_neg e, ih (by rw [List.length_cons] at h; omega)]
theorem num_new (M : List ByteArray) (x : ByteArray) (h : ¬ num M x < M.length) : num (M ++ [x]) x = M.length := by
  induction M with
  | nil => show num [x] x = 0; unfold num; rw [if_pos rfl]
  | cons y M ih =>
    rw [List.cons_append]
    unfold num at h ⊢
    by_cases e : y = x
    · rw [if_pos e] at h; exact absurd (Nat.succ_pos _) h
    · rw [if_neg e] at h
      rw [if_neg e, ih (by rw [List.length_cons] at h; omega), List.length_cons]
theorem num_inj (M : List ByteArray) (x y : ByteArray) (h : num M x < M.length) (he : num M x = num M y) : x = y := by
  induction M with
  | nil => cases h
  | cons z M ih =>
    unfold num at h he
    by_cases e : z = x
    · rw [if_pos e] at he
      by_cases e2 : z = y
      · exact e.symm.trans e2
      · rw [if_neg e2] at he; cases he
    · rw [if_neg e] at h he
      by_cases e2 : z = y
      · rw [if_pos e2] at he; cases he
      · rw [if_neg e2] at he
        exact ih (by rw [List.length_cons] at h; omega) (by omega)
theorem num_other (M : List ByteArray) (x y : ByteArray) (h : x ≠ y) (hy : ¬ num M y < M.length) : num (M ++ [x]) y = M.length + 1 := by
  induction M with
  | nil => show num [x] y = 1; unfold num; rw [if_neg h]; rfl
  | cons z M ih =>
    rw [List.cons_append]
    unfold num at hy ⊢
    by_cases e : z = y
    · rw [if_pos e] at hy; exact absurd (Nat.succ_pos _) hy
    · rw [if_neg e] at hy
      rw [if_neg e, ih (by rw [List.length_cons] at hy; omega), List.length_cons]
def ad (M : List ByteArray) (x : ByteArray) : List ByteArray := if num M x < M.length then M else M ++ [x]
def ads (M l : List ByteArray) : List ByteArray := l.foldl ad M
theorem ad_has (M : List ByteArray) (x : ByteArray) : num (ad M x) x < (ad M x).length := by
  unfold ad
  split
  · assumption
  · rename_i h
    rw [num_new M x h, List.length_append]
    exact Nat.lt_succ_self _
theorem ad_keeps (M : List ByteArray) (x y : ByteArray) (h : num M y < M.length) : num (ad M x) y = num M y ∧ num (ad M x) y < (ad M x).length := by
  unfold ad
  split
  · exact ⟨rfl, h⟩
  · rw [num_app M [x] y h, List.length_append]
    exact ⟨rfl, by omega⟩
theorem ad_len (M : List ByteArray) (x : ByteArray) : (ad M x).length ≤ M.length + 1 := by
  unfold ad
  split
  · omega
  · rw [List.length_append]; exact Nat.le_refl _
theorem ads_keeps (l : List ByteArray) : ∀ (M : List ByteArray) (y : ByteArray), num M y < M.length → num (ads M l) y = num M y ∧ num (ads M l) y < (ads M l).length := by
  induction l with
  | nil => intro M y h; exact ⟨rfl, h⟩
  | cons x l ih =>
    intro M y h
    obtain ⟨h1, h2⟩ := ad_keeps M x y h
    obtain ⟨h3, h4⟩ := ih (ad M x) y h2
    exact ⟨h3.trans h1, h4⟩
theorem ads_len (l : List ByteArray) : ∀ (M : List ByteArray), (ads M l).length ≤ M.length + l.length := by
  induction l with
  | nil => intro M; exact Nat.le_refl _
  | cons x l ih =>
    intro M
    have h1 := ih (ad M x)
    have h2 := ad_len M x
    have h3 : ads M (x :: l) = ads (ad M x) l := rfl
    rw [h3, List.length_cons]
    omega
theorem ads_has (l : List ByteArray) : ∀ (M : List ByteArray) (y : ByteArray), y ∈ l → num (ads M l) y < (ads M l).length := by
  induction l with
  | nil => intro M y h; cases h
  | cons x l ih =>
    intro M y h
    rcases List.mem_cons.1 h with rfl | h
    · exact (ads_keeps l (ad M y) y (ad_has M y)).2
    · exact ih (ad M x) y h
theorem ads_snoc (M l : List ByteArray) (x : ByteArray) : ads M (l ++ [x]) = ad (ads M l) x := by
  unfold ads
  rw [List.foldl_append]
  rfl
theorem ads_take {M l : List ByteArray} {k : Nat} {x : ByteArray} (h : l[k]? = some x) : ads M (l.take (k + 1)) = ad (ads M (l.take k)) x := by
  obtain ⟨h1, h2⟩ := List.getElem?_eq_some_iff.1 h
  rw [List.take_add_one, h, ← ads_snoc]
  rfl
def kLn (p : ByteArray) : Lit := .string p.data.toList
theorem kLn_inj {p q : ByteArray} (h : kLn p = kLn q) : p = q := by
  unfold kLn at h
  injection h with h
  exact ByteArray.ext (Array.toList_inj.1 h)
theorem strKn : Go.Maps.Keyed Try.prog 9 := Go.Maps.string_keyed Try.underlying9
theorem keyPn {p : ByteArray} (hp : p.size ≤ maxLen) : keyOf Try.prog 9 (.string p) = some (kLn p) := Go.WideMaps.keyOf_string_mk Try.underlying9 hp
theorem zeroNn (w : World) : (zeroValue 3).run Try.prog w = .ok (.int .i64 0) w := by kernel_rfl
def ReadsN (D : DataW Unit) (M : List ByteArray) : Prop := ∀ p z, D.atKey (kLn p) z = if num M p < M.length then .lit (.int .i64 (num M p : Nat)) else z
def Nm (w : World) (bm : Nat) (M : List ByteArray) : Prop := ∃ D : DataW Unit, w.ownsMap Try.prog 9 (plainElem Try.prog 3) bm M.length D ∧ ReadsN D M ∧ Go.Maps.size D = M.length
theorem Nm.lt {w : World} {bm : Nat} {M : List ByteArray} (h : Nm w bm M) : bm < w.heap.size := by
  obtain ⟨D, h, _⟩ := h
  exact h.lt
theorem Nm.kept {w w1 : World} {bm : Nat} {M : List ByteArray} (h : Nm w bm M) (he : w1.heap[bm]? = w.heap[bm]?) : Nm w1 bm M := by
  obtain ⟨D, ⟨es, clock, hb, r⟩, q⟩ := h
  exact ⟨D, ⟨es, clock, he.trans hb, r⟩, q⟩
theorem readsN_has {D : DataW Unit} {M : List ByteArray} (h : ReadsN D M) (v : ByteArray) : Go.Maps.has D (kLn v) = decide (num M v < M.length) := by
  by_cases hf : num M v < M.length
  · rw [decide_eq_true hf]
    exact Go.Maps.has_true_of_atKey (y := .lit (.int .i64 (num M v : Nat))) fun z => by rw [h v z, if_pos hf]
  · rw [decide_eq_false hf]
    exact Go.Maps.has_false_of_atKey fun z => by rw [h v z, if_neg hf]
theorem Nm.look {w : World} {bm : Nat} {M : List ByteArray} (h : Nm w bm M) {v : ByteArray} (hp : v.size ≤ maxLen) :
    (Instr.lookup 73 (.map (some bm)) (.string v) true).run Try.prog w = .ok (.tuple #[.int .i64 (if num M v < M.length then (num M v : Nat) else 0 : Nat), .bool (decide (num M v < M.length))]) w := by
  obtain ⟨D, ho, hr, _⟩ := h
  obtain ⟨u, ps, hrun, hv⟩ := ho.look_ok strKn Try.underlying73 (zeroNn w) (plainElem_int Try.underlying3 (by decide)) (keyPn hp)
  rw [hrun, readsN_has hr]
  obtain ⟨c, rfl, hc, hwc⟩ := plainElem_int_inv Try.underlying3 hv
  have hc := congrArg Prod.fst hc
  simp only [hr v] at hc
  by_cases hf : num M v < M.length
  · rw [if_pos hf] at hc ⊢
    cases hc
    rfl
  · rw [if_neg hf] at hc ⊢
    cases hc
    rfl
theorem Nm.len {w : World} {bm : Nat} {M : List ByteArray} (h : Nm w bm M) (ty : TypeId) : (Builtin.len_ #[73] ty #[.map (some bm)]).run Try.prog w = .ok (.int .i64 (M.length : Nat)) w := by
  obtain ⟨D, ho, _, hs⟩ := h
  rw [ho.len Try.underlying73 ty, hs]
theorem Nm.store {w : World} {bm : Nat} {M : List ByteArray} (h : Nm w bm M) {v : ByteArray} (hp : v.size ≤ maxLen) (hn : M.length ≤ 1000) (hv : ¬ num M v < M.length) :
    ∃ w', (Instr.mapUpdate 73 (.map (some bm)) (.string v) (.int .i64 (M.length : Nat))).run Try.prog w = .ok () w' ∧ Nm w' bm (M ++ [v]) ∧ w.grownBy w' (some bm) := by
  obtain ⟨D, ho, hr, hs⟩ := h
  have hw : (Lit.int .i64 (M.length : Nat)).wf = true := by simp [Lit.wf, IntKind.min, IntKind.max, IntKind.signed, IntKind.bits]; omega
  obtain ⟨w', hrun, ho', ht⟩ := ho.store strKn Try.underlying73 (by unfold maxLen; omega) (keyPn hp) (plainElem_int Try.underlying3 hw)
  have hsz : Go.Maps.size (D.put (kLn v) (.lit (.int .i64 (M.length : Nat)))) = (M ++ [v]).length := by
    have h1 := Go.Maps.size_put (ho.tidy strKn) (k := kLn v) (.lit (.int .i64 (M.length : Nat)))
    rw [readsN_has hr, decide_eq_false hv] at h1
    rw [h1, hs, List.length_append]
    rfl
  refine ⟨w', hrun, ⟨_, ?_, fun p z => ?_, hsz⟩, ht.grown⟩
  · rw [List.length_append]
    exact ho'.mono (by simp)
  · by_cases he : p = v
    · subst he
      rw [Go.Maps.atKey_put_same ho.isMap (by trivial), num_new M p hv, List.length_append, if_pos (by simp)]
    · rw [Go.Maps.atKey_put_other (fun e => he (kLn_inj e)), hr p z]
      by_cases hf : num M p < M.length
      · rw [if_pos hf, num_app M [v] p hf, if_pos (by rw [List.length_append]; omega)]
      · rw [if_neg hf, num_other M v p (fun e => he e.symm) hf, if_neg (by rw [List.length_append]; exact Nat.lt_irrefl _)]
theorem nm_made (w : World) : Nm (w.alloc (.map #[] 0)) w.heap.size [] := ⟨_, World.ownsMap_made w _ _ _, fun p z => rfl, rfl⟩
end Go.Proofs.Ytoncghamkedhcaa.Ud

namespace Go.Proofs.Ytoncghamkedhcaa.Ud
open Go.RowKit Tx Um Aq
set_option linter.unusedVariables false
def Nk (w0 : World) (g bm : Nat) (M l : List ByteArray) (k : Nat) (w : World) : Prop :=
  Nm w bm (ads M (l.take k)) ∧ (∃ ys, w.ownsRow w0.heap.size 3 1 (.slice (some ⟨g, 0, none⟩) l.length l.length) l.length ys ∧ ∀ (j : Nat) x, j < k → l[j]? = some x → ys[j]? = some (iv (num (ads M (l.take k)) x)) ∧ num (ads M (l.take k)) x < (ads M (l.take k)).length) ∧ w0.grownBy w (some bm)
theorem Nk.done {w0 w : World} {g bm : Nat} {M l : List ByteArray} (h : Nk w0 g bm M l l.length w) : Ints w w0.heap.size (.slice (some ⟨g, 0, none⟩) l.length l.length) (l.map (num (ads M l))) ∧ Nm w bm (ads M l) ∧ w0.grownBy w (some bm) := by
  obtain ⟨h1, ⟨ys, h2, h3⟩, h4⟩ := h
  rw [List.take_length] at h1 h3
  refine ⟨?_, h1, h4⟩
  unfold Ints
  rw [List.length_map]
  have e : ys = (l.map (num (ads M l))).map iv := by
    apply List.ext_getElem?
    intro j
    by_cases hj : j < l.length
    · rw [(h3 j l[j] hj (List.getElem?_eq_getElem hj)).1, List.getElem?_map, List.getElem?_map, List.getElem?_eq_getElem hj]
      rfl
    · have hy := h2.1
      rw [List.getElem?_eq_none (by omega), List.getElem?_eq_none (by simp; omega)]
  rw [← e]
  exact h2
theorem Nk.put {w0 w : World} {g bm : Nat} {M l : List ByteArray} {k : Nat} {x : ByteArray} (h : Nk w0 g bm M l k w) (hx : l[k]? = some x) (hg : g ≠ bm) (hg0 : w0.heap.size ≤ g) (w1 : World) (hm : Nm w1 bm (ad (ads M (l.take k)) x)) (hg1 : w.grownBy w1 (some bm)) (c : Nat) (hc : c = num (ad (ads M (l.take k)) x) x) :
    Nk w0 g bm M l (k + 1) (w1.setCell ⟨g, k, none⟩ (.int .i64 (c : Int))) := by
  obtain ⟨h1, ⟨ys, h2, h3⟩, h4⟩ := h
  have hk := (List.getElem?_eq_some_iff.1 hx).1
  have h2' := h2.kept hg1 (.inr (fun e => hg (by injection e)))
  unfold Nk
  rw [ads_take hx]
  refine ⟨hm.kept (Below.heap_setCell w1 ⟨g, k, none⟩ _ bm (fun e => hg e.symm)), ⟨_, own_store h2' (by simpa using hk) (.int .i64 (c : Int)), fun j y hj hy => ?_⟩, ?_⟩
  · by_cases e : j = k
    · subst e
      rw [hx] at hy
      injection hy with hy
      subst hy
      rw [List.getElem?_set_self (by rw [h2.1]; omega), ← hc]
      refine ⟨rfl, ?_⟩
      rw [hc]
      exact ad_has _ _
    · rw [List.getElem?_set_ne (fun e2 => e e2.symm)]
      obtain ⟨h5, h6⟩ := h3 j y (by omega) hy
      obtain ⟨h7, h8⟩ := ad_keeps _ x y h6
      rw [h5, h7]
      exact ⟨rfl, by rw [h7] at h8; exact h8⟩
  · exact (h4.trans hg1).andThen (row' := some g) ⟨rfl, rfl, rfl, by simp [World.setCell], fun i _ hi => Below.heap_setCell w1 ⟨g, k, none⟩ _ i (fun e => hi (by rw [e]))⟩ (fun j hj => by injection hj with hj; exact .inl (by omega))
def NumTo (w : World) (bm : Nat) (M l : List ByteArray) (e : Ending) (w' : World) : Prop := ∃ v, e = .returned v ∧ Ints w' w.heap.size v (l.map (num (ads M l))) ∧ Nm w' bm (ads M l) ∧ w.grownBy w' (some bm)
set_option maxRecDepth 100000 in
set_option maxHeartbeats 2000000 in
theorem number_any (q bm : Nat) (A : Option Addr) (ca : Nat) (M l : List ByteArray) (w : World) (hA : Strs w A l.length l) (hsz : ∀ x, x ∈ l → x.size ≤ maxLen) (hl : l.length ≤ 400) (hM : M.length ≤ 400) (hm : Nm w bm M) (hq : w.cell? ⟨q, 0, none⟩ = some (.map (some bm))) (hqb : q ≠ bm)
    (hAb : l.length ≠ 0 → ∀ ba oa, A = some ⟨ba, oa, none⟩ → ba ≠ bm) :
    Calls Try.prog 32 #[.slice A l.length ca, .pointer (some ⟨q, 0, none⟩)] w (NumTo w bm M l) := by
  obtain ⟨iI, hI, hI0, hI1, hI2⟩ := info_parts infoInt
  have HA := Lib.hid hA
  have HAB := Lib.hid hAb
  have HSZ := Lib.hid hsz
  have HM := Lib.hid hm
  have hbl := hm.lt
  have hql : q < w.heap.size := World.block_lt_of_cell? w _ hq
  have hlen := ads_len l M
  obtain ⟨n, hn⟩ : ∃ n, n = l.length := ⟨_, rfl⟩
  rw [← hn] at hl hlen ⊢
  have HN := Lib.hid hn
  have HQB := Lib.hid hqb
  clear hA hAb hsz hm hn hqb
  go_enter Try.func32, Try.ntmps32
  go_wp2_with (at_make; refine wpList_make_full _ rfl _ _ _ rfl w.heap.size 3 iI (.int .i64 0) 1 Try.underlying59 hI hI0 hI1 _ _ _ _ n rfl rfl rfl rfl (by rw [hI2]; omega) (by unfold maxLen; omega) (Nat.le_refl _) ?_)
  intro w1 hown1 hgrow1
  obtain ⟨g, hg⟩ : ∃ g, g = w.heap.size := ⟨_, rfl⟩
  have hst0 : Hid (Nk w g bm M l 0 w1) := by
    show Nk w g bm M l 0 w1
    refine ⟨HM.out.kept (hgrow1.block _ hbl (by simp)), ⟨(madeCells #[.int .i64 0] n).toList, ?_, fun j x hj => absurd hj (Nat.not_lt_zero _)⟩, hgrow1.but _⟩
    rw [← HN.out, hg]
    exact hown1
  have hgb : g ≠ bm := by omega
  have hgq : g ≠ q := by omega
  have hgw : w.heap.size ≤ g := by omega
  rw [← hg]
  have HG := Lib.hid hg
  clear hg hown1 hgrow1
  go_wp2_with fail
  go_loopw [5, 6, 7, 8, 14] (fun _ _ _ _ i wr => ∃ k : Nat, i = .int .i64 k ∧ k ≤ n ∧ Hid (Nk w g bm M l k wr)) (fun _ _ _ _ i _ => n - (intOf i).toNat)
  case atStart => exact ⟨0, rfl, Nat.zero_le _, hst0⟩
  case round =>
    obtain ⟨k, rfl, hk, HK⟩ := hrel
    clear hst0
    by_cases hlt : k < n
    · have e1 : (k : Int) < (n : Int) := by omega
      obtain ⟨x, hx⟩ : ∃ x, l[k]? = some x := ⟨_, List.getElem?_eq_getElem (by rw [← HN.out]; exact hlt)⟩
      have hxs := HSZ.out x (List.mem_iff_getElem?.2 ⟨k, hx⟩)
      obtain ⟨ba, oa, rfl, hba, hc⟩ := HA.out.2.resolve_left (by rw [← HN.out]; omega)
      have hbb := HAB.out (by rw [← HN.out]; omega) ba oa rfl
      obtain ⟨h1, ⟨ys, h2, h3⟩, h4⟩ := HK.out
      have c1 : wr.cell? ⟨ba, oa + k, none⟩ = some (.string x) := h4.cell (hc k x hx) (fun e => hbb (by injection e))
      have c2 : wr.cell? ⟨q, 0, none⟩ = some (.map (some bm)) := h4.cell hq (fun e => HQB.out (by injection e))
      have hfz := own_frozen h2 k
      have hst := own_cell h2 (List.getElem?_eq_getElem (show k < ys.length by rw [h2.1, ← HN.out]; omega))
      obtain ⟨old, hold⟩ : ∃ old, old = ys[k]'(by rw [h2.1, ← HN.out]; omega) := ⟨_, rfl⟩
      rw [← hold] at hst
      have hle := ads_len (l.take k) M
      have hltk : (l.take k).length ≤ k := List.length_take_le _ _
      have hlook := h1.look hxs
      have h1len := h1.len 3
      have hnle := num_le (ads M (l.take k)) x
      by_cases hh : num (ads M (l.take k)) x < (ads M (l.take k)).length
      · rw [if_pos hh, decide_eq_true hh] at hlook
        have hpa : ad (ads M (l.take k)) x = ads M (l.take k) := by unfold ad; rw [if_pos hh]
        have HP : Hid (Nk w g bm M l (k + 1) (wr.setCell ⟨g, k, none⟩ (.int .i64 ((num (ads M (l.take k)) x : Nat) : Int)))) := Nk.put HK.out hx hgb hgw wr (by rw [hpa]; exact h1) (World.grownBy.refl _ _) _ (by rw [hpa])
        obtain ⟨c, hcc⟩ : ∃ c, c = num (ads M (l.take k)) x := ⟨_, rfl⟩
        rw [← hcc] at HP hlook
        clear HK h1 h2 h3 h4 hc hx hold hnle hh hpa hcc hxs hba hbb h1len hq
        go_wp2_with fail
        go_roundw
        case rel => exact ⟨k + 1, by go_num, by omega, HP⟩
        case measure => simp only [intOf]; omega
      · rw [if_neg hh, decide_eq_false hh] at hlook
        obtain ⟨w2, hrun, hm2, hg2⟩ := h1.store hxs (by omega) hh
        have hpa : ad (ads M (l.take k)) x = ads M (l.take k) ++ [x] := by unfold ad; rw [if_neg hh]
        have HP : Hid (Nk w g bm M l (k + 1) (w2.setCell ⟨g, k, none⟩ (.int .i64 (((ads M (l.take k)).length : Nat) : Int)))) := Nk.put HK.out hx hgb hgw w2 (by rw [hpa]; exact hm2) hg2 _ (by rw [hpa, num_new _ _ hh])
        have hfz2 := own_frozen (h2.kept hg2 (.inr (fun e => hgb (by injection e)))) k
        have hst2 : w2.cell? ⟨g, k, none⟩ = some old := hg2.cell hst (fun e => hgb (by injection e))
        obtain ⟨c, hcc⟩ : ∃ c, c = (ads M (l.take k)).length := ⟨_, rfl⟩
        rw [← hcc] at HP hrun h1len
        clear HK h1 h2 h3 h4 hc hx hold hnle hh hpa hcc hxs hba hbb hm2 hg2 hq
        go_wp2_with fail
        go_roundw
        case rel => exact ⟨k + 1, by go_num, by omega, HP⟩
        case measure => simp only [intOf]; omega
    · have e1 : ¬ (k : Int) < (n : Int) := by omega
      obtain rfl : k = n := by omega
      have HE : Hid (NumTo w bm M l (.returned (.slice (some ⟨g, 0, none⟩) k k)) wr) := by
        show NumTo _ _ _ _ _ _
        have h := HK.out
        rw [HN.out] at h ⊢
        exact ⟨_, rfl, h.done⟩
      clear HK
      go_wp2_with fail
      go_ret
      exact HE.out
def NumbTo (a b : List ByteArray) (w : World) (e : Ending) (w' : World) : Prop := ∃ M va vb, e = .returned (.tuple #[va, vb]) ∧ Ints w' w.heap.size va (a.map (num M)) ∧ Ints w' w.heap.size vb (b.map (num M)) ∧ (∀ x, x ∈ a → num M x < M.length) ∧ Below w.heap.size w w'
set_option maxRecDepth 100000 in
set_option maxHeartbeats 2000000 in
theorem numbered_any (A B : Option Addr) (ca cb : Nat) (a b : List ByteArray) (w : World) (hA : Strs w A a.length a) (hB : Strs w B b.length b) (ha : ∀ x, x ∈ a → x.size ≤ maxLen) (hb : ∀ x, x ∈ b → x.size ≤ maxLen) (hal : a.length ≤ 400) (hbl : b.length ≤ 400) :
    Calls Try.prog 24 #[.slice A a.length ca, .slice B b.length cb] w (NumbTo a b w) := by
  have hmm := @run_makeMap Try.prog
  have hB0 : Below w.heap.size w ((w.alloc (.map #[] 0)).alloc (.cells #[.map (some w.heap.size)] 73)) := ((Below.refl _ w).alloc (Nat.le_refl _) _).alloc (by simp) _
  have hm0 : Nm ((w.alloc (.map #[] 0)).alloc (.cells #[.map (some w.heap.size)] 73)) w.heap.size [] := (nm_made w).kept (Below.heap_alloc _ _ _ (by simp))
  have hq0 : ((w.alloc (.map #[] 0)).alloc (.cells #[.map (some w.heap.size)] 73)).cell? ⟨w.heap.size + 1, 0, none⟩ = some (.map (some w.heap.size)) := by go_simp
  have hs0 : ((w.alloc (.map #[] 0)).alloc (.cells #[.map (some w.heap.size)] 73)).heap.size = w.heap.size + 2 := by simp
  have old : ∀ (W : World) (C : Option Addr) (n : Nat) (l : List ByteArray), Strs W C n l → ∀ bc oc, n ≠ 0 → C = some ⟨bc, oc, none⟩ → bc < W.heap.size := fun W C n l h bc oc hn0 hc => by
    obtain ⟨b', o', h1, h2, _⟩ := h.2.resolve_left hn0
    rw [hc] at h1
    injection h1 with h1
    injection h1 with h1
    rw [h1]
    exact h2
  have c1 := number_any (w.heap.size + 1) w.heap.size A ca [] a _ (hA.below hB0) ha hal (Nat.zero_le _) hm0 hq0 (by omega) (fun hn ba oa h => by have := old w A _ a hA ba oa hn h; omega)
  have c2 := fun w1 (hb1 : Below w.heap.size w w1) h1 h2 => number_any (w.heap.size + 1) w.heap.size B cb (ads [] a) b w1 (hB.below hb1) hb hbl (by have := ads_len a []; simp at this; omega) h1 h2 (by omega) (fun hn ba oa h => by have := old w B _ b hB ba oa hn h; omega)
  have HOLD := Lib.hid old
  unfold NumTo at c1 c2
  have C1 := Lib.hid c1
  have C2 := Lib.hid c2
  have HQ0 := Lib.hid hq0
  have HB0 := Lib.hid hB0
  clear c1 c2 hm0 hq0 hB0 hA hB ha hb old
  go_enter Try.func24, Try.ntmps24
  go_wp2_with fail
  go_at_call 32
  refine C1.out.mono ?_
  rintro e w1 ⟨va, rfl, hva, hm1, hg1⟩
  rw [hs0] at hva
  have hq1 : w1.cell? ⟨w.heap.size + 1, 0, none⟩ = some (.map (some w.heap.size)) := hg1.cell HQ0.out (fun e => by injection e with e; change w.heap.size + 1 = w.heap.size at e; omega)
  have hB1 : Below w.heap.size w w1 := HB0.out.grown hg1 HB0.out.size (fun k hk => by injection hk with hk; omega)
  have cc := Lib.hid (C2.out w1 hB1 hm1 hq1)
  have HVA := Lib.hid hva
  have HB1 := Lib.hid hB1
  clear hva hm1 hg1 hB1 C1 C2 HQ0 HB0 hs0
  go_wp2_with fail
  go_at_call 32
  refine cc.out.mono ?_
  rintro e w2 ⟨vb, rfl, hvb, hm2, hg2⟩
  have hB2 : Below w.heap.size w w2 := HB1.out.grown hg2 HB1.out.size (fun k hk => by injection hk with hk; omega)
  have hva2 : Ints w2 (w.heap.size + 2) va (a.map (num (ads [] a))) := by
    refine HVA.out.kept hg2 (.inr (fun e => ?_))
    have := HVA.out.lt _ e
    omega
  have HE : Hid (NumbTo a b w (.returned (.tuple #[va, vb])) w2) := by
    refine ⟨ads (ads [] a) b, va, vb, rfl, ?_, own_base hvb HB1.out.size, fun x hx => (ads_keeps b _ x (ads_has a [] x hx)).2, hB2⟩
    have e : a.map (num (ads (ads [] a) b)) = a.map (num (ads [] a)) := List.map_congr_left (fun x hx => (ads_keeps b _ x (ads_has a [] x hx)).1)
    rw [e]
    exact own_base hva2 (by omega)
  clear hvb hm2 hg2 hB2 hva2 cc
  go_wp2_with fail
  go_ret2
  exact HE.out
end Go.Proofs.Ytoncghamkedhcaa.Ud

namespace Go.Proofs.Ytoncghamkedhcaa.Ud
open Go.RowKit Tx Um Aq
set_option linter.unusedVariables false
def Nums (w : World) (A : Option Addr) (l : List Nat) : Prop := l.length = 0 ∨ ∃ g, A = some ⟨g, 0, none⟩ ∧ g < w.heap.size ∧ ∀ (k : Nat) x, l[k]? = some x → w.cell? ⟨g, k, none⟩ = some (.int .i64 (x : Int))
theorem Nums.kept {w w1 : World} {A : Option Addr} {l : List Nat} (h : Nums w A l) (hk : ∀ g, l.length ≠ 0 → A = some ⟨g, 0, none⟩ → w1.heap[g]? = w.heap[g]?) (hs : w.heap.size ≤ w1.heap.size) : Nums w1 A l := by
  by_cases h0 : l.length = 0
  · exact .inl h0
  · obtain ⟨g, h1, h2, h3⟩ := h.resolve_left h0
    exact .inr ⟨g, h1, Nat.lt_of_lt_of_le h2 hs, fun k x hx => cell_keep (h3 k x hx) (hk g h0 h1)⟩
theorem Nums.below {w w1 : World} {A : Option Addr} {l : List Nat} (h : Nums w A l) (hb : Below w.heap.size w w1) : Nums w1 A l :=
  h.kept (fun g h0 h1 => by
    obtain ⟨g', h2, h3, _⟩ := h.resolve_left h0
    rw [h1] at h2
    injection h2 with h2
    injection h2 with h2
    exact hb.block g (by rw [h2]; exact h3)) hb.size
theorem Nums.lt {w : World} {A : Option Addr} {l : List Nat} (h : Nums w A l) {g o : Nat} (h0 : l.length ≠ 0) (h1 : A = some ⟨g, o, none⟩) : g < w.heap.size := by
  obtain ⟨g', h2, h3, _⟩ := h.resolve_left h0
  rw [h1] at h2
  injection h2 with h2
  injection h2 with h2
  rw [h2]
  exact h3
theorem num_eq {M a : List ByteArray} (h : ∀ x, x ∈ a → num M x < M.length) {x y : ByteArray} (hx : x ∈ a) : num M x = num M y ↔ x = y := ⟨num_inj M x y (h x hx), fun e => by rw [e]⟩
theorem F_eq (a b : List ByteArray) (i j : Nat) (hi : i < a.length) (hj : j < b.length) (h : a[i] = b[j]) : F a b i j = F a b (i + 1) (j + 1) + 1 := by
  unfold F
  conv => lhs; rw [List.drop_eq_getElem_cons hi, List.drop_eq_getElem_cons hj, h, lcs_head]
theorem F_ne (a b : List ByteArray) (i j : Nat) (hi : i < a.length) (hj : j < b.length) (h : a[i] ≠ b[j]) : F a b i j = max (F a b (i + 1) j) (F a b i (j + 1)) := by
  rw [F_step a b i j hi hj, if_neg h, Nat.max_comm]
structure Tb (w : World) (B g : Nat) (r : Nat → Nat) (a b : List ByteArray) (K : Nat) (P : Nat → Nat → Prop) : Prop where
  outer : ∃ xs, w.ownsRow B 59 1 (.slice (some ⟨g, 0, none⟩) (a.length + 1) (a.length + 1)) (a.length + 1) xs
  cell : ∀ i, i < K → w.cell? ⟨g, i, none⟩ = some (.slice (some ⟨r i, 0, none⟩) (b.length + 1) (b.length + 1))
  row : ∀ i, i < K → ∃ ys, w.ownsRow B 3 1 (.slice (some ⟨r i, 0, none⟩) (b.length + 1) (b.length + 1)) (b.length + 1) ys ∧ ∀ j, j ≤ b.length → P i j → ys[j]? = some (.int .i64 (F a b i j : Nat))
  apart : ∀ i, i < K → r i ≠ g
  inj : ∀ i j, i < K → j < K → r i = r j → i = j
theorem Tb.glt {w : World} {B g K : Nat} {r : Nat → Nat} {a b : List ByteArray} {P : Nat → Nat → Prop} (h : Tb w B g r a b K P) : B ≤ g ∧ g < w.heap.size := by
  obtain ⟨xs, h1⟩ := h.outer
  exact h1.lt g rfl
theorem Tb.rlt {w : World} {B g K : Nat} {r : Nat → Nat} {a b : List ByteArray} {P : Nat → Nat → Prop} (h : Tb w B g r a b K P) {i : Nat} (hi : i < K) : B ≤ r i ∧ r i < w.heap.size := by
  obtain ⟨ys, h1, _⟩ := h.row i hi
  exact h1.lt (r i) rfl
theorem Tb.weak {w : World} {B g K : Nat} {r : Nat → Nat} {a b : List ByteArray} {P P' : Nat → Nat → Prop} (h : Tb w B g r a b K P) (hp : ∀ i j, i < K → j ≤ b.length → P' i j → P i j) : Tb w B g r a b K P' :=
  ⟨h.outer, h.cell, fun i hi => by
    obtain ⟨ys, h1, h2⟩ := h.row i hi
    exact ⟨ys, h1, fun j hj hpj => h2 j hj (hp i j hi hj hpj)⟩, h.apart, h.inj⟩
theorem Tb.drew1 {w : World} {B g K : Nat} {r : Nat → Nat} {a b : List ByteArray} {P : Nat → Nat → Prop} (h : Tb w B g r a b K P) : Tb w.drew B g r a b K P := ⟨h.outer, h.cell, h.row, h.apart, h.inj⟩
theorem Tb.make {w w1 : World} {B g K h : Nat} {r : Nat → Nat} {a b : List ByteArray} (ht : Tb w B g r a b K fun i j => i = a.length ∨ j = b.length) (hK : K ≤ a.length) (hh : h = w.heap.size) (hg1 : w.grownBy w1 none)
    (hown : w1.ownsRow B 3 1 (.slice (some ⟨h, 0, none⟩) (b.length + 1) (b.length + 1)) (b.length + 1) (List.replicate (b.length + 1) (.int .i64 0))) :
    Tb (w1.setCell ⟨g, K, none⟩ (.slice (some ⟨h, 0, none⟩) (b.length + 1) (b.length + 1))) B g (fun i => if i = K then h else r i) a b (K + 1) fun i j => i = a.length ∨ j = b.length := by
  obtain ⟨xs, h1⟩ := ht.outer
  have hg := ht.glt
  have hne : h ≠ g := by omega
  have h1' := h1.kept hg1 (.inr (by simp [Value.ownBlock]))
  have hst := own_store h1' (show K < a.length + 1 by omega) (.slice (some ⟨h, 0, none⟩) (b.length + 1) (b.length + 1))
  have e1 : ∀ q, q ≠ g → (w1.setCell ⟨g, K, none⟩ (.slice (some ⟨h, 0, none⟩) (b.length + 1) (b.length + 1))).heap[q]? = w1.heap[q]? := fun q hq => Below.heap_setCell w1 ⟨g, K, none⟩ _ q hq
  have e2 : ∀ i, i < K → (w1.setCell ⟨g, K, none⟩ (.slice (some ⟨h, 0, none⟩) (b.length + 1) (b.length + 1))).heap[r i]? = w.heap[r i]? := fun i hi => (e1 _ (ht.apart i hi)).trans (hg1.block _ (ht.rlt hi).2 (by simp))
  refine ⟨⟨_, hst⟩, fun i hi => ?_, fun i hi => ?_, fun i hi => ?_, fun i j hi hj e => ?_⟩
  · by_cases e : i = K
    · subst e
      rw [if_pos rfl]
      exact own_cell hst (List.getElem?_set_self (by rw [h1.1]; omega))
    · rw [if_neg e, World.cell?_setCell_other _ _ _ _ (fun e2 => e (by injection e2 with _ e3; exact e3.symm))]
      exact hg1.cell (ht.cell i (by omega)) (by simp)
  · by_cases e : i = K
    · subst e
      rw [if_pos rfl]
      refine ⟨_, own_stay hown (fun q hq => by simp only [Value.ownBlock, Option.some.injEq] at hq; subst hq; exact e1 _ hne), fun j hj hp => ?_⟩
      rw [List.getElem?_replicate, if_pos (by omega)]
      rcases hp with rfl | rfl
      · rw [F_end]; rfl
      · rw [F_end2]; rfl
    · rw [if_neg e]
      obtain ⟨ys, h3, h4⟩ := ht.row i (by omega)
      exact ⟨ys, own_stay h3 (fun q hq => by simp only [Value.ownBlock, Option.some.injEq] at hq; subst hq; exact e2 i (by omega)), h4⟩
  · by_cases e : i = K
    · rw [if_pos e]; exact hne
    · rw [if_neg e]; exact ht.apart i (by omega)
  · by_cases e1 : i = K
    · by_cases e2 : j = K
      · omega
      · simp only [if_pos e1, if_neg e2] at e
        have := (ht.rlt (i := j) (by omega)).2
        omega
    · by_cases e2 : j = K
      · simp only [if_neg e1, if_pos e2] at e
        have := (ht.rlt (i := i) (by omega)).2
        omega
      · simp only [if_neg e1, if_neg e2] at e
        exact ht.inj i j (by omega) (by omega) e
theorem Tb.put {w : World} {B g K : Nat} {r : Nat → Nat} {a b : List ByteArray} {P : Nat → Nat → Prop} (ht : Tb w B g r a b K P) {i j : Nat} (hi : i < K) (hj : j ≤ b.length) (c : Nat) (hc : c = F a b i j) :
    Tb (w.setCell ⟨r i, j, none⟩ (.int .i64 (c : Int))) B g r a b K fun i' j' => P i' j' ∨ (i' = i ∧ j' = j) := by
  obtain ⟨xs, h1⟩ := ht.outer
  have e1 : ∀ q, q ≠ r i → (w.setCell ⟨r i, j, none⟩ (.int .i64 (c : Int))).heap[q]? = w.heap[q]? := fun q hq => Below.heap_setCell w ⟨r i, j, none⟩ _ q hq
  have hgr : g ≠ r i := fun e => ht.apart i hi e.symm
  refine ⟨⟨xs, own_stay h1 (fun q hq => by simp only [Value.ownBlock, Option.some.injEq] at hq; subst hq; exact e1 _ hgr)⟩, fun i' hi' => cell_keep (ht.cell i' hi') (e1 g hgr), fun i' hi' => ?_, ht.apart, ht.inj⟩
  obtain ⟨ys, h3, h4⟩ := ht.row i' hi'
  by_cases e : i' = i
  · subst e
    refine ⟨_, own_store h3 (show j < b.length + 1 by omega) _, fun j' hj' hp => ?_⟩
    by_cases e2 : j' = j
    · subst e2
      rw [List.getElem?_set_self (by rw [h3.1]; omega), hc]
    · rw [List.getElem?_set_ne (fun e3 => e2 e3.symm)]
      exact h4 j' hj' (hp.resolve_right (fun h => e2 h.2))
  · exact ⟨ys, own_stay h3 (fun q hq => by simp only [Value.ownBlock, Option.some.injEq] at hq; subst hq; exact e1 _ (fun e2 => e (ht.inj i' i hi' hi e2))), fun j' hj' hp => h4 j' hj' (hp.resolve_right (fun h => e h.1))⟩
theorem Tb.tab {w : World} {B g : Nat} {r : Nat → Nat} {a b : List ByteArray} {P : Nat → Nat → Prop} (ht : Tb w B g r a b (a.length + 1) P) (hp : ∀ i j, i ≤ a.length → j ≤ b.length → P i j) : Tab w B g r a b 0 :=
  ⟨ht.outer, fun i _ hi => ht.cell i (by omega), fun i _ hi j hj => by
    obtain ⟨ys, h3, h4⟩ := ht.row i (by omega)
    exact own_cell h3 (h4 j hj (hp i j hi hj)), fun i _ hi => ⟨ht.apart i (by omega), (ht.rlt (i := i) (by omega)).2⟩⟩
theorem Tb.val {w : World} {B g K : Nat} {r : Nat → Nat} {a b : List ByteArray} {P : Nat → Nat → Prop} (ht : Tb w B g r a b K P) {i j : Nat} (hi : i < K) (hj : j ≤ b.length) (hp : P i j) : w.cell? ⟨r i, j, none⟩ = some (.int .i64 (F a b i j : Nat)) := by
  obtain ⟨ys, h3, h4⟩ := ht.row i hi
  exact own_cell h3 (h4 j hj hp)
theorem Tb.any {w : World} {B g K : Nat} {r : Nat → Nat} {a b : List ByteArray} {P : Nat → Nat → Prop} (ht : Tb w B g r a b K P) {i j : Nat} (hi : i < K) (hj : j ≤ b.length) : (∃ u, w.cell? ⟨r i, j, none⟩ = some u) ∧ w.frozen? ⟨r i, j, none⟩ = false := by
  obtain ⟨ys, h3, h4⟩ := ht.row i hi
  have : j < ys.length := by rw [h3.1]; omega
  exact ⟨⟨ys[j], own_cell h3 (List.getElem?_eq_getElem this)⟩, own_frozen h3 j⟩
theorem Tb.gany {w : World} {B g K : Nat} {r : Nat → Nat} {a b : List ByteArray} {P : Nat → Nat → Prop} (ht : Tb w B g r a b K P) {i : Nat} (hi : i ≤ a.length) : (∃ u, w.cell? ⟨g, i, none⟩ = some u) ∧ w.frozen? ⟨g, i, none⟩ = false := by
  obtain ⟨xs, h3⟩ := ht.outer
  have : i < xs.length := by rw [h3.1]; omega
  exact ⟨⟨xs[i], own_cell h3 (List.getElem?_eq_getElem this)⟩, own_frozen h3 i⟩
end Go.Proofs.Ytoncghamkedhcaa.Ud

namespace Go.Proofs.Ytoncghamkedhcaa.Ud
open Go.RowKit Tx Um Aq
set_option linter.unusedVariables false
set_option maxRecDepth 100000 in
set_option maxHeartbeats 4000000 in
theorem lengths_any (A B : Option Addr) (ca cb : Nat) (M a b : List ByteArray) (w : World) (hM : ∀ x, x ∈ a → num M x < M.length) (hm4 : a.length ≤ 400) (hn4 : b.length ≤ 400) (hA : Nums w A (a.map (num M))) (hB : Nums w B (b.map (num M))) :
    Calls Try.prog 25 #[.slice A a.length ca, .slice B b.length cb] w (TableTo a b w) := by
  obtain ⟨iI, hI, hI0, hI1, hI2⟩ := info_parts infoInt
  obtain ⟨iS, hS, hS0, hS1, hS2⟩ := info_parts infoInts
  have HAS := Lib.hid hA
  have HBS := Lib.hid hB
  have HMM := Lib.hid hM
  clear hA hB hM
  obtain ⟨m, hm⟩ : ∃ m, m = a.length := ⟨_, rfl⟩
  obtain ⟨n, hn⟩ : ∃ n, n = b.length := ⟨_, rfl⟩
  rw [← hm] at hm4 ⊢
  rw [← hn] at hn4 ⊢
  have HM := Lib.hid hm
  have HN := Lib.hid hn
  clear hm hn
  go_enter Try.func25, Try.ntmps25
  go_wp2_with (at_make; refine wpList_make_full _ rfl _ _ _ rfl w.heap.size 59 iS (.slice none 0 0) 1 Try.underlying62 hS hS0 hS1 _ _ _ _ (m + 1) rfl rfl rfl rfl (by rw [hS2]; omega) (by unfold maxLen; omega) (Nat.le_refl _) ?_)
  intro w1 hown1 hgrow1
  have hB1 : Below w.heap.size w w1 := (Below.refl _ w).grown hgrow1 (Nat.le_refl _) (fun k hk => by cases hk)
  obtain ⟨B0, hB0⟩ : ∃ B0, B0 = w.heap.size := ⟨_, rfl⟩
  obtain ⟨g, hg⟩ : ∃ g, g = w.heap.size := ⟨_, rfl⟩
  rw [← hg] at hown1 ⊢
  have hgB : B0 ≤ g := by omega
  have hT1 : Hid (Tb w1 B0 g (fun _ => 0) a b 0 fun i j => i = a.length ∨ j = b.length) := by
    show Tb _ _ _ _ _ _ _ _
    refine ⟨⟨(madeCells #[.slice none 0 0] (m + 1)).toList, ?_⟩, fun i hi => by omega, fun i hi => by omega, fun i hi => by omega, fun i j hi => by omega⟩
    rw [hB0, ← HM.out, ← hg]
    exact hown1
  rw [← hB0] at hB1
  have HB0 := Lib.hid hB0
  clear hg hgrow1 hB0 hown1
  go_wp2_with fail
  go_loopw [6, 15] (fun _ i wr => ∃ (k : Nat) (r : Nat → Nat), i = .int .i64 (k : Int) ∧ k ≤ m + 1 ∧ Hid (Tb wr B0 g r a b k fun i j => i = a.length ∨ j = b.length) ∧ Below B0 w wr) (fun _ i _ => m + 1 - (intOf i).toNat)
  case atStart => exact ⟨0, _, rfl, Nat.zero_le _, hT1, hB1⟩
  case round =>
    obtain ⟨k, r, rfl, hk, hT, hb⟩ := hrel
    clear hT1 hB1
    by_cases hlt : k < m + 1
    · have e1 : (k : Int) < (m : Int) + 1 := by omega
      have hszB : B0 ≤ wr.heap.size := by have := HB0.out; have := hb.size; omega
      go_wp2_with (at_make; refine wpList_make_full _ rfl _ _ _ rfl B0 3 iI (.int .i64 0) 1 Try.underlying59 hI hI0 hI1 _ _ _ _ (n + 1) rfl rfl rfl rfl (by rw [hI2]; omega) (by unfold maxLen; omega) hszB ?_)
      intro w3 hown3 hgrow3
      obtain ⟨h, hh⟩ : ∃ h, h = wr.heap.size := ⟨_, rfl⟩
      rw [← hh] at hown3 ⊢
      have ho3 : w3.ownsRow B0 3 1 (.slice (some ⟨h, 0, none⟩) (b.length + 1) (b.length + 1)) (b.length + 1) (List.replicate (b.length + 1) (.int .i64 0)) := by rw [← HN.out, ← made_zero]; simpa using hown3
      have hT4 : Hid (Tb (w3.setCell ⟨g, k, none⟩ (.slice (some ⟨h, 0, none⟩) (n + 1) (n + 1))) B0 g (fun i => if i = k then h else r i) a b (k + 1) fun i j => i = a.length ∨ j = b.length) := by
        show Tb _ _ _ _ _ _ _ _
        have h := hT.out.make (by rw [← HM.out]; omega) hh hgrow3 ho3
        rw [HN.out]
        exact h
      have hb4 : Below B0 w (w3.setCell ⟨g, k, none⟩ (.slice (some ⟨h, 0, none⟩) (n + 1) (n + 1))) := (hb.grown hgrow3 hszB (fun k hk => by cases hk)).setCell (p := ⟨g, k, none⟩) hgB _
      obtain ⟨⟨old, hst⟩, hfz⟩ := hT.out.gany (i := k) (by rw [← HM.out]; omega)
      have hgl := hT.out.glt.2
      have hst3 : w3.cell? ⟨g, k, none⟩ = some old := hgrow3.cell hst (by simp)
      have hfz3 : w3.frozen? ⟨g, k, none⟩ = false := (hgrow3.frozen_far ⟨g, k, none⟩ hgl (by simp)).trans hfz
      clear hown3 hgrow3 ho3 hT hst hfz hb hszB hgl hh
      go_wp2_with fail
      go_roundw
      case rel => exact ⟨k + 1, _, by go_num, by omega, hT4, hb4⟩
      case measure => simp [intOf]; try omega
    · obtain rfl : k = m + 1 := by omega
      have e1 : ¬ ((m + 1 : Nat) : Int) < (m : Int) + 1 := by omega
      have hT0 : Hid (Tb wr B0 g r a b (a.length + 1) fun i j => m ≤ i ∨ j = b.length) := by
        show Tb _ _ _ _ _ _ _ _
        have h := hT.out
        rw [HM.out] at h ⊢
        exact h.weak (fun i j hi hj hp => hp.imp (fun h => by omega) id)
      clear hT
      go_wp2_with fail
      go_loopw [7, 8] (fun i _ wr => ∃ k : Nat, i = .int .i64 ((k : Int) - 1) ∧ k ≤ m ∧ Hid (Tb wr B0 g r a b (a.length + 1) fun i j => k ≤ i ∨ j = b.length) ∧ Below B0 w wr) (fun i _ _ => (intOf i + 1).toNat)
      case atStart => exact ⟨m, rfl, Nat.le_refl _, hT0, hb⟩
      case round =>
        obtain ⟨k, rfl, hk, hT, hb⟩ := hrel
        clear hT0
        rcases k with _ | q
        · have e2 : ¬ (0 : Int) ≤ ((0 : Nat) : Int) - 1 := by omega
          go_wp2_with fail
          go_ret
          unfold TableTo
          rw [← HB0.out, ← HM.out]
          exact ⟨g, r, rfl, hT.out.tab (fun i j hi hj => .inl (Nat.zero_le _)), hb⟩
        · rw [show (((q + 1 : Nat) : Int) - 1) = (q : Int) by omega]
          have hT3 : Hid (Tb wr B0 g r a b (a.length + 1) fun i j => q + 1 ≤ i ∨ j = b.length ∨ (i = q ∧ n ≤ j)) := hT.out.weak (fun i j hi hj hp => by rcases hp with h | h | h; exact .inl h; exact .inr h; have := HN.out; exact .inr (by omega))
          clear hT
          go_wp2_with fail
          go_loopw [8] (fun j wx => ∃ k : Nat, j = .int .i64 ((k : Int) - 1) ∧ k ≤ n ∧ Hid (Tb wx B0 g r a b (a.length + 1) fun i j => q + 1 ≤ i ∨ j = b.length ∨ (i = q ∧ k ≤ j)) ∧ Below B0 w wx) (fun j _ => (intOf j + 1).toNat)
          case atStart => exact ⟨n, rfl, Nat.le_refl _, hT3, hb⟩
          case round =>
            obtain ⟨k, rfl, hkn, hT, hb⟩ := hrel
            clear hT3
            rcases k with _ | p
            · have e2 : ¬ (0 : Int) ≤ ((0 : Nat) : Int) - 1 := by omega
              have hT4 : Hid (Tb wr B0 g r a b (a.length + 1) fun i j => q ≤ i ∨ j = b.length) := hT.out.weak (fun i j hi hj hp => by
                rcases hp with h | h
                · by_cases e : i = q
                  · exact .inr (.inr ⟨e, Nat.zero_le _⟩)
                  · exact .inl (by omega)
                · exact .inr (.inl h))
              clear hT
              go_wp2_with fail
              go_roundw
              case rel => exact ⟨q, by go_num, by omega, hT4, hb⟩
              case measure => simp [intOf]; try omega
            · rw [show (((p + 1 : Nat) : Int) - 1) = (p : Int) by omega]
              have hqa : q < a.length := by rw [← HM.out]; omega
              have hpb : p < b.length := by rw [← HN.out]; omega
              obtain ⟨ga, rfl, hga, hca⟩ := HAS.out.resolve_left (by rw [List.length_map]; omega)
              obtain ⟨gb, rfl, hgb, hcb⟩ := HBS.out.resolve_left (by rw [List.length_map]; omega)
              rw [← HB0.out] at hga hgb
              have c1 := (hb.cell (p := ⟨ga, q, none⟩) hga).trans (hca q (num M a[q]) (by rw [List.getElem?_map, List.getElem?_eq_getElem hqa]; rfl))
              have c2 := (hb.cell (p := ⟨gb, p, none⟩) hgb).trans (hcb p (num M b[p]) (by rw [List.getElem?_map, List.getElem?_eq_getElem hpb]; rfl))
              have hiff := num_eq HMM.out (y := b[p]) (List.getElem_mem hqa)
              have d1 := hT.out.cell q (by omega)
              have d2 := hT.out.cell (q + 1) (by omega)
              obtain ⟨⟨old, hst⟩, hfz⟩ := hT.out.any (i := q) (j := p) (by omega) (by omega)
              have wq : IntKind.i64.wrap ((q : Int) + 1) = (q : Int) + 1 := IntWalk.i64_in _ (by omega)
              have wp : IntKind.i64.wrap ((p : Int) + 1) = (p : Int) + 1 := IntWalk.i64_in _ (by omega)
              have nq : ((q : Int) + 1).toNat = q + 1 := by omega
              have np : ((p : Int) + 1).toNat = p + 1 := by omega
              have zq : (0 : Int) ≤ (q : Int) + 1 := by omega
              have zp : (0 : Int) ≤ (p : Int) + 1 := by omega
              have f1 : (p : Int) + 1 < (n : Int) + 1 := by omega
              have f2 : (p : Int) < (n : Int) + 1 := by omega
              have f3 : (q : Int) + 1 < (m : Int) + 1 := by omega
              have f4 : (q : Int) < (m : Int) + 1 := by omega
              have f5 : (q : Int) < (m : Int) := by omega
              have f6 : (p : Int) < (n : Int) := by omega
              have hput := fun c hc => (hT.out.put (i := q) (j := p) (by omega) (by omega) c hc).weak (P' := fun i j => q + 1 ≤ i ∨ j = b.length ∨ (i = q ∧ p ≤ j)) (fun i j hi hj hp => by
                rcases hp with h | h | h
                · exact .inl (.inl h)
                · exact .inl (.inr (.inl h))
                · by_cases e : j = p
                  · exact .inr ⟨h.1, e⟩
                  · exact .inl (.inr (.inr ⟨h.1, by omega⟩)))
              have hbp := fun u : Value => hb.setCell (p := ⟨r q, p, none⟩) (hT.out.rlt (i := q) (by omega)).1 u
              rw [← HN.out] at d1 d2
              by_cases he : a[q] = b[p]
              · have hF := F_eq a b q p hqa hpb he
                have d3 := hT.out.val (i := q + 1) (j := p + 1) (by omega) (by omega) (.inl (Nat.le_refl _))
                have hE4 := F_le a b (q + 1) (p + 1)
                have e3 : (((num M a[q] : Nat) : Int) == ((num M b[p] : Nat) : Int)) = true := by rw [he]; exact beq_self_eq_true _
                have HP := Lib.hid (hput _ hF.symm)
                have HB := Lib.hid (hbp (.int .i64 ((F a b (q + 1) (p + 1) + 1 : Nat) : Int)))
                obtain ⟨X, hX⟩ : ∃ X, X = num M a[q] := ⟨_, rfl⟩
                obtain ⟨Y, hY⟩ : ∃ Y, Y = num M b[p] := ⟨_, rfl⟩
                obtain ⟨E, hE⟩ : ∃ E, E = F a b (q + 1) (p + 1) := ⟨_, rfl⟩
                obtain ⟨r0, hr0⟩ : ∃ r0, r0 = r q := ⟨_, rfl⟩
                obtain ⟨r1, hr1⟩ : ∃ r1, r1 = r (q + 1) := ⟨_, rfl⟩
                rw [← hX] at c1 e3
                rw [← hY] at c2 e3
                rw [← hE, ← hr0] at HP
                rw [← hE, ← hr0] at HB
                rw [← hr1, ← hE] at d3
                rw [← hE] at hE4
                rw [← hr0] at d1 hst hfz
                rw [← hr1] at d2
                have hE5 : E ≤ 400 := by rw [← HM.out] at hE4; omega
                have wE : IntKind.i64.wrap ((E : Int) + 1) = (E : Int) + 1 := IntWalk.i64_in _ (by omega)
                rw [show ((E + 1 : Nat) : Int) = (E : Int) + 1 by omega] at HP HB
                clear hX hY hE hr0 hr1 hF he hiff hput hbp hT hb hca hcb hE4
                go_wp2_with fail
                go_region
                go_wp2_with fail
                go_region
                go_wp2_with fail
                go_roundw
                case rel => exact ⟨p, by go_num, by omega, Lib.hid HP.out.drew1.drew1, HB.out.drew.drew⟩
                case measure => simp [intOf]; try omega
              · have hF := F_ne a b q p hqa hpb he
                have d3 := hT.out.val (i := q + 1) (j := p) (by omega) (by omega) (.inl (Nat.le_refl _))
                have d4 := hT.out.val (i := q) (j := p + 1) (by omega) (by omega) (.inr (.inr ⟨rfl, Nat.le_refl _⟩))
                have hQ4 := F_le a b (q + 1) p
                have hR4 := F_le a b q (p + 1)
                have e3 : (((num M a[q] : Nat) : Int) == ((num M b[p] : Nat) : Int)) = false := beq_eq_false_iff_ne.2 (fun e => he (hiff.1 (by omega)))
                have HP := Lib.hid (hput _ hF.symm)
                have HB := Lib.hid (hbp (.int .i64 ((max (F a b (q + 1) p) (F a b q (p + 1)) : Nat) : Int)))
                obtain ⟨X, hX⟩ : ∃ X, X = num M a[q] := ⟨_, rfl⟩
                obtain ⟨Y, hY⟩ : ∃ Y, Y = num M b[p] := ⟨_, rfl⟩
                obtain ⟨Q, hQ⟩ : ∃ Q, Q = F a b (q + 1) p := ⟨_, rfl⟩
                obtain ⟨R, hR⟩ : ∃ R, R = F a b q (p + 1) := ⟨_, rfl⟩
                obtain ⟨r0, hr0⟩ : ∃ r0, r0 = r q := ⟨_, rfl⟩
                obtain ⟨r1, hr1⟩ : ∃ r1, r1 = r (q + 1) := ⟨_, rfl⟩
                rw [← hX] at c1 e3
                rw [← hY] at c2 e3
                rw [← hQ, ← hR, ← hr0] at HP
                rw [← hQ, ← hR, ← hr0] at HB
                rw [← hr1, ← hQ] at d3
                rw [← hr0, ← hR] at d4
                rw [← hQ] at hQ4
                rw [← hR] at hR4
                rw [← hr0] at d1 hst hfz
                rw [← hr1] at d2
                have hmx : (if Q < R then (R : Int) else (Q : Int)) = ((max Q R : Nat) : Int) := by split <;> omega
                rw [← hmx] at HP HB
                clear hX hY hQ hR hr0 hr1 hF he hiff hput hbp hT hb hca hcb hQ4 hR4 hmx
                go_wp2_with fail
                go_region
                go_wp2_with fail
                go_region
                go_wp2_with fail
                go_roundw
                case rel => exact ⟨p, by go_num, by omega, Lib.hid HP.out.drew1.drew1, HB.out.drew.drew⟩
                case measure => simp [intOf]; try omega
end Go.Proofs.Ytoncghamkedhcaa.Ud

namespace Go.Proofs.Ytoncghamkedhcaa.Ud
open Go.RowKit Tx Um Aq
set_option linter.unusedVariables false
def Does (a b : List ByteArray) (p q x : Nat) : Prop :=
  (x = 0 ∧ ∃ (hp : p < a.length) (hq : q < b.length), a[p] = b[q]) ∨
  (x = 1 ∧ p < a.length ∧ (q = b.length ∨ ∃ (hp : p < a.length) (hq : q < b.length), a[p] ≠ b[q] ∧ ¬ F a b (p + 1) q < F a b p (q + 1))) ∨
  (x = 2 ∧ q < b.length ∧ (p = a.length ∨ ∃ (hp : p < a.length) (hq : q < b.length), a[p] ≠ b[q] ∧ F a b (p + 1) q < F a b p (q + 1)))
theorem Does.le {a b : List ByteArray} {p q x : Nat} (h : Does a b p q x) : x = 0 ∨ x = 1 ∨ x = 2 := by
  rcases h with ⟨h, _⟩ | ⟨h, _⟩ | ⟨h, _⟩
  · exact .inl h
  · exact .inr (.inl h)
  · exact .inr (.inr h)
def onA (p x : Nat) : Nat := if x = 2 then p else p + 1
def onB (q x : Nat) : Nat := if x = 1 then q else q + 1
theorem St.does {a b : List ByteArray} {pre : List Nat} {p q x : Nat} (h : St a b pre p q) (hx : Does a b p q x) : St a b (pre ++ [x]) (onA p x) (onB q x) := by
  rcases hx with ⟨rfl, hp, hq, he⟩ | ⟨rfl, hp, he⟩ | ⟨rfl, hq, he⟩
  · exact st_keep h hp hq he
  · exact st_drop h hp (he.imp id (fun ⟨_, hq, h1, h2⟩ => ⟨hq, h1, h2⟩))
  · exact st_add h hq (he.imp id (fun ⟨hp, _, h1, h2⟩ => ⟨hp, h1, h2⟩))
set_option maxRecDepth 100000 in
set_option maxHeartbeats 600000 in
theorem next_any (A B : Option Addr) (ca cb g p q B0 : Nat) (r : Nat → Nat) (M a b : List ByteArray) (w : World) (hM : ∀ x, x ∈ a → num M x < M.length) (hm4 : a.length ≤ 400) (hn4 : b.length ≤ 400) (hA : Nums w A (a.map (num M))) (hB : Nums w B (b.map (num M))) (hT : Tab w B0 g r a b 0)
    (hp : p ≤ a.length) (hq : q ≤ b.length) (hpq : p < a.length ∨ q < b.length) :
    Calls Try.prog 26 #[.slice A a.length ca, .slice B b.length cb, .slice (some ⟨g, 0, none⟩) (a.length + 1) (a.length + 1), .agg #[.int .i64 (p : Int), .int .i64 (q : Int)]] w fun e w' => ∃ x : Nat, e = .returned (.int .i64 (x : Int)) ∧ Does a b p q x ∧ Below w.heap.size w w' := by
  by_cases hpm : p < a.length
  · by_cases hqn : q < b.length
    · have HB0 : Below w.heap.size w (w.alloc (.cells #[.int .i64 (p : Int), .int .i64 (q : Int)] 49)) := (Below.refl _ w).alloc (Nat.le_refl _) _
      obtain ⟨ga, rfl, hga, hca⟩ := (hA.below HB0).resolve_left (by rw [List.length_map]; omega)
      obtain ⟨gb, rfl, hgb, hcb⟩ := (hB.below HB0).resolve_left (by rw [List.length_map]; omega)
      have c1 := hca p (num M a[p]) (by rw [List.getElem?_map, List.getElem?_eq_getElem hpm]; rfl)
      have c2 := hcb q (num M b[q]) (by rw [List.getElem?_map, List.getElem?_eq_getElem hqn]; rfl)
      have hiff := num_eq hM (y := b[q]) (List.getElem_mem hpm)
      have hTw := hT.below HB0
      have d1 := hTw.cell (p + 1) (Nat.zero_le _) hpm
      have d2 := hTw.cell p (Nat.zero_le _) (by omega)
      have d3 := hTw.row (p + 1) (Nat.zero_le _) hpm q (by omega)
      have d4 := hTw.row p (Nat.zero_le _) (by omega) (q + 1) hqn
      have hX4 := F_le a b (p + 1) q
      have hY4 := F_le a b p (q + 1)
      by_cases he : a[p] = b[q]
      · have e3 : (((num M a[p] : Nat) : Int) == ((num M b[q] : Nat) : Int)) = true := by rw [he]; exact beq_self_eq_true _
        have HD := Lib.hid (show Does a b p q 0 from .inl ⟨rfl, hpm, hqn, he⟩)
        obtain ⟨X, hX⟩ : ∃ X, X = num M a[p] := ⟨_, rfl⟩
        obtain ⟨Y, hY⟩ : ∃ Y, Y = num M b[q] := ⟨_, rfl⟩
        rw [← hX] at c1 e3
        rw [← hY] at c2 e3
        obtain ⟨m, hm⟩ : ∃ m, m = a.length := ⟨_, rfl⟩
        obtain ⟨n, hn⟩ : ∃ n, n = b.length := ⟨_, rfl⟩
        rw [← hm] at hm4 hpm hp  ⊢
        rw [← hn] at hn4 hqn hq  ⊢
        clear hX hY hiff hTw hX4 hY4 he hca hcb hga hgb hA hB hT hM hpq hm hn d1 d2 d3 d4
        have HBX := Lib.hid HB0
        clear HB0
        have f1 : (p : Int) < (m : Int) := by omega
        have f2 : (q : Int) < (n : Int) := by omega
        go_enter Try.func26, Try.ntmps26
        go_wp2_with fail
        go_region
        go_wp2_with fail
        go_region
        go_wp2_with fail
        go_ret
        exact ⟨0, rfl, HD.out, HBX.out.drew.drew⟩
      · have e3 : (((num M a[p] : Nat) : Int) == ((num M b[q] : Nat) : Int)) = false := beq_eq_false_iff_ne.2 (fun e => he (hiff.1 (by omega)))
        by_cases hlt : F a b (p + 1) q < F a b p (q + 1)
        · have HD := Lib.hid (show Does a b p q 2 from .inr (.inr ⟨rfl, hqn, .inr ⟨hpm, hqn, he, hlt⟩⟩))
          obtain ⟨X, hX⟩ : ∃ X, X = num M a[p] := ⟨_, rfl⟩
          obtain ⟨Y, hY⟩ : ∃ Y, Y = num M b[q] := ⟨_, rfl⟩
          rw [← hX] at c1 e3
          rw [← hY] at c2 e3
          obtain ⟨P, hP⟩ : ∃ P, P = F a b (p + 1) q := ⟨_, rfl⟩
          obtain ⟨Q, hQ⟩ : ∃ Q, Q = F a b p (q + 1) := ⟨_, rfl⟩
          obtain ⟨r1, hr1⟩ : ∃ r1, r1 = r (p + 1) := ⟨_, rfl⟩
          obtain ⟨r2, hr2⟩ : ∃ r2, r2 = r p := ⟨_, rfl⟩
          rw [← hr1] at d1 d3
          rw [← hr2] at d2 d4
          rw [← hP] at d3 hlt hX4
          rw [← hQ] at d4 hlt hY4
          obtain ⟨m, hm⟩ : ∃ m, m = a.length := ⟨_, rfl⟩
          obtain ⟨n, hn⟩ : ∃ n, n = b.length := ⟨_, rfl⟩
          rw [← hm] at hm4 hpm hp hX4 hY4 ⊢
          rw [← hn] at hn4 hqn hq d1 d2 ⊢
          clear hX hY hiff hTw hX4 hY4 he hca hcb hga hgb hA hB hT hM hpq hm hn hP hQ hr1 hr2
          have HBX := Lib.hid HB0
          clear HB0
          have f1 : (p : Int) < (m : Int) := by omega
          have f2 : (q : Int) < (n : Int) := by omega
          have e4 : ((q : Int) == (n : Int)) = false := beq_eq_false_iff_ne.2 (by omega)
          have wq : IntKind.i64.wrap ((q : Int) + 1) = (q : Int) + 1 := IntWalk.i64_in _ (by omega)
          have wp : IntKind.i64.wrap ((p : Int) + 1) = (p : Int) + 1 := IntWalk.i64_in _ (by omega)
          have nq : ((q : Int) + 1).toNat = q + 1 := by omega
          have np : ((p : Int) + 1).toNat = p + 1 := by omega
          have zq : (0 : Int) ≤ (q : Int) + 1 := by omega
          have zp : (0 : Int) ≤ (p : Int) + 1 := by omega
          have g1 : (p : Int) + 1 < (m : Int) + 1 := by omega
          have g2 : (p : Int) < (m : Int) + 1 := by omega
          have g3 : (q : Int) + 1 < (n : Int) + 1 := by omega
          have g4 : (q : Int) < (n : Int) + 1 := by omega
          have g5 : ¬ (Q : Int) ≤ (P : Int) := by omega
          have g6 : (P : Int) < (Q : Int) := by omega
          go_enter Try.func26, Try.ntmps26
          go_wp2_with fail
          go_region
          go_wp2_with fail
          go_region
          go_wp2_with fail
          go_region
          go_wp2_with fail
          go_ret
          exact ⟨2, rfl, HD.out, HBX.out.drew.drew.drew⟩
        · have HD := Lib.hid (show Does a b p q 1 from .inr (.inl ⟨rfl, hpm, .inr ⟨hpm, hqn, he, hlt⟩⟩))
          obtain ⟨X, hX⟩ : ∃ X, X = num M a[p] := ⟨_, rfl⟩
          obtain ⟨Y, hY⟩ : ∃ Y, Y = num M b[q] := ⟨_, rfl⟩
          rw [← hX] at c1 e3
          rw [← hY] at c2 e3
          obtain ⟨P, hP⟩ : ∃ P, P = F a b (p + 1) q := ⟨_, rfl⟩
          obtain ⟨Q, hQ⟩ : ∃ Q, Q = F a b p (q + 1) := ⟨_, rfl⟩
          obtain ⟨r1, hr1⟩ : ∃ r1, r1 = r (p + 1) := ⟨_, rfl⟩
          obtain ⟨r2, hr2⟩ : ∃ r2, r2 = r p := ⟨_, rfl⟩
          rw [← hr1] at d1 d3
          rw [← hr2] at d2 d4
          rw [← hP] at d3 hlt hX4
          rw [← hQ] at d4 hlt hY4
          obtain ⟨m, hm⟩ : ∃ m, m = a.length := ⟨_, rfl⟩
          obtain ⟨n, hn⟩ : ∃ n, n = b.length := ⟨_, rfl⟩
          rw [← hm] at hm4 hpm hp hX4 hY4 ⊢
          rw [← hn] at hn4 hqn hq d1 d2 ⊢
          clear hX hY hiff hTw hX4 hY4 he hca hcb hga hgb hA hB hT hM hpq hm hn hP hQ hr1 hr2
          have HBX := Lib.hid HB0
          clear HB0
          have f1 : (p : Int) < (m : Int) := by omega
          have f2 : (q : Int) < (n : Int) := by omega
          have e4 : ((q : Int) == (n : Int)) = false := beq_eq_false_iff_ne.2 (by omega)
          have wq : IntKind.i64.wrap ((q : Int) + 1) = (q : Int) + 1 := IntWalk.i64_in _ (by omega)
          have wp : IntKind.i64.wrap ((p : Int) + 1) = (p : Int) + 1 := IntWalk.i64_in _ (by omega)
          have nq : ((q : Int) + 1).toNat = q + 1 := by omega
          have np : ((p : Int) + 1).toNat = p + 1 := by omega
          have zq : (0 : Int) ≤ (q : Int) + 1 := by omega
          have zp : (0 : Int) ≤ (p : Int) + 1 := by omega
          have g1 : (p : Int) + 1 < (m : Int) + 1 := by omega
          have g2 : (p : Int) < (m : Int) + 1 := by omega
          have g3 : (q : Int) + 1 < (n : Int) + 1 := by omega
          have g4 : (q : Int) < (n : Int) + 1 := by omega
          have g5 : (Q : Int) ≤ (P : Int) := by omega
          have g6 : ¬ (P : Int) < (Q : Int) := by omega
          go_enter Try.func26, Try.ntmps26
          go_wp2_with fail
          go_region
          go_wp2_with fail
          go_region
          go_wp2_with fail
          go_region
          go_wp2_with fail
          go_ret
          exact ⟨1, rfl, HD.out, HBX.out.drew.drew.drew⟩
    · have hqe : q = b.length := by omega
      have HD := Lib.hid (show Does a b p q 1 from .inr (.inl ⟨rfl, hpm, .inl hqe⟩))
      have HB0 : Below w.heap.size w (w.alloc (.cells #[.int .i64 (p : Int), .int .i64 (q : Int)] 49)) := (Below.refl _ w).alloc (Nat.le_refl _) _
      obtain ⟨m, hm⟩ : ∃ m, m = a.length := ⟨_, rfl⟩
      obtain ⟨n, hn⟩ : ∃ n, n = b.length := ⟨_, rfl⟩
      rw [← hm] at hm4 hpm hp  ⊢
      rw [← hn] at hn4 hqn hq hqe ⊢
      clear hA hB hT hM hpq hm hn
      have HBX := Lib.hid HB0
      clear HB0
      have f1 : (p : Int) < (m : Int) := by omega
      have hqe2 : n ≤ q := by omega
      have e4 : ((q : Int) == (n : Int)) = true := beq_iff_eq.2 (by omega)
      have HQ := Lib.hid hqe
      clear hqe hqn
      go_enter Try.func26, Try.ntmps26
      go_wp2_with fail
      go_region
      go_wp2_with fail
      have f3 : decide ((q : Int) < (n : Int)) = false := decide_eq_false (by omega)
      have f2 : ¬ (q : Int) < (n : Int) := by omega
      go_region
      go_wp2_with fail
      have f3 : decide ((q : Int) < (n : Int)) = false := decide_eq_false (by omega)
      have f2 : ¬ (q : Int) < (n : Int) := by omega
      go_region
      go_wp2_with fail
      go_ret
      exact ⟨1, rfl, HD.out, HBX.out.drew.drew.drew⟩
  · have hpe : p = a.length := by omega
    have hqn : q < b.length := by omega
    have HD := Lib.hid (show Does a b p q 2 from .inr (.inr ⟨rfl, hqn, .inl hpe⟩))
    have HB0 : Below w.heap.size w (w.alloc (.cells #[.int .i64 (p : Int), .int .i64 (q : Int)] 49)) := (Below.refl _ w).alloc (Nat.le_refl _) _
    obtain ⟨m, hm⟩ : ∃ m, m = a.length := ⟨_, rfl⟩
    obtain ⟨n, hn⟩ : ∃ n, n = b.length := ⟨_, rfl⟩
    rw [← hm] at hm4 hpm hp hpe ⊢
    rw [← hn] at hn4 hqn hq  ⊢
    clear hA hB hT hM hpq hm hn
    have HBX := Lib.hid HB0
    clear HB0
    have hpe2 : m ≤ p := by omega
    have f2 : (q : Int) < (n : Int) := by omega
    have e4 : ((q : Int) == (n : Int)) = false := beq_eq_false_iff_ne.2 (by omega)
    have HQ := Lib.hid hpe
    clear hpe hpm
    go_enter Try.func26, Try.ntmps26
    go_wp2_with fail
    go_region
    go_wp2_with fail
    have f3 : decide ((p : Int) < (m : Int)) = false := decide_eq_false (by omega)
    have f1 : ¬ (p : Int) < (m : Int) := by omega
    go_region
    go_wp2_with fail
    have f3 : decide ((p : Int) < (m : Int)) = false := decide_eq_false (by omega)
    have f1 : ¬ (p : Int) < (m : Int) := by omega
    go_region
    go_wp2_with fail
    go_ret
    exact ⟨2, rfl, HD.out, HBX.out.drew.drew.drew⟩
end Go.Proofs.Ytoncghamkedhcaa.Ud

namespace Go.Proofs.Ytoncghamkedhcaa.Ud
open Go.RowKit Go.ChangeShapes Go.WideShapes Tx Um Aq
set_option linter.unusedVariables false
theorem heap_new2 (w : World) (o1 o2 : Obj) : ((w.alloc o1).alloc o2).heap[w.heap.size + 1]? = some o2 := by
  have := heap_alloc_new (w.alloc o1) o2
  simpa using this
theorem infoPair2 : (Try.prog.info? 49).map (·.size) = some 2 := by kernel_rfl
set_option maxRecDepth 100000 in
set_option maxHeartbeats 600000 in
theorem behind_any (p q x : Nat) (w : World) (hx : x = 0 ∨ x = 1 ∨ x = 2) (hp : p ≤ 1000) (hq : q ≤ 1000) :
    Calls Try.prog 28 #[.agg #[.int .i64 (p : Int), .int .i64 (q : Int)], .int .i64 (x : Int)] w fun e w' => e = .returned (.agg #[.int .i64 (onA p x : Nat), .int .i64 (onB q x : Nat)]) ∧ Below w.heap.size w w' := by
  rcases hx with rfl | rfl | rfl
  all_goals
    go_enter Try.func28, Try.ntmps28
    go_wp2_with fail
    refine bodyPost_ret (results_cell_row rfl _ _ _ _ _ _ _ rfl (heap_new2 _ _ _) Try.underlying49 rfl infoPair2) rfl ?_
    exact ⟨rfl, ((Below.refl _ w).alloc (Nat.le_refl _) _).alloc (by simp) _⟩
def bump : List (Nat × Nat) → Nat → List (Nat × Nat)
  | [], x => [(x, 1)]
  | [(y, n)], x => if y = x then [(y, n + 1)] else [(y, n), (x, 1)]
  | p :: q :: r, x => p :: bump (q :: r) x
theorem bump_last (l : List (Nat × Nat)) (y n x : Nat) : bump (l ++ [(y, n)]) x = if y = x then l ++ [(y, n + 1)] else l ++ [(y, n)] ++ [(x, 1)] := by
  induction l with
  | nil => rfl
  | cons p l ih =>
    cases l with
    | nil =>
      show p :: bump [(y, n)] x = _
      have e : bump [(y, n)] x = if y = x then [(y, n + 1)] else [(y, n), (x, 1)] := rfl
      rw [e]
      split <;> rfl
    | cons q r =>
      have e : bump (p :: q :: r ++ [(y, n)]) x = p :: bump (q :: r ++ [(y, n)]) x := rfl
      rw [e, ih]
      split <;> rfl
theorem bump_runs (s : List Nat) (x : Nat) : runs (s ++ [x]) = bump (runs s) x := by
  induction s with
  | nil => rfl
  | cons y s ih =>
    rw [List.cons_append, runs_cons, runs_cons, ih]
    cases hr : runs s with
    | nil =>
      have e1 : bump [] x = [(x, 1)] := rfl
      have e2 : bump [(y, 1)] x = if y = x then [(y, 1 + 1)] else [(y, 1), (x, 1)] := rfl
      simp only [e1, e2]
      by_cases e : y = x
      · rw [if_pos e, if_pos e, e]
      · rw [if_neg e, if_neg e]
    | cons p r =>
      obtain ⟨z, n⟩ := p
      cases r with
      | nil =>
        have e0 : bump [(z, n)] x = if z = x then [(z, n + 1)] else [(z, n), (x, 1)] := rfl
        have e3 : bump [(z, n + 1)] x = if z = x then [(z, n + 1 + 1)] else [(z, n + 1), (x, 1)] := rfl
        have e4 : bump [(y, 1), (z, n)] x = (y, 1) :: (if z = x then [(z, n + 1)] else [(z, n), (x, 1)]) := rfl
        rw [e0]
        by_cases e1 : z = x
        · by_cases e2 : y = z
          · simp only [if_pos e1, if_pos e2, e3]
          · simp only [if_pos e1, if_neg e2, e4]
        · by_cases e2 : y = z
          · simp only [if_neg e1, if_pos e2, e3]
          · simp only [if_neg e1, if_neg e2, e4]
      | cons q r =>
        have e0 : bump ((z, n) :: q :: r) x = (z, n) :: bump (q :: r) x := rfl
        have e3 : bump ((z, n + 1) :: q :: r) x = (z, n + 1) :: bump (q :: r) x := rfl
        have e4 : bump ((y, 1) :: (z, n) :: q :: r) x = (y, 1) :: (z, n) :: bump (q :: r) x := rfl
        rw [e0]
        by_cases e2 : y = z
        · simp only [if_pos e2, e3]
        · simp only [if_neg e2, e4]
theorem flat2_set (l : List (Nat × Nat)) (y n c : Nat) : ((l ++ [(y, n)]).flatMap c2).set (l.length * 2 + 1) (.int .i64 (c : Int)) = (l ++ [(y, c)]).flatMap c2 := by
  have h := flat2_len l
  rw [List.flatMap_append, List.flatMap_append, List.set_append_right _ _ (by omega), show l.length * 2 + 1 - (l.flatMap c2).length = 1 by omega]
  rfl
theorem own_put2 {w : World} {base g n cap size : Nat} {e : TypeId} {xs : List Value} (h : w.ownsRow base e size (.slice (some ⟨g, 0, none⟩) n cap) n xs) (k : Nat) (u : Value) :
    (w.setCell ⟨g, k, none⟩ u).ownsRow base e size (.slice (some ⟨g, 0, none⟩) n cap) n (xs.set k u) := by
  refine ⟨by rw [List.length_set]; exact h.1, ?_⟩
  rcases h.2 with ⟨h0, _⟩ | ⟨g', cap', cur, hv, hb, hh, hn, hc, hs, ht⟩
  · cases h0
  · injection hv with hg _ hcap
    injection hg with hg
    injection hg with hg
    subst hg
    subst hcap
    refine .inr ⟨g, cap, cur.setIfInBounds k u, rfl, hb, ?_, hn, hc, by simpa using hs, ?_⟩
    · simp [World.setCell, Array.getElem?_modify, hh]
    · rw [Array.toList_setIfInBounds, List.take_set, ht]
set_option maxRecDepth 100000 in
set_option maxHeartbeats 1000000 in
theorem longer_any (B : Nat) (v : Value) (l : List (Nat × Nat)) (x : Nat) (w : World) (hv : Prs 68 w B v l) (hx : x ≤ 2) (hl : l.length ≤ 1000) (hn : ∀ p, p ∈ l → p.1 ≤ 2 ∧ p.2 ≤ 1000) (hB : B ≤ w.heap.size) :
    Calls Try.prog 27 #[v, .int .i64 (x : Int)] w fun e w' => ∃ v', e = .returned v' ∧ Prs 68 w' B v' (bump l x) ∧ Below B w w' := by
  obtain ⟨iE, hI, hI0, hI1, hI2⟩ := info_parts infoEdit
  rcases List.eq_nil_or_concat l with rfl | ⟨pre, ⟨y, n⟩, rfl⟩
  · have hown : w.ownsRow B 68 2 v 0 [] := hv
    obtain ⟨a, c, rfl, _⟩ := hv.form
    have hBB : Below B w (w.alloc (.cells #[.int .i64 (x : Int), .int .i64 1] 68)) := (Below.refl _ w).alloc hB _
    clear hv hn
    go_enter Try.func27, Try.ntmps27
    go_wp2_with (at_builtin; refine wpList_append_own _ rfl _ _ 44 rfl B 68 iE (.agg #[.int .i64 0, .int .i64 0]) 2 16 Try.underlying44 hI hI0 hI1 hI2 rfl (by decide) _ _ _ rfl (hown.alloc _) ⟨w.heap.size, 0, none⟩ 1 1 (c2 (x, 1)) rfl rfl ?c1 ?c2 ?c3 ?c4 ?c5 ?_)
    case c1 => exact cell_two_new _ _ _ _
    case c2 => exact c2_one (x, 1)
    case c3 => unfold maxLen; omega
    case c4 => omega
    case c5 => simp; omega
    intro v' w2 hown' hgrow _
    have hb3 : Below B w w2 := hBB.grown hgrow (by simp; omega) (fun k hk => (hown.lt k hk).1)
    go_wp2_with fail
    go_ret
    exact ⟨_, rfl, hown', hb3⟩
  · rw [List.concat_eq_append] at hv hl hn ⊢
    obtain ⟨R, hR⟩ : ∃ R, R = bump (pre ++ [(y, n)]) x := ⟨_, rfl⟩
    rw [← hR]
    rw [bump_last] at hR
    obtain ⟨hn1, hn2⟩ := hn (y, n) (by simp)
    have hown : w.ownsRow B 68 2 v (pre ++ [(y, n)]).length ((pre ++ [(y, n)]).flatMap c2) := hv
    have hlen : (pre ++ [(y, n)]).length = pre.length + 1 := by simp
    have hsl : (pre ++ [(y, n)])[pre.length]? = some (y, n) := by rw [List.getElem?_append_right (Nat.le_refl _), Nat.sub_self]; rfl
    obtain ⟨k1, k2⟩ := flat2_get _ _ _ hsl
    rcases hown.2 with ⟨_, h0⟩ | ⟨g, cap, cur, rfl, hg, hh, hnc, hcc, _⟩
    · rw [hlen] at h0; cases h0
    have d1 : w.cell? ⟨g, pre.length * 2, none⟩ = some (.int .i64 (y : Int)) := by
      have := hown.cells (g := g) rfl _ _ k1
      rwa [WideShapes.add_plain, Nat.zero_add] at this
    have d2 : w.cell? ⟨g, pre.length * 2 + 1, none⟩ = some (.int .i64 (n : Int)) := by
      have := hown.cells (g := g) rfl _ _ k2
      rwa [WideShapes.add_plain, Nat.zero_add] at this
    have hfz : w.frozen? ⟨g, pre.length * 2 + 1, none⟩ = false := by simp [World.frozen?, hh]
    have hput := own_put2 hown (pre.length * 2 + 1) (.int .i64 ((n + 1 : Nat) : Int))
    simp only at hn1 hn2
    rw [flat2_set] at hput
    rw [hlen] at hown hput hnc hl ⊢
    obtain ⟨k, hk⟩ : ∃ k, k = pre.length := ⟨_, rfl⟩
    rw [← hk] at d1 d2 hfz hown hput hnc hl ⊢
    have HK := Lib.hid hk
    have wk : IntKind.i64.wrap (((k + 1 : Nat) : Int) - 1) = (k : Int) := (IntWalk.i64_in _ (by omega)).trans (by omega)
    have f1 : ¬ (k : Int) < 0 := by omega
    have f2 : (k : Int) < ((k + 1 : Nat) : Int) := by omega
    have wn : IntKind.i64.wrap ((n : Int) + 1) = (n : Int) + 1 := IntWalk.i64_in _ (by omega)
    rw [show ((n + 1 : Nat) : Int) = (n : Int) + 1 by omega] at hput
    by_cases hyx : y = x
    · have e3 : ((y : Int) == (x : Int)) = true := by rw [hyx]; exact beq_self_eq_true _
      have HE : Hid (Prs 68 (w.setCell ⟨g, pre.length * 2 + 1, none⟩ (.int .i64 ((n : Int) + 1))) B (.slice (some ⟨g, 0, none⟩) (k + 1) cap) R ∧ Below B w (w.setCell ⟨g, pre.length * 2 + 1, none⟩ (.int .i64 ((n : Int) + 1)))) := by
        show _ ∧ _
        rw [hR, if_pos hyx]
        refine ⟨?_, (Below.refl _ w).setCell (p := ⟨g, _, none⟩) hg _⟩
        unfold Prs
        rw [List.length_append, ← hk]
        exact hput
      rw [← hk] at HE
      clear hyx hput hown hh hk hR
      go_enter Try.func27, Try.ntmps27
      go_wp2_with fail
      go_ret
      exact ⟨_, rfl, HE.out⟩
    · have e3 : ((y : Int) == (x : Int)) = false := beq_eq_false_iff_ne.2 (by omega)
      have hBB : Below B w (w.alloc (.cells #[.int .i64 (x : Int), .int .i64 1] 68)) := (Below.refl _ w).alloc hB _
      have HI : Hid (R = pre ++ [(y, n)] ++ [(x, 1)]) := hR.trans (if_neg hyx)
      have e4 : (y == x) = false := beq_eq_false_iff_ne.2 hyx
      have e5 : decide (y = x) = false := decide_eq_false hyx
      clear hput hh hk hR d2 hfz
      go_enter Try.func27, Try.ntmps27
      go_wp2_with (at_builtin; refine wpList_append_own _ rfl _ _ 44 rfl B 68 iE (.agg #[.int .i64 0, .int .i64 0]) 2 16 Try.underlying44 hI hI0 hI1 hI2 rfl (by decide) _ _ _ rfl (hown.alloc _) ⟨w.heap.size, 0, none⟩ 1 1 (c2 (x, 1)) rfl rfl ?c1 ?c2 ?c3 ?c4 ?c5 ?_)
      case c1 => exact fun j u h => h
      case c2 => exact c2_one (x, 1)
      case c3 => unfold maxLen; omega
      case c4 => omega
      case c5 => omega
      intro v' w2 hown' hgrow _
      have hb3 : Below B w w2 := hBB.grown hgrow (by simp; omega) (fun k hk => (hown.lt k hk).1)
      have hpr : Prs 68 w2 B v' (pre ++ [(y, n)] ++ [(x, 1)]) := by
        unfold Prs
        have e : ((pre ++ [(y, n)] ++ [(x, 1)]).flatMap c2) = pre.flatMap c2 ++ (c2 (y, n) ++ c2 (x, 1)) := by simp
        have hll : (pre ++ [(y, n)] ++ [(x, 1)]).length = k + 1 + 1 := by
          have := HK.out
          simp
          omega
        rw [e, hll]
        exact hown'
      go_wp2_with fail
      go_ret
      rw [HI.out]
      exact ⟨_, rfl, hpr, hb3⟩
end Go.Proofs.Ytoncghamkedhcaa.Ud

namespace Go.Proofs.Ytoncghamkedhcaa.Ud
open Go.RowKit Go.ChangeShapes Go.WideShapes Tx Um Aq
set_option linter.unusedVariables false
structure Kp (pa B : Nat) (w w' : World) : Prop where
  os : w'.os = w.os
  tape : w'.tape = w.tape
  output : w'.output = w.output
  size : w.heap.size ≤ w'.heap.size
  block : ∀ i, i < B → i ≠ pa → w'.heap[i]? = w.heap[i]?
theorem Kp.refl (pa B : Nat) (w : World) : Kp pa B w w := ⟨rfl, rfl, rfl, Nat.le_refl _, fun _ _ _ => rfl⟩
theorem Kp.below {pa B B2 : Nat} {a b c : World} (h : Kp pa B a b) (k : Below B2 b c) (hB : B ≤ B2) : Kp pa B a c :=
  ⟨k.os.trans h.os, k.tape.trans h.tape, k.output.trans h.output, Nat.le_trans h.size k.size, fun i hi hne => (k.block i (Nat.lt_of_lt_of_le hi hB)).trans (h.block i hi hne)⟩
theorem Kp.put {pa B o : Nat} {a b : World} (h : Kp pa B a b) (u : Value) : Kp pa B a (b.setCell ⟨pa, o, none⟩ u) :=
  ⟨h.os, h.tape, h.output, by simpa [World.setCell] using h.size, fun i hi hne => (Below.heap_setCell b ⟨pa, o, none⟩ u i hne).trans (h.block i hi hne)⟩
theorem Kp.all {pa B B2 : Nat} {a b : World} (h : Kp pa B a b) (h1 : B2 ≤ B) (h2 : B2 ≤ pa) : Below B2 a b := ⟨h.os, h.tape, h.output, h.size, fun i hi => h.block i (by omega) (by omega)⟩
theorem Kp.drew {pa B : Nat} {a b : World} (h : Kp pa B a b) : Kp pa B a b.drew := ⟨h.os, h.tape, h.output, h.size, h.block⟩
theorem Kp.drewN {pa B : Nat} {a b : World} (h : Kp pa B a b) (n : Nat) : Kp pa B a (b.drewN n) := ⟨h.os, h.tape, h.output, h.size, h.block⟩
def rd (w : World) (a : Addr) : Nat := match w.cell? a with
  | some (.int _ k) => k.toNat
  | _ => 0
theorem rd_eq {w : World} {a : Addr} {k : IntKind} {n : Nat} (h : w.cell? a = some (.int k (n : Int))) : rd w a = n := by
  unfold rd
  rw [h]
  rfl
def Two (w : World) (pa p q : Nat) : Prop := w.heap[pa]? = some (.cells #[.int .i64 (p : Int), .int .i64 (q : Int)] 49 (0, 0))
theorem Two.cell {w : World} {pa p q : Nat} (h : Two w pa p q) : w.cell? ⟨pa, 0, none⟩ = some (.int .i64 (p : Int)) ∧ w.cell? ⟨pa, 1, none⟩ = some (.int .i64 (q : Int)) := by
  unfold World.cell?
  unfold Two at h
  simp [h]
theorem Two.frozen {w : World} {pa p q : Nat} (h : Two w pa p q) (k : Nat) : w.frozen? ⟨pa, k, none⟩ = false := by
  unfold Two at h
  simp [World.frozen?, h]
theorem Two.kept {w w1 : World} {pa p q : Nat} (h : Two w pa p q) (hk : w1.heap[pa]? = w.heap[pa]?) : Two w1 pa p q := hk.trans h
theorem Two.put {w : World} {pa p q : Nat} (h : Two w pa p q) (p' q' : Nat) : Two ((w.setCell ⟨pa, 0, none⟩ (.int .i64 (p' : Int))).setCell ⟨pa, 1, none⟩ (.int .i64 (q' : Int))) pa p' q' := by
  unfold Two at h ⊢
  simp [World.setCell, Array.getElem?_modify, h]
theorem Two.lt {w : World} {pa p q : Nat} (h : Two w pa p q) : pa < w.heap.size := (Array.getElem?_eq_some_iff.1 h).1
theorem runs_le (s : List Nat) : ∀ x, x ∈ runs s → x.1 ∈ s ∧ x.2 ≤ s.length := by
  induction s with
  | nil => intro x hx; cases hx
  | cons y s ih =>
    intro x hx
    rw [runs_cons] at hx
    cases hr : runs s with
    | nil =>
      rw [hr] at hx
      obtain rfl := List.mem_singleton.1 hx
      exact ⟨by simp, by simp⟩
    | cons p r =>
      obtain ⟨z, n⟩ := p
      rw [hr] at hx ih
      have hz := ih (z, n) (by simp)
      simp only at hx hz
      by_cases e : y = z
      · rw [if_pos e] at hx
        rcases List.mem_cons.1 hx with rfl | hx
        · exact ⟨by simp [e], by simp; omega⟩
        · obtain ⟨h1, h2⟩ := ih x (by simp [hx])
          exact ⟨by simp [h1], by simp; omega⟩
      · rw [if_neg e] at hx
        rcases List.mem_cons.1 hx with rfl | hx
        · exact ⟨by simp, by simp⟩
        · obtain ⟨h1, h2⟩ := ih x hx
          exact ⟨by simp [h1], by simp; omega⟩
theorem St.small {a b : List ByteArray} {pre : List Nat} {i j : Nat} (h : St a b pre i j) (ha : a.length ≤ 400) (hb : b.length ≤ 400) : (runs pre).length ≤ 1000 ∧ ∀ x, x ∈ runs pre → x.1 ≤ 2 ∧ x.2 ≤ 1000 := by
  obtain ⟨h1, h2, h3, h4⟩ := h
  have hl := runs_len pre
  refine ⟨by omega, fun x hx => ?_⟩
  obtain ⟨h5, h6⟩ := runs_le pre x hx
  have := (makes a b).le x.1 (by rw [h3]; simp [h5])
  omega
theorem Prs.far {E : TypeId} {w : World} {B pa : Nat} {v : Value} {l : List (Nat × Nat)} (h : Prs E w B v l) (hp : pa < B) (o : Nat) (u : Value) : Prs E (w.setCell ⟨pa, o, none⟩ u) B v l := by
  have hg : w.grownBy (w.setCell ⟨pa, o, none⟩ u) (some pa) := ⟨rfl, rfl, rfl, by simp [World.setCell], fun j _ hj => Below.heap_setCell w ⟨pa, o, none⟩ u j (fun e => hj (by rw [e]))⟩
  exact World.ownsRow.kept h hg (.inr (fun e => by have := (World.ownsRow.lt h pa e).1; omega))
theorem on_more {p q x : Nat} (hx : x = 0 ∨ x = 1 ∨ x = 2) : p + q < onA p x + onB q x := by
  unfold onA onB
  rcases hx with rfl | rfl | rfl <;> simp <;> omega
set_option maxRecDepth 100000 in
set_option maxHeartbeats 2000000 in
theorem script_any (A B : Option Addr) (ca cb : Nat) (a b : List ByteArray) (w : World) (hA : Strs w A a.length a) (hB : Strs w B b.length b) (ha : ∀ x, x ∈ a → x.size ≤ maxLen) (hb : ∀ x, x ∈ b → x.size ≤ maxLen) :
    Calls Try.prog 16 #[.slice A a.length ca, .slice B b.length cb] w (PrsTo 68 (scr a b) (err a b) w) := by
  by_cases hm : 400 < a.length
  · have e1 : (400 : Int) < (a.length : Int) := by omega
    have HE : Hid (scr a b = [] ∧ err a b = 4) := by
      show _ ∧ _
      unfold scr err lng
      rw [decide_eq_true hm]
      exact ⟨rfl, rfl⟩
    clear ha hb hA hB
    go_enter Try.func16, Try.ntmps16
    go_wp2_with fail
    go_ret2
    unfold PrsTo
    rw [HE.out.1, HE.out.2]
    exact ⟨_, rfl, World.ownsRow_nil _ _ _ _, Below.refl _ _⟩
  · have e1 : ¬ (400 : Int) < (a.length : Int) := by omega
    by_cases hn : 400 < b.length
    · have e2 : (400 : Int) < (b.length : Int) := by omega
      have HE : Hid (scr a b = [] ∧ err a b = 4) := by
        show _ ∧ _
        unfold scr err lng
        rw [decide_eq_true hn, Bool.or_true]
        exact ⟨rfl, rfl⟩
      clear ha hb hA hB
      go_enter Try.func16, Try.ntmps16
      go_wp2_with fail
      go_ret2
      unfold PrsTo
      rw [HE.out.1, HE.out.2]
      exact ⟨_, rfl, World.ownsRow_nil _ _ _ _, Below.refl _ _⟩
    · have e2 : ¬ (400 : Int) < (b.length : Int) := by omega
      have HE : Hid (scr a b = runs (steps a b) ∧ err a b = 0) := by
        show _ ∧ _
        unfold scr err lng
        rw [decide_eq_false hm, decide_eq_false hn]
        exact ⟨rfl, rfl⟩
      have hm4 : a.length ≤ 400 := by omega
      have hn4 : b.length ≤ 400 := by omega
      have cN := numbered_any A B ca cb a b w hA hB ha hb hm4 hn4
      unfold NumbTo at cN
      clear hA hB ha hb hm hn
      obtain ⟨m, hmm⟩ : ∃ m, m = a.length := ⟨_, rfl⟩
      obtain ⟨n, hnn⟩ : ∃ n, n = b.length := ⟨_, rfl⟩
      rw [← hmm] at e1 cN hm4 ⊢
      rw [← hnn] at e2 cN hn4 ⊢
      have HM := Lib.hid hmm
      have HN := Lib.hid hnn
      clear hmm hnn
      go_enter Try.func16, Try.ntmps16
      go_wp2_with fail
      go_at_call 24
      refine cN.mono ?_
      rintro e w1 ⟨M, va, vb, rfl, hva, hvb, hM, hb1⟩
      obtain ⟨ada, cca, rfl, hca⟩ := ints_cell hva
      obtain ⟨adb, ccb, rfl, hcb⟩ := ints_cell hvb
      have hnA : Nums w1 ada (a.map (num M)) := hca
      have hnB : Nums w1 adb (b.map (num M)) := hcb
      have cL := fun c1 c2 => lengths_any ada adb c1 c2 M a b w1 hM (by rw [← HM.out]; omega) (by rw [← HN.out]; omega) hnA hnB
      unfold TableTo at cL
      rw [List.length_map, ← HM.out]
      rw [List.length_map, ← HN.out]
      rw [← HM.out, ← HN.out] at cL
      have HNA := Lib.hid hnA
      have HNB := Lib.hid hnB
      have HMM := Lib.hid hM
      have HB1 := Lib.hid hb1
      clear hva hvb hM hb1 hca hcb hnA hnB cN
      go_wp2_with fail
      go_at_call 25
      refine (cL _ _).mono ?_
      rintro e w2 ⟨g, r, rfl, hT, hb2⟩
      have HT := Lib.hid hT
      have HB2 := Lib.hid hb2
      clear hT hb2 cL
      have hTw : Two ((w2.alloc (.cells #[.int .i64 0, .int .i64 0] 49)).alloc (.cells #[.int .i64 (m : Int), .int .i64 (n : Int)] 49)) w2.heap.size 0 0 := by
        unfold Two
        rw [Below.heap_alloc _ _ _ (by simp)]
        exact heap_alloc_new _ _
      have hTe : Two ((w2.alloc (.cells #[.int .i64 0, .int .i64 0] 49)).alloc (.cells #[.int .i64 (m : Int), .int .i64 (n : Int)] 49)) (w2.heap.size + 1) m n := heap_new2 _ _ _
      have hb3 : Below w2.heap.size w2 ((w2.alloc (.cells #[.int .i64 0, .int .i64 0] 49)).alloc (.cells #[.int .i64 (m : Int), .int .i64 (n : Int)] 49)) := ((Below.refl _ w2).alloc (Nat.le_refl _) _).alloc (by simp) _
      have hs3 : ((w2.alloc (.cells #[.int .i64 0, .int .i64 0] 49)).alloc (.cells #[.int .i64 (m : Int), .int .i64 (n : Int)] 49)).heap.size = w2.heap.size + 2 := by simp
      go_wp2_with fail
      generalize (w2.alloc (.cells #[.int .i64 0, .int .i64 0] 49)).alloc (.cells #[.int .i64 (m : Int), .int .i64 (n : Int)] 49) = w3 at hTw hTe hb3 hs3 ⊢
      have HNA3 := Lib.hid ((HNA.out.below HB2.out).below hb3)
      have HNB3 := Lib.hid ((HNB.out.below HB2.out).below hb3)
      have HT3 := Lib.hid (HT.out.below hb3)
      have HB3 : Hid (Below w.heap.size w w3) := (HB1.out.trans (HB2.out.mono HB1.out.size)).trans (hb3.mono (Nat.le_trans HB1.out.size HB2.out.size))
      have HAA : Hid (∀ i o, (a.map (num M)).length ≠ 0 → ada = some ⟨i, o, none⟩ → i < w2.heap.size) := fun i o h0 h1 => Nat.lt_of_lt_of_le (HNA.out.lt h0 h1) HB2.out.size
      have HAB : Hid (∀ i o, (b.map (num M)).length ≠ 0 → adb = some ⟨i, o, none⟩ → i < w2.heap.size) := fun i o h0 h1 => Nat.lt_of_lt_of_le (HNB.out.lt h0 h1) HB2.out.size
      have HAT : Hid (g < w2.heap.size ∧ ∀ k, k ≤ a.length → r k < w2.heap.size) := ⟨HT.out.glt.2, fun k hk => (HT.out.apart k (Nat.zero_le _) hk).2⟩
      have hww2 : w.heap.size ≤ w2.heap.size := Nat.le_trans HB1.out.size HB2.out.size
      obtain ⟨pa, hpa⟩ : ∃ pa, pa = w2.heap.size := ⟨_, rfl⟩
      rw [← hpa] at hTw hTe hs3 HAA HAB HAT hww2 ⊢
      have HTE := Lib.hid hTe
      have HTW := Lib.hid hTw
      have HST := Lib.hid (st_start a b)
      clear hb3 HNA HNB HT HB1 HB2 hpa hTe hTw
      go_loopw [9, 12] (fun v _ wr => ∃ (pre : List Nat) (p q : Nat), Hid (St a b pre p q) ∧ Prs 68 wr (pa + 2) v (runs pre) ∧ Hid (Kp pa (pa + 2) w3 wr) ∧ Hid (Two wr pa p q)) (fun _ _ wr => m + n - rd wr ⟨pa, 0, none⟩ - rd wr ⟨pa, 1, none⟩)
      case atStart => exact ⟨[], 0, 0, HST, World.ownsRow_nil _ _ _ _, Kp.refl _ _ _, HTW⟩
      case round =>
        obtain ⟨pre, p, q, HS, hpr, HK, HTWO⟩ := hrel
        clear HST HTW
        have hp := HS.out.1
        have hq := HS.out.2.1
        rw [← HM.out] at hp
        rw [← HN.out] at hq
        obtain ⟨c0, c1⟩ := HTWO.out.cell
        have HRD : Hid (rd wr ⟨pa, 0, none⟩ = p ∧ rd wr ⟨pa, 1, none⟩ = q) := ⟨rd_eq c0, rd_eq c1⟩
        have hTe := HTE.out.kept (HK.out.block (pa + 1) (by omega) (by omega))
        obtain ⟨d0, d1⟩ := hTe.cell
        have hgE := guardPr
        have hQ := run_neq_pair
        have hszr := HK.out.size
        by_cases hend : p = m ∧ q = n
        · obtain ⟨hpe, hqe⟩ := hend
          have e3 : ((p : Int) == (m : Int)) = true := beq_iff_eq.2 (by omega)
          have e4 : ((q : Int) == (n : Int)) = true := beq_iff_eq.2 (by omega)
          have HR : Hid (PrsTo 68 (scr a b) (err a b) w (.returned (.tuple #[u9, .int .i64 0])) wr) := by
            show PrsTo _ _ _ _ _ _
            rw [HE.out.1, HE.out.2, st_end HS.out (by rw [← HM.out]; exact hpe) (by rw [← HN.out]; exact hqe)]
            exact ⟨_, rfl, own_base hpr (by omega), HB3.out.trans (HK.out.all (by omega) hww2)⟩
          clear hTe hpe hqe hpr
          go_wp2_with fail
          go_ret2
          exact HR.out
        · have e5 : (((p : Int) == (m : Int)) && ((q : Int) == (n : Int))) = false := by
            by_cases h1 : p = m
            · have h2 : ((q : Int) == (n : Int)) = false := beq_eq_false_iff_ne.2 (by omega)
              rw [h2, Bool.and_false]
            · have h2 : ((p : Int) == (m : Int)) = false := beq_eq_false_iff_ne.2 (by omega)
              rw [h2, Bool.false_and]
          have hQ2 : (Op.equalIn 10000 49 (.agg #[.int .i64 (p : Int), .int .i64 (q : Int)]) (.agg #[.int .i64 (m : Int), .int .i64 (n : Int)])).run Try.prog wr = .ok false wr := by rw [run_eql_pair, e5]
          have hAr := HNA3.out.kept (w1 := wr) (fun i h0 h1 => HK.out.block i (by have := HAA.out i 0 h0 h1; omega) (by have := HAA.out i 0 h0 h1; omega)) hszr
          have hBr := HNB3.out.kept (w1 := wr) (fun i h0 h1 => HK.out.block i (by have := HAB.out i 0 h0 h1; omega) (by have := HAB.out i 0 h0 h1; omega)) hszr
          have hTr := HT3.out.kept (w1 := wr) (HK.out.block g (by have := HAT.out.1; omega) (by have := HAT.out.1; omega)) (fun k _ hk => HK.out.block (r k) (by have := HAT.out.2 k hk; omega) (by have := HAT.out.2 k hk; omega)) hszr
          have cx := fun c1 c2 => next_any ada adb c1 c2 g p q _ r M a b wr HMM.out (by rw [← HM.out]; exact hm4) (by rw [← HN.out]; exact hn4) hAr hBr hTr (by rw [← HM.out]; exact hp) (by rw [← HN.out]; exact hq) (by rw [← HM.out, ← HN.out]; omega)
          rw [← HM.out, ← HN.out] at cx
          have hm5 := hm4
          have hn5 := hn4
          rw [HM.out] at hm5
          rw [HN.out] at hn5
          obtain ⟨hl1, hl2⟩ := HS.out.small hm5 hn5
          have HL1 := Lib.hid hl1
          have HL2 := Lib.hid hl2
          have CX := Lib.hid cx
          clear hQ e5 hAr hBr hTr hl1 hl2 hm5 hn5 hTe cx
          go_wp2_with fail
          go_at_call 26
          refine (CX.out _ _).mono ?_
          rintro e w5 ⟨x, rfl, hd, hb5⟩
          have hx2 := hd.le
          have hpr5 : Prs 68 w5 (pa + 2) u9 (runs pre) := hpr.below hb5
          have HS2 := Lib.hid (HS.out.does hd)
          have HK5 := Lib.hid (HK.out.below hb5 (by omega))
          have HT5 := Lib.hid (HTWO.out.kept (hb5.block pa HTWO.out.lt))
          have hsz5 := HK5.out.size
          have cl := longer_any (pa + 2) u9 (runs pre) x w5 hpr5 (by omega) HL1.out HL2.out (by omega)
          rw [← bump_runs] at cl
          have CL := Lib.hid cl
          clear hpr hpr5 HK HTWO HS hb5 hd cl c0 c1 d0 d1 hQ2 CX HL1 HL2
          go_wp2_with fail
          go_at_call 27
          refine CL.out.mono ?_
          rintro e w6 ⟨v6, rfl, hpr6, hb6⟩
          have HK6 := Lib.hid (HK5.out.below hb6 (Nat.le_refl _))
          have HT6 := Lib.hid (HT5.out.kept (hb6.block pa (by omega)))
          obtain ⟨c0, c1⟩ := HT6.out.cell
          have CB := Lib.hid (behind_any p q x w6 hx2 (by omega) (by omega))
          have HP6 := Lib.hid hpr6
          clear HK5 HT5 hb6 CL hpr6
          go_wp2_with fail
          go_at_call 28
          refine CB.out.mono ?_
          rintro e w7 ⟨rfl, hb7⟩
          have HT7 := Lib.hid (HT6.out.kept (hb7.block pa HT6.out.lt))
          have HK7 := Lib.hid (HK6.out.below hb7 (by have := HK6.out.size; omega))
          have hp7 := HP6.out.below hb7
          obtain ⟨c0, c1⟩ := HT7.out.cell
          have f0 := HT7.out.frozen 0
          have f1 := HT7.out.frozen 1
          have HS7 := HS2.out.1
          have HS8 := HS2.out.2.1
          rw [← HM.out] at HS7
          rw [← HN.out] at HS8
          have hmore := on_more (p := p) (q := q) hx2
          have HP8 := Lib.hid ((hp7.far (by omega : pa < pa + 2) 0 (.int .i64 (onA p x : Nat))).far (by omega : pa < pa + 2) 1 (.int .i64 (onB q x : Nat)))
          have HK8 := Lib.hid ((HK7.out.put (o := 0) (.int .i64 (onA p x : Nat))).put (o := 1) (.int .i64 (onB q x : Nat)))
          have HT8 := Lib.hid (HT7.out.put (onA p x) (onB q x))
          obtain ⟨p', hp'⟩ : ∃ p', p' = onA p x := ⟨_, rfl⟩
          obtain ⟨q', hq'⟩ : ∃ q', q' = onB q x := ⟨_, rfl⟩
          rw [← hp'] at HS2 HS7 hmore HP8 HK8 HT8 ⊢
          rw [← hq'] at HS2 HS8 hmore HP8 HK8 HT8 ⊢
          clear hp7 HT7 HK7 hp' hq' HT6 HK6 HP6 hb7 CB
          go_wp2_with fail
          go_roundw
          case rel => exact ⟨pre ++ [x], p', q', HS2, HP8.out, HK8, HT8⟩
          case measure =>
            obtain ⟨k0, k1⟩ := HT8.out.cell
            rw [rd_eq k0, rd_eq k1, HRD.out.1, HRD.out.2]
            omega
end Go.Proofs.Ytoncghamkedhcaa.Ud
