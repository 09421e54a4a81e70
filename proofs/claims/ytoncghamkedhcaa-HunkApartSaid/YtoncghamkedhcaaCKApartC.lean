/-
  HunkApart: of every two lists of lines and every number of lines around the pieces rise, don't touch one another's lines, and with no lines around no piece begins with a line that is kept.
  It is said of the code of package hunk as it landed, for every argument of the given row's domain, in the first form; the law returns true, and writes nothing that was there. No other condition.
-/
import Derived.Test.YtoncghamkedhcaaT3
import Derived.ProofKit
import Derived.OpenShut
import Derived.ChangeOld
import Derived.Below
import Derived.JoinedCond
namespace Go.Proofs.Ytoncghamkedhcaa.Kd
open Go.RowKit Tx
set_option linter.unusedVariables false
def Thr (bc oc k p o q : Nat) (A1 A2 : Option Addr) (c1 c2 : Nat) (W : World) : Prop := W.cell? ⟨bc, oc + k * 3, none⟩ = some (.int .i64 (p : Int)) ∧ W.cell? ⟨bc, oc + k * 3 + 1, none⟩ = some (.slice A1 o c1) ∧ W.cell? ⟨bc, oc + k * 3 + 2, none⟩ = some (.slice A2 q c2)
set_option maxRecDepth 100000 in
set_option maxHeartbeats 4000000 in
theorem apartReg8 (ops : Array Oper) (hops : ops = (Rg.opsOf Try.f6 8)) (id : Nat) (bc oc k p o q m ca L vc E c1 c2 : Nat) (ar : Int) (A A1 A2 : Option Addr) {u1 u3 u4 u5 u6 u8 u11 u12 u13 u14 u15 u16 u17 u18 u19 u20 u21 u22 u23 u24 u25 u26 u27 u28 u29 u30 u31 u32 u33 u34 u35 u36 u37 u38 u39 u40 u41 u42 u43 u44 u45 u46 u47 u48 u49 u50 u51 u52 u53 u54 u55 u56 u57 u58 u59 u60 u61 u62 u63 u64 u65 u66 u67 u68 u69 u70 u71 u72 u73 u74 u75 u76 u77 u78 u79 u80 u81 u82 u83 u84 u85 u86 u87 u88 u89 u90 u91 u92 u93 u94 u95 u96 u97 u98 u99 u100 u101 u102 u103 u104 u105 u106 u107 u108 u109 u110 u111 u112 u113 u114 u115 u116 u117 u118 u119 u120 u121 u122 u123 u124 u125 u126 u127 u128 u129 u130 u131 u132 u133 u134 u135 u136 u137 u138 u139 u140 u141 u142 u143 u144 : Value} (w : World) (X0 : World → Prop) (hk : (k : Int) < (L : Int))
    (hX : ∀ W, X0 W → Thr bc oc k p o q A1 A2 c1 c2 W) (hw : X0 w.drew) (f1 : ¬ (p : Int) < (E : Int)) (f2 : decide ((p : Int) < (E : Int)) = false) (wo : IntKind.i64.wrap ((o : Int) + (q : Int)) = (o : Int) + (q : Int)) (wm : IntKind.i64.wrap ((m : Int) - (p : Int)) = (m : Int) - (p : Int)) (f3 : (((o : Int) + (q : Int)) == 0) = false) (f4 : ¬ (m : Int) < (p : Int)) (f5 : decide ((m : Int) < (p : Int)) = false) (f6 : ¬ (m : Int) - (p : Int) < (o : Int)) (f7 : decide ((m : Int) - (p : Int) < (o : Int)) = false) :
    (Code.region id ops true).wp Try.prog (Rg.Only fun a' w' => a' = ⟨#[(.slice A m ca), u1, (.int .i64 ar), u3, u4, u5, u6, (.slice (some ⟨bc, oc, none⟩) L vc), u8, (.int .i64 (E : Int)), (.int .i64 (k : Int)), u11, u12, u13, u14, u15, u16, u17, u18, u19, u20, u21, u22, u23, u24, u25, u26, u27, u28, u29, u30, (.slice (some ⟨bc, oc, none⟩) L vc), (.int .i64 (k : Int)), (.pointer (some ⟨bc, oc + k * 3, none⟩)), (.pointer (some ⟨bc, oc + k * 3, none⟩)), (.int .i64 (p : Int)), (.int .i64 (E : Int)), (.bool false), (.bool false), (.slice (some ⟨bc, oc, none⟩) L vc), (.int .i64 (k : Int)), (.pointer (some ⟨bc, oc + k * 3, none⟩)), (.pointer (some ⟨bc, oc + k * 3 + 1, none⟩)), (.slice A1 o c1), (.int .i64 (o : Int)), (.slice (some ⟨bc, oc, none⟩) L vc), (.int .i64 (k : Int)), (.pointer (some ⟨bc, oc + k * 3, none⟩)), (.pointer (some ⟨bc, oc + k * 3 + 2, none⟩)), (.slice A2 q c2), (.int .i64 (q : Int)), (.int .i64 ((o : Int) + (q : Int))), (.bool false), (.bool false), (.bool false), (.slice (some ⟨bc, oc, none⟩) L vc), (.int .i64 (k : Int)), (.pointer (some ⟨bc, oc + k * 3, none⟩)), (.pointer (some ⟨bc, oc + k * 3, none⟩)), (.int .i64 (p : Int)), (.slice A m ca), (.int .i64 (m : Int)), (.bool false), (.bool false), (.bool false), (.slice (some ⟨bc, oc, none⟩) L vc), (.int .i64 (k : Int)), (.pointer (some ⟨bc, oc + k * 3, none⟩)), (.pointer (some ⟨bc, oc + k * 3 + 1, none⟩)), (.slice A1 o c1), (.int .i64 (o : Int)), (.slice A m ca), (.int .i64 (m : Int)), (.slice (some ⟨bc, oc, none⟩) L vc), (.int .i64 (k : Int)), (.pointer (some ⟨bc, oc + k * 3, none⟩)), (.pointer (some ⟨bc, oc + k * 3, none⟩)), (.int .i64 (p : Int)), (.int .i64 ((m : Int) - (p : Int))), (.bool false), (.bool false), u81, u82, u83, u84, u85, u86, u87, u88, u89, u90, u91, u92, u93, u94, u95, u96, u97, u98, u99, u100, u101, u102, u103, u104, u105, u106, u107, u108, u109, u110, u111, u112, u113, u114, u115, u116, u117, u118, u119, u120, u121, u122, u123, u124, u125, u126, u127, u128, u129, u130, u131, u132, u133, u134, u135, u136, u137, u138, u139, u140, u141, u142, u143, u144], []⟩ ∧ X0 w') ⟨#[(.slice A m ca), u1, (.int .i64 ar), u3, u4, u5, u6, (.slice (some ⟨bc, oc, none⟩) L vc), u8, (.int .i64 (E : Int)), (.int .i64 (k : Int)), u11, u12, u13, u14, u15, u16, u17, u18, u19, u20, u21, u22, u23, u24, u25, u26, u27, u28, u29, u30, u31, u32, u33, u34, u35, u36, u37, u38, u39, u40, u41, u42, u43, u44, u45, u46, u47, u48, u49, u50, u51, u52, u53, u54, u55, u56, u57, u58, u59, u60, u61, u62, u63, u64, u65, u66, u67, u68, u69, u70, u71, u72, u73, u74, u75, u76, u77, u78, u79, u80, u81, u82, u83, u84, u85, u86, u87, u88, u89, u90, u91, u92, u93, u94, u95, u96, u97, u98, u99, u100, u101, u102, u103, u104, u105, u106, u107, u108, u109, u110, u111, u112, u113, u114, u115, u116, u117, u118, u119, u120, u121, u122, u123, u124, u125, u126, u127, u128, u129, u130, u131, u132, u133, u134, u135, u136, u137, u138, u139, u140, u141, u142, u143, u144], []⟩ w := by
  subst hops
  have hNS : Region.noSelect (Rg.opsOf Try.f6 8) = true := by kernel_rfl
  refine wp_region_held_drew (S := X0) (by kernel_rfl) hw (fun hHeld => ?_)
  rw [show (Rg.opsOf Try.f6 8).size = 50 by kernel_rfl]
  refine Rg.take (ops := (Rg.opsOf Try.f6 8)) 0 (some 31) ((.slice (some ⟨bc, oc, none⟩) L vc)) hNS (by kernel_rfl) (by kernel_rfl) (by kernel_rfl) (by kernel_rfl) (by kernel_rfl) hHeld (Rg.y_move (x := (Operand.tmp 7)) (Or.inl (by kernel_rfl)) (by kernel_rfl)) ?_
  refine Rg.take (ops := (Rg.opsOf Try.f6 8)) 1 (some 32) ((.int .i64 (k : Int))) hNS (by kernel_rfl) (by kernel_rfl) (by kernel_rfl) (by kernel_rfl) (by kernel_rfl) hHeld (Rg.y_move (x := (Operand.tmp 10)) (Or.inl (by kernel_rfl)) (by kernel_rfl)) ?_
  refine Rg.take (ops := (Rg.opsOf Try.f6 8)) 2 (some 33) ((.pointer (some ⟨bc, oc + k * 3, none⟩))) hNS (by kernel_rfl) (by kernel_rfl) (by kernel_rfl) (by kernel_rfl) (by kernel_rfl) hHeld (Rg.y_at (T := 23) (x := (Operand.tmp 31)) (y := (Operand.tmp 32)) (vx := (.slice (some ⟨bc, oc, none⟩) L vc)) (vy := (.int .i64 (k : Int))) (by kernel_rfl) (by kernel_rfl) (by kernel_rfl) ?_) ?_
  · (intro W hSw; clear hSw hHeld; go_simp)
  refine Rg.take (ops := (Rg.opsOf Try.f6 8)) 3 (some 34) ((.pointer (some ⟨bc, oc + k * 3, none⟩))) hNS (by kernel_rfl) (by kernel_rfl) (by kernel_rfl) (by kernel_rfl) (by kernel_rfl) hHeld (Rg.y_field (T := 33) (k := 0) (x := (Operand.tmp 33)) (vx := (.pointer (some ⟨bc, oc + k * 3, none⟩))) (by kernel_rfl) (by kernel_rfl) ?_) ?_
  · (intro W hSw; clear hSw hHeld; go_simp)
  refine Rg.take (ops := (Rg.opsOf Try.f6 8)) 4 (some 35) ((.int .i64 (p : Int))) hNS (by kernel_rfl) (by kernel_rfl) (by kernel_rfl) (by kernel_rfl) (by kernel_rfl) hHeld (Rg.y_load (T := 3) (x := (Operand.tmp 34)) (vx := (.pointer (some ⟨bc, oc + k * 3, none⟩))) (by kernel_rfl) (by kernel_rfl) ?_) ?_
  · (intro W hSw; obtain ⟨s0, s1, s2⟩ := hX _ hSw; clear hSw hHeld; go_simp)
  refine Rg.take (ops := (Rg.opsOf Try.f6 8)) 5 (some 36) ((.int .i64 (E : Int))) hNS (by kernel_rfl) (by kernel_rfl) (by kernel_rfl) (by kernel_rfl) (by kernel_rfl) hHeld (Rg.y_move (x := (Operand.tmp 9)) (Or.inl (by kernel_rfl)) (by kernel_rfl)) ?_
  refine Rg.take (ops := (Rg.opsOf Try.f6 8)) 6 (some 37) ((.bool false)) hNS (by kernel_rfl) (by kernel_rfl) (by kernel_rfl) (by kernel_rfl) (by kernel_rfl) hHeld (Rg.y_bin (b := BinOp.lss) (T := 3) (R' := 3) (x := (Operand.tmp 35)) (y := (Operand.tmp 36)) (vx := (.int .i64 (p : Int))) (vy := (.int .i64 (E : Int))) (by kernel_rfl) (by kernel_rfl) (by kernel_rfl) ?_) ?_
  · (intro W hSw; clear hSw hHeld; go_simp <;> first | omega | (intro h0; omega))
  refine Rg.take (ops := (Rg.opsOf Try.f6 8)) 7 (some 38) ((.bool false)) hNS (by kernel_rfl) (by kernel_rfl) (by kernel_rfl) (by kernel_rfl) (by kernel_rfl) hHeld (Rg.y_move (x := (Operand.tmp 37)) (Or.inl (by kernel_rfl)) (by kernel_rfl)) ?_
  refine Rg.take (ops := (Rg.opsOf Try.f6 8)) 8 (some 39) ((.slice (some ⟨bc, oc, none⟩) L vc)) hNS (by kernel_rfl) (by kernel_rfl) (by kernel_rfl) (by kernel_rfl) (by kernel_rfl) hHeld (Rg.y_move (x := (Operand.tmp 7)) (Or.inl (by kernel_rfl)) (by kernel_rfl)) ?_
  refine Rg.take (ops := (Rg.opsOf Try.f6 8)) 9 (some 40) ((.int .i64 (k : Int))) hNS (by kernel_rfl) (by kernel_rfl) (by kernel_rfl) (by kernel_rfl) (by kernel_rfl) hHeld (Rg.y_move (x := (Operand.tmp 10)) (Or.inl (by kernel_rfl)) (by kernel_rfl)) ?_
  refine Rg.take (ops := (Rg.opsOf Try.f6 8)) 10 (some 41) ((.pointer (some ⟨bc, oc + k * 3, none⟩))) hNS (by kernel_rfl) (by kernel_rfl) (by kernel_rfl) (by kernel_rfl) (by kernel_rfl) hHeld (Rg.y_at (T := 23) (x := (Operand.tmp 39)) (y := (Operand.tmp 40)) (vx := (.slice (some ⟨bc, oc, none⟩) L vc)) (vy := (.int .i64 (k : Int))) (by kernel_rfl) (by kernel_rfl) (by kernel_rfl) ?_) ?_
  · (intro W hSw; clear hSw hHeld; go_simp)
  refine Rg.take (ops := (Rg.opsOf Try.f6 8)) 11 (some 42) ((.pointer (some ⟨bc, oc + k * 3 + 1, none⟩))) hNS (by kernel_rfl) (by kernel_rfl) (by kernel_rfl) (by kernel_rfl) (by kernel_rfl) hHeld (Rg.y_field (T := 33) (k := 1) (x := (Operand.tmp 41)) (vx := (.pointer (some ⟨bc, oc + k * 3, none⟩))) (by kernel_rfl) (by kernel_rfl) ?_) ?_
  · (intro W hSw; clear hSw hHeld; go_simp)
  refine Rg.take (ops := (Rg.opsOf Try.f6 8)) 12 (some 43) ((.slice A1 o c1)) hNS (by kernel_rfl) (by kernel_rfl) (by kernel_rfl) (by kernel_rfl) (by kernel_rfl) hHeld (Rg.y_load (T := 22) (x := (Operand.tmp 42)) (vx := (.pointer (some ⟨bc, oc + k * 3 + 1, none⟩))) (by kernel_rfl) (by kernel_rfl) ?_) ?_
  · (intro W hSw; obtain ⟨s0, s1, s2⟩ := hX _ hSw; clear hSw hHeld; go_simp)
  refine Rg.take (ops := (Rg.opsOf Try.f6 8)) 13 (some 44) ((.int .i64 (o : Int))) hNS (by kernel_rfl) (by kernel_rfl) (by kernel_rfl) (by kernel_rfl) (by kernel_rfl) hHeld (Rg.y_len (x := (Operand.tmp 43)) (ats := #[22]) (vx := (.slice A1 o c1)) (n := o) (by kernel_rfl) (by kernel_rfl) ?_) ?_
  · (intro ty w hSw; go_simp)
  refine Rg.take (ops := (Rg.opsOf Try.f6 8)) 14 (some 45) ((.slice (some ⟨bc, oc, none⟩) L vc)) hNS (by kernel_rfl) (by kernel_rfl) (by kernel_rfl) (by kernel_rfl) (by kernel_rfl) hHeld (Rg.y_move (x := (Operand.tmp 7)) (Or.inl (by kernel_rfl)) (by kernel_rfl)) ?_
  refine Rg.take (ops := (Rg.opsOf Try.f6 8)) 15 (some 46) ((.int .i64 (k : Int))) hNS (by kernel_rfl) (by kernel_rfl) (by kernel_rfl) (by kernel_rfl) (by kernel_rfl) hHeld (Rg.y_move (x := (Operand.tmp 10)) (Or.inl (by kernel_rfl)) (by kernel_rfl)) ?_
  refine Rg.take (ops := (Rg.opsOf Try.f6 8)) 16 (some 47) ((.pointer (some ⟨bc, oc + k * 3, none⟩))) hNS (by kernel_rfl) (by kernel_rfl) (by kernel_rfl) (by kernel_rfl) (by kernel_rfl) hHeld (Rg.y_at (T := 23) (x := (Operand.tmp 45)) (y := (Operand.tmp 46)) (vx := (.slice (some ⟨bc, oc, none⟩) L vc)) (vy := (.int .i64 (k : Int))) (by kernel_rfl) (by kernel_rfl) (by kernel_rfl) ?_) ?_
  · (intro W hSw; clear hSw hHeld; go_simp)
  refine Rg.take (ops := (Rg.opsOf Try.f6 8)) 17 (some 48) ((.pointer (some ⟨bc, oc + k * 3 + 2, none⟩))) hNS (by kernel_rfl) (by kernel_rfl) (by kernel_rfl) (by kernel_rfl) (by kernel_rfl) hHeld (Rg.y_field (T := 33) (k := 2) (x := (Operand.tmp 47)) (vx := (.pointer (some ⟨bc, oc + k * 3, none⟩))) (by kernel_rfl) (by kernel_rfl) ?_) ?_
  · (intro W hSw; clear hSw hHeld; go_simp)
  refine Rg.take (ops := (Rg.opsOf Try.f6 8)) 18 (some 49) ((.slice A2 q c2)) hNS (by kernel_rfl) (by kernel_rfl) (by kernel_rfl) (by kernel_rfl) (by kernel_rfl) hHeld (Rg.y_load (T := 22) (x := (Operand.tmp 48)) (vx := (.pointer (some ⟨bc, oc + k * 3 + 2, none⟩))) (by kernel_rfl) (by kernel_rfl) ?_) ?_
  · (intro W hSw; obtain ⟨s0, s1, s2⟩ := hX _ hSw; clear hSw hHeld; go_simp)
  refine Rg.take (ops := (Rg.opsOf Try.f6 8)) 19 (some 50) ((.int .i64 (q : Int))) hNS (by kernel_rfl) (by kernel_rfl) (by kernel_rfl) (by kernel_rfl) (by kernel_rfl) hHeld (Rg.y_len (x := (Operand.tmp 49)) (ats := #[22]) (vx := (.slice A2 q c2)) (n := q) (by kernel_rfl) (by kernel_rfl) ?_) ?_
  · (intro ty w hSw; go_simp)
  refine Rg.take (ops := (Rg.opsOf Try.f6 8)) 20 (some 51) ((.int .i64 ((o : Int) + (q : Int)))) hNS (by kernel_rfl) (by kernel_rfl) (by kernel_rfl) (by kernel_rfl) (by kernel_rfl) hHeld (Rg.y_bin (b := BinOp.add) (T := 3) (R' := 3) (x := (Operand.tmp 44)) (y := (Operand.tmp 50)) (vx := (.int .i64 (o : Int))) (vy := (.int .i64 (q : Int))) (by kernel_rfl) (by kernel_rfl) (by kernel_rfl) ?_) ?_
  · (intro W hSw; clear hSw hHeld; go_simp <;> first | omega | (intro h0; omega))
  refine Rg.take (ops := (Rg.opsOf Try.f6 8)) 21 (some 52) ((.bool false)) hNS (by kernel_rfl) (by kernel_rfl) (by kernel_rfl) (by kernel_rfl) (by kernel_rfl) hHeld (Rg.y_bin (b := BinOp.eql) (T := 3) (R' := 3) (x := (Operand.tmp 51)) (y := (Operand.const (Value.int IntKind.i64 0))) (vx := (.int .i64 ((o : Int) + (q : Int)))) (vy := (Value.int IntKind.i64 0)) (by kernel_rfl) (by kernel_rfl) (by kernel_rfl) ?_) ?_
  · (intro W hSw; clear hSw hHeld; go_simp <;> first | omega | (intro h0; omega))
  refine Rg.take (ops := (Rg.opsOf Try.f6 8)) 22 (some 53) ((.bool false)) hNS (by kernel_rfl) (by kernel_rfl) (by kernel_rfl) (by kernel_rfl) (by kernel_rfl) hHeld (Rg.y_pick (c := (Operand.tmp 38)) (x := (Operand.const (Value.bool true))) (y := (Operand.tmp 52)) (b := false) (by kernel_rfl) (by kernel_rfl) (by kernel_rfl)) ?_
  refine Rg.take (ops := (Rg.opsOf Try.f6 8)) 23 (some 54) ((.bool false)) hNS (by kernel_rfl) (by kernel_rfl) (by kernel_rfl) (by kernel_rfl) (by kernel_rfl) hHeld (Rg.y_move (x := (Operand.tmp 53)) (Or.inl (by kernel_rfl)) (by kernel_rfl)) ?_
  refine Rg.take (ops := (Rg.opsOf Try.f6 8)) 24 (some 55) ((.slice (some ⟨bc, oc, none⟩) L vc)) hNS (by kernel_rfl) (by kernel_rfl) (by kernel_rfl) (by kernel_rfl) (by kernel_rfl) hHeld (Rg.y_move (x := (Operand.tmp 7)) (Or.inl (by kernel_rfl)) (by kernel_rfl)) ?_
  refine Rg.take (ops := (Rg.opsOf Try.f6 8)) 25 (some 56) ((.int .i64 (k : Int))) hNS (by kernel_rfl) (by kernel_rfl) (by kernel_rfl) (by kernel_rfl) (by kernel_rfl) hHeld (Rg.y_move (x := (Operand.tmp 10)) (Or.inl (by kernel_rfl)) (by kernel_rfl)) ?_
  refine Rg.take (ops := (Rg.opsOf Try.f6 8)) 26 (some 57) ((.pointer (some ⟨bc, oc + k * 3, none⟩))) hNS (by kernel_rfl) (by kernel_rfl) (by kernel_rfl) (by kernel_rfl) (by kernel_rfl) hHeld (Rg.y_at (T := 23) (x := (Operand.tmp 55)) (y := (Operand.tmp 56)) (vx := (.slice (some ⟨bc, oc, none⟩) L vc)) (vy := (.int .i64 (k : Int))) (by kernel_rfl) (by kernel_rfl) (by kernel_rfl) ?_) ?_
  · (intro W hSw; clear hSw hHeld; go_simp)
  refine Rg.take (ops := (Rg.opsOf Try.f6 8)) 27 (some 58) ((.pointer (some ⟨bc, oc + k * 3, none⟩))) hNS (by kernel_rfl) (by kernel_rfl) (by kernel_rfl) (by kernel_rfl) (by kernel_rfl) hHeld (Rg.y_field (T := 33) (k := 0) (x := (Operand.tmp 57)) (vx := (.pointer (some ⟨bc, oc + k * 3, none⟩))) (by kernel_rfl) (by kernel_rfl) ?_) ?_
  · (intro W hSw; clear hSw hHeld; go_simp)
  refine Rg.take (ops := (Rg.opsOf Try.f6 8)) 28 (some 59) ((.int .i64 (p : Int))) hNS (by kernel_rfl) (by kernel_rfl) (by kernel_rfl) (by kernel_rfl) (by kernel_rfl) hHeld (Rg.y_load (T := 3) (x := (Operand.tmp 58)) (vx := (.pointer (some ⟨bc, oc + k * 3, none⟩))) (by kernel_rfl) (by kernel_rfl) ?_) ?_
  · (intro W hSw; obtain ⟨s0, s1, s2⟩ := hX _ hSw; clear hSw hHeld; go_simp)
  refine Rg.take (ops := (Rg.opsOf Try.f6 8)) 29 (some 60) ((.slice A m ca)) hNS (by kernel_rfl) (by kernel_rfl) (by kernel_rfl) (by kernel_rfl) (by kernel_rfl) hHeld (Rg.y_move (x := (Operand.tmp 0)) (Or.inl (by kernel_rfl)) (by kernel_rfl)) ?_
  refine Rg.take (ops := (Rg.opsOf Try.f6 8)) 30 (some 61) ((.int .i64 (m : Int))) hNS (by kernel_rfl) (by kernel_rfl) (by kernel_rfl) (by kernel_rfl) (by kernel_rfl) hHeld (Rg.y_len (x := (Operand.tmp 60)) (ats := #[22]) (vx := (.slice A m ca)) (n := m) (by kernel_rfl) (by kernel_rfl) ?_) ?_
  · (intro ty w hSw; go_simp)
  refine Rg.take (ops := (Rg.opsOf Try.f6 8)) 31 (some 62) ((.bool false)) hNS (by kernel_rfl) (by kernel_rfl) (by kernel_rfl) (by kernel_rfl) (by kernel_rfl) hHeld (Rg.y_bin (b := BinOp.gtr) (T := 3) (R' := 3) (x := (Operand.tmp 59)) (y := (Operand.tmp 61)) (vx := (.int .i64 (p : Int))) (vy := (.int .i64 (m : Int))) (by kernel_rfl) (by kernel_rfl) (by kernel_rfl) ?_) ?_
  · (intro W hSw; clear hSw hHeld; go_simp <;> first | omega | (intro h0; omega))
  refine Rg.take (ops := (Rg.opsOf Try.f6 8)) 32 (some 63) ((.bool false)) hNS (by kernel_rfl) (by kernel_rfl) (by kernel_rfl) (by kernel_rfl) (by kernel_rfl) hHeld (Rg.y_pick (c := (Operand.tmp 54)) (x := (Operand.const (Value.bool true))) (y := (Operand.tmp 62)) (b := false) (by kernel_rfl) (by kernel_rfl) (by kernel_rfl)) ?_
  refine Rg.take (ops := (Rg.opsOf Try.f6 8)) 33 (some 64) ((.bool false)) hNS (by kernel_rfl) (by kernel_rfl) (by kernel_rfl) (by kernel_rfl) (by kernel_rfl) hHeld (Rg.y_move (x := (Operand.tmp 63)) (Or.inl (by kernel_rfl)) (by kernel_rfl)) ?_
  refine Rg.take (ops := (Rg.opsOf Try.f6 8)) 34 (some 65) ((.slice (some ⟨bc, oc, none⟩) L vc)) hNS (by kernel_rfl) (by kernel_rfl) (by kernel_rfl) (by kernel_rfl) (by kernel_rfl) hHeld (Rg.y_move (x := (Operand.tmp 7)) (Or.inl (by kernel_rfl)) (by kernel_rfl)) ?_
  refine Rg.take (ops := (Rg.opsOf Try.f6 8)) 35 (some 66) ((.int .i64 (k : Int))) hNS (by kernel_rfl) (by kernel_rfl) (by kernel_rfl) (by kernel_rfl) (by kernel_rfl) hHeld (Rg.y_move (x := (Operand.tmp 10)) (Or.inl (by kernel_rfl)) (by kernel_rfl)) ?_
  refine Rg.take (ops := (Rg.opsOf Try.f6 8)) 36 (some 67) ((.pointer (some ⟨bc, oc + k * 3, none⟩))) hNS (by kernel_rfl) (by kernel_rfl) (by kernel_rfl) (by kernel_rfl) (by kernel_rfl) hHeld (Rg.y_at (T := 23) (x := (Operand.tmp 65)) (y := (Operand.tmp 66)) (vx := (.slice (some ⟨bc, oc, none⟩) L vc)) (vy := (.int .i64 (k : Int))) (by kernel_rfl) (by kernel_rfl) (by kernel_rfl) ?_) ?_
  · (intro W hSw; clear hSw hHeld; go_simp)
  refine Rg.take (ops := (Rg.opsOf Try.f6 8)) 37 (some 68) ((.pointer (some ⟨bc, oc + k * 3 + 1, none⟩))) hNS (by kernel_rfl) (by kernel_rfl) (by kernel_rfl) (by kernel_rfl) (by kernel_rfl) hHeld (Rg.y_field (T := 33) (k := 1) (x := (Operand.tmp 67)) (vx := (.pointer (some ⟨bc, oc + k * 3, none⟩))) (by kernel_rfl) (by kernel_rfl) ?_) ?_
  · (intro W hSw; clear hSw hHeld; go_simp)
  refine Rg.take (ops := (Rg.opsOf Try.f6 8)) 38 (some 69) ((.slice A1 o c1)) hNS (by kernel_rfl) (by kernel_rfl) (by kernel_rfl) (by kernel_rfl) (by kernel_rfl) hHeld (Rg.y_load (T := 22) (x := (Operand.tmp 68)) (vx := (.pointer (some ⟨bc, oc + k * 3 + 1, none⟩))) (by kernel_rfl) (by kernel_rfl) ?_) ?_
  · (intro W hSw; obtain ⟨s0, s1, s2⟩ := hX _ hSw; clear hSw hHeld; go_simp)
  refine Rg.take (ops := (Rg.opsOf Try.f6 8)) 39 (some 70) ((.int .i64 (o : Int))) hNS (by kernel_rfl) (by kernel_rfl) (by kernel_rfl) (by kernel_rfl) (by kernel_rfl) hHeld (Rg.y_len (x := (Operand.tmp 69)) (ats := #[22]) (vx := (.slice A1 o c1)) (n := o) (by kernel_rfl) (by kernel_rfl) ?_) ?_
  · (intro ty w hSw; go_simp)
  refine Rg.take (ops := (Rg.opsOf Try.f6 8)) 40 (some 71) ((.slice A m ca)) hNS (by kernel_rfl) (by kernel_rfl) (by kernel_rfl) (by kernel_rfl) (by kernel_rfl) hHeld (Rg.y_move (x := (Operand.tmp 0)) (Or.inl (by kernel_rfl)) (by kernel_rfl)) ?_
  refine Rg.take (ops := (Rg.opsOf Try.f6 8)) 41 (some 72) ((.int .i64 (m : Int))) hNS (by kernel_rfl) (by kernel_rfl) (by kernel_rfl) (by kernel_rfl) (by kernel_rfl) hHeld (Rg.y_len (x := (Operand.tmp 71)) (ats := #[22]) (vx := (.slice A m ca)) (n := m) (by kernel_rfl) (by kernel_rfl) ?_) ?_
  · (intro ty w hSw; go_simp)
  refine Rg.take (ops := (Rg.opsOf Try.f6 8)) 42 (some 73) ((.slice (some ⟨bc, oc, none⟩) L vc)) hNS (by kernel_rfl) (by kernel_rfl) (by kernel_rfl) (by kernel_rfl) (by kernel_rfl) hHeld (Rg.y_move (x := (Operand.tmp 7)) (Or.inl (by kernel_rfl)) (by kernel_rfl)) ?_
  refine Rg.take (ops := (Rg.opsOf Try.f6 8)) 43 (some 74) ((.int .i64 (k : Int))) hNS (by kernel_rfl) (by kernel_rfl) (by kernel_rfl) (by kernel_rfl) (by kernel_rfl) hHeld (Rg.y_move (x := (Operand.tmp 10)) (Or.inl (by kernel_rfl)) (by kernel_rfl)) ?_
  refine Rg.take (ops := (Rg.opsOf Try.f6 8)) 44 (some 75) ((.pointer (some ⟨bc, oc + k * 3, none⟩))) hNS (by kernel_rfl) (by kernel_rfl) (by kernel_rfl) (by kernel_rfl) (by kernel_rfl) hHeld (Rg.y_at (T := 23) (x := (Operand.tmp 73)) (y := (Operand.tmp 74)) (vx := (.slice (some ⟨bc, oc, none⟩) L vc)) (vy := (.int .i64 (k : Int))) (by kernel_rfl) (by kernel_rfl) (by kernel_rfl) ?_) ?_
  · (intro W hSw; clear hSw hHeld; go_simp)
  refine Rg.take (ops := (Rg.opsOf Try.f6 8)) 45 (some 76) ((.pointer (some ⟨bc, oc + k * 3, none⟩))) hNS (by kernel_rfl) (by kernel_rfl) (by kernel_rfl) (by kernel_rfl) (by kernel_rfl) hHeld (Rg.y_field (T := 33) (k := 0) (x := (Operand.tmp 75)) (vx := (.pointer (some ⟨bc, oc + k * 3, none⟩))) (by kernel_rfl) (by kernel_rfl) ?_) ?_
  · (intro W hSw; clear hSw hHeld; go_simp)
  refine Rg.take (ops := (Rg.opsOf Try.f6 8)) 46 (some 77) ((.int .i64 (p : Int))) hNS (by kernel_rfl) (by kernel_rfl) (by kernel_rfl) (by kernel_rfl) (by kernel_rfl) hHeld (Rg.y_load (T := 3) (x := (Operand.tmp 76)) (vx := (.pointer (some ⟨bc, oc + k * 3, none⟩))) (by kernel_rfl) (by kernel_rfl) ?_) ?_
  · (intro W hSw; obtain ⟨s0, s1, s2⟩ := hX _ hSw; clear hSw hHeld; go_simp)
  refine Rg.take (ops := (Rg.opsOf Try.f6 8)) 47 (some 78) ((.int .i64 ((m : Int) - (p : Int)))) hNS (by kernel_rfl) (by kernel_rfl) (by kernel_rfl) (by kernel_rfl) (by kernel_rfl) hHeld (Rg.y_bin (b := BinOp.sub) (T := 3) (R' := 3) (x := (Operand.tmp 72)) (y := (Operand.tmp 77)) (vx := (.int .i64 (m : Int))) (vy := (.int .i64 (p : Int))) (by kernel_rfl) (by kernel_rfl) (by kernel_rfl) ?_) ?_
  · (intro W hSw; clear hSw hHeld; go_simp <;> first | omega | (intro h0; omega))
  refine Rg.take (ops := (Rg.opsOf Try.f6 8)) 48 (some 79) ((.bool false)) hNS (by kernel_rfl) (by kernel_rfl) (by kernel_rfl) (by kernel_rfl) (by kernel_rfl) hHeld (Rg.y_bin (b := BinOp.gtr) (T := 3) (R' := 3) (x := (Operand.tmp 70)) (y := (Operand.tmp 78)) (vx := (.int .i64 (o : Int))) (vy := (.int .i64 ((m : Int) - (p : Int)))) (by kernel_rfl) (by kernel_rfl) (by kernel_rfl) ?_) ?_
  · (intro W hSw; clear hSw hHeld; go_simp <;> first | omega | (intro h0; omega))
  refine Rg.take (ops := (Rg.opsOf Try.f6 8)) 49 (some 80) ((.bool false)) hNS (by kernel_rfl) (by kernel_rfl) (by kernel_rfl) (by kernel_rfl) (by kernel_rfl) hHeld (Rg.y_pick (c := (Operand.tmp 64)) (x := (Operand.const (Value.bool true))) (y := (Operand.tmp 79)) (b := false) (by kernel_rfl) (by kernel_rfl) (by kernel_rfl)) ?_
  refine Rg.done (ops := (Rg.opsOf Try.f6 8)) (by kernel_rfl) ?_
  exact ⟨by kernel_rfl, hHeld⟩
set_option maxRecDepth 100000 in
set_option maxHeartbeats 4000000 in
theorem apartReg14 (ops : Array Oper) (hops : ops = (Rg.opsOf Try.f6 14)) (id : Nat) (bc oc k p o q m ca L vc E c1 c2 : Nat) (ar : Int) (A A1 A2 : Option Addr) {u1 u3 u4 u5 u6 u8 u11 u12 u13 u14 u15 u16 u17 u18 u19 u20 u21 u22 u23 u24 u25 u26 u27 u28 u29 u30 u31 u32 u33 u34 u35 u36 u37 u38 u39 u40 u41 u42 u43 u44 u45 u46 u47 u48 u49 u50 u51 u52 u53 u54 u55 u56 u57 u58 u59 u60 u61 u62 u63 u64 u65 u66 u67 u68 u69 u70 u71 u72 u73 u74 u75 u76 u77 u78 u79 u80 u81 u82 u83 u84 u85 u86 u87 u88 u89 u90 u91 u92 u93 u94 u95 u96 u97 u98 u99 u100 u101 u102 u103 u104 u105 u106 u107 u108 u109 u110 u111 u112 u113 u114 u115 u116 u117 u118 u119 u120 u121 u122 u123 u124 u125 u126 u127 u128 u129 u130 u131 u132 u133 u134 u135 u136 u137 u138 u139 u140 u141 u142 u143 u144 : Value} (w : World) (X0 : World → Prop) (hk : (k : Int) < (L : Int))
    (hX : ∀ W, X0 W → Thr bc oc k p o q A1 A2 c1 c2 W) (hw : X0 w.drew) (wp : IntKind.i64.wrap ((p : Int) + (o : Int)) = (p : Int) + (o : Int)) :
    (Code.region id ops true).wp Try.prog (Rg.Only fun a' w' => a' = ⟨#[(.slice A m ca), u1, (.int .i64 ar), u3, u4, u5, u6, (.slice (some ⟨bc, oc, none⟩) L vc), u8, (.int .i64 ((p : Int) + (o : Int))), (.int .i64 (k : Int)), u11, u12, u13, u14, u15, u16, u17, u18, u19, u20, u21, u22, u23, u24, u25, u26, u27, u28, u29, u30, u31, u32, u33, u34, u35, u36, u37, u38, u39, u40, u41, u42, u43, u44, u45, u46, u47, u48, u49, u50, u51, u52, u53, u54, u55, u56, u57, u58, u59, u60, u61, u62, u63, u64, u65, u66, u67, u68, u69, u70, u71, u72, u73, u74, u75, u76, u77, u78, u79, u80, u81, u82, u83, u84, u85, u86, u87, u88, u89, u90, u91, u92, u93, u94, u95, u96, u97, u98, u99, u100, u101, u102, u103, u104, u105, u106, u107, u108, u109, u110, u111, u112, u113, u114, u115, u116, u117, u118, u119, u120, u121, u122, u123, u124, u125, u126, u127, u128, u129, u130, u131, u132, (.slice (some ⟨bc, oc, none⟩) L vc), (.int .i64 (k : Int)), (.pointer (some ⟨bc, oc + k * 3, none⟩)), (.pointer (some ⟨bc, oc + k * 3, none⟩)), (.int .i64 (p : Int)), (.slice (some ⟨bc, oc, none⟩) L vc), (.int .i64 (k : Int)), (.pointer (some ⟨bc, oc + k * 3, none⟩)), (.pointer (some ⟨bc, oc + k * 3 + 1, none⟩)), (.slice A1 o c1), (.int .i64 (o : Int)), (.int .i64 ((p : Int) + (o : Int)))], []⟩ ∧ X0 w') ⟨#[(.slice A m ca), u1, (.int .i64 ar), u3, u4, u5, u6, (.slice (some ⟨bc, oc, none⟩) L vc), u8, (.int .i64 (E : Int)), (.int .i64 (k : Int)), u11, u12, u13, u14, u15, u16, u17, u18, u19, u20, u21, u22, u23, u24, u25, u26, u27, u28, u29, u30, u31, u32, u33, u34, u35, u36, u37, u38, u39, u40, u41, u42, u43, u44, u45, u46, u47, u48, u49, u50, u51, u52, u53, u54, u55, u56, u57, u58, u59, u60, u61, u62, u63, u64, u65, u66, u67, u68, u69, u70, u71, u72, u73, u74, u75, u76, u77, u78, u79, u80, u81, u82, u83, u84, u85, u86, u87, u88, u89, u90, u91, u92, u93, u94, u95, u96, u97, u98, u99, u100, u101, u102, u103, u104, u105, u106, u107, u108, u109, u110, u111, u112, u113, u114, u115, u116, u117, u118, u119, u120, u121, u122, u123, u124, u125, u126, u127, u128, u129, u130, u131, u132, u133, u134, u135, u136, u137, u138, u139, u140, u141, u142, u143, u144], []⟩ w := by
  subst hops
  have hNS : Region.noSelect (Rg.opsOf Try.f6 14) = true := by kernel_rfl
  refine wp_region_held_drew (S := X0) (by kernel_rfl) hw (fun hHeld => ?_)
  rw [show (Rg.opsOf Try.f6 14).size = 13 by kernel_rfl]
  refine Rg.take (ops := (Rg.opsOf Try.f6 14)) 0 (some 133) ((.slice (some ⟨bc, oc, none⟩) L vc)) hNS (by kernel_rfl) (by kernel_rfl) (by kernel_rfl) (by kernel_rfl) (by kernel_rfl) hHeld (Rg.y_move (x := (Operand.tmp 7)) (Or.inl (by kernel_rfl)) (by kernel_rfl)) ?_
  refine Rg.take (ops := (Rg.opsOf Try.f6 14)) 1 (some 134) ((.int .i64 (k : Int))) hNS (by kernel_rfl) (by kernel_rfl) (by kernel_rfl) (by kernel_rfl) (by kernel_rfl) hHeld (Rg.y_move (x := (Operand.tmp 10)) (Or.inl (by kernel_rfl)) (by kernel_rfl)) ?_
  refine Rg.take (ops := (Rg.opsOf Try.f6 14)) 2 (some 135) ((.pointer (some ⟨bc, oc + k * 3, none⟩))) hNS (by kernel_rfl) (by kernel_rfl) (by kernel_rfl) (by kernel_rfl) (by kernel_rfl) hHeld (Rg.y_at (T := 23) (x := (Operand.tmp 133)) (y := (Operand.tmp 134)) (vx := (.slice (some ⟨bc, oc, none⟩) L vc)) (vy := (.int .i64 (k : Int))) (by kernel_rfl) (by kernel_rfl) (by kernel_rfl) ?_) ?_
  · (intro W hSw; clear hSw hHeld; go_simp)
  refine Rg.take (ops := (Rg.opsOf Try.f6 14)) 3 (some 136) ((.pointer (some ⟨bc, oc + k * 3, none⟩))) hNS (by kernel_rfl) (by kernel_rfl) (by kernel_rfl) (by kernel_rfl) (by kernel_rfl) hHeld (Rg.y_field (T := 33) (k := 0) (x := (Operand.tmp 135)) (vx := (.pointer (some ⟨bc, oc + k * 3, none⟩))) (by kernel_rfl) (by kernel_rfl) ?_) ?_
  · (intro W hSw; clear hSw hHeld; go_simp)
  refine Rg.take (ops := (Rg.opsOf Try.f6 14)) 4 (some 137) ((.int .i64 (p : Int))) hNS (by kernel_rfl) (by kernel_rfl) (by kernel_rfl) (by kernel_rfl) (by kernel_rfl) hHeld (Rg.y_load (T := 3) (x := (Operand.tmp 136)) (vx := (.pointer (some ⟨bc, oc + k * 3, none⟩))) (by kernel_rfl) (by kernel_rfl) ?_) ?_
  · (intro W hSw; obtain ⟨s0, s1, s2⟩ := hX _ hSw; clear hSw hHeld; go_simp)
  refine Rg.take (ops := (Rg.opsOf Try.f6 14)) 5 (some 138) ((.slice (some ⟨bc, oc, none⟩) L vc)) hNS (by kernel_rfl) (by kernel_rfl) (by kernel_rfl) (by kernel_rfl) (by kernel_rfl) hHeld (Rg.y_move (x := (Operand.tmp 7)) (Or.inl (by kernel_rfl)) (by kernel_rfl)) ?_
  refine Rg.take (ops := (Rg.opsOf Try.f6 14)) 6 (some 139) ((.int .i64 (k : Int))) hNS (by kernel_rfl) (by kernel_rfl) (by kernel_rfl) (by kernel_rfl) (by kernel_rfl) hHeld (Rg.y_move (x := (Operand.tmp 10)) (Or.inl (by kernel_rfl)) (by kernel_rfl)) ?_
  refine Rg.take (ops := (Rg.opsOf Try.f6 14)) 7 (some 140) ((.pointer (some ⟨bc, oc + k * 3, none⟩))) hNS (by kernel_rfl) (by kernel_rfl) (by kernel_rfl) (by kernel_rfl) (by kernel_rfl) hHeld (Rg.y_at (T := 23) (x := (Operand.tmp 138)) (y := (Operand.tmp 139)) (vx := (.slice (some ⟨bc, oc, none⟩) L vc)) (vy := (.int .i64 (k : Int))) (by kernel_rfl) (by kernel_rfl) (by kernel_rfl) ?_) ?_
  · (intro W hSw; clear hSw hHeld; go_simp)
  refine Rg.take (ops := (Rg.opsOf Try.f6 14)) 8 (some 141) ((.pointer (some ⟨bc, oc + k * 3 + 1, none⟩))) hNS (by kernel_rfl) (by kernel_rfl) (by kernel_rfl) (by kernel_rfl) (by kernel_rfl) hHeld (Rg.y_field (T := 33) (k := 1) (x := (Operand.tmp 140)) (vx := (.pointer (some ⟨bc, oc + k * 3, none⟩))) (by kernel_rfl) (by kernel_rfl) ?_) ?_
  · (intro W hSw; clear hSw hHeld; go_simp)
  refine Rg.take (ops := (Rg.opsOf Try.f6 14)) 9 (some 142) ((.slice A1 o c1)) hNS (by kernel_rfl) (by kernel_rfl) (by kernel_rfl) (by kernel_rfl) (by kernel_rfl) hHeld (Rg.y_load (T := 22) (x := (Operand.tmp 141)) (vx := (.pointer (some ⟨bc, oc + k * 3 + 1, none⟩))) (by kernel_rfl) (by kernel_rfl) ?_) ?_
  · (intro W hSw; obtain ⟨s0, s1, s2⟩ := hX _ hSw; clear hSw hHeld; go_simp)
  refine Rg.take (ops := (Rg.opsOf Try.f6 14)) 10 (some 143) ((.int .i64 (o : Int))) hNS (by kernel_rfl) (by kernel_rfl) (by kernel_rfl) (by kernel_rfl) (by kernel_rfl) hHeld (Rg.y_len (x := (Operand.tmp 142)) (ats := #[22]) (vx := (.slice A1 o c1)) (n := o) (by kernel_rfl) (by kernel_rfl) ?_) ?_
  · (intro ty w hSw; go_simp)
  refine Rg.take (ops := (Rg.opsOf Try.f6 14)) 11 (some 144) ((.int .i64 ((p : Int) + (o : Int)))) hNS (by kernel_rfl) (by kernel_rfl) (by kernel_rfl) (by kernel_rfl) (by kernel_rfl) hHeld (Rg.y_bin (b := BinOp.add) (T := 3) (R' := 3) (x := (Operand.tmp 137)) (y := (Operand.tmp 143)) (vx := (.int .i64 (p : Int))) (vy := (.int .i64 (o : Int))) (by kernel_rfl) (by kernel_rfl) (by kernel_rfl) ?_) ?_
  · (intro W hSw; clear hSw hHeld; go_simp <;> first | omega | (intro h0; omega))
  refine Rg.take (ops := (Rg.opsOf Try.f6 14)) 12 (some 9) ((.int .i64 ((p : Int) + (o : Int)))) hNS (by kernel_rfl) (by kernel_rfl) (by kernel_rfl) (by kernel_rfl) (by kernel_rfl) hHeld (Rg.y_move (x := (Operand.tmp 144)) (Or.inr (by kernel_rfl)) (by kernel_rfl)) ?_
  refine Rg.done (ops := (Rg.opsOf Try.f6 14)) (by kernel_rfl) ?_
  exact ⟨by kernel_rfl, hHeld⟩
set_option maxRecDepth 100000 in
set_option maxHeartbeats 4000000 in
theorem apartReg12ar (ops : Array Oper) (hops : ops = (Rg.opsOf Try.f6 12)) (id : Nat) (bc oc k p o q m ca L vc E c1 c2 : Nat) (ar : Int) (A A1 A2 : Option Addr) {u1 u3 u4 u5 u6 u8 u11 u12 u13 u14 u15 u16 u17 u18 u19 u20 u21 u22 u23 u24 u25 u26 u27 u28 u29 u30 u31 u32 u33 u34 u35 u36 u37 u38 u39 u40 u41 u42 u43 u44 u45 u46 u47 u48 u49 u50 u51 u52 u53 u54 u55 u56 u57 u58 u59 u60 u61 u62 u63 u64 u65 u66 u67 u68 u69 u70 u71 u72 u73 u74 u75 u76 u77 u78 u79 u80 u81 u82 u83 u84 u85 u86 u87 u88 u89 u90 u91 u92 u93 u94 u95 u96 u97 u98 u99 u100 u101 u102 u103 u104 u105 u106 u107 u108 u109 u110 u111 u112 u113 u114 u115 u116 u117 u118 u119 u120 u121 u122 u123 u124 u125 u126 u127 u128 u129 u130 u131 u132 u133 u134 u135 u136 u137 u138 u139 u140 u141 u142 u143 u144 : Value} (w : World) (X0 : World → Prop) (hk : (k : Int) < (L : Int))
    (hX : ∀ W, X0 W → Thr bc oc k p o q A1 A2 c1 c2 W) (hw : X0 w.drew) (j1 : (ar == 0) = false) :
    (Code.region id ops true).wp Try.prog (Rg.Only fun a' w' => a' = ⟨#[(.slice A m ca), u1, (.int .i64 ar), u3, u4, u5, u6, (.slice (some ⟨bc, oc, none⟩) L vc), u8, (.int .i64 (E : Int)), (.int .i64 (k : Int)), u11, u12, u13, u14, u15, u16, u17, u18, u19, u20, u21, u22, u23, u24, u25, u26, u27, u28, u29, u30, u31, u32, u33, u34, u35, u36, u37, u38, u39, u40, u41, u42, u43, u44, u45, u46, u47, u48, u49, u50, u51, u52, u53, u54, u55, u56, u57, u58, u59, u60, u61, u62, u63, u64, u65, u66, u67, u68, u69, u70, u71, u72, u73, u74, u75, u76, u77, u78, u79, u80, u81, u82, u83, u84, u85, u86, u87, u88, u89, u90, u91, u92, u93, u94, u95, (.int .i64 ar), (.bool false), (.bool false), undef, undef, undef, undef, undef, undef, undef, (Value.bool false), (Value.bool false), undef, undef, undef, undef, undef, undef, undef, (Value.bool false), (Value.bool false), undef, undef, undef, undef, undef, undef, undef, undef, undef, undef, undef, undef, undef, undef, undef, (Value.bool false), u133, u134, u135, u136, u137, u138, u139, u140, u141, u142, u143, u144], []⟩ ∧ X0 w') ⟨#[(.slice A m ca), u1, (.int .i64 ar), u3, u4, u5, u6, (.slice (some ⟨bc, oc, none⟩) L vc), u8, (.int .i64 (E : Int)), (.int .i64 (k : Int)), u11, u12, u13, u14, u15, u16, u17, u18, u19, u20, u21, u22, u23, u24, u25, u26, u27, u28, u29, u30, u31, u32, u33, u34, u35, u36, u37, u38, u39, u40, u41, u42, u43, u44, u45, u46, u47, u48, u49, u50, u51, u52, u53, u54, u55, u56, u57, u58, u59, u60, u61, u62, u63, u64, u65, u66, u67, u68, u69, u70, u71, u72, u73, u74, u75, u76, u77, u78, u79, u80, u81, u82, u83, u84, u85, u86, u87, u88, u89, u90, u91, u92, u93, u94, u95, u96, u97, u98, u99, u100, u101, u102, u103, u104, u105, u106, u107, u108, u109, u110, u111, u112, u113, u114, u115, u116, u117, u118, u119, u120, u121, u122, u123, u124, u125, u126, u127, u128, u129, u130, u131, u132, u133, u134, u135, u136, u137, u138, u139, u140, u141, u142, u143, u144], []⟩ w := by
  subst hops
  have hNS : Region.noSelect (Rg.opsOf Try.f6 12) = true := by kernel_rfl
  refine wp_region_held_drew (S := X0) (by kernel_rfl) hw (fun hHeld => ?_)
  rw [show (Rg.opsOf Try.f6 12).size = 37 by kernel_rfl]
  refine Rg.take (ops := (Rg.opsOf Try.f6 12)) 0 (some 96) ((.int .i64 ar)) hNS (by kernel_rfl) (by kernel_rfl) (by kernel_rfl) (by kernel_rfl) (by kernel_rfl) hHeld (Rg.y_move (x := (Operand.tmp 2)) (Or.inl (by kernel_rfl)) (by kernel_rfl)) ?_
  refine Rg.take (ops := (Rg.opsOf Try.f6 12)) 1 (some 97) ((.bool false)) hNS (by kernel_rfl) (by kernel_rfl) (by kernel_rfl) (by kernel_rfl) (by kernel_rfl) hHeld (Rg.y_bin (b := BinOp.eql) (T := 3) (R' := 3) (x := (Operand.tmp 96)) (y := (Operand.const (Value.int IntKind.i64 0))) (vx := (.int .i64 ar)) (vy := (Value.int IntKind.i64 0)) (by kernel_rfl) (by kernel_rfl) (by kernel_rfl) ?_) ?_
  · (intro W hSw; clear hSw hHeld; go_simp <;> first | omega | (intro h0; omega))
  refine Rg.take (ops := (Rg.opsOf Try.f6 12)) 2 (some 98) ((.bool false)) hNS (by kernel_rfl) (by kernel_rfl) (by kernel_rfl) (by kernel_rfl) (by kernel_rfl) hHeld (Rg.y_move (x := (Operand.tmp 97)) (Or.inl (by kernel_rfl)) (by kernel_rfl)) ?_
  refine Rg.skip (ops := (Rg.opsOf Try.f6 12)) 3 (some 99) hNS (by kernel_rfl) (by kernel_rfl) (by kernel_rfl) (by kernel_rfl) (by kernel_rfl) hHeld ?_
  refine Rg.skip (ops := (Rg.opsOf Try.f6 12)) 4 (some 100) hNS (by kernel_rfl) (by kernel_rfl) (by kernel_rfl) (by kernel_rfl) (by kernel_rfl) hHeld ?_
  refine Rg.skip (ops := (Rg.opsOf Try.f6 12)) 5 (some 101) hNS (by kernel_rfl) (by kernel_rfl) (by kernel_rfl) (by kernel_rfl) (by kernel_rfl) hHeld ?_
  refine Rg.skip (ops := (Rg.opsOf Try.f6 12)) 6 (some 102) hNS (by kernel_rfl) (by kernel_rfl) (by kernel_rfl) (by kernel_rfl) (by kernel_rfl) hHeld ?_
  refine Rg.skip (ops := (Rg.opsOf Try.f6 12)) 7 (some 103) hNS (by kernel_rfl) (by kernel_rfl) (by kernel_rfl) (by kernel_rfl) (by kernel_rfl) hHeld ?_
  refine Rg.skip (ops := (Rg.opsOf Try.f6 12)) 8 (some 104) hNS (by kernel_rfl) (by kernel_rfl) (by kernel_rfl) (by kernel_rfl) (by kernel_rfl) hHeld ?_
  refine Rg.skip (ops := (Rg.opsOf Try.f6 12)) 9 (some 105) hNS (by kernel_rfl) (by kernel_rfl) (by kernel_rfl) (by kernel_rfl) (by kernel_rfl) hHeld ?_
  refine Rg.take (ops := (Rg.opsOf Try.f6 12)) 10 (some 106) ((Value.bool false)) hNS (by kernel_rfl) (by kernel_rfl) (by kernel_rfl) (by kernel_rfl) (by kernel_rfl) hHeld (Rg.y_pick (c := (Operand.tmp 98)) (x := (Operand.tmp 105)) (y := (Operand.const (Value.bool false))) (b := false) (by kernel_rfl) (by kernel_rfl) (by kernel_rfl)) ?_
  refine Rg.take (ops := (Rg.opsOf Try.f6 12)) 11 (some 107) ((Value.bool false)) hNS (by kernel_rfl) (by kernel_rfl) (by kernel_rfl) (by kernel_rfl) (by kernel_rfl) hHeld (Rg.y_move (x := (Operand.tmp 106)) (Or.inl (by kernel_rfl)) (by kernel_rfl)) ?_
  refine Rg.skip (ops := (Rg.opsOf Try.f6 12)) 12 (some 108) hNS (by kernel_rfl) (by kernel_rfl) (by kernel_rfl) (by kernel_rfl) (by kernel_rfl) hHeld ?_
  refine Rg.skip (ops := (Rg.opsOf Try.f6 12)) 13 (some 109) hNS (by kernel_rfl) (by kernel_rfl) (by kernel_rfl) (by kernel_rfl) (by kernel_rfl) hHeld ?_
  refine Rg.skip (ops := (Rg.opsOf Try.f6 12)) 14 (some 110) hNS (by kernel_rfl) (by kernel_rfl) (by kernel_rfl) (by kernel_rfl) (by kernel_rfl) hHeld ?_
  refine Rg.skip (ops := (Rg.opsOf Try.f6 12)) 15 (some 111) hNS (by kernel_rfl) (by kernel_rfl) (by kernel_rfl) (by kernel_rfl) (by kernel_rfl) hHeld ?_
  refine Rg.skip (ops := (Rg.opsOf Try.f6 12)) 16 (some 112) hNS (by kernel_rfl) (by kernel_rfl) (by kernel_rfl) (by kernel_rfl) (by kernel_rfl) hHeld ?_
  refine Rg.skip (ops := (Rg.opsOf Try.f6 12)) 17 (some 113) hNS (by kernel_rfl) (by kernel_rfl) (by kernel_rfl) (by kernel_rfl) (by kernel_rfl) hHeld ?_
  refine Rg.skip (ops := (Rg.opsOf Try.f6 12)) 18 (some 114) hNS (by kernel_rfl) (by kernel_rfl) (by kernel_rfl) (by kernel_rfl) (by kernel_rfl) hHeld ?_
  refine Rg.take (ops := (Rg.opsOf Try.f6 12)) 19 (some 115) ((Value.bool false)) hNS (by kernel_rfl) (by kernel_rfl) (by kernel_rfl) (by kernel_rfl) (by kernel_rfl) hHeld (Rg.y_pick (c := (Operand.tmp 107)) (x := (Operand.tmp 114)) (y := (Operand.const (Value.bool false))) (b := false) (by kernel_rfl) (by kernel_rfl) (by kernel_rfl)) ?_
  refine Rg.take (ops := (Rg.opsOf Try.f6 12)) 20 (some 116) ((Value.bool false)) hNS (by kernel_rfl) (by kernel_rfl) (by kernel_rfl) (by kernel_rfl) (by kernel_rfl) hHeld (Rg.y_move (x := (Operand.tmp 115)) (Or.inl (by kernel_rfl)) (by kernel_rfl)) ?_
  refine Rg.skip (ops := (Rg.opsOf Try.f6 12)) 21 (some 117) hNS (by kernel_rfl) (by kernel_rfl) (by kernel_rfl) (by kernel_rfl) (by kernel_rfl) hHeld ?_
  refine Rg.skip (ops := (Rg.opsOf Try.f6 12)) 22 (some 118) hNS (by kernel_rfl) (by kernel_rfl) (by kernel_rfl) (by kernel_rfl) (by kernel_rfl) hHeld ?_
  refine Rg.skip (ops := (Rg.opsOf Try.f6 12)) 23 (some 119) hNS (by kernel_rfl) (by kernel_rfl) (by kernel_rfl) (by kernel_rfl) (by kernel_rfl) hHeld ?_
  refine Rg.skip (ops := (Rg.opsOf Try.f6 12)) 24 (some 120) hNS (by kernel_rfl) (by kernel_rfl) (by kernel_rfl) (by kernel_rfl) (by kernel_rfl) hHeld ?_
  refine Rg.skip (ops := (Rg.opsOf Try.f6 12)) 25 (some 121) hNS (by kernel_rfl) (by kernel_rfl) (by kernel_rfl) (by kernel_rfl) (by kernel_rfl) hHeld ?_
  refine Rg.skip (ops := (Rg.opsOf Try.f6 12)) 26 (some 122) hNS (by kernel_rfl) (by kernel_rfl) (by kernel_rfl) (by kernel_rfl) (by kernel_rfl) hHeld ?_
  refine Rg.skip (ops := (Rg.opsOf Try.f6 12)) 27 (some 123) hNS (by kernel_rfl) (by kernel_rfl) (by kernel_rfl) (by kernel_rfl) (by kernel_rfl) hHeld ?_
  refine Rg.skip (ops := (Rg.opsOf Try.f6 12)) 28 (some 124) hNS (by kernel_rfl) (by kernel_rfl) (by kernel_rfl) (by kernel_rfl) (by kernel_rfl) hHeld ?_
  refine Rg.skip (ops := (Rg.opsOf Try.f6 12)) 29 (some 125) hNS (by kernel_rfl) (by kernel_rfl) (by kernel_rfl) (by kernel_rfl) (by kernel_rfl) hHeld ?_
  refine Rg.skip (ops := (Rg.opsOf Try.f6 12)) 30 (some 126) hNS (by kernel_rfl) (by kernel_rfl) (by kernel_rfl) (by kernel_rfl) (by kernel_rfl) hHeld ?_
  refine Rg.skip (ops := (Rg.opsOf Try.f6 12)) 31 (some 127) hNS (by kernel_rfl) (by kernel_rfl) (by kernel_rfl) (by kernel_rfl) (by kernel_rfl) hHeld ?_
  refine Rg.skip (ops := (Rg.opsOf Try.f6 12)) 32 (some 128) hNS (by kernel_rfl) (by kernel_rfl) (by kernel_rfl) (by kernel_rfl) (by kernel_rfl) hHeld ?_
  refine Rg.skip (ops := (Rg.opsOf Try.f6 12)) 33 (some 129) hNS (by kernel_rfl) (by kernel_rfl) (by kernel_rfl) (by kernel_rfl) (by kernel_rfl) hHeld ?_
  refine Rg.skip (ops := (Rg.opsOf Try.f6 12)) 34 (some 130) hNS (by kernel_rfl) (by kernel_rfl) (by kernel_rfl) (by kernel_rfl) (by kernel_rfl) hHeld ?_
  refine Rg.skip (ops := (Rg.opsOf Try.f6 12)) 35 (some 131) hNS (by kernel_rfl) (by kernel_rfl) (by kernel_rfl) (by kernel_rfl) (by kernel_rfl) hHeld ?_
  refine Rg.take (ops := (Rg.opsOf Try.f6 12)) 36 (some 132) ((Value.bool false)) hNS (by kernel_rfl) (by kernel_rfl) (by kernel_rfl) (by kernel_rfl) (by kernel_rfl) hHeld (Rg.y_pick (c := (Operand.tmp 116)) (x := (Operand.tmp 131)) (y := (Operand.const (Value.bool false))) (b := false) (by kernel_rfl) (by kernel_rfl) (by kernel_rfl)) ?_
  refine Rg.done (ops := (Rg.opsOf Try.f6 12)) (by kernel_rfl) ?_
  exact ⟨by kernel_rfl, hHeld⟩
set_option maxRecDepth 100000 in
set_option maxHeartbeats 4000000 in
theorem apartReg12o (ops : Array Oper) (hops : ops = (Rg.opsOf Try.f6 12)) (id : Nat) (bc oc k p o q m ca L vc E c1 c2 : Nat) (ar : Int) (A A1 A2 : Option Addr) {u1 u3 u4 u5 u6 u8 u11 u12 u13 u14 u15 u16 u17 u18 u19 u20 u21 u22 u23 u24 u25 u26 u27 u28 u29 u30 u31 u32 u33 u34 u35 u36 u37 u38 u39 u40 u41 u42 u43 u44 u45 u46 u47 u48 u49 u50 u51 u52 u53 u54 u55 u56 u57 u58 u59 u60 u61 u62 u63 u64 u65 u66 u67 u68 u69 u70 u71 u72 u73 u74 u75 u76 u77 u78 u79 u80 u81 u82 u83 u84 u85 u86 u87 u88 u89 u90 u91 u92 u93 u94 u95 u96 u97 u98 u99 u100 u101 u102 u103 u104 u105 u106 u107 u108 u109 u110 u111 u112 u113 u114 u115 u116 u117 u118 u119 u120 u121 u122 u123 u124 u125 u126 u127 u128 u129 u130 u131 u132 u133 u134 u135 u136 u137 u138 u139 u140 u141 u142 u143 u144 : Value} (w : World) (X0 : World → Prop) (hk : (k : Int) < (L : Int))
    (hX : ∀ W, X0 W → Thr bc oc k p o q A1 A2 c1 c2 W) (hw : X0 w.drew) (j1 : (ar == 0) = true) (l1 : ¬ (0 : Int) < (o : Int)) (l2 : decide ((0 : Int) < (o : Int)) = false) :
    (Code.region id ops true).wp Try.prog (Rg.Only fun a' w' => a' = ⟨#[(.slice A m ca), u1, (.int .i64 ar), u3, u4, u5, u6, (.slice (some ⟨bc, oc, none⟩) L vc), u8, (.int .i64 (E : Int)), (.int .i64 (k : Int)), u11, u12, u13, u14, u15, u16, u17, u18, u19, u20, u21, u22, u23, u24, u25, u26, u27, u28, u29, u30, u31, u32, u33, u34, u35, u36, u37, u38, u39, u40, u41, u42, u43, u44, u45, u46, u47, u48, u49, u50, u51, u52, u53, u54, u55, u56, u57, u58, u59, u60, u61, u62, u63, u64, u65, u66, u67, u68, u69, u70, u71, u72, u73, u74, u75, u76, u77, u78, u79, u80, u81, u82, u83, u84, u85, u86, u87, u88, u89, u90, u91, u92, u93, u94, u95, (.int .i64 ar), (.bool true), (.bool true), (.slice (some ⟨bc, oc, none⟩) L vc), (.int .i64 (k : Int)), (.pointer (some ⟨bc, oc + k * 3, none⟩)), (.pointer (some ⟨bc, oc + k * 3 + 1, none⟩)), (.slice A1 o c1), (.int .i64 (o : Int)), (.bool false), (.bool false), (.bool false), undef, undef, undef, undef, undef, undef, undef, (Value.bool false), (Value.bool false), undef, undef, undef, undef, undef, undef, undef, undef, undef, undef, undef, undef, undef, undef, undef, (Value.bool false), u133, u134, u135, u136, u137, u138, u139, u140, u141, u142, u143, u144], []⟩ ∧ X0 w') ⟨#[(.slice A m ca), u1, (.int .i64 ar), u3, u4, u5, u6, (.slice (some ⟨bc, oc, none⟩) L vc), u8, (.int .i64 (E : Int)), (.int .i64 (k : Int)), u11, u12, u13, u14, u15, u16, u17, u18, u19, u20, u21, u22, u23, u24, u25, u26, u27, u28, u29, u30, u31, u32, u33, u34, u35, u36, u37, u38, u39, u40, u41, u42, u43, u44, u45, u46, u47, u48, u49, u50, u51, u52, u53, u54, u55, u56, u57, u58, u59, u60, u61, u62, u63, u64, u65, u66, u67, u68, u69, u70, u71, u72, u73, u74, u75, u76, u77, u78, u79, u80, u81, u82, u83, u84, u85, u86, u87, u88, u89, u90, u91, u92, u93, u94, u95, u96, u97, u98, u99, u100, u101, u102, u103, u104, u105, u106, u107, u108, u109, u110, u111, u112, u113, u114, u115, u116, u117, u118, u119, u120, u121, u122, u123, u124, u125, u126, u127, u128, u129, u130, u131, u132, u133, u134, u135, u136, u137, u138, u139, u140, u141, u142, u143, u144], []⟩ w := by
  subst hops
  have hNS : Region.noSelect (Rg.opsOf Try.f6 12) = true := by kernel_rfl
  refine wp_region_held_drew (S := X0) (by kernel_rfl) hw (fun hHeld => ?_)
  rw [show (Rg.opsOf Try.f6 12).size = 37 by kernel_rfl]
  refine Rg.take (ops := (Rg.opsOf Try.f6 12)) 0 (some 96) ((.int .i64 ar)) hNS (by kernel_rfl) (by kernel_rfl) (by kernel_rfl) (by kernel_rfl) (by kernel_rfl) hHeld (Rg.y_move (x := (Operand.tmp 2)) (Or.inl (by kernel_rfl)) (by kernel_rfl)) ?_
  refine Rg.take (ops := (Rg.opsOf Try.f6 12)) 1 (some 97) ((.bool true)) hNS (by kernel_rfl) (by kernel_rfl) (by kernel_rfl) (by kernel_rfl) (by kernel_rfl) hHeld (Rg.y_bin (b := BinOp.eql) (T := 3) (R' := 3) (x := (Operand.tmp 96)) (y := (Operand.const (Value.int IntKind.i64 0))) (vx := (.int .i64 ar)) (vy := (Value.int IntKind.i64 0)) (by kernel_rfl) (by kernel_rfl) (by kernel_rfl) ?_) ?_
  · (intro W hSw; clear hSw hHeld; go_simp <;> first | omega | (intro h0; omega))
  refine Rg.take (ops := (Rg.opsOf Try.f6 12)) 2 (some 98) ((.bool true)) hNS (by kernel_rfl) (by kernel_rfl) (by kernel_rfl) (by kernel_rfl) (by kernel_rfl) hHeld (Rg.y_move (x := (Operand.tmp 97)) (Or.inl (by kernel_rfl)) (by kernel_rfl)) ?_
  refine Rg.take (ops := (Rg.opsOf Try.f6 12)) 3 (some 99) ((.slice (some ⟨bc, oc, none⟩) L vc)) hNS (by kernel_rfl) (by kernel_rfl) (by kernel_rfl) (by kernel_rfl) (by kernel_rfl) hHeld (Rg.y_move (x := (Operand.tmp 7)) (Or.inl (by kernel_rfl)) (by kernel_rfl)) ?_
  refine Rg.take (ops := (Rg.opsOf Try.f6 12)) 4 (some 100) ((.int .i64 (k : Int))) hNS (by kernel_rfl) (by kernel_rfl) (by kernel_rfl) (by kernel_rfl) (by kernel_rfl) hHeld (Rg.y_move (x := (Operand.tmp 10)) (Or.inl (by kernel_rfl)) (by kernel_rfl)) ?_
  refine Rg.take (ops := (Rg.opsOf Try.f6 12)) 5 (some 101) ((.pointer (some ⟨bc, oc + k * 3, none⟩))) hNS (by kernel_rfl) (by kernel_rfl) (by kernel_rfl) (by kernel_rfl) (by kernel_rfl) hHeld (Rg.y_at (T := 23) (x := (Operand.tmp 99)) (y := (Operand.tmp 100)) (vx := (.slice (some ⟨bc, oc, none⟩) L vc)) (vy := (.int .i64 (k : Int))) (by kernel_rfl) (by kernel_rfl) (by kernel_rfl) ?_) ?_
  · (intro W hSw; clear hSw hHeld; go_simp)
  refine Rg.take (ops := (Rg.opsOf Try.f6 12)) 6 (some 102) ((.pointer (some ⟨bc, oc + k * 3 + 1, none⟩))) hNS (by kernel_rfl) (by kernel_rfl) (by kernel_rfl) (by kernel_rfl) (by kernel_rfl) hHeld (Rg.y_field (T := 33) (k := 1) (x := (Operand.tmp 101)) (vx := (.pointer (some ⟨bc, oc + k * 3, none⟩))) (by kernel_rfl) (by kernel_rfl) ?_) ?_
  · (intro W hSw; clear hSw hHeld; go_simp)
  refine Rg.take (ops := (Rg.opsOf Try.f6 12)) 7 (some 103) ((.slice A1 o c1)) hNS (by kernel_rfl) (by kernel_rfl) (by kernel_rfl) (by kernel_rfl) (by kernel_rfl) hHeld (Rg.y_load (T := 22) (x := (Operand.tmp 102)) (vx := (.pointer (some ⟨bc, oc + k * 3 + 1, none⟩))) (by kernel_rfl) (by kernel_rfl) ?_) ?_
  · (intro W hSw; obtain ⟨s0, s1, s2⟩ := hX _ hSw; clear hSw hHeld; go_simp)
  refine Rg.take (ops := (Rg.opsOf Try.f6 12)) 8 (some 104) ((.int .i64 (o : Int))) hNS (by kernel_rfl) (by kernel_rfl) (by kernel_rfl) (by kernel_rfl) (by kernel_rfl) hHeld (Rg.y_len (x := (Operand.tmp 103)) (ats := #[22]) (vx := (.slice A1 o c1)) (n := o) (by kernel_rfl) (by kernel_rfl) ?_) ?_
  · (intro ty w hSw; go_simp)
  refine Rg.take (ops := (Rg.opsOf Try.f6 12)) 9 (some 105) ((.bool false)) hNS (by kernel_rfl) (by kernel_rfl) (by kernel_rfl) (by kernel_rfl) (by kernel_rfl) hHeld (Rg.y_bin (b := BinOp.gtr) (T := 3) (R' := 3) (x := (Operand.tmp 104)) (y := (Operand.const (Value.int IntKind.i64 0))) (vx := (.int .i64 (o : Int))) (vy := (Value.int IntKind.i64 0)) (by kernel_rfl) (by kernel_rfl) (by kernel_rfl) ?_) ?_
  · (intro W hSw; clear hSw hHeld; go_simp <;> first | omega | (intro h0; omega))
  refine Rg.take (ops := (Rg.opsOf Try.f6 12)) 10 (some 106) ((.bool false)) hNS (by kernel_rfl) (by kernel_rfl) (by kernel_rfl) (by kernel_rfl) (by kernel_rfl) hHeld (Rg.y_pick (c := (Operand.tmp 98)) (x := (Operand.tmp 105)) (y := (Operand.const (Value.bool false))) (b := true) (by kernel_rfl) (by kernel_rfl) (by kernel_rfl)) ?_
  refine Rg.take (ops := (Rg.opsOf Try.f6 12)) 11 (some 107) ((.bool false)) hNS (by kernel_rfl) (by kernel_rfl) (by kernel_rfl) (by kernel_rfl) (by kernel_rfl) hHeld (Rg.y_move (x := (Operand.tmp 106)) (Or.inl (by kernel_rfl)) (by kernel_rfl)) ?_
  refine Rg.skip (ops := (Rg.opsOf Try.f6 12)) 12 (some 108) hNS (by kernel_rfl) (by kernel_rfl) (by kernel_rfl) (by kernel_rfl) (by kernel_rfl) hHeld ?_
  refine Rg.skip (ops := (Rg.opsOf Try.f6 12)) 13 (some 109) hNS (by kernel_rfl) (by kernel_rfl) (by kernel_rfl) (by kernel_rfl) (by kernel_rfl) hHeld ?_
  refine Rg.skip (ops := (Rg.opsOf Try.f6 12)) 14 (some 110) hNS (by kernel_rfl) (by kernel_rfl) (by kernel_rfl) (by kernel_rfl) (by kernel_rfl) hHeld ?_
  refine Rg.skip (ops := (Rg.opsOf Try.f6 12)) 15 (some 111) hNS (by kernel_rfl) (by kernel_rfl) (by kernel_rfl) (by kernel_rfl) (by kernel_rfl) hHeld ?_
  refine Rg.skip (ops := (Rg.opsOf Try.f6 12)) 16 (some 112) hNS (by kernel_rfl) (by kernel_rfl) (by kernel_rfl) (by kernel_rfl) (by kernel_rfl) hHeld ?_
  refine Rg.skip (ops := (Rg.opsOf Try.f6 12)) 17 (some 113) hNS (by kernel_rfl) (by kernel_rfl) (by kernel_rfl) (by kernel_rfl) (by kernel_rfl) hHeld ?_
  refine Rg.skip (ops := (Rg.opsOf Try.f6 12)) 18 (some 114) hNS (by kernel_rfl) (by kernel_rfl) (by kernel_rfl) (by kernel_rfl) (by kernel_rfl) hHeld ?_
  refine Rg.take (ops := (Rg.opsOf Try.f6 12)) 19 (some 115) ((Value.bool false)) hNS (by kernel_rfl) (by kernel_rfl) (by kernel_rfl) (by kernel_rfl) (by kernel_rfl) hHeld (Rg.y_pick (c := (Operand.tmp 107)) (x := (Operand.tmp 114)) (y := (Operand.const (Value.bool false))) (b := false) (by kernel_rfl) (by kernel_rfl) (by kernel_rfl)) ?_
  refine Rg.take (ops := (Rg.opsOf Try.f6 12)) 20 (some 116) ((Value.bool false)) hNS (by kernel_rfl) (by kernel_rfl) (by kernel_rfl) (by kernel_rfl) (by kernel_rfl) hHeld (Rg.y_move (x := (Operand.tmp 115)) (Or.inl (by kernel_rfl)) (by kernel_rfl)) ?_
  refine Rg.skip (ops := (Rg.opsOf Try.f6 12)) 21 (some 117) hNS (by kernel_rfl) (by kernel_rfl) (by kernel_rfl) (by kernel_rfl) (by kernel_rfl) hHeld ?_
  refine Rg.skip (ops := (Rg.opsOf Try.f6 12)) 22 (some 118) hNS (by kernel_rfl) (by kernel_rfl) (by kernel_rfl) (by kernel_rfl) (by kernel_rfl) hHeld ?_
  refine Rg.skip (ops := (Rg.opsOf Try.f6 12)) 23 (some 119) hNS (by kernel_rfl) (by kernel_rfl) (by kernel_rfl) (by kernel_rfl) (by kernel_rfl) hHeld ?_
  refine Rg.skip (ops := (Rg.opsOf Try.f6 12)) 24 (some 120) hNS (by kernel_rfl) (by kernel_rfl) (by kernel_rfl) (by kernel_rfl) (by kernel_rfl) hHeld ?_
  refine Rg.skip (ops := (Rg.opsOf Try.f6 12)) 25 (some 121) hNS (by kernel_rfl) (by kernel_rfl) (by kernel_rfl) (by kernel_rfl) (by kernel_rfl) hHeld ?_
  refine Rg.skip (ops := (Rg.opsOf Try.f6 12)) 26 (some 122) hNS (by kernel_rfl) (by kernel_rfl) (by kernel_rfl) (by kernel_rfl) (by kernel_rfl) hHeld ?_
  refine Rg.skip (ops := (Rg.opsOf Try.f6 12)) 27 (some 123) hNS (by kernel_rfl) (by kernel_rfl) (by kernel_rfl) (by kernel_rfl) (by kernel_rfl) hHeld ?_
  refine Rg.skip (ops := (Rg.opsOf Try.f6 12)) 28 (some 124) hNS (by kernel_rfl) (by kernel_rfl) (by kernel_rfl) (by kernel_rfl) (by kernel_rfl) hHeld ?_
  refine Rg.skip (ops := (Rg.opsOf Try.f6 12)) 29 (some 125) hNS (by kernel_rfl) (by kernel_rfl) (by kernel_rfl) (by kernel_rfl) (by kernel_rfl) hHeld ?_
  refine Rg.skip (ops := (Rg.opsOf Try.f6 12)) 30 (some 126) hNS (by kernel_rfl) (by kernel_rfl) (by kernel_rfl) (by kernel_rfl) (by kernel_rfl) hHeld ?_
  refine Rg.skip (ops := (Rg.opsOf Try.f6 12)) 31 (some 127) hNS (by kernel_rfl) (by kernel_rfl) (by kernel_rfl) (by kernel_rfl) (by kernel_rfl) hHeld ?_
  refine Rg.skip (ops := (Rg.opsOf Try.f6 12)) 32 (some 128) hNS (by kernel_rfl) (by kernel_rfl) (by kernel_rfl) (by kernel_rfl) (by kernel_rfl) hHeld ?_
  refine Rg.skip (ops := (Rg.opsOf Try.f6 12)) 33 (some 129) hNS (by kernel_rfl) (by kernel_rfl) (by kernel_rfl) (by kernel_rfl) (by kernel_rfl) hHeld ?_
  refine Rg.skip (ops := (Rg.opsOf Try.f6 12)) 34 (some 130) hNS (by kernel_rfl) (by kernel_rfl) (by kernel_rfl) (by kernel_rfl) (by kernel_rfl) hHeld ?_
  refine Rg.skip (ops := (Rg.opsOf Try.f6 12)) 35 (some 131) hNS (by kernel_rfl) (by kernel_rfl) (by kernel_rfl) (by kernel_rfl) (by kernel_rfl) hHeld ?_
  refine Rg.take (ops := (Rg.opsOf Try.f6 12)) 36 (some 132) ((Value.bool false)) hNS (by kernel_rfl) (by kernel_rfl) (by kernel_rfl) (by kernel_rfl) (by kernel_rfl) hHeld (Rg.y_pick (c := (Operand.tmp 116)) (x := (Operand.tmp 131)) (y := (Operand.const (Value.bool false))) (b := false) (by kernel_rfl) (by kernel_rfl) (by kernel_rfl)) ?_
  refine Rg.done (ops := (Rg.opsOf Try.f6 12)) (by kernel_rfl) ?_
  exact ⟨by kernel_rfl, hHeld⟩
set_option maxRecDepth 100000 in
set_option maxHeartbeats 4000000 in
theorem apartReg12n (ops : Array Oper) (hops : ops = (Rg.opsOf Try.f6 12)) (id : Nat) (bc oc k p o q m ca L vc E c1 c2 : Nat) (ar : Int) (A A1 A2 : Option Addr) {u1 u3 u4 u5 u6 u8 u11 u12 u13 u14 u15 u16 u17 u18 u19 u20 u21 u22 u23 u24 u25 u26 u27 u28 u29 u30 u31 u32 u33 u34 u35 u36 u37 u38 u39 u40 u41 u42 u43 u44 u45 u46 u47 u48 u49 u50 u51 u52 u53 u54 u55 u56 u57 u58 u59 u60 u61 u62 u63 u64 u65 u66 u67 u68 u69 u70 u71 u72 u73 u74 u75 u76 u77 u78 u79 u80 u81 u82 u83 u84 u85 u86 u87 u88 u89 u90 u91 u92 u93 u94 u95 u96 u97 u98 u99 u100 u101 u102 u103 u104 u105 u106 u107 u108 u109 u110 u111 u112 u113 u114 u115 u116 u117 u118 u119 u120 u121 u122 u123 u124 u125 u126 u127 u128 u129 u130 u131 u132 u133 u134 u135 u136 u137 u138 u139 u140 u141 u142 u143 u144 : Value} (w : World) (X0 : World → Prop) (hk : (k : Int) < (L : Int))
    (hX : ∀ W, X0 W → Thr bc oc k p o q A1 A2 c1 c2 W) (hw : X0 w.drew) (j1 : (ar == 0) = true) (l1 : (0 : Int) < (o : Int)) (l3 : ¬ (0 : Int) < (q : Int)) (l4 : decide ((0 : Int) < (q : Int)) = false) :
    (Code.region id ops true).wp Try.prog (Rg.Only fun a' w' => a' = ⟨#[(.slice A m ca), u1, (.int .i64 ar), u3, u4, u5, u6, (.slice (some ⟨bc, oc, none⟩) L vc), u8, (.int .i64 (E : Int)), (.int .i64 (k : Int)), u11, u12, u13, u14, u15, u16, u17, u18, u19, u20, u21, u22, u23, u24, u25, u26, u27, u28, u29, u30, u31, u32, u33, u34, u35, u36, u37, u38, u39, u40, u41, u42, u43, u44, u45, u46, u47, u48, u49, u50, u51, u52, u53, u54, u55, u56, u57, u58, u59, u60, u61, u62, u63, u64, u65, u66, u67, u68, u69, u70, u71, u72, u73, u74, u75, u76, u77, u78, u79, u80, u81, u82, u83, u84, u85, u86, u87, u88, u89, u90, u91, u92, u93, u94, u95, (.int .i64 ar), (.bool true), (.bool true), (.slice (some ⟨bc, oc, none⟩) L vc), (.int .i64 (k : Int)), (.pointer (some ⟨bc, oc + k * 3, none⟩)), (.pointer (some ⟨bc, oc + k * 3 + 1, none⟩)), (.slice A1 o c1), (.int .i64 (o : Int)), (.bool true), (.bool true), (.bool true), (.slice (some ⟨bc, oc, none⟩) L vc), (.int .i64 (k : Int)), (.pointer (some ⟨bc, oc + k * 3, none⟩)), (.pointer (some ⟨bc, oc + k * 3 + 2, none⟩)), (.slice A2 q c2), (.int .i64 (q : Int)), (.bool false), (.bool false), (.bool false), undef, undef, undef, undef, undef, undef, undef, undef, undef, undef, undef, undef, undef, undef, undef, (Value.bool false), u133, u134, u135, u136, u137, u138, u139, u140, u141, u142, u143, u144], []⟩ ∧ X0 w') ⟨#[(.slice A m ca), u1, (.int .i64 ar), u3, u4, u5, u6, (.slice (some ⟨bc, oc, none⟩) L vc), u8, (.int .i64 (E : Int)), (.int .i64 (k : Int)), u11, u12, u13, u14, u15, u16, u17, u18, u19, u20, u21, u22, u23, u24, u25, u26, u27, u28, u29, u30, u31, u32, u33, u34, u35, u36, u37, u38, u39, u40, u41, u42, u43, u44, u45, u46, u47, u48, u49, u50, u51, u52, u53, u54, u55, u56, u57, u58, u59, u60, u61, u62, u63, u64, u65, u66, u67, u68, u69, u70, u71, u72, u73, u74, u75, u76, u77, u78, u79, u80, u81, u82, u83, u84, u85, u86, u87, u88, u89, u90, u91, u92, u93, u94, u95, u96, u97, u98, u99, u100, u101, u102, u103, u104, u105, u106, u107, u108, u109, u110, u111, u112, u113, u114, u115, u116, u117, u118, u119, u120, u121, u122, u123, u124, u125, u126, u127, u128, u129, u130, u131, u132, u133, u134, u135, u136, u137, u138, u139, u140, u141, u142, u143, u144], []⟩ w := by
  subst hops
  have hNS : Region.noSelect (Rg.opsOf Try.f6 12) = true := by kernel_rfl
  refine wp_region_held_drew (S := X0) (by kernel_rfl) hw (fun hHeld => ?_)
  rw [show (Rg.opsOf Try.f6 12).size = 37 by kernel_rfl]
  refine Rg.take (ops := (Rg.opsOf Try.f6 12)) 0 (some 96) ((.int .i64 ar)) hNS (by kernel_rfl) (by kernel_rfl) (by kernel_rfl) (by kernel_rfl) (by kernel_rfl) hHeld (Rg.y_move (x := (Operand.tmp 2)) (Or.inl (by kernel_rfl)) (by kernel_rfl)) ?_
  refine Rg.take (ops := (Rg.opsOf Try.f6 12)) 1 (some 97) ((.bool true)) hNS (by kernel_rfl) (by kernel_rfl) (by kernel_rfl) (by kernel_rfl) (by kernel_rfl) hHeld (Rg.y_bin (b := BinOp.eql) (T := 3) (R' := 3) (x := (Operand.tmp 96)) (y := (Operand.const (Value.int IntKind.i64 0))) (vx := (.int .i64 ar)) (vy := (Value.int IntKind.i64 0)) (by kernel_rfl) (by kernel_rfl) (by kernel_rfl) ?_) ?_
  · (intro W hSw; clear hSw hHeld; go_simp <;> first | omega | (intro h0; omega))
  refine Rg.take (ops := (Rg.opsOf Try.f6 12)) 2 (some 98) ((.bool true)) hNS (by kernel_rfl) (by kernel_rfl) (by kernel_rfl) (by kernel_rfl) (by kernel_rfl) hHeld (Rg.y_move (x := (Operand.tmp 97)) (Or.inl (by kernel_rfl)) (by kernel_rfl)) ?_
  refine Rg.take (ops := (Rg.opsOf Try.f6 12)) 3 (some 99) ((.slice (some ⟨bc, oc, none⟩) L vc)) hNS (by kernel_rfl) (by kernel_rfl) (by kernel_rfl) (by kernel_rfl) (by kernel_rfl) hHeld (Rg.y_move (x := (Operand.tmp 7)) (Or.inl (by kernel_rfl)) (by kernel_rfl)) ?_
  refine Rg.take (ops := (Rg.opsOf Try.f6 12)) 4 (some 100) ((.int .i64 (k : Int))) hNS (by kernel_rfl) (by kernel_rfl) (by kernel_rfl) (by kernel_rfl) (by kernel_rfl) hHeld (Rg.y_move (x := (Operand.tmp 10)) (Or.inl (by kernel_rfl)) (by kernel_rfl)) ?_
  refine Rg.take (ops := (Rg.opsOf Try.f6 12)) 5 (some 101) ((.pointer (some ⟨bc, oc + k * 3, none⟩))) hNS (by kernel_rfl) (by kernel_rfl) (by kernel_rfl) (by kernel_rfl) (by kernel_rfl) hHeld (Rg.y_at (T := 23) (x := (Operand.tmp 99)) (y := (Operand.tmp 100)) (vx := (.slice (some ⟨bc, oc, none⟩) L vc)) (vy := (.int .i64 (k : Int))) (by kernel_rfl) (by kernel_rfl) (by kernel_rfl) ?_) ?_
  · (intro W hSw; clear hSw hHeld; go_simp)
  refine Rg.take (ops := (Rg.opsOf Try.f6 12)) 6 (some 102) ((.pointer (some ⟨bc, oc + k * 3 + 1, none⟩))) hNS (by kernel_rfl) (by kernel_rfl) (by kernel_rfl) (by kernel_rfl) (by kernel_rfl) hHeld (Rg.y_field (T := 33) (k := 1) (x := (Operand.tmp 101)) (vx := (.pointer (some ⟨bc, oc + k * 3, none⟩))) (by kernel_rfl) (by kernel_rfl) ?_) ?_
  · (intro W hSw; clear hSw hHeld; go_simp)
  refine Rg.take (ops := (Rg.opsOf Try.f6 12)) 7 (some 103) ((.slice A1 o c1)) hNS (by kernel_rfl) (by kernel_rfl) (by kernel_rfl) (by kernel_rfl) (by kernel_rfl) hHeld (Rg.y_load (T := 22) (x := (Operand.tmp 102)) (vx := (.pointer (some ⟨bc, oc + k * 3 + 1, none⟩))) (by kernel_rfl) (by kernel_rfl) ?_) ?_
  · (intro W hSw; obtain ⟨s0, s1, s2⟩ := hX _ hSw; clear hSw hHeld; go_simp)
  refine Rg.take (ops := (Rg.opsOf Try.f6 12)) 8 (some 104) ((.int .i64 (o : Int))) hNS (by kernel_rfl) (by kernel_rfl) (by kernel_rfl) (by kernel_rfl) (by kernel_rfl) hHeld (Rg.y_len (x := (Operand.tmp 103)) (ats := #[22]) (vx := (.slice A1 o c1)) (n := o) (by kernel_rfl) (by kernel_rfl) ?_) ?_
  · (intro ty w hSw; go_simp)
  refine Rg.take (ops := (Rg.opsOf Try.f6 12)) 9 (some 105) ((.bool true)) hNS (by kernel_rfl) (by kernel_rfl) (by kernel_rfl) (by kernel_rfl) (by kernel_rfl) hHeld (Rg.y_bin (b := BinOp.gtr) (T := 3) (R' := 3) (x := (Operand.tmp 104)) (y := (Operand.const (Value.int IntKind.i64 0))) (vx := (.int .i64 (o : Int))) (vy := (Value.int IntKind.i64 0)) (by kernel_rfl) (by kernel_rfl) (by kernel_rfl) ?_) ?_
  · (intro W hSw; clear hSw hHeld; go_simp <;> first | omega | (intro h0; omega))
  refine Rg.take (ops := (Rg.opsOf Try.f6 12)) 10 (some 106) ((.bool true)) hNS (by kernel_rfl) (by kernel_rfl) (by kernel_rfl) (by kernel_rfl) (by kernel_rfl) hHeld (Rg.y_pick (c := (Operand.tmp 98)) (x := (Operand.tmp 105)) (y := (Operand.const (Value.bool false))) (b := true) (by kernel_rfl) (by kernel_rfl) (by kernel_rfl)) ?_
  refine Rg.take (ops := (Rg.opsOf Try.f6 12)) 11 (some 107) ((.bool true)) hNS (by kernel_rfl) (by kernel_rfl) (by kernel_rfl) (by kernel_rfl) (by kernel_rfl) hHeld (Rg.y_move (x := (Operand.tmp 106)) (Or.inl (by kernel_rfl)) (by kernel_rfl)) ?_
  refine Rg.take (ops := (Rg.opsOf Try.f6 12)) 12 (some 108) ((.slice (some ⟨bc, oc, none⟩) L vc)) hNS (by kernel_rfl) (by kernel_rfl) (by kernel_rfl) (by kernel_rfl) (by kernel_rfl) hHeld (Rg.y_move (x := (Operand.tmp 7)) (Or.inl (by kernel_rfl)) (by kernel_rfl)) ?_
  refine Rg.take (ops := (Rg.opsOf Try.f6 12)) 13 (some 109) ((.int .i64 (k : Int))) hNS (by kernel_rfl) (by kernel_rfl) (by kernel_rfl) (by kernel_rfl) (by kernel_rfl) hHeld (Rg.y_move (x := (Operand.tmp 10)) (Or.inl (by kernel_rfl)) (by kernel_rfl)) ?_
  refine Rg.take (ops := (Rg.opsOf Try.f6 12)) 14 (some 110) ((.pointer (some ⟨bc, oc + k * 3, none⟩))) hNS (by kernel_rfl) (by kernel_rfl) (by kernel_rfl) (by kernel_rfl) (by kernel_rfl) hHeld (Rg.y_at (T := 23) (x := (Operand.tmp 108)) (y := (Operand.tmp 109)) (vx := (.slice (some ⟨bc, oc, none⟩) L vc)) (vy := (.int .i64 (k : Int))) (by kernel_rfl) (by kernel_rfl) (by kernel_rfl) ?_) ?_
  · (intro W hSw; clear hSw hHeld; go_simp)
  refine Rg.take (ops := (Rg.opsOf Try.f6 12)) 15 (some 111) ((.pointer (some ⟨bc, oc + k * 3 + 2, none⟩))) hNS (by kernel_rfl) (by kernel_rfl) (by kernel_rfl) (by kernel_rfl) (by kernel_rfl) hHeld (Rg.y_field (T := 33) (k := 2) (x := (Operand.tmp 110)) (vx := (.pointer (some ⟨bc, oc + k * 3, none⟩))) (by kernel_rfl) (by kernel_rfl) ?_) ?_
  · (intro W hSw; clear hSw hHeld; go_simp)
  refine Rg.take (ops := (Rg.opsOf Try.f6 12)) 16 (some 112) ((.slice A2 q c2)) hNS (by kernel_rfl) (by kernel_rfl) (by kernel_rfl) (by kernel_rfl) (by kernel_rfl) hHeld (Rg.y_load (T := 22) (x := (Operand.tmp 111)) (vx := (.pointer (some ⟨bc, oc + k * 3 + 2, none⟩))) (by kernel_rfl) (by kernel_rfl) ?_) ?_
  · (intro W hSw; obtain ⟨s0, s1, s2⟩ := hX _ hSw; clear hSw hHeld; go_simp)
  refine Rg.take (ops := (Rg.opsOf Try.f6 12)) 17 (some 113) ((.int .i64 (q : Int))) hNS (by kernel_rfl) (by kernel_rfl) (by kernel_rfl) (by kernel_rfl) (by kernel_rfl) hHeld (Rg.y_len (x := (Operand.tmp 112)) (ats := #[22]) (vx := (.slice A2 q c2)) (n := q) (by kernel_rfl) (by kernel_rfl) ?_) ?_
  · (intro ty w hSw; go_simp)
  refine Rg.take (ops := (Rg.opsOf Try.f6 12)) 18 (some 114) ((.bool false)) hNS (by kernel_rfl) (by kernel_rfl) (by kernel_rfl) (by kernel_rfl) (by kernel_rfl) hHeld (Rg.y_bin (b := BinOp.gtr) (T := 3) (R' := 3) (x := (Operand.tmp 113)) (y := (Operand.const (Value.int IntKind.i64 0))) (vx := (.int .i64 (q : Int))) (vy := (Value.int IntKind.i64 0)) (by kernel_rfl) (by kernel_rfl) (by kernel_rfl) ?_) ?_
  · (intro W hSw; clear hSw hHeld; go_simp <;> first | omega | (intro h0; omega))
  refine Rg.take (ops := (Rg.opsOf Try.f6 12)) 19 (some 115) ((.bool false)) hNS (by kernel_rfl) (by kernel_rfl) (by kernel_rfl) (by kernel_rfl) (by kernel_rfl) hHeld (Rg.y_pick (c := (Operand.tmp 107)) (x := (Operand.tmp 114)) (y := (Operand.const (Value.bool false))) (b := true) (by kernel_rfl) (by kernel_rfl) (by kernel_rfl)) ?_
  refine Rg.take (ops := (Rg.opsOf Try.f6 12)) 20 (some 116) ((.bool false)) hNS (by kernel_rfl) (by kernel_rfl) (by kernel_rfl) (by kernel_rfl) (by kernel_rfl) hHeld (Rg.y_move (x := (Operand.tmp 115)) (Or.inl (by kernel_rfl)) (by kernel_rfl)) ?_
  refine Rg.skip (ops := (Rg.opsOf Try.f6 12)) 21 (some 117) hNS (by kernel_rfl) (by kernel_rfl) (by kernel_rfl) (by kernel_rfl) (by kernel_rfl) hHeld ?_
  refine Rg.skip (ops := (Rg.opsOf Try.f6 12)) 22 (some 118) hNS (by kernel_rfl) (by kernel_rfl) (by kernel_rfl) (by kernel_rfl) (by kernel_rfl) hHeld ?_
  refine Rg.skip (ops := (Rg.opsOf Try.f6 12)) 23 (some 119) hNS (by kernel_rfl) (by kernel_rfl) (by kernel_rfl) (by kernel_rfl) (by kernel_rfl) hHeld ?_
  refine Rg.skip (ops := (Rg.opsOf Try.f6 12)) 24 (some 120) hNS (by kernel_rfl) (by kernel_rfl) (by kernel_rfl) (by kernel_rfl) (by kernel_rfl) hHeld ?_
  refine Rg.skip (ops := (Rg.opsOf Try.f6 12)) 25 (some 121) hNS (by kernel_rfl) (by kernel_rfl) (by kernel_rfl) (by kernel_rfl) (by kernel_rfl) hHeld ?_
  refine Rg.skip (ops := (Rg.opsOf Try.f6 12)) 26 (some 122) hNS (by kernel_rfl) (by kernel_rfl) (by kernel_rfl) (by kernel_rfl) (by kernel_rfl) hHeld ?_
  refine Rg.skip (ops := (Rg.opsOf Try.f6 12)) 27 (some 123) hNS (by kernel_rfl) (by kernel_rfl) (by kernel_rfl) (by kernel_rfl) (by kernel_rfl) hHeld ?_
  refine Rg.skip (ops := (Rg.opsOf Try.f6 12)) 28 (some 124) hNS (by kernel_rfl) (by kernel_rfl) (by kernel_rfl) (by kernel_rfl) (by kernel_rfl) hHeld ?_
  refine Rg.skip (ops := (Rg.opsOf Try.f6 12)) 29 (some 125) hNS (by kernel_rfl) (by kernel_rfl) (by kernel_rfl) (by kernel_rfl) (by kernel_rfl) hHeld ?_
  refine Rg.skip (ops := (Rg.opsOf Try.f6 12)) 30 (some 126) hNS (by kernel_rfl) (by kernel_rfl) (by kernel_rfl) (by kernel_rfl) (by kernel_rfl) hHeld ?_
  refine Rg.skip (ops := (Rg.opsOf Try.f6 12)) 31 (some 127) hNS (by kernel_rfl) (by kernel_rfl) (by kernel_rfl) (by kernel_rfl) (by kernel_rfl) hHeld ?_
  refine Rg.skip (ops := (Rg.opsOf Try.f6 12)) 32 (some 128) hNS (by kernel_rfl) (by kernel_rfl) (by kernel_rfl) (by kernel_rfl) (by kernel_rfl) hHeld ?_
  refine Rg.skip (ops := (Rg.opsOf Try.f6 12)) 33 (some 129) hNS (by kernel_rfl) (by kernel_rfl) (by kernel_rfl) (by kernel_rfl) (by kernel_rfl) hHeld ?_
  refine Rg.skip (ops := (Rg.opsOf Try.f6 12)) 34 (some 130) hNS (by kernel_rfl) (by kernel_rfl) (by kernel_rfl) (by kernel_rfl) (by kernel_rfl) hHeld ?_
  refine Rg.skip (ops := (Rg.opsOf Try.f6 12)) 35 (some 131) hNS (by kernel_rfl) (by kernel_rfl) (by kernel_rfl) (by kernel_rfl) (by kernel_rfl) hHeld ?_
  refine Rg.take (ops := (Rg.opsOf Try.f6 12)) 36 (some 132) ((Value.bool false)) hNS (by kernel_rfl) (by kernel_rfl) (by kernel_rfl) (by kernel_rfl) (by kernel_rfl) hHeld (Rg.y_pick (c := (Operand.tmp 116)) (x := (Operand.tmp 131)) (y := (Operand.const (Value.bool false))) (b := false) (by kernel_rfl) (by kernel_rfl) (by kernel_rfl)) ?_
  refine Rg.done (ops := (Rg.opsOf Try.f6 12)) (by kernel_rfl) ?_
  exact ⟨by kernel_rfl, hHeld⟩
set_option maxRecDepth 100000 in
set_option maxHeartbeats 4000000 in
theorem apartReg12b (ops : Array Oper) (hops : ops = (Rg.opsOf Try.f6 12)) (id : Nat) (bc oc k p o q m ca L vc E c1 c2 : Nat) (ar : Int) (A A1 A2 : Option Addr) {u1 u3 u4 u5 u6 u8 u11 u12 u13 u14 u15 u16 u17 u18 u19 u20 u21 u22 u23 u24 u25 u26 u27 u28 u29 u30 u31 u32 u33 u34 u35 u36 u37 u38 u39 u40 u41 u42 u43 u44 u45 u46 u47 u48 u49 u50 u51 u52 u53 u54 u55 u56 u57 u58 u59 u60 u61 u62 u63 u64 u65 u66 u67 u68 u69 u70 u71 u72 u73 u74 u75 u76 u77 u78 u79 u80 u81 u82 u83 u84 u85 u86 u87 u88 u89 u90 u91 u92 u93 u94 u95 u96 u97 u98 u99 u100 u101 u102 u103 u104 u105 u106 u107 u108 u109 u110 u111 u112 u113 u114 u115 u116 u117 u118 u119 u120 u121 u122 u123 u124 u125 u126 u127 u128 u129 u130 u131 u132 u133 u134 u135 u136 u137 u138 u139 u140 u141 u142 u143 u144 : Value} (w : World) (X0 : World → Prop) (hk : (k : Int) < (L : Int))
    (bo oo bn on : Nat) (X Y : ByteArray)
    (hX : ∀ W, X0 W → Thr bc oc k p o q (some ⟨bo, oo, none⟩) (some ⟨bn, on, none⟩) c1 c2 W) (hw : X0 w.drew) (j1 : (ar == 0) = true) (l1 : (0 : Int) < (o : Int)) (l3 : (0 : Int) < (q : Int)) (e3 : (X.toList == Y.toList) = false) (hS : ∀ W, X0 W → W.cell? ⟨bo, oo, none⟩ = some (.string X) ∧ W.cell? ⟨bn, on, none⟩ = some (.string Y)) :
    (Code.region id ops true).wp Try.prog (Rg.Only fun a' w' => a' = ⟨#[(.slice A m ca), u1, (.int .i64 ar), u3, u4, u5, u6, (.slice (some ⟨bc, oc, none⟩) L vc), u8, (.int .i64 (E : Int)), (.int .i64 (k : Int)), u11, u12, u13, u14, u15, u16, u17, u18, u19, u20, u21, u22, u23, u24, u25, u26, u27, u28, u29, u30, u31, u32, u33, u34, u35, u36, u37, u38, u39, u40, u41, u42, u43, u44, u45, u46, u47, u48, u49, u50, u51, u52, u53, u54, u55, u56, u57, u58, u59, u60, u61, u62, u63, u64, u65, u66, u67, u68, u69, u70, u71, u72, u73, u74, u75, u76, u77, u78, u79, u80, u81, u82, u83, u84, u85, u86, u87, u88, u89, u90, u91, u92, u93, u94, u95, (.int .i64 ar), (.bool true), (.bool true), (.slice (some ⟨bc, oc, none⟩) L vc), (.int .i64 (k : Int)), (.pointer (some ⟨bc, oc + k * 3, none⟩)), (.pointer (some ⟨bc, oc + k * 3 + 1, none⟩)), (.slice (some ⟨bo, oo, none⟩) o c1), (.int .i64 (o : Int)), (.bool true), (.bool true), (.bool true), (.slice (some ⟨bc, oc, none⟩) L vc), (.int .i64 (k : Int)), (.pointer (some ⟨bc, oc + k * 3, none⟩)), (.pointer (some ⟨bc, oc + k * 3 + 2, none⟩)), (.slice (some ⟨bn, on, none⟩) q c2), (.int .i64 (q : Int)), (.bool true), (.bool true), (.bool true), (.slice (some ⟨bc, oc, none⟩) L vc), (.int .i64 (k : Int)), (.pointer (some ⟨bc, oc + k * 3, none⟩)), (.pointer (some ⟨bc, oc + k * 3 + 1, none⟩)), (.slice (some ⟨bo, oo, none⟩) o c1), (.pointer (some ⟨bo, oo, none⟩)), (.string X), (.slice (some ⟨bc, oc, none⟩) L vc), (.int .i64 (k : Int)), (.pointer (some ⟨bc, oc + k * 3, none⟩)), (.pointer (some ⟨bc, oc + k * 3 + 2, none⟩)), (.slice (some ⟨bn, on, none⟩) q c2), (.pointer (some ⟨bn, on, none⟩)), (.string Y), (.bool false), (.bool false), u133, u134, u135, u136, u137, u138, u139, u140, u141, u142, u143, u144], []⟩ ∧ X0 w') ⟨#[(.slice A m ca), u1, (.int .i64 ar), u3, u4, u5, u6, (.slice (some ⟨bc, oc, none⟩) L vc), u8, (.int .i64 (E : Int)), (.int .i64 (k : Int)), u11, u12, u13, u14, u15, u16, u17, u18, u19, u20, u21, u22, u23, u24, u25, u26, u27, u28, u29, u30, u31, u32, u33, u34, u35, u36, u37, u38, u39, u40, u41, u42, u43, u44, u45, u46, u47, u48, u49, u50, u51, u52, u53, u54, u55, u56, u57, u58, u59, u60, u61, u62, u63, u64, u65, u66, u67, u68, u69, u70, u71, u72, u73, u74, u75, u76, u77, u78, u79, u80, u81, u82, u83, u84, u85, u86, u87, u88, u89, u90, u91, u92, u93, u94, u95, u96, u97, u98, u99, u100, u101, u102, u103, u104, u105, u106, u107, u108, u109, u110, u111, u112, u113, u114, u115, u116, u117, u118, u119, u120, u121, u122, u123, u124, u125, u126, u127, u128, u129, u130, u131, u132, u133, u134, u135, u136, u137, u138, u139, u140, u141, u142, u143, u144], []⟩ w := by
  subst hops
  have hNS : Region.noSelect (Rg.opsOf Try.f6 12) = true := by kernel_rfl
  refine wp_region_held_drew (S := X0) (by kernel_rfl) hw (fun hHeld => ?_)
  rw [show (Rg.opsOf Try.f6 12).size = 37 by kernel_rfl]
  refine Rg.take (ops := (Rg.opsOf Try.f6 12)) 0 (some 96) ((.int .i64 ar)) hNS (by kernel_rfl) (by kernel_rfl) (by kernel_rfl) (by kernel_rfl) (by kernel_rfl) hHeld (Rg.y_move (x := (Operand.tmp 2)) (Or.inl (by kernel_rfl)) (by kernel_rfl)) ?_
  refine Rg.take (ops := (Rg.opsOf Try.f6 12)) 1 (some 97) ((.bool true)) hNS (by kernel_rfl) (by kernel_rfl) (by kernel_rfl) (by kernel_rfl) (by kernel_rfl) hHeld (Rg.y_bin (b := BinOp.eql) (T := 3) (R' := 3) (x := (Operand.tmp 96)) (y := (Operand.const (Value.int IntKind.i64 0))) (vx := (.int .i64 ar)) (vy := (Value.int IntKind.i64 0)) (by kernel_rfl) (by kernel_rfl) (by kernel_rfl) ?_) ?_
  · (intro W hSw; clear hSw hHeld; go_simp <;> first | omega | (intro h0; omega))
  refine Rg.take (ops := (Rg.opsOf Try.f6 12)) 2 (some 98) ((.bool true)) hNS (by kernel_rfl) (by kernel_rfl) (by kernel_rfl) (by kernel_rfl) (by kernel_rfl) hHeld (Rg.y_move (x := (Operand.tmp 97)) (Or.inl (by kernel_rfl)) (by kernel_rfl)) ?_
  refine Rg.take (ops := (Rg.opsOf Try.f6 12)) 3 (some 99) ((.slice (some ⟨bc, oc, none⟩) L vc)) hNS (by kernel_rfl) (by kernel_rfl) (by kernel_rfl) (by kernel_rfl) (by kernel_rfl) hHeld (Rg.y_move (x := (Operand.tmp 7)) (Or.inl (by kernel_rfl)) (by kernel_rfl)) ?_
  refine Rg.take (ops := (Rg.opsOf Try.f6 12)) 4 (some 100) ((.int .i64 (k : Int))) hNS (by kernel_rfl) (by kernel_rfl) (by kernel_rfl) (by kernel_rfl) (by kernel_rfl) hHeld (Rg.y_move (x := (Operand.tmp 10)) (Or.inl (by kernel_rfl)) (by kernel_rfl)) ?_
  refine Rg.take (ops := (Rg.opsOf Try.f6 12)) 5 (some 101) ((.pointer (some ⟨bc, oc + k * 3, none⟩))) hNS (by kernel_rfl) (by kernel_rfl) (by kernel_rfl) (by kernel_rfl) (by kernel_rfl) hHeld (Rg.y_at (T := 23) (x := (Operand.tmp 99)) (y := (Operand.tmp 100)) (vx := (.slice (some ⟨bc, oc, none⟩) L vc)) (vy := (.int .i64 (k : Int))) (by kernel_rfl) (by kernel_rfl) (by kernel_rfl) ?_) ?_
  · (intro W hSw; clear hSw hHeld; go_simp)
  refine Rg.take (ops := (Rg.opsOf Try.f6 12)) 6 (some 102) ((.pointer (some ⟨bc, oc + k * 3 + 1, none⟩))) hNS (by kernel_rfl) (by kernel_rfl) (by kernel_rfl) (by kernel_rfl) (by kernel_rfl) hHeld (Rg.y_field (T := 33) (k := 1) (x := (Operand.tmp 101)) (vx := (.pointer (some ⟨bc, oc + k * 3, none⟩))) (by kernel_rfl) (by kernel_rfl) ?_) ?_
  · (intro W hSw; clear hSw hHeld; go_simp)
  refine Rg.take (ops := (Rg.opsOf Try.f6 12)) 7 (some 103) ((.slice (some ⟨bo, oo, none⟩) o c1)) hNS (by kernel_rfl) (by kernel_rfl) (by kernel_rfl) (by kernel_rfl) (by kernel_rfl) hHeld (Rg.y_load (T := 22) (x := (Operand.tmp 102)) (vx := (.pointer (some ⟨bc, oc + k * 3 + 1, none⟩))) (by kernel_rfl) (by kernel_rfl) ?_) ?_
  · (intro W hSw; obtain ⟨s0, s1, s2⟩ := hX _ hSw; clear hSw hHeld; go_simp)
  refine Rg.take (ops := (Rg.opsOf Try.f6 12)) 8 (some 104) ((.int .i64 (o : Int))) hNS (by kernel_rfl) (by kernel_rfl) (by kernel_rfl) (by kernel_rfl) (by kernel_rfl) hHeld (Rg.y_len (x := (Operand.tmp 103)) (ats := #[22]) (vx := (.slice (some ⟨bo, oo, none⟩) o c1)) (n := o) (by kernel_rfl) (by kernel_rfl) ?_) ?_
  · (intro ty w hSw; go_simp)
  refine Rg.take (ops := (Rg.opsOf Try.f6 12)) 9 (some 105) ((.bool true)) hNS (by kernel_rfl) (by kernel_rfl) (by kernel_rfl) (by kernel_rfl) (by kernel_rfl) hHeld (Rg.y_bin (b := BinOp.gtr) (T := 3) (R' := 3) (x := (Operand.tmp 104)) (y := (Operand.const (Value.int IntKind.i64 0))) (vx := (.int .i64 (o : Int))) (vy := (Value.int IntKind.i64 0)) (by kernel_rfl) (by kernel_rfl) (by kernel_rfl) ?_) ?_
  · (intro W hSw; clear hSw hHeld; go_simp <;> first | omega | (intro h0; omega))
  refine Rg.take (ops := (Rg.opsOf Try.f6 12)) 10 (some 106) ((.bool true)) hNS (by kernel_rfl) (by kernel_rfl) (by kernel_rfl) (by kernel_rfl) (by kernel_rfl) hHeld (Rg.y_pick (c := (Operand.tmp 98)) (x := (Operand.tmp 105)) (y := (Operand.const (Value.bool false))) (b := true) (by kernel_rfl) (by kernel_rfl) (by kernel_rfl)) ?_
  refine Rg.take (ops := (Rg.opsOf Try.f6 12)) 11 (some 107) ((.bool true)) hNS (by kernel_rfl) (by kernel_rfl) (by kernel_rfl) (by kernel_rfl) (by kernel_rfl) hHeld (Rg.y_move (x := (Operand.tmp 106)) (Or.inl (by kernel_rfl)) (by kernel_rfl)) ?_
  refine Rg.take (ops := (Rg.opsOf Try.f6 12)) 12 (some 108) ((.slice (some ⟨bc, oc, none⟩) L vc)) hNS (by kernel_rfl) (by kernel_rfl) (by kernel_rfl) (by kernel_rfl) (by kernel_rfl) hHeld (Rg.y_move (x := (Operand.tmp 7)) (Or.inl (by kernel_rfl)) (by kernel_rfl)) ?_
  refine Rg.take (ops := (Rg.opsOf Try.f6 12)) 13 (some 109) ((.int .i64 (k : Int))) hNS (by kernel_rfl) (by kernel_rfl) (by kernel_rfl) (by kernel_rfl) (by kernel_rfl) hHeld (Rg.y_move (x := (Operand.tmp 10)) (Or.inl (by kernel_rfl)) (by kernel_rfl)) ?_
  refine Rg.take (ops := (Rg.opsOf Try.f6 12)) 14 (some 110) ((.pointer (some ⟨bc, oc + k * 3, none⟩))) hNS (by kernel_rfl) (by kernel_rfl) (by kernel_rfl) (by kernel_rfl) (by kernel_rfl) hHeld (Rg.y_at (T := 23) (x := (Operand.tmp 108)) (y := (Operand.tmp 109)) (vx := (.slice (some ⟨bc, oc, none⟩) L vc)) (vy := (.int .i64 (k : Int))) (by kernel_rfl) (by kernel_rfl) (by kernel_rfl) ?_) ?_
  · (intro W hSw; clear hSw hHeld; go_simp)
  refine Rg.take (ops := (Rg.opsOf Try.f6 12)) 15 (some 111) ((.pointer (some ⟨bc, oc + k * 3 + 2, none⟩))) hNS (by kernel_rfl) (by kernel_rfl) (by kernel_rfl) (by kernel_rfl) (by kernel_rfl) hHeld (Rg.y_field (T := 33) (k := 2) (x := (Operand.tmp 110)) (vx := (.pointer (some ⟨bc, oc + k * 3, none⟩))) (by kernel_rfl) (by kernel_rfl) ?_) ?_
  · (intro W hSw; clear hSw hHeld; go_simp)
  refine Rg.take (ops := (Rg.opsOf Try.f6 12)) 16 (some 112) ((.slice (some ⟨bn, on, none⟩) q c2)) hNS (by kernel_rfl) (by kernel_rfl) (by kernel_rfl) (by kernel_rfl) (by kernel_rfl) hHeld (Rg.y_load (T := 22) (x := (Operand.tmp 111)) (vx := (.pointer (some ⟨bc, oc + k * 3 + 2, none⟩))) (by kernel_rfl) (by kernel_rfl) ?_) ?_
  · (intro W hSw; obtain ⟨s0, s1, s2⟩ := hX _ hSw; clear hSw hHeld; go_simp)
  refine Rg.take (ops := (Rg.opsOf Try.f6 12)) 17 (some 113) ((.int .i64 (q : Int))) hNS (by kernel_rfl) (by kernel_rfl) (by kernel_rfl) (by kernel_rfl) (by kernel_rfl) hHeld (Rg.y_len (x := (Operand.tmp 112)) (ats := #[22]) (vx := (.slice (some ⟨bn, on, none⟩) q c2)) (n := q) (by kernel_rfl) (by kernel_rfl) ?_) ?_
  · (intro ty w hSw; go_simp)
  refine Rg.take (ops := (Rg.opsOf Try.f6 12)) 18 (some 114) ((.bool true)) hNS (by kernel_rfl) (by kernel_rfl) (by kernel_rfl) (by kernel_rfl) (by kernel_rfl) hHeld (Rg.y_bin (b := BinOp.gtr) (T := 3) (R' := 3) (x := (Operand.tmp 113)) (y := (Operand.const (Value.int IntKind.i64 0))) (vx := (.int .i64 (q : Int))) (vy := (Value.int IntKind.i64 0)) (by kernel_rfl) (by kernel_rfl) (by kernel_rfl) ?_) ?_
  · (intro W hSw; clear hSw hHeld; go_simp <;> first | omega | (intro h0; omega))
  refine Rg.take (ops := (Rg.opsOf Try.f6 12)) 19 (some 115) ((.bool true)) hNS (by kernel_rfl) (by kernel_rfl) (by kernel_rfl) (by kernel_rfl) (by kernel_rfl) hHeld (Rg.y_pick (c := (Operand.tmp 107)) (x := (Operand.tmp 114)) (y := (Operand.const (Value.bool false))) (b := true) (by kernel_rfl) (by kernel_rfl) (by kernel_rfl)) ?_
  refine Rg.take (ops := (Rg.opsOf Try.f6 12)) 20 (some 116) ((.bool true)) hNS (by kernel_rfl) (by kernel_rfl) (by kernel_rfl) (by kernel_rfl) (by kernel_rfl) hHeld (Rg.y_move (x := (Operand.tmp 115)) (Or.inl (by kernel_rfl)) (by kernel_rfl)) ?_
  refine Rg.take (ops := (Rg.opsOf Try.f6 12)) 21 (some 117) ((.slice (some ⟨bc, oc, none⟩) L vc)) hNS (by kernel_rfl) (by kernel_rfl) (by kernel_rfl) (by kernel_rfl) (by kernel_rfl) hHeld (Rg.y_move (x := (Operand.tmp 7)) (Or.inl (by kernel_rfl)) (by kernel_rfl)) ?_
  refine Rg.take (ops := (Rg.opsOf Try.f6 12)) 22 (some 118) ((.int .i64 (k : Int))) hNS (by kernel_rfl) (by kernel_rfl) (by kernel_rfl) (by kernel_rfl) (by kernel_rfl) hHeld (Rg.y_move (x := (Operand.tmp 10)) (Or.inl (by kernel_rfl)) (by kernel_rfl)) ?_
  refine Rg.take (ops := (Rg.opsOf Try.f6 12)) 23 (some 119) ((.pointer (some ⟨bc, oc + k * 3, none⟩))) hNS (by kernel_rfl) (by kernel_rfl) (by kernel_rfl) (by kernel_rfl) (by kernel_rfl) hHeld (Rg.y_at (T := 23) (x := (Operand.tmp 117)) (y := (Operand.tmp 118)) (vx := (.slice (some ⟨bc, oc, none⟩) L vc)) (vy := (.int .i64 (k : Int))) (by kernel_rfl) (by kernel_rfl) (by kernel_rfl) ?_) ?_
  · (intro W hSw; clear hSw hHeld; go_simp)
  refine Rg.take (ops := (Rg.opsOf Try.f6 12)) 24 (some 120) ((.pointer (some ⟨bc, oc + k * 3 + 1, none⟩))) hNS (by kernel_rfl) (by kernel_rfl) (by kernel_rfl) (by kernel_rfl) (by kernel_rfl) hHeld (Rg.y_field (T := 33) (k := 1) (x := (Operand.tmp 119)) (vx := (.pointer (some ⟨bc, oc + k * 3, none⟩))) (by kernel_rfl) (by kernel_rfl) ?_) ?_
  · (intro W hSw; clear hSw hHeld; go_simp)
  refine Rg.take (ops := (Rg.opsOf Try.f6 12)) 25 (some 121) ((.slice (some ⟨bo, oo, none⟩) o c1)) hNS (by kernel_rfl) (by kernel_rfl) (by kernel_rfl) (by kernel_rfl) (by kernel_rfl) hHeld (Rg.y_load (T := 22) (x := (Operand.tmp 120)) (vx := (.pointer (some ⟨bc, oc + k * 3 + 1, none⟩))) (by kernel_rfl) (by kernel_rfl) ?_) ?_
  · (intro W hSw; obtain ⟨s0, s1, s2⟩ := hX _ hSw; clear hSw hHeld; go_simp)
  refine Rg.take (ops := (Rg.opsOf Try.f6 12)) 26 (some 122) ((.pointer (some ⟨bo, oo, none⟩))) hNS (by kernel_rfl) (by kernel_rfl) (by kernel_rfl) (by kernel_rfl) (by kernel_rfl) hHeld (Rg.y_at (T := 22) (x := (Operand.tmp 121)) (y := (Operand.const (Value.int IntKind.i64 0))) (vx := (.slice (some ⟨bo, oo, none⟩) o c1)) (vy := (Value.int IntKind.i64 0)) (by kernel_rfl) (by kernel_rfl) (by kernel_rfl) ?_) ?_
  · (intro W hSw; clear hSw hHeld; go_simp <;> first | omega | (intro h0; omega))
  refine Rg.take (ops := (Rg.opsOf Try.f6 12)) 27 (some 123) ((.string X)) hNS (by kernel_rfl) (by kernel_rfl) (by kernel_rfl) (by kernel_rfl) (by kernel_rfl) hHeld (Rg.y_load (T := 9) (x := (Operand.tmp 122)) (vx := (.pointer (some ⟨bo, oo, none⟩))) (by kernel_rfl) (by kernel_rfl) ?_) ?_
  · (intro W hSw; obtain ⟨s0, s1⟩ := hS _ hSw; clear hSw hHeld; go_simp)
  refine Rg.take (ops := (Rg.opsOf Try.f6 12)) 28 (some 124) ((.slice (some ⟨bc, oc, none⟩) L vc)) hNS (by kernel_rfl) (by kernel_rfl) (by kernel_rfl) (by kernel_rfl) (by kernel_rfl) hHeld (Rg.y_move (x := (Operand.tmp 7)) (Or.inl (by kernel_rfl)) (by kernel_rfl)) ?_
  refine Rg.take (ops := (Rg.opsOf Try.f6 12)) 29 (some 125) ((.int .i64 (k : Int))) hNS (by kernel_rfl) (by kernel_rfl) (by kernel_rfl) (by kernel_rfl) (by kernel_rfl) hHeld (Rg.y_move (x := (Operand.tmp 10)) (Or.inl (by kernel_rfl)) (by kernel_rfl)) ?_
  refine Rg.take (ops := (Rg.opsOf Try.f6 12)) 30 (some 126) ((.pointer (some ⟨bc, oc + k * 3, none⟩))) hNS (by kernel_rfl) (by kernel_rfl) (by kernel_rfl) (by kernel_rfl) (by kernel_rfl) hHeld (Rg.y_at (T := 23) (x := (Operand.tmp 124)) (y := (Operand.tmp 125)) (vx := (.slice (some ⟨bc, oc, none⟩) L vc)) (vy := (.int .i64 (k : Int))) (by kernel_rfl) (by kernel_rfl) (by kernel_rfl) ?_) ?_
  · (intro W hSw; clear hSw hHeld; go_simp)
  refine Rg.take (ops := (Rg.opsOf Try.f6 12)) 31 (some 127) ((.pointer (some ⟨bc, oc + k * 3 + 2, none⟩))) hNS (by kernel_rfl) (by kernel_rfl) (by kernel_rfl) (by kernel_rfl) (by kernel_rfl) hHeld (Rg.y_field (T := 33) (k := 2) (x := (Operand.tmp 126)) (vx := (.pointer (some ⟨bc, oc + k * 3, none⟩))) (by kernel_rfl) (by kernel_rfl) ?_) ?_
  · (intro W hSw; clear hSw hHeld; go_simp)
  refine Rg.take (ops := (Rg.opsOf Try.f6 12)) 32 (some 128) ((.slice (some ⟨bn, on, none⟩) q c2)) hNS (by kernel_rfl) (by kernel_rfl) (by kernel_rfl) (by kernel_rfl) (by kernel_rfl) hHeld (Rg.y_load (T := 22) (x := (Operand.tmp 127)) (vx := (.pointer (some ⟨bc, oc + k * 3 + 2, none⟩))) (by kernel_rfl) (by kernel_rfl) ?_) ?_
  · (intro W hSw; obtain ⟨s0, s1, s2⟩ := hX _ hSw; clear hSw hHeld; go_simp)
  refine Rg.take (ops := (Rg.opsOf Try.f6 12)) 33 (some 129) ((.pointer (some ⟨bn, on, none⟩))) hNS (by kernel_rfl) (by kernel_rfl) (by kernel_rfl) (by kernel_rfl) (by kernel_rfl) hHeld (Rg.y_at (T := 22) (x := (Operand.tmp 128)) (y := (Operand.const (Value.int IntKind.i64 0))) (vx := (.slice (some ⟨bn, on, none⟩) q c2)) (vy := (Value.int IntKind.i64 0)) (by kernel_rfl) (by kernel_rfl) (by kernel_rfl) ?_) ?_
  · (intro W hSw; clear hSw hHeld; go_simp <;> first | omega | (intro h0; omega))
  refine Rg.take (ops := (Rg.opsOf Try.f6 12)) 34 (some 130) ((.string Y)) hNS (by kernel_rfl) (by kernel_rfl) (by kernel_rfl) (by kernel_rfl) (by kernel_rfl) hHeld (Rg.y_load (T := 9) (x := (Operand.tmp 129)) (vx := (.pointer (some ⟨bn, on, none⟩))) (by kernel_rfl) (by kernel_rfl) ?_) ?_
  · (intro W hSw; obtain ⟨s0, s1⟩ := hS _ hSw; clear hSw hHeld; go_simp)
  refine Rg.take (ops := (Rg.opsOf Try.f6 12)) 35 (some 131) ((.bool false)) hNS (by kernel_rfl) (by kernel_rfl) (by kernel_rfl) (by kernel_rfl) (by kernel_rfl) hHeld (Rg.y_bin (b := BinOp.eql) (T := 9) (R' := 9) (x := (Operand.tmp 123)) (y := (Operand.tmp 130)) (vx := (.string X)) (vy := (.string Y)) (by kernel_rfl) (by kernel_rfl) (by kernel_rfl) ?_) ?_
  · (intro W hSw; clear hSw hHeld; go_simp <;> first | omega | (intro h0; omega))
  refine Rg.take (ops := (Rg.opsOf Try.f6 12)) 36 (some 132) ((.bool false)) hNS (by kernel_rfl) (by kernel_rfl) (by kernel_rfl) (by kernel_rfl) (by kernel_rfl) hHeld (Rg.y_pick (c := (Operand.tmp 116)) (x := (Operand.tmp 131)) (y := (Operand.const (Value.bool false))) (b := true) (by kernel_rfl) (by kernel_rfl) (by kernel_rfl)) ?_
  refine Rg.done (ops := (Rg.opsOf Try.f6 12)) (by kernel_rfl) ?_
  exact ⟨by kernel_rfl, hHeld⟩
end Go.Proofs.Ytoncghamkedhcaa.Kd

namespace Go.Proofs.Ytoncghamkedhcaa.hunkApart
open Go.ChangeShapes Go.WideShapes Go.ChangeAt Go.RowKit Tx Um Ud Aq Km Kd
set_option linter.unusedVariables false
theorem btw_len (a b : List ByteArray) (ar : Nat) (k : List (Nat × Nat)) : ∀ h, h ∈ btw a b ar k → h.old.length ≤ a.length ∧ h.new.length ≤ b.length := by
  intro h hh
  unfold btw at hh
  rw [hks_map] at hh
  obtain ⟨g, _, rfl⟩ := List.mem_map.1 hh
  unfold pc
  constructor
  · simp only [List.length_drop, List.length_take]; omega
  · simp only [List.length_drop, List.length_take]; omega
theorem btw_count (a b : List ByteArray) (ar : Nat) : (btw a b ar (pairs 0 0 (steps a b))).length ≤ a.length + 1 := by
  unfold btw
  rw [hks_map, List.length_map, List.length_reverse]
  have h1 := rs_len (pairs 0 0 (steps a b) ++ [(a.length, b.length)]) (2 * ar) 0 0 []
  have h2 := pairs_len (steps a b) 0 0
  have h3 := kept a b
  have h4 := lcs_le_left a b
  rw [List.length_append] at h1
  simp at h1
  omega
theorem per_cases (a b : List ByteArray) (ar : Int) : (per a b ar = 0 ∧ 0 ≤ ar ∧ lng a b = false) ∨ per a b ar = 1 ∨ per a b ar = 4 := by
  unfold per
  by_cases h : ar < 0
  · rw [if_pos h]; exact .inr (.inl rfl)
  · rw [if_neg h]
    cases hl : lng a b
    · exact .inl ⟨rfl, by omega, rfl⟩
    · exact .inr (.inr rfl)
set_option maxRecDepth 100000 in
set_option maxHeartbeats 2000000 in
theorem walk (hM : Impl) (A B : Option Addr) (ca cb : Nat) (ar : Int) (a b : List ByteArray) (w : World) (hA : In w A ca a) (hB : In w B cb b) (har : int64 ar) :
    Calls Try.prog 6 #[.slice A a.length ca, .slice B b.length cb, .int .i64 ar] w fun e w' => e = .returned (.bool true) ∧ Below w.heap.size w w' := by
  have c1 := Lib.hid (hM.between A B ca cb ar a b w hA hB har)
  unfold BetTo at c1
  clear hA hB
  rcases per_cases a b ar with ⟨hp, hge, hl⟩ | hp
  · rw [hp] at c1
    obtain ⟨H, hH⟩ : ∃ H, H = btw a b (min ar.toNat 400) (pairs 0 0 (steps a b)) := ⟨_, rfl⟩
    have hpc : pcs a b ar = H.map Hk.z := by unfold pcs; rw [if_neg (by omega), hl, hH]; rfl
    have hap : Apt a.length (min ar.toNat 400) H := by rw [hH]; exact pieces_apt a b _
    rw [hpc] at c1
    have HAP := Lib.hid hap
    have hal : a.length ≤ 400 := (lng_small hl).1
    have hHc : H.length ≤ 401 := by rw [hH]; have := btw_count a b (min ar.toNat 400); omega
    have hsm : ∀ h, h ∈ H → h.old.length ≤ a.length ∧ h.new.length ≤ 400 := fun h hh => by
      have := (lng_small hl).2
      rw [hH] at hh
      obtain ⟨h1, h2⟩ := btw_len a b _ _ h hh
      exact ⟨h1, by omega⟩
    clear hH hpc hap hl hp
    obtain ⟨m, hm⟩ : ∃ m, m = a.length := ⟨_, rfl⟩
    obtain ⟨n, hn⟩ : ∃ n, n = b.length := ⟨_, rfl⟩
    rw [← hm] at c1 hal hsm ⊢
    rw [← hn] at c1 ⊢
    have HM := Lib.hid hm
    have HSM := Lib.hid hsm
    clear hm hn hsm
    go_enter Try.func6, Try.ntmps6
    go_wp2_with fail
    go_at_call 7
    refine c1.out.mono ?_
    rintro e w1 ⟨v, cs, rfl, hu, hi, _, hb1⟩
    obtain ⟨va, vc, rfl, hz⟩ := hu.form hi
    have HZ := Lib.hid hz
    clear hu hi hz c1
    go_wp2_with fail
    go_at_call 9
    refine (awake_any13 hM _).mono ?_
    rintro e w2 ⟨rfl, hb2⟩
    have HB2 := Lib.hid (below_call hb1 hb2)
    have HZ2 := Lib.hid (HZ.out.below hb2)
    obtain ⟨L, hL⟩ : ∃ L, L = H.length := ⟨_, rfl⟩
    have HL := Lib.hid hL
    rw [← hL] at hHc
    rw [List.length_map, ← hL] at HZ2
    rw [← hL]
    clear hb1 hb2 HZ hL
    go_wp2_with fail
    go_loopw [9, 10] (fun en i wr => ∃ k : Nat, i = .int .i64 (k : Int) ∧ k ≤ L ∧ en = .int .i64 ((fin (H.take k) : Nat) : Int) ∧ Hid (Below w2.heap.size w2 wr)) (fun _ i _ => L - (intOf i).toNat)
    case atStart => exact ⟨0, rfl, Nat.zero_le _, rfl, Below.refl _ _⟩
    case round =>
      obtain ⟨k, rfl, hk, rfl, HB⟩ := hrel
      by_cases hlt : k < L
      · have e1 : (k : Int) < (L : Int) := by omega
        obtain ⟨h, hh⟩ : ∃ h, H[k]? = some h := ⟨_, List.getElem?_eq_getElem (by rw [← HL.out]; exact hlt)⟩
        obtain ⟨p1, p2, p3, p4, p5⟩ := HAP.out k h hh
        obtain ⟨_, hq4⟩ := HSM.out h (List.mem_iff_getElem?.2 ⟨k, hh⟩)
        obtain ⟨bc, oc, rfl, hbc, hcc⟩ := HZ2.out.2.resolve_left (by omega)
        obtain ⟨uo, un, b0, b1, b2, ⟨A1, c1, rfl, s1, _⟩, ⟨A2, c2, rfl, s2, _⟩⟩ := hcc k h.z (by rw [List.getElem?_map, hh]; rfl)
        have b0' : w2.cell? ⟨bc, oc + k * 3, none⟩ = some (.int .i64 ((h.at_ : Nat) : Int)) := b0
        have b1' : w2.cell? ⟨bc, oc + k * 3 + 1, none⟩ = some (.slice A1 h.old.length c1) := b1
        have b2' : w2.cell? ⟨bc, oc + k * 3 + 2, none⟩ = some (.slice A2 h.new.length c2) := b2
        have s1' : Strs w2 A1 h.old.length h.old := s1
        have s2' : Strs w2 A2 h.new.length h.new := s2
        have hfn : fin (H.take (k + 1)) = h.at_ + h.old.length := by rw [List.take_add_one, hh]; exact fin_snoc _ _
        have hnil : 0 < k → H.take k ≠ [] := fun h0 e => by
          have := congrArg List.length e
          rw [List.length_take, List.length_nil, ← HL.out] at this
          omega
        rw [← HM.out] at p3
        have hN0 : ar = 0 → min ar.toNat 400 = 0 := fun e => by rw [e]; rfl
        obtain ⟨p, hp⟩ : ∃ p, p = h.at_ := ⟨_, rfl⟩
        obtain ⟨o, ho⟩ : ∃ o, o = h.old.length := ⟨_, rfl⟩
        obtain ⟨q, hq⟩ : ∃ q, q = h.new.length := ⟨_, rfl⟩
        obtain ⟨E, hE⟩ : ∃ E, E = fin (H.take k) := ⟨_, rfl⟩
        have HNE : Hid (ar = 0 → 0 < k → p ≠ E) := by
          show ar = 0 → 0 < k → p ≠ E
          intro h1 h2
          rw [hp, hE]
          exact p4 (hN0 h1) (hnil h2)
        have HXY : Hid (ar = 0 → ∀ x y, h.old.head? = some x → h.new.head? = some y → x ≠ y) := fun h1 => p5 (hN0 h1)
        rw [← hp] at b0' p1 p3 hfn
        rw [← ho] at b1' p2 p3 hfn s1'
        rw [← hq] at b2' p2 s2' hq4
        rw [← hE] at p1 ⊢
        have HFN := Lib.hid hfn
        have S1 := Lib.hid s1'
        have S2 := Lib.hid s2'
        have HO := Lib.hid ho
        have HQ := Lib.hid hq
        clear hcc b0 b1 b2 s1 s2 s1' s2' hh p4 p5 hnil hN0 hp ho hq hE hfn
        have wo : IntKind.i64.wrap ((o : Int) + (q : Int)) = (o : Int) + (q : Int) := IntWalk.i64_in _ (by omega)
        have wm : IntKind.i64.wrap ((m : Int) - (p : Int)) = (m : Int) - (p : Int) := IntWalk.i64_in _ (by omega)
        have wp : IntKind.i64.wrap ((p : Int) + (o : Int)) = (p : Int) + (o : Int) := IntWalk.i64_in _ (by omega)
        have HX : Hid (∀ W, Below w2.heap.size w2 W → Thr bc oc k p o q A1 A2 c1 c2 W) := fun W hb => ⟨(hb.cell (p := ⟨bc, _, none⟩) hbc).trans b0', (hb.cell (p := ⟨bc, _, none⟩) hbc).trans b1', (hb.cell (p := ⟨bc, _, none⟩) hbc).trans b2'⟩
        clear b0' b1' b2'
        go_wp2_with fail
        refine Rg.wp_only ?_ (apartReg8 _ (by kernel_rfl) _ bc oc k p o q m ca L vc E c1 c2 ar A A1 A2 _ (Below w2.heap.size w2) e1 HX.out HB.out.drew (by omega) (decide_eq_false (by omega)) wo wm (beq_eq_false_iff_ne.2 (by omega)) (by omega) (decide_eq_false (by omega)) (by omega) (decide_eq_false (by omega)))
        rintro _ w9 ⟨rfl, h9⟩
        clear HB
        by_cases hk0 : k = 0
        · by_cases har0 : ar = 0
          · have HAR := Lib.hid har0
            by_cases ho0 : o = 0
            · have HO0 := Lib.hid ho0
              have HK0 := Lib.hid hk0
              have i1 : ¬ (0 : Int) < (k : Int) := by omega
              have i2 : decide ((0 : Int) < (k : Int)) = false := decide_eq_false i1
              have j1 : (ar == 0) = true := beq_iff_eq.2 har0
              clear hk0 har0 ho0
              go_wp2_with fail
              refine Rg.wp_only ?_ (apartReg12o _ (by kernel_rfl) _ bc oc k p o q m ca L vc E c1 c2 ar A A1 A2 _ (Below w2.heap.size w2) e1 HX.out h9.drew (beq_iff_eq.2 HAR.out) (by have := HO0.out; omega) (decide_eq_false (by have := HO0.out; omega)))
              rintro _ w10 ⟨rfl, h10⟩
              go_wp2_with fail
              refine Rg.wp_only ?_ (apartReg14 _ (by kernel_rfl) _ bc oc k p o q m ca L vc E c1 c2 ar A A1 A2 _ (Below w2.heap.size w2) e1 HX.out h10.drew wp)
              rintro _ w11 ⟨rfl, h11⟩
              go_wp2_with fail
              go_roundw
              case rel => exact ⟨k + 1, by go_num, by omega, by rw [HFN.out]; go_num, h11⟩
              case measure => simp only [intOf]; omega
            · by_cases hq0 : q = 0
              · have HQ0 := Lib.hid hq0
                have HK0 := Lib.hid hk0
                have i1 : ¬ (0 : Int) < (k : Int) := by omega
                have i2 : decide ((0 : Int) < (k : Int)) = false := decide_eq_false i1
                have j1 : (ar == 0) = true := beq_iff_eq.2 har0
                clear hk0 har0 hq0
                go_wp2_with fail
                refine Rg.wp_only ?_ (apartReg12n _ (by kernel_rfl) _ bc oc k p o q m ca L vc E c1 c2 ar A A1 A2 _ (Below w2.heap.size w2) e1 HX.out h9.drew (beq_iff_eq.2 HAR.out) (by omega) (by have := HQ0.out; omega) (decide_eq_false (by have := HQ0.out; omega)))
                rintro _ w10 ⟨rfl, h10⟩
                go_wp2_with fail
                refine Rg.wp_only ?_ (apartReg14 _ (by kernel_rfl) _ bc oc k p o q m ca L vc E c1 c2 ar A A1 A2 _ (Below w2.heap.size w2) e1 HX.out h10.drew wp)
                rintro _ w11 ⟨rfl, h11⟩
                go_wp2_with fail
                go_roundw
                case rel => exact ⟨k + 1, by go_num, by omega, by rw [HFN.out]; go_num, h11⟩
                case measure => simp only [intOf]; omega
              · have HK0 := Lib.hid hk0
                have i1 : ¬ (0 : Int) < (k : Int) := by omega
                have i2 : decide ((0 : Int) < (k : Int)) = false := decide_eq_false i1
                have j1 : (ar == 0) = true := beq_iff_eq.2 har0
                obtain ⟨bo, oo, rfl, hbo, hco⟩ := S1.out.2.resolve_left (by omega)
                obtain ⟨bn, on, rfl, hbn, hcn⟩ := S2.out.2.resolve_left (by omega)
                obtain ⟨X, hX⟩ : ∃ X, h.old[0]? = some X := ⟨_, List.getElem?_eq_getElem (by rw [← HO.out]; omega)⟩
                obtain ⟨Y, hY⟩ : ∃ Y, h.new[0]? = some Y := ⟨_, List.getElem?_eq_getElem (by rw [← HQ.out]; omega)⟩
                have hS : ∀ W, Below w2.heap.size w2 W → W.cell? ⟨bo, oo, none⟩ = some (.string X) ∧ W.cell? ⟨bn, on, none⟩ = some (.string Y) := fun W hb => by
                  have x1 := (hb.cell (p := ⟨bo, _, none⟩) hbo).trans (hco 0 X hX)
                  have y1 := (hb.cell (p := ⟨bn, _, none⟩) hbn).trans (hcn 0 Y hY)
                  rw [Nat.add_zero] at x1 y1
                  exact ⟨x1, y1⟩
                have hXY : X ≠ Y := HXY.out har0 X Y (by rw [List.head?_eq_getElem?]; exact hX) (by rw [List.head?_eq_getElem?]; exact hY)
                have e3 : (X.toList == Y.toList) = false := bytes_ne hXY
                clear hco hcn hX hY hXY
                clear hk0 har0
                go_wp2_with fail
                refine Rg.wp_only ?_ (apartReg12b _ (by kernel_rfl) _ bc oc k p o q m ca L vc E c1 c2 ar A (some ⟨bo, oo, none⟩) (some ⟨bn, on, none⟩) _ (Below w2.heap.size w2) e1 bo oo bn on X Y HX.out h9.drew (beq_iff_eq.2 HAR.out) (by omega) (by omega) e3 hS)
                rintro _ w10 ⟨rfl, h10⟩
                go_wp2_with fail
                refine Rg.wp_only ?_ (apartReg14 _ (by kernel_rfl) _ bc oc k p o q m ca L vc E c1 c2 ar A (some ⟨bo, oo, none⟩) (some ⟨bn, on, none⟩) _ (Below w2.heap.size w2) e1 HX.out h10.drew wp)
                rintro _ w11 ⟨rfl, h11⟩
                go_wp2_with fail
                go_roundw
                case rel => exact ⟨k + 1, by go_num, by omega, by rw [HFN.out]; go_num, h11⟩
                case measure => simp only [intOf]; omega
          · have HK0 := Lib.hid hk0
            have i1 : ¬ (0 : Int) < (k : Int) := by omega
            have i2 : decide ((0 : Int) < (k : Int)) = false := decide_eq_false i1
            have j1 : (ar == 0) = false := beq_eq_false_iff_ne.2 har0
            have HJ1 := Lib.hid j1
            clear hk0 har0
            go_wp2_with fail
            refine Rg.wp_only ?_ (apartReg12ar _ (by kernel_rfl) _ bc oc k p o q m ca L vc E c1 c2 ar A A1 A2 _ (Below w2.heap.size w2) e1 HX.out h9.drew HJ1.out)
            rintro _ w10 ⟨rfl, h10⟩
            go_wp2_with fail
            refine Rg.wp_only ?_ (apartReg14 _ (by kernel_rfl) _ bc oc k p o q m ca L vc E c1 c2 ar A A1 A2 _ (Below w2.heap.size w2) e1 HX.out h10.drew wp)
            rintro _ w11 ⟨rfl, h11⟩
            go_wp2_with fail
            go_roundw
            case rel => exact ⟨k + 1, by go_num, by omega, by rw [HFN.out]; go_num, h11⟩
            case measure => simp only [intOf]; omega
        · by_cases har0 : ar = 0
          · have HAR := Lib.hid har0
            by_cases ho0 : o = 0
            · have HO0 := Lib.hid ho0
              have i1 : (0 : Int) < (k : Int) := by omega
              have j1 : (ar == 0) = true := beq_iff_eq.2 har0
              have j2 : ((p : Int) == (E : Int)) = false := beq_eq_false_iff_ne.2 (by have := HNE.out har0 (by omega); omega)
              have j3 : (p == E) = false := beq_eq_false_iff_ne.2 (HNE.out har0 (by omega))
              have j4 : decide (p = E) = false := decide_eq_false (HNE.out har0 (by omega))
              have j5 : ¬ p = E := HNE.out har0 (by omega)
              have g0 := (HX.out _ h9).1
              clear hk0 har0 ho0
              go_wp2_with fail
              refine Rg.wp_only ?_ (apartReg12o _ (by kernel_rfl) _ bc oc k p o q m ca L vc E c1 c2 ar A A1 A2 _ (Below w2.heap.size w2) e1 HX.out h9.drew (beq_iff_eq.2 HAR.out) (by have := HO0.out; omega) (decide_eq_false (by have := HO0.out; omega)))
              rintro _ w10 ⟨rfl, h10⟩
              go_wp2_with fail
              refine Rg.wp_only ?_ (apartReg14 _ (by kernel_rfl) _ bc oc k p o q m ca L vc E c1 c2 ar A A1 A2 _ (Below w2.heap.size w2) e1 HX.out h10.drew wp)
              rintro _ w11 ⟨rfl, h11⟩
              go_wp2_with fail
              go_roundw
              case rel => exact ⟨k + 1, by go_num, by omega, by rw [HFN.out]; go_num, h11⟩
              case measure => simp only [intOf]; omega
            · by_cases hq0 : q = 0
              · have HQ0 := Lib.hid hq0
                have i1 : (0 : Int) < (k : Int) := by omega
                have j1 : (ar == 0) = true := beq_iff_eq.2 har0
                have j2 : ((p : Int) == (E : Int)) = false := beq_eq_false_iff_ne.2 (by have := HNE.out har0 (by omega); omega)
                have j3 : (p == E) = false := beq_eq_false_iff_ne.2 (HNE.out har0 (by omega))
                have j4 : decide (p = E) = false := decide_eq_false (HNE.out har0 (by omega))
                have j5 : ¬ p = E := HNE.out har0 (by omega)
                have g0 := (HX.out _ h9).1
                clear hk0 har0 hq0
                go_wp2_with fail
                refine Rg.wp_only ?_ (apartReg12n _ (by kernel_rfl) _ bc oc k p o q m ca L vc E c1 c2 ar A A1 A2 _ (Below w2.heap.size w2) e1 HX.out h9.drew (beq_iff_eq.2 HAR.out) (by omega) (by have := HQ0.out; omega) (decide_eq_false (by have := HQ0.out; omega)))
                rintro _ w10 ⟨rfl, h10⟩
                go_wp2_with fail
                refine Rg.wp_only ?_ (apartReg14 _ (by kernel_rfl) _ bc oc k p o q m ca L vc E c1 c2 ar A A1 A2 _ (Below w2.heap.size w2) e1 HX.out h10.drew wp)
                rintro _ w11 ⟨rfl, h11⟩
                go_wp2_with fail
                go_roundw
                case rel => exact ⟨k + 1, by go_num, by omega, by rw [HFN.out]; go_num, h11⟩
                case measure => simp only [intOf]; omega
              · have i1 : (0 : Int) < (k : Int) := by omega
                have j1 : (ar == 0) = true := beq_iff_eq.2 har0
                have j2 : ((p : Int) == (E : Int)) = false := beq_eq_false_iff_ne.2 (by have := HNE.out har0 (by omega); omega)
                have j3 : (p == E) = false := beq_eq_false_iff_ne.2 (HNE.out har0 (by omega))
                have j4 : decide (p = E) = false := decide_eq_false (HNE.out har0 (by omega))
                have j5 : ¬ p = E := HNE.out har0 (by omega)
                have g0 := (HX.out _ h9).1
                obtain ⟨bo, oo, rfl, hbo, hco⟩ := S1.out.2.resolve_left (by omega)
                obtain ⟨bn, on, rfl, hbn, hcn⟩ := S2.out.2.resolve_left (by omega)
                obtain ⟨X, hX⟩ : ∃ X, h.old[0]? = some X := ⟨_, List.getElem?_eq_getElem (by rw [← HO.out]; omega)⟩
                obtain ⟨Y, hY⟩ : ∃ Y, h.new[0]? = some Y := ⟨_, List.getElem?_eq_getElem (by rw [← HQ.out]; omega)⟩
                have hS : ∀ W, Below w2.heap.size w2 W → W.cell? ⟨bo, oo, none⟩ = some (.string X) ∧ W.cell? ⟨bn, on, none⟩ = some (.string Y) := fun W hb => by
                  have x1 := (hb.cell (p := ⟨bo, _, none⟩) hbo).trans (hco 0 X hX)
                  have y1 := (hb.cell (p := ⟨bn, _, none⟩) hbn).trans (hcn 0 Y hY)
                  rw [Nat.add_zero] at x1 y1
                  exact ⟨x1, y1⟩
                have hXY : X ≠ Y := HXY.out har0 X Y (by rw [List.head?_eq_getElem?]; exact hX) (by rw [List.head?_eq_getElem?]; exact hY)
                have e3 : (X.toList == Y.toList) = false := bytes_ne hXY
                clear hco hcn hX hY hXY
                clear hk0 har0
                go_wp2_with fail
                refine Rg.wp_only ?_ (apartReg12b _ (by kernel_rfl) _ bc oc k p o q m ca L vc E c1 c2 ar A (some ⟨bo, oo, none⟩) (some ⟨bn, on, none⟩) _ (Below w2.heap.size w2) e1 bo oo bn on X Y HX.out h9.drew (beq_iff_eq.2 HAR.out) (by omega) (by omega) e3 hS)
                rintro _ w10 ⟨rfl, h10⟩
                go_wp2_with fail
                refine Rg.wp_only ?_ (apartReg14 _ (by kernel_rfl) _ bc oc k p o q m ca L vc E c1 c2 ar A (some ⟨bo, oo, none⟩) (some ⟨bn, on, none⟩) _ (Below w2.heap.size w2) e1 HX.out h10.drew wp)
                rintro _ w11 ⟨rfl, h11⟩
                go_wp2_with fail
                go_roundw
                case rel => exact ⟨k + 1, by go_num, by omega, by rw [HFN.out]; go_num, h11⟩
                case measure => simp only [intOf]; omega
          · have i1 : (0 : Int) < (k : Int) := by omega
            have j1 : (ar == 0) = false := beq_eq_false_iff_ne.2 har0
            have HJ1 := Lib.hid j1
            clear hk0 har0
            go_wp2_with fail
            refine Rg.wp_only ?_ (apartReg12ar _ (by kernel_rfl) _ bc oc k p o q m ca L vc E c1 c2 ar A A1 A2 _ (Below w2.heap.size w2) e1 HX.out h9.drew HJ1.out)
            rintro _ w10 ⟨rfl, h10⟩
            go_wp2_with fail
            refine Rg.wp_only ?_ (apartReg14 _ (by kernel_rfl) _ bc oc k p o q m ca L vc E c1 c2 ar A A1 A2 _ (Below w2.heap.size w2) e1 HX.out h10.drew wp)
            rintro _ w11 ⟨rfl, h11⟩
            go_wp2_with fail
            go_roundw
            case rel => exact ⟨k + 1, by go_num, by omega, by rw [HFN.out]; go_num, h11⟩
            case measure => simp only [intOf]; omega
      · have e1 : ¬ (k : Int) < (L : Int) := by omega
        have hE : Below w.heap.size w wr := HB2.out.trans (HB.out.mono HB2.out.size)
        go_wp2_with fail
        go_ret
        exact ⟨rfl, hE⟩
  · obtain ⟨er, her⟩ : ∃ er, er = per a b ar := ⟨_, rfl⟩
    rw [← her] at hp c1
    have hpe : ((er : Int) == 0) = false := beq_eq_false_iff_ne.2 (by omega)
    have hpe2 : (er == 0) = false := beq_eq_false_iff_ne.2 (by omega)
    clear her hp
    go_enter Try.func6, Try.ntmps6
    go_wp2_with fail
    go_at_call 7
    refine c1.out.mono ?_
    rintro e w1 ⟨v, cs, rfl, hu, hi, _, hb1⟩
    obtain ⟨va, vc, rfl, _⟩ := hu.form hi
    clear hu hi c1
    go_wp2_with fail
    go_at_call 9
    refine (awake_any13 hM _).mono ?_
    rintro e w2 ⟨rfl, hb2⟩
    have hB2 := below_call hb1 hb2
    go_wp2_with fail
    go_at_call 9
    refine (awake_any13 hM _).mono ?_
    rintro e w3 ⟨rfl, hb3⟩
    have hB3 := below_call hB2 hb3
    go_wp2_with fail
    go_ret
    exact ⟨rfl, hB3⟩
theorem own : ownKnob Try.prog.godebug = none := by kernel_rfl
theorem laidOut : laidOutB Try.prog = true := by kernel_rfl
set_option maxRecDepth 100000 in
theorem contract (hM : Impl) (H : Type) (enc : TypeId × Value → H) (W : World) (base : Nat) (args : Array Value) (ds gs : List (DataW H)) (before : List MemPlace)
    (hval0 : ∀ (j : Nat) t v, Try.f6.params[j]? = some t → args[j]? = some v → Value.okWide Try.prog W .any base t v)
    (hW : DataW.Whole enc Try.prog Try.f6.params.toList Rows.hunkApartSpec.vars false W args.toList ds gs before)
    (hsz0 : (DataW.weightsEach Try.prog (Try.f6.params.toList ++ Rows.hunkApartSpec.plain.varTypes Try.prog) (ds ++ gs)).all (· ≤ reachBytes) = true) :
    Calls Try.prog 6 args W fun e W' => ∃ v, e = .returned v ∧ Rows.hunkApartSpec.post enc Try.prog Try.f6 false true false false W args v W' := by
  have hval : ∀ (j : Nat) t v, Try.f6.params[j]? = some t → args[j]? = some v → Value.okWide Try.prog W .any base t v := hval0
  have hsz := hsz0
  clear hsz0
  have hW' := hW
  obtain ⟨p, q, hA0, hV, rfl, hfz, hnd⟩ := hW
  have hA : DataW.TrodAll enc Try.prog W 0 (fun _ => true) true Try.f6.params.toList args.toList ds p := hA0
  rw [Try.params6] at hA hval hsz
  obtain ⟨v0, vs0, d0, ds0, p0, q0, hargs, rfl, rfl, h0, r0⟩ := trodAll_cons hA
  obtain ⟨v1, vs1, d1, ds1, p1, q1, rfl, rfl, rfl, h1, r1⟩ := trodAll_cons r0
  obtain ⟨v2, vs2, d2, ds2, p2, q2, rfl, rfl, rfl, h2, r2⟩ := trodAll_cons r1
  obtain ⟨rfl, rfl, rfl⟩ := trodAll_nil r2
  obtain rfl : args = #[v0, v1, v2] := by cases args; simp_all
  obtain ⟨rfl, rfl⟩ := trodVars_none hV
  obtain ⟨A0, n0, c0, rfl⟩ := okWide_slice Try.underlying22 (hval 0 22 v0 rfl rfl)
  have k0 := h0
  have lt0 : ∀ x ∈ p0, x.block < W.heap.size := by obtain ⟨m, hm⟩ := k0; exact DataW.trod_lt m _ _ _ hm
  obtain ⟨A1, n1, c1, rfl⟩ := okWide_slice Try.underlying22 (hval 1 22 v1 rfl rfl)
  have k1 := h1
  have lt1 : ∀ x ∈ p1, x.block < W.heap.size := by obtain ⟨m, hm⟩ := k1; exact DataW.trod_lt m _ _ _ hm
  obtain ⟨a2, rfl, rfl, rfl, w2⟩ := open_int Try.underlying3 (hval 2 3 v2 rfl rfl) h2
  have bd2 : -9223372036854775808 ≤ a2 ∧ a2 ≤ 9223372036854775807 := by simpa [Lit.wf, IntKind.min, IntKind.max, IntKind.signed, IntKind.bits] using w2
  clear hA0 hval0
  obtain ⟨l0, hl0⟩ := arg_in h0 (j := 0) hsz rfl rfl
  obtain ⟨l1, hl1⟩ := arg_in h1 (j := 1) hsz rfl rfl
  obtain rfl := hl0.2.1
  obtain rfl := hl1.2.1
  refine (walk hM A0 A1 c0 c1 a2 l0 l1 W hl0.1 hl1.1 bd2).mono fun e W' ⟨he, bel⟩ => ?_
  subst he
  exact ⟨_, rfl, _, _, _, [], _, [], hW', trodAll_mk1 (shut_bool Try.underlying4 _), (trodAll_cons_mk (Below.trod laidOut (by kernel_rfl) (of_decide_eq_true (by kernel_rfl)) k0 bel lt0) (trodAll_cons_mk (Below.trod laidOut (by kernel_rfl) (of_decide_eq_true (by kernel_rfl)) k1 bel lt1) (trodAll_cons_mk (shut_int Try.underlying3 w2) trodAll_mk0))), rfl, bel.frame _, fun h => by cases h⟩
set_option maxRecDepth 100000 in
theorem lifted (hM : Impl) (os : Os) (started : os.Started) (H : Type) (enc : TypeId × Value → H) :
    ReturnsInHanded {} Try.checked os 6 .any (Rows.hunkApartSpec.pre6 enc Try.prog Try.f6 Rows.hunkApartRow.domain false) (Rows.hunkApartSpec.post enc Try.prog Try.f6 false true false false) := by
  refine returnsInHanded_of_change_sized (C := Try.checked) own started (by kernel_rfl) Try.func6
    (ChangeSpec.witness6 (enc := enc) (C := Try.checked) false ⟨#[], #[.slice none 0 0, .slice none 0 0, .int .i64 0], []⟩ 8 (by kernel_rfl) (by kernel_rfl) (by kernel_rfl) (by kernel_rfl)) ?_
  intro W base args ds gs before hval0 hW _ hsz0 _
  exact contract hM H enc W base args ds gs before hval0 hW hsz0
theorem over (hM : Impl) : Rows.hunkApartRow.holds Try.pinned (OpenSpec.ofChange Rows.hunkApartSpec) :=
  OpenClaim.holds_of_wide 6 Try.f6 rfl rfl rfl rfl rfl rfl rfl ⟨rfl, rfl, rfl, rfl, rfl⟩ rfl rfl rfl rfl rfl (by kernel_rfl) Try.func6 (by kernel_rfl)
    (of_decide_eq_true (by kernel_rfl)) (by unfold Func.isWrapper; first | (rw [if_pos (by decide +kernel)]; kernel_rfl) | (rw [if_neg (by decide +kernel)]; exact ⟨rfl, rfl⟩))
    (fun os started H enc _ => lifted hM os started H enc)
end Go.Proofs.Ytoncghamkedhcaa.hunkApart

namespace Go.Proofs.Ytoncghamkedhcaa
theorem hunkApart_holds : Rows.HunkApartSaid := hunkApart.over Kd.impl
#print axioms hunkApart_holds
end Go.Proofs.Ytoncghamkedhcaa
