/-
  MergeParts: of every three texts: the pieces, joined, are the three texts; none is empty, a stable one has the same lines thrice, and no two of one kind stand side by side.
  It is said of the code of package merge as it landed, for every argument of the given row's domain, in the first form. The law returns true, and writes nothing that was there. No other condition.
-/
import Derived.Test.YtnpobigombafoaaT4
import Derived.ProofKit
import Derived.Deep.CondSized
import Derived.OpenShut
import Derived.ShutString
import Derived.ChangeOld
import Derived.Below
import Derived.JoinedCond
namespace Go.Proofs.Ytnpobigombafoaa.Mg
open Go.RowKit Tx
set_option linter.unusedVariables false
def Chk (bc o : Nat) (st : Bool) (ub ul ur : Value) (W : World) : Prop := W.cell? ⟨bc, o, none⟩ = some (.bool st) ∧ W.cell? ⟨bc, o + 1, none⟩ = some ub ∧ W.cell? ⟨bc, o + 2, none⟩ = some ul ∧ W.cell? ⟨bc, o + 3, none⟩ = some ur
set_option maxRecDepth 100000 in
set_option maxHeartbeats 4000000 in
theorem partsJoin {SA SB SC J1 J2 J3 TA TB TC : ByteArray} (ops : Array Oper) (hops : ops = (Rg.opsOf Try.f5 8)) (id : Nat) (bc oc k L cc n1 n2 n3 c1 c2 c3 : Nat) (A1 A2 A3 : Option Addr) (st : Bool) {u0 u1 u2 u3 u4 u5 u6 u8 u13 u14 u15 u16 u17 u18 u19 u20 u21 u22 u23 u24 u25 u26 u27 u28 u29 u30 u31 u32 u33 u34 u35 u36 u37 u38 u39 u40 u41 u42 u43 u44 u45 u46 u47 u48 u49 u50 u51 u52 u53 u54 u55 u56 u57 u58 u59 u60 u61 u62 u63 u64 u65 u66 u67 u68 u69 u70 u71 u72 u73 u74 u75 u76 u77 u78 u79 u80 u81 u82 u83 u84 u85 u86 u87 u88 u89 u90 u91 u92 u93 u94 u95 u96 u97 u98 u99 u100 u101 u102 u103 u104 u105 u106 u107 u108 u109 u110 u111 u112 u113 u114 u115 u116 u117 u118 u119 u120 u121 u122 u123 u124 u125 u126 u127 u128 u129 u130 u131 u132 u133 u134 u135 u136 u137 u138 u139 u140 u141 u142 u143 u144 u145 u146 : Value} (w : World) (X : World → Prop) (hk : (k : Int) < (L : Int))
    (hX : ∀ W, X W → Chk bc (oc + k * 4) st (.slice A1 n1 c1) (.slice A2 n2 c2) (.slice A3 n3 c3) W) (hw : X w.drew) (qTA : ∀ W : World, (Op.stringOp .add SA J1).run Try.prog W = .ok (.string TA) W) (qTB : ∀ W : World, (Op.stringOp .add SB J2).run Try.prog W = .ok (.string TB) W) (qTC : ∀ W : World, (Op.stringOp .add SC J3).run Try.prog W = .ok (.string TC) W)
    (hJ1 : ∀ W, X W → Calls Try.prog 16 #[.slice A1 n1 c1] W fun e w' => e = .returned (.string J1) ∧ X w')
    (hJ2 : ∀ W, X W → Calls Try.prog 16 #[.slice A2 n2 c2] W fun e w' => e = .returned (.string J2) ∧ X w')
    (hJ3 : ∀ W, X W → Calls Try.prog 16 #[.slice A3 n3 c3] W fun e w' => e = .returned (.string J3) ∧ X w') :
    (Code.region id ops true).wp Try.prog (Rg.Only fun a' w' => a' = ⟨#[u0, u1, u2, u3, u4, u5, u6, (.slice (some ⟨bc, oc, none⟩) L cc), u8, (.string TA), (.string TB), (.string TC), (.int .i64 (k : Int)), u13, u14, u15, u16, u17, u18, u19, u20, u21, u22, u23, u24, u25, u26, u27, u28, u29, u30, u31, u32, u33, u34, u35, u36, u37, (.string SA), (.slice (some ⟨bc, oc, none⟩) L cc), (.int .i64 (k : Int)), (.pointer (some ⟨bc, oc + k * 4, none⟩)), (.pointer (some ⟨bc, oc + k * 4 + 1, none⟩)), (.slice A1 n1 c1), (.string J1), (.string TA), (.string SB), (.slice (some ⟨bc, oc, none⟩) L cc), (.int .i64 (k : Int)), (.pointer (some ⟨bc, oc + k * 4, none⟩)), (.pointer (some ⟨bc, oc + k * 4 + 2, none⟩)), (.slice A2 n2 c2), (.string J2), (.string TB), (.string SC), (.slice (some ⟨bc, oc, none⟩) L cc), (.int .i64 (k : Int)), (.pointer (some ⟨bc, oc + k * 4, none⟩)), (.pointer (some ⟨bc, oc + k * 4 + 3, none⟩)), (.slice A3 n3 c3), (.string J3), (.string TC), u62, u63, u64, u65, u66, u67, u68, u69, u70, u71, u72, u73, u74, u75, u76, u77, u78, u79, u80, u81, u82, u83, u84, u85, u86, u87, u88, u89, u90, u91, u92, u93, u94, u95, u96, u97, u98, u99, u100, u101, u102, u103, u104, u105, u106, u107, u108, u109, u110, u111, u112, u113, u114, u115, u116, u117, u118, u119, u120, u121, u122, u123, u124, u125, u126, u127, u128, u129, u130, u131, u132, u133, u134, u135, u136, u137, u138, u139, u140, u141, u142, u143, u144, u145, u146], []⟩ ∧ X w') ⟨#[u0, u1, u2, u3, u4, u5, u6, (.slice (some ⟨bc, oc, none⟩) L cc), u8, (.string SA), (.string SB), (.string SC), (.int .i64 (k : Int)), u13, u14, u15, u16, u17, u18, u19, u20, u21, u22, u23, u24, u25, u26, u27, u28, u29, u30, u31, u32, u33, u34, u35, u36, u37, u38, u39, u40, u41, u42, u43, u44, u45, u46, u47, u48, u49, u50, u51, u52, u53, u54, u55, u56, u57, u58, u59, u60, u61, u62, u63, u64, u65, u66, u67, u68, u69, u70, u71, u72, u73, u74, u75, u76, u77, u78, u79, u80, u81, u82, u83, u84, u85, u86, u87, u88, u89, u90, u91, u92, u93, u94, u95, u96, u97, u98, u99, u100, u101, u102, u103, u104, u105, u106, u107, u108, u109, u110, u111, u112, u113, u114, u115, u116, u117, u118, u119, u120, u121, u122, u123, u124, u125, u126, u127, u128, u129, u130, u131, u132, u133, u134, u135, u136, u137, u138, u139, u140, u141, u142, u143, u144, u145, u146], []⟩ w := by
  subst hops
  have hNS : Region.noSelect (Rg.opsOf Try.f5 8) = true := by kernel_rfl
  refine wp_region_held_drew (S := X) (by kernel_rfl) hw (fun hHeld => ?_)
  rw [show (Rg.opsOf Try.f5 8).size = 27 by kernel_rfl]
  refine Rg.take (ops := (Rg.opsOf Try.f5 8)) 0 (some 38) ((.string SA)) hNS (by kernel_rfl) (by kernel_rfl) (by kernel_rfl) (by kernel_rfl) (by kernel_rfl) hHeld (Rg.y_move (x := (Operand.tmp 9)) (Or.inl (by kernel_rfl)) (by kernel_rfl)) ?_
  refine Rg.take (ops := (Rg.opsOf Try.f5 8)) 1 (some 39) ((.slice (some ⟨bc, oc, none⟩) L cc)) hNS (by kernel_rfl) (by kernel_rfl) (by kernel_rfl) (by kernel_rfl) (by kernel_rfl) hHeld (Rg.y_move (x := (Operand.tmp 7)) (Or.inl (by kernel_rfl)) (by kernel_rfl)) ?_
  refine Rg.take (ops := (Rg.opsOf Try.f5 8)) 2 (some 40) ((.int .i64 (k : Int))) hNS (by kernel_rfl) (by kernel_rfl) (by kernel_rfl) (by kernel_rfl) (by kernel_rfl) hHeld (Rg.y_move (x := (Operand.tmp 12)) (Or.inl (by kernel_rfl)) (by kernel_rfl)) ?_
  refine Rg.take (ops := (Rg.opsOf Try.f5 8)) 3 (some 41) ((.pointer (some ⟨bc, oc + k * 4, none⟩))) hNS (by kernel_rfl) (by kernel_rfl) (by kernel_rfl) (by kernel_rfl) (by kernel_rfl) hHeld (Rg.y_at (T := 22) (x := (Operand.tmp 39)) (y := (Operand.tmp 40)) (vx := (.slice (some ⟨bc, oc, none⟩) L cc)) (vy := (.int .i64 (k : Int))) (by kernel_rfl) (by kernel_rfl) (by kernel_rfl) ?_) ?_
  · (intro W hSw; clear hSw hHeld; go_simp)
  refine Rg.take (ops := (Rg.opsOf Try.f5 8)) 4 (some 42) ((.pointer (some ⟨bc, oc + k * 4 + 1, none⟩))) hNS (by kernel_rfl) (by kernel_rfl) (by kernel_rfl) (by kernel_rfl) (by kernel_rfl) hHeld (Rg.y_field (T := 33) (k := 1) (x := (Operand.tmp 41)) (vx := (.pointer (some ⟨bc, oc + k * 4, none⟩))) (by kernel_rfl) (by kernel_rfl) ?_) ?_
  · (intro W hSw; clear hSw hHeld; go_simp)
  refine Rg.take (ops := (Rg.opsOf Try.f5 8)) 5 (some 43) ((.slice A1 n1 c1)) hNS (by kernel_rfl) (by kernel_rfl) (by kernel_rfl) (by kernel_rfl) (by kernel_rfl) hHeld (Rg.y_load (T := 31) (x := (Operand.tmp 42)) (vx := (.pointer (some ⟨bc, oc + k * 4 + 1, none⟩))) (by kernel_rfl) (by kernel_rfl) ?_) ?_
  · (intro W hSw; obtain ⟨s0, s1, s2, s3⟩ := hX _ hSw; clear hSw hHeld; go_simp)
  refine Rg.take (ops := (Rg.opsOf Try.f5 8)) 8 (some 46) ((.string SB)) hNS (by kernel_rfl) (by kernel_rfl) (by kernel_rfl) (by kernel_rfl) (by kernel_rfl) hHeld (Rg.y_move (x := (Operand.tmp 10)) (Or.inl (by kernel_rfl)) (by kernel_rfl)) ?_
  refine Rg.take (ops := (Rg.opsOf Try.f5 8)) 9 (some 47) ((.slice (some ⟨bc, oc, none⟩) L cc)) hNS (by kernel_rfl) (by kernel_rfl) (by kernel_rfl) (by kernel_rfl) (by kernel_rfl) hHeld (Rg.y_move (x := (Operand.tmp 7)) (Or.inl (by kernel_rfl)) (by kernel_rfl)) ?_
  refine Rg.take (ops := (Rg.opsOf Try.f5 8)) 10 (some 48) ((.int .i64 (k : Int))) hNS (by kernel_rfl) (by kernel_rfl) (by kernel_rfl) (by kernel_rfl) (by kernel_rfl) hHeld (Rg.y_move (x := (Operand.tmp 12)) (Or.inl (by kernel_rfl)) (by kernel_rfl)) ?_
  refine Rg.take (ops := (Rg.opsOf Try.f5 8)) 11 (some 49) ((.pointer (some ⟨bc, oc + k * 4, none⟩))) hNS (by kernel_rfl) (by kernel_rfl) (by kernel_rfl) (by kernel_rfl) (by kernel_rfl) hHeld (Rg.y_at (T := 22) (x := (Operand.tmp 47)) (y := (Operand.tmp 48)) (vx := (.slice (some ⟨bc, oc, none⟩) L cc)) (vy := (.int .i64 (k : Int))) (by kernel_rfl) (by kernel_rfl) (by kernel_rfl) ?_) ?_
  · (intro W hSw; clear hSw hHeld; go_simp)
  refine Rg.take (ops := (Rg.opsOf Try.f5 8)) 12 (some 50) ((.pointer (some ⟨bc, oc + k * 4 + 2, none⟩))) hNS (by kernel_rfl) (by kernel_rfl) (by kernel_rfl) (by kernel_rfl) (by kernel_rfl) hHeld (Rg.y_field (T := 33) (k := 2) (x := (Operand.tmp 49)) (vx := (.pointer (some ⟨bc, oc + k * 4, none⟩))) (by kernel_rfl) (by kernel_rfl) ?_) ?_
  · (intro W hSw; clear hSw hHeld; go_simp)
  refine Rg.take (ops := (Rg.opsOf Try.f5 8)) 13 (some 51) ((.slice A2 n2 c2)) hNS (by kernel_rfl) (by kernel_rfl) (by kernel_rfl) (by kernel_rfl) (by kernel_rfl) hHeld (Rg.y_load (T := 31) (x := (Operand.tmp 50)) (vx := (.pointer (some ⟨bc, oc + k * 4 + 2, none⟩))) (by kernel_rfl) (by kernel_rfl) ?_) ?_
  · (intro W hSw; obtain ⟨s0, s1, s2, s3⟩ := hX _ hSw; clear hSw hHeld; go_simp)
  refine Rg.take (ops := (Rg.opsOf Try.f5 8)) 16 (some 54) ((.string SC)) hNS (by kernel_rfl) (by kernel_rfl) (by kernel_rfl) (by kernel_rfl) (by kernel_rfl) hHeld (Rg.y_move (x := (Operand.tmp 11)) (Or.inl (by kernel_rfl)) (by kernel_rfl)) ?_
  refine Rg.take (ops := (Rg.opsOf Try.f5 8)) 17 (some 55) ((.slice (some ⟨bc, oc, none⟩) L cc)) hNS (by kernel_rfl) (by kernel_rfl) (by kernel_rfl) (by kernel_rfl) (by kernel_rfl) hHeld (Rg.y_move (x := (Operand.tmp 7)) (Or.inl (by kernel_rfl)) (by kernel_rfl)) ?_
  refine Rg.take (ops := (Rg.opsOf Try.f5 8)) 18 (some 56) ((.int .i64 (k : Int))) hNS (by kernel_rfl) (by kernel_rfl) (by kernel_rfl) (by kernel_rfl) (by kernel_rfl) hHeld (Rg.y_move (x := (Operand.tmp 12)) (Or.inl (by kernel_rfl)) (by kernel_rfl)) ?_
  refine Rg.take (ops := (Rg.opsOf Try.f5 8)) 19 (some 57) ((.pointer (some ⟨bc, oc + k * 4, none⟩))) hNS (by kernel_rfl) (by kernel_rfl) (by kernel_rfl) (by kernel_rfl) (by kernel_rfl) hHeld (Rg.y_at (T := 22) (x := (Operand.tmp 55)) (y := (Operand.tmp 56)) (vx := (.slice (some ⟨bc, oc, none⟩) L cc)) (vy := (.int .i64 (k : Int))) (by kernel_rfl) (by kernel_rfl) (by kernel_rfl) ?_) ?_
  · (intro W hSw; clear hSw hHeld; go_simp)
  refine Rg.take (ops := (Rg.opsOf Try.f5 8)) 20 (some 58) ((.pointer (some ⟨bc, oc + k * 4 + 3, none⟩))) hNS (by kernel_rfl) (by kernel_rfl) (by kernel_rfl) (by kernel_rfl) (by kernel_rfl) hHeld (Rg.y_field (T := 33) (k := 3) (x := (Operand.tmp 57)) (vx := (.pointer (some ⟨bc, oc + k * 4, none⟩))) (by kernel_rfl) (by kernel_rfl) ?_) ?_
  · (intro W hSw; clear hSw hHeld; go_simp)
  refine Rg.take (ops := (Rg.opsOf Try.f5 8)) 21 (some 59) ((.slice A3 n3 c3)) hNS (by kernel_rfl) (by kernel_rfl) (by kernel_rfl) (by kernel_rfl) (by kernel_rfl) hHeld (Rg.y_load (T := 31) (x := (Operand.tmp 58)) (vx := (.pointer (some ⟨bc, oc + k * 4 + 3, none⟩))) (by kernel_rfl) (by kernel_rfl) ?_) ?_
  · (intro W hSw; obtain ⟨s0, s1, s2, s3⟩ := hX _ hSw; clear hSw hHeld; go_simp)
  refine Rg.call (ops := (Rg.opsOf Try.f5 8)) (fn := Try.f16) (xs := #[Operand.tmp 43]) (ats := #[31]) 6 (some 44) 16 #[(.slice A1 n1 c1)] (by kernel_rfl) (by kernel_rfl) (by kernel_rfl) (by kernel_rfl) (by kernel_rfl) Try.func16 (by kernel_rfl) (by kernel_rfl) (by kernel_rfl) ?_
  refine (hJ1 _ hHeld).mono ?_
  rintro e w5 ⟨rfl, h5⟩
  refine ⟨_, rfl, h5, fun hHeld => ?_⟩
  refine Rg.take (ops := (Rg.opsOf Try.f5 8)) 7 (some 45) ((.string TA)) hNS (by kernel_rfl) (by kernel_rfl) (by kernel_rfl) (by kernel_rfl) (by kernel_rfl) hHeld (Rg.y_bin (b := BinOp.add) (T := 9) (R' := 9) (x := (Operand.tmp 38)) (y := (Operand.tmp 44)) (vx := (.string SA)) (vy := (.string J1)) (by kernel_rfl) (by kernel_rfl) (by kernel_rfl) ?_) ?_
  · (intro W hSw; clear hSw hHeld; have q := qTA W; go_simp)
  refine Rg.call (ops := (Rg.opsOf Try.f5 8)) (fn := Try.f16) (xs := #[Operand.tmp 51]) (ats := #[31]) 14 (some 52) 16 #[(.slice A2 n2 c2)] (by kernel_rfl) (by kernel_rfl) (by kernel_rfl) (by kernel_rfl) (by kernel_rfl) Try.func16 (by kernel_rfl) (by kernel_rfl) (by kernel_rfl) ?_
  refine (hJ2 _ hHeld).mono ?_
  rintro e w6 ⟨rfl, h6⟩
  refine ⟨_, rfl, h6, fun hHeld => ?_⟩
  refine Rg.take (ops := (Rg.opsOf Try.f5 8)) 15 (some 53) ((.string TB)) hNS (by kernel_rfl) (by kernel_rfl) (by kernel_rfl) (by kernel_rfl) (by kernel_rfl) hHeld (Rg.y_bin (b := BinOp.add) (T := 9) (R' := 9) (x := (Operand.tmp 46)) (y := (Operand.tmp 52)) (vx := (.string SB)) (vy := (.string J2)) (by kernel_rfl) (by kernel_rfl) (by kernel_rfl) ?_) ?_
  · (intro W hSw; clear hSw hHeld; have q := qTB W; go_simp)
  refine Rg.call (ops := (Rg.opsOf Try.f5 8)) (fn := Try.f16) (xs := #[Operand.tmp 59]) (ats := #[31]) 22 (some 60) 16 #[(.slice A3 n3 c3)] (by kernel_rfl) (by kernel_rfl) (by kernel_rfl) (by kernel_rfl) (by kernel_rfl) Try.func16 (by kernel_rfl) (by kernel_rfl) (by kernel_rfl) ?_
  refine (hJ3 _ hHeld).mono ?_
  rintro e w7 ⟨rfl, h7⟩
  refine ⟨_, rfl, h7, fun hHeld => ?_⟩
  refine Rg.take (ops := (Rg.opsOf Try.f5 8)) 23 (some 61) ((.string TC)) hNS (by kernel_rfl) (by kernel_rfl) (by kernel_rfl) (by kernel_rfl) (by kernel_rfl) hHeld (Rg.y_bin (b := BinOp.add) (T := 9) (R' := 9) (x := (Operand.tmp 54)) (y := (Operand.tmp 60)) (vx := (.string SC)) (vy := (.string J3)) (by kernel_rfl) (by kernel_rfl) (by kernel_rfl) ?_) ?_
  · (intro W hSw; clear hSw hHeld; have q := qTC W; go_simp)
  refine Rg.take (ops := (Rg.opsOf Try.f5 8)) 24 (some 9) ((.string TA)) hNS (by kernel_rfl) (by kernel_rfl) (by kernel_rfl) (by kernel_rfl) (by kernel_rfl) hHeld (Rg.y_move (x := (Operand.tmp 45)) (Or.inr (by kernel_rfl)) (by kernel_rfl)) ?_
  refine Rg.take (ops := (Rg.opsOf Try.f5 8)) 25 (some 10) ((.string TB)) hNS (by kernel_rfl) (by kernel_rfl) (by kernel_rfl) (by kernel_rfl) (by kernel_rfl) hHeld (Rg.y_move (x := (Operand.tmp 53)) (Or.inr (by kernel_rfl)) (by kernel_rfl)) ?_
  refine Rg.take (ops := (Rg.opsOf Try.f5 8)) 26 (some 11) ((.string TC)) hNS (by kernel_rfl) (by kernel_rfl) (by kernel_rfl) (by kernel_rfl) (by kernel_rfl) hHeld (Rg.y_move (x := (Operand.tmp 61)) (Or.inr (by kernel_rfl)) (by kernel_rfl)) ?_
  refine Rg.done (ops := (Rg.opsOf Try.f5 8)) (by kernel_rfl) ?_
  exact ⟨by kernel_rfl, hHeld⟩
set_option maxRecDepth 100000 in
set_option maxHeartbeats 4000000 in
theorem partsKept (ops : Array Oper) (hops : ops = (Rg.opsOf Try.f5 9)) (id : Nat) (bc oc k L cc n1 n2 n3 c1 c2 c3 : Nat) (A1 A2 A3 : Option Addr) {u0 u1 u2 u3 u4 u5 u6 u8 u9 u10 u11 u13 u14 u15 u16 u17 u18 u19 u20 u21 u22 u23 u24 u25 u26 u27 u28 u29 u30 u31 u32 u33 u34 u35 u36 u37 u38 u39 u40 u41 u42 u43 u44 u45 u46 u47 u48 u49 u50 u51 u52 u53 u54 u55 u56 u57 u58 u59 u60 u61 u62 u63 u64 u65 u66 u67 u68 u69 u70 u71 u72 u73 u74 u75 u76 u77 u78 u79 u80 u81 u82 u83 u84 u85 u86 u87 u88 u89 u90 u91 u92 u93 u94 u95 u96 u97 u98 u99 u100 u101 u102 u103 u104 u105 u106 u107 u108 u109 u110 u111 u112 u113 u114 u115 u116 u117 u118 u119 u120 u121 u122 u123 u124 u125 u126 u127 u128 u129 u130 u131 u132 u133 u134 u135 u136 u137 u138 u139 u140 u141 u142 u143 u144 u145 u146 : Value} (w : World) (X : World → Prop) (hk : (k : Int) < (L : Int))
    (hX : ∀ W, X W → Chk bc (oc + k * 4) true (.slice A1 n1 c1) (.slice A2 n2 c2) (.slice A3 n3 c3) W) (hw : X w.drew) (p1 : IntKind.i64.wrap ((n1 : Int) + (n2 : Int)) = (n1 : Int) + (n2 : Int)) (p2 : IntKind.i64.wrap ((n1 : Int) + (n2 : Int) + (n3 : Int)) = (n1 : Int) + (n2 : Int) + (n3 : Int)) (p3 : (((n1 : Int) + (n2 : Int) + (n3 : Int)) == 0) = false)
    (hS1 : ∀ W, X W → Calls Try.prog 17 #[.slice A1 n1 c1, .slice A2 n2 c2] W fun e w' => e = .returned (.bool true) ∧ X w')
    (hS2 : ∀ W, X W → Calls Try.prog 17 #[.slice A1 n1 c1, .slice A3 n3 c3] W fun e w' => e = .returned (.bool true) ∧ X w') :
    (Code.region id ops true).wp Try.prog (Rg.Only fun a' w' => a' = ⟨#[u0, u1, u2, u3, u4, u5, u6, (.slice (some ⟨bc, oc, none⟩) L cc), u8, u9, u10, u11, (.int .i64 (k : Int)), u13, u14, u15, u16, u17, u18, u19, u20, u21, u22, u23, u24, u25, u26, u27, u28, u29, u30, u31, u32, u33, u34, u35, u36, u37, u38, u39, u40, u41, u42, u43, u44, u45, u46, u47, u48, u49, u50, u51, u52, u53, u54, u55, u56, u57, u58, u59, u60, u61, (.slice (some ⟨bc, oc, none⟩) L cc), (.int .i64 (k : Int)), (.pointer (some ⟨bc, oc + k * 4, none⟩)), (.pointer (some ⟨bc, oc + k * 4 + 1, none⟩)), (.slice A1 n1 c1), (.int .i64 (n1 : Int)), (.slice (some ⟨bc, oc, none⟩) L cc), (.int .i64 (k : Int)), (.pointer (some ⟨bc, oc + k * 4, none⟩)), (.pointer (some ⟨bc, oc + k * 4 + 2, none⟩)), (.slice A2 n2 c2), (.int .i64 (n2 : Int)), (.int .i64 ((n1 : Int) + (n2 : Int))), (.slice (some ⟨bc, oc, none⟩) L cc), (.int .i64 (k : Int)), (.pointer (some ⟨bc, oc + k * 4, none⟩)), (.pointer (some ⟨bc, oc + k * 4 + 3, none⟩)), (.slice A3 n3 c3), (.int .i64 (n3 : Int)), (.int .i64 ((n1 : Int) + (n2 : Int) + (n3 : Int))), (.bool false), (.bool false), (.slice (some ⟨bc, oc, none⟩) L cc), (.int .i64 (k : Int)), (.pointer (some ⟨bc, oc + k * 4, none⟩)), (.pointer (some ⟨bc, oc + k * 4, none⟩)), (.bool true), (.bool true), (.slice (some ⟨bc, oc, none⟩) L cc), (.int .i64 (k : Int)), (.pointer (some ⟨bc, oc + k * 4, none⟩)), (.pointer (some ⟨bc, oc + k * 4 + 1, none⟩)), (.slice A1 n1 c1), (.slice (some ⟨bc, oc, none⟩) L cc), (.int .i64 (k : Int)), (.pointer (some ⟨bc, oc + k * 4, none⟩)), (.pointer (some ⟨bc, oc + k * 4 + 2, none⟩)), (.slice A2 n2 c2), (.bool true), (.bool false), (.bool false), (.slice (some ⟨bc, oc, none⟩) L cc), (.int .i64 (k : Int)), (.pointer (some ⟨bc, oc + k * 4, none⟩)), (.pointer (some ⟨bc, oc + k * 4 + 1, none⟩)), (.slice A1 n1 c1), (.slice (some ⟨bc, oc, none⟩) L cc), (.int .i64 (k : Int)), (.pointer (some ⟨bc, oc + k * 4, none⟩)), (.pointer (some ⟨bc, oc + k * 4 + 3, none⟩)), (.slice A3 n3 c3), (.bool true), (.bool false), (.bool false), (.bool false), (.bool false), u118, u119, u120, u121, u122, u123, u124, u125, u126, u127, u128, u129, u130, u131, u132, u133, u134, u135, u136, u137, u138, u139, u140, u141, u142, u143, u144, u145, u146], []⟩ ∧ X w') ⟨#[u0, u1, u2, u3, u4, u5, u6, (.slice (some ⟨bc, oc, none⟩) L cc), u8, u9, u10, u11, (.int .i64 (k : Int)), u13, u14, u15, u16, u17, u18, u19, u20, u21, u22, u23, u24, u25, u26, u27, u28, u29, u30, u31, u32, u33, u34, u35, u36, u37, u38, u39, u40, u41, u42, u43, u44, u45, u46, u47, u48, u49, u50, u51, u52, u53, u54, u55, u56, u57, u58, u59, u60, u61, u62, u63, u64, u65, u66, u67, u68, u69, u70, u71, u72, u73, u74, u75, u76, u77, u78, u79, u80, u81, u82, u83, u84, u85, u86, u87, u88, u89, u90, u91, u92, u93, u94, u95, u96, u97, u98, u99, u100, u101, u102, u103, u104, u105, u106, u107, u108, u109, u110, u111, u112, u113, u114, u115, u116, u117, u118, u119, u120, u121, u122, u123, u124, u125, u126, u127, u128, u129, u130, u131, u132, u133, u134, u135, u136, u137, u138, u139, u140, u141, u142, u143, u144, u145, u146], []⟩ w := by
  subst hops
  have hNS : Region.noSelect (Rg.opsOf Try.f5 9) = true := by kernel_rfl
  refine wp_region_held_drew (S := X) (by kernel_rfl) hw (fun hHeld => ?_)
  rw [show (Rg.opsOf Try.f5 9).size = 56 by kernel_rfl]
  refine Rg.take (ops := (Rg.opsOf Try.f5 9)) 0 (some 62) ((.slice (some ⟨bc, oc, none⟩) L cc)) hNS (by kernel_rfl) (by kernel_rfl) (by kernel_rfl) (by kernel_rfl) (by kernel_rfl) hHeld (Rg.y_move (x := (Operand.tmp 7)) (Or.inl (by kernel_rfl)) (by kernel_rfl)) ?_
  refine Rg.take (ops := (Rg.opsOf Try.f5 9)) 1 (some 63) ((.int .i64 (k : Int))) hNS (by kernel_rfl) (by kernel_rfl) (by kernel_rfl) (by kernel_rfl) (by kernel_rfl) hHeld (Rg.y_move (x := (Operand.tmp 12)) (Or.inl (by kernel_rfl)) (by kernel_rfl)) ?_
  refine Rg.take (ops := (Rg.opsOf Try.f5 9)) 2 (some 64) ((.pointer (some ⟨bc, oc + k * 4, none⟩))) hNS (by kernel_rfl) (by kernel_rfl) (by kernel_rfl) (by kernel_rfl) (by kernel_rfl) hHeld (Rg.y_at (T := 22) (x := (Operand.tmp 62)) (y := (Operand.tmp 63)) (vx := (.slice (some ⟨bc, oc, none⟩) L cc)) (vy := (.int .i64 (k : Int))) (by kernel_rfl) (by kernel_rfl) (by kernel_rfl) ?_) ?_
  · (intro W hSw; clear hSw hHeld; go_simp)
  refine Rg.take (ops := (Rg.opsOf Try.f5 9)) 3 (some 65) ((.pointer (some ⟨bc, oc + k * 4 + 1, none⟩))) hNS (by kernel_rfl) (by kernel_rfl) (by kernel_rfl) (by kernel_rfl) (by kernel_rfl) hHeld (Rg.y_field (T := 33) (k := 1) (x := (Operand.tmp 64)) (vx := (.pointer (some ⟨bc, oc + k * 4, none⟩))) (by kernel_rfl) (by kernel_rfl) ?_) ?_
  · (intro W hSw; clear hSw hHeld; go_simp)
  refine Rg.take (ops := (Rg.opsOf Try.f5 9)) 4 (some 66) ((.slice A1 n1 c1)) hNS (by kernel_rfl) (by kernel_rfl) (by kernel_rfl) (by kernel_rfl) (by kernel_rfl) hHeld (Rg.y_load (T := 31) (x := (Operand.tmp 65)) (vx := (.pointer (some ⟨bc, oc + k * 4 + 1, none⟩))) (by kernel_rfl) (by kernel_rfl) ?_) ?_
  · (intro W hSw; obtain ⟨s0, s1, s2, s3⟩ := hX _ hSw; clear hSw hHeld; go_simp)
  refine Rg.take (ops := (Rg.opsOf Try.f5 9)) 5 (some 67) ((.int .i64 (n1 : Int))) hNS (by kernel_rfl) (by kernel_rfl) (by kernel_rfl) (by kernel_rfl) (by kernel_rfl) hHeld (Rg.y_len (x := (Operand.tmp 66)) (ats := #[31]) (vx := (.slice A1 n1 c1)) (n := n1) (by kernel_rfl) (by kernel_rfl) ?_) ?_
  · (intro ty w hSw; go_simp)
  refine Rg.take (ops := (Rg.opsOf Try.f5 9)) 6 (some 68) ((.slice (some ⟨bc, oc, none⟩) L cc)) hNS (by kernel_rfl) (by kernel_rfl) (by kernel_rfl) (by kernel_rfl) (by kernel_rfl) hHeld (Rg.y_move (x := (Operand.tmp 7)) (Or.inl (by kernel_rfl)) (by kernel_rfl)) ?_
  refine Rg.take (ops := (Rg.opsOf Try.f5 9)) 7 (some 69) ((.int .i64 (k : Int))) hNS (by kernel_rfl) (by kernel_rfl) (by kernel_rfl) (by kernel_rfl) (by kernel_rfl) hHeld (Rg.y_move (x := (Operand.tmp 12)) (Or.inl (by kernel_rfl)) (by kernel_rfl)) ?_
  refine Rg.take (ops := (Rg.opsOf Try.f5 9)) 8 (some 70) ((.pointer (some ⟨bc, oc + k * 4, none⟩))) hNS (by kernel_rfl) (by kernel_rfl) (by kernel_rfl) (by kernel_rfl) (by kernel_rfl) hHeld (Rg.y_at (T := 22) (x := (Operand.tmp 68)) (y := (Operand.tmp 69)) (vx := (.slice (some ⟨bc, oc, none⟩) L cc)) (vy := (.int .i64 (k : Int))) (by kernel_rfl) (by kernel_rfl) (by kernel_rfl) ?_) ?_
  · (intro W hSw; clear hSw hHeld; go_simp)
  refine Rg.take (ops := (Rg.opsOf Try.f5 9)) 9 (some 71) ((.pointer (some ⟨bc, oc + k * 4 + 2, none⟩))) hNS (by kernel_rfl) (by kernel_rfl) (by kernel_rfl) (by kernel_rfl) (by kernel_rfl) hHeld (Rg.y_field (T := 33) (k := 2) (x := (Operand.tmp 70)) (vx := (.pointer (some ⟨bc, oc + k * 4, none⟩))) (by kernel_rfl) (by kernel_rfl) ?_) ?_
  · (intro W hSw; clear hSw hHeld; go_simp)
  refine Rg.take (ops := (Rg.opsOf Try.f5 9)) 10 (some 72) ((.slice A2 n2 c2)) hNS (by kernel_rfl) (by kernel_rfl) (by kernel_rfl) (by kernel_rfl) (by kernel_rfl) hHeld (Rg.y_load (T := 31) (x := (Operand.tmp 71)) (vx := (.pointer (some ⟨bc, oc + k * 4 + 2, none⟩))) (by kernel_rfl) (by kernel_rfl) ?_) ?_
  · (intro W hSw; obtain ⟨s0, s1, s2, s3⟩ := hX _ hSw; clear hSw hHeld; go_simp)
  refine Rg.take (ops := (Rg.opsOf Try.f5 9)) 11 (some 73) ((.int .i64 (n2 : Int))) hNS (by kernel_rfl) (by kernel_rfl) (by kernel_rfl) (by kernel_rfl) (by kernel_rfl) hHeld (Rg.y_len (x := (Operand.tmp 72)) (ats := #[31]) (vx := (.slice A2 n2 c2)) (n := n2) (by kernel_rfl) (by kernel_rfl) ?_) ?_
  · (intro ty w hSw; go_simp)
  refine Rg.take (ops := (Rg.opsOf Try.f5 9)) 12 (some 74) ((.int .i64 ((n1 : Int) + (n2 : Int)))) hNS (by kernel_rfl) (by kernel_rfl) (by kernel_rfl) (by kernel_rfl) (by kernel_rfl) hHeld (Rg.y_bin (b := BinOp.add) (T := 3) (R' := 3) (x := (Operand.tmp 67)) (y := (Operand.tmp 73)) (vx := (.int .i64 (n1 : Int))) (vy := (.int .i64 (n2 : Int))) (by kernel_rfl) (by kernel_rfl) (by kernel_rfl) ?_) ?_
  · (intro W hSw; clear hSw hHeld; go_simp)
  refine Rg.take (ops := (Rg.opsOf Try.f5 9)) 13 (some 75) ((.slice (some ⟨bc, oc, none⟩) L cc)) hNS (by kernel_rfl) (by kernel_rfl) (by kernel_rfl) (by kernel_rfl) (by kernel_rfl) hHeld (Rg.y_move (x := (Operand.tmp 7)) (Or.inl (by kernel_rfl)) (by kernel_rfl)) ?_
  refine Rg.take (ops := (Rg.opsOf Try.f5 9)) 14 (some 76) ((.int .i64 (k : Int))) hNS (by kernel_rfl) (by kernel_rfl) (by kernel_rfl) (by kernel_rfl) (by kernel_rfl) hHeld (Rg.y_move (x := (Operand.tmp 12)) (Or.inl (by kernel_rfl)) (by kernel_rfl)) ?_
  refine Rg.take (ops := (Rg.opsOf Try.f5 9)) 15 (some 77) ((.pointer (some ⟨bc, oc + k * 4, none⟩))) hNS (by kernel_rfl) (by kernel_rfl) (by kernel_rfl) (by kernel_rfl) (by kernel_rfl) hHeld (Rg.y_at (T := 22) (x := (Operand.tmp 75)) (y := (Operand.tmp 76)) (vx := (.slice (some ⟨bc, oc, none⟩) L cc)) (vy := (.int .i64 (k : Int))) (by kernel_rfl) (by kernel_rfl) (by kernel_rfl) ?_) ?_
  · (intro W hSw; clear hSw hHeld; go_simp)
  refine Rg.take (ops := (Rg.opsOf Try.f5 9)) 16 (some 78) ((.pointer (some ⟨bc, oc + k * 4 + 3, none⟩))) hNS (by kernel_rfl) (by kernel_rfl) (by kernel_rfl) (by kernel_rfl) (by kernel_rfl) hHeld (Rg.y_field (T := 33) (k := 3) (x := (Operand.tmp 77)) (vx := (.pointer (some ⟨bc, oc + k * 4, none⟩))) (by kernel_rfl) (by kernel_rfl) ?_) ?_
  · (intro W hSw; clear hSw hHeld; go_simp)
  refine Rg.take (ops := (Rg.opsOf Try.f5 9)) 17 (some 79) ((.slice A3 n3 c3)) hNS (by kernel_rfl) (by kernel_rfl) (by kernel_rfl) (by kernel_rfl) (by kernel_rfl) hHeld (Rg.y_load (T := 31) (x := (Operand.tmp 78)) (vx := (.pointer (some ⟨bc, oc + k * 4 + 3, none⟩))) (by kernel_rfl) (by kernel_rfl) ?_) ?_
  · (intro W hSw; obtain ⟨s0, s1, s2, s3⟩ := hX _ hSw; clear hSw hHeld; go_simp)
  refine Rg.take (ops := (Rg.opsOf Try.f5 9)) 18 (some 80) ((.int .i64 (n3 : Int))) hNS (by kernel_rfl) (by kernel_rfl) (by kernel_rfl) (by kernel_rfl) (by kernel_rfl) hHeld (Rg.y_len (x := (Operand.tmp 79)) (ats := #[31]) (vx := (.slice A3 n3 c3)) (n := n3) (by kernel_rfl) (by kernel_rfl) ?_) ?_
  · (intro ty w hSw; go_simp)
  refine Rg.take (ops := (Rg.opsOf Try.f5 9)) 19 (some 81) ((.int .i64 ((n1 : Int) + (n2 : Int) + (n3 : Int)))) hNS (by kernel_rfl) (by kernel_rfl) (by kernel_rfl) (by kernel_rfl) (by kernel_rfl) hHeld (Rg.y_bin (b := BinOp.add) (T := 3) (R' := 3) (x := (Operand.tmp 74)) (y := (Operand.tmp 80)) (vx := (.int .i64 ((n1 : Int) + (n2 : Int)))) (vy := (.int .i64 (n3 : Int))) (by kernel_rfl) (by kernel_rfl) (by kernel_rfl) ?_) ?_
  · (intro W hSw; clear hSw hHeld; go_simp)
  refine Rg.take (ops := (Rg.opsOf Try.f5 9)) 20 (some 82) ((.bool false)) hNS (by kernel_rfl) (by kernel_rfl) (by kernel_rfl) (by kernel_rfl) (by kernel_rfl) hHeld (Rg.y_bin (b := BinOp.eql) (T := 3) (R' := 3) (x := (Operand.tmp 81)) (y := (Operand.const (Value.int IntKind.i64 0))) (vx := (.int .i64 ((n1 : Int) + (n2 : Int) + (n3 : Int)))) (vy := (Value.int IntKind.i64 0)) (by kernel_rfl) (by kernel_rfl) (by kernel_rfl) ?_) ?_
  · (intro W hSw; clear hSw hHeld; go_simp)
  refine Rg.take (ops := (Rg.opsOf Try.f5 9)) 21 (some 83) ((.bool false)) hNS (by kernel_rfl) (by kernel_rfl) (by kernel_rfl) (by kernel_rfl) (by kernel_rfl) hHeld (Rg.y_move (x := (Operand.tmp 82)) (Or.inl (by kernel_rfl)) (by kernel_rfl)) ?_
  refine Rg.take (ops := (Rg.opsOf Try.f5 9)) 22 (some 84) ((.slice (some ⟨bc, oc, none⟩) L cc)) hNS (by kernel_rfl) (by kernel_rfl) (by kernel_rfl) (by kernel_rfl) (by kernel_rfl) hHeld (Rg.y_move (x := (Operand.tmp 7)) (Or.inl (by kernel_rfl)) (by kernel_rfl)) ?_
  refine Rg.take (ops := (Rg.opsOf Try.f5 9)) 23 (some 85) ((.int .i64 (k : Int))) hNS (by kernel_rfl) (by kernel_rfl) (by kernel_rfl) (by kernel_rfl) (by kernel_rfl) hHeld (Rg.y_move (x := (Operand.tmp 12)) (Or.inl (by kernel_rfl)) (by kernel_rfl)) ?_
  refine Rg.take (ops := (Rg.opsOf Try.f5 9)) 24 (some 86) ((.pointer (some ⟨bc, oc + k * 4, none⟩))) hNS (by kernel_rfl) (by kernel_rfl) (by kernel_rfl) (by kernel_rfl) (by kernel_rfl) hHeld (Rg.y_at (T := 22) (x := (Operand.tmp 84)) (y := (Operand.tmp 85)) (vx := (.slice (some ⟨bc, oc, none⟩) L cc)) (vy := (.int .i64 (k : Int))) (by kernel_rfl) (by kernel_rfl) (by kernel_rfl) ?_) ?_
  · (intro W hSw; clear hSw hHeld; go_simp)
  refine Rg.take (ops := (Rg.opsOf Try.f5 9)) 25 (some 87) ((.pointer (some ⟨bc, oc + k * 4, none⟩))) hNS (by kernel_rfl) (by kernel_rfl) (by kernel_rfl) (by kernel_rfl) (by kernel_rfl) hHeld (Rg.y_field (T := 33) (k := 0) (x := (Operand.tmp 86)) (vx := (.pointer (some ⟨bc, oc + k * 4, none⟩))) (by kernel_rfl) (by kernel_rfl) ?_) ?_
  · (intro W hSw; clear hSw hHeld; go_simp)
  refine Rg.take (ops := (Rg.opsOf Try.f5 9)) 26 (some 88) ((.bool true)) hNS (by kernel_rfl) (by kernel_rfl) (by kernel_rfl) (by kernel_rfl) (by kernel_rfl) hHeld (Rg.y_load (T := 4) (x := (Operand.tmp 87)) (vx := (.pointer (some ⟨bc, oc + k * 4, none⟩))) (by kernel_rfl) (by kernel_rfl) ?_) ?_
  · (intro W hSw; obtain ⟨s0, s1, s2, s3⟩ := hX _ hSw; clear hSw hHeld; go_simp)
  refine Rg.take (ops := (Rg.opsOf Try.f5 9)) 27 (some 89) ((.bool true)) hNS (by kernel_rfl) (by kernel_rfl) (by kernel_rfl) (by kernel_rfl) (by kernel_rfl) hHeld (Rg.y_move (x := (Operand.tmp 88)) (Or.inl (by kernel_rfl)) (by kernel_rfl)) ?_
  refine Rg.take (ops := (Rg.opsOf Try.f5 9)) 28 (some 90) ((.slice (some ⟨bc, oc, none⟩) L cc)) hNS (by kernel_rfl) (by kernel_rfl) (by kernel_rfl) (by kernel_rfl) (by kernel_rfl) hHeld (Rg.y_move (x := (Operand.tmp 7)) (Or.inl (by kernel_rfl)) (by kernel_rfl)) ?_
  refine Rg.take (ops := (Rg.opsOf Try.f5 9)) 29 (some 91) ((.int .i64 (k : Int))) hNS (by kernel_rfl) (by kernel_rfl) (by kernel_rfl) (by kernel_rfl) (by kernel_rfl) hHeld (Rg.y_move (x := (Operand.tmp 12)) (Or.inl (by kernel_rfl)) (by kernel_rfl)) ?_
  refine Rg.take (ops := (Rg.opsOf Try.f5 9)) 30 (some 92) ((.pointer (some ⟨bc, oc + k * 4, none⟩))) hNS (by kernel_rfl) (by kernel_rfl) (by kernel_rfl) (by kernel_rfl) (by kernel_rfl) hHeld (Rg.y_at (T := 22) (x := (Operand.tmp 90)) (y := (Operand.tmp 91)) (vx := (.slice (some ⟨bc, oc, none⟩) L cc)) (vy := (.int .i64 (k : Int))) (by kernel_rfl) (by kernel_rfl) (by kernel_rfl) ?_) ?_
  · (intro W hSw; clear hSw hHeld; go_simp)
  refine Rg.take (ops := (Rg.opsOf Try.f5 9)) 31 (some 93) ((.pointer (some ⟨bc, oc + k * 4 + 1, none⟩))) hNS (by kernel_rfl) (by kernel_rfl) (by kernel_rfl) (by kernel_rfl) (by kernel_rfl) hHeld (Rg.y_field (T := 33) (k := 1) (x := (Operand.tmp 92)) (vx := (.pointer (some ⟨bc, oc + k * 4, none⟩))) (by kernel_rfl) (by kernel_rfl) ?_) ?_
  · (intro W hSw; clear hSw hHeld; go_simp)
  refine Rg.take (ops := (Rg.opsOf Try.f5 9)) 32 (some 94) ((.slice A1 n1 c1)) hNS (by kernel_rfl) (by kernel_rfl) (by kernel_rfl) (by kernel_rfl) (by kernel_rfl) hHeld (Rg.y_load (T := 31) (x := (Operand.tmp 93)) (vx := (.pointer (some ⟨bc, oc + k * 4 + 1, none⟩))) (by kernel_rfl) (by kernel_rfl) ?_) ?_
  · (intro W hSw; obtain ⟨s0, s1, s2, s3⟩ := hX _ hSw; clear hSw hHeld; go_simp)
  refine Rg.take (ops := (Rg.opsOf Try.f5 9)) 33 (some 95) ((.slice (some ⟨bc, oc, none⟩) L cc)) hNS (by kernel_rfl) (by kernel_rfl) (by kernel_rfl) (by kernel_rfl) (by kernel_rfl) hHeld (Rg.y_move (x := (Operand.tmp 7)) (Or.inl (by kernel_rfl)) (by kernel_rfl)) ?_
  refine Rg.take (ops := (Rg.opsOf Try.f5 9)) 34 (some 96) ((.int .i64 (k : Int))) hNS (by kernel_rfl) (by kernel_rfl) (by kernel_rfl) (by kernel_rfl) (by kernel_rfl) hHeld (Rg.y_move (x := (Operand.tmp 12)) (Or.inl (by kernel_rfl)) (by kernel_rfl)) ?_
  refine Rg.take (ops := (Rg.opsOf Try.f5 9)) 35 (some 97) ((.pointer (some ⟨bc, oc + k * 4, none⟩))) hNS (by kernel_rfl) (by kernel_rfl) (by kernel_rfl) (by kernel_rfl) (by kernel_rfl) hHeld (Rg.y_at (T := 22) (x := (Operand.tmp 95)) (y := (Operand.tmp 96)) (vx := (.slice (some ⟨bc, oc, none⟩) L cc)) (vy := (.int .i64 (k : Int))) (by kernel_rfl) (by kernel_rfl) (by kernel_rfl) ?_) ?_
  · (intro W hSw; clear hSw hHeld; go_simp)
  refine Rg.take (ops := (Rg.opsOf Try.f5 9)) 36 (some 98) ((.pointer (some ⟨bc, oc + k * 4 + 2, none⟩))) hNS (by kernel_rfl) (by kernel_rfl) (by kernel_rfl) (by kernel_rfl) (by kernel_rfl) hHeld (Rg.y_field (T := 33) (k := 2) (x := (Operand.tmp 97)) (vx := (.pointer (some ⟨bc, oc + k * 4, none⟩))) (by kernel_rfl) (by kernel_rfl) ?_) ?_
  · (intro W hSw; clear hSw hHeld; go_simp)
  refine Rg.take (ops := (Rg.opsOf Try.f5 9)) 37 (some 99) ((.slice A2 n2 c2)) hNS (by kernel_rfl) (by kernel_rfl) (by kernel_rfl) (by kernel_rfl) (by kernel_rfl) hHeld (Rg.y_load (T := 31) (x := (Operand.tmp 98)) (vx := (.pointer (some ⟨bc, oc + k * 4 + 2, none⟩))) (by kernel_rfl) (by kernel_rfl) ?_) ?_
  · (intro W hSw; obtain ⟨s0, s1, s2, s3⟩ := hX _ hSw; clear hSw hHeld; go_simp)
  refine Rg.call (ops := (Rg.opsOf Try.f5 9)) (fn := Try.f17) (xs := #[Operand.tmp 94, Operand.tmp 99]) (ats := #[31, 31]) 38 (some 100) 17 #[(.slice A1 n1 c1), (.slice A2 n2 c2)] (by kernel_rfl) (by kernel_rfl) (by kernel_rfl) (by kernel_rfl) (by kernel_rfl) Try.func17 (by kernel_rfl) (by kernel_rfl) (by kernel_rfl) ?_
  refine (hS1 _ hHeld).mono ?_
  rintro e w5 ⟨rfl, h5⟩
  refine ⟨_, rfl, h5, fun hHeld => ?_⟩
  refine Rg.take (ops := (Rg.opsOf Try.f5 9)) 39 (some 101) ((.bool false)) hNS (by kernel_rfl) (by kernel_rfl) (by kernel_rfl) (by kernel_rfl) (by kernel_rfl) hHeld (Rg.y_un (b := UnOp.not) (T := 4) (x := (Operand.tmp 100)) (vx := (.bool true)) (by kernel_rfl) (by kernel_rfl) ?_) ?_
  · (intro W hSw; clear hSw hHeld; go_simp)
  refine Rg.take (ops := (Rg.opsOf Try.f5 9)) 40 (some 102) ((.bool false)) hNS (by kernel_rfl) (by kernel_rfl) (by kernel_rfl) (by kernel_rfl) (by kernel_rfl) hHeld (Rg.y_move (x := (Operand.tmp 101)) (Or.inl (by kernel_rfl)) (by kernel_rfl)) ?_
  refine Rg.take (ops := (Rg.opsOf Try.f5 9)) 41 (some 103) ((.slice (some ⟨bc, oc, none⟩) L cc)) hNS (by kernel_rfl) (by kernel_rfl) (by kernel_rfl) (by kernel_rfl) (by kernel_rfl) hHeld (Rg.y_move (x := (Operand.tmp 7)) (Or.inl (by kernel_rfl)) (by kernel_rfl)) ?_
  refine Rg.take (ops := (Rg.opsOf Try.f5 9)) 42 (some 104) ((.int .i64 (k : Int))) hNS (by kernel_rfl) (by kernel_rfl) (by kernel_rfl) (by kernel_rfl) (by kernel_rfl) hHeld (Rg.y_move (x := (Operand.tmp 12)) (Or.inl (by kernel_rfl)) (by kernel_rfl)) ?_
  refine Rg.take (ops := (Rg.opsOf Try.f5 9)) 43 (some 105) ((.pointer (some ⟨bc, oc + k * 4, none⟩))) hNS (by kernel_rfl) (by kernel_rfl) (by kernel_rfl) (by kernel_rfl) (by kernel_rfl) hHeld (Rg.y_at (T := 22) (x := (Operand.tmp 103)) (y := (Operand.tmp 104)) (vx := (.slice (some ⟨bc, oc, none⟩) L cc)) (vy := (.int .i64 (k : Int))) (by kernel_rfl) (by kernel_rfl) (by kernel_rfl) ?_) ?_
  · (intro W hSw; clear hSw hHeld; go_simp)
  refine Rg.take (ops := (Rg.opsOf Try.f5 9)) 44 (some 106) ((.pointer (some ⟨bc, oc + k * 4 + 1, none⟩))) hNS (by kernel_rfl) (by kernel_rfl) (by kernel_rfl) (by kernel_rfl) (by kernel_rfl) hHeld (Rg.y_field (T := 33) (k := 1) (x := (Operand.tmp 105)) (vx := (.pointer (some ⟨bc, oc + k * 4, none⟩))) (by kernel_rfl) (by kernel_rfl) ?_) ?_
  · (intro W hSw; clear hSw hHeld; go_simp)
  refine Rg.take (ops := (Rg.opsOf Try.f5 9)) 45 (some 107) ((.slice A1 n1 c1)) hNS (by kernel_rfl) (by kernel_rfl) (by kernel_rfl) (by kernel_rfl) (by kernel_rfl) hHeld (Rg.y_load (T := 31) (x := (Operand.tmp 106)) (vx := (.pointer (some ⟨bc, oc + k * 4 + 1, none⟩))) (by kernel_rfl) (by kernel_rfl) ?_) ?_
  · (intro W hSw; obtain ⟨s0, s1, s2, s3⟩ := hX _ hSw; clear hSw hHeld; go_simp)
  refine Rg.take (ops := (Rg.opsOf Try.f5 9)) 46 (some 108) ((.slice (some ⟨bc, oc, none⟩) L cc)) hNS (by kernel_rfl) (by kernel_rfl) (by kernel_rfl) (by kernel_rfl) (by kernel_rfl) hHeld (Rg.y_move (x := (Operand.tmp 7)) (Or.inl (by kernel_rfl)) (by kernel_rfl)) ?_
  refine Rg.take (ops := (Rg.opsOf Try.f5 9)) 47 (some 109) ((.int .i64 (k : Int))) hNS (by kernel_rfl) (by kernel_rfl) (by kernel_rfl) (by kernel_rfl) (by kernel_rfl) hHeld (Rg.y_move (x := (Operand.tmp 12)) (Or.inl (by kernel_rfl)) (by kernel_rfl)) ?_
  refine Rg.take (ops := (Rg.opsOf Try.f5 9)) 48 (some 110) ((.pointer (some ⟨bc, oc + k * 4, none⟩))) hNS (by kernel_rfl) (by kernel_rfl) (by kernel_rfl) (by kernel_rfl) (by kernel_rfl) hHeld (Rg.y_at (T := 22) (x := (Operand.tmp 108)) (y := (Operand.tmp 109)) (vx := (.slice (some ⟨bc, oc, none⟩) L cc)) (vy := (.int .i64 (k : Int))) (by kernel_rfl) (by kernel_rfl) (by kernel_rfl) ?_) ?_
  · (intro W hSw; clear hSw hHeld; go_simp)
  refine Rg.take (ops := (Rg.opsOf Try.f5 9)) 49 (some 111) ((.pointer (some ⟨bc, oc + k * 4 + 3, none⟩))) hNS (by kernel_rfl) (by kernel_rfl) (by kernel_rfl) (by kernel_rfl) (by kernel_rfl) hHeld (Rg.y_field (T := 33) (k := 3) (x := (Operand.tmp 110)) (vx := (.pointer (some ⟨bc, oc + k * 4, none⟩))) (by kernel_rfl) (by kernel_rfl) ?_) ?_
  · (intro W hSw; clear hSw hHeld; go_simp)
  refine Rg.take (ops := (Rg.opsOf Try.f5 9)) 50 (some 112) ((.slice A3 n3 c3)) hNS (by kernel_rfl) (by kernel_rfl) (by kernel_rfl) (by kernel_rfl) (by kernel_rfl) hHeld (Rg.y_load (T := 31) (x := (Operand.tmp 111)) (vx := (.pointer (some ⟨bc, oc + k * 4 + 3, none⟩))) (by kernel_rfl) (by kernel_rfl) ?_) ?_
  · (intro W hSw; obtain ⟨s0, s1, s2, s3⟩ := hX _ hSw; clear hSw hHeld; go_simp)
  refine Rg.call (ops := (Rg.opsOf Try.f5 9)) (fn := Try.f17) (xs := #[Operand.tmp 107, Operand.tmp 112]) (ats := #[31, 31]) 51 (some 113) 17 #[(.slice A1 n1 c1), (.slice A3 n3 c3)] (by kernel_rfl) (by kernel_rfl) (by kernel_rfl) (by kernel_rfl) (by kernel_rfl) Try.func17 (by kernel_rfl) (by kernel_rfl) (by kernel_rfl) ?_
  refine (hS2 _ hHeld).mono ?_
  rintro e w6 ⟨rfl, h6⟩
  refine ⟨_, rfl, h6, fun hHeld => ?_⟩
  refine Rg.take (ops := (Rg.opsOf Try.f5 9)) 52 (some 114) ((.bool false)) hNS (by kernel_rfl) (by kernel_rfl) (by kernel_rfl) (by kernel_rfl) (by kernel_rfl) hHeld (Rg.y_un (b := UnOp.not) (T := 4) (x := (Operand.tmp 113)) (vx := (.bool true)) (by kernel_rfl) (by kernel_rfl) ?_) ?_
  · (intro W hSw; clear hSw hHeld; go_simp)
  refine Rg.take (ops := (Rg.opsOf Try.f5 9)) 53 (some 115) ((.bool false)) hNS (by kernel_rfl) (by kernel_rfl) (by kernel_rfl) (by kernel_rfl) (by kernel_rfl) hHeld (Rg.y_pick (c := (Operand.tmp 102)) (x := (Operand.const (Value.bool true))) (y := (Operand.tmp 114)) (b := false) (by kernel_rfl) (by kernel_rfl) (by kernel_rfl)) ?_
  refine Rg.take (ops := (Rg.opsOf Try.f5 9)) 54 (some 116) ((.bool false)) hNS (by kernel_rfl) (by kernel_rfl) (by kernel_rfl) (by kernel_rfl) (by kernel_rfl) hHeld (Rg.y_pick (c := (Operand.tmp 89)) (x := (Operand.tmp 115)) (y := (Operand.const (Value.bool false))) (b := true) (by kernel_rfl) (by kernel_rfl) (by kernel_rfl)) ?_
  refine Rg.take (ops := (Rg.opsOf Try.f5 9)) 55 (some 117) ((.bool false)) hNS (by kernel_rfl) (by kernel_rfl) (by kernel_rfl) (by kernel_rfl) (by kernel_rfl) hHeld (Rg.y_pick (c := (Operand.tmp 83)) (x := (Operand.const (Value.bool true))) (y := (Operand.tmp 116)) (b := false) (by kernel_rfl) (by kernel_rfl) (by kernel_rfl)) ?_
  refine Rg.done (ops := (Rg.opsOf Try.f5 9)) (by kernel_rfl) ?_
  exact ⟨by kernel_rfl, hHeld⟩
set_option maxRecDepth 100000 in
set_option maxHeartbeats 4000000 in
theorem partsGap (ops : Array Oper) (hops : ops = (Rg.opsOf Try.f5 9)) (id : Nat) (bc oc k L cc n1 n2 n3 c1 c2 c3 : Nat) (A1 A2 A3 : Option Addr) {u0 u1 u2 u3 u4 u5 u6 u8 u9 u10 u11 u13 u14 u15 u16 u17 u18 u19 u20 u21 u22 u23 u24 u25 u26 u27 u28 u29 u30 u31 u32 u33 u34 u35 u36 u37 u38 u39 u40 u41 u42 u43 u44 u45 u46 u47 u48 u49 u50 u51 u52 u53 u54 u55 u56 u57 u58 u59 u60 u61 u62 u63 u64 u65 u66 u67 u68 u69 u70 u71 u72 u73 u74 u75 u76 u77 u78 u79 u80 u81 u82 u83 u84 u85 u86 u87 u88 u89 u90 u91 u92 u93 u94 u95 u96 u97 u98 u99 u100 u101 u102 u103 u104 u105 u106 u107 u108 u109 u110 u111 u112 u113 u114 u115 u116 u117 u118 u119 u120 u121 u122 u123 u124 u125 u126 u127 u128 u129 u130 u131 u132 u133 u134 u135 u136 u137 u138 u139 u140 u141 u142 u143 u144 u145 u146 : Value} (w : World) (X : World → Prop) (hk : (k : Int) < (L : Int))
    (hX : ∀ W, X W → Chk bc (oc + k * 4) false (.slice A1 n1 c1) (.slice A2 n2 c2) (.slice A3 n3 c3) W) (hw : X w.drew) (p1 : IntKind.i64.wrap ((n1 : Int) + (n2 : Int)) = (n1 : Int) + (n2 : Int)) (p2 : IntKind.i64.wrap ((n1 : Int) + (n2 : Int) + (n3 : Int)) = (n1 : Int) + (n2 : Int) + (n3 : Int)) (p3 : (((n1 : Int) + (n2 : Int) + (n3 : Int)) == 0) = false) :
    (Code.region id ops true).wp Try.prog (Rg.Only fun a' w' => a' = ⟨#[u0, u1, u2, u3, u4, u5, u6, (.slice (some ⟨bc, oc, none⟩) L cc), u8, u9, u10, u11, (.int .i64 (k : Int)), u13, u14, u15, u16, u17, u18, u19, u20, u21, u22, u23, u24, u25, u26, u27, u28, u29, u30, u31, u32, u33, u34, u35, u36, u37, u38, u39, u40, u41, u42, u43, u44, u45, u46, u47, u48, u49, u50, u51, u52, u53, u54, u55, u56, u57, u58, u59, u60, u61, (.slice (some ⟨bc, oc, none⟩) L cc), (.int .i64 (k : Int)), (.pointer (some ⟨bc, oc + k * 4, none⟩)), (.pointer (some ⟨bc, oc + k * 4 + 1, none⟩)), (.slice A1 n1 c1), (.int .i64 (n1 : Int)), (.slice (some ⟨bc, oc, none⟩) L cc), (.int .i64 (k : Int)), (.pointer (some ⟨bc, oc + k * 4, none⟩)), (.pointer (some ⟨bc, oc + k * 4 + 2, none⟩)), (.slice A2 n2 c2), (.int .i64 (n2 : Int)), (.int .i64 ((n1 : Int) + (n2 : Int))), (.slice (some ⟨bc, oc, none⟩) L cc), (.int .i64 (k : Int)), (.pointer (some ⟨bc, oc + k * 4, none⟩)), (.pointer (some ⟨bc, oc + k * 4 + 3, none⟩)), (.slice A3 n3 c3), (.int .i64 (n3 : Int)), (.int .i64 ((n1 : Int) + (n2 : Int) + (n3 : Int))), (.bool false), (.bool false), (.slice (some ⟨bc, oc, none⟩) L cc), (.int .i64 (k : Int)), (.pointer (some ⟨bc, oc + k * 4, none⟩)), (.pointer (some ⟨bc, oc + k * 4, none⟩)), (.bool false), (.bool false), undef, undef, undef, undef, undef, undef, undef, undef, undef, undef, undef, undef, undef, undef, undef, undef, undef, undef, undef, undef, undef, undef, undef, undef, undef, undef, (Value.bool false), (Value.bool false), u118, u119, u120, u121, u122, u123, u124, u125, u126, u127, u128, u129, u130, u131, u132, u133, u134, u135, u136, u137, u138, u139, u140, u141, u142, u143, u144, u145, u146], []⟩ ∧ X w') ⟨#[u0, u1, u2, u3, u4, u5, u6, (.slice (some ⟨bc, oc, none⟩) L cc), u8, u9, u10, u11, (.int .i64 (k : Int)), u13, u14, u15, u16, u17, u18, u19, u20, u21, u22, u23, u24, u25, u26, u27, u28, u29, u30, u31, u32, u33, u34, u35, u36, u37, u38, u39, u40, u41, u42, u43, u44, u45, u46, u47, u48, u49, u50, u51, u52, u53, u54, u55, u56, u57, u58, u59, u60, u61, u62, u63, u64, u65, u66, u67, u68, u69, u70, u71, u72, u73, u74, u75, u76, u77, u78, u79, u80, u81, u82, u83, u84, u85, u86, u87, u88, u89, u90, u91, u92, u93, u94, u95, u96, u97, u98, u99, u100, u101, u102, u103, u104, u105, u106, u107, u108, u109, u110, u111, u112, u113, u114, u115, u116, u117, u118, u119, u120, u121, u122, u123, u124, u125, u126, u127, u128, u129, u130, u131, u132, u133, u134, u135, u136, u137, u138, u139, u140, u141, u142, u143, u144, u145, u146], []⟩ w := by
  subst hops
  have hNS : Region.noSelect (Rg.opsOf Try.f5 9) = true := by kernel_rfl
  refine wp_region_held_drew (S := X) (by kernel_rfl) hw (fun hHeld => ?_)
  rw [show (Rg.opsOf Try.f5 9).size = 56 by kernel_rfl]
  refine Rg.take (ops := (Rg.opsOf Try.f5 9)) 0 (some 62) ((.slice (some ⟨bc, oc, none⟩) L cc)) hNS (by kernel_rfl) (by kernel_rfl) (by kernel_rfl) (by kernel_rfl) (by kernel_rfl) hHeld (Rg.y_move (x := (Operand.tmp 7)) (Or.inl (by kernel_rfl)) (by kernel_rfl)) ?_
  refine Rg.take (ops := (Rg.opsOf Try.f5 9)) 1 (some 63) ((.int .i64 (k : Int))) hNS (by kernel_rfl) (by kernel_rfl) (by kernel_rfl) (by kernel_rfl) (by kernel_rfl) hHeld (Rg.y_move (x := (Operand.tmp 12)) (Or.inl (by kernel_rfl)) (by kernel_rfl)) ?_
  refine Rg.take (ops := (Rg.opsOf Try.f5 9)) 2 (some 64) ((.pointer (some ⟨bc, oc + k * 4, none⟩))) hNS (by kernel_rfl) (by kernel_rfl) (by kernel_rfl) (by kernel_rfl) (by kernel_rfl) hHeld (Rg.y_at (T := 22) (x := (Operand.tmp 62)) (y := (Operand.tmp 63)) (vx := (.slice (some ⟨bc, oc, none⟩) L cc)) (vy := (.int .i64 (k : Int))) (by kernel_rfl) (by kernel_rfl) (by kernel_rfl) ?_) ?_
  · (intro W hSw; clear hSw hHeld; go_simp)
  refine Rg.take (ops := (Rg.opsOf Try.f5 9)) 3 (some 65) ((.pointer (some ⟨bc, oc + k * 4 + 1, none⟩))) hNS (by kernel_rfl) (by kernel_rfl) (by kernel_rfl) (by kernel_rfl) (by kernel_rfl) hHeld (Rg.y_field (T := 33) (k := 1) (x := (Operand.tmp 64)) (vx := (.pointer (some ⟨bc, oc + k * 4, none⟩))) (by kernel_rfl) (by kernel_rfl) ?_) ?_
  · (intro W hSw; clear hSw hHeld; go_simp)
  refine Rg.take (ops := (Rg.opsOf Try.f5 9)) 4 (some 66) ((.slice A1 n1 c1)) hNS (by kernel_rfl) (by kernel_rfl) (by kernel_rfl) (by kernel_rfl) (by kernel_rfl) hHeld (Rg.y_load (T := 31) (x := (Operand.tmp 65)) (vx := (.pointer (some ⟨bc, oc + k * 4 + 1, none⟩))) (by kernel_rfl) (by kernel_rfl) ?_) ?_
  · (intro W hSw; obtain ⟨s0, s1, s2, s3⟩ := hX _ hSw; clear hSw hHeld; go_simp)
  refine Rg.take (ops := (Rg.opsOf Try.f5 9)) 5 (some 67) ((.int .i64 (n1 : Int))) hNS (by kernel_rfl) (by kernel_rfl) (by kernel_rfl) (by kernel_rfl) (by kernel_rfl) hHeld (Rg.y_len (x := (Operand.tmp 66)) (ats := #[31]) (vx := (.slice A1 n1 c1)) (n := n1) (by kernel_rfl) (by kernel_rfl) ?_) ?_
  · (intro ty w hSw; go_simp)
  refine Rg.take (ops := (Rg.opsOf Try.f5 9)) 6 (some 68) ((.slice (some ⟨bc, oc, none⟩) L cc)) hNS (by kernel_rfl) (by kernel_rfl) (by kernel_rfl) (by kernel_rfl) (by kernel_rfl) hHeld (Rg.y_move (x := (Operand.tmp 7)) (Or.inl (by kernel_rfl)) (by kernel_rfl)) ?_
  refine Rg.take (ops := (Rg.opsOf Try.f5 9)) 7 (some 69) ((.int .i64 (k : Int))) hNS (by kernel_rfl) (by kernel_rfl) (by kernel_rfl) (by kernel_rfl) (by kernel_rfl) hHeld (Rg.y_move (x := (Operand.tmp 12)) (Or.inl (by kernel_rfl)) (by kernel_rfl)) ?_
  refine Rg.take (ops := (Rg.opsOf Try.f5 9)) 8 (some 70) ((.pointer (some ⟨bc, oc + k * 4, none⟩))) hNS (by kernel_rfl) (by kernel_rfl) (by kernel_rfl) (by kernel_rfl) (by kernel_rfl) hHeld (Rg.y_at (T := 22) (x := (Operand.tmp 68)) (y := (Operand.tmp 69)) (vx := (.slice (some ⟨bc, oc, none⟩) L cc)) (vy := (.int .i64 (k : Int))) (by kernel_rfl) (by kernel_rfl) (by kernel_rfl) ?_) ?_
  · (intro W hSw; clear hSw hHeld; go_simp)
  refine Rg.take (ops := (Rg.opsOf Try.f5 9)) 9 (some 71) ((.pointer (some ⟨bc, oc + k * 4 + 2, none⟩))) hNS (by kernel_rfl) (by kernel_rfl) (by kernel_rfl) (by kernel_rfl) (by kernel_rfl) hHeld (Rg.y_field (T := 33) (k := 2) (x := (Operand.tmp 70)) (vx := (.pointer (some ⟨bc, oc + k * 4, none⟩))) (by kernel_rfl) (by kernel_rfl) ?_) ?_
  · (intro W hSw; clear hSw hHeld; go_simp)
  refine Rg.take (ops := (Rg.opsOf Try.f5 9)) 10 (some 72) ((.slice A2 n2 c2)) hNS (by kernel_rfl) (by kernel_rfl) (by kernel_rfl) (by kernel_rfl) (by kernel_rfl) hHeld (Rg.y_load (T := 31) (x := (Operand.tmp 71)) (vx := (.pointer (some ⟨bc, oc + k * 4 + 2, none⟩))) (by kernel_rfl) (by kernel_rfl) ?_) ?_
  · (intro W hSw; obtain ⟨s0, s1, s2, s3⟩ := hX _ hSw; clear hSw hHeld; go_simp)
  refine Rg.take (ops := (Rg.opsOf Try.f5 9)) 11 (some 73) ((.int .i64 (n2 : Int))) hNS (by kernel_rfl) (by kernel_rfl) (by kernel_rfl) (by kernel_rfl) (by kernel_rfl) hHeld (Rg.y_len (x := (Operand.tmp 72)) (ats := #[31]) (vx := (.slice A2 n2 c2)) (n := n2) (by kernel_rfl) (by kernel_rfl) ?_) ?_
  · (intro ty w hSw; go_simp)
  refine Rg.take (ops := (Rg.opsOf Try.f5 9)) 12 (some 74) ((.int .i64 ((n1 : Int) + (n2 : Int)))) hNS (by kernel_rfl) (by kernel_rfl) (by kernel_rfl) (by kernel_rfl) (by kernel_rfl) hHeld (Rg.y_bin (b := BinOp.add) (T := 3) (R' := 3) (x := (Operand.tmp 67)) (y := (Operand.tmp 73)) (vx := (.int .i64 (n1 : Int))) (vy := (.int .i64 (n2 : Int))) (by kernel_rfl) (by kernel_rfl) (by kernel_rfl) ?_) ?_
  · (intro W hSw; clear hSw hHeld; go_simp)
  refine Rg.take (ops := (Rg.opsOf Try.f5 9)) 13 (some 75) ((.slice (some ⟨bc, oc, none⟩) L cc)) hNS (by kernel_rfl) (by kernel_rfl) (by kernel_rfl) (by kernel_rfl) (by kernel_rfl) hHeld (Rg.y_move (x := (Operand.tmp 7)) (Or.inl (by kernel_rfl)) (by kernel_rfl)) ?_
  refine Rg.take (ops := (Rg.opsOf Try.f5 9)) 14 (some 76) ((.int .i64 (k : Int))) hNS (by kernel_rfl) (by kernel_rfl) (by kernel_rfl) (by kernel_rfl) (by kernel_rfl) hHeld (Rg.y_move (x := (Operand.tmp 12)) (Or.inl (by kernel_rfl)) (by kernel_rfl)) ?_
  refine Rg.take (ops := (Rg.opsOf Try.f5 9)) 15 (some 77) ((.pointer (some ⟨bc, oc + k * 4, none⟩))) hNS (by kernel_rfl) (by kernel_rfl) (by kernel_rfl) (by kernel_rfl) (by kernel_rfl) hHeld (Rg.y_at (T := 22) (x := (Operand.tmp 75)) (y := (Operand.tmp 76)) (vx := (.slice (some ⟨bc, oc, none⟩) L cc)) (vy := (.int .i64 (k : Int))) (by kernel_rfl) (by kernel_rfl) (by kernel_rfl) ?_) ?_
  · (intro W hSw; clear hSw hHeld; go_simp)
  refine Rg.take (ops := (Rg.opsOf Try.f5 9)) 16 (some 78) ((.pointer (some ⟨bc, oc + k * 4 + 3, none⟩))) hNS (by kernel_rfl) (by kernel_rfl) (by kernel_rfl) (by kernel_rfl) (by kernel_rfl) hHeld (Rg.y_field (T := 33) (k := 3) (x := (Operand.tmp 77)) (vx := (.pointer (some ⟨bc, oc + k * 4, none⟩))) (by kernel_rfl) (by kernel_rfl) ?_) ?_
  · (intro W hSw; clear hSw hHeld; go_simp)
  refine Rg.take (ops := (Rg.opsOf Try.f5 9)) 17 (some 79) ((.slice A3 n3 c3)) hNS (by kernel_rfl) (by kernel_rfl) (by kernel_rfl) (by kernel_rfl) (by kernel_rfl) hHeld (Rg.y_load (T := 31) (x := (Operand.tmp 78)) (vx := (.pointer (some ⟨bc, oc + k * 4 + 3, none⟩))) (by kernel_rfl) (by kernel_rfl) ?_) ?_
  · (intro W hSw; obtain ⟨s0, s1, s2, s3⟩ := hX _ hSw; clear hSw hHeld; go_simp)
  refine Rg.take (ops := (Rg.opsOf Try.f5 9)) 18 (some 80) ((.int .i64 (n3 : Int))) hNS (by kernel_rfl) (by kernel_rfl) (by kernel_rfl) (by kernel_rfl) (by kernel_rfl) hHeld (Rg.y_len (x := (Operand.tmp 79)) (ats := #[31]) (vx := (.slice A3 n3 c3)) (n := n3) (by kernel_rfl) (by kernel_rfl) ?_) ?_
  · (intro ty w hSw; go_simp)
  refine Rg.take (ops := (Rg.opsOf Try.f5 9)) 19 (some 81) ((.int .i64 ((n1 : Int) + (n2 : Int) + (n3 : Int)))) hNS (by kernel_rfl) (by kernel_rfl) (by kernel_rfl) (by kernel_rfl) (by kernel_rfl) hHeld (Rg.y_bin (b := BinOp.add) (T := 3) (R' := 3) (x := (Operand.tmp 74)) (y := (Operand.tmp 80)) (vx := (.int .i64 ((n1 : Int) + (n2 : Int)))) (vy := (.int .i64 (n3 : Int))) (by kernel_rfl) (by kernel_rfl) (by kernel_rfl) ?_) ?_
  · (intro W hSw; clear hSw hHeld; go_simp)
  refine Rg.take (ops := (Rg.opsOf Try.f5 9)) 20 (some 82) ((.bool false)) hNS (by kernel_rfl) (by kernel_rfl) (by kernel_rfl) (by kernel_rfl) (by kernel_rfl) hHeld (Rg.y_bin (b := BinOp.eql) (T := 3) (R' := 3) (x := (Operand.tmp 81)) (y := (Operand.const (Value.int IntKind.i64 0))) (vx := (.int .i64 ((n1 : Int) + (n2 : Int) + (n3 : Int)))) (vy := (Value.int IntKind.i64 0)) (by kernel_rfl) (by kernel_rfl) (by kernel_rfl) ?_) ?_
  · (intro W hSw; clear hSw hHeld; go_simp)
  refine Rg.take (ops := (Rg.opsOf Try.f5 9)) 21 (some 83) ((.bool false)) hNS (by kernel_rfl) (by kernel_rfl) (by kernel_rfl) (by kernel_rfl) (by kernel_rfl) hHeld (Rg.y_move (x := (Operand.tmp 82)) (Or.inl (by kernel_rfl)) (by kernel_rfl)) ?_
  refine Rg.take (ops := (Rg.opsOf Try.f5 9)) 22 (some 84) ((.slice (some ⟨bc, oc, none⟩) L cc)) hNS (by kernel_rfl) (by kernel_rfl) (by kernel_rfl) (by kernel_rfl) (by kernel_rfl) hHeld (Rg.y_move (x := (Operand.tmp 7)) (Or.inl (by kernel_rfl)) (by kernel_rfl)) ?_
  refine Rg.take (ops := (Rg.opsOf Try.f5 9)) 23 (some 85) ((.int .i64 (k : Int))) hNS (by kernel_rfl) (by kernel_rfl) (by kernel_rfl) (by kernel_rfl) (by kernel_rfl) hHeld (Rg.y_move (x := (Operand.tmp 12)) (Or.inl (by kernel_rfl)) (by kernel_rfl)) ?_
  refine Rg.take (ops := (Rg.opsOf Try.f5 9)) 24 (some 86) ((.pointer (some ⟨bc, oc + k * 4, none⟩))) hNS (by kernel_rfl) (by kernel_rfl) (by kernel_rfl) (by kernel_rfl) (by kernel_rfl) hHeld (Rg.y_at (T := 22) (x := (Operand.tmp 84)) (y := (Operand.tmp 85)) (vx := (.slice (some ⟨bc, oc, none⟩) L cc)) (vy := (.int .i64 (k : Int))) (by kernel_rfl) (by kernel_rfl) (by kernel_rfl) ?_) ?_
  · (intro W hSw; clear hSw hHeld; go_simp)
  refine Rg.take (ops := (Rg.opsOf Try.f5 9)) 25 (some 87) ((.pointer (some ⟨bc, oc + k * 4, none⟩))) hNS (by kernel_rfl) (by kernel_rfl) (by kernel_rfl) (by kernel_rfl) (by kernel_rfl) hHeld (Rg.y_field (T := 33) (k := 0) (x := (Operand.tmp 86)) (vx := (.pointer (some ⟨bc, oc + k * 4, none⟩))) (by kernel_rfl) (by kernel_rfl) ?_) ?_
  · (intro W hSw; clear hSw hHeld; go_simp)
  refine Rg.take (ops := (Rg.opsOf Try.f5 9)) 26 (some 88) ((.bool false)) hNS (by kernel_rfl) (by kernel_rfl) (by kernel_rfl) (by kernel_rfl) (by kernel_rfl) hHeld (Rg.y_load (T := 4) (x := (Operand.tmp 87)) (vx := (.pointer (some ⟨bc, oc + k * 4, none⟩))) (by kernel_rfl) (by kernel_rfl) ?_) ?_
  · (intro W hSw; obtain ⟨s0, s1, s2, s3⟩ := hX _ hSw; clear hSw hHeld; go_simp)
  refine Rg.take (ops := (Rg.opsOf Try.f5 9)) 27 (some 89) ((.bool false)) hNS (by kernel_rfl) (by kernel_rfl) (by kernel_rfl) (by kernel_rfl) (by kernel_rfl) hHeld (Rg.y_move (x := (Operand.tmp 88)) (Or.inl (by kernel_rfl)) (by kernel_rfl)) ?_
  refine Rg.skip (ops := (Rg.opsOf Try.f5 9)) 28 (some 90) hNS (by kernel_rfl) (by kernel_rfl) (by kernel_rfl) (by kernel_rfl) (by kernel_rfl) hHeld ?_
  refine Rg.skip (ops := (Rg.opsOf Try.f5 9)) 29 (some 91) hNS (by kernel_rfl) (by kernel_rfl) (by kernel_rfl) (by kernel_rfl) (by kernel_rfl) hHeld ?_
  refine Rg.skip (ops := (Rg.opsOf Try.f5 9)) 30 (some 92) hNS (by kernel_rfl) (by kernel_rfl) (by kernel_rfl) (by kernel_rfl) (by kernel_rfl) hHeld ?_
  refine Rg.skip (ops := (Rg.opsOf Try.f5 9)) 31 (some 93) hNS (by kernel_rfl) (by kernel_rfl) (by kernel_rfl) (by kernel_rfl) (by kernel_rfl) hHeld ?_
  refine Rg.skip (ops := (Rg.opsOf Try.f5 9)) 32 (some 94) hNS (by kernel_rfl) (by kernel_rfl) (by kernel_rfl) (by kernel_rfl) (by kernel_rfl) hHeld ?_
  refine Rg.skip (ops := (Rg.opsOf Try.f5 9)) 33 (some 95) hNS (by kernel_rfl) (by kernel_rfl) (by kernel_rfl) (by kernel_rfl) (by kernel_rfl) hHeld ?_
  refine Rg.skip (ops := (Rg.opsOf Try.f5 9)) 34 (some 96) hNS (by kernel_rfl) (by kernel_rfl) (by kernel_rfl) (by kernel_rfl) (by kernel_rfl) hHeld ?_
  refine Rg.skip (ops := (Rg.opsOf Try.f5 9)) 35 (some 97) hNS (by kernel_rfl) (by kernel_rfl) (by kernel_rfl) (by kernel_rfl) (by kernel_rfl) hHeld ?_
  refine Rg.skip (ops := (Rg.opsOf Try.f5 9)) 36 (some 98) hNS (by kernel_rfl) (by kernel_rfl) (by kernel_rfl) (by kernel_rfl) (by kernel_rfl) hHeld ?_
  refine Rg.skip (ops := (Rg.opsOf Try.f5 9)) 37 (some 99) hNS (by kernel_rfl) (by kernel_rfl) (by kernel_rfl) (by kernel_rfl) (by kernel_rfl) hHeld ?_
  refine Rg.skip (ops := (Rg.opsOf Try.f5 9)) 38 (some 100) hNS (by kernel_rfl) (by kernel_rfl) (by kernel_rfl) (by kernel_rfl) (by kernel_rfl) hHeld ?_
  refine Rg.skip (ops := (Rg.opsOf Try.f5 9)) 39 (some 101) hNS (by kernel_rfl) (by kernel_rfl) (by kernel_rfl) (by kernel_rfl) (by kernel_rfl) hHeld ?_
  refine Rg.skip (ops := (Rg.opsOf Try.f5 9)) 40 (some 102) hNS (by kernel_rfl) (by kernel_rfl) (by kernel_rfl) (by kernel_rfl) (by kernel_rfl) hHeld ?_
  refine Rg.skip (ops := (Rg.opsOf Try.f5 9)) 41 (some 103) hNS (by kernel_rfl) (by kernel_rfl) (by kernel_rfl) (by kernel_rfl) (by kernel_rfl) hHeld ?_
  refine Rg.skip (ops := (Rg.opsOf Try.f5 9)) 42 (some 104) hNS (by kernel_rfl) (by kernel_rfl) (by kernel_rfl) (by kernel_rfl) (by kernel_rfl) hHeld ?_
  refine Rg.skip (ops := (Rg.opsOf Try.f5 9)) 43 (some 105) hNS (by kernel_rfl) (by kernel_rfl) (by kernel_rfl) (by kernel_rfl) (by kernel_rfl) hHeld ?_
  refine Rg.skip (ops := (Rg.opsOf Try.f5 9)) 44 (some 106) hNS (by kernel_rfl) (by kernel_rfl) (by kernel_rfl) (by kernel_rfl) (by kernel_rfl) hHeld ?_
  refine Rg.skip (ops := (Rg.opsOf Try.f5 9)) 45 (some 107) hNS (by kernel_rfl) (by kernel_rfl) (by kernel_rfl) (by kernel_rfl) (by kernel_rfl) hHeld ?_
  refine Rg.skip (ops := (Rg.opsOf Try.f5 9)) 46 (some 108) hNS (by kernel_rfl) (by kernel_rfl) (by kernel_rfl) (by kernel_rfl) (by kernel_rfl) hHeld ?_
  refine Rg.skip (ops := (Rg.opsOf Try.f5 9)) 47 (some 109) hNS (by kernel_rfl) (by kernel_rfl) (by kernel_rfl) (by kernel_rfl) (by kernel_rfl) hHeld ?_
  refine Rg.skip (ops := (Rg.opsOf Try.f5 9)) 48 (some 110) hNS (by kernel_rfl) (by kernel_rfl) (by kernel_rfl) (by kernel_rfl) (by kernel_rfl) hHeld ?_
  refine Rg.skip (ops := (Rg.opsOf Try.f5 9)) 49 (some 111) hNS (by kernel_rfl) (by kernel_rfl) (by kernel_rfl) (by kernel_rfl) (by kernel_rfl) hHeld ?_
  refine Rg.skip (ops := (Rg.opsOf Try.f5 9)) 50 (some 112) hNS (by kernel_rfl) (by kernel_rfl) (by kernel_rfl) (by kernel_rfl) (by kernel_rfl) hHeld ?_
  refine Rg.skip (ops := (Rg.opsOf Try.f5 9)) 51 (some 113) hNS (by kernel_rfl) (by kernel_rfl) (by kernel_rfl) (by kernel_rfl) (by kernel_rfl) hHeld ?_
  refine Rg.skip (ops := (Rg.opsOf Try.f5 9)) 52 (some 114) hNS (by kernel_rfl) (by kernel_rfl) (by kernel_rfl) (by kernel_rfl) (by kernel_rfl) hHeld ?_
  refine Rg.skip (ops := (Rg.opsOf Try.f5 9)) 53 (some 115) hNS (by kernel_rfl) (by kernel_rfl) (by kernel_rfl) (by kernel_rfl) (by kernel_rfl) hHeld ?_
  refine Rg.take (ops := (Rg.opsOf Try.f5 9)) 54 (some 116) ((Value.bool false)) hNS (by kernel_rfl) (by kernel_rfl) (by kernel_rfl) (by kernel_rfl) (by kernel_rfl) hHeld (Rg.y_pick (c := (Operand.tmp 89)) (x := (Operand.tmp 115)) (y := (Operand.const (Value.bool false))) (b := false) (by kernel_rfl) (by kernel_rfl) (by kernel_rfl)) ?_
  refine Rg.take (ops := (Rg.opsOf Try.f5 9)) 55 (some 117) ((Value.bool false)) hNS (by kernel_rfl) (by kernel_rfl) (by kernel_rfl) (by kernel_rfl) (by kernel_rfl) hHeld (Rg.y_pick (c := (Operand.tmp 83)) (x := (Operand.const (Value.bool true))) (y := (Operand.tmp 116)) (b := false) (by kernel_rfl) (by kernel_rfl) (by kernel_rfl)) ?_
  refine Rg.done (ops := (Rg.opsOf Try.f5 9)) (by kernel_rfl) ?_
  exact ⟨by kernel_rfl, hHeld⟩
set_option maxRecDepth 100000 in
set_option maxHeartbeats 4000000 in
theorem partsFirst (ops : Array Oper) (hops : ops = (Rg.opsOf Try.f5 11)) (id : Nat) (bc oc k kp L cc : Nat) (st : Bool) {u0 u1 u2 u3 u4 u5 u6 u8 u9 u10 u11 u13 u14 u15 u16 u17 u18 u19 u20 u21 u22 u23 u24 u25 u26 u27 u28 u29 u30 u31 u32 u33 u34 u35 u36 u37 u38 u39 u40 u41 u42 u43 u44 u45 u46 u47 u48 u49 u50 u51 u52 u53 u54 u55 u56 u57 u58 u59 u60 u61 u62 u63 u64 u65 u66 u67 u68 u69 u70 u71 u72 u73 u74 u75 u76 u77 u78 u79 u80 u81 u82 u83 u84 u85 u86 u87 u88 u89 u90 u91 u92 u93 u94 u95 u96 u97 u98 u99 u100 u101 u102 u103 u104 u105 u106 u107 u108 u109 u110 u111 u112 u113 u114 u115 u116 u117 u118 u119 u120 u121 u122 u123 u124 u125 u126 u127 u128 u129 u130 u131 u132 u133 u134 u135 u136 u137 u138 u139 u140 u141 u142 u143 u144 u145 u146 : Value} (w : World) (X : World → Prop) (hk : (k : Int) < (L : Int)) (hw : X w.drew) (g0 : ¬ (0 : Int) < (k : Int)) :
    (Code.region id ops true).wp Try.prog (Rg.Only fun a' w' => a' = ⟨#[u0, u1, u2, u3, u4, u5, u6, (.slice (some ⟨bc, oc, none⟩) L cc), u8, u9, u10, u11, (.int .i64 (k : Int)), u13, u14, u15, u16, u17, u18, u19, u20, u21, u22, u23, u24, u25, u26, u27, u28, u29, u30, u31, u32, u33, u34, u35, u36, u37, u38, u39, u40, u41, u42, u43, u44, u45, u46, u47, u48, u49, u50, u51, u52, u53, u54, u55, u56, u57, u58, u59, u60, u61, u62, u63, u64, u65, u66, u67, u68, u69, u70, u71, u72, u73, u74, u75, u76, u77, u78, u79, u80, u81, u82, u83, u84, u85, u86, u87, u88, u89, u90, u91, u92, u93, u94, u95, u96, u97, u98, u99, u100, u101, u102, u103, u104, u105, u106, u107, u108, u109, u110, u111, u112, u113, u114, u115, u116, u117, (.int .i64 (k : Int)), (.bool false), (.bool false), undef, undef, undef, undef, undef, undef, undef, undef, undef, undef, undef, undef, (Value.bool false), u134, u135, u136, u137, u138, u139, u140, u141, u142, u143, u144, u145, u146], []⟩ ∧ X w') ⟨#[u0, u1, u2, u3, u4, u5, u6, (.slice (some ⟨bc, oc, none⟩) L cc), u8, u9, u10, u11, (.int .i64 (k : Int)), u13, u14, u15, u16, u17, u18, u19, u20, u21, u22, u23, u24, u25, u26, u27, u28, u29, u30, u31, u32, u33, u34, u35, u36, u37, u38, u39, u40, u41, u42, u43, u44, u45, u46, u47, u48, u49, u50, u51, u52, u53, u54, u55, u56, u57, u58, u59, u60, u61, u62, u63, u64, u65, u66, u67, u68, u69, u70, u71, u72, u73, u74, u75, u76, u77, u78, u79, u80, u81, u82, u83, u84, u85, u86, u87, u88, u89, u90, u91, u92, u93, u94, u95, u96, u97, u98, u99, u100, u101, u102, u103, u104, u105, u106, u107, u108, u109, u110, u111, u112, u113, u114, u115, u116, u117, u118, u119, u120, u121, u122, u123, u124, u125, u126, u127, u128, u129, u130, u131, u132, u133, u134, u135, u136, u137, u138, u139, u140, u141, u142, u143, u144, u145, u146], []⟩ w := by
  subst hops
  have hNS : Region.noSelect (Rg.opsOf Try.f5 11) = true := by kernel_rfl
  refine wp_region_held_drew (S := X) (by kernel_rfl) hw (fun hHeld => ?_)
  rw [show (Rg.opsOf Try.f5 11).size = 16 by kernel_rfl]
  refine Rg.take (ops := (Rg.opsOf Try.f5 11)) 0 (some 118) ((.int .i64 (k : Int))) hNS (by kernel_rfl) (by kernel_rfl) (by kernel_rfl) (by kernel_rfl) (by kernel_rfl) hHeld (Rg.y_move (x := (Operand.tmp 12)) (Or.inl (by kernel_rfl)) (by kernel_rfl)) ?_
  refine Rg.take (ops := (Rg.opsOf Try.f5 11)) 1 (some 119) ((.bool false)) hNS (by kernel_rfl) (by kernel_rfl) (by kernel_rfl) (by kernel_rfl) (by kernel_rfl) hHeld (Rg.y_bin (b := BinOp.gtr) (T := 3) (R' := 3) (x := (Operand.tmp 118)) (y := (Operand.const (Value.int IntKind.i64 0))) (vx := (.int .i64 (k : Int))) (vy := (Value.int IntKind.i64 0)) (by kernel_rfl) (by kernel_rfl) (by kernel_rfl) ?_) ?_
  · (intro W hSw; clear hSw hHeld; go_simp <;> first | omega | (intro h0; omega))
  refine Rg.take (ops := (Rg.opsOf Try.f5 11)) 2 (some 120) ((.bool false)) hNS (by kernel_rfl) (by kernel_rfl) (by kernel_rfl) (by kernel_rfl) (by kernel_rfl) hHeld (Rg.y_move (x := (Operand.tmp 119)) (Or.inl (by kernel_rfl)) (by kernel_rfl)) ?_
  refine Rg.skip (ops := (Rg.opsOf Try.f5 11)) 3 (some 121) hNS (by kernel_rfl) (by kernel_rfl) (by kernel_rfl) (by kernel_rfl) (by kernel_rfl) hHeld ?_
  refine Rg.skip (ops := (Rg.opsOf Try.f5 11)) 4 (some 122) hNS (by kernel_rfl) (by kernel_rfl) (by kernel_rfl) (by kernel_rfl) (by kernel_rfl) hHeld ?_
  refine Rg.skip (ops := (Rg.opsOf Try.f5 11)) 5 (some 123) hNS (by kernel_rfl) (by kernel_rfl) (by kernel_rfl) (by kernel_rfl) (by kernel_rfl) hHeld ?_
  refine Rg.skip (ops := (Rg.opsOf Try.f5 11)) 6 (some 124) hNS (by kernel_rfl) (by kernel_rfl) (by kernel_rfl) (by kernel_rfl) (by kernel_rfl) hHeld ?_
  refine Rg.skip (ops := (Rg.opsOf Try.f5 11)) 7 (some 125) hNS (by kernel_rfl) (by kernel_rfl) (by kernel_rfl) (by kernel_rfl) (by kernel_rfl) hHeld ?_
  refine Rg.skip (ops := (Rg.opsOf Try.f5 11)) 8 (some 126) hNS (by kernel_rfl) (by kernel_rfl) (by kernel_rfl) (by kernel_rfl) (by kernel_rfl) hHeld ?_
  refine Rg.skip (ops := (Rg.opsOf Try.f5 11)) 9 (some 127) hNS (by kernel_rfl) (by kernel_rfl) (by kernel_rfl) (by kernel_rfl) (by kernel_rfl) hHeld ?_
  refine Rg.skip (ops := (Rg.opsOf Try.f5 11)) 10 (some 128) hNS (by kernel_rfl) (by kernel_rfl) (by kernel_rfl) (by kernel_rfl) (by kernel_rfl) hHeld ?_
  refine Rg.skip (ops := (Rg.opsOf Try.f5 11)) 11 (some 129) hNS (by kernel_rfl) (by kernel_rfl) (by kernel_rfl) (by kernel_rfl) (by kernel_rfl) hHeld ?_
  refine Rg.skip (ops := (Rg.opsOf Try.f5 11)) 12 (some 130) hNS (by kernel_rfl) (by kernel_rfl) (by kernel_rfl) (by kernel_rfl) (by kernel_rfl) hHeld ?_
  refine Rg.skip (ops := (Rg.opsOf Try.f5 11)) 13 (some 131) hNS (by kernel_rfl) (by kernel_rfl) (by kernel_rfl) (by kernel_rfl) (by kernel_rfl) hHeld ?_
  refine Rg.skip (ops := (Rg.opsOf Try.f5 11)) 14 (some 132) hNS (by kernel_rfl) (by kernel_rfl) (by kernel_rfl) (by kernel_rfl) (by kernel_rfl) hHeld ?_
  refine Rg.take (ops := (Rg.opsOf Try.f5 11)) 15 (some 133) ((Value.bool false)) hNS (by kernel_rfl) (by kernel_rfl) (by kernel_rfl) (by kernel_rfl) (by kernel_rfl) hHeld (Rg.y_pick (c := (Operand.tmp 120)) (x := (Operand.tmp 132)) (y := (Operand.const (Value.bool false))) (b := false) (by kernel_rfl) (by kernel_rfl) (by kernel_rfl)) ?_
  refine Rg.done (ops := (Rg.opsOf Try.f5 11)) (by kernel_rfl) ?_
  exact ⟨by kernel_rfl, hHeld⟩
set_option maxRecDepth 100000 in
set_option maxHeartbeats 4000000 in
theorem partsPrev (ops : Array Oper) (hops : ops = (Rg.opsOf Try.f5 11)) (id : Nat) (bc oc k kp L cc : Nat) (st : Bool) {u0 u1 u2 u3 u4 u5 u6 u8 u9 u10 u11 u13 u14 u15 u16 u17 u18 u19 u20 u21 u22 u23 u24 u25 u26 u27 u28 u29 u30 u31 u32 u33 u34 u35 u36 u37 u38 u39 u40 u41 u42 u43 u44 u45 u46 u47 u48 u49 u50 u51 u52 u53 u54 u55 u56 u57 u58 u59 u60 u61 u62 u63 u64 u65 u66 u67 u68 u69 u70 u71 u72 u73 u74 u75 u76 u77 u78 u79 u80 u81 u82 u83 u84 u85 u86 u87 u88 u89 u90 u91 u92 u93 u94 u95 u96 u97 u98 u99 u100 u101 u102 u103 u104 u105 u106 u107 u108 u109 u110 u111 u112 u113 u114 u115 u116 u117 u118 u119 u120 u121 u122 u123 u124 u125 u126 u127 u128 u129 u130 u131 u132 u133 u134 u135 u136 u137 u138 u139 u140 u141 u142 u143 u144 u145 u146 : Value} (w : World) (X : World → Prop) (hk : (k : Int) < (L : Int)) (hw : X w.drew) (g0 : (0 : Int) < (k : Int)) (g2 : (kp : Int) < (L : Int)) (wk : (k : Int) - 1 = (kp : Int)) (wk2 : IntKind.i64.wrap (kp : Int) = (kp : Int))
    (hX : ∀ W, X W → W.cell? ⟨bc, oc + k * 4, none⟩ = some (.bool st) ∧ W.cell? ⟨bc, oc + kp * 4, none⟩ = some (.bool (!st))) :
    (Code.region id ops true).wp Try.prog (Rg.Only fun a' w' => a' = ⟨#[u0, u1, u2, u3, u4, u5, u6, (.slice (some ⟨bc, oc, none⟩) L cc), u8, u9, u10, u11, (.int .i64 (k : Int)), u13, u14, u15, u16, u17, u18, u19, u20, u21, u22, u23, u24, u25, u26, u27, u28, u29, u30, u31, u32, u33, u34, u35, u36, u37, u38, u39, u40, u41, u42, u43, u44, u45, u46, u47, u48, u49, u50, u51, u52, u53, u54, u55, u56, u57, u58, u59, u60, u61, u62, u63, u64, u65, u66, u67, u68, u69, u70, u71, u72, u73, u74, u75, u76, u77, u78, u79, u80, u81, u82, u83, u84, u85, u86, u87, u88, u89, u90, u91, u92, u93, u94, u95, u96, u97, u98, u99, u100, u101, u102, u103, u104, u105, u106, u107, u108, u109, u110, u111, u112, u113, u114, u115, u116, u117, (.int .i64 (k : Int)), (.bool true), (.bool true), (.slice (some ⟨bc, oc, none⟩) L cc), (.int .i64 (k : Int)), (.pointer (some ⟨bc, oc + k * 4, none⟩)), (.pointer (some ⟨bc, oc + k * 4, none⟩)), (.bool st), (.slice (some ⟨bc, oc, none⟩) L cc), (.int .i64 (k : Int)), (.int .i64 (kp : Int)), (.pointer (some ⟨bc, oc + kp * 4, none⟩)), (.pointer (some ⟨bc, oc + kp * 4, none⟩)), (.bool (!st)), (.bool false), (.bool false), u134, u135, u136, u137, u138, u139, u140, u141, u142, u143, u144, u145, u146], []⟩ ∧ X w') ⟨#[u0, u1, u2, u3, u4, u5, u6, (.slice (some ⟨bc, oc, none⟩) L cc), u8, u9, u10, u11, (.int .i64 (k : Int)), u13, u14, u15, u16, u17, u18, u19, u20, u21, u22, u23, u24, u25, u26, u27, u28, u29, u30, u31, u32, u33, u34, u35, u36, u37, u38, u39, u40, u41, u42, u43, u44, u45, u46, u47, u48, u49, u50, u51, u52, u53, u54, u55, u56, u57, u58, u59, u60, u61, u62, u63, u64, u65, u66, u67, u68, u69, u70, u71, u72, u73, u74, u75, u76, u77, u78, u79, u80, u81, u82, u83, u84, u85, u86, u87, u88, u89, u90, u91, u92, u93, u94, u95, u96, u97, u98, u99, u100, u101, u102, u103, u104, u105, u106, u107, u108, u109, u110, u111, u112, u113, u114, u115, u116, u117, u118, u119, u120, u121, u122, u123, u124, u125, u126, u127, u128, u129, u130, u131, u132, u133, u134, u135, u136, u137, u138, u139, u140, u141, u142, u143, u144, u145, u146], []⟩ w := by
  subst hops
  have hNS : Region.noSelect (Rg.opsOf Try.f5 11) = true := by kernel_rfl
  refine wp_region_held_drew (S := X) (by kernel_rfl) hw (fun hHeld => ?_)
  rw [show (Rg.opsOf Try.f5 11).size = 16 by kernel_rfl]
  refine Rg.take (ops := (Rg.opsOf Try.f5 11)) 0 (some 118) ((.int .i64 (k : Int))) hNS (by kernel_rfl) (by kernel_rfl) (by kernel_rfl) (by kernel_rfl) (by kernel_rfl) hHeld (Rg.y_move (x := (Operand.tmp 12)) (Or.inl (by kernel_rfl)) (by kernel_rfl)) ?_
  refine Rg.take (ops := (Rg.opsOf Try.f5 11)) 1 (some 119) ((.bool true)) hNS (by kernel_rfl) (by kernel_rfl) (by kernel_rfl) (by kernel_rfl) (by kernel_rfl) hHeld (Rg.y_bin (b := BinOp.gtr) (T := 3) (R' := 3) (x := (Operand.tmp 118)) (y := (Operand.const (Value.int IntKind.i64 0))) (vx := (.int .i64 (k : Int))) (vy := (Value.int IntKind.i64 0)) (by kernel_rfl) (by kernel_rfl) (by kernel_rfl) ?_) ?_
  · (intro W hSw; clear hSw hHeld; go_simp <;> first | omega | (intro h0; omega))
  refine Rg.take (ops := (Rg.opsOf Try.f5 11)) 2 (some 120) ((.bool true)) hNS (by kernel_rfl) (by kernel_rfl) (by kernel_rfl) (by kernel_rfl) (by kernel_rfl) hHeld (Rg.y_move (x := (Operand.tmp 119)) (Or.inl (by kernel_rfl)) (by kernel_rfl)) ?_
  refine Rg.take (ops := (Rg.opsOf Try.f5 11)) 3 (some 121) ((.slice (some ⟨bc, oc, none⟩) L cc)) hNS (by kernel_rfl) (by kernel_rfl) (by kernel_rfl) (by kernel_rfl) (by kernel_rfl) hHeld (Rg.y_move (x := (Operand.tmp 7)) (Or.inl (by kernel_rfl)) (by kernel_rfl)) ?_
  refine Rg.take (ops := (Rg.opsOf Try.f5 11)) 4 (some 122) ((.int .i64 (k : Int))) hNS (by kernel_rfl) (by kernel_rfl) (by kernel_rfl) (by kernel_rfl) (by kernel_rfl) hHeld (Rg.y_move (x := (Operand.tmp 12)) (Or.inl (by kernel_rfl)) (by kernel_rfl)) ?_
  refine Rg.take (ops := (Rg.opsOf Try.f5 11)) 5 (some 123) ((.pointer (some ⟨bc, oc + k * 4, none⟩))) hNS (by kernel_rfl) (by kernel_rfl) (by kernel_rfl) (by kernel_rfl) (by kernel_rfl) hHeld (Rg.y_at (T := 22) (x := (Operand.tmp 121)) (y := (Operand.tmp 122)) (vx := (.slice (some ⟨bc, oc, none⟩) L cc)) (vy := (.int .i64 (k : Int))) (by kernel_rfl) (by kernel_rfl) (by kernel_rfl) ?_) ?_
  · (intro W hSw; clear hSw hHeld; go_simp)
  refine Rg.take (ops := (Rg.opsOf Try.f5 11)) 6 (some 124) ((.pointer (some ⟨bc, oc + k * 4, none⟩))) hNS (by kernel_rfl) (by kernel_rfl) (by kernel_rfl) (by kernel_rfl) (by kernel_rfl) hHeld (Rg.y_field (T := 33) (k := 0) (x := (Operand.tmp 123)) (vx := (.pointer (some ⟨bc, oc + k * 4, none⟩))) (by kernel_rfl) (by kernel_rfl) ?_) ?_
  · (intro W hSw; clear hSw hHeld; go_simp)
  refine Rg.take (ops := (Rg.opsOf Try.f5 11)) 7 (some 125) ((.bool st)) hNS (by kernel_rfl) (by kernel_rfl) (by kernel_rfl) (by kernel_rfl) (by kernel_rfl) hHeld (Rg.y_load (T := 4) (x := (Operand.tmp 124)) (vx := (.pointer (some ⟨bc, oc + k * 4, none⟩))) (by kernel_rfl) (by kernel_rfl) ?_) ?_
  · (intro W hSw; obtain ⟨s0, s1⟩ := hX _ hSw; clear hSw hHeld; go_simp)
  refine Rg.take (ops := (Rg.opsOf Try.f5 11)) 8 (some 126) ((.slice (some ⟨bc, oc, none⟩) L cc)) hNS (by kernel_rfl) (by kernel_rfl) (by kernel_rfl) (by kernel_rfl) (by kernel_rfl) hHeld (Rg.y_move (x := (Operand.tmp 7)) (Or.inl (by kernel_rfl)) (by kernel_rfl)) ?_
  refine Rg.take (ops := (Rg.opsOf Try.f5 11)) 9 (some 127) ((.int .i64 (k : Int))) hNS (by kernel_rfl) (by kernel_rfl) (by kernel_rfl) (by kernel_rfl) (by kernel_rfl) hHeld (Rg.y_move (x := (Operand.tmp 12)) (Or.inl (by kernel_rfl)) (by kernel_rfl)) ?_
  refine Rg.take (ops := (Rg.opsOf Try.f5 11)) 10 (some 128) ((.int .i64 (kp : Int))) hNS (by kernel_rfl) (by kernel_rfl) (by kernel_rfl) (by kernel_rfl) (by kernel_rfl) hHeld (Rg.y_bin (b := BinOp.sub) (T := 3) (R' := 3) (x := (Operand.tmp 127)) (y := (Operand.const (Value.int IntKind.i64 1))) (vx := (.int .i64 (k : Int))) (vy := (Value.int IntKind.i64 1)) (by kernel_rfl) (by kernel_rfl) (by kernel_rfl) ?_) ?_
  · (intro W hSw; clear hSw hHeld; go_simp)
  refine Rg.take (ops := (Rg.opsOf Try.f5 11)) 11 (some 129) ((.pointer (some ⟨bc, oc + kp * 4, none⟩))) hNS (by kernel_rfl) (by kernel_rfl) (by kernel_rfl) (by kernel_rfl) (by kernel_rfl) hHeld (Rg.y_at (T := 22) (x := (Operand.tmp 126)) (y := (Operand.tmp 128)) (vx := (.slice (some ⟨bc, oc, none⟩) L cc)) (vy := (.int .i64 (kp : Int))) (by kernel_rfl) (by kernel_rfl) (by kernel_rfl) ?_) ?_
  · (intro W hSw; clear hSw hHeld; go_simp)
  refine Rg.take (ops := (Rg.opsOf Try.f5 11)) 12 (some 130) ((.pointer (some ⟨bc, oc + kp * 4, none⟩))) hNS (by kernel_rfl) (by kernel_rfl) (by kernel_rfl) (by kernel_rfl) (by kernel_rfl) hHeld (Rg.y_field (T := 33) (k := 0) (x := (Operand.tmp 129)) (vx := (.pointer (some ⟨bc, oc + kp * 4, none⟩))) (by kernel_rfl) (by kernel_rfl) ?_) ?_
  · (intro W hSw; clear hSw hHeld; go_simp)
  refine Rg.take (ops := (Rg.opsOf Try.f5 11)) 13 (some 131) ((.bool (!st))) hNS (by kernel_rfl) (by kernel_rfl) (by kernel_rfl) (by kernel_rfl) (by kernel_rfl) hHeld (Rg.y_load (T := 4) (x := (Operand.tmp 130)) (vx := (.pointer (some ⟨bc, oc + kp * 4, none⟩))) (by kernel_rfl) (by kernel_rfl) ?_) ?_
  · (intro W hSw; obtain ⟨s0, s1⟩ := hX _ hSw; clear hSw hHeld; go_simp)
  refine Rg.take (ops := (Rg.opsOf Try.f5 11)) 14 (some 132) ((.bool false)) hNS (by kernel_rfl) (by kernel_rfl) (by kernel_rfl) (by kernel_rfl) (by kernel_rfl) hHeld (Rg.y_bin (b := BinOp.eql) (T := 4) (R' := 4) (x := (Operand.tmp 125)) (y := (Operand.tmp 131)) (vx := (.bool st)) (vy := (.bool (!st))) (by kernel_rfl) (by kernel_rfl) (by kernel_rfl) ?_) ?_
  · (intro W hSw; clear hSw hHeld; cases st <;> go_simp)
  refine Rg.take (ops := (Rg.opsOf Try.f5 11)) 15 (some 133) ((.bool false)) hNS (by kernel_rfl) (by kernel_rfl) (by kernel_rfl) (by kernel_rfl) (by kernel_rfl) hHeld (Rg.y_pick (c := (Operand.tmp 120)) (x := (Operand.tmp 132)) (y := (Operand.const (Value.bool false))) (b := true) (by kernel_rfl) (by kernel_rfl) (by kernel_rfl)) ?_
  refine Rg.done (ops := (Rg.opsOf Try.f5 11)) (by kernel_rfl) ?_
  exact ⟨by kernel_rfl, hHeld⟩
end Go.Proofs.Ytnpobigombafoaa.Mg

namespace Go.Proofs.Ytnpobigombafoaa.mergeParts
open Go.ChangeMaps (open_string shut_string)
open Go.ChangeShapes Go.WideShapes Go.ChangeAt Go.RowKit Tx Um Ud Aq Km Kd Lm Ln Mg
set_option linter.unusedVariables false
theorem same_text (s : ByteArray) : (s.toList == s.toList) = true := beq_self_eq_true _
theorem cs_cells {w : World} {B n c : Nat} {a : Option Addr} {cs : List Cc} (h : Cs w B (.slice a n c) cs) {k : Nat} {x : Cc} (hx : cs[k]? = some x) : ∃ b, a = some ⟨b, 0, none⟩ ∧ b < w.heap.size ∧ Chk b (0 + k * 4) x.1 x.2.1 x.2.2.1 x.2.2.2 w := by
  have hk := (List.getElem?_eq_some_iff.1 hx).1
  rcases h.2 with ⟨_, h0⟩ | ⟨g, cap, cur, hv, hg, hh, hn, hc, _⟩
  · omega
  · injection hv with h1 h2 h3'
    subst h1
    obtain ⟨e1, e2, e3, e4⟩ := flat5_get cs k x hx
    have d1 := World.ownsRow.cells h (g := g) rfl _ _ e1
    have d2 := World.ownsRow.cells h (g := g) rfl _ _ e2
    have d3 := World.ownsRow.cells h (g := g) rfl _ _ e3
    have d4 := World.ownsRow.cells h (g := g) rfl _ _ e4
    rw [WideShapes.add_plain] at d1
    rw [WideShapes.add_plain, ← Nat.add_assoc] at d2 d3 d4
    exact ⟨g, rfl, (Array.getElem?_eq_some_iff.1 hh).1, d1, d2, d3, d4⟩
theorem chk_below {w w1 : World} {b o : Nat} {st : Bool} {x y z : Value} (h : Chk b o st x y z w) (hb : b < w.heap.size) (hl : Below w.heap.size w w1) : Chk b o st x y z w1 :=
  ⟨(hl.cell (p := ⟨b, _, none⟩) hb).trans h.1, (hl.cell (p := ⟨b, _, none⟩) hb).trans h.2.1, (hl.cell (p := ⟨b, _, none⟩) hb).trans h.2.2.1, (hl.cell (p := ⟨b, _, none⟩) hb).trans h.2.2.2⟩
set_option maxRecDepth 100000 in
set_option maxHeartbeats 4000000 in
theorem walk {Q : ByteArray → ByteArray → ByteArray → Prop} (hM : Impl Q) (s t u : ByteArray) (w : World) (hs : s.size ≤ 140737488355328) (ht : t.size ≤ 140737488355328) (hu : u.size ≤ 140737488355328) :
    Calls Try.prog 5 #[.string s, .string t, .string u] w fun e w' => e = .returned (.bool true) ∧ Below w.heap.size w w' := by
  have c1 := hM.chunks s t u w hs ht hu
  unfold ChTo at c1
  obtain ⟨er, her⟩ : ∃ er, er = err3 s t u := ⟨_, rfl⟩
  rw [← her] at c1
  by_cases hz : er = 0
  · have h0 : err3 s t u = 0 := by omega
    have hx : chs s t u = pcs3 s t u := by unfold chs; rw [if_pos h0]
    rw [hx] at c1
    subst hz
    obtain ⟨_, _, k3⟩ := txs_size s t u
    obtain ⟨_, _, _, l1, l2, l3⟩ := err_lines h0
    have hpt := pt_pcs3 s t u
    obtain ⟨P, hP⟩ : ∃ P, P = pcs3 s t u := ⟨_, rfl⟩
    rw [← hP] at c1 k3 hpt
    obtain ⟨L, hL⟩ : ∃ L, L = P.length := ⟨_, rfl⟩
    rw [← hL] at k3
    have hL12 : L ≤ 1200 := by omega
    have HL := Lib.hid hL
    have PT := Lib.hid hpt
    have L1 := Lib.hid l1
    have L2 := Lib.hid l2
    have L3 := Lib.hid l3
    have C1 := Lib.hid c1
    clear c1 hx k3 hpt l1 l2 l3 her h0 hL hP
    go_enter Try.func5, Try.ntmps5
    go_wp2_with fail
    go_at_call 9
    refine C1.out.mono ?_
    rintro e w1 ⟨v, cs, rfl, hu1, hi1, ho1, hb1⟩
    obtain ⟨va, vc, rfl, _⟩ := hu1.form hi1
    rw [← HL.out] at hu1 ⊢
    have HI := Lib.hid hi1
    have HU := Lib.hid hu1
    have HO := Lib.hid ho1
    have HB1 := Lib.hid hb1
    clear hi1 hu1 ho1 hb1 C1
    go_wp2_with fail
    go_at_call 11
    refine (awake_any14 hM _).mono ?_
    rintro e w2 ⟨rfl, hb2⟩
    have HB2 := Lib.hid hb2
    clear hb2
    go_wp2_with fail
    go_loopw [9, 10, 11, 12] (fun a b c i wr => ∃ (k : Nat) (SA SB SC : ByteArray), i = .int .i64 (k : Int) ∧ k ≤ L ∧ a = .string SA ∧ b = .string SB ∧ c = .string SC ∧ Hid (SA = cat (((P.take k).map (·.b)).flatten)) ∧ Hid (SB = cat (((P.take k).map (·.l)).flatten)) ∧ Hid (SC = cat (((P.take k).map (·.r)).flatten)) ∧ Hid (Below w1.heap.size w1 wr)) (fun _ _ _ i _ => L - (intOf i).toNat)
    case atStart => exact ⟨0, ⟨#[]⟩, ⟨#[]⟩, ⟨#[]⟩, rfl, Nat.zero_le _, rfl, rfl, rfl, rfl, rfl, rfl, HB2.out⟩
    case round =>
      obtain ⟨k, SA, SB, SC, rfl, hk, rfl, rfl, rfl, HSA, HSB, HSC, HB⟩ := hrel
      clear HB2
      by_cases hlt : k < L
      · have e1 : (k : Int) < (L : Int) := by omega
        obtain ⟨x, hx⟩ : ∃ x, P[k]? = some x := ⟨_, List.getElem?_eq_getElem (by rw [← HL.out]; exact hlt)⟩
        obtain ⟨cl, hcl, k1, _⟩ := HI.out.get k x hx
        obtain ⟨b, rfl, hbl, hck⟩ := cs_cells HU.out hcl
        obtain ⟨o1, o2, o3⟩ := HO.out.each k cl x hcl hx
        obtain ⟨A1, c1, f1⟩ := o1.form
        obtain ⟨A2, c2, f2⟩ := o2.form
        obtain ⟨A3, c3, f3⟩ := o3.form
        rw [f1] at o1
        rw [f2] at o2
        rw [f3] at o3
        rw [f1, f2, f3, k1] at hck
        obtain ⟨hful, hsame⟩ := PT.out.full x (List.mem_iff_getElem?.2 ⟨k, hx⟩)
        have z1 := cat_le PT.out.base hx
        have z2 := cat_le PT.out.left hx
        have z3 := cat_le PT.out.right hx
        have y1 := len_le PT.out.base hx
        have y2 := len_le PT.out.left hx
        have y3 := len_le PT.out.right hx
        have y4 := L1.out
        have y5 := L2.out
        have y6 := L3.out
        have t1 := flat_take (f := (·.b)) hx
        have t2 := flat_take (f := (·.l)) hx
        have t3 := flat_take (f := (·.r)) hx
        have u1 := flat_le PT.out.base (k + 1)
        have u2 := flat_le PT.out.left (k + 1)
        have u3 := flat_le PT.out.right (k + 1)
        rw [← HSA.out] at t1
        rw [← HSB.out] at t2
        rw [← HSC.out] at t3
        rw [t1, ByteArray.size_append] at u1
        rw [t2, ByteArray.size_append] at u2
        rw [t3, ByteArray.size_append] at u3
        obtain ⟨n1, hn1⟩ : ∃ n, n = x.b.length := ⟨_, rfl⟩
        obtain ⟨n2, hn2⟩ : ∃ n, n = x.l.length := ⟨_, rfl⟩
        obtain ⟨n3, hn3⟩ : ∃ n, n = x.r.length := ⟨_, rfl⟩
        rw [← hn1] at hck o1 hful y1
        rw [← hn2] at hck o2 hful y2
        rw [← hn3] at hck o3 hful y3
        have j1 := fun (W : World) (hb : Below w1.heap.size w1 W) => join_lo (o1.below hb) (by omega) (by rw [← hn1]; omega)
        have j2 := fun (W : World) (hb : Below w1.heap.size w1 W) => join_lo (o2.below hb) (by omega) (by rw [← hn2]; omega)
        have j3 := fun (W : World) (hb : Below w1.heap.size w1 W) => join_lo (o3.below hb) (by omega) (by rw [← hn3]; omega)
        obtain ⟨_, g1, _, _⟩ := lo_strs o1
        obtain ⟨_, g2, _, _⟩ := lo_strs o2
        obtain ⟨_, g3, _, _⟩ := lo_strs o3
        obtain ⟨J1, hJ1⟩ : ∃ J, J = cat x.b := ⟨_, rfl⟩
        obtain ⟨J2, hJ2⟩ : ∃ J, J = cat x.l := ⟨_, rfl⟩
        obtain ⟨J3, hJ3⟩ : ∃ J, J = cat x.r := ⟨_, rfl⟩
        rw [← hJ1] at t1 u1 j1
        rw [← hJ2] at t2 u2 j2
        rw [← hJ3] at t3 u3 j3
        have qA : ∀ W : World, (Op.stringOp .add SA J1).run Try.prog W = .ok (.string (SA ++ J1)) W := fun W => run_string_add_sum (P := Try.prog) (w := W) SA J1 (by omega)
        have qB : ∀ W : World, (Op.stringOp .add SB J2).run Try.prog W = .ok (.string (SB ++ J2)) W := fun W => run_string_add_sum (P := Try.prog) (w := W) SB J2 (by omega)
        have qC : ∀ W : World, (Op.stringOp .add SC J3).run Try.prog W = .ok (.string (SC ++ J3)) W := fun W => run_string_add_sum (P := Try.prog) (w := W) SC J3 (by omega)
        have p1 : IntKind.i64.wrap ((n1 : Int) + (n2 : Int)) = (n1 : Int) + (n2 : Int) := IntWalk.i64_in _ (by omega)
        have p2 : IntKind.i64.wrap ((n1 : Int) + (n2 : Int) + (n3 : Int)) = (n1 : Int) + (n2 : Int) + (n3 : Int) := IntWalk.i64_in _ (by omega)
        have p3 : (((n1 : Int) + (n2 : Int) + (n3 : Int)) == 0) = false := beq_eq_false_iff_ne.2 (by omega)
        obtain ⟨TA, hTA⟩ : ∃ T, T = SA ++ J1 := ⟨_, rfl⟩
        obtain ⟨TB, hTB⟩ : ∃ T, T = SB ++ J2 := ⟨_, rfl⟩
        obtain ⟨TC, hTC⟩ : ∃ T, T = SC ++ J3 := ⟨_, rfl⟩
        rw [← hTA] at t1 qA
        rw [← hTB] at t2 qB
        rw [← hTC] at t3 qC
        have T1 : Hid (TA = cat (((P.take (k + 1)).map (·.b)).flatten)) := t1.symm
        have T2 : Hid (TB = cat (((P.take (k + 1)).map (·.l)).flatten)) := t2.symm
        have T3 : Hid (TC = cat (((P.take (k + 1)).map (·.r)).flatten)) := t3.symm
        have HX : Hid (∀ W, Below w1.heap.size w1 W → Chk b (0 + k * 4) x.st (.slice A1 n1 c1) (.slice A2 n2 c2) (.slice A3 n3 c3) W) := fun W hb => chk_below hck hbl hb
        have K1 : Hid (∀ W, Below w1.heap.size w1 W → Calls Try.prog 16 #[.slice A1 n1 c1] W fun e w' => e = .returned (.string J1) ∧ Below w1.heap.size w1 w') := fun W hb => (j1 W hb).mono fun e w' h => ⟨h.1, below_call hb h.2⟩
        have K2 : Hid (∀ W, Below w1.heap.size w1 W → Calls Try.prog 16 #[.slice A2 n2 c2] W fun e w' => e = .returned (.string J2) ∧ Below w1.heap.size w1 w') := fun W hb => (j2 W hb).mono fun e w' h => ⟨h.1, below_call hb h.2⟩
        have K3 : Hid (∀ W, Below w1.heap.size w1 W → Calls Try.prog 16 #[.slice A3 n3 c3] W fun e w' => e = .returned (.string J3) ∧ Below w1.heap.size w1 w') := fun W hb => (j3 W hb).mono fun e w' h => ⟨h.1, below_call hb h.2⟩
        have hst : x.st = true ∨ x.st = false := by cases x.st; exact .inr rfl; exact .inl rfl
        -- the piece ahead
        have hprev : k = 0 ∨ ∃ kp, kp + 1 = k ∧ Hid (∀ W, Below w1.heap.size w1 W → W.cell? ⟨b, kp * 4, none⟩ = some (.bool (!x.st))) := by
          rcases Nat.eq_zero_or_pos k with h | h
          · exact .inl h
          · obtain ⟨y, hy⟩ : ∃ y, P[k - 1]? = some y := ⟨_, List.getElem?_eq_getElem (by rw [← HL.out]; omega)⟩
            obtain ⟨cy, hcy, ky, _⟩ := HI.out.get (k - 1) y hy
            obtain ⟨b2, hb2, _, hck2⟩ := cs_cells HU.out hcy
            injection hb2 with hb2
            injection hb2 with hb2
            subst hb2
            have htn := PT.out.turns (k - 1) y x hy (by rw [Nat.sub_add_cancel h]; exact hx)
            have hyx : y.st = !x.st := by cases h1 : y.st <;> cases h2 : x.st <;> simp_all
            rw [ky, hyx, Nat.zero_add] at hck2
            exact .inr ⟨k - 1, by omega, fun W hb => (hb.cell (p := ⟨b, _, none⟩) hbl).trans hck2.1⟩
        have QA := Lib.hid qA
        have QB := Lib.hid qB
        have QC := Lib.hid qC
        have HS1 : Hid (x.st = true → ∀ W, Below w1.heap.size w1 W → Calls Try.prog 17 #[.slice A1 n1 c1, .slice A2 n2 c2] W fun e w' => e = .returned (.bool true) ∧ Below w1.heap.size w1 w') := fun h W hb => by
          obtain ⟨e2, e3⟩ := hsame h
          have c := same_any A1 A2 c1 c2 x.b x.l W (g1.below hb) (g2.below hb) (by omega) (by omega)
          rw [← hn1, ← hn2] at c
          refine c.mono ?_
          rintro e w' ⟨B, h1, rfl, h2⟩
          rw [h1.2 e2]
          exact ⟨rfl, below_call hb h2⟩
        have HS2 : Hid (x.st = true → ∀ W, Below w1.heap.size w1 W → Calls Try.prog 17 #[.slice A1 n1 c1, .slice A3 n3 c3] W fun e w' => e = .returned (.bool true) ∧ Below w1.heap.size w1 w') := fun h W hb => by
          obtain ⟨e2, e3⟩ := hsame h
          have c := same_any A1 A3 c1 c3 x.b x.r W (g1.below hb) (g3.below hb) (by omega) (by omega)
          rw [← hn1, ← hn3] at c
          refine c.mono ?_
          rintro e w' ⟨B, h1, rfl, h2⟩
          rw [h1.2 e3]
          exact ⟨rfl, below_call hb h2⟩
        obtain ⟨st, hstx⟩ : ∃ st, st = x.st := ⟨_, rfl⟩
        rw [← hstx] at HX hst HS1 HS2 hprev
        clear hck o1 o2 o3 g1 g2 g3 j1 j2 j3 hx hcl k1 f1 f2 f3 t1 t2 t3 u1 u2 u3 z1 z2 z3 y1 y2 y3 y4 y5 y6 hn1 hn2 hn3 hJ1 hJ2 hJ3 hTA hTB hTC qA qB qC hsame hful HSA HSB HSC hstx
        go_wp2_with fail
        refine Rg.wp_only ?_ (partsJoin (SA := SA) (SB := SB) (SC := SC) (J1 := J1) (J2 := J2) (J3 := J3) (TA := TA) (TB := TB) (TC := TC) _ (by kernel_rfl) _ b 0 k L vc n1 n2 n3 c1 c2 c3 A1 A2 A3 st _ (Below w1.heap.size w1) e1 HX.out HB.out.drew QA.out QB.out QC.out K1.out K2.out K3.out)
        rintro _ w9 ⟨rfl, h9⟩
        have H9 := Lib.hid h9
        clear h9 K1 K2 K3 QA QB QC
        rcases hst with rfl | rfl
        · go_wp2_with fail
          refine Rg.wp_only ?_ (partsKept _ (by kernel_rfl) _ b 0 k L vc n1 n2 n3 c1 c2 c3 A1 A2 A3 _ (Below w1.heap.size w1) e1 HX.out H9.out.drew p1 p2 p3 (HS1.out (by trivial)) (HS2.out (by trivial)))
          rintro _ w10 ⟨rfl, h10⟩
          rcases hprev with hk0 | ⟨kp, hkp, hpc⟩
          · have g0 : ¬ (0 : Int) < (k : Int) := by omega
            have H10 := Lib.hid h10
            clear h10 hk0 HX HS1 HS2
            go_wp2_with fail
            refine Rg.wp_only ?_ (partsFirst _ (by kernel_rfl) _ b 0 k 0 L vc true _ (Below w1.heap.size w1) e1 H10.out.drew (by omega))
            rintro _ w11 ⟨rfl, h11⟩
            go_wp2_with fail
            go_roundw
            case rel => exact ⟨k + 1, TA, TB, TC, by go_num, by omega, rfl, rfl, rfl, T1, T2, T3, h11⟩
            case measure => simp only [intOf]; omega
          · have g0 : (0 : Int) < (k : Int) := by omega
            have HXP : Hid (∀ W, Below w1.heap.size w1 W → W.cell? ⟨b, 0 + k * 4, none⟩ = some (.bool true) ∧ W.cell? ⟨b, 0 + kp * 4, none⟩ = some (.bool (!true))) := fun W hb => ⟨(HX.out W hb).1, by have h := hpc.out W hb; rw [Nat.zero_add]; exact h⟩
            have wk : (k : Int) - 1 = (kp : Int) := by omega
            have wk2 : IntKind.i64.wrap (kp : Int) = (kp : Int) := IntWalk.i64_in _ (by omega)
            have g2 : (kp : Int) < (L : Int) := by omega
            have H10 := Lib.hid h10
            have HKP := Lib.hid hkp
            clear h10 HX HS1 HS2 hpc hkp
            go_wp2_with fail
            refine Rg.wp_only ?_ (partsPrev _ (by kernel_rfl) _ b 0 k kp L vc true _ (Below w1.heap.size w1) e1 H10.out.drew g0 g2 wk wk2 HXP.out)
            rintro _ w11 ⟨rfl, h11⟩
            go_wp2_with fail
            go_roundw
            case rel => exact ⟨k + 1, TA, TB, TC, by go_num, by omega, rfl, rfl, rfl, T1, T2, T3, h11⟩
            case measure => simp only [intOf]; omega
        · go_wp2_with fail
          refine Rg.wp_only ?_ (partsGap _ (by kernel_rfl) _ b 0 k L vc n1 n2 n3 c1 c2 c3 A1 A2 A3 _ (Below w1.heap.size w1) e1 HX.out H9.out.drew p1 p2 p3)
          rintro _ w10 ⟨rfl, h10⟩
          rcases hprev with hk0 | ⟨kp, hkp, hpc⟩
          · have g0 : ¬ (0 : Int) < (k : Int) := by omega
            have H10 := Lib.hid h10
            clear h10 hk0 HX HS1 HS2
            go_wp2_with fail
            refine Rg.wp_only ?_ (partsFirst _ (by kernel_rfl) _ b 0 k 0 L vc false _ (Below w1.heap.size w1) e1 H10.out.drew (by omega))
            rintro _ w11 ⟨rfl, h11⟩
            go_wp2_with fail
            go_roundw
            case rel => exact ⟨k + 1, TA, TB, TC, by go_num, by omega, rfl, rfl, rfl, T1, T2, T3, h11⟩
            case measure => simp only [intOf]; omega
          · have g0 : (0 : Int) < (k : Int) := by omega
            have HXP : Hid (∀ W, Below w1.heap.size w1 W → W.cell? ⟨b, 0 + k * 4, none⟩ = some (.bool false) ∧ W.cell? ⟨b, 0 + kp * 4, none⟩ = some (.bool (!false))) := fun W hb => ⟨(HX.out W hb).1, by have h := hpc.out W hb; rw [Nat.zero_add]; exact h⟩
            have wk : (k : Int) - 1 = (kp : Int) := by omega
            have wk2 : IntKind.i64.wrap (kp : Int) = (kp : Int) := IntWalk.i64_in _ (by omega)
            have g2 : (kp : Int) < (L : Int) := by omega
            have H10 := Lib.hid h10
            have HKP := Lib.hid hkp
            clear h10 HX HS1 HS2 hpc hkp
            go_wp2_with fail
            refine Rg.wp_only ?_ (partsPrev _ (by kernel_rfl) _ b 0 k kp L vc false _ (Below w1.heap.size w1) e1 H10.out.drew g0 g2 wk wk2 HXP.out)
            rintro _ w11 ⟨rfl, h11⟩
            go_wp2_with fail
            go_roundw
            case rel => exact ⟨k + 1, TA, TB, TC, by go_num, by omega, rfl, rfl, rfl, T1, T2, T3, h11⟩
            case measure => simp only [intOf]; omega
      · have hkL : k = L := by omega
        have e1 : ¬ (k : Int) < (L : Int) := by omega
        have a1 : SA = s := by rw [HSA.out, List.take_of_length_le (by rw [← HL.out]; omega), PT.out.base, lns_cat]
        have a2 : SB = t := by rw [HSB.out, List.take_of_length_le (by rw [← HL.out]; omega), PT.out.left, lns_cat]
        have a3 : SC = u := by rw [HSC.out, List.take_of_length_le (by rw [← HL.out]; omega), PT.out.right, lns_cat]
        subst a1 a2 a3
        have b1 := same_text SA
        have b2 := same_text SB
        have b3 := same_text SC
        have hE := HB1.out.trans (HB.out.mono HB1.out.size)
        clear HSA HSB HSC hkL
        go_wp2_with fail
        go_ret
        exact ⟨rfl, hE⟩
  · have hx : chs s t u = [] := by unfold chs; rw [if_neg (by omega)]
    rw [hx] at c1
    have e1 : ((er : Int) == 0) = false := beq_eq_false_iff_ne.2 (by omega)
    have e1b : (er == 0) = false := beq_eq_false_iff_ne.2 hz
    have C1 := Lib.hid c1
    clear c1 her hx
    go_enter Try.func5, Try.ntmps5
    go_wp2_with fail
    go_at_call 9
    refine C1.out.mono ?_
    rintro e w1 ⟨v, cs, rfl, hu1, hi1, _, hb1⟩
    obtain ⟨va, vc, rfl, _⟩ := hu1.form hi1
    clear hu1 hi1 C1
    go_wp2_with fail
    go_at_call 11
    refine (awake_any14 hM _).mono ?_
    rintro e w2 ⟨rfl, hb2⟩
    have hB2 := below_call hb1 hb2
    go_wp2_with fail
    go_at_call 11
    refine (awake_any14 hM _).mono ?_
    rintro e w3 ⟨rfl, hb3⟩
    have hB3 := below_call hB2 hb3
    go_wp2_with fail
    go_ret
    exact ⟨rfl, hB3⟩
theorem own : ownKnob Try.prog.godebug = none := by kernel_rfl
theorem laidOut : laidOutB Try.prog = true := by kernel_rfl
set_option maxRecDepth 100000 in
theorem contract {Q : ByteArray → ByteArray → ByteArray → Prop} (hM : Impl Q) (H : Type) (enc : TypeId × Value → H) (W : World) (base : Nat) (args : Array Value) (ds gs : List (DataW H)) (before : List MemPlace)
    (hval0 : ∀ (j : Nat) t v, Try.f5.params[j]? = some t → args[j]? = some v → Value.okWide Try.prog W .any base t v)
    (hW : DataW.Whole enc Try.prog Try.f5.params.toList Rows.mergePartsSpec.vars false W args.toList ds gs before)
    (hsz0 : (DataW.weightsEach Try.prog (Try.f5.params.toList ++ Rows.mergePartsSpec.plain.varTypes Try.prog) (ds ++ gs)).all (· ≤ reachBytes) = true) :
    Calls Try.prog 5 args W fun e W' => ∃ v, e = .returned v ∧ Rows.mergePartsSpec.post enc Try.prog Try.f5 false true false false W args v W' := by
  have hval : ∀ (j : Nat) t v, Try.f5.params[j]? = some t → args[j]? = some v → Value.okWide Try.prog W .any base t v := hval0
  have hsz := hsz0
  clear hsz0
  have hW' := hW
  obtain ⟨p, q, hA0, hV, rfl, hfz, hnd⟩ := hW
  have hA : DataW.TrodAll enc Try.prog W 0 (fun _ => true) true Try.f5.params.toList args.toList ds p := hA0
  rw [Try.params5] at hA hval hsz
  obtain ⟨v0, vs0, d0, ds0, p0, q0, hargs, rfl, rfl, h0, r0⟩ := trodAll_cons hA
  obtain ⟨v1, vs1, d1, ds1, p1, q1, rfl, rfl, rfl, h1, r1⟩ := trodAll_cons r0
  obtain ⟨v2, vs2, d2, ds2, p2, q2, rfl, rfl, rfl, h2, r2⟩ := trodAll_cons r1
  obtain ⟨rfl, rfl, rfl⟩ := trodAll_nil r2
  obtain rfl : args = #[v0, v1, v2] := by cases args; simp_all
  obtain ⟨rfl, rfl⟩ := trodVars_none hV
  obtain ⟨s0, rfl, rfl, rfl, w0⟩ := open_string Try.underlying9 (hval 0 9 v0 rfl rfl) h0
  have hreach0 : s0.size ≤ 140737488351232 := by
    have := sized_string hsz (j := 0) (t := 9) rfl rfl
    simpa [reachBytes] using this
  obtain ⟨s1, rfl, rfl, rfl, w1⟩ := open_string Try.underlying9 (hval 1 9 v1 rfl rfl) h1
  have hreach1 : s1.size ≤ 140737488351232 := by
    have := sized_string hsz (j := 1) (t := 9) rfl rfl
    simpa [reachBytes] using this
  obtain ⟨s2, rfl, rfl, rfl, w2⟩ := open_string Try.underlying9 (hval 2 9 v2 rfl rfl) h2
  have hreach2 : s2.size ≤ 140737488351232 := by
    have := sized_string hsz (j := 2) (t := 9) rfl rfl
    simpa [reachBytes] using this
  clear hA0 hval0
  refine (walk hM s0 s1 s2 W (by omega) (by omega) (by omega)).mono fun e W' ⟨he, bel⟩ => ?_
  subst he
  exact ⟨_, rfl, _, _, _, [], _, [], hW', trodAll_mk1 (shut_bool Try.underlying4 _), (trodAll_cons_mk (shut_string Try.underlying9 w0) (trodAll_cons_mk (shut_string Try.underlying9 w1) (trodAll_cons_mk (shut_string Try.underlying9 w2) trodAll_mk0))), rfl, bel.frame _, fun h => by cases h⟩
set_option maxRecDepth 100000 in
theorem lifted {Q : ByteArray → ByteArray → ByteArray → Prop} (hM : Impl Q) (os : Os) (started : os.Started) (H : Type) (enc : TypeId × Value → H) :
    ReturnsInHanded {} Try.checked os 5 .any (Rows.mergePartsSpec.pre6 enc Try.prog Try.f5 Rows.mergePartsRow.domain false) (Rows.mergePartsSpec.post enc Try.prog Try.f5 false true false false) := by
  refine returnsInHanded_of_change_sized (C := Try.checked) own started (by kernel_rfl) Try.func5
    (ChangeSpec.witness6 (enc := enc) (C := Try.checked) false ⟨#[], #[.string ByteArray.empty, .string ByteArray.empty, .string ByteArray.empty], []⟩ 8 (by kernel_rfl) (by kernel_rfl) (by kernel_rfl) (by kernel_rfl)) ?_
  intro W base args ds gs before hval0 hW _ hsz0 _
  exact contract hM H enc W base args ds gs before hval0 hW hsz0
theorem over {Q : ByteArray → ByteArray → ByteArray → Prop} (hM : Impl Q) : Rows.mergePartsRow.holds Try.pinned (OpenSpec.ofChange Rows.mergePartsSpec) :=
  OpenClaim.holds_of_wide 5 Try.f5 rfl rfl rfl rfl rfl rfl rfl ⟨rfl, rfl, rfl, rfl, rfl⟩ rfl rfl rfl rfl rfl (by kernel_rfl) Try.func5 (by kernel_rfl)
    (of_decide_eq_true (by kernel_rfl)) (by unfold Func.isWrapper; first | (rw [if_pos (by decide +kernel)]; kernel_rfl) | (rw [if_neg (by decide +kernel)]; exact ⟨rfl, rfl⟩))
    (fun os started H enc _ => lifted hM os started H enc)
end Go.Proofs.Ytnpobigombafoaa.mergeParts

namespace Go.Proofs.Ytnpobigombafoaa
theorem mergeParts_holds : Rows.MergePartsSaid := mergeParts.over Mg.impl
#print axioms mergeParts_holds
end Go.Proofs.Ytnpobigombafoaa
