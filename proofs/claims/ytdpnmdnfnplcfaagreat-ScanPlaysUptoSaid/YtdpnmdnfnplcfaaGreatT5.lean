/- Texts of this seat, one behind the other. -/
import Derived.Test.YtdpnmdnfnplcfaaGreatT4
import Derived.Laws.StructEq
import Derived.Laws.AppendOwnNone
import Derived.Deep.AppendLies
import Derived.Deep.RegionLaw
import Derived.Laws.OwnMore
import Derived.Deep.CutBlock
import Derived.Deep.CutRange
import Derived.Deep.Cut
namespace Go.Proofs.YtdpnmdnfnplcfaaGreat.Rg
open Go.RowKit
set_option linter.unusedVariables false
section
variable {P : Program} {S : World → Prop}
theorem y_build {o : Oper} {a : Act} {T : TypeId} {parts : Array (Nat × Operand)} {vs : Array (Nat × Value)} {v : Value} (ho : o.op = .build T parts) (hx : (parts.map fun (i, x) => (i, a.eval x)) = vs)
    (hv : ∀ w, S w → (Instr.build T vs).run P w = .ok v w) : ∀ w, S w → (execOp a.eval o).run P w = .ok (.value v) w := by
  intro w hw
  obtain ⟨dst, op, ty, pos, after, guard⟩ := o
  simp only at ho
  subst ho
  have := hv w hw
  simp only [execOp, Sem.run_bind]
  rw [hx, this]
  rfl
theorem y_sl1 {o : Oper} {a : Act} {T : TypeId} {x l : Operand} {vx vl v : Value} (ho : o.op = .slice T x (some l) none none) (hx : a.eval x = vx) (hl : a.eval l = vl)
    (hv : ∀ w, S w → (Instr.sliceAt T vx (some vl) none none).run P w = .ok v w) : ∀ w, S w → (execOp a.eval o).run P w = .ok (.value v) w := by
  intro w hw
  obtain ⟨dst, op, ty, pos, after, guard⟩ := o
  simp only at ho
  subst ho
  have := hv w hw
  simp only [execOp, hx, hl, Option.map_some, Option.map_none, Sem.run_bind]
  rw [this]
  rfl
end
end Go.Proofs.YtdpnmdnfnplcfaaGreat.Rg
namespace Go.Proofs.YtdpnmdnfnplcfaaGreat.Sc
open Go.RowKit Tx Pm Pr Dk
set_option linter.unusedVariables false
set_option maxRecDepth 100000 in
set_option maxHeartbeats 4000000 in
theorem walkReg (ops : Array Oper) (hops : ops = (Rg.opsOf Tryz.f10 16)) (id : Nat) (gn m : Nat) (v p q Dt : ByteArray) (K : Int) (vO : Value) {u0 u2 u3 u4 u5 u7 u10 u11 u12 u13 u14 u15 u16 u17 u18 u19 u20 u21 u22 u23 u24 u25 u26 u27 u28 u29 u30 u31 u32 u33 u34 u35 u36 u37 u38 u39 u40 u41 u42 u43 u44 u45 u46 u47 u48 u49 u50 u51 u52 u53 u54 u55 u56 u57 u58 u59 u60 u61 u62 u63 u64 u65 u66 u67 u68 u69 u70 u71 u72 u73 u74 u75 : Value} (w : World) (X : World → Prop) (Z : Value → World → Prop)
    (hX : ∀ W, X W → W.cell? ⟨gn, 0, none⟩ = some (.int .i64 K) ∧ W.cell? ⟨gn, 1, none⟩ = some (.string Dt)) (hw : X w.drew) (q1 : (v.size : Int) + 1 = (m : Int)) (V1 : IntKind.i64.wrap (m : Int) = (m : Int))
    (S1 : ∀ W : World, (Instr.sliceAt 9 (.string p) (some (.int .i64 (m : Int))) none none).run Tryz.prog W = .ok (.string q) W) (hX2 : X (w.drew.alloc (.cells #[.string q, .int .i64 K, .string Dt] 54)))
    (hE : ∀ ty, ∃ v8 w8, (Builtin.append_ #[32, 32] ty #[vO, .slice (some ⟨w.heap.size, 0, none⟩) 1 1]).run Tryz.prog (w.drew.alloc (.cells #[.string q, .int .i64 K, .string Dt] 54)) = .ok v8 w8 ∧ X w8 ∧ Z v8 w8) :
    (Code.region id ops true).wp Tryz.prog (Rg.Only fun a' w' => ∃ v8 : Value, a' = ⟨#[u0, (.string v), u2, u3, u4, u5, v8, u7, (.string p), (.pointer (some ⟨gn, 0, none⟩)), u10, u11, u12, u13, u14, u15, u16, u17, u18, u19, u20, u21, u22, u23, u24, u25, u26, u27, u28, u29, u30, u31, u32, u33, u34, u35, u36, u37, u38, u39, u40, u41, u42, u43, u44, u45, u46, u47, u48, u49, u50, u51, u52, u53, u54, u55, u56, u57, u58, u59, u60, u61, u62, u63, u64, vO, (.string p), (.string v), (.int .i64 (v.size : Int)), (.int .i64 (m : Int)), (.string q), (.agg #[.int .i64 K, .string Dt]), (.agg #[.string q, .int .i64 K, .string Dt]), (.slice (some ⟨w.heap.size, 0, none⟩) 1 1), v8, u75], []⟩ ∧ Z v8 w') ⟨#[u0, (.string v), u2, u3, u4, u5, vO, u7, (.string p), (.pointer (some ⟨gn, 0, none⟩)), u10, u11, u12, u13, u14, u15, u16, u17, u18, u19, u20, u21, u22, u23, u24, u25, u26, u27, u28, u29, u30, u31, u32, u33, u34, u35, u36, u37, u38, u39, u40, u41, u42, u43, u44, u45, u46, u47, u48, u49, u50, u51, u52, u53, u54, u55, u56, u57, u58, u59, u60, u61, u62, u63, u64, u65, u66, u67, u68, u69, u70, u71, u72, u73, u74, u75], []⟩ w := by
  subst hops
  have hNS : Region.noSelect (Rg.opsOf Tryz.f10 16) = true := by kernel_rfl
  refine wp_region_held_drew (S := X) (by kernel_rfl) hw (fun hHeld => ?_)
  rw [show (Rg.opsOf Tryz.f10 16).size = 11 by kernel_rfl]
  refine Rg.take (ops := (Rg.opsOf Tryz.f10 16)) 0 (some 65) (vO) hNS (by kernel_rfl) (by kernel_rfl) (by kernel_rfl) (by kernel_rfl) (by kernel_rfl) hHeld (Rg.y_move (x := (Operand.tmp 6)) (Or.inl (by kernel_rfl)) (by kernel_rfl)) ?_
  refine Rg.take (ops := (Rg.opsOf Tryz.f10 16)) 1 (some 66) ((.string p)) hNS (by kernel_rfl) (by kernel_rfl) (by kernel_rfl) (by kernel_rfl) (by kernel_rfl) hHeld (Rg.y_move (x := (Operand.tmp 8)) (Or.inl (by kernel_rfl)) (by kernel_rfl)) ?_
  refine Rg.take (ops := (Rg.opsOf Tryz.f10 16)) 2 (some 67) ((.string v)) hNS (by kernel_rfl) (by kernel_rfl) (by kernel_rfl) (by kernel_rfl) (by kernel_rfl) hHeld (Rg.y_move (x := (Operand.tmp 1)) (Or.inl (by kernel_rfl)) (by kernel_rfl)) ?_
  refine Rg.take (ops := (Rg.opsOf Tryz.f10 16)) 3 (some 68) ((.int .i64 (v.size : Int))) hNS (by kernel_rfl) (by kernel_rfl) (by kernel_rfl) (by kernel_rfl) (by kernel_rfl) hHeld (Rg.y_len (x := (Operand.tmp 67)) (ats := #[9]) (vx := (.string v)) (n := v.size) (by kernel_rfl) (by kernel_rfl) ?_) ?_
  · (intro ty w hSw; go_simp)
  refine Rg.take (ops := (Rg.opsOf Tryz.f10 16)) 4 (some 69) ((.int .i64 (m : Int))) hNS (by kernel_rfl) (by kernel_rfl) (by kernel_rfl) (by kernel_rfl) (by kernel_rfl) hHeld (Rg.y_bin (b := BinOp.add) (T := 3) (R' := 3) (x := (Operand.tmp 68)) (y := (Operand.const (Value.int IntKind.i64 1))) (vx := (.int .i64 (v.size : Int))) (vy := (Value.int IntKind.i64 1)) (by kernel_rfl) (by kernel_rfl) (by kernel_rfl) ?_) ?_
  · (intro W hSw; clear hSw hHeld; go_simp)
  refine Rg.take (ops := (Rg.opsOf Tryz.f10 16)) 5 (some 70) ((.string q)) hNS (by kernel_rfl) (by kernel_rfl) (by kernel_rfl) (by kernel_rfl) (by kernel_rfl) hHeld (Rg.y_sl1 (T := 9) (x := (Operand.tmp 66)) (l := (Operand.tmp 69)) (vx := (.string p)) (vl := (.int .i64 (m : Int))) (by kernel_rfl) (by kernel_rfl) (by kernel_rfl) ?_) ?_
  · (intro W hSw; clear hSw hHeld; exact S1 W)
  refine Rg.take (ops := (Rg.opsOf Tryz.f10 16)) 6 (some 71) ((.agg #[.int .i64 K, .string Dt])) hNS (by kernel_rfl) (by kernel_rfl) (by kernel_rfl) (by kernel_rfl) (by kernel_rfl) hHeld (Rg.y_load (T := 52) (x := (Operand.tmp 9)) (vx := (.pointer (some ⟨gn, 0, none⟩))) (by kernel_rfl) (by kernel_rfl) ?_) ?_
  · (intro W hSw; obtain ⟨s0, s1⟩ := hX _ hSw; clear hSw hHeld; go_simp)
  refine Rg.take (ops := (Rg.opsOf Tryz.f10 16)) 7 (some 72) ((.agg #[.string q, .int .i64 K, .string Dt])) hNS (by kernel_rfl) (by kernel_rfl) (by kernel_rfl) (by kernel_rfl) (by kernel_rfl) hHeld (Rg.y_build (T := 54) (parts := #[(0, Operand.tmp 70), (1, Operand.tmp 71)]) (vs := #[(0, (.string q)), (1, (.agg #[.int .i64 K, .string Dt]))]) (by kernel_rfl) (by kernel_rfl) ?_) ?_
  · (intro W hSw; clear hSw hHeld; go_simp)
  refine Rg.bld (ops := (Rg.opsOf Tryz.f10 16)) 8 (some 73) (T := 32) (len := 1) (parts := #[(0, Operand.tmp 72)]) (vs := #[(0, (.agg #[.string q, .int .i64 K, .string Dt]))]) (v := (.slice (some ⟨w.heap.size, 0, none⟩) 1 1)) (w1 := w.drew.alloc (.cells #[.string q, .int .i64 K, .string Dt] 54)) (by kernel_rfl) (by kernel_rfl) (by kernel_rfl) (by kernel_rfl) (by kernel_rfl) (by kernel_rfl) ?_ (hX2) (fun hHeld => ?_)
  · (clear hHeld hE; go_simp)
  refine Rg.app1 (ops := (Rg.opsOf Tryz.f10 16)) 9 (some 74) (T := 32) (x := (Operand.tmp 65)) (y := (Operand.tmp 73)) (vx := vO) (vy := (.slice (some ⟨w.heap.size, 0, none⟩) 1 1)) (by kernel_rfl) (by kernel_rfl) (by kernel_rfl) (by kernel_rfl) (by kernel_rfl) (by kernel_rfl) (by kernel_rfl) ?_
  intro ty
  obtain ⟨v8, w8, e8, h8, h9⟩ := hE ty
  refine ⟨v8, w8, e8, h8, fun hHeld => ?_⟩
  refine Rg.take (ops := (Rg.opsOf Tryz.f10 16)) 10 (some 6) (v8) hNS (by kernel_rfl) (by kernel_rfl) (by kernel_rfl) (by kernel_rfl) (by kernel_rfl) hHeld (Rg.y_move (x := (Operand.tmp 74)) (Or.inr (by kernel_rfl)) (by kernel_rfl)) ?_
  refine Rg.done (ops := (Rg.opsOf Tryz.f10 16)) (by kernel_rfl) ?_
  exact ⟨v8, by kernel_rfl, h9⟩
set_option maxRecDepth 100000 in
set_option maxHeartbeats 4000000 in
theorem seenReg (ops : Array Oper) (hops : ops = (Rg.opsOf Tryz.f15 6)) (id : Nat) (ge oe ne ce k st : Nat) (v p s1 s2 Dt : ByteArray) (K : Int) (dv vO : Value) {u2 u3 u4 u6 u9 u10 u11 u12 u13 u14 u15 u16 u17 u18 u19 u20 u21 u22 u23 u24 u25 u26 u27 u28 u29 u30 u31 u32 u33 u34 u35 u36 u37 u38 u39 u40 u41 u42 u43 u44 u45 : Value} (w : World) (hk : (k : Int) < (ne : Int)) (X : World → Prop) (Z : Value → World → Prop)
    (hX : ∀ W, X W → W.cell? ⟨ge, oe + k * 3, none⟩ = some (.string p) ∧ W.cell? ⟨ge, oe + k * 3 + 1, none⟩ = some (.int .i64 K) ∧ W.cell? ⟨ge, oe + k * 3 + 2, none⟩ = some (.string Dt)) (hw : X w.drew) (hXa : ∀ W o, X W → X (W.alloc o))
    (S1 : ∀ W : World, (binOp .add 9 (.string v) (.string ⟨#[47]⟩)).run Tryz.prog W = .ok (.string s1) W) (S2 : ∀ W : World, (binOp .add 9 (.string s1) (.string p)).run Tryz.prog W = .ok (.string s2) W)
    (hA : ∀ W, X W → Calls Tryz.prog 49 #[dv, .string s2] W fun e w' => e = .returned (.int .i64 (st : Int)) ∧ X w' ∧ Below W.heap.size W w')
    (hE : ∀ w5, X w5 → Below w.drew.heap.size w.drew w5 → ∀ ty, ∃ v8 w8, (Builtin.append_ #[28, 28] ty #[vO, .slice (some ⟨w5.heap.size, 0, none⟩) 1 1]).run Tryz.prog (w5.alloc (.cells #[.string p, .int .i64 (st : Int), .int .i64 K, .string Dt] 83)) = .ok v8 w8 ∧ X w8 ∧ Z v8 w8) :
    (Code.region id ops true).wp Tryz.prog (Rg.Only fun a' w' => ∃ (v8 : Value) (g5 : Nat), a' = ⟨#[dv, (.string v), u2, u3, u4, (.slice (some ⟨ge, oe, none⟩) ne ce), u6, v8, (.int .i64 (k : Int)), u9, u10, u11, u12, u13, u14, u15, u16, u17, u18, u19, u20, vO, (.slice (some ⟨ge, oe, none⟩) ne ce), (.int .i64 (k : Int)), (.pointer (some ⟨ge, oe + k * 3, none⟩)), (.pointer (some ⟨ge, oe + k * 3, none⟩)), (.string p), dv, (.string v), (.string s1), (.slice (some ⟨ge, oe, none⟩) ne ce), (.int .i64 (k : Int)), (.pointer (some ⟨ge, oe + k * 3, none⟩)), (.pointer (some ⟨ge, oe + k * 3, none⟩)), (.string p), (.string s2), (.int .i64 (st : Int)), (.slice (some ⟨ge, oe, none⟩) ne ce), (.int .i64 (k : Int)), (.pointer (some ⟨ge, oe + k * 3, none⟩)), (.pointer (some ⟨ge, oe + k * 3 + 1, none⟩)), (.agg #[.int .i64 K, .string Dt]), (.agg #[.string p, .int .i64 (st : Int), .int .i64 K, .string Dt]), (.slice (some ⟨g5, 0, none⟩) 1 1), v8, u45], []⟩ ∧ Z v8 w') ⟨#[dv, (.string v), u2, u3, u4, (.slice (some ⟨ge, oe, none⟩) ne ce), u6, vO, (.int .i64 (k : Int)), u9, u10, u11, u12, u13, u14, u15, u16, u17, u18, u19, u20, u21, u22, u23, u24, u25, u26, u27, u28, u29, u30, u31, u32, u33, u34, u35, u36, u37, u38, u39, u40, u41, u42, u43, u44, u45], []⟩ w := by
  subst hops
  have hNS : Region.noSelect (Rg.opsOf Tryz.f15 6) = true := by kernel_rfl
  refine wp_region_held_drew (S := X) (by kernel_rfl) hw (fun hHeld => ?_)
  rw [show (Rg.opsOf Tryz.f15 6).size = 25 by kernel_rfl]
  refine Rg.take (ops := (Rg.opsOf Tryz.f15 6)) 0 (some 21) (vO) hNS (by kernel_rfl) (by kernel_rfl) (by kernel_rfl) (by kernel_rfl) (by kernel_rfl) hHeld (Rg.y_move (x := (Operand.tmp 7)) (Or.inl (by kernel_rfl)) (by kernel_rfl)) ?_
  refine Rg.take (ops := (Rg.opsOf Tryz.f15 6)) 1 (some 22) ((.slice (some ⟨ge, oe, none⟩) ne ce)) hNS (by kernel_rfl) (by kernel_rfl) (by kernel_rfl) (by kernel_rfl) (by kernel_rfl) hHeld (Rg.y_move (x := (Operand.tmp 5)) (Or.inl (by kernel_rfl)) (by kernel_rfl)) ?_
  refine Rg.take (ops := (Rg.opsOf Tryz.f15 6)) 2 (some 23) ((.int .i64 (k : Int))) hNS (by kernel_rfl) (by kernel_rfl) (by kernel_rfl) (by kernel_rfl) (by kernel_rfl) hHeld (Rg.y_move (x := (Operand.tmp 8)) (Or.inl (by kernel_rfl)) (by kernel_rfl)) ?_
  refine Rg.take (ops := (Rg.opsOf Tryz.f15 6)) 3 (some 24) ((.pointer (some ⟨ge, oe + k * 3, none⟩))) hNS (by kernel_rfl) (by kernel_rfl) (by kernel_rfl) (by kernel_rfl) (by kernel_rfl) hHeld (Rg.y_at (T := 32) (x := (Operand.tmp 22)) (y := (Operand.tmp 23)) (vx := (.slice (some ⟨ge, oe, none⟩) ne ce)) (vy := (.int .i64 (k : Int))) (by kernel_rfl) (by kernel_rfl) (by kernel_rfl) ?_) ?_
  · (intro W hSw; clear hSw hHeld; go_simp)
  refine Rg.take (ops := (Rg.opsOf Tryz.f15 6)) 4 (some 25) ((.pointer (some ⟨ge, oe + k * 3, none⟩))) hNS (by kernel_rfl) (by kernel_rfl) (by kernel_rfl) (by kernel_rfl) (by kernel_rfl) hHeld (Rg.y_field (T := 54) (k := 0) (x := (Operand.tmp 24)) (vx := (.pointer (some ⟨ge, oe + k * 3, none⟩))) (by kernel_rfl) (by kernel_rfl) ?_) ?_
  · (intro W hSw; clear hSw hHeld; go_simp)
  refine Rg.take (ops := (Rg.opsOf Tryz.f15 6)) 5 (some 26) ((.string p)) hNS (by kernel_rfl) (by kernel_rfl) (by kernel_rfl) (by kernel_rfl) (by kernel_rfl) hHeld (Rg.y_load (T := 9) (x := (Operand.tmp 25)) (vx := (.pointer (some ⟨ge, oe + k * 3, none⟩))) (by kernel_rfl) (by kernel_rfl) ?_) ?_
  · (intro W hSw; obtain ⟨s0, s1, s2⟩ := hX _ hSw; clear hSw hHeld; go_simp)
  refine Rg.take (ops := (Rg.opsOf Tryz.f15 6)) 6 (some 27) (dv) hNS (by kernel_rfl) (by kernel_rfl) (by kernel_rfl) (by kernel_rfl) (by kernel_rfl) hHeld (Rg.y_move (x := (Operand.tmp 0)) (Or.inl (by kernel_rfl)) (by kernel_rfl)) ?_
  refine Rg.take (ops := (Rg.opsOf Tryz.f15 6)) 7 (some 28) ((.string v)) hNS (by kernel_rfl) (by kernel_rfl) (by kernel_rfl) (by kernel_rfl) (by kernel_rfl) hHeld (Rg.y_move (x := (Operand.tmp 1)) (Or.inl (by kernel_rfl)) (by kernel_rfl)) ?_
  refine Rg.take (ops := (Rg.opsOf Tryz.f15 6)) 8 (some 29) ((.string s1)) hNS (by kernel_rfl) (by kernel_rfl) (by kernel_rfl) (by kernel_rfl) (by kernel_rfl) hHeld (Rg.y_bin (b := BinOp.add) (T := 9) (R' := 9) (x := (Operand.tmp 28)) (y := (Operand.const (Value.string { data := #[47] }))) (vx := (.string v)) (vy := (Value.string { data := #[47] })) (by kernel_rfl) (by kernel_rfl) (by kernel_rfl) ?_) ?_
  · (intro W hSw; clear hSw hHeld; exact S1 W)
  refine Rg.take (ops := (Rg.opsOf Tryz.f15 6)) 9 (some 30) ((.slice (some ⟨ge, oe, none⟩) ne ce)) hNS (by kernel_rfl) (by kernel_rfl) (by kernel_rfl) (by kernel_rfl) (by kernel_rfl) hHeld (Rg.y_move (x := (Operand.tmp 5)) (Or.inl (by kernel_rfl)) (by kernel_rfl)) ?_
  refine Rg.take (ops := (Rg.opsOf Tryz.f15 6)) 10 (some 31) ((.int .i64 (k : Int))) hNS (by kernel_rfl) (by kernel_rfl) (by kernel_rfl) (by kernel_rfl) (by kernel_rfl) hHeld (Rg.y_move (x := (Operand.tmp 8)) (Or.inl (by kernel_rfl)) (by kernel_rfl)) ?_
  refine Rg.take (ops := (Rg.opsOf Tryz.f15 6)) 11 (some 32) ((.pointer (some ⟨ge, oe + k * 3, none⟩))) hNS (by kernel_rfl) (by kernel_rfl) (by kernel_rfl) (by kernel_rfl) (by kernel_rfl) hHeld (Rg.y_at (T := 32) (x := (Operand.tmp 30)) (y := (Operand.tmp 31)) (vx := (.slice (some ⟨ge, oe, none⟩) ne ce)) (vy := (.int .i64 (k : Int))) (by kernel_rfl) (by kernel_rfl) (by kernel_rfl) ?_) ?_
  · (intro W hSw; clear hSw hHeld; go_simp)
  refine Rg.take (ops := (Rg.opsOf Tryz.f15 6)) 12 (some 33) ((.pointer (some ⟨ge, oe + k * 3, none⟩))) hNS (by kernel_rfl) (by kernel_rfl) (by kernel_rfl) (by kernel_rfl) (by kernel_rfl) hHeld (Rg.y_field (T := 54) (k := 0) (x := (Operand.tmp 32)) (vx := (.pointer (some ⟨ge, oe + k * 3, none⟩))) (by kernel_rfl) (by kernel_rfl) ?_) ?_
  · (intro W hSw; clear hSw hHeld; go_simp)
  refine Rg.take (ops := (Rg.opsOf Tryz.f15 6)) 13 (some 34) ((.string p)) hNS (by kernel_rfl) (by kernel_rfl) (by kernel_rfl) (by kernel_rfl) (by kernel_rfl) hHeld (Rg.y_load (T := 9) (x := (Operand.tmp 33)) (vx := (.pointer (some ⟨ge, oe + k * 3, none⟩))) (by kernel_rfl) (by kernel_rfl) ?_) ?_
  · (intro W hSw; obtain ⟨s0, s1, s2⟩ := hX _ hSw; clear hSw hHeld; go_simp)
  refine Rg.take (ops := (Rg.opsOf Tryz.f15 6)) 14 (some 35) ((.string s2)) hNS (by kernel_rfl) (by kernel_rfl) (by kernel_rfl) (by kernel_rfl) (by kernel_rfl) hHeld (Rg.y_bin (b := BinOp.add) (T := 9) (R' := 9) (x := (Operand.tmp 29)) (y := (Operand.tmp 34)) (vx := (.string s1)) (vy := (.string p)) (by kernel_rfl) (by kernel_rfl) (by kernel_rfl) ?_) ?_
  · (intro W hSw; clear hSw hHeld; exact S2 W)
  refine Rg.take (ops := (Rg.opsOf Tryz.f15 6)) 16 (some 37) ((.slice (some ⟨ge, oe, none⟩) ne ce)) hNS (by kernel_rfl) (by kernel_rfl) (by kernel_rfl) (by kernel_rfl) (by kernel_rfl) hHeld (Rg.y_move (x := (Operand.tmp 5)) (Or.inl (by kernel_rfl)) (by kernel_rfl)) ?_
  refine Rg.take (ops := (Rg.opsOf Tryz.f15 6)) 17 (some 38) ((.int .i64 (k : Int))) hNS (by kernel_rfl) (by kernel_rfl) (by kernel_rfl) (by kernel_rfl) (by kernel_rfl) hHeld (Rg.y_move (x := (Operand.tmp 8)) (Or.inl (by kernel_rfl)) (by kernel_rfl)) ?_
  refine Rg.take (ops := (Rg.opsOf Tryz.f15 6)) 18 (some 39) ((.pointer (some ⟨ge, oe + k * 3, none⟩))) hNS (by kernel_rfl) (by kernel_rfl) (by kernel_rfl) (by kernel_rfl) (by kernel_rfl) hHeld (Rg.y_at (T := 32) (x := (Operand.tmp 37)) (y := (Operand.tmp 38)) (vx := (.slice (some ⟨ge, oe, none⟩) ne ce)) (vy := (.int .i64 (k : Int))) (by kernel_rfl) (by kernel_rfl) (by kernel_rfl) ?_) ?_
  · (intro W hSw; clear hSw hHeld; go_simp)
  refine Rg.take (ops := (Rg.opsOf Tryz.f15 6)) 19 (some 40) ((.pointer (some ⟨ge, oe + k * 3 + 1, none⟩))) hNS (by kernel_rfl) (by kernel_rfl) (by kernel_rfl) (by kernel_rfl) (by kernel_rfl) hHeld (Rg.y_field (T := 54) (k := 1) (x := (Operand.tmp 39)) (vx := (.pointer (some ⟨ge, oe + k * 3, none⟩))) (by kernel_rfl) (by kernel_rfl) ?_) ?_
  · (intro W hSw; clear hSw hHeld; go_simp)
  refine Rg.take (ops := (Rg.opsOf Tryz.f15 6)) 20 (some 41) ((.agg #[.int .i64 K, .string Dt])) hNS (by kernel_rfl) (by kernel_rfl) (by kernel_rfl) (by kernel_rfl) (by kernel_rfl) hHeld (Rg.y_load (T := 52) (x := (Operand.tmp 40)) (vx := (.pointer (some ⟨ge, oe + k * 3 + 1, none⟩))) (by kernel_rfl) (by kernel_rfl) ?_) ?_
  · (intro W hSw; obtain ⟨s0, s1, s2⟩ := hX _ hSw; clear hSw hHeld; go_simp)
  refine Rg.call (ops := (Rg.opsOf Tryz.f15 6)) (fn := Tryz.f49) (xs := #[Operand.tmp 27, Operand.tmp 35]) (ats := #[25, 9]) 15 (some 36) 49 #[dv, (.string s2)] (by kernel_rfl) (by kernel_rfl) (by kernel_rfl) (by kernel_rfl) (by kernel_rfl) Tryz.func49 (by kernel_rfl) (by kernel_rfl) (by kernel_rfl) ?_
  refine (hA _ hHeld).mono ?_
  rintro e w5 ⟨rfl, k5, h5⟩
  refine ⟨_, rfl, k5, fun hHeld => ?_⟩
  refine Rg.take (ops := (Rg.opsOf Tryz.f15 6)) 21 (some 42) ((.agg #[.string p, .int .i64 (st : Int), .int .i64 K, .string Dt])) hNS (by kernel_rfl) (by kernel_rfl) (by kernel_rfl) (by kernel_rfl) (by kernel_rfl) hHeld (Rg.y_build (T := 83) (parts := #[(0, Operand.tmp 26), (1, Operand.tmp 36), (2, Operand.tmp 41)]) (vs := #[(0, (.string p)), (1, (.int .i64 (st : Int))), (2, (.agg #[.int .i64 K, .string Dt]))]) (by kernel_rfl) (by kernel_rfl) ?_) ?_
  · (intro W hSw; clear hSw hHeld; go_simp)
  refine Rg.bld (ops := (Rg.opsOf Tryz.f15 6)) 22 (some 43) (T := 28) (len := 1) (parts := #[(0, Operand.tmp 42)]) (vs := #[(0, (.agg #[.string p, .int .i64 (st : Int), .int .i64 K, .string Dt]))]) (v := (.slice (some ⟨w5.heap.size, 0, none⟩) 1 1)) (w1 := w5.alloc (.cells #[.string p, .int .i64 (st : Int), .int .i64 K, .string Dt] 83)) (by kernel_rfl) (by kernel_rfl) (by kernel_rfl) (by kernel_rfl) (by kernel_rfl) (by kernel_rfl) ?_ (hXa _ _ k5) (fun hHeld => ?_)
  · (clear hHeld hE h5 k5; go_simp)
  refine Rg.app1 (ops := (Rg.opsOf Tryz.f15 6)) 23 (some 44) (T := 28) (x := (Operand.tmp 21)) (y := (Operand.tmp 43)) (vx := vO) (vy := (.slice (some ⟨w5.heap.size, 0, none⟩) 1 1)) (by kernel_rfl) (by kernel_rfl) (by kernel_rfl) (by kernel_rfl) (by kernel_rfl) (by kernel_rfl) (by kernel_rfl) ?_
  intro ty
  obtain ⟨v8, w8, e8, h8, h9⟩ := hE w5 k5 h5 ty
  refine ⟨v8, w8, e8, h8, fun hHeld => ?_⟩
  refine Rg.take (ops := (Rg.opsOf Tryz.f15 6)) 24 (some 7) (v8) hNS (by kernel_rfl) (by kernel_rfl) (by kernel_rfl) (by kernel_rfl) (by kernel_rfl) hHeld (Rg.y_move (x := (Operand.tmp 44)) (Or.inr (by kernel_rfl)) (by kernel_rfl)) ?_
  refine Rg.done (ops := (Rg.opsOf Tryz.f15 6)) (by kernel_rfl) ?_
  exact ⟨v8, w5.heap.size, by kernel_rfl, h9⟩
set_option maxRecDepth 100000 in
set_option maxHeartbeats 4000000 in
theorem sameReg (ops : Array Oper) (hops : ops = (Rg.opsOf Tryz.f14 6)) (id : Nat) (ga oa gb ob n ca cb k st : Nat) (p Dt : ByteArray) (K : Int) {u2 u3 u4 u6 u7 u8 u9 u10 u11 u12 u13 u14 u15 u16 u17 u18 u19 u20 u21 u22 u23 u24 u25 : Value} (w : World) (hk : (k : Int) < (n : Int)) (X : World → Prop)
    (hX : ∀ W, X W → W.cell? ⟨ga, oa + k * 4, none⟩ = some (.string p) ∧ W.cell? ⟨ga, oa + k * 4 + 1, none⟩ = some (.int .i64 (st : Int)) ∧ W.cell? ⟨ga, oa + k * 4 + 2, none⟩ = some (.int .i64 K) ∧ W.cell? ⟨ga, oa + k * 4 + 3, none⟩ = some (.string Dt) ∧ W.cell? ⟨gb, ob + k * 4, none⟩ = some (.string p) ∧ W.cell? ⟨gb, ob + k * 4 + 1, none⟩ = some (.int .i64 (st : Int)) ∧ W.cell? ⟨gb, ob + k * 4 + 2, none⟩ = some (.int .i64 K) ∧ W.cell? ⟨gb, ob + k * 4 + 3, none⟩ = some (.string Dt)) (hw : X w.drew) (S1 : ∀ W : World, (binOp .neq 83 (.agg #[.string p, .int .i64 (st : Int), .int .i64 K, .string Dt]) (.agg #[.string p, .int .i64 (st : Int), .int .i64 K, .string Dt])).run Tryz.prog W = .ok (.bool false) W) :
    (Code.region id ops true).wp Tryz.prog (Rg.Only fun a' w' => a' = ⟨#[(.slice (some ⟨ga, oa, none⟩) n ca), (.slice (some ⟨gb, ob, none⟩) n cb), u2, u3, u4, (.int .i64 (k : Int)), u6, u7, u8, u9, u10, u11, u12, u13, u14, u15, u16, (.slice (some ⟨ga, oa, none⟩) n ca), (.int .i64 (k : Int)), (.pointer (some ⟨ga, oa + k * 4, none⟩)), (.agg #[.string p, .int .i64 (st : Int), .int .i64 K, .string Dt]), (.slice (some ⟨gb, ob, none⟩) n cb), (.int .i64 (k : Int)), (.pointer (some ⟨gb, ob + k * 4, none⟩)), (.agg #[.string p, .int .i64 (st : Int), .int .i64 K, .string Dt]), (.bool false)], []⟩ ∧ X w') ⟨#[(.slice (some ⟨ga, oa, none⟩) n ca), (.slice (some ⟨gb, ob, none⟩) n cb), u2, u3, u4, (.int .i64 (k : Int)), u6, u7, u8, u9, u10, u11, u12, u13, u14, u15, u16, u17, u18, u19, u20, u21, u22, u23, u24, u25], []⟩ w := by
  subst hops
  have hNS : Region.noSelect (Rg.opsOf Tryz.f14 6) = true := by kernel_rfl
  refine wp_region_held_drew (S := X) (by kernel_rfl) hw (fun hHeld => ?_)
  rw [show (Rg.opsOf Tryz.f14 6).size = 9 by kernel_rfl]
  refine Rg.take (ops := (Rg.opsOf Tryz.f14 6)) 0 (some 17) ((.slice (some ⟨ga, oa, none⟩) n ca)) hNS (by kernel_rfl) (by kernel_rfl) (by kernel_rfl) (by kernel_rfl) (by kernel_rfl) hHeld (Rg.y_move (x := (Operand.tmp 0)) (Or.inl (by kernel_rfl)) (by kernel_rfl)) ?_
  refine Rg.take (ops := (Rg.opsOf Tryz.f14 6)) 1 (some 18) ((.int .i64 (k : Int))) hNS (by kernel_rfl) (by kernel_rfl) (by kernel_rfl) (by kernel_rfl) (by kernel_rfl) hHeld (Rg.y_move (x := (Operand.tmp 5)) (Or.inl (by kernel_rfl)) (by kernel_rfl)) ?_
  refine Rg.take (ops := (Rg.opsOf Tryz.f14 6)) 2 (some 19) ((.pointer (some ⟨ga, oa + k * 4, none⟩))) hNS (by kernel_rfl) (by kernel_rfl) (by kernel_rfl) (by kernel_rfl) (by kernel_rfl) hHeld (Rg.y_at (T := 28) (x := (Operand.tmp 17)) (y := (Operand.tmp 18)) (vx := (.slice (some ⟨ga, oa, none⟩) n ca)) (vy := (.int .i64 (k : Int))) (by kernel_rfl) (by kernel_rfl) (by kernel_rfl) ?_) ?_
  · (intro W hSw; clear hSw hHeld; go_simp)
  refine Rg.take (ops := (Rg.opsOf Tryz.f14 6)) 3 (some 20) ((.agg #[.string p, .int .i64 (st : Int), .int .i64 K, .string Dt])) hNS (by kernel_rfl) (by kernel_rfl) (by kernel_rfl) (by kernel_rfl) (by kernel_rfl) hHeld (Rg.y_load (T := 83) (x := (Operand.tmp 19)) (vx := (.pointer (some ⟨ga, oa + k * 4, none⟩))) (by kernel_rfl) (by kernel_rfl) ?_) ?_
  · (intro W hSw; obtain ⟨s0, s1, s2, s3, t0, t1, t2, t3⟩ := hX _ hSw; clear hSw hHeld; go_simp)
  refine Rg.take (ops := (Rg.opsOf Tryz.f14 6)) 4 (some 21) ((.slice (some ⟨gb, ob, none⟩) n cb)) hNS (by kernel_rfl) (by kernel_rfl) (by kernel_rfl) (by kernel_rfl) (by kernel_rfl) hHeld (Rg.y_move (x := (Operand.tmp 1)) (Or.inl (by kernel_rfl)) (by kernel_rfl)) ?_
  refine Rg.take (ops := (Rg.opsOf Tryz.f14 6)) 5 (some 22) ((.int .i64 (k : Int))) hNS (by kernel_rfl) (by kernel_rfl) (by kernel_rfl) (by kernel_rfl) (by kernel_rfl) hHeld (Rg.y_move (x := (Operand.tmp 5)) (Or.inl (by kernel_rfl)) (by kernel_rfl)) ?_
  refine Rg.take (ops := (Rg.opsOf Tryz.f14 6)) 6 (some 23) ((.pointer (some ⟨gb, ob + k * 4, none⟩))) hNS (by kernel_rfl) (by kernel_rfl) (by kernel_rfl) (by kernel_rfl) (by kernel_rfl) hHeld (Rg.y_at (T := 28) (x := (Operand.tmp 21)) (y := (Operand.tmp 22)) (vx := (.slice (some ⟨gb, ob, none⟩) n cb)) (vy := (.int .i64 (k : Int))) (by kernel_rfl) (by kernel_rfl) (by kernel_rfl) ?_) ?_
  · (intro W hSw; clear hSw hHeld; go_simp)
  refine Rg.take (ops := (Rg.opsOf Tryz.f14 6)) 7 (some 24) ((.agg #[.string p, .int .i64 (st : Int), .int .i64 K, .string Dt])) hNS (by kernel_rfl) (by kernel_rfl) (by kernel_rfl) (by kernel_rfl) (by kernel_rfl) hHeld (Rg.y_load (T := 83) (x := (Operand.tmp 23)) (vx := (.pointer (some ⟨gb, ob + k * 4, none⟩))) (by kernel_rfl) (by kernel_rfl) ?_) ?_
  · (intro W hSw; obtain ⟨s0, s1, s2, s3, t0, t1, t2, t3⟩ := hX _ hSw; clear hSw hHeld; go_simp)
  refine Rg.take (ops := (Rg.opsOf Tryz.f14 6)) 8 (some 25) ((.bool false)) hNS (by kernel_rfl) (by kernel_rfl) (by kernel_rfl) (by kernel_rfl) (by kernel_rfl) hHeld (Rg.y_bin (b := BinOp.neq) (T := 83) (R' := 83) (x := (Operand.tmp 20)) (y := (Operand.tmp 24)) (vx := (.agg #[.string p, .int .i64 (st : Int), .int .i64 K, .string Dt])) (vy := (.agg #[.string p, .int .i64 (st : Int), .int .i64 K, .string Dt])) (by kernel_rfl) (by kernel_rfl) (by kernel_rfl) ?_) ?_
  · (intro W hSw; clear hSw hHeld; have hg : Tryz.prog.eqGuardType Tryz.prog.depth 83 = false := (by kernel_rfl); have h1 := S1 W; go_simp)
  refine Rg.done (ops := (Rg.opsOf Tryz.f14 6)) (by kernel_rfl) ?_
  exact ⟨by kernel_rfl, hHeld⟩
set_option maxRecDepth 100000 in
set_option maxHeartbeats 4000000 in
theorem readA (ops : Array Oper) (hops : ops = (Rg.opsOf Tryz.f13 10)) (id : Nat) (gs os ms cs gn on mn cn k j ys xs : Nat) (yp xp : ByteArray) (yk : Int) (e3 : Bool) {u0 u1 u3 u4 u5 u6 u8 u12 u13 u14 u15 u16 u17 u18 u19 u20 u21 u22 u23 u24 u25 u26 u27 u28 u29 u30 u31 u32 u33 u34 u35 u36 u37 u38 u39 u40 u41 u42 u43 u44 u45 u46 u47 u48 u49 u50 u51 u52 u53 u54 u55 u56 u57 u58 u59 u60 u61 u62 u63 u64 u65 u66 u67 u68 u69 u70 u71 u72 u73 u74 : Value} (w : World) (hk : (k : Int) < (mn : Int)) (hj : (j : Int) < (ms : Int)) (X : World → Prop)
    (hX : ∀ W, X W → W.cell? ⟨gs, os + j * 4, none⟩ = some (.string yp) ∧ W.cell? ⟨gs, os + j * 4 + 1, none⟩ = some (.int .i64 (ys : Int)) ∧ W.cell? ⟨gs, os + j * 4 + 2, none⟩ = some (.int .i64 yk) ∧ W.cell? ⟨gn, on + k * 4, none⟩ = some (.string xp) ∧ W.cell? ⟨gn, on + k * 4 + 1, none⟩ = some (.int .i64 (xs : Int))) (hw : X w.drew) :
    (Code.region id ops true).wp Tryz.prog (Rg.Only fun a' w' => a' = ⟨#[u0, u1, (.slice (some ⟨gs, os, none⟩) ms cs), u3, u4, u5, u6, (.slice (some ⟨gn, on, none⟩) mn cn), u8, (.int .i64 (k : Int)), (Value.bool true), (.int .i64 (j : Int)), u12, u13, u14, u15, u16, u17, u18, u19, u20, u21, u22, u23, u24, u25, u26, u27, u28, u29, u30, u31, u32, u33, (.bool true), (.bool true), undef, undef, undef, undef, undef, undef, undef, undef, undef, undef, undef, undef, undef, undef, undef, undef, undef, undef, undef, undef, undef, undef, undef, undef, undef, undef, undef, undef, undef, undef, undef, undef, undef, (Value.bool true), u70, u71, u72, u73, u74], []⟩ ∧ X w') ⟨#[u0, u1, (.slice (some ⟨gs, os, none⟩) ms cs), u3, u4, u5, u6, (.slice (some ⟨gn, on, none⟩) mn cn), u8, (.int .i64 (k : Int)), (.bool true), (.int .i64 (j : Int)), u12, u13, u14, u15, u16, u17, u18, u19, u20, u21, u22, u23, u24, u25, u26, u27, u28, u29, u30, u31, u32, u33, u34, u35, u36, u37, u38, u39, u40, u41, u42, u43, u44, u45, u46, u47, u48, u49, u50, u51, u52, u53, u54, u55, u56, u57, u58, u59, u60, u61, u62, u63, u64, u65, u66, u67, u68, u69, u70, u71, u72, u73, u74], []⟩ w := by
  subst hops
  have hNS : Region.noSelect (Rg.opsOf Tryz.f13 10) = true := by kernel_rfl
  refine wp_region_held_drew (S := X) (by kernel_rfl) hw (fun hHeld => ?_)
  rw [show (Rg.opsOf Tryz.f13 10).size = 37 by kernel_rfl]
  refine Rg.take (ops := (Rg.opsOf Tryz.f13 10)) 0 (some 34) ((.bool true)) hNS (by kernel_rfl) (by kernel_rfl) (by kernel_rfl) (by kernel_rfl) (by kernel_rfl) hHeld (Rg.y_move (x := (Operand.tmp 10)) (Or.inl (by kernel_rfl)) (by kernel_rfl)) ?_
  refine Rg.take (ops := (Rg.opsOf Tryz.f13 10)) 1 (some 35) ((.bool true)) hNS (by kernel_rfl) (by kernel_rfl) (by kernel_rfl) (by kernel_rfl) (by kernel_rfl) hHeld (Rg.y_move (x := (Operand.tmp 34)) (Or.inl (by kernel_rfl)) (by kernel_rfl)) ?_
  refine Rg.skip (ops := (Rg.opsOf Tryz.f13 10)) 2 (some 36) hNS (by kernel_rfl) (by kernel_rfl) (by kernel_rfl) (by kernel_rfl) (by kernel_rfl) hHeld ?_
  refine Rg.skip (ops := (Rg.opsOf Tryz.f13 10)) 3 (some 37) hNS (by kernel_rfl) (by kernel_rfl) (by kernel_rfl) (by kernel_rfl) (by kernel_rfl) hHeld ?_
  refine Rg.skip (ops := (Rg.opsOf Tryz.f13 10)) 4 (some 38) hNS (by kernel_rfl) (by kernel_rfl) (by kernel_rfl) (by kernel_rfl) (by kernel_rfl) hHeld ?_
  refine Rg.skip (ops := (Rg.opsOf Tryz.f13 10)) 5 (some 39) hNS (by kernel_rfl) (by kernel_rfl) (by kernel_rfl) (by kernel_rfl) (by kernel_rfl) hHeld ?_
  refine Rg.skip (ops := (Rg.opsOf Tryz.f13 10)) 6 (some 40) hNS (by kernel_rfl) (by kernel_rfl) (by kernel_rfl) (by kernel_rfl) (by kernel_rfl) hHeld ?_
  refine Rg.skip (ops := (Rg.opsOf Tryz.f13 10)) 7 (some 41) hNS (by kernel_rfl) (by kernel_rfl) (by kernel_rfl) (by kernel_rfl) (by kernel_rfl) hHeld ?_
  refine Rg.skip (ops := (Rg.opsOf Tryz.f13 10)) 8 (some 42) hNS (by kernel_rfl) (by kernel_rfl) (by kernel_rfl) (by kernel_rfl) (by kernel_rfl) hHeld ?_
  refine Rg.skip (ops := (Rg.opsOf Tryz.f13 10)) 9 (some 43) hNS (by kernel_rfl) (by kernel_rfl) (by kernel_rfl) (by kernel_rfl) (by kernel_rfl) hHeld ?_
  refine Rg.skip (ops := (Rg.opsOf Tryz.f13 10)) 10 (some 44) hNS (by kernel_rfl) (by kernel_rfl) (by kernel_rfl) (by kernel_rfl) (by kernel_rfl) hHeld ?_
  refine Rg.skip (ops := (Rg.opsOf Tryz.f13 10)) 11 (some 45) hNS (by kernel_rfl) (by kernel_rfl) (by kernel_rfl) (by kernel_rfl) (by kernel_rfl) hHeld ?_
  refine Rg.skip (ops := (Rg.opsOf Tryz.f13 10)) 12 (some 46) hNS (by kernel_rfl) (by kernel_rfl) (by kernel_rfl) (by kernel_rfl) (by kernel_rfl) hHeld ?_
  refine Rg.skip (ops := (Rg.opsOf Tryz.f13 10)) 13 (some 47) hNS (by kernel_rfl) (by kernel_rfl) (by kernel_rfl) (by kernel_rfl) (by kernel_rfl) hHeld ?_
  refine Rg.skip (ops := (Rg.opsOf Tryz.f13 10)) 14 (some 48) hNS (by kernel_rfl) (by kernel_rfl) (by kernel_rfl) (by kernel_rfl) (by kernel_rfl) hHeld ?_
  refine Rg.skip (ops := (Rg.opsOf Tryz.f13 10)) 15 (some 49) hNS (by kernel_rfl) (by kernel_rfl) (by kernel_rfl) (by kernel_rfl) (by kernel_rfl) hHeld ?_
  refine Rg.skip (ops := (Rg.opsOf Tryz.f13 10)) 16 (some 50) hNS (by kernel_rfl) (by kernel_rfl) (by kernel_rfl) (by kernel_rfl) (by kernel_rfl) hHeld ?_
  refine Rg.skip (ops := (Rg.opsOf Tryz.f13 10)) 17 (some 51) hNS (by kernel_rfl) (by kernel_rfl) (by kernel_rfl) (by kernel_rfl) (by kernel_rfl) hHeld ?_
  refine Rg.skip (ops := (Rg.opsOf Tryz.f13 10)) 18 (some 52) hNS (by kernel_rfl) (by kernel_rfl) (by kernel_rfl) (by kernel_rfl) (by kernel_rfl) hHeld ?_
  refine Rg.skip (ops := (Rg.opsOf Tryz.f13 10)) 19 (some 53) hNS (by kernel_rfl) (by kernel_rfl) (by kernel_rfl) (by kernel_rfl) (by kernel_rfl) hHeld ?_
  refine Rg.skip (ops := (Rg.opsOf Tryz.f13 10)) 20 (some 54) hNS (by kernel_rfl) (by kernel_rfl) (by kernel_rfl) (by kernel_rfl) (by kernel_rfl) hHeld ?_
  refine Rg.skip (ops := (Rg.opsOf Tryz.f13 10)) 21 (some 55) hNS (by kernel_rfl) (by kernel_rfl) (by kernel_rfl) (by kernel_rfl) (by kernel_rfl) hHeld ?_
  refine Rg.skip (ops := (Rg.opsOf Tryz.f13 10)) 22 (some 56) hNS (by kernel_rfl) (by kernel_rfl) (by kernel_rfl) (by kernel_rfl) (by kernel_rfl) hHeld ?_
  refine Rg.skip (ops := (Rg.opsOf Tryz.f13 10)) 23 (some 57) hNS (by kernel_rfl) (by kernel_rfl) (by kernel_rfl) (by kernel_rfl) (by kernel_rfl) hHeld ?_
  refine Rg.skip (ops := (Rg.opsOf Tryz.f13 10)) 24 (some 58) hNS (by kernel_rfl) (by kernel_rfl) (by kernel_rfl) (by kernel_rfl) (by kernel_rfl) hHeld ?_
  refine Rg.skip (ops := (Rg.opsOf Tryz.f13 10)) 25 (some 59) hNS (by kernel_rfl) (by kernel_rfl) (by kernel_rfl) (by kernel_rfl) (by kernel_rfl) hHeld ?_
  refine Rg.skip (ops := (Rg.opsOf Tryz.f13 10)) 26 (some 60) hNS (by kernel_rfl) (by kernel_rfl) (by kernel_rfl) (by kernel_rfl) (by kernel_rfl) hHeld ?_
  refine Rg.skip (ops := (Rg.opsOf Tryz.f13 10)) 27 (some 61) hNS (by kernel_rfl) (by kernel_rfl) (by kernel_rfl) (by kernel_rfl) (by kernel_rfl) hHeld ?_
  refine Rg.skip (ops := (Rg.opsOf Tryz.f13 10)) 28 (some 62) hNS (by kernel_rfl) (by kernel_rfl) (by kernel_rfl) (by kernel_rfl) (by kernel_rfl) hHeld ?_
  refine Rg.skip (ops := (Rg.opsOf Tryz.f13 10)) 29 (some 63) hNS (by kernel_rfl) (by kernel_rfl) (by kernel_rfl) (by kernel_rfl) (by kernel_rfl) hHeld ?_
  refine Rg.skip (ops := (Rg.opsOf Tryz.f13 10)) 30 (some 64) hNS (by kernel_rfl) (by kernel_rfl) (by kernel_rfl) (by kernel_rfl) (by kernel_rfl) hHeld ?_
  refine Rg.skip (ops := (Rg.opsOf Tryz.f13 10)) 31 (some 65) hNS (by kernel_rfl) (by kernel_rfl) (by kernel_rfl) (by kernel_rfl) (by kernel_rfl) hHeld ?_
  refine Rg.skip (ops := (Rg.opsOf Tryz.f13 10)) 32 (some 66) hNS (by kernel_rfl) (by kernel_rfl) (by kernel_rfl) (by kernel_rfl) (by kernel_rfl) hHeld ?_
  refine Rg.skip (ops := (Rg.opsOf Tryz.f13 10)) 33 (some 67) hNS (by kernel_rfl) (by kernel_rfl) (by kernel_rfl) (by kernel_rfl) (by kernel_rfl) hHeld ?_
  refine Rg.skip (ops := (Rg.opsOf Tryz.f13 10)) 34 (some 68) hNS (by kernel_rfl) (by kernel_rfl) (by kernel_rfl) (by kernel_rfl) (by kernel_rfl) hHeld ?_
  refine Rg.take (ops := (Rg.opsOf Tryz.f13 10)) 35 (some 69) ((Value.bool true)) hNS (by kernel_rfl) (by kernel_rfl) (by kernel_rfl) (by kernel_rfl) (by kernel_rfl) hHeld (Rg.y_pick (c := (Operand.tmp 35)) (x := (Operand.const (Value.bool true))) (y := (Operand.tmp 68)) (b := true) (by kernel_rfl) (by kernel_rfl) (by kernel_rfl)) ?_
  refine Rg.take (ops := (Rg.opsOf Tryz.f13 10)) 36 (some 10) ((Value.bool true)) hNS (by kernel_rfl) (by kernel_rfl) (by kernel_rfl) (by kernel_rfl) (by kernel_rfl) hHeld (Rg.y_move (x := (Operand.tmp 69)) (Or.inr (by kernel_rfl)) (by kernel_rfl)) ?_
  refine Rg.done (ops := (Rg.opsOf Tryz.f13 10)) (by kernel_rfl) ?_
  exact ⟨by kernel_rfl, hHeld⟩
set_option maxRecDepth 100000 in
set_option maxHeartbeats 4000000 in
theorem readB (ops : Array Oper) (hops : ops = (Rg.opsOf Tryz.f13 10)) (id : Nat) (gs os ms cs gn on mn cn k j ys xs : Nat) (yp xp : ByteArray) (yk : Int) (e3 : Bool) {u0 u1 u3 u4 u5 u6 u8 u12 u13 u14 u15 u16 u17 u18 u19 u20 u21 u22 u23 u24 u25 u26 u27 u28 u29 u30 u31 u32 u33 u34 u35 u36 u37 u38 u39 u40 u41 u42 u43 u44 u45 u46 u47 u48 u49 u50 u51 u52 u53 u54 u55 u56 u57 u58 u59 u60 u61 u62 u63 u64 u65 u66 u67 u68 u69 u70 u71 u72 u73 u74 : Value} (w : World) (hk : (k : Int) < (mn : Int)) (hj : (j : Int) < (ms : Int)) (X : World → Prop)
    (hX : ∀ W, X W → W.cell? ⟨gs, os + j * 4, none⟩ = some (.string yp) ∧ W.cell? ⟨gs, os + j * 4 + 1, none⟩ = some (.int .i64 (ys : Int)) ∧ W.cell? ⟨gs, os + j * 4 + 2, none⟩ = some (.int .i64 yk) ∧ W.cell? ⟨gn, on + k * 4, none⟩ = some (.string xp) ∧ W.cell? ⟨gn, on + k * 4 + 1, none⟩ = some (.int .i64 (xs : Int))) (hw : X w.drew)
    (S1 : ∀ W : World, (binOp .eql 9 (.string yp) (.string xp)).run Tryz.prog W = .ok (.bool false) W) :
    (Code.region id ops true).wp Tryz.prog (Rg.Only fun a' w' => a' = ⟨#[u0, u1, (.slice (some ⟨gs, os, none⟩) ms cs), u3, u4, u5, u6, (.slice (some ⟨gn, on, none⟩) mn cn), u8, (.int .i64 (k : Int)), (Value.bool false), (.int .i64 (j : Int)), u12, u13, u14, u15, u16, u17, u18, u19, u20, u21, u22, u23, u24, u25, u26, u27, u28, u29, u30, u31, u32, u33, (.bool false), (.bool false), (.slice (some ⟨gs, os, none⟩) ms cs), (.int .i64 (j : Int)), (.pointer (some ⟨gs, os + j * 4, none⟩)), (.pointer (some ⟨gs, os + j * 4, none⟩)), (.string yp), (.slice (some ⟨gn, on, none⟩) mn cn), (.int .i64 (k : Int)), (.pointer (some ⟨gn, on + k * 4, none⟩)), (.pointer (some ⟨gn, on + k * 4, none⟩)), (.string xp), (.bool false), (.bool false), undef, undef, undef, undef, undef, undef, undef, undef, undef, undef, undef, (Value.bool false), (Value.bool false), undef, undef, undef, undef, undef, undef, undef, (Value.bool false), (Value.bool false), u70, u71, u72, u73, u74], []⟩ ∧ X w') ⟨#[u0, u1, (.slice (some ⟨gs, os, none⟩) ms cs), u3, u4, u5, u6, (.slice (some ⟨gn, on, none⟩) mn cn), u8, (.int .i64 (k : Int)), (.bool false), (.int .i64 (j : Int)), u12, u13, u14, u15, u16, u17, u18, u19, u20, u21, u22, u23, u24, u25, u26, u27, u28, u29, u30, u31, u32, u33, u34, u35, u36, u37, u38, u39, u40, u41, u42, u43, u44, u45, u46, u47, u48, u49, u50, u51, u52, u53, u54, u55, u56, u57, u58, u59, u60, u61, u62, u63, u64, u65, u66, u67, u68, u69, u70, u71, u72, u73, u74], []⟩ w := by
  subst hops
  have hNS : Region.noSelect (Rg.opsOf Tryz.f13 10) = true := by kernel_rfl
  refine wp_region_held_drew (S := X) (by kernel_rfl) hw (fun hHeld => ?_)
  rw [show (Rg.opsOf Tryz.f13 10).size = 37 by kernel_rfl]
  refine Rg.take (ops := (Rg.opsOf Tryz.f13 10)) 0 (some 34) ((.bool false)) hNS (by kernel_rfl) (by kernel_rfl) (by kernel_rfl) (by kernel_rfl) (by kernel_rfl) hHeld (Rg.y_move (x := (Operand.tmp 10)) (Or.inl (by kernel_rfl)) (by kernel_rfl)) ?_
  refine Rg.take (ops := (Rg.opsOf Tryz.f13 10)) 1 (some 35) ((.bool false)) hNS (by kernel_rfl) (by kernel_rfl) (by kernel_rfl) (by kernel_rfl) (by kernel_rfl) hHeld (Rg.y_move (x := (Operand.tmp 34)) (Or.inl (by kernel_rfl)) (by kernel_rfl)) ?_
  refine Rg.take (ops := (Rg.opsOf Tryz.f13 10)) 2 (some 36) ((.slice (some ⟨gs, os, none⟩) ms cs)) hNS (by kernel_rfl) (by kernel_rfl) (by kernel_rfl) (by kernel_rfl) (by kernel_rfl) hHeld (Rg.y_move (x := (Operand.tmp 2)) (Or.inl (by kernel_rfl)) (by kernel_rfl)) ?_
  refine Rg.take (ops := (Rg.opsOf Tryz.f13 10)) 3 (some 37) ((.int .i64 (j : Int))) hNS (by kernel_rfl) (by kernel_rfl) (by kernel_rfl) (by kernel_rfl) (by kernel_rfl) hHeld (Rg.y_move (x := (Operand.tmp 11)) (Or.inl (by kernel_rfl)) (by kernel_rfl)) ?_
  refine Rg.take (ops := (Rg.opsOf Tryz.f13 10)) 4 (some 38) ((.pointer (some ⟨gs, os + j * 4, none⟩))) hNS (by kernel_rfl) (by kernel_rfl) (by kernel_rfl) (by kernel_rfl) (by kernel_rfl) hHeld (Rg.y_at (T := 28) (x := (Operand.tmp 36)) (y := (Operand.tmp 37)) (vx := (.slice (some ⟨gs, os, none⟩) ms cs)) (vy := (.int .i64 (j : Int))) (by kernel_rfl) (by kernel_rfl) (by kernel_rfl) ?_) ?_
  · (intro W hSw; clear hSw hHeld; go_simp <;> first | omega | (intro h0; omega))
  refine Rg.take (ops := (Rg.opsOf Tryz.f13 10)) 5 (some 39) ((.pointer (some ⟨gs, os + j * 4, none⟩))) hNS (by kernel_rfl) (by kernel_rfl) (by kernel_rfl) (by kernel_rfl) (by kernel_rfl) hHeld (Rg.y_field (T := 83) (k := 0) (x := (Operand.tmp 38)) (vx := (.pointer (some ⟨gs, os + j * 4, none⟩))) (by kernel_rfl) (by kernel_rfl) ?_) ?_
  · (intro W hSw; clear hSw hHeld; go_simp)
  refine Rg.take (ops := (Rg.opsOf Tryz.f13 10)) 6 (some 40) ((.string yp)) hNS (by kernel_rfl) (by kernel_rfl) (by kernel_rfl) (by kernel_rfl) (by kernel_rfl) hHeld (Rg.y_load (T := 9) (x := (Operand.tmp 39)) (vx := (.pointer (some ⟨gs, os + j * 4, none⟩))) (by kernel_rfl) (by kernel_rfl) ?_) ?_
  · (intro W hSw; obtain ⟨s0, s1, s2, t0, t1⟩ := hX _ hSw; clear hSw hHeld; go_simp)
  refine Rg.take (ops := (Rg.opsOf Tryz.f13 10)) 7 (some 41) ((.slice (some ⟨gn, on, none⟩) mn cn)) hNS (by kernel_rfl) (by kernel_rfl) (by kernel_rfl) (by kernel_rfl) (by kernel_rfl) hHeld (Rg.y_move (x := (Operand.tmp 7)) (Or.inl (by kernel_rfl)) (by kernel_rfl)) ?_
  refine Rg.take (ops := (Rg.opsOf Tryz.f13 10)) 8 (some 42) ((.int .i64 (k : Int))) hNS (by kernel_rfl) (by kernel_rfl) (by kernel_rfl) (by kernel_rfl) (by kernel_rfl) hHeld (Rg.y_move (x := (Operand.tmp 9)) (Or.inl (by kernel_rfl)) (by kernel_rfl)) ?_
  refine Rg.take (ops := (Rg.opsOf Tryz.f13 10)) 9 (some 43) ((.pointer (some ⟨gn, on + k * 4, none⟩))) hNS (by kernel_rfl) (by kernel_rfl) (by kernel_rfl) (by kernel_rfl) (by kernel_rfl) hHeld (Rg.y_at (T := 28) (x := (Operand.tmp 41)) (y := (Operand.tmp 42)) (vx := (.slice (some ⟨gn, on, none⟩) mn cn)) (vy := (.int .i64 (k : Int))) (by kernel_rfl) (by kernel_rfl) (by kernel_rfl) ?_) ?_
  · (intro W hSw; clear hSw hHeld; go_simp <;> first | omega | (intro h0; omega))
  refine Rg.take (ops := (Rg.opsOf Tryz.f13 10)) 10 (some 44) ((.pointer (some ⟨gn, on + k * 4, none⟩))) hNS (by kernel_rfl) (by kernel_rfl) (by kernel_rfl) (by kernel_rfl) (by kernel_rfl) hHeld (Rg.y_field (T := 83) (k := 0) (x := (Operand.tmp 43)) (vx := (.pointer (some ⟨gn, on + k * 4, none⟩))) (by kernel_rfl) (by kernel_rfl) ?_) ?_
  · (intro W hSw; clear hSw hHeld; go_simp)
  refine Rg.take (ops := (Rg.opsOf Tryz.f13 10)) 11 (some 45) ((.string xp)) hNS (by kernel_rfl) (by kernel_rfl) (by kernel_rfl) (by kernel_rfl) (by kernel_rfl) hHeld (Rg.y_load (T := 9) (x := (Operand.tmp 44)) (vx := (.pointer (some ⟨gn, on + k * 4, none⟩))) (by kernel_rfl) (by kernel_rfl) ?_) ?_
  · (intro W hSw; obtain ⟨s0, s1, s2, t0, t1⟩ := hX _ hSw; clear hSw hHeld; go_simp)
  refine Rg.take (ops := (Rg.opsOf Tryz.f13 10)) 12 (some 46) ((.bool false)) hNS (by kernel_rfl) (by kernel_rfl) (by kernel_rfl) (by kernel_rfl) (by kernel_rfl) hHeld (Rg.y_bin (b := BinOp.eql) (T := 9) (R' := 9) (x := (Operand.tmp 40)) (y := (Operand.tmp 45)) (vx := (.string yp)) (vy := (.string xp)) (by kernel_rfl) (by kernel_rfl) (by kernel_rfl) ?_) ?_
  · (intro W hSw; clear hSw hHeld; exact S1 W)
  refine Rg.take (ops := (Rg.opsOf Tryz.f13 10)) 13 (some 47) ((.bool false)) hNS (by kernel_rfl) (by kernel_rfl) (by kernel_rfl) (by kernel_rfl) (by kernel_rfl) hHeld (Rg.y_move (x := (Operand.tmp 46)) (Or.inl (by kernel_rfl)) (by kernel_rfl)) ?_
  refine Rg.skip (ops := (Rg.opsOf Tryz.f13 10)) 14 (some 48) hNS (by kernel_rfl) (by kernel_rfl) (by kernel_rfl) (by kernel_rfl) (by kernel_rfl) hHeld ?_
  refine Rg.skip (ops := (Rg.opsOf Tryz.f13 10)) 15 (some 49) hNS (by kernel_rfl) (by kernel_rfl) (by kernel_rfl) (by kernel_rfl) (by kernel_rfl) hHeld ?_
  refine Rg.skip (ops := (Rg.opsOf Tryz.f13 10)) 16 (some 50) hNS (by kernel_rfl) (by kernel_rfl) (by kernel_rfl) (by kernel_rfl) (by kernel_rfl) hHeld ?_
  refine Rg.skip (ops := (Rg.opsOf Tryz.f13 10)) 17 (some 51) hNS (by kernel_rfl) (by kernel_rfl) (by kernel_rfl) (by kernel_rfl) (by kernel_rfl) hHeld ?_
  refine Rg.skip (ops := (Rg.opsOf Tryz.f13 10)) 18 (some 52) hNS (by kernel_rfl) (by kernel_rfl) (by kernel_rfl) (by kernel_rfl) (by kernel_rfl) hHeld ?_
  refine Rg.skip (ops := (Rg.opsOf Tryz.f13 10)) 19 (some 53) hNS (by kernel_rfl) (by kernel_rfl) (by kernel_rfl) (by kernel_rfl) (by kernel_rfl) hHeld ?_
  refine Rg.skip (ops := (Rg.opsOf Tryz.f13 10)) 20 (some 54) hNS (by kernel_rfl) (by kernel_rfl) (by kernel_rfl) (by kernel_rfl) (by kernel_rfl) hHeld ?_
  refine Rg.skip (ops := (Rg.opsOf Tryz.f13 10)) 21 (some 55) hNS (by kernel_rfl) (by kernel_rfl) (by kernel_rfl) (by kernel_rfl) (by kernel_rfl) hHeld ?_
  refine Rg.skip (ops := (Rg.opsOf Tryz.f13 10)) 22 (some 56) hNS (by kernel_rfl) (by kernel_rfl) (by kernel_rfl) (by kernel_rfl) (by kernel_rfl) hHeld ?_
  refine Rg.skip (ops := (Rg.opsOf Tryz.f13 10)) 23 (some 57) hNS (by kernel_rfl) (by kernel_rfl) (by kernel_rfl) (by kernel_rfl) (by kernel_rfl) hHeld ?_
  refine Rg.skip (ops := (Rg.opsOf Tryz.f13 10)) 24 (some 58) hNS (by kernel_rfl) (by kernel_rfl) (by kernel_rfl) (by kernel_rfl) (by kernel_rfl) hHeld ?_
  refine Rg.take (ops := (Rg.opsOf Tryz.f13 10)) 25 (some 59) ((Value.bool false)) hNS (by kernel_rfl) (by kernel_rfl) (by kernel_rfl) (by kernel_rfl) (by kernel_rfl) hHeld (Rg.y_pick (c := (Operand.tmp 47)) (x := (Operand.tmp 58)) (y := (Operand.const (Value.bool false))) (b := false) (by kernel_rfl) (by kernel_rfl) (by kernel_rfl)) ?_
  refine Rg.take (ops := (Rg.opsOf Tryz.f13 10)) 26 (some 60) ((Value.bool false)) hNS (by kernel_rfl) (by kernel_rfl) (by kernel_rfl) (by kernel_rfl) (by kernel_rfl) hHeld (Rg.y_move (x := (Operand.tmp 59)) (Or.inl (by kernel_rfl)) (by kernel_rfl)) ?_
  refine Rg.skip (ops := (Rg.opsOf Tryz.f13 10)) 27 (some 61) hNS (by kernel_rfl) (by kernel_rfl) (by kernel_rfl) (by kernel_rfl) (by kernel_rfl) hHeld ?_
  refine Rg.skip (ops := (Rg.opsOf Tryz.f13 10)) 28 (some 62) hNS (by kernel_rfl) (by kernel_rfl) (by kernel_rfl) (by kernel_rfl) (by kernel_rfl) hHeld ?_
  refine Rg.skip (ops := (Rg.opsOf Tryz.f13 10)) 29 (some 63) hNS (by kernel_rfl) (by kernel_rfl) (by kernel_rfl) (by kernel_rfl) (by kernel_rfl) hHeld ?_
  refine Rg.skip (ops := (Rg.opsOf Tryz.f13 10)) 30 (some 64) hNS (by kernel_rfl) (by kernel_rfl) (by kernel_rfl) (by kernel_rfl) (by kernel_rfl) hHeld ?_
  refine Rg.skip (ops := (Rg.opsOf Tryz.f13 10)) 31 (some 65) hNS (by kernel_rfl) (by kernel_rfl) (by kernel_rfl) (by kernel_rfl) (by kernel_rfl) hHeld ?_
  refine Rg.skip (ops := (Rg.opsOf Tryz.f13 10)) 32 (some 66) hNS (by kernel_rfl) (by kernel_rfl) (by kernel_rfl) (by kernel_rfl) (by kernel_rfl) hHeld ?_
  refine Rg.skip (ops := (Rg.opsOf Tryz.f13 10)) 33 (some 67) hNS (by kernel_rfl) (by kernel_rfl) (by kernel_rfl) (by kernel_rfl) (by kernel_rfl) hHeld ?_
  refine Rg.take (ops := (Rg.opsOf Tryz.f13 10)) 34 (some 68) ((Value.bool false)) hNS (by kernel_rfl) (by kernel_rfl) (by kernel_rfl) (by kernel_rfl) (by kernel_rfl) hHeld (Rg.y_pick (c := (Operand.tmp 60)) (x := (Operand.tmp 67)) (y := (Operand.const (Value.bool false))) (b := false) (by kernel_rfl) (by kernel_rfl) (by kernel_rfl)) ?_
  refine Rg.take (ops := (Rg.opsOf Tryz.f13 10)) 35 (some 69) ((Value.bool false)) hNS (by kernel_rfl) (by kernel_rfl) (by kernel_rfl) (by kernel_rfl) (by kernel_rfl) hHeld (Rg.y_pick (c := (Operand.tmp 35)) (x := (Operand.const (Value.bool true))) (y := (Operand.tmp 68)) (b := false) (by kernel_rfl) (by kernel_rfl) (by kernel_rfl)) ?_
  refine Rg.take (ops := (Rg.opsOf Tryz.f13 10)) 36 (some 10) ((Value.bool false)) hNS (by kernel_rfl) (by kernel_rfl) (by kernel_rfl) (by kernel_rfl) (by kernel_rfl) hHeld (Rg.y_move (x := (Operand.tmp 69)) (Or.inr (by kernel_rfl)) (by kernel_rfl)) ?_
  refine Rg.done (ops := (Rg.opsOf Tryz.f13 10)) (by kernel_rfl) ?_
  exact ⟨by kernel_rfl, hHeld⟩
set_option maxRecDepth 100000 in
set_option maxHeartbeats 4000000 in
theorem readC (ops : Array Oper) (hops : ops = (Rg.opsOf Tryz.f13 10)) (id : Nat) (gs os ms cs gn on mn cn k j ys xs : Nat) (yp xp : ByteArray) (yk : Int) (e3 : Bool) {u0 u1 u3 u4 u5 u6 u8 u12 u13 u14 u15 u16 u17 u18 u19 u20 u21 u22 u23 u24 u25 u26 u27 u28 u29 u30 u31 u32 u33 u34 u35 u36 u37 u38 u39 u40 u41 u42 u43 u44 u45 u46 u47 u48 u49 u50 u51 u52 u53 u54 u55 u56 u57 u58 u59 u60 u61 u62 u63 u64 u65 u66 u67 u68 u69 u70 u71 u72 u73 u74 : Value} (w : World) (hk : (k : Int) < (mn : Int)) (hj : (j : Int) < (ms : Int)) (X : World → Prop)
    (hX : ∀ W, X W → W.cell? ⟨gs, os + j * 4, none⟩ = some (.string yp) ∧ W.cell? ⟨gs, os + j * 4 + 1, none⟩ = some (.int .i64 (ys : Int)) ∧ W.cell? ⟨gs, os + j * 4 + 2, none⟩ = some (.int .i64 yk) ∧ W.cell? ⟨gn, on + k * 4, none⟩ = some (.string xp) ∧ W.cell? ⟨gn, on + k * 4 + 1, none⟩ = some (.int .i64 (xs : Int))) (hw : X w.drew)
    (S1 : ∀ W : World, (binOp .eql 9 (.string yp) (.string xp)).run Tryz.prog W = .ok (.bool true) W)
    (S2 : ∀ W : World, (binOp .eql 3 (.int .i64 (ys : Int)) (.int .i64 (xs : Int))).run Tryz.prog W = .ok (.bool false) W) :
    (Code.region id ops true).wp Tryz.prog (Rg.Only fun a' w' => a' = ⟨#[u0, u1, (.slice (some ⟨gs, os, none⟩) ms cs), u3, u4, u5, u6, (.slice (some ⟨gn, on, none⟩) mn cn), u8, (.int .i64 (k : Int)), (Value.bool false), (.int .i64 (j : Int)), u12, u13, u14, u15, u16, u17, u18, u19, u20, u21, u22, u23, u24, u25, u26, u27, u28, u29, u30, u31, u32, u33, (.bool false), (.bool false), (.slice (some ⟨gs, os, none⟩) ms cs), (.int .i64 (j : Int)), (.pointer (some ⟨gs, os + j * 4, none⟩)), (.pointer (some ⟨gs, os + j * 4, none⟩)), (.string yp), (.slice (some ⟨gn, on, none⟩) mn cn), (.int .i64 (k : Int)), (.pointer (some ⟨gn, on + k * 4, none⟩)), (.pointer (some ⟨gn, on + k * 4, none⟩)), (.string xp), (.bool true), (.bool true), (.slice (some ⟨gs, os, none⟩) ms cs), (.int .i64 (j : Int)), (.pointer (some ⟨gs, os + j * 4, none⟩)), (.pointer (some ⟨gs, os + j * 4 + 1, none⟩)), (.int .i64 (ys : Int)), (.slice (some ⟨gn, on, none⟩) mn cn), (.int .i64 (k : Int)), (.pointer (some ⟨gn, on + k * 4, none⟩)), (.pointer (some ⟨gn, on + k * 4 + 1, none⟩)), (.int .i64 (xs : Int)), (.bool false), (.bool false), (.bool false), undef, undef, undef, undef, undef, undef, undef, (Value.bool false), (Value.bool false), u70, u71, u72, u73, u74], []⟩ ∧ X w') ⟨#[u0, u1, (.slice (some ⟨gs, os, none⟩) ms cs), u3, u4, u5, u6, (.slice (some ⟨gn, on, none⟩) mn cn), u8, (.int .i64 (k : Int)), (.bool false), (.int .i64 (j : Int)), u12, u13, u14, u15, u16, u17, u18, u19, u20, u21, u22, u23, u24, u25, u26, u27, u28, u29, u30, u31, u32, u33, u34, u35, u36, u37, u38, u39, u40, u41, u42, u43, u44, u45, u46, u47, u48, u49, u50, u51, u52, u53, u54, u55, u56, u57, u58, u59, u60, u61, u62, u63, u64, u65, u66, u67, u68, u69, u70, u71, u72, u73, u74], []⟩ w := by
  subst hops
  have hNS : Region.noSelect (Rg.opsOf Tryz.f13 10) = true := by kernel_rfl
  refine wp_region_held_drew (S := X) (by kernel_rfl) hw (fun hHeld => ?_)
  rw [show (Rg.opsOf Tryz.f13 10).size = 37 by kernel_rfl]
  refine Rg.take (ops := (Rg.opsOf Tryz.f13 10)) 0 (some 34) ((.bool false)) hNS (by kernel_rfl) (by kernel_rfl) (by kernel_rfl) (by kernel_rfl) (by kernel_rfl) hHeld (Rg.y_move (x := (Operand.tmp 10)) (Or.inl (by kernel_rfl)) (by kernel_rfl)) ?_
  refine Rg.take (ops := (Rg.opsOf Tryz.f13 10)) 1 (some 35) ((.bool false)) hNS (by kernel_rfl) (by kernel_rfl) (by kernel_rfl) (by kernel_rfl) (by kernel_rfl) hHeld (Rg.y_move (x := (Operand.tmp 34)) (Or.inl (by kernel_rfl)) (by kernel_rfl)) ?_
  refine Rg.take (ops := (Rg.opsOf Tryz.f13 10)) 2 (some 36) ((.slice (some ⟨gs, os, none⟩) ms cs)) hNS (by kernel_rfl) (by kernel_rfl) (by kernel_rfl) (by kernel_rfl) (by kernel_rfl) hHeld (Rg.y_move (x := (Operand.tmp 2)) (Or.inl (by kernel_rfl)) (by kernel_rfl)) ?_
  refine Rg.take (ops := (Rg.opsOf Tryz.f13 10)) 3 (some 37) ((.int .i64 (j : Int))) hNS (by kernel_rfl) (by kernel_rfl) (by kernel_rfl) (by kernel_rfl) (by kernel_rfl) hHeld (Rg.y_move (x := (Operand.tmp 11)) (Or.inl (by kernel_rfl)) (by kernel_rfl)) ?_
  refine Rg.take (ops := (Rg.opsOf Tryz.f13 10)) 4 (some 38) ((.pointer (some ⟨gs, os + j * 4, none⟩))) hNS (by kernel_rfl) (by kernel_rfl) (by kernel_rfl) (by kernel_rfl) (by kernel_rfl) hHeld (Rg.y_at (T := 28) (x := (Operand.tmp 36)) (y := (Operand.tmp 37)) (vx := (.slice (some ⟨gs, os, none⟩) ms cs)) (vy := (.int .i64 (j : Int))) (by kernel_rfl) (by kernel_rfl) (by kernel_rfl) ?_) ?_
  · (intro W hSw; clear hSw hHeld; go_simp <;> first | omega | (intro h0; omega))
  refine Rg.take (ops := (Rg.opsOf Tryz.f13 10)) 5 (some 39) ((.pointer (some ⟨gs, os + j * 4, none⟩))) hNS (by kernel_rfl) (by kernel_rfl) (by kernel_rfl) (by kernel_rfl) (by kernel_rfl) hHeld (Rg.y_field (T := 83) (k := 0) (x := (Operand.tmp 38)) (vx := (.pointer (some ⟨gs, os + j * 4, none⟩))) (by kernel_rfl) (by kernel_rfl) ?_) ?_
  · (intro W hSw; clear hSw hHeld; go_simp)
  refine Rg.take (ops := (Rg.opsOf Tryz.f13 10)) 6 (some 40) ((.string yp)) hNS (by kernel_rfl) (by kernel_rfl) (by kernel_rfl) (by kernel_rfl) (by kernel_rfl) hHeld (Rg.y_load (T := 9) (x := (Operand.tmp 39)) (vx := (.pointer (some ⟨gs, os + j * 4, none⟩))) (by kernel_rfl) (by kernel_rfl) ?_) ?_
  · (intro W hSw; obtain ⟨s0, s1, s2, t0, t1⟩ := hX _ hSw; clear hSw hHeld; go_simp)
  refine Rg.take (ops := (Rg.opsOf Tryz.f13 10)) 7 (some 41) ((.slice (some ⟨gn, on, none⟩) mn cn)) hNS (by kernel_rfl) (by kernel_rfl) (by kernel_rfl) (by kernel_rfl) (by kernel_rfl) hHeld (Rg.y_move (x := (Operand.tmp 7)) (Or.inl (by kernel_rfl)) (by kernel_rfl)) ?_
  refine Rg.take (ops := (Rg.opsOf Tryz.f13 10)) 8 (some 42) ((.int .i64 (k : Int))) hNS (by kernel_rfl) (by kernel_rfl) (by kernel_rfl) (by kernel_rfl) (by kernel_rfl) hHeld (Rg.y_move (x := (Operand.tmp 9)) (Or.inl (by kernel_rfl)) (by kernel_rfl)) ?_
  refine Rg.take (ops := (Rg.opsOf Tryz.f13 10)) 9 (some 43) ((.pointer (some ⟨gn, on + k * 4, none⟩))) hNS (by kernel_rfl) (by kernel_rfl) (by kernel_rfl) (by kernel_rfl) (by kernel_rfl) hHeld (Rg.y_at (T := 28) (x := (Operand.tmp 41)) (y := (Operand.tmp 42)) (vx := (.slice (some ⟨gn, on, none⟩) mn cn)) (vy := (.int .i64 (k : Int))) (by kernel_rfl) (by kernel_rfl) (by kernel_rfl) ?_) ?_
  · (intro W hSw; clear hSw hHeld; go_simp <;> first | omega | (intro h0; omega))
  refine Rg.take (ops := (Rg.opsOf Tryz.f13 10)) 10 (some 44) ((.pointer (some ⟨gn, on + k * 4, none⟩))) hNS (by kernel_rfl) (by kernel_rfl) (by kernel_rfl) (by kernel_rfl) (by kernel_rfl) hHeld (Rg.y_field (T := 83) (k := 0) (x := (Operand.tmp 43)) (vx := (.pointer (some ⟨gn, on + k * 4, none⟩))) (by kernel_rfl) (by kernel_rfl) ?_) ?_
  · (intro W hSw; clear hSw hHeld; go_simp)
  refine Rg.take (ops := (Rg.opsOf Tryz.f13 10)) 11 (some 45) ((.string xp)) hNS (by kernel_rfl) (by kernel_rfl) (by kernel_rfl) (by kernel_rfl) (by kernel_rfl) hHeld (Rg.y_load (T := 9) (x := (Operand.tmp 44)) (vx := (.pointer (some ⟨gn, on + k * 4, none⟩))) (by kernel_rfl) (by kernel_rfl) ?_) ?_
  · (intro W hSw; obtain ⟨s0, s1, s2, t0, t1⟩ := hX _ hSw; clear hSw hHeld; go_simp)
  refine Rg.take (ops := (Rg.opsOf Tryz.f13 10)) 12 (some 46) ((.bool true)) hNS (by kernel_rfl) (by kernel_rfl) (by kernel_rfl) (by kernel_rfl) (by kernel_rfl) hHeld (Rg.y_bin (b := BinOp.eql) (T := 9) (R' := 9) (x := (Operand.tmp 40)) (y := (Operand.tmp 45)) (vx := (.string yp)) (vy := (.string xp)) (by kernel_rfl) (by kernel_rfl) (by kernel_rfl) ?_) ?_
  · (intro W hSw; clear hSw hHeld; exact S1 W)
  refine Rg.take (ops := (Rg.opsOf Tryz.f13 10)) 13 (some 47) ((.bool true)) hNS (by kernel_rfl) (by kernel_rfl) (by kernel_rfl) (by kernel_rfl) (by kernel_rfl) hHeld (Rg.y_move (x := (Operand.tmp 46)) (Or.inl (by kernel_rfl)) (by kernel_rfl)) ?_
  refine Rg.take (ops := (Rg.opsOf Tryz.f13 10)) 14 (some 48) ((.slice (some ⟨gs, os, none⟩) ms cs)) hNS (by kernel_rfl) (by kernel_rfl) (by kernel_rfl) (by kernel_rfl) (by kernel_rfl) hHeld (Rg.y_move (x := (Operand.tmp 2)) (Or.inl (by kernel_rfl)) (by kernel_rfl)) ?_
  refine Rg.take (ops := (Rg.opsOf Tryz.f13 10)) 15 (some 49) ((.int .i64 (j : Int))) hNS (by kernel_rfl) (by kernel_rfl) (by kernel_rfl) (by kernel_rfl) (by kernel_rfl) hHeld (Rg.y_move (x := (Operand.tmp 11)) (Or.inl (by kernel_rfl)) (by kernel_rfl)) ?_
  refine Rg.take (ops := (Rg.opsOf Tryz.f13 10)) 16 (some 50) ((.pointer (some ⟨gs, os + j * 4, none⟩))) hNS (by kernel_rfl) (by kernel_rfl) (by kernel_rfl) (by kernel_rfl) (by kernel_rfl) hHeld (Rg.y_at (T := 28) (x := (Operand.tmp 48)) (y := (Operand.tmp 49)) (vx := (.slice (some ⟨gs, os, none⟩) ms cs)) (vy := (.int .i64 (j : Int))) (by kernel_rfl) (by kernel_rfl) (by kernel_rfl) ?_) ?_
  · (intro W hSw; clear hSw hHeld; go_simp <;> first | omega | (intro h0; omega))
  refine Rg.take (ops := (Rg.opsOf Tryz.f13 10)) 17 (some 51) ((.pointer (some ⟨gs, os + j * 4 + 1, none⟩))) hNS (by kernel_rfl) (by kernel_rfl) (by kernel_rfl) (by kernel_rfl) (by kernel_rfl) hHeld (Rg.y_field (T := 83) (k := 1) (x := (Operand.tmp 50)) (vx := (.pointer (some ⟨gs, os + j * 4, none⟩))) (by kernel_rfl) (by kernel_rfl) ?_) ?_
  · (intro W hSw; clear hSw hHeld; go_simp)
  refine Rg.take (ops := (Rg.opsOf Tryz.f13 10)) 18 (some 52) ((.int .i64 (ys : Int))) hNS (by kernel_rfl) (by kernel_rfl) (by kernel_rfl) (by kernel_rfl) (by kernel_rfl) hHeld (Rg.y_load (T := 3) (x := (Operand.tmp 51)) (vx := (.pointer (some ⟨gs, os + j * 4 + 1, none⟩))) (by kernel_rfl) (by kernel_rfl) ?_) ?_
  · (intro W hSw; obtain ⟨s0, s1, s2, t0, t1⟩ := hX _ hSw; clear hSw hHeld; go_simp)
  refine Rg.take (ops := (Rg.opsOf Tryz.f13 10)) 19 (some 53) ((.slice (some ⟨gn, on, none⟩) mn cn)) hNS (by kernel_rfl) (by kernel_rfl) (by kernel_rfl) (by kernel_rfl) (by kernel_rfl) hHeld (Rg.y_move (x := (Operand.tmp 7)) (Or.inl (by kernel_rfl)) (by kernel_rfl)) ?_
  refine Rg.take (ops := (Rg.opsOf Tryz.f13 10)) 20 (some 54) ((.int .i64 (k : Int))) hNS (by kernel_rfl) (by kernel_rfl) (by kernel_rfl) (by kernel_rfl) (by kernel_rfl) hHeld (Rg.y_move (x := (Operand.tmp 9)) (Or.inl (by kernel_rfl)) (by kernel_rfl)) ?_
  refine Rg.take (ops := (Rg.opsOf Tryz.f13 10)) 21 (some 55) ((.pointer (some ⟨gn, on + k * 4, none⟩))) hNS (by kernel_rfl) (by kernel_rfl) (by kernel_rfl) (by kernel_rfl) (by kernel_rfl) hHeld (Rg.y_at (T := 28) (x := (Operand.tmp 53)) (y := (Operand.tmp 54)) (vx := (.slice (some ⟨gn, on, none⟩) mn cn)) (vy := (.int .i64 (k : Int))) (by kernel_rfl) (by kernel_rfl) (by kernel_rfl) ?_) ?_
  · (intro W hSw; clear hSw hHeld; go_simp <;> first | omega | (intro h0; omega))
  refine Rg.take (ops := (Rg.opsOf Tryz.f13 10)) 22 (some 56) ((.pointer (some ⟨gn, on + k * 4 + 1, none⟩))) hNS (by kernel_rfl) (by kernel_rfl) (by kernel_rfl) (by kernel_rfl) (by kernel_rfl) hHeld (Rg.y_field (T := 83) (k := 1) (x := (Operand.tmp 55)) (vx := (.pointer (some ⟨gn, on + k * 4, none⟩))) (by kernel_rfl) (by kernel_rfl) ?_) ?_
  · (intro W hSw; clear hSw hHeld; go_simp)
  refine Rg.take (ops := (Rg.opsOf Tryz.f13 10)) 23 (some 57) ((.int .i64 (xs : Int))) hNS (by kernel_rfl) (by kernel_rfl) (by kernel_rfl) (by kernel_rfl) (by kernel_rfl) hHeld (Rg.y_load (T := 3) (x := (Operand.tmp 56)) (vx := (.pointer (some ⟨gn, on + k * 4 + 1, none⟩))) (by kernel_rfl) (by kernel_rfl) ?_) ?_
  · (intro W hSw; obtain ⟨s0, s1, s2, t0, t1⟩ := hX _ hSw; clear hSw hHeld; go_simp)
  refine Rg.take (ops := (Rg.opsOf Tryz.f13 10)) 24 (some 58) ((.bool false)) hNS (by kernel_rfl) (by kernel_rfl) (by kernel_rfl) (by kernel_rfl) (by kernel_rfl) hHeld (Rg.y_bin (b := BinOp.eql) (T := 3) (R' := 3) (x := (Operand.tmp 52)) (y := (Operand.tmp 57)) (vx := (.int .i64 (ys : Int))) (vy := (.int .i64 (xs : Int))) (by kernel_rfl) (by kernel_rfl) (by kernel_rfl) ?_) ?_
  · (intro W hSw; clear hSw hHeld; exact S2 W)
  refine Rg.take (ops := (Rg.opsOf Tryz.f13 10)) 25 (some 59) ((.bool false)) hNS (by kernel_rfl) (by kernel_rfl) (by kernel_rfl) (by kernel_rfl) (by kernel_rfl) hHeld (Rg.y_pick (c := (Operand.tmp 47)) (x := (Operand.tmp 58)) (y := (Operand.const (Value.bool false))) (b := true) (by kernel_rfl) (by kernel_rfl) (by kernel_rfl)) ?_
  refine Rg.take (ops := (Rg.opsOf Tryz.f13 10)) 26 (some 60) ((.bool false)) hNS (by kernel_rfl) (by kernel_rfl) (by kernel_rfl) (by kernel_rfl) (by kernel_rfl) hHeld (Rg.y_move (x := (Operand.tmp 59)) (Or.inl (by kernel_rfl)) (by kernel_rfl)) ?_
  refine Rg.skip (ops := (Rg.opsOf Tryz.f13 10)) 27 (some 61) hNS (by kernel_rfl) (by kernel_rfl) (by kernel_rfl) (by kernel_rfl) (by kernel_rfl) hHeld ?_
  refine Rg.skip (ops := (Rg.opsOf Tryz.f13 10)) 28 (some 62) hNS (by kernel_rfl) (by kernel_rfl) (by kernel_rfl) (by kernel_rfl) (by kernel_rfl) hHeld ?_
  refine Rg.skip (ops := (Rg.opsOf Tryz.f13 10)) 29 (some 63) hNS (by kernel_rfl) (by kernel_rfl) (by kernel_rfl) (by kernel_rfl) (by kernel_rfl) hHeld ?_
  refine Rg.skip (ops := (Rg.opsOf Tryz.f13 10)) 30 (some 64) hNS (by kernel_rfl) (by kernel_rfl) (by kernel_rfl) (by kernel_rfl) (by kernel_rfl) hHeld ?_
  refine Rg.skip (ops := (Rg.opsOf Tryz.f13 10)) 31 (some 65) hNS (by kernel_rfl) (by kernel_rfl) (by kernel_rfl) (by kernel_rfl) (by kernel_rfl) hHeld ?_
  refine Rg.skip (ops := (Rg.opsOf Tryz.f13 10)) 32 (some 66) hNS (by kernel_rfl) (by kernel_rfl) (by kernel_rfl) (by kernel_rfl) (by kernel_rfl) hHeld ?_
  refine Rg.skip (ops := (Rg.opsOf Tryz.f13 10)) 33 (some 67) hNS (by kernel_rfl) (by kernel_rfl) (by kernel_rfl) (by kernel_rfl) (by kernel_rfl) hHeld ?_
  refine Rg.take (ops := (Rg.opsOf Tryz.f13 10)) 34 (some 68) ((Value.bool false)) hNS (by kernel_rfl) (by kernel_rfl) (by kernel_rfl) (by kernel_rfl) (by kernel_rfl) hHeld (Rg.y_pick (c := (Operand.tmp 60)) (x := (Operand.tmp 67)) (y := (Operand.const (Value.bool false))) (b := false) (by kernel_rfl) (by kernel_rfl) (by kernel_rfl)) ?_
  refine Rg.take (ops := (Rg.opsOf Tryz.f13 10)) 35 (some 69) ((Value.bool false)) hNS (by kernel_rfl) (by kernel_rfl) (by kernel_rfl) (by kernel_rfl) (by kernel_rfl) hHeld (Rg.y_pick (c := (Operand.tmp 35)) (x := (Operand.const (Value.bool true))) (y := (Operand.tmp 68)) (b := false) (by kernel_rfl) (by kernel_rfl) (by kernel_rfl)) ?_
  refine Rg.take (ops := (Rg.opsOf Tryz.f13 10)) 36 (some 10) ((Value.bool false)) hNS (by kernel_rfl) (by kernel_rfl) (by kernel_rfl) (by kernel_rfl) (by kernel_rfl) hHeld (Rg.y_move (x := (Operand.tmp 69)) (Or.inr (by kernel_rfl)) (by kernel_rfl)) ?_
  refine Rg.done (ops := (Rg.opsOf Tryz.f13 10)) (by kernel_rfl) ?_
  exact ⟨by kernel_rfl, hHeld⟩
set_option maxRecDepth 100000 in
set_option maxHeartbeats 4000000 in
theorem readD (ops : Array Oper) (hops : ops = (Rg.opsOf Tryz.f13 10)) (id : Nat) (gs os ms cs gn on mn cn k j ys xs : Nat) (yp xp : ByteArray) (yk : Int) (e3 : Bool) {u0 u1 u3 u4 u5 u6 u8 u12 u13 u14 u15 u16 u17 u18 u19 u20 u21 u22 u23 u24 u25 u26 u27 u28 u29 u30 u31 u32 u33 u34 u35 u36 u37 u38 u39 u40 u41 u42 u43 u44 u45 u46 u47 u48 u49 u50 u51 u52 u53 u54 u55 u56 u57 u58 u59 u60 u61 u62 u63 u64 u65 u66 u67 u68 u69 u70 u71 u72 u73 u74 : Value} (w : World) (hk : (k : Int) < (mn : Int)) (hj : (j : Int) < (ms : Int)) (X : World → Prop)
    (hX : ∀ W, X W → W.cell? ⟨gs, os + j * 4, none⟩ = some (.string yp) ∧ W.cell? ⟨gs, os + j * 4 + 1, none⟩ = some (.int .i64 (ys : Int)) ∧ W.cell? ⟨gs, os + j * 4 + 2, none⟩ = some (.int .i64 yk) ∧ W.cell? ⟨gn, on + k * 4, none⟩ = some (.string xp) ∧ W.cell? ⟨gn, on + k * 4 + 1, none⟩ = some (.int .i64 (xs : Int))) (hw : X w.drew)
    (S1 : ∀ W : World, (binOp .eql 9 (.string yp) (.string xp)).run Tryz.prog W = .ok (.bool true) W)
    (S2 : ∀ W : World, (binOp .eql 3 (.int .i64 (ys : Int)) (.int .i64 (xs : Int))).run Tryz.prog W = .ok (.bool true) W)
    (S3 : ∀ W : World, (binOp .eql 3 (.int .i64 yk) (.int .i64 2)).run Tryz.prog W = .ok (.bool e3) W) :
    (Code.region id ops true).wp Tryz.prog (Rg.Only fun a' w' => a' = ⟨#[u0, u1, (.slice (some ⟨gs, os, none⟩) ms cs), u3, u4, u5, u6, (.slice (some ⟨gn, on, none⟩) mn cn), u8, (.int .i64 (k : Int)), (.bool e3), (.int .i64 (j : Int)), u12, u13, u14, u15, u16, u17, u18, u19, u20, u21, u22, u23, u24, u25, u26, u27, u28, u29, u30, u31, u32, u33, (.bool false), (.bool false), (.slice (some ⟨gs, os, none⟩) ms cs), (.int .i64 (j : Int)), (.pointer (some ⟨gs, os + j * 4, none⟩)), (.pointer (some ⟨gs, os + j * 4, none⟩)), (.string yp), (.slice (some ⟨gn, on, none⟩) mn cn), (.int .i64 (k : Int)), (.pointer (some ⟨gn, on + k * 4, none⟩)), (.pointer (some ⟨gn, on + k * 4, none⟩)), (.string xp), (.bool true), (.bool true), (.slice (some ⟨gs, os, none⟩) ms cs), (.int .i64 (j : Int)), (.pointer (some ⟨gs, os + j * 4, none⟩)), (.pointer (some ⟨gs, os + j * 4 + 1, none⟩)), (.int .i64 (ys : Int)), (.slice (some ⟨gn, on, none⟩) mn cn), (.int .i64 (k : Int)), (.pointer (some ⟨gn, on + k * 4, none⟩)), (.pointer (some ⟨gn, on + k * 4 + 1, none⟩)), (.int .i64 (xs : Int)), (.bool true), (.bool true), (.bool true), (.slice (some ⟨gs, os, none⟩) ms cs), (.int .i64 (j : Int)), (.pointer (some ⟨gs, os + j * 4, none⟩)), (.pointer (some ⟨gs, os + j * 4 + 2, none⟩)), (.pointer (some ⟨gs, os + j * 4 + 2, none⟩)), (.int .i64 yk), (.bool e3), (.bool e3), (.bool e3), u70, u71, u72, u73, u74], []⟩ ∧ X w') ⟨#[u0, u1, (.slice (some ⟨gs, os, none⟩) ms cs), u3, u4, u5, u6, (.slice (some ⟨gn, on, none⟩) mn cn), u8, (.int .i64 (k : Int)), (.bool false), (.int .i64 (j : Int)), u12, u13, u14, u15, u16, u17, u18, u19, u20, u21, u22, u23, u24, u25, u26, u27, u28, u29, u30, u31, u32, u33, u34, u35, u36, u37, u38, u39, u40, u41, u42, u43, u44, u45, u46, u47, u48, u49, u50, u51, u52, u53, u54, u55, u56, u57, u58, u59, u60, u61, u62, u63, u64, u65, u66, u67, u68, u69, u70, u71, u72, u73, u74], []⟩ w := by
  subst hops
  have hNS : Region.noSelect (Rg.opsOf Tryz.f13 10) = true := by kernel_rfl
  refine wp_region_held_drew (S := X) (by kernel_rfl) hw (fun hHeld => ?_)
  rw [show (Rg.opsOf Tryz.f13 10).size = 37 by kernel_rfl]
  refine Rg.take (ops := (Rg.opsOf Tryz.f13 10)) 0 (some 34) ((.bool false)) hNS (by kernel_rfl) (by kernel_rfl) (by kernel_rfl) (by kernel_rfl) (by kernel_rfl) hHeld (Rg.y_move (x := (Operand.tmp 10)) (Or.inl (by kernel_rfl)) (by kernel_rfl)) ?_
  refine Rg.take (ops := (Rg.opsOf Tryz.f13 10)) 1 (some 35) ((.bool false)) hNS (by kernel_rfl) (by kernel_rfl) (by kernel_rfl) (by kernel_rfl) (by kernel_rfl) hHeld (Rg.y_move (x := (Operand.tmp 34)) (Or.inl (by kernel_rfl)) (by kernel_rfl)) ?_
  refine Rg.take (ops := (Rg.opsOf Tryz.f13 10)) 2 (some 36) ((.slice (some ⟨gs, os, none⟩) ms cs)) hNS (by kernel_rfl) (by kernel_rfl) (by kernel_rfl) (by kernel_rfl) (by kernel_rfl) hHeld (Rg.y_move (x := (Operand.tmp 2)) (Or.inl (by kernel_rfl)) (by kernel_rfl)) ?_
  refine Rg.take (ops := (Rg.opsOf Tryz.f13 10)) 3 (some 37) ((.int .i64 (j : Int))) hNS (by kernel_rfl) (by kernel_rfl) (by kernel_rfl) (by kernel_rfl) (by kernel_rfl) hHeld (Rg.y_move (x := (Operand.tmp 11)) (Or.inl (by kernel_rfl)) (by kernel_rfl)) ?_
  refine Rg.take (ops := (Rg.opsOf Tryz.f13 10)) 4 (some 38) ((.pointer (some ⟨gs, os + j * 4, none⟩))) hNS (by kernel_rfl) (by kernel_rfl) (by kernel_rfl) (by kernel_rfl) (by kernel_rfl) hHeld (Rg.y_at (T := 28) (x := (Operand.tmp 36)) (y := (Operand.tmp 37)) (vx := (.slice (some ⟨gs, os, none⟩) ms cs)) (vy := (.int .i64 (j : Int))) (by kernel_rfl) (by kernel_rfl) (by kernel_rfl) ?_) ?_
  · (intro W hSw; clear hSw hHeld; go_simp <;> first | omega | (intro h0; omega))
  refine Rg.take (ops := (Rg.opsOf Tryz.f13 10)) 5 (some 39) ((.pointer (some ⟨gs, os + j * 4, none⟩))) hNS (by kernel_rfl) (by kernel_rfl) (by kernel_rfl) (by kernel_rfl) (by kernel_rfl) hHeld (Rg.y_field (T := 83) (k := 0) (x := (Operand.tmp 38)) (vx := (.pointer (some ⟨gs, os + j * 4, none⟩))) (by kernel_rfl) (by kernel_rfl) ?_) ?_
  · (intro W hSw; clear hSw hHeld; go_simp)
  refine Rg.take (ops := (Rg.opsOf Tryz.f13 10)) 6 (some 40) ((.string yp)) hNS (by kernel_rfl) (by kernel_rfl) (by kernel_rfl) (by kernel_rfl) (by kernel_rfl) hHeld (Rg.y_load (T := 9) (x := (Operand.tmp 39)) (vx := (.pointer (some ⟨gs, os + j * 4, none⟩))) (by kernel_rfl) (by kernel_rfl) ?_) ?_
  · (intro W hSw; obtain ⟨s0, s1, s2, t0, t1⟩ := hX _ hSw; clear hSw hHeld; go_simp)
  refine Rg.take (ops := (Rg.opsOf Tryz.f13 10)) 7 (some 41) ((.slice (some ⟨gn, on, none⟩) mn cn)) hNS (by kernel_rfl) (by kernel_rfl) (by kernel_rfl) (by kernel_rfl) (by kernel_rfl) hHeld (Rg.y_move (x := (Operand.tmp 7)) (Or.inl (by kernel_rfl)) (by kernel_rfl)) ?_
  refine Rg.take (ops := (Rg.opsOf Tryz.f13 10)) 8 (some 42) ((.int .i64 (k : Int))) hNS (by kernel_rfl) (by kernel_rfl) (by kernel_rfl) (by kernel_rfl) (by kernel_rfl) hHeld (Rg.y_move (x := (Operand.tmp 9)) (Or.inl (by kernel_rfl)) (by kernel_rfl)) ?_
  refine Rg.take (ops := (Rg.opsOf Tryz.f13 10)) 9 (some 43) ((.pointer (some ⟨gn, on + k * 4, none⟩))) hNS (by kernel_rfl) (by kernel_rfl) (by kernel_rfl) (by kernel_rfl) (by kernel_rfl) hHeld (Rg.y_at (T := 28) (x := (Operand.tmp 41)) (y := (Operand.tmp 42)) (vx := (.slice (some ⟨gn, on, none⟩) mn cn)) (vy := (.int .i64 (k : Int))) (by kernel_rfl) (by kernel_rfl) (by kernel_rfl) ?_) ?_
  · (intro W hSw; clear hSw hHeld; go_simp <;> first | omega | (intro h0; omega))
  refine Rg.take (ops := (Rg.opsOf Tryz.f13 10)) 10 (some 44) ((.pointer (some ⟨gn, on + k * 4, none⟩))) hNS (by kernel_rfl) (by kernel_rfl) (by kernel_rfl) (by kernel_rfl) (by kernel_rfl) hHeld (Rg.y_field (T := 83) (k := 0) (x := (Operand.tmp 43)) (vx := (.pointer (some ⟨gn, on + k * 4, none⟩))) (by kernel_rfl) (by kernel_rfl) ?_) ?_
  · (intro W hSw; clear hSw hHeld; go_simp)
  refine Rg.take (ops := (Rg.opsOf Tryz.f13 10)) 11 (some 45) ((.string xp)) hNS (by kernel_rfl) (by kernel_rfl) (by kernel_rfl) (by kernel_rfl) (by kernel_rfl) hHeld (Rg.y_load (T := 9) (x := (Operand.tmp 44)) (vx := (.pointer (some ⟨gn, on + k * 4, none⟩))) (by kernel_rfl) (by kernel_rfl) ?_) ?_
  · (intro W hSw; obtain ⟨s0, s1, s2, t0, t1⟩ := hX _ hSw; clear hSw hHeld; go_simp)
  refine Rg.take (ops := (Rg.opsOf Tryz.f13 10)) 12 (some 46) ((.bool true)) hNS (by kernel_rfl) (by kernel_rfl) (by kernel_rfl) (by kernel_rfl) (by kernel_rfl) hHeld (Rg.y_bin (b := BinOp.eql) (T := 9) (R' := 9) (x := (Operand.tmp 40)) (y := (Operand.tmp 45)) (vx := (.string yp)) (vy := (.string xp)) (by kernel_rfl) (by kernel_rfl) (by kernel_rfl) ?_) ?_
  · (intro W hSw; clear hSw hHeld; exact S1 W)
  refine Rg.take (ops := (Rg.opsOf Tryz.f13 10)) 13 (some 47) ((.bool true)) hNS (by kernel_rfl) (by kernel_rfl) (by kernel_rfl) (by kernel_rfl) (by kernel_rfl) hHeld (Rg.y_move (x := (Operand.tmp 46)) (Or.inl (by kernel_rfl)) (by kernel_rfl)) ?_
  refine Rg.take (ops := (Rg.opsOf Tryz.f13 10)) 14 (some 48) ((.slice (some ⟨gs, os, none⟩) ms cs)) hNS (by kernel_rfl) (by kernel_rfl) (by kernel_rfl) (by kernel_rfl) (by kernel_rfl) hHeld (Rg.y_move (x := (Operand.tmp 2)) (Or.inl (by kernel_rfl)) (by kernel_rfl)) ?_
  refine Rg.take (ops := (Rg.opsOf Tryz.f13 10)) 15 (some 49) ((.int .i64 (j : Int))) hNS (by kernel_rfl) (by kernel_rfl) (by kernel_rfl) (by kernel_rfl) (by kernel_rfl) hHeld (Rg.y_move (x := (Operand.tmp 11)) (Or.inl (by kernel_rfl)) (by kernel_rfl)) ?_
  refine Rg.take (ops := (Rg.opsOf Tryz.f13 10)) 16 (some 50) ((.pointer (some ⟨gs, os + j * 4, none⟩))) hNS (by kernel_rfl) (by kernel_rfl) (by kernel_rfl) (by kernel_rfl) (by kernel_rfl) hHeld (Rg.y_at (T := 28) (x := (Operand.tmp 48)) (y := (Operand.tmp 49)) (vx := (.slice (some ⟨gs, os, none⟩) ms cs)) (vy := (.int .i64 (j : Int))) (by kernel_rfl) (by kernel_rfl) (by kernel_rfl) ?_) ?_
  · (intro W hSw; clear hSw hHeld; go_simp <;> first | omega | (intro h0; omega))
  refine Rg.take (ops := (Rg.opsOf Tryz.f13 10)) 17 (some 51) ((.pointer (some ⟨gs, os + j * 4 + 1, none⟩))) hNS (by kernel_rfl) (by kernel_rfl) (by kernel_rfl) (by kernel_rfl) (by kernel_rfl) hHeld (Rg.y_field (T := 83) (k := 1) (x := (Operand.tmp 50)) (vx := (.pointer (some ⟨gs, os + j * 4, none⟩))) (by kernel_rfl) (by kernel_rfl) ?_) ?_
  · (intro W hSw; clear hSw hHeld; go_simp)
  refine Rg.take (ops := (Rg.opsOf Tryz.f13 10)) 18 (some 52) ((.int .i64 (ys : Int))) hNS (by kernel_rfl) (by kernel_rfl) (by kernel_rfl) (by kernel_rfl) (by kernel_rfl) hHeld (Rg.y_load (T := 3) (x := (Operand.tmp 51)) (vx := (.pointer (some ⟨gs, os + j * 4 + 1, none⟩))) (by kernel_rfl) (by kernel_rfl) ?_) ?_
  · (intro W hSw; obtain ⟨s0, s1, s2, t0, t1⟩ := hX _ hSw; clear hSw hHeld; go_simp)
  refine Rg.take (ops := (Rg.opsOf Tryz.f13 10)) 19 (some 53) ((.slice (some ⟨gn, on, none⟩) mn cn)) hNS (by kernel_rfl) (by kernel_rfl) (by kernel_rfl) (by kernel_rfl) (by kernel_rfl) hHeld (Rg.y_move (x := (Operand.tmp 7)) (Or.inl (by kernel_rfl)) (by kernel_rfl)) ?_
  refine Rg.take (ops := (Rg.opsOf Tryz.f13 10)) 20 (some 54) ((.int .i64 (k : Int))) hNS (by kernel_rfl) (by kernel_rfl) (by kernel_rfl) (by kernel_rfl) (by kernel_rfl) hHeld (Rg.y_move (x := (Operand.tmp 9)) (Or.inl (by kernel_rfl)) (by kernel_rfl)) ?_
  refine Rg.take (ops := (Rg.opsOf Tryz.f13 10)) 21 (some 55) ((.pointer (some ⟨gn, on + k * 4, none⟩))) hNS (by kernel_rfl) (by kernel_rfl) (by kernel_rfl) (by kernel_rfl) (by kernel_rfl) hHeld (Rg.y_at (T := 28) (x := (Operand.tmp 53)) (y := (Operand.tmp 54)) (vx := (.slice (some ⟨gn, on, none⟩) mn cn)) (vy := (.int .i64 (k : Int))) (by kernel_rfl) (by kernel_rfl) (by kernel_rfl) ?_) ?_
  · (intro W hSw; clear hSw hHeld; go_simp <;> first | omega | (intro h0; omega))
  refine Rg.take (ops := (Rg.opsOf Tryz.f13 10)) 22 (some 56) ((.pointer (some ⟨gn, on + k * 4 + 1, none⟩))) hNS (by kernel_rfl) (by kernel_rfl) (by kernel_rfl) (by kernel_rfl) (by kernel_rfl) hHeld (Rg.y_field (T := 83) (k := 1) (x := (Operand.tmp 55)) (vx := (.pointer (some ⟨gn, on + k * 4, none⟩))) (by kernel_rfl) (by kernel_rfl) ?_) ?_
  · (intro W hSw; clear hSw hHeld; go_simp)
  refine Rg.take (ops := (Rg.opsOf Tryz.f13 10)) 23 (some 57) ((.int .i64 (xs : Int))) hNS (by kernel_rfl) (by kernel_rfl) (by kernel_rfl) (by kernel_rfl) (by kernel_rfl) hHeld (Rg.y_load (T := 3) (x := (Operand.tmp 56)) (vx := (.pointer (some ⟨gn, on + k * 4 + 1, none⟩))) (by kernel_rfl) (by kernel_rfl) ?_) ?_
  · (intro W hSw; obtain ⟨s0, s1, s2, t0, t1⟩ := hX _ hSw; clear hSw hHeld; go_simp)
  refine Rg.take (ops := (Rg.opsOf Tryz.f13 10)) 24 (some 58) ((.bool true)) hNS (by kernel_rfl) (by kernel_rfl) (by kernel_rfl) (by kernel_rfl) (by kernel_rfl) hHeld (Rg.y_bin (b := BinOp.eql) (T := 3) (R' := 3) (x := (Operand.tmp 52)) (y := (Operand.tmp 57)) (vx := (.int .i64 (ys : Int))) (vy := (.int .i64 (xs : Int))) (by kernel_rfl) (by kernel_rfl) (by kernel_rfl) ?_) ?_
  · (intro W hSw; clear hSw hHeld; exact S2 W)
  refine Rg.take (ops := (Rg.opsOf Tryz.f13 10)) 25 (some 59) ((.bool true)) hNS (by kernel_rfl) (by kernel_rfl) (by kernel_rfl) (by kernel_rfl) (by kernel_rfl) hHeld (Rg.y_pick (c := (Operand.tmp 47)) (x := (Operand.tmp 58)) (y := (Operand.const (Value.bool false))) (b := true) (by kernel_rfl) (by kernel_rfl) (by kernel_rfl)) ?_
  refine Rg.take (ops := (Rg.opsOf Tryz.f13 10)) 26 (some 60) ((.bool true)) hNS (by kernel_rfl) (by kernel_rfl) (by kernel_rfl) (by kernel_rfl) (by kernel_rfl) hHeld (Rg.y_move (x := (Operand.tmp 59)) (Or.inl (by kernel_rfl)) (by kernel_rfl)) ?_
  refine Rg.take (ops := (Rg.opsOf Tryz.f13 10)) 27 (some 61) ((.slice (some ⟨gs, os, none⟩) ms cs)) hNS (by kernel_rfl) (by kernel_rfl) (by kernel_rfl) (by kernel_rfl) (by kernel_rfl) hHeld (Rg.y_move (x := (Operand.tmp 2)) (Or.inl (by kernel_rfl)) (by kernel_rfl)) ?_
  refine Rg.take (ops := (Rg.opsOf Tryz.f13 10)) 28 (some 62) ((.int .i64 (j : Int))) hNS (by kernel_rfl) (by kernel_rfl) (by kernel_rfl) (by kernel_rfl) (by kernel_rfl) hHeld (Rg.y_move (x := (Operand.tmp 11)) (Or.inl (by kernel_rfl)) (by kernel_rfl)) ?_
  refine Rg.take (ops := (Rg.opsOf Tryz.f13 10)) 29 (some 63) ((.pointer (some ⟨gs, os + j * 4, none⟩))) hNS (by kernel_rfl) (by kernel_rfl) (by kernel_rfl) (by kernel_rfl) (by kernel_rfl) hHeld (Rg.y_at (T := 28) (x := (Operand.tmp 61)) (y := (Operand.tmp 62)) (vx := (.slice (some ⟨gs, os, none⟩) ms cs)) (vy := (.int .i64 (j : Int))) (by kernel_rfl) (by kernel_rfl) (by kernel_rfl) ?_) ?_
  · (intro W hSw; clear hSw hHeld; go_simp <;> first | omega | (intro h0; omega))
  refine Rg.take (ops := (Rg.opsOf Tryz.f13 10)) 30 (some 64) ((.pointer (some ⟨gs, os + j * 4 + 2, none⟩))) hNS (by kernel_rfl) (by kernel_rfl) (by kernel_rfl) (by kernel_rfl) (by kernel_rfl) hHeld (Rg.y_field (T := 83) (k := 2) (x := (Operand.tmp 63)) (vx := (.pointer (some ⟨gs, os + j * 4, none⟩))) (by kernel_rfl) (by kernel_rfl) ?_) ?_
  · (intro W hSw; clear hSw hHeld; go_simp)
  refine Rg.take (ops := (Rg.opsOf Tryz.f13 10)) 31 (some 65) ((.pointer (some ⟨gs, os + j * 4 + 2, none⟩))) hNS (by kernel_rfl) (by kernel_rfl) (by kernel_rfl) (by kernel_rfl) (by kernel_rfl) hHeld (Rg.y_field (T := 52) (k := 0) (x := (Operand.tmp 64)) (vx := (.pointer (some ⟨gs, os + j * 4 + 2, none⟩))) (by kernel_rfl) (by kernel_rfl) ?_) ?_
  · (intro W hSw; clear hSw hHeld; go_simp)
  refine Rg.take (ops := (Rg.opsOf Tryz.f13 10)) 32 (some 66) ((.int .i64 yk)) hNS (by kernel_rfl) (by kernel_rfl) (by kernel_rfl) (by kernel_rfl) (by kernel_rfl) hHeld (Rg.y_load (T := 3) (x := (Operand.tmp 65)) (vx := (.pointer (some ⟨gs, os + j * 4 + 2, none⟩))) (by kernel_rfl) (by kernel_rfl) ?_) ?_
  · (intro W hSw; obtain ⟨s0, s1, s2, t0, t1⟩ := hX _ hSw; clear hSw hHeld; go_simp)
  refine Rg.take (ops := (Rg.opsOf Tryz.f13 10)) 33 (some 67) ((.bool e3)) hNS (by kernel_rfl) (by kernel_rfl) (by kernel_rfl) (by kernel_rfl) (by kernel_rfl) hHeld (Rg.y_bin (b := BinOp.eql) (T := 3) (R' := 3) (x := (Operand.tmp 66)) (y := (Operand.const (Value.int IntKind.i64 2))) (vx := (.int .i64 yk)) (vy := (Value.int IntKind.i64 2)) (by kernel_rfl) (by kernel_rfl) (by kernel_rfl) ?_) ?_
  · (intro W hSw; clear hSw hHeld; exact S3 W)
  refine Rg.take (ops := (Rg.opsOf Tryz.f13 10)) 34 (some 68) ((.bool e3)) hNS (by kernel_rfl) (by kernel_rfl) (by kernel_rfl) (by kernel_rfl) (by kernel_rfl) hHeld (Rg.y_pick (c := (Operand.tmp 60)) (x := (Operand.tmp 67)) (y := (Operand.const (Value.bool false))) (b := true) (by kernel_rfl) (by kernel_rfl) (by kernel_rfl)) ?_
  refine Rg.take (ops := (Rg.opsOf Tryz.f13 10)) 35 (some 69) ((.bool e3)) hNS (by kernel_rfl) (by kernel_rfl) (by kernel_rfl) (by kernel_rfl) (by kernel_rfl) hHeld (Rg.y_pick (c := (Operand.tmp 35)) (x := (Operand.const (Value.bool true))) (y := (Operand.tmp 68)) (b := false) (by kernel_rfl) (by kernel_rfl) (by kernel_rfl)) ?_
  refine Rg.take (ops := (Rg.opsOf Tryz.f13 10)) 36 (some 10) ((.bool e3)) hNS (by kernel_rfl) (by kernel_rfl) (by kernel_rfl) (by kernel_rfl) (by kernel_rfl) hHeld (Rg.y_move (x := (Operand.tmp 69)) (Or.inr (by kernel_rfl)) (by kernel_rfl)) ?_
  refine Rg.done (ops := (Rg.opsOf Tryz.f13 10)) (by kernel_rfl) ?_
  exact ⟨by kernel_rfl, hHeld⟩
end Go.Proofs.YtdpnmdnfnplcfaaGreat.Sc

namespace Go.Proofs.YtdpnmdnfnplcfaaGreat.Pm
set_option linter.unusedVariables false
theorem joi_ne {a b : List UInt8} (ha : a ≠ []) (hb : b ≠ []) : joi a b = a ++ 47 :: b := by rw [joi, if_pos ⟨ha, hb⟩]
theorem spl_app (a b : List UInt8) : spl (a ++ 47 :: b) = spl a ++ spl b := by
  induction a with
  | nil => rw [List.nil_append]; exact if_pos rfl
  | cons c r ih =>
    rw [List.cons_append, spl, spl, ih]
    split
    · rfl
    · cases h : spl r with
      | nil => exact absurd h (spl_ne r)
      | cons x xs => rfl
theorem spl_one {l : List UInt8} (h : lastN l = 0) : spl l = [l] := by
  induction l with
  | nil => rfl
  | cons c r ih =>
    rw [lastN] at h
    split at h
    · rename_i h0
      split at h
      · cases h
      · rename_i hc
        rw [spl, if_neg hc, ih h0]
    · cases h
theorem cut_last {l : List UInt8} {k : Nat} (h : lastN l = k + 1) : l = l.take k ++ 47 :: l.drop (k + 1) := by
  induction l generalizing k with
  | nil => cases h
  | cons c r ih =>
    rw [lastN] at h
    split at h
    · split at h
      · rename_i hc
        obtain rfl : k = 0 := by omega
        rw [hc]
        rfl
      · cases h
    · rename_i h0
      obtain ⟨k', rfl⟩ : ∃ k', k = k' + 1 := ⟨k - 1, by omega⟩
      have := ih (k := k') (by omega)
      rw [List.take_succ_cons, List.drop_succ_cons, List.cons_append, ← this]
theorem par_bas (l : List UInt8) : (lastN l = 0 ∧ par l = [] ∧ bas l = l) ∨ (l = par l ++ 47 :: bas l) := by
  by_cases h : lastN l = 0
  · left
    rw [par, bas, h]
    exact ⟨rfl, rfl, rfl⟩
  · right
    obtain ⟨k, hk⟩ : ∃ k, lastN l = k + 1 := ⟨lastN l - 1, by omega⟩
    have := cut_last hk
    rw [par, bas, hk, Nat.add_sub_cancel]
    exact this
def good (l : List UInt8) : Prop := (spl l).all isName = true
theorem ok_of {l : List UInt8} {d : Int} (h : chk l d = 0) : ((spl l).length : Int) ≤ d ∧ good l := by
  rw [chk] at h
  split at h
  · rename_i hp
    rw [isPath, Bool.and_eq_true] at hp
    exact ⟨of_decide_eq_true hp.1, hp.2⟩
  · cases h
theorem ok_to {l : List UInt8} {d : Int} (h1 : ((spl l).length : Int) ≤ d) (h2 : good l) : chk l d = 0 := by
  unfold good at h2
  rw [chk, isPath, decide_eq_true h1, Bool.true_and, if_pos h2]
theorem chk_two (l : List UInt8) (d : Int) : chk l d = 0 ∨ chk l d = 10 := by
  rw [chk]
  split
  · exact .inl rfl
  · exact .inr rfl
theorem good_ne {l : List UInt8} (h : good l) : l ≠ [] := by
  rintro rfl
  exact absurd (show (spl []).all isName = true from h) (by decide)
theorem good_app {a b : List UInt8} (ha : good a) (hb : good b) : good (a ++ 47 :: b) := by
  unfold good at ha hb ⊢
  rw [spl_app, List.all_append, ha, hb]
  rfl
theorem good_cut {a b : List UInt8} (h : good (a ++ 47 :: b)) : good a ∧ good b := by
  unfold good at h ⊢
  rw [spl_app, List.all_append, Bool.and_eq_true] at h
  exact h
theorem spl_pos (l : List UInt8) : 0 < (spl l).length := List.length_pos_iff.2 (spl_ne l)
theorem und_below (a b : List UInt8) : und (a ++ 47 :: b) a = true := by
  have : (a ++ [47]).isPrefixOf (a ++ 47 :: b) = true := by
    rw [List.isPrefixOf_iff_prefix]
    exact ⟨b, by simp⟩
  rw [und, this, Bool.or_true]
theorem par_len (l : List UInt8) : (par l).length ≤ l.length := by rw [par, List.length_take]; omega
theorem less_irr (a : List UInt8) : Op.bytesLess a a = false := by
  induction a with
  | nil => rfl
  | cons x a ih => rw [Op.bytesLess, ih]; simp
theorem less_asymm : ∀ (a b : List UInt8), Op.bytesLess a b = true → Op.bytesLess b a = false
  | [], [], _ => rfl
  | [], _ :: _, _ => by rw [Op.bytesLess]
  | _ :: _, [], h => by rw [Op.bytesLess] at h; cases h
  | x :: a, y :: b, h => by
    have ih := less_asymm a b
    rw [Op.bytesLess] at h ⊢
    by_cases h1 : x < y
    · have h2 : ¬ y < x := by rw [UInt8.lt_iff_toNat_lt] at h1 ⊢; omega
      have h3 : ¬ y = x := by rintro rfl; rw [UInt8.lt_iff_toNat_lt] at h1; omega
      simp [h2, h3]
    · by_cases h2 : x = y
      · subst h2
        simp at h ⊢
        exact ih h
      · simp [h1, h2] at h
theorem letters {l : List UInt8} (h : ∀ x ∈ spl l, x.all okC = true) : ∀ c ∈ l, okC c = true ∨ c = 47 := by
  induction l with
  | nil => intro c hc; cases hc
  | cons d r ih =>
    intro c hc
    by_cases hd : d = 47
    · rw [spl, if_pos hd] at h
      rcases List.mem_cons.1 hc with rfl | hc
      · exact .inr hd
      · exact ih (fun x hx => h x (List.mem_cons_of_mem _ hx)) c hc
    · rw [spl, if_neg hd] at h
      cases hs : spl r with
      | nil => exact absurd hs (spl_ne r)
      | cons x xs =>
        rw [hs] at h ih
        have h0 := h (d :: x) (List.mem_cons_self ..)
        rw [List.all_cons, Bool.and_eq_true] at h0
        rcases List.mem_cons.1 hc with rfl | hc
        · exact .inl h0.1
        · refine ih (fun y hy => ?_) c hc
          rcases List.mem_cons.1 hy with rfl | hy
          · exact h0.2
          · exact h y (List.mem_cons_of_mem _ hy)
theorem good_letters {l : List UInt8} (h : good l) : ∀ c ∈ l, okC c = true ∨ c = 47 := by
  apply letters
  intro x hx
  unfold good at h
  have := List.all_eq_true.1 h x hx
  rw [isName, Bool.and_eq_true] at this
  exact this.2
theorem above {c : UInt8} (h : okC c = true) : (47 : UInt8) < c := by
  rw [UInt8.lt_iff_toNat_lt]
  show 47 < c.toNat
  simp [okC] at h
  omega
theorem sorts : ∀ (t o b : List UInt8), (∀ c ∈ o, okC c = true ∨ c = 47) → o ≠ t → (t ++ [47]).isPrefixOf o = false → Op.bytesLess o t = true ∨ Op.bytesLess (t ++ 47 :: b) o = true
  | [], [], b, _, hne, _ => absurd rfl hne
  | [], c :: r, b, hl, _, hp => by
    right
    have hc : c ≠ 47 := by
      rintro rfl
      simp at hp
    have := above ((hl c (List.mem_cons_self ..)).resolve_right hc)
    rw [List.nil_append, Op.bytesLess]
    simp [this]
  | x :: t, [], b, _, _, _ => .inl rfl
  | x :: t, c :: r, b, hl, hne, hp => by
    rw [List.cons_append, Op.bytesLess, Op.bytesLess]
    by_cases h1 : c < x
    · left; simp [h1]
    · by_cases h2 : c = x
      · subst h2
        have := sorts t r b (fun d hd => hl d (List.mem_cons_of_mem _ hd)) (fun e => hne (by rw [e])) (by simpa using hp)
        simpa using this
      · right
        have : x < c := by
          rw [UInt8.lt_iff_toNat_lt] at h1 ⊢
          have : c.toNat ≠ x.toNat := fun e => h2 (UInt8.toNat_inj.1 e)
          omega
        simp [this]
theorem und_split {o t : List UInt8} (h : und o t = false) : o ≠ t ∧ (t ++ [47]).isPrefixOf o = false := by
  rw [und, Bool.or_eq_false_iff, Bool.or_eq_false_iff] at h
  exact ⟨of_decide_eq_false h.1.2, h.2⟩
theorem order {t o b : List UInt8} (ho : good o) (h : und o t = false) : Op.bytesLess o t = true ∨ (Op.bytesLess o (t ++ 47 :: b) = false ∧ o ≠ t ++ 47 :: b) := by
  obtain ⟨h1, h2⟩ := und_split h
  rcases sorts t o b (good_letters ho) h1 h2 with h3 | h3
  · exact .inl h3
  · refine .inr ⟨less_asymm _ _ h3, ?_⟩
    rintro rfl
    rw [less_irr] at h3
    cases h3
end Go.Proofs.YtdpnmdnfnplcfaaGreat.Pm

namespace Go.Proofs.YtdpnmdnfnplcfaaGreat.Sc
open Go.RowKit Tx Pm Pr Dk
set_option linter.unusedVariables false
theorem vol_name {v : ByteArray} (h : chk v.data.toList 1 = 0) : v ≠ ⟨#[]⟩ := by
  rintro rfl
  exact absurd h (by decide)
theorem cut_text (p : ByteArray) (m : Nat) (h : m ≤ p.size) (W : World) : (Instr.sliceAt 9 (.string p) (some (.int .i64 (m : Int))) none none).run Tryz.prog W = .ok (.string (p.extract m p.size)) W := by
  rw [run_sliceAt_string _ _ _ _ _ _ (by kernel_rfl), run_slice_string_from_if _ _ _ _ _ (by kernel_rfl), if_pos (by omega)]
  rfl
def WkTo (r : List En.Et × Nat) (w : World) (e : Ending) (w' : World) : Prop := ∃ v, e = .returned (.tuple #[v, .int .i64 (r.2 : Int)]) ∧ En.Own w' w.heap.size v r.1 ∧ Below w.heap.size w w'
theorem own_low {w : World} {e : TypeId} {B B2 size n : Nat} {v : Value} {xs : List Value} (h : w.ownsRow B e size v n xs) (hb : B2 ≤ B) : w.ownsRow B2 e size v n xs := by
  refine ⟨h.1, ?_⟩
  rcases h.2 with h0 | ⟨g', cap', cur, hv, hg, r⟩
  · exact .inl h0
  · exact .inr ⟨g', cap', cur, hv, Nat.le_trans hb hg, r⟩
theorem cell_old {w : World} {o : Obj} {g k : Nat} (h : g < w.heap.size) : (w.alloc o).cell? ⟨g, k, none⟩ = w.cell? ⟨g, k, none⟩ := World.cell?_of_block (a := ⟨g, k, none⟩) (Below.heap_alloc _ _ _ h)
theorem node_new (w : World) (a b : Value) (e : TypeId) : (w.alloc (.cells #[a, b] e)).cell? ⟨w.heap.size, 0, none⟩ = some a ∧ (w.alloc (.cells #[a, b] e)).cell? ⟨w.heap.size, 1, none⟩ = some b := by
  constructor <;> go_simp
set_option maxRecDepth 100000 in
set_option maxHeartbeats 8000000 in
theorem refWalk_any (b : Nat) (s : St) (vL vR : Value) (v : ByteArray) (w : World) (h : At w b s vL vR) (hf : Fit s) (hl : s.L.length ≤ 1000) (hv : v.size ≤ 1048576) (hps : ∀ x ∈ s.L, x.path.size ≤ 1048576) :
    Calls Tryz.prog 10 #[.pointer (some ⟨b, 0, none⟩), .string v] w (WkTo (wkS s v) w) := by
  have cC := Pr.refCheck_any v 1 w (by omega) (by omega) (by omega)
  have cK := fun W (hW : Below w.heap.size w W) => rKind_any b s vL vR v W (h.below hW) (by omega)
  have HCELL := Lib.hid (fun W (hW : Below w.heap.size w W) => (h.below hW).cell)
  have HK := Lib.hid cK
  obtain ⟨A, c, rfl, _, _, _⟩ := h.rowL.form
  have HS := Lib.hid (fun W (hW : Below w.heap.size w W) => h.seen hW)
  have HP := Lib.hid hps
  clear hps cK h hf
  by_cases h1 : chk v.data.toList 1 = 0
  · by_cases h2 : s.down = true
    · have HW : Hid (wkS s v = ([], 14)) := by show _ = _; unfold wkS err15; simp [h1, h2]
      rw [h1] at cC
      have C := Lib.hid cC
      clear cC h1
      go_enter Tryz.func10, Tryz.ntmps10
      go_wp2_with fail
      go_at_call 40
      refine C.out.mono ?_
      rintro e w1 ⟨rfl, hb1⟩
      obtain ⟨_, _, _, _, _, d5⟩ := HCELL.out _ hb1
      rw [h2] at d5
      have HB1 := Lib.hid hb1
      clear hb1 C h2
      go_wp2_with fail
      go_ret2
      unfold WkTo
      rw [HW.out]
      exact ⟨_, rfl, own_nilE _ _, HB1.out⟩
    · by_cases h3 : kind s.L v = 1
      · have HW : Hid (wkS s v = (entS s.L v, 0)) := by show _ = _; unfold wkS err15; simp [h1, h2, h3]
        have HN := Lib.hid (vol_name h1)
        have hd : s.down = false := by simpa using h2
        rw [h1] at cC
        have C := Lib.hid cC
        obtain ⟨n, hnn⟩ : ∃ n, n = s.L.length := ⟨_, rfl⟩
        have HNL := Lib.hid hnn
        have hsn : ∀ W, Below w.heap.size w W → W.cell? ⟨b, 0, none⟩ = some (.slice A n c) := fun W hW => by rw [hnn]; exact (HS.out W hW).c0
        have HS0 := Lib.hid hsn
        rw [← hnn] at hl
        clear cC h1 h2 hsn hnn
        go_enter Tryz.func10, Tryz.ntmps10
        go_wp2_with fail
        go_at_call 40
        refine C.out.mono ?_
        rintro e w1 ⟨rfl, hb1⟩
        obtain ⟨_, _, _, _, _, d5⟩ := HCELL.out _ hb1
        rw [hd] at d5
        have HB1 := Lib.hid hb1
        clear hb1 C
        go_wp2_with fail
        go_at_call 41
        refine (HK.out _ HB1.out).mono ?_
        rintro e w1' ⟨rfl, rfl⟩
        rw [h3]
        clear d5 hd h3 HCELL HK
        go_wp2_with fail
        go_loopw [6, 7, 8, 9] (fun vo i _ _ wr => ∃ k : Nat, k ≤ n ∧ i = .int .i64 (k : Int) ∧ Hid (En.Own wr w1.heap.size vo (entS (s.L.take k) v)) ∧ Hid (Below w1.heap.size w1 wr)) (fun _ i _ _ _ => n - (intOf i).toNat)
        case atStart => exact ⟨0, Nat.zero_le _, rfl, own_nilE _ _, Below.refl _ _⟩
        case round =>
          obtain ⟨k, hk, rfl, HO, HB⟩ := hrel
          have hBw : Below w.heap.size w wr := HB1.out.trans (HB.out.mono HB1.out.size)
          have HBW := Lib.hid hBw
          have e0 := HS0.out _ hBw
          by_cases hlt : k < n
          · have hltz : (k : Int) < (n : Int) := by omega
            obtain ⟨y, hy⟩ : ∃ y, s.L[k]? = some y := ⟨_, List.getElem?_eq_getElem (by rw [← HNL.out]; exact hlt)⟩
            obtain ⟨g2, hg2, d0, d1, d2, _⟩ := (HS.out _ hBw).it _ y hy
            cases hg2
            have hpy := HP.out y (List.mem_of_getElem? hy)
            have hdt := entS_take (v := v) hy
            have cU := Pr.refUnder_any y.path v wr (by omega) (by omega)
            have hcells : ∀ W, Below w.heap.size w W → W.cell? ⟨b, 0, none⟩ = some (.slice (some ⟨g2, 0, none⟩) n c) ∧ W.cell? ⟨g2, k * 7 + 1, none⟩ = some (.bool y.dir) ∧ W.cell? ⟨g2, k * 7 + 2, none⟩ = some (.string y.data) := fun W hW => by
              obtain ⟨g3, hg3, f0, f1, f2, _⟩ := (HS.out W hW).it _ y hy
              cases hg3
              exact ⟨HS0.out W hW, f1, f2⟩
            have HCC := Lib.hid hcells
            have HCU := Lib.hid cU
            clear hBw hy hcells cU
            by_cases hsame : y.path = v
            · have hno : inV v y = false := by unfold inV; rw [decide_eq_true hsame]; simp
              have e1 : (y.path.toList == v.toList) = true := by rw [hsame]; exact beq_self_eq_true _
              have HT : Hid (entS (s.L.take (k + 1)) v = entS (s.L.take k) v) := by rw [hno] at hdt; exact hdt.trans (List.append_nil _)
              clear hdt hno hsame hpy
              obtain ⟨P, hP⟩ : ∃ P, P = y.path := ⟨_, rfl⟩
              rw [← hP] at e1 d0
              clear hP
              go_wp2_with fail
              go_roundw
              case rel => exact ⟨k + 1, by omega, by go_num, by rw [HT.out]; exact HO, HB⟩
              case measure => simp only [intOf]; omega
            · have e1 : (y.path.toList == v.toList) = false := bytes_ne hsame
              cases hu : und y.path.data.toList v.data.toList with
              | false =>
                have hno : inV v y = false := by unfold inV; rw [hu]; rfl
                have HT : Hid (entS (s.L.take (k + 1)) v = entS (s.L.take k) v) := by rw [hno] at hdt; exact hdt.trans (List.append_nil _)
                have c1 := HCU.out
                rw [hu] at c1
                have C1 := Lib.hid c1
                clear hdt hno hsame hpy hu c1 HCU
                obtain ⟨P, hP⟩ : ∃ P, P = y.path := ⟨_, rfl⟩
                rw [← hP] at e1 d0 C1
                clear hP
                go_wp2_with fail
                go_at_call 42
                refine C1.out.mono ?_
                rintro e w2' ⟨rfl, rfl⟩
                go_wp2_with fail
                go_roundw
                case rel => exact ⟨k + 1, by omega, by go_num, by rw [HT.out]; exact HO, HB⟩
                case measure => simp only [intOf]; omega
              | true =>
                have hyes : inV v y = true := by unfold inV; rw [hu, decide_eq_false hsame]; rfl
                obtain ⟨hlong, _⟩ := inV_long HN.out hyes
                have HT : Hid (entS (s.L.take (k + 1)) v = entS (s.L.take k) v ++ [⟨tl v y.path, nodeOf y⟩]) := by rw [if_pos hyes] at hdt; exact hdt
                have c1 := HCU.out
                rw [hu] at c1
                have C1 := Lib.hid c1
                have hlen : (entS (s.L.take k) v).length ≤ 1000000 := by have h1 := entS_len (s.L.take k) v; rw [List.length_take] at h1; omega
                have HCUT := Lib.hid (cut_text y.path (v.size + 1) hlong)
                have q1 : (v.size : Int) + 1 = ((v.size + 1 : Nat) : Int) := by omega
                have V1 : IntKind.i64.wrap ((v.size + 1 : Nat) : Int) = ((v.size + 1 : Nat) : Int) := IntWalk.i64_in _ (by omega)
                have HTL : Hid (tl v y.path = y.path.extract (v.size + 1) y.path.size) := rfl
                clear hdt hyes hsame hu c1 HCU hlong
                obtain ⟨P, hP⟩ : ∃ P, P = y.path := ⟨_, rfl⟩
                rw [← hP] at e1 d0 C1 HCUT HTL HT
                clear hP hpy
                go_wp2_with fail
                go_at_call 42
                refine C1.out.mono ?_
                rintro e w2' ⟨rfl, rfl⟩
                cases hdir : y.dir with
                | true =>
                  rw [hdir] at d1
                  have HNO : Hid (nodeOf y = ⟨1, ⟨#[]⟩⟩) := by show _ = _; unfold nodeOf; rw [hdir]; rfl
                  have hal : Below w.heap.size w (wr.alloc (.cells #[.int .i64 2, .string y.data] 52)) := HBW.out.alloc HBW.out.size _
                  obtain ⟨c0, c1, c2⟩ := HCC.out _ HBW.out
                  obtain ⟨x0, x1, x2⟩ := HCC.out _ hal
                  rw [hdir] at c1 x1
                  obtain ⟨W3, hW3⟩ : ∃ W3, W3 = wr.alloc (.cells #[.int .i64 1, .string ⟨#[]⟩] 52) := ⟨_, rfl⟩
                  have hb3 : Below wr.heap.size wr W3 := by rw [hW3]; exact (Below.refl _ _).alloc (Nat.le_refl _) _
                  have hn3 : W3.cell? ⟨wr.heap.size, 0, none⟩ = some (.int .i64 1) ∧ W3.cell? ⟨wr.heap.size, 1, none⟩ = some (.string ⟨#[]⟩) := by rw [hW3]; exact node_new _ _ _ _
                  have hs3 : W3.heap.size = wr.heap.size + 1 := by rw [hW3]; go_simp
                  have HN3 := Lib.hid hn3
                  have HBB3 := Lib.hid hb3
                  clear hdir hal hn3 hb3 C1
                  go_wp2_with fail
                  rw [← hW3]
                  clear hW3 c0 c1 c2 x0 x1 x2 d0 d1 d2 e0
                  have hO3 : En.Own W3.drew w1.heap.size u6 (entS (s.L.take k) v) := (HO.out.below HBB3.out).below (Below.refl _ _).drew
                  have hsz3 : w1.heap.size ≤ W3.drew.heap.size := Nat.le_trans HB.out.size HBB3.out.size
                  have hB3 : Below w1.heap.size w1 W3.drew := (HB.out.trans (HBB3.out.mono HB.out.size)).drew
                  refine Rg.wp_only ?_ (walkReg _ (by kernel_rfl) _ wr.heap.size (v.size + 1) v P (P.extract (v.size + 1) P.size) (⟨#[]⟩ : ByteArray) 1 u6 W3 (fun W => W.cell? ⟨wr.heap.size, 0, none⟩ = some (.int .i64 1) ∧ W.cell? ⟨wr.heap.size, 1, none⟩ = some (.string ⟨#[]⟩))
                    (fun v8 w8 => En.Own w8 w1.heap.size v8 (entS (s.L.take k) v ++ [⟨tl v P, nodeOf y⟩]) ∧ Below w1.heap.size w1 w8) (fun W h => h) HN3.out q1 V1 HCUT.out ?_ ?_)
                  rotate_left
                  · exact ⟨(cell_old (by show _ < W3.drew.heap.size; show wr.heap.size < W3.heap.size; omega)).trans HN3.out.1, (cell_old (by show _ < W3.drew.heap.size; show wr.heap.size < W3.heap.size; omega)).trans HN3.out.2⟩
                  · intro ty
                    obtain ⟨v8, w8, e8, o8, g8⟩ := app_ent W3.drew w1.heap.size u6 _ hO3 ⟨tl v P, nodeOf y⟩ hlen hsz3 ty
                    rw [HNO.out, HTL.out] at e8 g8
                    have hlt3 : wr.heap.size < (W3.drew.alloc (.cells #[.string (P.extract (v.size + 1) P.size), .int .i64 1, .string ⟨#[]⟩] 54)).heap.size := by go_simp <;> omega
                    have hne : some wr.heap.size ≠ u6.ownBlock := fun e => by have := (World.ownsRow.lt HO.out _ e.symm).2; omega
                    refine ⟨v8, w8, e8, ⟨?_, ?_⟩, o8, (hB3.alloc hsz3 _).grown g8 (by have h0 : w1.heap.size ≤ W3.heap.size := hsz3; rw [hs3] at h0; go_simp; omega) (fun q hq => (World.ownsRow.lt hO3 q hq).1)⟩
                    · exact (World.cell?_of_block (a := ⟨wr.heap.size, 0, none⟩) (g8.block _ hlt3 hne)).trans ((cell_old (by show wr.heap.size < W3.heap.size; omega)).trans HN3.out.1)
                    · exact (World.cell?_of_block (a := ⟨wr.heap.size, 1, none⟩) (g8.block _ hlt3 hne)).trans ((cell_old (by show wr.heap.size < W3.heap.size; omega)).trans HN3.out.2)
                  rintro _ w8 ⟨v8, rfl, o8, b8⟩
                  have HO8 := Lib.hid o8
                  have HB8 := Lib.hid b8
                  clear o8 b8 hO3 hsz3 hB3 HN3 HBB3
                  go_wp2_with fail
                  go_roundw
                  case rel => exact ⟨k + 1, by omega, by go_num, by rw [HT.out]; exact HO8, HB8⟩
                  case measure => simp only [intOf]; omega
                | false =>
                  rw [hdir] at d1
                  have HNO : Hid (nodeOf y = ⟨2, y.data⟩) := by show _ = _; unfold nodeOf; rw [hdir]; rfl
                  have hal : Below w.heap.size w (wr.alloc (.cells #[.int .i64 2, .string y.data] 52)) := HBW.out.alloc HBW.out.size _
                  obtain ⟨c0, c1, c2⟩ := HCC.out _ HBW.out
                  obtain ⟨x0, x1, x2⟩ := HCC.out _ hal
                  rw [hdir] at c1 x1
                  obtain ⟨W3, hW3⟩ : ∃ W3, W3 = wr.alloc (.cells #[.int .i64 2, .string y.data] 52) := ⟨_, rfl⟩
                  have hb3 : Below wr.heap.size wr W3 := by rw [hW3]; exact (Below.refl _ _).alloc (Nat.le_refl _) _
                  have hn3 : W3.cell? ⟨wr.heap.size, 0, none⟩ = some (.int .i64 2) ∧ W3.cell? ⟨wr.heap.size, 1, none⟩ = some (.string y.data) := by rw [hW3]; exact node_new _ _ _ _
                  have hs3 : W3.heap.size = wr.heap.size + 1 := by rw [hW3]; go_simp
                  have HN3 := Lib.hid hn3
                  have HBB3 := Lib.hid hb3
                  clear hdir hal hn3 hb3 C1
                  go_wp2_with fail
                  rw [← hW3]
                  clear hW3 c0 c1 c2 x0 x1 x2 d0 d1 d2 e0
                  have hO3 : En.Own W3.drew w1.heap.size u6 (entS (s.L.take k) v) := (HO.out.below HBB3.out).below (Below.refl _ _).drew
                  have hsz3 : w1.heap.size ≤ W3.drew.heap.size := Nat.le_trans HB.out.size HBB3.out.size
                  have hB3 : Below w1.heap.size w1 W3.drew := (HB.out.trans (HBB3.out.mono HB.out.size)).drew
                  refine Rg.wp_only ?_ (walkReg _ (by kernel_rfl) _ wr.heap.size (v.size + 1) v P (P.extract (v.size + 1) P.size) y.data 2 u6 W3 (fun W => W.cell? ⟨wr.heap.size, 0, none⟩ = some (.int .i64 2) ∧ W.cell? ⟨wr.heap.size, 1, none⟩ = some (.string y.data))
                    (fun v8 w8 => En.Own w8 w1.heap.size v8 (entS (s.L.take k) v ++ [⟨tl v P, nodeOf y⟩]) ∧ Below w1.heap.size w1 w8) (fun W h => h) HN3.out q1 V1 HCUT.out ?_ ?_)
                  rotate_left
                  · exact ⟨(cell_old (by show _ < W3.drew.heap.size; show wr.heap.size < W3.heap.size; omega)).trans HN3.out.1, (cell_old (by show _ < W3.drew.heap.size; show wr.heap.size < W3.heap.size; omega)).trans HN3.out.2⟩
                  · intro ty
                    obtain ⟨v8, w8, e8, o8, g8⟩ := app_ent W3.drew w1.heap.size u6 _ hO3 ⟨tl v P, nodeOf y⟩ hlen hsz3 ty
                    rw [HNO.out, HTL.out] at e8 g8
                    have hlt3 : wr.heap.size < (W3.drew.alloc (.cells #[.string (P.extract (v.size + 1) P.size), .int .i64 2, .string y.data] 54)).heap.size := by go_simp <;> omega
                    have hne : some wr.heap.size ≠ u6.ownBlock := fun e => by have := (World.ownsRow.lt HO.out _ e.symm).2; omega
                    refine ⟨v8, w8, e8, ⟨?_, ?_⟩, o8, (hB3.alloc hsz3 _).grown g8 (by have h0 : w1.heap.size ≤ W3.heap.size := hsz3; rw [hs3] at h0; go_simp; omega) (fun q hq => (World.ownsRow.lt hO3 q hq).1)⟩
                    · exact (World.cell?_of_block (a := ⟨wr.heap.size, 0, none⟩) (g8.block _ hlt3 hne)).trans ((cell_old (by show wr.heap.size < W3.heap.size; omega)).trans HN3.out.1)
                    · exact (World.cell?_of_block (a := ⟨wr.heap.size, 1, none⟩) (g8.block _ hlt3 hne)).trans ((cell_old (by show wr.heap.size < W3.heap.size; omega)).trans HN3.out.2)
                  rintro _ w8 ⟨v8, rfl, o8, b8⟩
                  have HO8 := Lib.hid o8
                  have HB8 := Lib.hid b8
                  clear o8 b8 hO3 hsz3 hB3 HN3 HBB3
                  go_wp2_with fail
                  go_roundw
                  case rel => exact ⟨k + 1, by omega, by go_num, by rw [HT.out]; exact HO8, HB8⟩
                  case measure => simp only [intOf]; omega
          · have hkn : k = n := by omega
            have e2 : ¬ (k : Int) < (n : Int) := by omega
            have hall : s.L.take k = s.L := List.take_of_length_le (by rw [← HNL.out]; omega)
            have HALL := Lib.hid hall
            clear hall hkn
            go_wp2_with fail
            go_ret2
            unfold WkTo
            rw [HW.out]
            have ho := HO.out
            rw [HALL.out] at ho
            exact ⟨_, rfl, own_low ho HB1.out.size, HBW.out⟩
      · have HW : Hid (wkS s v = ([], 11)) := by show _ = _; unfold wkS err15; simp [h1, h2, h3]
        have hd : s.down = false := by simpa using h2
        have e3 : ¬ ((kind s.L v : Nat) : Int) = 1 := by omega
        rw [h1] at cC
        have C := Lib.hid cC
        clear cC h1 h2 h3
        go_enter Tryz.func10, Tryz.ntmps10
        go_wp2_with fail
        go_at_call 40
        refine C.out.mono ?_
        rintro e w1 ⟨rfl, hb1⟩
        obtain ⟨_, _, _, _, _, d5⟩ := HCELL.out _ hb1
        rw [hd] at d5
        have HB1 := Lib.hid hb1
        clear hb1 C
        go_wp2_with fail
        go_at_call 41
        refine (HK.out _ HB1.out).mono ?_
        rintro e w1' ⟨rfl, rfl⟩
        clear d5 hd
        go_wp2_with fail
        go_ret2
        unfold WkTo
        rw [HW.out]
        exact ⟨_, rfl, own_nilE _ _, HB1.out⟩
  · have HW : Hid (wkS s v = ([], 10)) := by show _ = _; unfold wkS err15; simp [h1]
    have e1 : ¬ ((chk v.data.toList 1 : Nat) : Int) = 0 := by omega
    have C := Lib.hid cC
    clear cC h1
    go_enter Tryz.func10, Tryz.ntmps10
    go_wp2_with fail
    go_at_call 40
    refine C.out.mono ?_
    rintro e w1 ⟨rfl, hb1⟩
    have HB1 := Lib.hid hb1
    clear hb1 C
    go_wp2_with fail
    go_ret2
    unfold WkTo
    rw [HW.out]
    exact ⟨_, rfl, own_nilE _ _, HB1.out⟩
end Go.Proofs.YtdpnmdnfnplcfaaGreat.Sc

namespace Go.Proofs.YtdpnmdnfnplcfaaGreat.Sc
open Go.RowKit Tx Pm Pr Dk
set_option linter.unusedVariables false
def SnTo (l : List Sn) (w : World) (e : Ending) (w' : World) : Prop := ∃ v, e = .returned v ∧ OwnN w' w.heap.size v l ∧ Below w.heap.size w w'
theorem run_plusS (a b : ByteArray) (h : a.size + b.size ≤ 9223372036854775807) (W : World) : (binOp .add 9 (.string a) (.string b)).run Tryz.prog W = .ok (.string (a ++ b)) W := by
  have h1 := run_string_add_sum (P := Tryz.prog) (w := W) a b h
  simpa [binOp] using h1
set_option maxRecDepth 100000 in
set_option maxHeartbeats 4000000 in
theorem refSeen_any (b : Nat) (s : St) (vL vR : Value) (v : ByteArray) (w : World) (h : At w b s vL vR) (hf : Fit s) (hl : s.L.length ≤ 1000) (hv : v.size ≤ 1048576) (hps : ∀ x ∈ s.L, x.path.size ≤ 1048576) :
    Calls Tryz.prog 15 #[.pointer (some ⟨b, 0, none⟩), .string v] w (SnTo (snS s v) w) := by
  have cW := refWalk_any b s vL vR v w h hf hl hv hps
  have cS := fun (P : ByteArray) W (hW : Below w.heap.size w W) => rStamp_any b s vL vR P W (h.below hW) (by omega)
  have hll : (wkS s v).1.length ≤ 1000 := by
    unfold wkS
    split
    · exact Nat.zero_le _
    · exact Nat.le_trans (entS_len _ _) hl
  have hpl : ∀ x ∈ (wkS s v).1, x.path.size ≤ 1048576 := fun x hx => by
    unfold wkS at hx
    split at hx
    · cases hx
    · unfold entS at hx
      obtain ⟨y, hy, rfl⟩ := List.mem_map.1 hx
      have := hps y (List.mem_filter.1 hy).1
      show (y.path.extract _ _).size ≤ _
      rw [ByteArray.size_extract]
      omega
  have hsn : snS s v = (wkS s v).1.map (snOf s v) := rfl
  obtain ⟨er, her⟩ : ∃ er, er = (wkS s v).2 := ⟨_, rfl⟩
  unfold WkTo at cW
  rw [← her] at cW
  obtain ⟨L, hL⟩ : ∃ L, L = (wkS s v).1 := ⟨_, rfl⟩
  rw [← hL] at cW hll hpl hsn
  have HSN := Lib.hid hsn
  have HPL := Lib.hid hpl
  have CW := Lib.hid cW
  have CS := Lib.hid cS
  clear cW cS hsn hpl hL her h hf hps hl
  go_enter Tryz.func15, Tryz.ntmps15
  go_wp2_with fail
  go_at_call 10
  refine CW.out.mono ?_
  rintro e w2 ⟨v2, rfl, hv2, hb2⟩
  obtain ⟨a2, c2, rfl, hE2, _, _⟩ := hv2.form
  obtain ⟨n, hn⟩ : ∃ n, n = L.length := ⟨_, rfl⟩
  rw [← hn] at hE2 hll ⊢
  have HN := Lib.hid hn
  have HE := Lib.hid hE2
  have HB2 := Lib.hid hb2
  clear hv2 hb2 hn hE2 CW
  go_wp2_with fail
  go_loopw [7, 8] (fun vo i wr => ∃ k : Nat, k ≤ n ∧ i = .int .i64 (k : Int) ∧ Hid (OwnN wr w2.heap.size vo ((L.take k).map (snOf s v))) ∧ Hid (Below w2.heap.size w2 wr)) (fun _ i _ => n - (intOf i).toNat)
  case atStart => exact ⟨0, Nat.zero_le _, rfl, own_nilN _ _, Below.refl _ _⟩
  case round =>
    obtain ⟨k, hk, rfl, HO, HB⟩ := hrel
    by_cases hlt : k < n
    · have hltz : (k : Int) < (n : Int) := by omega
      obtain ⟨x, hx⟩ : ∃ x, L[k]? = some x := ⟨_, List.getElem?_eq_getElem (by rw [← HN.out]; exact hlt)⟩
      obtain ⟨ge, oe, rfl, hge, hce⟩ := HE.out.2.resolve_left (by omega)
      obtain ⟨c0, c1, c2'⟩ := hce k x hx
      have hpx := HPL.out x (List.mem_of_getElem? hx)
      have hdt : (L.take (k + 1)).map (snOf s v) = (L.take k).map (snOf s v) ++ [snOf s v x] := by
        rw [List.take_add_one, hx, List.map_append]
        rfl
      have HD := Lib.hid hdt
      have hX : ∀ W, Below w2.heap.size w2 W → W.cell? ⟨ge, oe + k * 3, none⟩ = some (.string x.path) ∧ W.cell? ⟨ge, oe + k * 3 + 1, none⟩ = some (.int .i64 x.node.kind) ∧ W.cell? ⟨ge, oe + k * 3 + 2, none⟩ = some (.string x.node.data) := fun W hW =>
        ⟨(hW.cell (p := ⟨ge, _, none⟩) hge).trans c0, (hW.cell (p := ⟨ge, _, none⟩) hge).trans c1, (hW.cell (p := ⟨ge, _, none⟩) hge).trans c2'⟩
      have e1 : (v ++ (⟨#[47]⟩ : ByteArray)).size = v.size + 1 := by rw [ByteArray.size_append]; rfl
      have S1 := run_plusS v ⟨#[47]⟩ (by show v.size + 1 ≤ _; omega)
      have S2 := run_plusS (v ++ ⟨#[47]⟩) x.path (by omega)
      have HX := Lib.hid hX
      have HS1 := Lib.hid S1
      have HS2 := Lib.hid S2
      have hlen : ((L.take k).map (snOf s v)).length ≤ 1000000 := by rw [List.length_map, List.length_take]; omega
      clear hx hce c0 c1 c2' hpx hdt hX S1 S2
      go_wp2_with fail
      refine Rg.wp_only ?_ (seenReg _ (by kernel_rfl) _ ge oe n c2 k (stampS s (v ++ ⟨#[47]⟩ ++ x.path)) v x.path (v ++ ⟨#[47]⟩) (v ++ ⟨#[47]⟩ ++ x.path) x.node.data x.node.kind _ u7 wr hltz (Below w2.heap.size w2)
        (fun v8 w8 => OwnN w8 w2.heap.size v8 ((L.take k).map (snOf s v) ++ [snOf s v x]) ∧ Below w2.heap.size w2 w8) HX.out HB.out.drew (fun W o h => h.alloc h.size o) HS1.out HS2.out
        (fun W h => (CS.out _ W (HB2.out.trans (h.mono HB2.out.size))).mono (by rintro e w5 ⟨rfl, k5⟩; exact ⟨rfl, h.trans (k5.mono h.size), k5⟩))
        (fun w5 k5 h5 ty => by
          have ho5 : OwnN w5 w2.heap.size u7 ((L.take k).map (snOf s v)) := (HO.out.below (Below.refl _ _).drew).below h5
          obtain ⟨v8, w8, e8, o8, g8⟩ := app_sn w5 w2.heap.size u7 _ ho5 (snOf s v x) hlen k5.size ty
          have hb8 : Below w2.heap.size w2 w8 := (k5.alloc k5.size _).grown g8 (Nat.le_trans k5.size (by simp)) (fun q hq => (World.ownsRow.lt ho5 q hq).1)
          exact ⟨v8, w8, e8, hb8, o8, hb8⟩))
      rintro _ w8 ⟨v8, g5, rfl, o8, b8⟩
      have HO8 := Lib.hid o8
      have HB8 := Lib.hid b8
      clear o8 b8
      go_wp2_with fail
      go_roundw
      case rel => exact ⟨k + 1, by omega, by go_num, by rw [HD.out]; exact HO8, HB8⟩
      case measure => simp only [intOf]; omega
    · have hkn : k = n := by omega
      have e2 : ¬ (k : Int) < (n : Int) := by omega
      have hall : L.take k = L := List.take_of_length_le (by rw [← HN.out]; omega)
      have HALL := Lib.hid hall
      clear hall hkn
      go_wp2_with fail
      go_ret
      unfold SnTo
      rw [HSN.out]
      have ho := HO.out
      rw [HALL.out] at ho
      exact ⟨_, rfl, own_low ho HB2.out.size, HB2.out.trans (HB.out.mono HB2.out.size)⟩
end Go.Proofs.YtdpnmdnfnplcfaaGreat.Sc

namespace Go.Proofs.YtdpnmdnfnplcfaaGreat.Sc
open Go.RowKit Tx Pm Pr Dk
set_option linter.unusedVariables false
theorem run_neq_seen (p Dt : ByteArray) (st : Nat) (K : Int) (W : World) : (binOp .neq 83 (.agg #[.string p, .int .i64 (st : Int), .int .i64 K, .string Dt]) (.agg #[.string p, .int .i64 (st : Int), .int .i64 K, .string Dt])).run Tryz.prog W = .ok (.bool false) W := by
  go_simp
set_option maxRecDepth 100000 in
set_option maxHeartbeats 2000000 in
theorem refSameSeen_any (a b : Option Addr) (n ca cb : Nat) (l : List Sn) (w : World) (ha : Sns w a n l) (hb : Sns w b n l) (hn : n ≤ 1000000) :
    Calls Tryz.prog 14 #[.slice a n ca, .slice b n cb] w fun e w' => e = .returned (.bool true) ∧ Below w.heap.size w w' := by
  have e0 : ((n : Int) == (n : Int)) = true := beq_self_eq_true _
  have HA := Lib.hid ha
  have HBB := Lib.hid hb
  clear ha hb
  go_enter Tryz.func14, Tryz.ntmps14
  go_wp2_with fail
  go_loopw [5] (fun i wr => ∃ k : Nat, k ≤ n ∧ i = .int .i64 (k : Int) ∧ Hid (Below w.heap.size w wr)) (fun i _ => n - (intOf i).toNat)
  case atStart => exact ⟨0, Nat.zero_le _, rfl, Below.refl _ _⟩
  case round =>
    obtain ⟨k, hk, rfl, HB⟩ := hrel
    by_cases hlt : k < n
    · have hltz : (k : Int) < (n : Int) := by omega
      have hll := HA.out.1
      obtain ⟨x, hx⟩ : ∃ x, l[k]? = some x := ⟨_, List.getElem?_eq_getElem (by omega)⟩
      obtain ⟨ga, oa, rfl, hga, hca⟩ := HA.out.2.resolve_left (by omega)
      obtain ⟨gb, ob, rfl, hgb, hcb⟩ := HBB.out.2.resolve_left (by omega)
      obtain ⟨a0, a1, a2, a3⟩ := hca k x hx
      obtain ⟨b0, b1, b2, b3⟩ := hcb k x hx
      have HX := Lib.hid (fun W (hW : Below w.heap.size w W) => show (W.cell? ⟨ga, oa + k * 4, none⟩ = some (.string x.path) ∧ W.cell? ⟨ga, oa + k * 4 + 1, none⟩ = some (.int .i64 (x.stamp : Int)) ∧ W.cell? ⟨ga, oa + k * 4 + 2, none⟩ = some (.int .i64 x.node.kind) ∧ W.cell? ⟨ga, oa + k * 4 + 3, none⟩ = some (.string x.node.data) ∧
          W.cell? ⟨gb, ob + k * 4, none⟩ = some (.string x.path) ∧ W.cell? ⟨gb, ob + k * 4 + 1, none⟩ = some (.int .i64 (x.stamp : Int)) ∧ W.cell? ⟨gb, ob + k * 4 + 2, none⟩ = some (.int .i64 x.node.kind) ∧ W.cell? ⟨gb, ob + k * 4 + 3, none⟩ = some (.string x.node.data)) from
        ⟨(hW.cell (p := ⟨ga, _, none⟩) hga).trans a0, (hW.cell (p := ⟨ga, _, none⟩) hga).trans a1, (hW.cell (p := ⟨ga, _, none⟩) hga).trans a2, (hW.cell (p := ⟨ga, _, none⟩) hga).trans a3, (hW.cell (p := ⟨gb, _, none⟩) hgb).trans b0, (hW.cell (p := ⟨gb, _, none⟩) hgb).trans b1, (hW.cell (p := ⟨gb, _, none⟩) hgb).trans b2, (hW.cell (p := ⟨gb, _, none⟩) hgb).trans b3⟩)
      clear hx hca hcb a0 a1 a2 a3 b0 b1 b2 b3 hll
      go_wp2_with fail
      refine Rg.wp_only ?_ (sameReg _ (by kernel_rfl) _ ga oa gb ob n ca cb k x.stamp x.path x.node.data x.node.kind wr hltz (Below w.heap.size w) HX.out HB.out.drew (run_neq_seen _ _ _ _))
      rintro _ w8 ⟨rfl, b8⟩
      have HB8 := Lib.hid b8
      clear b8
      go_wp2_with fail
      go_roundw
      case rel => exact ⟨k + 1, by omega, by go_num, HB8⟩
      case measure => simp only [intOf]; omega
    · have e2 : ¬ (k : Int) < (n : Int) := by omega
      go_wp2_with fail
      go_ret
      exact ⟨rfl, HB.out⟩
theorem run_eq_str (p q : ByteArray) (W : World) : (binOp .eql 9 (.string p) (.string q)).run Tryz.prog W = .ok (.bool (p.toList == q.toList)) W := by go_simp
theorem run_eq_int (p q : Int) (W : World) : (binOp .eql 3 (.int .i64 p) (.int .i64 q)).run Tryz.prog W = .ok (.bool (p == q)) W := by go_simp
theorem int_eq (a b : Int) : (a == b) = decide (a = b) := by
  by_cases e : a = b
  · rw [decide_eq_true e]; simpa using e
  · rw [decide_eq_false e]; exact beq_eq_false_iff_ne.2 e
def kn (seen : List Sn) (x : Sn) (j : Nat) : Bool := decide (x.node.kind = 1) || (seen.take j).any fun y => decide (y.path = x.path) && decide (y.stamp = x.stamp) && decide (y.node.kind = 2)
theorem kn_zero (seen : List Sn) (x : Sn) : kn seen x 0 = decide (x.node.kind = 1) := by unfold kn; simp
theorem kn_next {seen : List Sn} {x y : Sn} {j : Nat} (h : seen[j]? = some y) : kn seen x (j + 1) = (kn seen x j || (decide (y.path = x.path) && decide (y.stamp = x.stamp) && decide (y.node.kind = 2))) := by
  unfold kn
  rw [List.take_add_one, h, List.any_append]
  simp [Bool.or_assoc]
theorem kn_all {seen : List Sn} {x : Sn} {j : Nat} (h : seen.length ≤ j) : kn seen x j = known seen x := by
  unfold kn known
  rw [List.take_of_length_le h]
theorem rd_take {seen l : List Sn} {k : Nat} {x : Sn} (h : l[k]? = some x) : ((l.take (k + 1)).filter fun x => !known seen x).length = ((l.take k).filter fun x => !known seen x).length + if known seen x = true then 0 else 1 := by
  rw [List.take_add_one, h, List.filter_append, List.length_append]
  congr 1
  show (List.filter _ [x]).length = _
  cases hk : known seen x
  · rw [List.filter_cons_of_pos (by rw [hk]; rfl)]; rfl
  · rw [List.filter_cons_of_neg (by rw [hk]; simp)]; rfl
set_option maxRecDepth 100000 in
set_option maxHeartbeats 8000000 in
theorem refReads_any (b : Nat) (s : St) (vL vR : Value) (v : ByteArray) (A : Option Addr) (m c : Nat) (seen : List Sn) (w : World) (h : At w b s vL vR) (hf : Fit s) (hl : s.L.length ≤ 1000) (hv : v.size ≤ 1048576) (hps : ∀ x ∈ s.L, x.path.size ≤ 1048576) (hsn : Sns w A m seen) (hm : m ≤ 1000000) :
    Calls Tryz.prog 13 #[.pointer (some ⟨b, 0, none⟩), .string v, .slice A m c] w fun e w' => e = .returned (.int .i64 (rdS s v seen : Nat)) ∧ Below w.heap.size w w' := by
  have cS := refSeen_any b s vL vR v w h hf hl hv hps
  have hrd : rdS s v seen = ((snS s v).filter fun x => !known seen x).length := rfl
  have hll : (snS s v).length ≤ 1000 := by
    unfold snS
    rw [List.length_map]
    unfold wkS
    split
    · exact Nat.zero_le _
    · exact Nat.le_trans (entS_len _ _) hl
  unfold SnTo at cS
  obtain ⟨L, hL⟩ : ∃ L, L = snS s v := ⟨_, rfl⟩
  rw [← hL] at cS hrd hll
  have HRD := Lib.hid hrd
  have CS := Lib.hid cS
  have HSE := Lib.hid hsn
  clear cS hrd hL h hf hps hl hsn
  go_enter Tryz.func13, Tryz.ntmps13
  go_wp2_with fail
  go_at_call 15
  refine CS.out.mono ?_
  rintro e w2 ⟨v2, rfl, hv2, hb2⟩
  obtain ⟨a2, c2, rfl, hE2, _⟩ := hv2.form
  obtain ⟨n, hn⟩ : ∃ n, n = L.length := ⟨_, rfl⟩
  rw [← hn] at hE2 hll ⊢
  have HN := Lib.hid hn
  have HE := Lib.hid hE2
  have HB2 := Lib.hid hb2
  have HS2 := Lib.hid (HSE.out.below hb2)
  clear hv2 hb2 hn hE2 CS
  go_wp2_with fail
  go_loopw [8, 9, 10, 11] (fun cv i _ _ wr => ∃ k : Nat, k ≤ n ∧ i = .int .i64 (k : Int) ∧ cv = .int .i64 (((((L.take k).filter fun x => !known seen x).length : Nat)) : Int) ∧ Hid (Below w2.heap.size w2 wr)) (fun _ i _ _ _ => n - (intOf i).toNat)
  case atStart => exact ⟨0, Nat.zero_le _, rfl, rfl, Below.refl _ _⟩
  case round =>
    obtain ⟨k, hk, rfl, rfl, HB⟩ := hrel
    by_cases hlt : k < n
    · have hltz : (k : Int) < (n : Int) := by omega
      obtain ⟨x, hx⟩ : ∃ x, L[k]? = some x := ⟨_, List.getElem?_eq_getElem (by rw [← HN.out]; exact hlt)⟩
      obtain ⟨gn, on, rfl, hgn, hcn⟩ := HE.out.2.resolve_left (by omega)
      obtain ⟨x0, x1, x2, x3⟩ := hcn k x hx
      have d2 := (HB.out.cell (p := ⟨gn, _, none⟩) hgn).trans x2
      have hrt := rd_take (seen := seen) hx
      have hfl : ((L.take k).filter fun x => !known seen x).length ≤ 1000 := Nat.le_trans (List.length_filter_le _ _) (by rw [List.length_take]; omega)
      have wc : IntKind.i64.wrap (((((L.take k).filter fun x => !known seen x).length : Nat) : Int) + 1) = ((((L.take k).filter fun x => !known seen x).length : Nat) : Int) + 1 := IntWalk.i64_in _ (by omega)
      obtain ⟨CN, hCN⟩ : ∃ CN, CN = ((L.take k).filter fun x => !known seen x).length := ⟨_, rfl⟩
      rw [← hCN] at hrt hfl wc ⊢
      have HRT := Lib.hid hrt
      have HX := Lib.hid (fun W (hW : Below w2.heap.size w2 W) => show (W.cell? ⟨gn, on + k * 4, none⟩ = some (.string x.path) ∧ W.cell? ⟨gn, on + k * 4 + 1, none⟩ = some (.int .i64 (x.stamp : Int))) from ⟨(hW.cell (p := ⟨gn, _, none⟩) hgn).trans x0, (hW.cell (p := ⟨gn, _, none⟩) hgn).trans x1⟩)
      have hkd : (x.node.kind == 1) = decide (x.node.kind = 1) := by
        by_cases e : x.node.kind = 1
        · rw [decide_eq_true e]; simpa using e
        · rw [decide_eq_false e]; exact beq_eq_false_iff_ne.2 e
      have hkz := kn_zero seen x
      rw [← hkd] at hkz
      have HKZ := Lib.hid hkz
      clear hx hcn x0 x1 x2 x3 hrt hCN hkd hkz
      go_wp2_with fail
      go_loopw [10, 11] (fun kv j wx => ∃ i : Nat, i ≤ m ∧ j = .int .i64 (i : Int) ∧ kv = .bool (kn seen x i) ∧ Hid (Below w2.heap.size w2 wx)) (fun _ j _ => m - (intOf j).toNat)
      case atStart => exact ⟨0, Nat.zero_le _, rfl, by rw [HKZ.out], HB⟩
      case round =>
        obtain ⟨j, hj, rfl, rfl, HBX⟩ := hrel
        by_cases hlt2 : j < m
        · have hltj : (j : Int) < (m : Int) := by omega
          have hml := HS2.out.1
          obtain ⟨y, hy⟩ : ∃ y, seen[j]? = some y := ⟨_, List.getElem?_eq_getElem (by omega)⟩
          obtain ⟨gs, os, rfl, hgs, hcs⟩ := HS2.out.2.resolve_left (by omega)
          obtain ⟨y0, y1, y2, y3⟩ := hcs j y hy
          have hnx := kn_next (x := x) hy
          have HXX := Lib.hid (fun W (hW : Below w2.heap.size w2 W) => show (W.cell? ⟨gs, os + j * 4, none⟩ = some (.string y.path) ∧ W.cell? ⟨gs, os + j * 4 + 1, none⟩ = some (.int .i64 (y.stamp : Int)) ∧ W.cell? ⟨gs, os + j * 4 + 2, none⟩ = some (.int .i64 y.node.kind) ∧ W.cell? ⟨gn, on + k * 4, none⟩ = some (.string x.path) ∧ W.cell? ⟨gn, on + k * 4 + 1, none⟩ = some (.int .i64 (x.stamp : Int))) from
            ⟨(hW.cell (p := ⟨gs, _, none⟩) hgs).trans y0, (hW.cell (p := ⟨gs, _, none⟩) hgs).trans y1, (hW.cell (p := ⟨gs, _, none⟩) hgs).trans y2, (HX.out W hW).1, (HX.out W hW).2⟩)
          clear hy hcs y0 y1 y2 y3 hml
          cases hkn : kn seen x j with
          | true =>
            have hn1 : kn seen x (j + 1) = true := by rw [hnx, hkn]; rfl
            have HNX := Lib.hid hn1
            clear hnx hkn hn1
            go_wp2_with fail
            refine Rg.wp_only ?_ (readA _ (by kernel_rfl) _ gs os m c gn on n c2 k j y.stamp x.stamp y.path x.path y.node.kind true wr hltz hltj (Below w2.heap.size w2) HXX.out HBX.out.drew)
            rintro _ w8 ⟨rfl, b8⟩
            have HB8 := Lib.hid b8
            clear b8
            go_wp2_with fail
            go_roundw
            case rel => exact ⟨j + 1, by omega, by go_num, by rw [HNX.out], HB8⟩
            case measure => simp only [intOf]; omega
          | false =>
            by_cases d1 : y.path = x.path
            · have E1 : ∀ W : World, (binOp .eql 9 (.string y.path) (.string x.path)).run Tryz.prog W = .ok (.bool true) W := fun W => by rw [run_eq_str, d1]; simp
              by_cases d2' : y.stamp = x.stamp
              · have E2 : ∀ W : World, (binOp .eql 3 (.int .i64 (y.stamp : Int)) (.int .i64 (x.stamp : Int))).run Tryz.prog W = .ok (.bool true) W := fun W => by rw [run_eq_int, d2']; simp
                have E3 : ∀ W : World, (binOp .eql 3 (.int .i64 y.node.kind) (.int .i64 2)).run Tryz.prog W = .ok (.bool (decide (y.node.kind = 2))) W := fun W => by
                  rw [run_eq_int, int_eq]
                have hn1 : kn seen x (j + 1) = decide (y.node.kind = 2) := by rw [hnx, hkn, decide_eq_true d1, decide_eq_true d2']; rfl
                have HNX := Lib.hid hn1
                have HE1 := Lib.hid E1
                have HE2 := Lib.hid E2
                have HE3 := Lib.hid E3
                clear hnx hkn hn1 d1 d2' E1 E2 E3
                go_wp2_with fail
                refine Rg.wp_only ?_ (readD _ (by kernel_rfl) _ gs os m c gn on n c2 k j y.stamp x.stamp y.path x.path y.node.kind (decide (y.node.kind = 2)) wr hltz hltj (Below w2.heap.size w2) HXX.out HBX.out.drew HE1.out HE2.out HE3.out)
                rintro _ w8 ⟨rfl, b8⟩
                have HB8 := Lib.hid b8
                clear b8
                go_wp2_with fail
                go_roundw
                case rel => exact ⟨j + 1, by omega, by go_num, by rw [HNX.out], HB8⟩
                case measure => simp only [intOf]; omega
              · have E2 : ∀ W : World, (binOp .eql 3 (.int .i64 (y.stamp : Int)) (.int .i64 (x.stamp : Int))).run Tryz.prog W = .ok (.bool false) W := fun W => by rw [run_eq_int, beq_eq_false_iff_ne.2 (by omega)]
                have hn1 : kn seen x (j + 1) = false := by rw [hnx, hkn, decide_eq_false d2']; simp
                have HNX := Lib.hid hn1
                have HE1 := Lib.hid E1
                have HE2 := Lib.hid E2
                clear hnx hkn hn1 d1 d2' E1 E2
                go_wp2_with fail
                refine Rg.wp_only ?_ (readC _ (by kernel_rfl) _ gs os m c gn on n c2 k j y.stamp x.stamp y.path x.path y.node.kind true wr hltz hltj (Below w2.heap.size w2) HXX.out HBX.out.drew HE1.out HE2.out)
                rintro _ w8 ⟨rfl, b8⟩
                have HB8 := Lib.hid b8
                clear b8
                go_wp2_with fail
                go_roundw
                case rel => exact ⟨j + 1, by omega, by go_num, by rw [HNX.out], HB8⟩
                case measure => simp only [intOf]; omega
            · have E1 : ∀ W : World, (binOp .eql 9 (.string y.path) (.string x.path)).run Tryz.prog W = .ok (.bool false) W := fun W => by rw [run_eq_str, bytes_ne d1]
              have hn1 : kn seen x (j + 1) = false := by rw [hnx, hkn, decide_eq_false d1]; simp
              have HNX := Lib.hid hn1
              have HE1 := Lib.hid E1
              clear hnx hkn hn1 d1 E1
              go_wp2_with fail
              refine Rg.wp_only ?_ (readB _ (by kernel_rfl) _ gs os m c gn on n c2 k j y.stamp x.stamp y.path x.path y.node.kind true wr hltz hltj (Below w2.heap.size w2) HXX.out HBX.out.drew HE1.out)
              rintro _ w8 ⟨rfl, b8⟩
              have HB8 := Lib.hid b8
              clear b8
              go_wp2_with fail
              go_roundw
              case rel => exact ⟨j + 1, by omega, by go_num, by rw [HNX.out], HB8⟩
              case measure => simp only [intOf]; omega
        · have e2 : ¬ (j : Int) < (m : Int) := by omega
          have hall := kn_all (seen := seen) (x := x) (j := j) (by have := HS2.out.1; omega)
          cases hkn : known seen x with
          | true =>
            rw [hkn] at hall
            have hr := HRT.out
            rw [if_pos hkn] at hr
            have HR := Lib.hid hr
            rw [hall]
            clear hall hkn hr
            go_wp2_with fail
            go_roundw
            case rel => exact ⟨k + 1, by omega, by go_num, by rw [HR.out]; rfl, HBX⟩
            case measure => simp only [intOf]; omega
          | false =>
            rw [hkn] at hall
            have hr := HRT.out
            rw [if_neg (by rw [hkn]; simp)] at hr
            have HR := Lib.hid hr
            rw [hall]
            clear hall hkn hr
            go_wp2_with fail
            go_roundw
            case rel => exact ⟨k + 1, by omega, by go_num, by rw [HR.out]; go_num, HBX⟩
            case measure => simp only [intOf]; omega
    · have e2 : ¬ (k : Int) < (n : Int) := by omega
      have hall : L.take k = L := List.take_of_length_le (by rw [← HN.out]; omega)
      have HALL := Lib.hid hall
      clear hall
      go_wp2_with fail
      go_ret
      refine ⟨?_, HB2.out.trans (HB.out.mono HB2.out.size)⟩
      rw [HRD.out, HALL.out]
      rfl
end Go.Proofs.YtdpnmdnfnplcfaaGreat.Sc

namespace Go.Proofs.YtdpnmdnfnplcfaaGreat.Sc
open Go.RowKit Tx Pm Pr Dk
set_option linter.unusedVariables false
def WkA (r : List En.Et × Nat) (w : World) (e : Ending) (w' : World) : Prop := ∃ v, e = .returned (.tuple #[v, .int .i64 (r.2 : Int)]) ∧ En.Own w' w.heap.size v r.1 ∧ Below w.heap.size w w'
structure Mini (O : Nat → World → (Nat → Prop) → St → Prop) : Prop where
  new : ∀ w, Calls Tryz.prog 5 #[] w fun e w' => ∃ b F, e = .returned (.pointer (some ⟨b, 0, none⟩)) ∧ O b w' F newS ∧ (∀ i, F i → w.heap.size ≤ i) ∧ Below w.heap.size w w'
  mkdir : ∀ b {w F s i T} (P : ByteArray), O b w F s → Far s i T → P.size ≤ 1048576 → Calls Tryz.prog 27 #[.pointer (some ⟨b, 0, none⟩), .string P] w (Does (O b) w F (mkdirS s P))
  write : ∀ b {w F s i T} (P : ByteArray) (Q : ByteArray), O b w F s → Far s i T → P.size ≤ 1048576 → Q.size ≤ 1048576 → Calls Tryz.prog 28 #[.pointer (some ⟨b, 0, none⟩), .string P, .string Q] w (Does (O b) w F (writeS s P Q))
  walk : ∀ b {w F s i T} (V : ByteArray), O b w F s → Far s i T → V.size ≤ 1048576 → Calls Tryz.prog 9 #[.pointer (some ⟨b, 0, none⟩), .string V] w (WkA (wkS s V) w)
theorem below_chg {w w1 : World} {F : Nat → Prop} {B : Nat} (hc : Chg F w w1) (hF : ∀ i, F i → B ≤ i) (hB : B ≤ w.heap.size) : Below B w w1 :=
  ⟨hc.os, hc.tape, hc.output, hc.size, fun k hk => hc.block k (by omega) (fun h => by have := hF k h; omega)⟩
theorem left_own {O : World → (Nat → Prop) → St → Prop} {w0 w w1 : World} {F : Nat → Prop} {s : St} (h : Dk.Left O w F s w1) (hF : ∀ i, F i → w0.heap.size ≤ i) (hb : Below w0.heap.size w0 w) : ∃ F', O w1 F' s ∧ (∀ i, F' i → w0.heap.size ≤ i) ∧ Below w0.heap.size w0 w1 := by
  obtain ⟨F', h1, h2, h3⟩ := h
  have hs := hb.size
  exact ⟨F', h1, fun i hi => by
    rcases h3 i hi with hh | hh
    · exact hF i hh
    · omega, hb.trans (below_chg h2 hF hs)⟩
def pH : ByteArray := ⟨#[104, 117, 98]⟩
def pHA : ByteArray := ⟨#[104, 117, 98, 47, 97]⟩
def pHAX : ByteArray := ⟨#[104, 117, 98, 47, 97, 47, 120]⟩
def tHi : ByteArray := ⟨#[104, 105]⟩
def b1S : St := (mkdirS newS pH).2
def b2S : St := (mkdirS b1S pHA).2
def b3S : St := (writeS b2S pHAX tHi).2
theorem b1_ok : (mkdirS newS pH).1 = 0 := by decide +kernel
theorem b2_ok : (mkdirS b1S pHA).1 = 0 := by decide +kernel
theorem b3_ok : (writeS b2S pHAX tHi).1 = 0 := by decide +kernel
theorem b3_walk : wkS b3S pH = ([⟨⟨#[97]⟩, ⟨1, ⟨#[]⟩⟩⟩, ⟨⟨#[97, 47, 120]⟩, ⟨2, tHi⟩⟩], 0) := by kernel_rfl
theorem farb1 : Far b1S 1 (1 * 1048576) := far_new.step (K := 1) (M := 0) (P := pH) (Q := ⟨#[]⟩) (by omega) (by decide) (by decide) (by omega)
theorem farb2 : Far b2S 2 (2 * 1048576) := farb1.step (K := 1) (M := 0) (P := pHA) (Q := ⟨#[]⟩) (by omega) (by decide) (by decide) (by omega)
theorem farb3 : Far b3S 3 (3 * 1048576) := farb2.step (K := 2) (M := 0) (P := pHAX) (Q := tHi) (by omega) (by decide) (by decide) (by omega)
set_option maxRecDepth 100000 in
set_option maxHeartbeats 4000000 in
theorem awake_mini {O : Nat → World → (Nat → Prop) → St → Prop} (hI : Mini O) (w : World) :
    Calls Tryz.prog 7 #[] w fun e w' => e = .returned (.bool true) ∧ Below w.heap.size w w' := by
  have cn := hI.new
  have c1 : ∀ b {W F}, O b W F newS → Calls Tryz.prog 27 #[.pointer (some ⟨b, 0, none⟩), .string ⟨#[104, 117, 98]⟩] W fun e w' => e = .returned (.int .i64 0) ∧ Dk.Left (O b) W F b1S w' := fun b W F h => by
    have := hI.mkdir b pH h far_new (by decide)
    unfold Does at this
    rw [b1_ok] at this
    exact this
  have c2 : ∀ b {W F}, O b W F b1S → Calls Tryz.prog 27 #[.pointer (some ⟨b, 0, none⟩), .string ⟨#[104, 117, 98, 47, 97]⟩] W fun e w' => e = .returned (.int .i64 0) ∧ Dk.Left (O b) W F b2S w' := fun b W F h => by
    have := hI.mkdir b pHA h farb1 (by decide)
    unfold Does at this
    rw [b2_ok] at this
    exact this
  have c3 : ∀ b {W F}, O b W F b2S → Calls Tryz.prog 28 #[.pointer (some ⟨b, 0, none⟩), .string ⟨#[104, 117, 98, 47, 97, 47, 120]⟩, .string ⟨#[104, 105]⟩] W fun e w' => e = .returned (.int .i64 0) ∧ Dk.Left (O b) W F b3S w' := fun b W F h => by
    have := hI.write b pHAX tHi h farb2 (by decide) (by decide)
    unfold Does at this
    rw [b3_ok] at this
    exact this
  have c4 : ∀ b {W F}, O b W F b3S → Calls Tryz.prog 9 #[.pointer (some ⟨b, 0, none⟩), .string ⟨#[104, 117, 98]⟩] W (WkA ([⟨⟨#[97]⟩, ⟨1, ⟨#[]⟩⟩⟩, ⟨⟨#[97, 47, 120]⟩, ⟨2, tHi⟩⟩], 0) W) := fun b W F h => by
    have := hI.walk b pH h farb3 (by decide)
    rw [b3_walk] at this
    exact this
  have hG := En.guardE
  have hG2 := En.guardN
  unfold WkA at c4
  clear hI
  go_enter Tryz.func7, Tryz.ntmps7
  go_wp2_with fail
  go_at_call 5
  refine (cn _).mono ?_
  rintro e w1 ⟨b, F1, rfl, o1, hF1, hb1⟩
  go_wp2_with fail
  go_at_call 27
  refine (c1 b o1).mono ?_
  rintro e w2 ⟨rfl, hl⟩
  obtain ⟨F2, o2, hF2, hb2⟩ := left_own hl hF1 hb1
  clear hl
  go_wp2_with fail
  go_at_call 27
  refine (c2 b o2).mono ?_
  rintro e w3 ⟨rfl, hl⟩
  obtain ⟨F3, o3, hF3, hb3⟩ := left_own hl hF2 hb2
  clear hl
  go_wp2_with fail
  go_at_call 28
  refine (c3 b o3).mono ?_
  rintro e w4 ⟨rfl, hl⟩
  obtain ⟨F4, o4, hF4, hb4⟩ := left_own hl hF3 hb3
  clear hl o1 o2 o3 hF1 hF2 hF3 hb1 hb2 hb3
  go_wp2_with fail
  go_at_call 9
  refine (c4 b o4).mono ?_
  rintro e w5 ⟨v, rfl, hv, hb5⟩
  obtain ⟨a, c, rfl, hE, _, _⟩ := hv.form
  obtain ⟨g, off, ha, hg, hc⟩ := hE.2.resolve_left (by decide)
  cases ha
  obtain ⟨x0, x1, x2⟩ := hc 1 _ rfl
  rw [show off + 1 * 3 = off + 3 by omega] at x0 x1 x2
  have hb6 := below_call hb4 hb5
  clear hv hE hc o4 hF4 hb4 hb5 cn c1 c2 c3 c4
  unfold tHi at x2
  simp only at x0 x1 x2
  go_wp2_with fail
  go_ret
  exact ⟨rfl, hb6⟩
end Go.Proofs.YtdpnmdnfnplcfaaGreat.Sc

namespace Go.Proofs.YtdpnmdnfnplcfaaGreat.Sc
open Go.RowKit Tx Pm Pr Dk
set_option linter.unusedVariables false
def ScTo (s : St) (v : ByteArray) (seen : List Sn) (w : World) (e : Ending) (w' : World) : Prop := ∃ v1 v2, e = .returned (.tuple #[v1, v2, .int .i64 (rdS s v seen : Nat), .int .i64 ((wkS s v).2 : Nat)]) ∧ En.Own w' w.heap.size v1 (wkS s v).1 ∧ OwnN w' w.heap.size v2 (snS s v) ∧ Below w.heap.size w w'
def Szn (seen : List Sn) : Prop := ∀ x ∈ seen, x.path.size ≤ 1048576 ∧ x.stamp ≤ 1048576000
theorem szn_nil : Szn [] := fun x hx => by cases hx
structure Impl (O : Nat → World → (Nat → Prop) → St → Prop) : Prop where
  turns : ∀ b, Turns (O b) (.pointer (some ⟨b, 0, none⟩))
  new : ∀ w, Calls Tryz.prog 5 #[] w fun e w' => ∃ b F, e = .returned (.pointer (some ⟨b, 0, none⟩)) ∧ O b w' F newS ∧ (∀ i, F i → w.heap.size ≤ i) ∧ Below w.heap.size w w'
  walk : ∀ b {w F s i T} (V : ByteArray), O b w F s → Far s i T → V.size ≤ 1048576 → Calls Tryz.prog 9 #[.pointer (some ⟨b, 0, none⟩), .string V] w (WkTo (wkS s V) w)
  scan : ∀ b {w F s i T} (V : ByteArray) (A : Option Addr) (m c : Nat) (seen : List Sn), O b w F s → Far s i T → V.size ≤ 1048576 → Sns w A m seen → m ≤ 1000000 → Good s V seen → Szn seen →
    Calls Tryz.prog 11 #[.pointer (some ⟨b, 0, none⟩), .string V, .slice A m c] w (ScTo s V seen w)
theorem Impl.mini {O : Nat → World → (Nat → Prop) → St → Prop} (h : Impl O) : Mini O :=
  ⟨h.new, fun b {_ _ _ _ _} P ho hf hP => (h.turns b).mkdir P ho hf hP, fun b {_ _ _ _ _} P Q ho hf hP hQ => (h.turns b).write P Q ho hf hP hQ, fun b {_ _ _ _ _} V ho hf hV => h.walk b V ho hf hV⟩
theorem awake_any15 {O : Nat → World → (Nat → Prop) → St → Prop} (hI : Impl O) (w : World) :
    Calls Tryz.prog 7 #[] w fun e w' => e = .returned (.bool true) ∧ Below w.heap.size w w' := awake_mini hI.mini w
end Go.Proofs.YtdpnmdnfnplcfaaGreat.Sc

namespace Go.Proofs.YtdpnmdnfnplcfaaGreat.Sc
open Go.RowKit Tx Pm Pr Dk Od
set_option linter.unusedVariables false
theorem less_irr (a : List UInt8) : Op.bytesLess a a = false := by
  induction a with
  | nil => rfl
  | cons x a ih => simp [Op.bytesLess, ih]
theorem rises_one {l : List It} (h : Rises l) : ∀ x ∈ l, ∀ y ∈ l, x.path = y.path → x = y := by
  unfold Rises at h
  induction l with
  | nil => intro x hx; cases hx
  | cons z l ih =>
    obtain ⟨h1, h2⟩ := List.pairwise_cons.1 h
    intro x hx y hy e
    rcases List.mem_cons.1 hx with ex | hx2
    · rcases List.mem_cons.1 hy with ey | hy2
      · rw [ex, ey]
      · have := h1 y hy2
        rw [← ex, e, less_irr] at this
        cases this
    · rcases List.mem_cons.1 hy with ey | hy2
      · have := h1 x hx2
        rw [← ey, e, less_irr] at this
        cases this
      · exact ih h2 x hx2 y hy2 e
theorem find_one {l : List It} (h : Rises l) {x : It} (hx : x ∈ l) : find l x.path = some x := by
  cases hf : find l x.path with
  | none =>
    have := List.find?_eq_none.1 hf x hx
    simp at this
  | some y =>
    obtain ⟨h1, h2⟩ := find_mem hf
    rw [rises_one h y h1 x hx h2]
theorem good_new {s : St} {v : ByteArray} (hr : Rises s.L) (hs : Stp s) : Good s v (snS s v) := by
  intro x hx hk
  unfold snS at hx
  obtain ⟨e, he, rfl⟩ := List.mem_map.1 hx
  unfold wkS at he
  split at he
  · cases he
  · rename_i h0
    have h1 : chk v.data.toList 1 = 0 := by
      unfold err15 at h0
      by_cases hc : chk v.data.toList 1 = 0
      · exact hc
      · rw [if_pos hc] at h0
        exact absurd h0 (by decide)
    unfold entS at he
    obtain ⟨y0, hy0, rfl⟩ := List.mem_map.1 he
    obtain ⟨hm, hin⟩ := List.mem_filter.1 hy0
    obtain ⟨_, hp⟩ := inV_long (vol_name h1) hin
    have hst : stampS s (v ++ ⟨#[47]⟩ ++ tl v y0.path) = y0.stamp := by
      rw [← hp]
      unfold stampS
      rw [find_one hr hm]
    have hkd : nodeOf y0 = ⟨2, y0.data⟩ := by
      have : (nodeOf y0).kind = 2 := hk
      unfold nodeOf at this ⊢
      split at this
      · cases this
      · rename_i hd
        rw [if_neg hd]
    refine ⟨?_, fun y hy e1 e2 e3 => ?_⟩
    · show stampS s (v ++ ⟨#[47]⟩ ++ tl v y0.path) ≤ _
      rw [hst]
      exact hs y0 hm
    · have e4 : y.path = y0.path := e1.trans hp.symm
      rw [rises_one hr y hy y0 hm e4]
      show y0.data = (nodeOf y0).data
      rw [hkd]
theorem wk_err {s : St} {v : ByteArray} (h : (wkS s v).2 ≠ 0) : (wkS s v).1 = [] ∧ snS s v = [] ∧ ∀ seen, rdS s v seen = 0 := by
  have h1 : (wkS s v).1 = [] := by
    unfold wkS at h ⊢
    split
    · rfl
    · rename_i h0
      rw [if_neg h0] at h
      exact absurd rfl h
  refine ⟨h1, by unfold snS; rw [h1]; rfl, fun seen => by unfold rdS snS; rw [h1]; rfl⟩
theorem szn_sn {s : St} {v : ByteArray} (hp : ∀ x ∈ s.L, x.path.size ≤ 1048576) (hs : Stp s) (hT : s.stamps ≤ 1048576000) : Szn (snS s v) := by
  intro x hx
  unfold snS at hx
  obtain ⟨e, he, rfl⟩ := List.mem_map.1 hx
  have h1 : ∃ y ∈ s.L, e.path = tl v y.path := by
    unfold wkS at he
    split at he
    · cases he
    · unfold entS at he
      obtain ⟨y, hy, rfl⟩ := List.mem_map.1 he
      exact ⟨y, (List.mem_filter.1 hy).1, rfl⟩
  obtain ⟨y, hy, hey⟩ := h1
  refine ⟨?_, ?_⟩
  · show e.path.size ≤ _
    rw [hey]
    unfold tl
    rw [ByteArray.size_extract]
    have := hp y hy
    omega
  · show stampS s _ ≤ _
    unfold stampS
    cases hf : find s.L (v ++ ⟨#[47]⟩ ++ e.path) with
    | none => exact Nat.zero_le _
    | some z => exact Nat.le_trans (hs z (find_mem hf).1) hT
end Go.Proofs.YtdpnmdnfnplcfaaGreat.Sc

namespace Go.Proofs.YtdpnmdnfnplcfaaGreat.En
open Go.RowKit Tx Pm Pr
set_option linter.unusedVariables false
def okAt (l : List Et) (i : Nat) : Bool := match l[i]? with
  | none => true
  | some x => decide (chk x.path.data.toList 5 = 0) && whole x.node && !decide (x.node.kind = 0) && (decide (i = 0) || (match l[i - 1]? with | some y => Op.bytesLess y.path.toList x.path.toList | none => true)) && (decide (par x.path.data.toList = []) || decide ((tget l (tb (par x.path.data.toList))).kind = 1))
def tcheck (l : List Et) : Nat := if 200 < l.length then 4 else if (List.range l.length).all (okAt l) then 0 else 3
theorem tcheck_bad {l : List Et} {i : Nat} (hi : i < l.length) (h : okAt l i = false) (hn : l.length ≤ 200) : tcheck l = 3 := by
  rw [tcheck, if_neg (by omega), if_neg]
  intro hall
  have := List.all_eq_true.1 hall i (List.mem_range.2 hi)
  rw [h] at this
  cases this
theorem tcheck_good {l : List Et} (h : ∀ i, i < l.length → okAt l i = true) (hn : l.length ≤ 200) : tcheck l = 0 := by
  rw [tcheck, if_neg (by omega), if_pos (List.all_eq_true.2 (fun i hi => h i (List.mem_range.1 hi)))]
theorem okAt_eq {l : List Et} {i : Nat} {x : Et} (h : l[i]? = some x) : okAt l i = (decide (chk x.path.data.toList 5 = 0) && whole x.node && !decide (x.node.kind = 0) && (decide (i = 0) || (match l[i - 1]? with | some y => Op.bytesLess y.path.toList x.path.toList | none => true)) && (decide (par x.path.data.toList = []) || decide ((tget l (tb (par x.path.data.toList))).kind = 1))) := by
  rw [okAt, h]
def Small (l : List Et) : Prop := ∀ x ∈ l, x.path.size ≤ 8000000000000 ∧ x.node.data.size ≤ 8000000000000
theorem tb_ne {l : List UInt8} (h : l ≠ []) : (tb l).toList.isEmpty = false := not_empty (fun e => h (by rw [← tb_list l, e]))
theorem tb_nil {l : List UInt8} (h : l = []) : (tb l).toList.isEmpty = true := is_empty (by rw [h]; rfl)
set_option maxRecDepth 100000 in
set_option maxHeartbeats 2000000 in
theorem refCheckT_any (a : Option Addr) (n c : Nat) (l : List Et) (w : World) (hl : Ents w a n l) (hn : n ≤ 9223372036854775806) (hs : Small l) :
    Calls Tryz.prog 17 #[.slice a n c] w fun e w' => e = .returned (.int .i64 (tcheck l : Nat)) ∧ Below w.heap.size w w' := by
  obtain ⟨hln, hc⟩ := hl
  by_cases hbig : 200 < n
  · have e : tcheck l = 4 := by rw [tcheck, if_pos (by omega)]
    rw [e]
    clear hc e hln
    go_enter Tryz.func17, Tryz.ntmps17
    go_wp2
    go_ret
    exact ⟨rfl, Below.refl _ _⟩
  have hn2 : n ≤ 200 := by omega
  by_cases h0 : n = 0
  · subst h0
    obtain rfl : l = [] := List.length_eq_zero_iff.1 hln
    have e : tcheck [] = 0 := rfl
    rw [e]
    clear hc hs e hbig
    go_enter Tryz.func17, Tryz.ntmps17
    go_wp2
    go_loop [3] (fun i => i = .int .i64 0) (fun _ => 0)
    case atStart => exact rfl
    case round =>
      obtain rfl := hrel
      go_wp2
      go_ret
      exact ⟨rfl, Below.refl _ _⟩
  have hE : Hid (Ents w a n l) := ⟨hln, hc⟩
  obtain ⟨b, off, rfl, hb, hc⟩ := hc.resolve_left h0
  have HC := Lib.hid hc
  have HS := Lib.hid hs
  have HB := fun i => Lib.hid (fun (hi : i < l.length) (h : okAt l i = false) => tcheck_bad hi h (by omega))
  have HG := Lib.hid (fun (h : ∀ i, i < l.length → okAt l i = true) => tcheck_good h (by omega))
  obtain ⟨T, hT⟩ : ∃ T, T = tcheck l := ⟨_, rfl⟩
  rw [← hT] at HB HG
  rw [← hT]
  clear hc h0 hs hT hbig
  go_enter Tryz.func17, Tryz.ntmps17
  go_wp2_with fail
  go_loopw [3] (fun i wr => ∃ k : Nat, k ≤ n ∧ i = .int .i64 k ∧ Hid (∀ i, i < k → okAt l i = true) ∧ Below w.heap.size w wr) (fun i _ => n - (intOf i).toNat)
  case atStart => exact ⟨0, Nat.zero_le _, rfl, (fun i hi => absurd hi (Nat.not_lt_zero _)), Below.refl _ _⟩
  case round =>
    obtain ⟨k, hk, rfl, hgood, hB⟩ := hrel
    by_cases hlt : k < n
    · obtain ⟨x, hx⟩ : ∃ x, l[k]? = some x := ⟨_, List.getElem?_eq_getElem (by omega)⟩
      obtain ⟨c1, c2, c3⟩ := HC.out k x hx
      obtain ⟨hps, hds⟩ := HS.out x (List.mem_of_getElem? hx)
      have hok := okAt_eq hx
      have HO := Lib.hid hok
      have HX := Lib.hid hx
      have hkl : k < l.length := by omega
      have HK := Lib.hid hkl
      clear hok hx hkl
      obtain ⟨P, K, D⟩ := x
      simp only at c1 c2 c3 hps hds
      have d1 := (hB.cell (p := ⟨b, _, none⟩) hb).trans c1
      have cc := fun W => refCheck_any P 5 W (by omega) (by omega) (by omega)
      have htwo := chk_two P.data.toList 5
      obtain ⟨C, hC⟩ : ∃ C, C = chk P.data.toList 5 := ⟨_, rfl⟩
      rw [← hC] at cc htwo
      have HCC := Lib.hid hC
      clear hC
      go_wp2_with fail
      go_at_call 40
      refine (cc _).mono ?_
      rintro e w1 ⟨rfl, hb1⟩
      have hB1 := below_call hB hb1
      clear d1 cc hb1
      have d1 := (hB1.cell (p := ⟨b, _, none⟩) hb).trans c1
      have d2 := (hB1.cell (p := ⟨b, _, none⟩) hb).trans c2
      have d3 := (hB1.cell (p := ⟨b, _, none⟩) hb).trans c3
      rcases htwo with h | h
      case inr =>
        have hf : okAt l k = false := by rw [HO.out, ← HCC.out, h]; rfl
        have hT := (HB k).out HK.out hf
        subst h hT
        clear hf
        go_wp2_with fail
        go_ret
        exact ⟨rfl, hB1⟩
      have cw := fun W => refWhole_any ⟨K, D⟩ W (by show D.size ≤ _; omega)
      unfold nv at cw
      obtain ⟨V, hV⟩ : ∃ V, V = whole ⟨K, D⟩ := ⟨_, rfl⟩
      rw [← hV] at cw
      have HV := Lib.hid hV
      have HH := Lib.hid h
      subst h
      clear hV
      go_wp2_with fail
      go_at_call 50
      refine (cw _).mono ?_
      rintro e w2 ⟨rfl, hb2⟩
      have hB2 := below_call hB1 hb2
      clear d1 d2 d3 cw hb2 hB1 hB
      have d1 := (hB2.cell (p := ⟨b, _, none⟩) hb).trans c1
      have d2 := (hB2.cell (p := ⟨b, _, none⟩) hb).trans c2
      have d3 := (hB2.cell (p := ⟨b, _, none⟩) hb).trans c3
      by_cases hv : V = true
      case neg =>
        obtain rfl := Bool.eq_false_iff.2 hv
        have hf : okAt l k = false := by rw [HO.out, ← HCC.out, ← HV.out]; rfl
        have hT := (HB k).out HK.out hf
        subst hT
        clear hf hv
        go_wp2_with fail
        go_ret
        exact ⟨rfl, hB2⟩
      subst hv
      by_cases hK : K = 0
      · have hf : okAt l k = false := by rw [HO.out, ← HCC.out, ← HV.out, hK]; rfl
        have hT := (HB k).out HK.out hf
        subst hT
        subst hK
        clear hf
        go_wp2_with fail
        go_ret
        exact ⟨rfl, hB2⟩
      have eK : ((K : Int) == 0) = false := beq_eq_false_iff_ne.2 hK
      have HN0 := Lib.hid hK
      clear hK
      have cp := fun W => refParent_any P W (by omega)
      have cg := fun W hB => refGet_any (some ⟨b, off, none⟩) n c l (tb (par P.data.toList)) W (Ents.below hE.out hB) (by omega)
      unfold nv at cg
      by_cases hprev : k = 0 ∨ ∃ y, l[k - 1]? = some y ∧ Op.bytesLess y.path.toList P.toList = true
      case neg =>
        have hk0 : k ≠ 0 := fun h => hprev (.inl h)
        obtain ⟨y, hy⟩ : ∃ y, l[k - 1]? = some y := ⟨_, List.getElem?_eq_getElem (by omega)⟩
        have hless : Op.bytesLess y.path.toList P.toList = false := Bool.eq_false_iff.2 (fun h => hprev (.inr ⟨y, hy, h⟩))
        have hf : okAt l k = false := by rw [HO.out, hy, decide_eq_false hk0, Bool.false_or]; simp only [hless]; simp
        have hT := (HB k).out HK.out hf
        subst hT
        obtain ⟨j, rfl⟩ : ∃ j, k = j + 1 := ⟨k - 1, by omega⟩
        rw [Nat.add_sub_cancel] at hy
        have g1 := (hB2.cell (p := ⟨b, _, none⟩) hb).trans (HC.out j y hy).1
        have hsub : ((j + 1 : Nat) : Int) - 1 = j := by omega
        obtain ⟨Y, hY⟩ : ∃ Y, Y = y.path := ⟨_, rfl⟩
        rw [← hY] at g1 hless
        clear hf hprev hk0 hy hY
        go_wp2_with fail
        go_ret
        exact ⟨rfl, hB2⟩
      have hpb : (decide (k = 0) || (match l[k - 1]? with | some y => Op.bytesLess y.path.toList P.toList | none => true)) = true := by
        rcases hprev with h | ⟨y, hy, hless⟩
        · rw [decide_eq_true h]; rfl
        · rw [hy]; simp only [hless]; simp
      have hmain : ((par P.data.toList = []) ∨ (tget l (tb (par P.data.toList))).kind = 1) → okAt l k = true := by
        intro h
        rw [HO.out]
        rw [hpb, ← HCC.out, ← HV.out, decide_eq_false HN0.out]
        rcases h with h | h
        · rw [decide_eq_true h]; rfl
        · rw [decide_eq_true h, Bool.or_true]; rfl
      have hmainf : (par P.data.toList ≠ []) → (tget l (tb (par P.data.toList))).kind ≠ 1 → okAt l k = false := by
        intro h1 h2
        rw [HO.out]
        rw [decide_eq_false h1, decide_eq_false h2, Bool.or_false, Bool.and_false]
      have HM := Lib.hid hmain
      have HMF := Lib.hid hmainf
      clear hmain hmainf hpb
      have hp1 := @tb_nil (par P.data.toList)
      have hp2 := @tb_ne (par P.data.toList)
      obtain ⟨R, hR⟩ : ∃ R, R = tb (par P.data.toList) := ⟨_, rfl⟩
      rw [← hR] at cp cg HM HMF hp1 hp2
      have hnext : okAt l k = true → ∀ i, i < k + 1 → okAt l i = true := by
        intro h i hi
        rcases Nat.lt_or_ge i k with h2 | h2
        · exact hgood.out i h2
        · obtain rfl : i = k := by omega
          exact h
      have HNX := Lib.hid hnext
      clear hR hnext
      rcases hprev with rfl | ⟨y, hy, hless⟩
      · by_cases hpar : par P.data.toList = []
        · have e := hp1 hpar
          have HT := Lib.hid (HNX.out (HM.out (.inl hpar)))
          clear hp1 hp2 hpar
          go_wp2_with (first | (go_at_call 51; refine (cp _).mono ?_; rintro e w3 ⟨rfl, rfl⟩) | (go_at_call 22; refine (cg _ hB2).mono ?_; rintro e w4 ⟨rfl, hb4⟩))
          go_roundw
          case rel => exact ⟨1, by omega, by go_num, HT.out, hB2⟩
          case measure => simp [intOf]; omega
        · have e := hp2 hpar
          have hkind := HMF.out hpar
          have hkind2 := fun h => HM.out (.inr h)
          obtain ⟨N, hN⟩ : ∃ N, N = (tget l R).kind := ⟨_, rfl⟩
          rw [← hN] at cg hkind hkind2
          have hfd : ∀ (a : Int) (d : ByteArray) (w : World), (Instr.field 52 (.agg #[.int .i64 a, .string d]) 0).run Tryz.prog w = .ok (.int .i64 a) w := fun _ _ _ => by kernel_rfl
          clear hp1 hp2 hpar hN
          by_cases h1 : N = 1
          · have HT := Lib.hid (HNX.out (hkind2 h1))
            have e1 : ((N : Int) == 1) = true := by simp [h1]
            clear hkind hkind2 h1
            go_wp2_with (first | (go_at_call 51; refine (cp _).mono ?_; rintro e w3 ⟨rfl, rfl⟩) | (go_at_call 22; refine (cg _ hB2).mono ?_; rintro e w4 ⟨rfl, hb4⟩))
            go_roundw
            case rel => exact ⟨1, by omega, by go_num, HT.out, below_call hB2 hb4⟩
            case measure => simp [intOf]; omega
          · have hT := (HB _).out HK.out (hkind h1)
            have e1 : ((N : Int) == 1) = false := beq_eq_false_iff_ne.2 h1
            subst hT
            clear hkind hkind2 h1
            go_wp2_with (first | (go_at_call 51; refine (cp _).mono ?_; rintro e w3 ⟨rfl, rfl⟩) | (go_at_call 22; refine (cg _ hB2).mono ?_; rintro e w4 ⟨rfl, hb4⟩))
            go_ret
            exact ⟨rfl, below_call hB2 hb4⟩
      · by_cases hk0 : k = 0
        · subst hk0
          by_cases hpar : par P.data.toList = []
          · have e := hp1 hpar
            have HT := Lib.hid (HNX.out (HM.out (.inl hpar)))
            clear hp1 hp2 hpar
            go_wp2_with (first | (go_at_call 51; refine (cp _).mono ?_; rintro e w3 ⟨rfl, rfl⟩) | (go_at_call 22; refine (cg _ hB2).mono ?_; rintro e w4 ⟨rfl, hb4⟩))
            go_roundw
            case rel => exact ⟨1, by omega, by go_num, HT.out, hB2⟩
            case measure => simp [intOf]; omega
          · have e := hp2 hpar
            have hkind := HMF.out hpar
            have hkind2 := fun h => HM.out (.inr h)
            obtain ⟨N, hN⟩ : ∃ N, N = (tget l R).kind := ⟨_, rfl⟩
            rw [← hN] at cg hkind hkind2
            have hfd : ∀ (a : Int) (d : ByteArray) (w : World), (Instr.field 52 (.agg #[.int .i64 a, .string d]) 0).run Tryz.prog w = .ok (.int .i64 a) w := fun _ _ _ => by kernel_rfl
            clear hp1 hp2 hpar hN
            by_cases h1 : N = 1
            · have HT := Lib.hid (HNX.out (hkind2 h1))
              have e1 : ((N : Int) == 1) = true := by simp [h1]
              clear hkind hkind2 h1
              go_wp2_with (first | (go_at_call 51; refine (cp _).mono ?_; rintro e w3 ⟨rfl, rfl⟩) | (go_at_call 22; refine (cg _ hB2).mono ?_; rintro e w4 ⟨rfl, hb4⟩))
              go_roundw
              case rel => exact ⟨1, by omega, by go_num, HT.out, below_call hB2 hb4⟩
              case measure => simp [intOf]; omega
            · have hT := (HB _).out HK.out (hkind h1)
              have e1 : ((N : Int) == 1) = false := beq_eq_false_iff_ne.2 h1
              subst hT
              clear hkind hkind2 h1
              go_wp2_with (first | (go_at_call 51; refine (cp _).mono ?_; rintro e w3 ⟨rfl, rfl⟩) | (go_at_call 22; refine (cg _ hB2).mono ?_; rintro e w4 ⟨rfl, hb4⟩))
              go_ret
              exact ⟨rfl, below_call hB2 hb4⟩
        obtain ⟨j, rfl⟩ : ∃ j, k = j + 1 := ⟨k - 1, by omega⟩
        rw [Nat.add_sub_cancel] at hy
        have g1 := (hB2.cell (p := ⟨b, _, none⟩) hb).trans (HC.out j y hy).1
        have hsub : ((j + 1 : Nat) : Int) - 1 = j := by omega
        obtain ⟨Y, hY⟩ : ∃ Y, Y = y.path := ⟨_, rfl⟩
        rw [← hY] at g1 hless
        clear hk0 hy hY
        by_cases hpar : par P.data.toList = []
        · have e := hp1 hpar
          have HT := Lib.hid (HNX.out (HM.out (.inl hpar)))
          clear hp1 hp2 hpar
          go_wp2_with (first | (go_at_call 51; refine (cp _).mono ?_; rintro e w3 ⟨rfl, rfl⟩) | (go_at_call 22; refine (cg _ hB2).mono ?_; rintro e w4 ⟨rfl, hb4⟩))
          go_roundw
          case rel => exact ⟨j + 1 + 1, by omega, by go_num, HT.out, hB2⟩
          case measure => simp [intOf]; omega
        · have e := hp2 hpar
          have hkind := HMF.out hpar
          have hkind2 := fun h => HM.out (.inr h)
          obtain ⟨N, hN⟩ : ∃ N, N = (tget l R).kind := ⟨_, rfl⟩
          rw [← hN] at cg hkind hkind2
          have hfd : ∀ (a : Int) (d : ByteArray) (w : World), (Instr.field 52 (.agg #[.int .i64 a, .string d]) 0).run Tryz.prog w = .ok (.int .i64 a) w := fun _ _ _ => by kernel_rfl
          clear hp1 hp2 hpar hN
          by_cases h1 : N = 1
          · have HT := Lib.hid (HNX.out (hkind2 h1))
            have e1 : ((N : Int) == 1) = true := by simp [h1]
            clear hkind hkind2 h1
            go_wp2_with (first | (go_at_call 51; refine (cp _).mono ?_; rintro e w3 ⟨rfl, rfl⟩) | (go_at_call 22; refine (cg _ hB2).mono ?_; rintro e w4 ⟨rfl, hb4⟩))
            go_roundw
            case rel => exact ⟨j + 1 + 1, by omega, by go_num, HT.out, below_call hB2 hb4⟩
            case measure => simp [intOf]; omega
          · have hT := (HB _).out HK.out (hkind h1)
            have e1 : ((N : Int) == 1) = false := beq_eq_false_iff_ne.2 h1
            subst hT
            clear hkind hkind2 h1
            go_wp2_with (first | (go_at_call 51; refine (cp _).mono ?_; rintro e w3 ⟨rfl, rfl⟩) | (go_at_call 22; refine (cg _ hB2).mono ?_; rintro e w4 ⟨rfl, hb4⟩))
            go_ret
            exact ⟨rfl, below_call hB2 hb4⟩
    · obtain rfl : k = n := by omega
      have hT := HG.out (fun i hi => hgood.out i (by omega))
      subst hT
      clear hgood hln
      go_wp2_with fail
      go_ret
      exact ⟨rfl, hB⟩
end Go.Proofs.YtdpnmdnfnplcfaaGreat.En

namespace Go.Proofs.YtdpnmdnfnplcfaaGreat.Sc
open Go.RowKit Tx Pm Pr Dk Od
set_option linter.unusedVariables false
def Homes (l : List It) : Prop := ∀ y ∈ l, par y.path.data.toList ≠ [] → ∃ x ∈ l, x.path = tb (par y.path.data.toList) ∧ x.dir = true
structure Rb (n : Nat) (s : St) : Prop where
  inv : Inv s n (n * 1048576)
  stamps : s.stamps ≤ n
  n : n ≤ 100000
  armed : s.armed = -1
  up : s.down = false
  rooms : s.rooms = []
  stp : Stp s
  homes : Homes s.L
structure Laid (n : Nat) (s s' : St) (v : ByteArray) (t : List En.Et) : Prop where
  rb : Rb (n + 1000) s'
  up : s.stamps ≤ s'.stamps
  others : s'.L.filter (fun x => !inV v x) = s.L.filter (fun x => !inV v x)
  tree : entS s'.L v = t
  items : ∀ x ∈ s'.L, inV v x = true → x ∈ s.L ∨ (x.loose = false ∧ ((x.dir = true ∧ x.stamp = 0 ∧ x.data = ⟨#[]⟩) ∨ (x.dir = false ∧ s.stamps < x.stamp ∧ x.stamp ≤ s'.stamps)))
  same : ∀ x ∈ s'.L, inV v x = true → x.dir = false → ∀ y ∈ s.L, y.path = x.path → y.dir = false → y.data = x.data → y = x
theorem Laid.keeps {n : Nat} {s s' : St} {v : ByteArray} {t : List En.Et} (h : Laid n s s' v t) : Keeps s s' := ⟨h.up, fun x hx => by
  cases hv : inV v x
  · have : x ∈ s'.L.filter (fun x => !inV v x) := List.mem_filter.2 ⟨hx, by rw [hv]; rfl⟩
    rw [h.others] at this
    exact .inl ⟨x, (List.mem_filter.1 this).1, rfl, rfl, rfl, rfl⟩
  · rcases h.items x hx hv with h1 | ⟨_, ⟨h1, h2, _⟩ | ⟨h1, h2, h3⟩⟩
    · exact .inl ⟨x, h1, rfl, rfl, rfl, rfl⟩
    · exact .inr (.inr ⟨h1, h2⟩)
    · exact .inr (.inl ⟨h2, h3⟩)⟩
def pW : ByteArray := ⟨#[119]⟩
def pWX : ByteArray := ⟨#[119, 47, 120]⟩
def tOth : ByteArray := ⟨#[111, 116, 104, 101, 114]⟩
def hubI : It := ⟨pH, true, ⟨#[]⟩, ⟨#[]⟩, false, false, 0⟩
def wI : It := ⟨pW, true, ⟨#[]⟩, ⟨#[]⟩, false, false, 0⟩
def c2S : St := (mkdirS b1S pW).2
def c3S : St := (writeS c2S pWX tOth).2
theorem c3_is : c3S = ⟨[hubI, wI, ⟨pWX, false, tOth, ⟨#[]⟩, true, true, 1⟩], [], 3, 1, -1, false⟩ := by kernel_rfl
structure Hub (a : List En.Et) (n : Nat) (s : St) : Prop where
  rb : Rb n s
  tree : entS s.L pH = a
  oth : ∃ z : It, z.path = pWX ∧ s.L.filter (fun x => !inV pH x) = [hubI, wI, z]
  files : ∀ x ∈ s.L, inV pH x = true → x.loose = false ∧ (x.dir = true → x.data = ⟨#[]⟩)
theorem hub_item {a : List En.Et} {n : Nat} {s : St} (h : Hub a n s) : hubI ∈ s.L := by
  obtain ⟨z, _, hz⟩ := h.oth
  have : hubI ∈ s.L.filter (fun x => !inV pH x) := by rw [hz]; simp
  exact (List.mem_filter.1 this).1
theorem hub_walk {a : List En.Et} {n : Nat} {s : St} (h : Hub a n s) : wkS s pH = (a, 0) := by
  have hk : kind s.L pH = 1 := by
    have := find_one h.rb.inv.rises (hub_item h)
    rw [kind, show pH = hubI.path from rfl, this]
    rfl
  have he : err15 s pH = 0 := by
    unfold err15
    rw [if_neg (by decide +kernel), if_neg (by rw [h.rb.up]; decide), if_neg (by rw [hk]; decide)]
  unfold wkS
  rw [if_neg (by rw [he]; decide), h.tree]
theorem hub_lay {a b : List En.Et} {n : Nat} {s s' : St} (h : Hub a n s) (l : Laid n s s' pH b) : Hub b (n + 1000) s' where
  rb := l.rb
  tree := l.tree
  oth := by
    obtain ⟨z, h1, h2⟩ := h.oth
    exact ⟨z, h1, l.others.trans h2⟩
  files := fun x hx hv => by
    rcases l.items x hx hv with h1 | ⟨h0, ⟨h1, h2, h3⟩ | ⟨h1, _⟩⟩
    · exact h.files x h1 hv
    · exact ⟨h0, fun _ => h3⟩
    · exact ⟨h0, fun e => by rw [h1] at e; cases e⟩
theorem c3_hub : Hub [] 10 c3S := by
  rw [c3_is]
  have m : ∀ x ∈ [hubI, wI, ⟨pWX, false, tOth, ⟨#[]⟩, true, true, 1⟩], x.path.size ≤ 3 ∧ x.data.size ≤ 5 ∧ x.kept.size ≤ 0 ∧ (x.anew = false → x.kept.size ≤ x.data.size) ∧ x.stamp ≤ 1 := by
    intro x hx
    simp only [List.mem_cons, List.not_mem_nil, or_false] at hx
    rcases hx with rfl | rfl | rfl <;> decide
  refine ⟨⟨⟨?_, by show 3 ≤ 10; omega, fun x hx => ?_, fun x hx => ?_, fun x hx => (m x hx).2.2.2.1, Nat.zero_le _, by show 3 ≤ 10; omega, by show 1 ≤ 10 * 1048576; omega, by show (-1 : Int) ≤ -1 ∧ (-1 : Int) ≤ 9223372036854775807; omega⟩, by show 1 ≤ 10; omega, by omega, rfl, rfl, rfl, fun x hx => (m x hx).2.2.2.2, fun y hy hp => ?_⟩, by kernel_rfl, ⟨⟨pWX, false, tOth, ⟨#[]⟩, true, true, 1⟩, rfl, by kernel_rfl⟩, fun x hx hv => ?_⟩
  · show List.Pairwise _ _
    refine List.Pairwise.cons (fun y hy => ?_) (List.Pairwise.cons (fun y hy => ?_) (List.Pairwise.cons (fun y hy => by cases hy) List.Pairwise.nil))
    · simp only [List.mem_cons, List.not_mem_nil, or_false] at hy
      rcases hy with rfl | rfl <;> decide +kernel
    · simp only [List.mem_cons, List.not_mem_nil, or_false] at hy
      rcases hy with rfl
      decide +kernel
  · have := m x hx; omega
  · have := m x hx; omega
  · simp only [List.mem_cons, List.not_mem_nil, or_false] at hy
    rcases hy with rfl | rfl | rfl
    · exact absurd (by decide +kernel) hp
    · exact absurd (by decide +kernel) hp
    · exact ⟨wI, by simp, by decide +kernel, rfl⟩
  · simp only [List.mem_cons, List.not_mem_nil, or_false] at hx
    rcases hx with rfl | rfl | rfl <;> exact absurd hv (by decide +kernel)
def fls (a b : List En.Et) : Nat := (b.filter fun e => decide (e.node.kind = 2) && !(decide ((En.tget a e.path).kind = e.node.kind) && decide ((En.tget a e.path).data = e.node.data))).length
theorem ent_of {L : List It} {v : ByteArray} {e : En.Et} (h : e ∈ entS L v) : ∃ x ∈ L, inV v x = true ∧ e = ⟨tl v x.path, nodeOf x⟩ := by
  unfold entS at h
  obtain ⟨x, hx, rfl⟩ := List.mem_map.1 h
  exact ⟨x, (List.mem_filter.1 hx).1, (List.mem_filter.1 hx).2, rfl⟩
theorem ent_in {L : List It} {v : ByteArray} {x : It} (h : x ∈ L) (hv : inV v x = true) : (⟨tl v x.path, nodeOf x⟩ : En.Et) ∈ entS L v := List.mem_map.2 ⟨x, List.mem_filter.2 ⟨h, hv⟩, rfl⟩
theorem tl_one {v : ByteArray} {x y : It} (h0 : v ≠ ⟨#[]⟩) (hx : inV v x = true) (hy : inV v y = true) (h : tl v x.path = tl v y.path) : x.path = y.path := by
  rw [(inV_long h0 hx).2, (inV_long h0 hy).2, h]
theorem get_of {L : List It} {v : ByteArray} {x : It} (h0 : v ≠ ⟨#[]⟩) (hr : Rises L) (h : x ∈ L) (hv : inV v x = true) : En.tget (entS L v) (tl v x.path) = nodeOf x := by
  unfold En.tget
  cases hf : (entS L v).find? (fun y => decide (y.path = tl v x.path)) with
  | none =>
    have := List.find?_eq_none.1 hf _ (ent_in h hv)
    simp at this
  | some e =>
    have h1 := List.mem_of_find?_eq_some hf
    have h2 : e.path = tl v x.path := by
      have := List.find?_some hf
      simpa using this
    obtain ⟨y, hy, hyv, rfl⟩ := ent_of h1
    have h3 := rises_one hr y hy x h (tl_one h0 hyv hv h2)
    show nodeOf y = nodeOf x
    rw [h3]
theorem node_file {x : It} (h : (nodeOf x).kind = 2) : x.dir = false ∧ nodeOf x = ⟨2, x.data⟩ := by
  unfold nodeOf at h ⊢
  cases hd : x.dir
  · exact ⟨rfl, by simp⟩
  · rw [hd] at h; simp at h
theorem node_kind (x : It) : (nodeOf x).kind = 1 ∨ (nodeOf x).kind = 2 := by
  unfold nodeOf
  split
  · exact .inl rfl
  · exact .inr rfl
theorem sn_stamp {s : St} {v : ByteArray} {x : It} (h0 : v ≠ ⟨#[]⟩) (hr : Rises s.L) (h : x ∈ s.L) (hv : inV v x = true) : snOf s v ⟨tl v x.path, nodeOf x⟩ = ⟨tl v x.path, x.stamp, nodeOf x⟩ := by
  unfold snOf
  have e : stampS s (v ++ ⟨#[47]⟩ ++ tl v x.path) = x.stamp := by
    rw [← (inV_long h0 hv).2]
    unfold stampS
    rw [find_one hr h]
  show Sn.mk _ (stampS s (v ++ ⟨#[47]⟩ ++ tl v x.path)) _ = _
  rw [e]
theorem hub_reads {a b : List En.Et} {n : Nat} {s s' : St} (h : Hub a n s) (l : Laid n s s' pH b) : rdS s' pH (snS s pH) = fls a b := by
  have h0 : pH ≠ ⟨#[]⟩ := by decide
  have h' := hub_lay h l
  have hr := h.rb.inv.rises
  have hr' := h'.rb.inv.rises
  have e1 : snS s' pH = b.map (snOf s' pH) := by unfold snS; rw [hub_walk h']
  have e2 : snS s pH = a.map (snOf s pH) := by unfold snS; rw [hub_walk h]
  unfold rdS fls
  rw [e1, List.filter_map, List.length_map]
  refine congrArg List.length (List.filter_congr fun e he => ?_)
  show (!known _ (snOf s' pH e)) = _
  rw [← h'.tree] at he
  obtain ⟨x, hx, hv, rfl⟩ := ent_of he
  rw [sn_stamp h0 hr' hx hv]
  rcases node_kind x with hk | hk
  · have k1 : known (snS s pH) ⟨tl pH x.path, x.stamp, nodeOf x⟩ = true := by
      unfold known
      rw [decide_eq_true (show (nodeOf x).kind = 1 from hk)]; rfl
    rw [k1]
    show _ = (decide ((nodeOf x).kind = 2) && _)
    rw [hk]; rfl
  · obtain ⟨hd, hn⟩ := node_file hk
    have hiff : known (snS s pH) ⟨tl pH x.path, x.stamp, nodeOf x⟩ = true ↔ ((En.tget a (tl pH x.path)).kind = (nodeOf x).kind ∧ (En.tget a (tl pH x.path)).data = (nodeOf x).data) := by
      unfold known
      rw [decide_eq_false (show ¬ (nodeOf x).kind = 1 by rw [hk]; decide), Bool.false_or, List.any_eq_true]
      constructor
      · rintro ⟨y, hy, hc⟩
        rw [e2] at hy
        obtain ⟨e, he, rfl⟩ := List.mem_map.1 hy
        rw [← h.tree] at he
        obtain ⟨z, hz, hzv, rfl⟩ := ent_of he
        rw [sn_stamp h0 hr hz hzv] at hc
        simp only [Bool.and_eq_true, decide_eq_true_eq] at hc
        obtain ⟨⟨c1, c2⟩, c3⟩ := hc
        have hp := tl_one h0 hzv hv c1
        have hm : x ∈ s.L := by
          rcases l.items x hx hv with h1 | ⟨_, ⟨h1, _⟩ | ⟨_, h1, _⟩⟩
          · exact h1
          · rw [hd] at h1; cases h1
          · have := h.rb.stp z hz
            rw [← c2] at h1
            omega
        have hzx := rises_one hr z hz x hm hp
        subst hzx
        rw [← h.tree, get_of h0 hr hz hzv]
        exact ⟨rfl, rfl⟩
      · rintro ⟨g1, g2⟩
        rw [hk] at g1
        obtain ⟨e, he, hep, hen⟩ : ∃ e ∈ a, e.path = tl pH x.path ∧ e.node = En.tget a (tl pH x.path) := by
          unfold En.tget at g1 ⊢
          cases hf : a.find? (fun y => decide (y.path = tl pH x.path)) with
          | none => rw [hf] at g1; exact absurd g1 (by decide)
          | some e => exact ⟨e, List.mem_of_find?_eq_some hf, by have := List.find?_some hf; simpa using this, rfl⟩
        rw [← h.tree] at he
        obtain ⟨z, hz, hzv, rfl⟩ := ent_of he
        have hzk : (nodeOf z).kind = 2 := by rw [show nodeOf z = En.tget a (tl pH x.path) from hen]; exact g1
        obtain ⟨hzd, hzn⟩ := node_file hzk
        have hdat : z.data = x.data := by
          have : (nodeOf z).data = (nodeOf x).data := by rw [show nodeOf z = En.tget a (tl pH x.path) from hen]; exact g2
          rw [hzn, hn] at this
          exact this
        have hzx := l.same x hx hv hd z hz (tl_one h0 hzv hv hep) hzd hdat
        subst hzx
        refine ⟨snOf s pH ⟨tl pH z.path, nodeOf z⟩, by rw [e2, ← h.tree]; exact List.mem_map.2 ⟨_, ent_in hz hzv, rfl⟩, ?_⟩
        rw [sn_stamp h0 hr hz hzv]
        simp [hzk]
    rw [decide_eq_true (show ((nodeOf x).kind : Int) = 2 from hk), Bool.true_and]
    cases hkn : known (snS s pH) ⟨tl pH x.path, x.stamp, nodeOf x⟩
    · have hh : ¬ ((En.tget a (tl pH x.path)).kind = (nodeOf x).kind ∧ (En.tget a (tl pH x.path)).data = (nodeOf x).data) := fun e => by
        rw [hiff.2 e] at hkn; cases hkn
      by_cases c1 : (En.tget a (tl pH x.path)).kind = (nodeOf x).kind
      · have c2 : ¬ (En.tget a (tl pH x.path)).data = (nodeOf x).data := fun e => hh ⟨c1, e⟩
        rw [decide_eq_false c2, Bool.and_false]
      · rw [decide_eq_false c1, Bool.false_and]
    · obtain ⟨c1, c2⟩ := hiff.1 hkn
      rw [decide_eq_true c1, decide_eq_true c2]; rfl
end Go.Proofs.YtdpnmdnfnplcfaaGreat.Sc

namespace Go.Proofs.YtdpnmdnfnplcfaaGreat.Sc
open Go.RowKit Tx Pm Pl Pr Dk
set_option linter.unusedVariables false
theorem Rb.ok {n : Nat} {s : St} (h : Rb n s) : Ok s := by
  have hl := h.inv.len
  have hn := h.n
  have hw := whole_le (B := n * 1048576) (fun x hx => (h.inv.size x hx).1)
  have hm : s.L.length * (n * 1048576) ≤ 100000 * (100000 * 1048576) := Nat.mul_le_mul (Nat.le_trans hl hn) (Nat.mul_le_mul_right _ hn)
  refine ⟨⟨by omega, fun x hx => by have := h.inv.path x hx; omega, by omega⟩, by have := h.inv.rooms; omega, by have := h.inv.steps; omega, by have := h.stamps; omega, by have := h.inv.armed; omega⟩
theorem Rb.sound {n : Nat} {s : St} (h : Rb n s) : SoundW s := by
  have hn := h.n
  have hm : n * 1048576 ≤ 100000 * 1048576 := Nat.mul_le_mul_right _ hn
  exact ⟨h.inv.rises, h.inv.kept, fun x hx => by have := h.inv.size x hx; omega, by have := h.stamps; have := h.inv.len; omega⟩
theorem does_at {b bi bl : Nat} {w w' : World} {F : Nat → Prop} {r : Nat × St} {e : Ending} (hg : Dk.Good r.2) (hF : ∀ i, F i ↔ Ft b bi bl i) (h : e = .returned (.int .i64 (r.1 : Nat)) ∧ Ip b bi bl w r.2 w') : Does (ImpAt b) w F r e w' := ⟨h.1, h.2.left hg hF⟩
section
variable {b : Nat} {w : World} {F : Nat → Prop} {s : St}
theorem ok_mkdir {p : ByteArray} (h : ImpAt b w F s) (ok : Ok s) (hp : p.size ≤ 8000000000000) : Calls Tryz.prog 27 #[.pointer (some ⟨b, 0, none⟩), .string p] w (Does (ImpAt b) w F (mkdirS s p)) := by
  obtain ⟨bi, bl, l, hI, hg, hF⟩ := h
  exact (iMkdir_any b bi bl l _ p _ hI hg ok hp).mono fun e w' ht => does_at (good_mkdir hg) hF ht
theorem ok_write {p q : ByteArray} (h : ImpAt b w F s) (ok : Ok s) (hp : p.size ≤ 8000000000000) (hq : q.size ≤ 1000000000000000000) : Calls Tryz.prog 28 #[.pointer (some ⟨b, 0, none⟩), .string p, .string q] w (Does (ImpAt b) w F (writeS s p q)) := by
  obtain ⟨bi, bl, l, hI, hg, hF⟩ := h
  exact (iWrite_any b bi bl l _ p q _ hI hg ok hp hq).mono fun e w' ht => does_at (good_write hg) hF ht
theorem ok_append {p q : ByteArray} (h : ImpAt b w F s) (ok : Ok s) (hp : p.size ≤ 8000000000000) (hq : q.size ≤ 1000000000000000000) (hs : (old s.L p).data.size + q.size ≤ 1000000000000000000) : Calls Tryz.prog 35 #[.pointer (some ⟨b, 0, none⟩), .string p, .string q] w (Does (ImpAt b) w F (appendS s p q)) := by
  obtain ⟨bi, bl, l, hI, hg, hF⟩ := h
  exact (iAppend_any b bi bl l _ p q _ hI hg ok hp hq hs).mono fun e w' ht => does_at (good_append hg) hF ht
theorem ok_rename {p q : ByteArray} (h : ImpAt b w F s) (ok : Ok s) (hp : p.size ≤ 8000000000000) (hq : q.size ≤ 8000000000000) : Calls Tryz.prog 33 #[.pointer (some ⟨b, 0, none⟩), .string p, .string q] w (Does (ImpAt b) w F (renameS s p q)) := by
  obtain ⟨bi, bl, l, hI, hg, hF⟩ := h
  exact (iRename_any b bi bl l _ p q _ hI hg ok hp hq).mono fun e w' ht => does_at (good_rename hg) hF ht
theorem ok_remove {p : ByteArray} (h : ImpAt b w F s) (ok : Ok s) (hp : p.size ≤ 8000000000000) : Calls Tryz.prog 31 #[.pointer (some ⟨b, 0, none⟩), .string p] w (Does (ImpAt b) w F (removeS s p)) := by
  obtain ⟨bi, bl, l, hI, hg, hF⟩ := h
  exact (iRemove_any b bi bl l _ p _ hI hg ok hp).mono fun e w' ht => does_at (good_remove hg) hF ht
theorem ok_restart {m : Int} (h : ImpAt b w F s) (ok : Ok s) (hs : SoundW s) (hm : -9223372036854775808 ≤ m ∧ m ≤ 9223372036854775807) : Calls Tryz.prog 23 #[.pointer (some ⟨b, 0, none⟩), .int .i64 m] w (Does (ImpAt b) w F (0, restartS s m)) := by
  obtain ⟨bi, bl, l, hI, hg, hF⟩ := h
  exact (iRestart_any b bi bl l _ m _ hI hg hs ok.fit.1 ok.fit.2.1 hm).mono fun e w' ht => does_at (good_restart hg) hF ht
theorem ok_rot {p : ByteArray} {m : Int} (h : ImpAt b w F s) (ok : Ok s) (hp : p.size ≤ 8000000000000) (hm : -9223372036854775808 ≤ m ∧ m ≤ 9223372036854775807) (hs : (old s.L p).data.size ≤ 140737488355328 ∧ (old s.L p).kept.size ≤ 140737488355328) : Calls Tryz.prog 38 #[.pointer (some ⟨b, 0, none⟩), .string p, .int .i64 m] w (Does (ImpAt b) w F (rotS s p m)) := by
  obtain ⟨bi, bl, l, hI, hg, hF⟩ := h
  exact (iRot_any b bi bl l _ p m _ hI ok hp hm hs).mono fun e w' ht => does_at (good_rot hg) hF ht
theorem ok_read {p : ByteArray} (h : ImpAt b w F s) (hp : p.size ≤ 8000000000000) : Calls Tryz.prog 94 #[.pointer (some ⟨b, 0, none⟩), .string p] w fun e w' => e = .returned (.tuple #[.string (readS s p).1, .int .i64 ((readS s p).2 : Nat)]) ∧ Below w.heap.size w w' := by
  obtain ⟨bi, bl, l, hI, hg, hF⟩ := h
  exact iRead_any b bi bl l _ p _ hI hg hp
theorem ok_kind {p : ByteArray} (h : ImpAt b w F s) (hp : p.size ≤ 8000000000000) : Calls Tryz.prog 47 #[.pointer (some ⟨b, 0, none⟩), .string p] w fun e w' => e = .returned (.int .i64 (Dk.kind s.L p : Nat)) ∧ w = w' := by
  obtain ⟨bi, bl, l, hI, hg, hF⟩ := h
  exact iKind_any b bi bl l _ p _ hI hp
theorem ok_stamp {p : ByteArray} (h : ImpAt b w F s) (hp : p.size ≤ 8000000000000) : Calls Tryz.prog 46 #[.pointer (some ⟨b, 0, none⟩), .string p] w fun e w' => e = .returned (.int .i64 (stampS s p : Nat)) ∧ w = w' := by
  obtain ⟨bi, bl, l, hI, hg, hF⟩ := h
  exact iStamp_any b bi bl l _ p _ hI hp
theorem ok_down (h : ImpAt b w F s) : Calls Tryz.prog 93 #[.pointer (some ⟨b, 0, none⟩)] w fun e w' => e = .returned (.bool s.down) ∧ w = w' := by
  obtain ⟨bi, bl, l, hI, hg, hF⟩ := h
  exact iDown_any b bi bl l s w hI
theorem ok_used {p : ByteArray} (h : ImpAt b w F s) (ok : Ok s) : Calls Tryz.prog 24 #[.pointer (some ⟨b, 0, none⟩), .string p] w fun e w' => e = .returned (.int .i64 (used s.L p : Nat)) ∧ Below w.heap.size w w' := by
  obtain ⟨bi, bl, l, hI, hg, hF⟩ := h
  exact iUsed_any b bi bl l _ p _ hI hg.rises ok.fit
theorem ok_list {p : ByteArray} (h : ImpAt b w F s) (ok : Ok s) : Calls Tryz.prog 26 #[.pointer (some ⟨b, 0, none⟩), .string p] w (ListTo (Dk.list s.L p) w) := by
  obtain ⟨bi, bl, l, hI, hg, hF⟩ := h
  exact iList_any b bi bl l _ p _ hI hg.rises ok.fit.1 ok.fit.2.1
end
theorem ok_new (w : World) : Calls Tryz.prog 5 #[] w fun e w' => ∃ b F, e = .returned (.pointer (some ⟨b, 0, none⟩)) ∧ ImpAt b w' F newS ∧ (∀ i, F i → w.heap.size ≤ i) ∧ Below w.heap.size w w' :=
  (iNew_any w).mono fun e w' ⟨b, bi, bl, he, hI, hF, hb⟩ => ⟨b, Ft b bi bl, he, ⟨bi, bl, -1, hI, Dk.good_new, fun _ => Iff.rfl⟩, hF, hb⟩
theorem far_was {s : St} {i T : Nat} (hf : Far s i T) (p : ByteArray) : (old s.L p).data.size ≤ 1048576000 ∧ (old s.L p).kept.size ≤ 1048576000 := by
  have hT := hf.T
  rcases old_cases s.L p with e | ⟨hm, _⟩
  · rw [e]
    exact ⟨Nat.zero_le _, Nat.zero_le _⟩
  · have := hf.inv.size _ hm
    omega
theorem imp_turns (b : Nat) : Turns (ImpAt b) (.pointer (some ⟨b, 0, none⟩)) where
  kind := imp_kind b
  mkdir := fun P h hf hP => ok_mkdir h (hf.inv.ok hf.i hf.T) (by omega)
  write := fun P Q h hf hP hQ => ok_write h (hf.inv.ok hf.i hf.T) (by omega) (by omega)
  append := fun P Q h hf hP hQ => ok_append h (hf.inv.ok hf.i hf.T) (by omega) (by omega) (by have := far_was hf P; omega)
  rename := fun P Q h hf hP hQ => ok_rename h (hf.inv.ok hf.i hf.T) (by omega) (by omega)
  remove := fun P h hf hP => ok_remove h (hf.inv.ok hf.i hf.T) (by omega)
  restart := fun M h hf hM => ok_restart h (hf.inv.ok hf.i hf.T) (hf.inv.sound hf.i hf.T).wide hM
  rot := fun P M h hf hP hM => ok_rot h (hf.inv.ok hf.i hf.T) (by omega) hM (by have := far_was hf P; omega)
end Go.Proofs.YtdpnmdnfnplcfaaGreat.Sc

namespace Go.Proofs.YtdpnmdnfnplcfaaGreat.Sc
open Go.RowKit Tx Pm Pr Dk Od
set_option linter.unusedVariables false
theorem Rb.mono {n m : Nat} {s : St} (h : Rb n s) (hnm : n ≤ m) (hm : m ≤ 100000) : Rb m s := by
  have h2 : n * 1048576 ≤ m * 1048576 := Nat.mul_le_mul_right _ hnm
  exact ⟨⟨h.inv.rises, Nat.le_trans h.inv.len hnm, h.inv.path, fun x hx => ⟨Nat.le_trans (h.inv.size x hx).1 h2, Nat.le_trans (h.inv.size x hx).2 h2⟩, h.inv.kept, Nat.le_trans h.inv.rooms hnm, Nat.le_trans h.inv.steps hnm, Nat.le_trans h.inv.stamps h2, h.inv.armed⟩, Nat.le_trans h.stamps hnm, hm, h.armed, h.up, h.rooms, h.stp, h.homes⟩
theorem step_mul (n : Nat) : (n + 1) * 1048576 = n * 1048576 + 1048576 := by omega
theorem fits_nil {s : St} (h : s.rooms = []) (p : ByteArray) (m : Int) : fits s p m = true := by
  unfold fits
  rw [h, List.all_nil, Bool.or_true]
def sp1 (s : St) : St := { s with steps := s.steps + 1 }
theorem done_up {s : St} (h : s.armed = -1) : done s = (0, sp1 s) := by
  unfold done sp1
  rw [h, if_neg (by decide), if_neg (by decide)]
theorem first_up {s : St} {p : ByteArray} {k : Nat} (hu : s.down = false) (hc : chk p.data.toList 6 = 0) (hk : k < (spl p.data.toList).length) : first s p k = 0 := by
  unfold first
  rw [if_neg (by rw [hu]; decide), if_neg (fun h => h.elim (fun h => h hc) (fun h => by omega))]
def dirI (p : ByteArray) : It := ⟨p, true, ⟨#[]⟩, ⟨#[]⟩, false, false, 0⟩
theorem mkdir_is {n : Nat} {s : St} {p : ByteArray} (h : Rb n s) (hc : chk p.data.toList 6 = 0) (hh : home s.L p = true) (hk : kind s.L p ≠ 2) : mkdirS s p = (0, { sp1 s with L := ins s.L (dirI p) }) := by
  have hf : first s p 0 = 0 := first_up h.up hc (spl_pos _)
  unfold mkdirS
  rw [if_neg (by rw [hf]; decide), if_neg (by rw [hh]; decide), if_neg hk, done_up h.armed]
  rfl
theorem write_is {n : Nat} {s : St} {p : ByteArray} (d : ByteArray) (h : Rb n s) (hc : chk p.data.toList 6 = 0) (h2 : 2 ≤ (spl p.data.toList).length) (hh : home s.L p = true) (hk : kind s.L p ≠ 1) :
    writeS s p d = (0, putS (sp1 s) { old s.L p with data := d, loose := true, anew := true }) := by
  have hf : first s p 1 = 0 := first_up h.up hc h2
  unfold writeS
  rw [if_neg (by rw [hf]; decide), if_neg (by rw [hh]; decide), if_neg hk, if_neg (by rw [fits_nil h.rooms]; decide), done_up h.armed]
  rfl
theorem sync_is {n : Nat} {s : St} {p : ByteArray} (h : Rb n s) (hc : chk p.data.toList 6 = 0) (h2 : 2 ≤ (spl p.data.toList).length) (hk : kind s.L p = 2) :
    syncS s p = (0, { sp1 s with L := ins s.L { old s.L p with kept := (old s.L p).data, loose := false, anew := false } }) := by
  have hf : first s p 1 = 0 := first_up h.up hc h2
  have ht : there s p = 0 := by
    unfold there
    rw [if_neg (by rw [hf]; decide), if_neg (by rw [hk]; decide), if_neg (by rw [hk]; decide)]
  unfold syncS
  rw [if_neg (by rw [ht]; decide), done_up h.armed]
  rfl
theorem remove_is {n : Nat} {s : St} {p : ByteArray} (h : Rb n s) (hc : chk p.data.toList 6 = 0) (hk : kind s.L p ≠ 0) (hl : Dk.list s.L p = []) : removeS s p = (0, { sp1 s with L := drop s.L p }) := by
  have hf : first s p 0 = 0 := first_up h.up hc (spl_pos _)
  unfold removeS
  rw [if_neg (by rw [hf]; decide), if_neg hk, if_neg (fun hh => hh hl), done_up h.armed]
  rfl
theorem mem_ins_iff {l : List It} {x y : It} (hr : Rises l) : y ∈ ins l x ↔ y = x ∨ (y ∈ l ∧ y.path ≠ x.path) := by
  have hr2 := rises_ins (x := x) hr
  have hx : x ∈ ins l x := by unfold ins; simp
  constructor
  · intro h
    by_cases hp : y.path = x.path
    · exact .inl (rises_one hr2 y h x hx hp)
    · rcases mem_ins h with h1 | h1
      · exact .inl h1
      · exact .inr ⟨h1, hp⟩
  · rintro (rfl | ⟨h1, h2⟩)
    · exact hx
    · have e := find_ins l (x := x) (p := y.path) (fun e => h2 e.symm)
      rw [Sc.find_one hr h1] at e
      exact (find_mem e).1
theorem find_ins_same {l : List It} {x : It} (hr : Rises l) : find (ins l x) x.path = some x := Sc.find_one (rises_ins hr) (by unfold ins; simp)
theorem ins_others {l : List It} {x : It} {v : ByteArray} (hr : Rises l) (h : inV v x = true) : (ins l x).filter (fun y => !inV v y) = l.filter (fun y => !inV v y) := by
  have hx : (!inV v x) = false := by rw [h]; rfl
  unfold ins
  have hsplit : l = l.takeWhile (fun y => Op.bytesLess y.path.toList x.path.toList) ++ l.dropWhile (fun y => Op.bytesLess y.path.toList x.path.toList) := (List.takeWhile_append_dropWhile ..).symm
  rw [List.filter_append, List.filter_cons_of_neg (by rw [hx]; decide)]
  conv => rhs; rw [hsplit, List.filter_append]
  congr 1
  split
  · rename_i e; rw [e]
  · rename_i y r e
    rw [e]
    split
    · rename_i hp
      have hy : inV v y = true := by
        unfold inV at h ⊢
        rw [hp]; exact h
      rw [List.filter_cons_of_neg (by rw [hy]; decide)]
    · rfl
theorem drop_others {l : List It} {v p : ByteArray} (h : ∀ x ∈ l, x.path = p → inV v x = true) : (drop l p).filter (fun y => !inV v y) = l.filter (fun y => !inV v y) := by
  unfold drop
  rw [List.filter_filter]
  refine List.filter_congr fun x hx => ?_
  by_cases e : x.path = p
  · rw [h x hx e]; rfl
  · rw [decide_eq_false e]; simp
theorem homes_ins {l : List It} {x : It} (hr : Rises l) (h : Homes l) (hh : home l x.path = true) (hk : x.dir = true ∨ kind l x.path ≠ 1) : Homes (ins l x) := by
  intro y hy hp
  have base : ∀ z ∈ l, z.path = tb (par y.path.data.toList) → z.dir = true → ∃ u ∈ ins l x, u.path = tb (par y.path.data.toList) ∧ u.dir = true := by
    intro z hz hzp hzd
    by_cases e : z.path = x.path
    · rcases hk with hk | hk
      · exact ⟨x, (mem_ins_iff hr).2 (.inl rfl), e ▸ hzp, hk⟩
      · refine absurd ?_ hk
        rw [← e, kind, Sc.find_one hr hz]
        show (if z.dir then 1 else 2) = 1
        rw [hzd]; rfl
    · exact ⟨z, (mem_ins_iff hr).2 (.inr ⟨hz, e⟩), hzp, hzd⟩
  rcases (mem_ins_iff hr).1 hy with rfl | ⟨hy, _⟩
  · unfold home at hh
    rw [Bool.or_eq_true] at hh
    have h1 := of_decide_eq_true (hh.resolve_left (fun e => hp (of_decide_eq_true e)))
    rw [kind] at h1
    cases hf : find l (tb (par y.path.data.toList)) with
    | none => rw [hf] at h1; cases h1
    | some z =>
      rw [hf] at h1
      have hzd : z.dir = true := by
        cases hz : z.dir
        · exact absurd h1 (by show ¬ (if z.dir then 1 else 2) = 1; rw [hz]; decide)
        · rfl
      exact base z (find_mem hf).1 (find_mem hf).2 hzd
  · obtain ⟨z, hz, hzp, hzd⟩ := h y hy hp
    exact base z hz hzp hzd
theorem homes_drop {l : List It} {p : ByteArray} (h : Homes l) (hl : Dk.list l p = []) : Homes (drop l p) := by
  intro y hy hp
  have hy2 := (List.mem_filter.1 hy).1
  obtain ⟨z, hz, hzp, hzd⟩ := h y hy2 hp
  refine ⟨z, List.mem_filter.2 ⟨hz, ?_⟩, hzp, hzd⟩
  by_cases e : z.path = p
  · have : y.path ∈ Dk.list l p := List.mem_map.2 ⟨y, List.mem_filter.2 ⟨hy2, decide_eq_true (hzp.symm.trans e)⟩, rfl⟩
    rw [hl] at this
    cases this
  · rw [decide_eq_false e]; rfl
theorem stp_ins {s s' : St} {x : It} (h : Stp s) (hL : s'.L = ins s.L x) (hs : s.stamps ≤ s'.stamps) (hx : x.stamp ≤ s'.stamps) : Stp s' := by
  intro y hy
  rw [hL] at hy
  rcases mem_ins hy with rfl | hy
  · exact hx
  · exact Nat.le_trans (h y hy) hs
theorem rb_mkdir {n : Nat} {s : St} {p : ByteArray} (h : Rb n s) (hn : n + 1 ≤ 100000) (hp : p.size ≤ 1048576) (hc : chk p.data.toList 6 = 0) (hh : home s.L p = true) (hk : kind s.L p ≠ 2) : Rb (n + 1) { sp1 s with L := ins s.L (dirI p) } := by
  have h1 := inv_mkdir (p := p) h.inv hp
  rw [mkdir_is h hc hh hk, ← step_mul] at h1
  exact ⟨h1, Nat.le_trans h.stamps (by omega), hn, h.armed, h.up, h.rooms, stp_ins (s' := { sp1 s with L := ins s.L (dirI p) }) h.stp rfl (Nat.le_refl _) (Nat.zero_le _), homes_ins (x := dirI p) h.inv.rises h.homes hh (.inl rfl)⟩
theorem rb_write {n : Nat} {s : St} {p : ByteArray} (d : ByteArray) (h : Rb n s) (hn : n + 1 ≤ 100000) (hp : p.size ≤ 1048576) (hd : d.size ≤ 1048576) (hc : chk p.data.toList 6 = 0) (h2 : 2 ≤ (spl p.data.toList).length) (hh : home s.L p = true) (hk : kind s.L p ≠ 1) : Rb (n + 1) (putS (sp1 s) { old s.L p with data := d, loose := true, anew := true }) := by
  have h1 := inv_write (p := p) (d := d) h.inv hp hd
  rw [write_is d h hc h2 hh hk, ← step_mul] at h1
  refine ⟨h1, ?_, hn, h.armed, h.up, h.rooms, stp_ins (s := s) h.stp rfl (Nat.le_succ _) (Nat.le_refl _), homes_ins (x := stamped (sp1 s) { old s.L p with data := d, loose := true, anew := true }) h.inv.rises h.homes (by show home s.L (old s.L p).path = true; rw [old_path]; exact hh) (.inr (by show kind s.L (old s.L p).path ≠ 1; rw [old_path]; exact hk))⟩
  show s.stamps + 1 ≤ n + 1
  exact Nat.succ_le_succ h.stamps
theorem home_there {n : Nat} {s : St} {p : ByteArray} (h : Rb n s) (hk : kind s.L p = 2) : home s.L p = true := by
  unfold home
  rw [Bool.or_eq_true]
  by_cases hp : par p.data.toList = []
  · exact .inl (decide_eq_true hp)
  · right
    refine decide_eq_true ?_
    rw [kind] at hk
    cases hf : find s.L p with
    | none => rw [hf] at hk; cases hk
    | some y =>
      obtain ⟨hy, hyp⟩ := find_mem hf
      subst hyp
      obtain ⟨z, hz, hzp, hzd⟩ := h.homes y hy hp
      rw [kind, ← hzp, Sc.find_one h.inv.rises hz]
      show (if z.dir then 1 else 2) = 1
      rw [hzd]; rfl
theorem rb_sync {n : Nat} {s : St} {p : ByteArray} (h : Rb n s) (hn : n + 1 ≤ 100000) (hp : p.size ≤ 1048576) (hc : chk p.data.toList 6 = 0) (h2 : 2 ≤ (spl p.data.toList).length) (hk : kind s.L p = 2) : Rb (n + 1) { sp1 s with L := ins s.L { old s.L p with kept := (old s.L p).data, loose := false, anew := false } } := by
  have h1 := inv_sync (p := p) h.inv hp
  rw [sync_is h hc h2 hk, ← step_mul] at h1
  refine ⟨h1, Nat.le_trans h.stamps (by omega), hn, h.armed, h.up, h.rooms, stp_ins (s := s) h.stp rfl (Nat.le_refl _) ?_, homes_ins (x := { old s.L p with kept := (old s.L p).data, loose := false, anew := false }) h.inv.rises h.homes ?_ (.inr (by show kind s.L (old s.L p).path ≠ 1; rw [old_path, hk]; decide))⟩
  rotate_left
  · show home s.L (old s.L p).path = true
    rw [old_path]
    exact home_there h hk
  show (old s.L p).stamp ≤ s.stamps
  rcases old_cases s.L p with e | ⟨e, _⟩
  · rw [e]; exact Nat.zero_le _
  · exact h.stp _ e
theorem rb_remove {n : Nat} {s : St} {p : ByteArray} (h : Rb n s) (hn : n + 1 ≤ 100000) (hc : chk p.data.toList 6 = 0) (hk : kind s.L p ≠ 0) (hl : Dk.list s.L p = []) : Rb (n + 1) { sp1 s with L := drop s.L p } := by
  have h1 := inv_remove (p := p) h.inv
  rw [remove_is h hc hk hl, ← step_mul] at h1
  exact ⟨h1, Nat.le_trans h.stamps (by omega), hn, h.armed, h.up, h.rooms, fun x hx => h.stp x ((drop_in s.L p).1 x hx), homes_drop h.homes hl⟩
end Go.Proofs.YtdpnmdnfnplcfaaGreat.Sc

namespace Go.Proofs.YtdpnmdnfnplcfaaGreat.Sc
open Go.RowKit Tx Pm Pr Dk Od
set_option linter.unusedVariables false
structure Wf (L : List It) : Prop where
  rises : Rises L
  homes : Homes L
  names : ∀ x ∈ L, chk x.path.data.toList 6 = 0
  deep : ∀ x ∈ L, x.dir = false → 2 ≤ (spl x.path.data.toList).length
theorem wf_nil : Wf [] := ⟨List.Pairwise.nil, (fun x hx => by cases hx), (fun x hx => by cases hx), (fun x hx => by cases hx)⟩
theorem Wf.of {L M : List It} (h : Wf L) (e : M = L) : Wf M := by rw [e]; exact h
theorem wf_ins {l : List It} {x : It} (h : Wf l) (hh : home l x.path = true) (hk : x.dir = true ∨ kind l x.path ≠ 1) (hc : chk x.path.data.toList 6 = 0) (hd : x.dir = true ∨ 2 ≤ (spl x.path.data.toList).length) : Wf (ins l x) :=
  ⟨rises_ins h.rises, homes_ins h.rises h.homes hh hk, fun y hy => by
    rcases mem_ins hy with rfl | hy
    · exact hc
    · exact h.names y hy, fun y hy e => by
    rcases mem_ins hy with rfl | hy
    · exact hd.resolve_left (by rw [e]; decide)
    · exact h.deep y hy e⟩
theorem wf_drop {l : List It} {p : ByteArray} (h : Wf l) (hl : Dk.list l p = []) : Wf (drop l p) :=
  ⟨rises_drop p h.rises, homes_drop h.homes hl, fun y hy => h.names y (List.mem_filter.1 hy).1, fun y hy => h.deep y (List.mem_filter.1 hy).1⟩
theorem first_chk {s : St} {p : ByteArray} {k : Nat} (h : first s p k = 0) : chk p.data.toList 6 = 0 := by
  unfold first at h
  split at h
  · cases h
  · split at h
    · cases h
    · rename_i h2
      by_cases hc : chk p.data.toList 6 = 0
      · exact hc
      · exact absurd (.inl hc) h2
theorem first_two {s : St} {p : ByteArray} (h : first s p 1 = 0) : 2 ≤ (spl p.data.toList).length := by
  unfold first at h
  split at h
  · cases h
  · split at h
    · cases h
    · rename_i h2
      by_cases hc : (spl p.data.toList).length ≤ 1
      · exact absurd (.inr hc) h2
      · omega
theorem wf_home {l : List It} {p : ByteArray} (h : Wf l) (hk : kind l p ≠ 0) : home l p = true := by
  unfold home
  rw [Bool.or_eq_true]
  by_cases hp : par p.data.toList = []
  · exact .inl (decide_eq_true hp)
  · right
    refine decide_eq_true ?_
    rw [kind] at hk
    cases hf : find l p with
    | none => rw [hf] at hk; exact absurd rfl hk
    | some y =>
      obtain ⟨hy, hyp⟩ := find_mem hf
      subst hyp
      obtain ⟨z, hz, hzp, hzd⟩ := h.homes y hy hp
      rw [kind, ← hzp, Sc.find_one h.rises hz]
      show (if z.dir then 1 else 2) = 1
      rw [hzd]; rfl
theorem wf_mkdir {s : St} (p : ByteArray) (h : Wf s.L) : Wf (mkdirS s p).2.L := by
  unfold mkdirS
  split
  · exact h
  rename_i h1
  split
  · exact h
  rename_i h2
  split
  · exact h
  split
  · exact h.of (done_L s)
  · show Wf (ins (done s).2.L _)
    rw [done_L]
    exact wf_ins (x := ⟨p, true, ⟨#[]⟩, ⟨#[]⟩, false, false, 0⟩) h (by revert h2; cases home s.L p <;> simp) (.inl rfl) (first_chk (s := s) (p := p) (k := 0) (by omega)) (.inl rfl)
theorem wf_write {s : St} (p d : ByteArray) (h : Wf s.L) : Wf (writeS s p d).2.L := by
  unfold writeS
  split
  · exact h
  rename_i h1
  split
  · exact h
  rename_i h2
  split
  · exact h
  rename_i h3
  split
  · exact h
  split
  · exact h.of (done_L s)
  · show Wf (ins (done s).2.L _)
    rw [done_L]
    refine wf_ins (x := stamped (done s).2 { old s.L p with data := d, loose := true, anew := true }) h ?_ (.inr ?_) ?_ (.inr (by show 2 ≤ (spl (old s.L p).path.data.toList).length; rw [old_path]; exact first_two (s := s) (p := p) (by omega)))
    · show home s.L (old s.L p).path = true
      rw [old_path]
      revert h2; cases home s.L p <;> simp
    · show kind s.L (old s.L p).path ≠ 1
      rw [old_path]; exact h3
    · show chk (old s.L p).path.data.toList 6 = 0
      rw [old_path]; exact first_chk (s := s) (p := p) (k := 1) (by omega)
theorem there_kind {s : St} {p : ByteArray} (h : there s p = 0) : kind s.L p = 2 ∧ chk p.data.toList 6 = 0 ∧ 2 ≤ (spl p.data.toList).length := by
  unfold there at h
  split at h
  · rename_i h1; exact absurd h h1
  · rename_i h1
    split at h
    · cases h
    · rename_i h2
      split at h
      · cases h
      · rename_i h3
        refine ⟨?_, first_chk (s := s) (p := p) (k := 1) (by omega), first_two (s := s) (p := p) (by omega)⟩
        have : kind s.L p = 0 ∨ kind s.L p = 1 ∨ kind s.L p = 2 := by
          unfold kind kindOf
          split
          · exact .inl rfl
          · rename_i x _
            cases x.dir
            · exact .inr (.inr rfl)
            · exact .inr (.inl rfl)
        omega
theorem wf_there {s : St} {p : ByteArray} {x : It} (h : Wf s.L) (ht : there s p = 0) (hx : x.path = p) : Wf (ins s.L x) := by
  obtain ⟨h1, h2, h3⟩ := there_kind ht
  exact wf_ins h (by rw [hx]; exact wf_home h (by omega)) (.inr (by rw [hx]; omega)) (by rw [hx]; exact h2) (.inr (by rw [hx]; exact h3))
theorem wf_append {s : St} (p d : ByteArray) (h : Wf s.L) : Wf (appendS s p d).2.L := by
  unfold appendS
  split
  · exact h
  rename_i h1
  split
  · exact h
  split
  · exact h.of (done_L s)
  · show Wf (ins (done s).2.L _)
    rw [done_L]
    exact wf_there (x := stamped (done s).2 { old s.L p with data := (old s.L p).data ++ d, loose := true }) h (by omega) (old_path _ _)
theorem wf_sync {s : St} (p : ByteArray) (h : Wf s.L) : Wf (syncS s p).2.L := by
  unfold syncS
  split
  · exact h
  rename_i h1
  split
  · exact h.of (done_L s)
  · show Wf (ins (done s).2.L _)
    rw [done_L]
    exact wf_there (x := { old s.L p with kept := (old s.L p).data, loose := false, anew := false }) h (by omega) (old_path _ _)
theorem wf_rot {s : St} (p : ByteArray) (n : Int) (h : Wf s.L) : Wf (rotS s p n).2.L := by
  unfold rotS
  split
  · exact h
  rename_i h1
  exact wf_there (x := stamped s { old s.L p with data := Fr.tn (old s.L p).data n, kept := Fr.tn (old s.L p).kept n }) h (by omega) (old_path _ _)
theorem wf_remove {s : St} (p : ByteArray) (h : Wf s.L) : Wf (removeS s p).2.L := by
  unfold removeS
  split
  · exact h
  split
  · exact h
  split
  · exact h
  rename_i h3
  split
  · exact h.of (done_L s)
  · show Wf (drop (done s).2.L _)
    rw [done_L]
    exact wf_drop h (by by_cases e : Dk.list s.L p = []; exact e; exact absurd e h3)
theorem chk_ne {p : ByteArray} {d : Int} (h : chk p.data.toList d = 0) : p ≠ ⟨#[]⟩ := fun e => good_ne (ok_of h).2 (by rw [e])
theorem wf_file {l : List It} {p : ByteArray} (h : Wf l) (hp : p ≠ ⟨#[]⟩) (hk : kind l p ≠ 1) : Dk.list l p = [] := by
  refine List.map_eq_nil_iff.2 (List.filter_eq_nil_iff.2 fun y hy hc => hk ?_)
  have e := of_decide_eq_true hc
  have hne : par y.path.data.toList ≠ [] := fun h0 => hp (by rw [← e, h0]; rfl)
  obtain ⟨z, hz, hzp, hzd⟩ := h.homes y hy hne
  rw [kind, ← e, ← hzp, Sc.find_one h.rises hz]
  show (if z.dir then 1 else 2) = 1
  rw [hzd]; rfl
theorem find_gone (l : List It) (p : ByteArray) : find (drop l p) p = none := by
  unfold find drop
  refine List.find?_eq_none.2 (fun y hy => ?_)
  have := (List.mem_filter.1 hy).2
  simpa using this
theorem wf_rename {s : St} (f t : ByteArray) (h : Wf s.L) : Wf (renameS s f t).2.L := by
  unfold renameS
  split
  · exact h
  rename_i h1
  split
  · exact h
  rename_i h2
  split
  · exact h
  rename_i h3
  split
  · exact h
  rename_i h4
  split
  · exact h
  split
  · exact h.of (done_L s)
  · show Wf (ins (drop (done s).2.L f) _)
    rw [done_L]
    have hk1 : kind s.L f ≠ 1 := fun e => h4 (.inl e)
    have hk2 : kind s.L t ≠ 1 := fun e => h4 (.inr e)
    have hc1 := first_chk (s := s) (p := f) (k := 1) (by omega)
    have hc2 := first_chk (s := s) (p := t) (k := 1) (by omega)
    have hd : Wf (drop s.L f) := wf_drop h (wf_file h (chk_ne hc1) hk1)
    refine wf_ins (x := stamped { (done s).2 with L := drop (done s).2.L f } { old s.L f with path := t }) hd ?_ (.inr ?_) hc2 (.inr (first_two (s := s) (p := t) (by omega)))
    · show home (drop s.L f) t = true
      have hh : home s.L t = true := by
        by_cases e : home s.L t = true
        · exact e
        · exact absurd (.inr (by revert e; cases home s.L t <;> simp)) h3
      unfold home at hh ⊢
      rw [Bool.or_eq_true] at hh ⊢
      refine hh.imp id fun e => ?_
      have e := of_decide_eq_true e
      refine decide_eq_true ?_
      have hne : f ≠ tb (par t.data.toList) := fun e2 => hk1 (by rw [e2]; exact e)
      unfold kind at e ⊢
      rw [find_drop s.L hne]
      exact e
    · show kind (drop s.L f) t ≠ 1
      by_cases e : f = t
      · subst e
        unfold kind
        rw [find_gone]
        decide
      · unfold kind at hk2 ⊢
        rw [find_drop s.L e]
        exact hk2
theorem restart_dirs0 (loss : Nat) : ∀ (l : List It) (n st : Nat), (restartL loss l n st).1.map (fun x => (x.path, x.dir)) = l.map (fun x => (x.path, x.dir))
  | [], n, st => rfl
  | y :: l, n, st => by
    rw [restartL]
    split
    · refine Eq.trans (List.map_cons ..) ?_
      rw [List.map_cons, restart_dirs0 loss l (n + 1) (st + 1)]
      rfl
    · refine Eq.trans (List.map_cons ..) ?_
      rw [List.map_cons, restart_dirs0 loss l n st]
theorem wf_same {l m : List It} (h : Wf l) (e : m.map (fun x => (x.path, x.dir)) = l.map (fun x => (x.path, x.dir))) : Wf m := by
  have ep : m.map (·.path) = l.map (·.path) := by
    have := congrArg (List.map Prod.fst) e
    rw [List.map_map, List.map_map] at this
    exact this
  refine ⟨?_, ?_, fun x hx => ?_, fun x hx hd => ?_⟩
  · have h1 : (l.map (·.path)).Pairwise (fun p q => Op.bytesLess p.toList q.toList = true) := List.pairwise_map.2 h.rises
    rw [← ep] at h1
    exact List.pairwise_map.1 h1
  · intro y hy hp
    have h1 : (y.path, y.dir) ∈ l.map (fun x => (x.path, x.dir)) := by rw [← e]; exact List.mem_map.2 ⟨y, hy, rfl⟩
    obtain ⟨z, hz, hzy⟩ := List.mem_map.1 h1
    injection hzy with e1 e2
    rw [← e1] at hp ⊢
    obtain ⟨x, hx, hxp, hxd⟩ := h.homes z hz hp
    have h2 : (x.path, x.dir) ∈ m.map (fun x => (x.path, x.dir)) := by rw [e]; exact List.mem_map.2 ⟨x, hx, rfl⟩
    obtain ⟨u, hu, hux⟩ := List.mem_map.1 h2
    injection hux with f1 f2
    exact ⟨u, hu, f1.trans hxp, f2.trans hxd⟩
  · have h1 : x.path ∈ l.map (·.path) := by rw [← ep]; exact List.mem_map.2 ⟨x, hx, rfl⟩
    obtain ⟨z, hz, hzx⟩ := List.mem_map.1 h1
    rw [← hzx]
    exact h.names z hz
  · have h1 : (x.path, x.dir) ∈ l.map (fun x => (x.path, x.dir)) := by rw [← e]; exact List.mem_map.2 ⟨x, hx, rfl⟩
    obtain ⟨z, hz, hzy⟩ := List.mem_map.1 h1
    injection hzy with e1 e2
    rw [← e1]
    exact h.deep z hz (e2.trans hd)
theorem wf_vol {L : List It} {v : ByteArray} (h : Wf L) (hv : chk v.data.toList 1 = 0) : kind L v = 0 ∨ kind L v = 1 := by
  unfold kind
  cases hf : find L v with
  | none => exact .inl rfl
  | some x =>
    obtain ⟨hx, hp⟩ := find_mem hf
    right
    show (if x.dir then 1 else 2) = 1
    cases hd : x.dir
    · have h1 := h.deep x hx hd
      have h2 := (ok_of hv).1
      rw [hp] at h1
      omega
    · rfl
theorem wf_restart {s : St} (n : Int) (h : Wf s.L) : Wf (restartS s n).L := wf_same h (restart_dirs0 _ _ _ _)
end Go.Proofs.YtdpnmdnfnplcfaaGreat.Sc

namespace Go.Proofs.YtdpnmdnfnplcfaaGreat.Sc
open Go.RowKit Tx Pm Pr Dk Od
set_option linter.unusedVariables false
def vp (v p : ByteArray) : ByteArray := v ++ ⟨#[47]⟩ ++ p
theorem vp_list (v p : ByteArray) : (vp v p).data.toList = v.data.toList ++ 47 :: p.data.toList := by
  unfold vp
  rw [ByteArray.data_append, ByteArray.data_append, Array.toList_append, Array.toList_append, List.append_assoc]
  rfl
theorem vp_size (v p : ByteArray) : (vp v p).size = v.size + 1 + p.size := by
  unfold vp
  rw [ByteArray.size_append, ByteArray.size_append]
  rfl
theorem vp_tl (v p : ByteArray) : tl v (vp v p) = p := by
  apply ByteArray.ext
  apply Array.toList_inj.1
  unfold tl
  rw [ByteArray.data_extract, Array.toList_extract, List.extract_eq_take_drop, vp_list, vp_size]
  have e1 : (v.data.toList ++ 47 :: p.data.toList).drop (v.size + 1) = p.data.toList := by
    rw [show v.data.toList ++ 47 :: p.data.toList = (v.data.toList ++ [47]) ++ p.data.toList by simp]
    rw [List.drop_left' (by simp only [List.length_append, List.length_singleton, len_l])]
  rw [e1, List.take_of_length_le (by rw [len_l]; omega)]
theorem vp_inj {v p q : ByteArray} (h : vp v p = vp v q) : p = q := by rw [← vp_tl v p, h, vp_tl]
theorem vp_ne (v p : ByteArray) : vp v p ≠ v := fun h => by
  have := congrArg ByteArray.size h
  rw [vp_size] at this
  omega
theorem inV_vp {v p : ByteArray} {x : It} (h : x.path = vp v p) : inV v x = true := by
  unfold inV
  rw [h, vp_list, und_below, decide_eq_false (vp_ne v p)]
  rfl
theorem inV_at {v : ByteArray} {x : It} (h0 : v ≠ ⟨#[]⟩) (h : inV v x = true) : x.path = vp v (tl v x.path) := (inV_long h0 h).2
theorem chk_vp {v p : ByteArray} (hv : chk v.data.toList 1 = 0) (hp : chk p.data.toList 5 = 0) : chk (vp v p).data.toList 6 = 0 ∧ 2 ≤ (spl (vp v p).data.toList).length := by
  obtain ⟨a1, a2⟩ := ok_of hv
  obtain ⟨b1, b2⟩ := ok_of hp
  have p1 := spl_pos v.data.toList
  have p2 := spl_pos p.data.toList
  have e : (spl (v.data.toList ++ 47 :: p.data.toList)).length = (spl v.data.toList).length + (spl p.data.toList).length := by rw [spl_app, List.length_append]
  rw [vp_list]
  refine ⟨ok_to ?_ (good_app a2 b2), ?_⟩
  · rw [e]; omega
  · rw [e]; omega
theorem good_short {l : List UInt8} (h : good l) : l.length + 1 ≤ 13 * (spl l).length := by
  have key : ∀ l : List UInt8, l.length + 1 = ((spl l).map List.length).sum + (spl l).length := by
    intro l
    induction l with
    | nil => rfl
    | cons c r ih =>
      rw [spl]
      split
      · rw [List.map_cons, List.sum_cons, List.length_cons, List.length_cons]
        simp only [List.length_nil]
        omega
      · split
        · rename_i e
          exact absurd e (spl_ne r)
        · rename_i x xs e
          rw [e] at ih
          simp only [List.map_cons, List.sum_cons, List.length_cons] at ih ⊢
          omega
  have sum : ∀ m : List (List UInt8), m.all isName = true → (m.map List.length).sum ≤ 12 * m.length := by
    intro m
    induction m with
    | nil => intro _; exact Nat.zero_le _
    | cons x m ih =>
      intro hm
      rw [List.all_cons, Bool.and_eq_true] at hm
      have h1 := ih hm.2
      have h2 : x.length ≤ 12 := by
        have := hm.1
        unfold isName at this
        simp only [Bool.and_eq_true, decide_eq_true_eq] at this
        exact this.1.2
      rw [List.map_cons, List.sum_cons, List.length_cons]
      omega
  have h1 := key l
  have h2 := sum _ h
  omega
theorem chk_short {p : ByteArray} {d : Int} (h : chk p.data.toList d = 0) (hd : d ≤ 6) : p.size ≤ 1000 := by
  obtain ⟨a1, a2⟩ := ok_of h
  have := good_short a2
  rw [len_l] at this
  omega
theorem last_app (a b : List UInt8) : lastN (a ++ 47 :: b) = a.length + 1 + lastN b := by
  induction a with
  | nil =>
    rw [List.nil_append, lastN]
    split
    · rename_i h; rw [h]; rfl
    · simp only [List.length_nil]; omega
  | cons c a ih =>
    rw [List.cons_append, lastN, ih, if_neg (by omega), List.length_cons]
    omega
theorem par_vp {v p : ByteArray} (hp : good p.data.toList) : (par p.data.toList = [] ∧ tb (par (vp v p).data.toList) = v) ∨ (par p.data.toList ≠ [] ∧ tb (par (vp v p).data.toList) = vp v (tb (par p.data.toList))) := by
  have e : par (vp v p).data.toList = (v.data.toList ++ 47 :: p.data.toList).take (v.data.toList.length + lastN p.data.toList) := by
    rw [vp_list, par, last_app]
    congr 1
    omega
  rcases par_bas p.data.toList with ⟨h0, hn, _⟩ | h
  · left
    refine ⟨hn, ?_⟩
    rw [e, h0, Nat.add_zero, List.take_left' rfl, tb_of]
  · right
    have hne : par p.data.toList ≠ [] := by
      have hg := hp
      rw [h] at hg
      exact good_ne (good_cut hg).1
    refine ⟨hne, ?_⟩
    have hl : 0 < lastN p.data.toList := by
      rcases Nat.eq_zero_or_pos (lastN p.data.toList) with h0 | h0
      · exact absurd (by rw [par, h0]; rfl) hne
      · exact h0
    rw [e]
    obtain ⟨k, hk⟩ : ∃ k, lastN p.data.toList = k + 1 := ⟨lastN p.data.toList - 1, by omega⟩
    have e2 : par p.data.toList = p.data.toList.take k := by rw [par, hk]; rfl
    rw [hk, List.take_append, List.take_of_length_le (by omega), show v.data.toList.length + (k + 1) - v.data.toList.length = k + 1 by omega, List.take_succ_cons, e2]
    apply ByteArray.ext
    apply Array.toList_inj.1
    rw [vp_list]
    rfl
end Go.Proofs.YtdpnmdnfnplcfaaGreat.Sc

namespace Go.Proofs.YtdpnmdnfnplcfaaGreat.En
open Go.RowKit Tx Pm Pr
set_option linter.unusedVariables false
theorem flat_len (l : List Et) : (l.flatMap cells).length = l.length * 3 := by
  induction l with
  | nil => rfl
  | cons x l ih =>
    rw [List.flatMap_cons, List.length_append, ih, List.length_cons]
    show 3 + _ = _
    omega
theorem flat_one (l : List Et) : ∀ u ∈ l.flatMap cells, u.oneCell' = true := by
  intro u hu
  obtain ⟨x, _, hx⟩ := List.mem_flatMap.1 hu
  exact cells_one x u hx
theorem ents_flat {w : World} {b off : Nat} {l : List Et} (hc : ∀ k x, l[k]? = some x → w.cell? ⟨b, off + k * 3, none⟩ = some (.string x.path) ∧ w.cell? ⟨b, off + k * 3 + 1, none⟩ = some (.int .i64 x.node.kind) ∧ w.cell? ⟨b, off + k * 3 + 1 + 1, none⟩ = some (.string x.node.data)) :
    ∀ j u, (l.flatMap cells)[j]? = some u → w.cell? ((⟨b, off, none⟩ : Addr).add j) = some u := by
  intro j u hj
  rw [WideShapes.add_plain]
  have hjl := (List.getElem?_eq_some_iff.1 hj).1
  rw [flat_len] at hjl
  have hk : j / 3 < l.length := by omega
  obtain ⟨x, hx⟩ : ∃ x, l[j / 3]? = some x := ⟨_, List.getElem?_eq_getElem hk⟩
  have hf := flat_at l (j / 3) x (j % 3) hx (by omega)
  rw [show j / 3 * 3 + j % 3 = j by omega, hj] at hf
  obtain ⟨h1, h2, h3⟩ := hc _ x hx
  rcases show j % 3 = 0 ∨ j % 3 = 1 ∨ j % 3 = 2 by omega with h | h | h
  · rw [h] at hf
    injection hf with hf
    rw [hf, ← h1]
    congr 2
    omega
  · rw [h] at hf
    injection hf with hf
    rw [hf, ← h2]
    congr 2
    omega
  · rw [h] at hf
    injection hf with hf
    rw [hf, ← h3]
    congr 2
    omega
def spare : Et := ⟨⟨#[115, 112, 97, 114, 101]⟩, ⟨0, ⟨#[]⟩⟩⟩
def RoomyTo (l : List Et) (w : World) (e : Ending) (w' : World) : Prop := ∃ g cap, e = .returned (.slice (some ⟨g, 0, none⟩) l.length cap) ∧ Own w' w.heap.size (.slice (some ⟨g, 0, none⟩) (l.length + 1) cap) (l ++ [spare]) ∧ Below w.heap.size w w'
theorem own_shape {w : World} {B : Nat} {v : Value} {n : Nat} {xs : List Value} {e : TypeId} (h : w.ownsRow B e 3 v n xs) (hn : 0 < n) : ∃ g cap, v = .slice (some ⟨g, 0, none⟩) n cap ∧ n ≤ cap ∧ cap ≤ maxLen := by
  rcases h.2 with ⟨rfl, h0⟩ | ⟨g, cap, cur, rfl, hg, hh2, hn, hc, _⟩
  · omega
  · exact ⟨g, cap, rfl, hn, hc⟩
set_option maxRecDepth 100000 in
set_option maxHeartbeats 1000000 in
theorem roomy_some (b off n c : Nat) (l : List Et) (w : World) (hln : l.length = n) (hb : b < w.heap.size ∨ n = 0) (hc : ∀ k x, l[k]? = some x → w.cell? ⟨b, off + k * 3, none⟩ = some (.string x.path) ∧ w.cell? ⟨b, off + k * 3 + 1, none⟩ = some (.int .i64 x.node.kind) ∧ w.cell? ⟨b, off + k * 3 + 1 + 1, none⟩ = some (.string x.node.data)) (hn : n ≤ 1000000000000) :
    Calls Tryz.prog 18 #[.slice (some ⟨b, off, none⟩) n c] w (RoomyTo l w) := by
  obtain ⟨i0, hi, hz0, hz1, hz2⟩ := info_parts infoE
  have hB : ∀ o, Below w.heap.size w (w.alloc o) := fun o => (Below.refl _ _).alloc (Nat.le_refl _) _
  have hfl : Hid (∀ o j u, (l.flatMap cells)[j]? = some u → (w.alloc o).cell? ((⟨b, off, none⟩ : Addr).add j) = some u) := by
    intro o
    apply ents_flat
    intro k x hx
    have hb' : b < w.heap.size := by
      have := (List.getElem?_eq_some_iff.1 hx).1
      omega
    exact ⟨((hB o).cell (p := ⟨b, _, none⟩) hb').trans (hc k x hx).1, ((hB o).cell (p := ⟨b, _, none⟩) hb').trans (hc k x hx).2.1, ((hB o).cell (p := ⟨b, _, none⟩) hb').trans (hc k x hx).2.2⟩
  have hfl2 := flat_len l
  rw [hln] at hfl2
  have hown0 := World.ownsRow_made (base := w.heap.size) (e := 54) (size := 3) w #[] 0 (Nat.le_refl _) (Nat.zero_le _) rfl
  clear hc
  go_enter Tryz.func18, Tryz.ntmps18
  go_wp2_with (at_builtin; refine wpList_append_own _ rfl _ _ 32 rfl w.heap.size 54 i0 (.agg #[.string ⟨#[]⟩, .int .i64 0, .string ⟨#[]⟩]) 3 40 Tryz.underlying32 hi hz0 hz1 hz2 rfl (by decide) _ _ _ rfl hown0 ⟨b, off, none⟩ n c (l.flatMap cells) rfl hfl2 ?c1 ?c2 ?c3 ?c4 ?c5 ?_)
  case c1 => exact hfl.out _
  case c2 => exact flat_one l
  case c3 => unfold maxLen; omega
  case c4 => omega
  case c5 => simp
  intro v' w1 hown1 hgrow1 _
  have hB1 : Below w.heap.size w w1 := (hB _).grown hgrow1 (by simp) (fun k hk => (hown0.lt k hk).1)
  have hsz1 := hB1.size
  clear hgrow1 hown0 hfl hfl2
  go_wp2_with (at_builtin; refine wpList_append_own _ rfl _ _ 32 rfl w.heap.size 54 i0 (.agg #[.string ⟨#[]⟩, .int .i64 0, .string ⟨#[]⟩]) 3 40 Tryz.underlying32 hi hz0 hz1 hz2 rfl (by decide) _ _ _ rfl (hown1.alloc _) ⟨w1.heap.size, 0, none⟩ 1 1 (cells spare) rfl rfl ?c1 ?c2 ?c3 ?c4 ?c5 ?_)
  case c1 => exact cell_three_new _ _ _ _ _
  case c2 => exact cells_one spare
  case c3 => unfold maxLen; omega
  case c4 => omega
  case c5 => simp; omega
  intro v2 w2 hown2 hgrow2 _
  have hB2 := below_step hB1 hown1 hgrow2
  obtain ⟨g, cap, rfl, hcap, hcap2⟩ := own_shape hown2 (by omega)
  have hO : Own w2 w.heap.size (.slice (some ⟨g, 0, none⟩) (l.length + 1) cap) (l ++ [spare]) := by
    unfold Own
    rw [List.length_append, List.flatMap_append, hln]
    exact hown2
  have hR := hB2
  unfold maxLen at hcap2
  clear hown1 hown2 hgrow2 hB1 hB
  go_wp2_with fail
  go_ret
  refine ⟨g, cap, ?_, hO, hR⟩
  rw [hln]
  rfl
set_option maxRecDepth 100000 in
set_option maxHeartbeats 1000000 in
theorem roomy_none (w : World) :
    Calls Tryz.prog 18 #[.slice none 0 0] w (RoomyTo [] w) := by
  obtain ⟨i0, hi, hz0, hz1, hz2⟩ := info_parts infoE
  have hB : ∀ o, Below w.heap.size w (w.alloc o) := fun o => (Below.refl _ _).alloc (Nat.le_refl _) _
  have hown0 := World.ownsRow_made (base := w.heap.size) (e := 54) (size := 3) w #[] 0 (Nat.le_refl _) (Nat.zero_le _) rfl
  have hB0 := hB (.cells #[] 54)
  have he : (w.alloc (.cells #[] 54)).heap.size = w.heap.size + 1 := by simp
  go_enter Tryz.func18, Tryz.ntmps18
  go_wp2_with (first | (at_builtin; refine wpList_append_own_none _ rfl _ _ 32 rfl w.heap.size 54 i0 3 Tryz.underlying32 hi _ _ _ rfl hown0 rfl ?_) | (at_builtin; refine wpList_append_own _ rfl _ _ 32 rfl w.heap.size 54 i0 (.agg #[.string ⟨#[]⟩, .int .i64 0, .string ⟨#[]⟩]) 3 40 Tryz.underlying32 hi hz0 hz1 hz2 rfl (by decide) _ _ _ rfl (hown0.alloc _) ⟨w.heap.size + 1, 0, none⟩ 1 1 (cells spare) rfl rfl ?c1 ?c2 ?c3 ?c4 ?c5 ?_))
  case c1 =>
    rw [← he]
    exact cell_three_new _ _ _ _ _
  case c2 => exact cells_one spare
  case c3 => unfold maxLen; omega
  case c4 => omega
  case c5 => simp; omega
  intro v2 w2 hown2 hgrow2 _
  have hB2 := below_step hB0 hown0 hgrow2
  obtain ⟨g, cap, rfl, hcap, hcap2⟩ := own_shape hown2 (by omega)
  have hO : Own w2 w.heap.size (.slice (some ⟨g, 0, none⟩) (([] : List Et).length + 1) cap) ([] ++ [spare]) := by
    unfold Own
    exact hown2
  have hR := hB2
  unfold maxLen at hcap2
  clear hown2 hgrow2 hB2 hB hown0
  go_wp2_with fail
  go_ret
  exact ⟨g, cap, rfl, hO, hR⟩
theorem Ents.take {w : World} {a : Option Addr} {n m : Nat} {l : List Et} (h : Ents w a n l) (hm : m ≤ n) : Ents w a m (l.take m) := by
  refine ⟨by rw [List.length_take, h.1]; omega, ?_⟩
  rcases h.2 with h0 | ⟨b, off, ha, hlt, hc⟩
  · exact .inl (by omega)
  · refine .inr ⟨b, off, ha, hlt, fun k x hx => hc k x ?_⟩
    rw [List.getElem?_take] at hx
    split at hx
    · exact hx
    · cases hx
set_option maxRecDepth 100000 in
set_option maxHeartbeats 1000000 in
theorem refHeld_any (g cap c n : Nat) (a : Option Addr) (l : List Et) (w : World) (hr : Ents w (some ⟨g, 0, none⟩) (n + 1) (l ++ [spare])) (ht : Ents w a n l) (hcap : n + 1 ≤ cap) (hcm : cap ≤ 9223372036854775807) (hn : n ≤ 1000000000000) :
    Calls Tryz.prog 21 #[.slice (some ⟨g, 0, none⟩) n cap, .slice a n c] w fun e w' => e = .returned (.bool true) ∧ Below w.heap.size w w' := by
  have hln := ht.1
  have h1 : Ents w (some ⟨g, 0, none⟩) n l := by
    have := hr.take (m := n) (by omega)
    rw [List.take_append_of_le_length (by omega), List.take_of_length_le (by omega)] at this
    exact this
  have cs := refSame_any (some ⟨g, 0, none⟩) a n n cap c l l w h1 ht (by omega) (by omega)
  obtain ⟨b, off, hb0, hb, hc⟩ := hr.2.resolve_left (by omega)
  injection hb0 with hb0
  injection hb0 with hg ho _
  subst hg
  subst ho
  have h3 := (hc n spare (by rw [List.getElem?_append_right (by omega), hln, Nat.sub_self]; rfl)).1
  unfold spare at h3
  simp only at h3
  rw [Nat.zero_add] at h3
  clear hc ht hr h1 hln
  go_enter Tryz.func21, Tryz.ntmps21
  go_wp2_with fail
  go_at_call 12
  refine cs.mono ?_
  rintro e w1 ⟨B, hB, rfl, hbl⟩
  obtain rfl := hB.2 rfl
  have h4 := (hbl.cell (p := ⟨g, _, none⟩) hb).trans h3
  have hn1 : (n : Int) < (n : Int) + 1 := by omega
  clear h3 cs
  go_wp2_with fail
  go_ret
  exact ⟨rfl, hbl⟩
end Go.Proofs.YtdpnmdnfnplcfaaGreat.En

namespace Go.Proofs.YtdpnmdnfnplcfaaGreat.En
open Go.RowKit Tx
set_option linter.unusedVariables false
section
variable {P : Program} (w : World)
end
def less (a b : ByteArray) : Bool := Op.bytesLess a.toList b.toList
theorem below_drewN {B : Nat} {a w : World} (h : Below B a w) (n : Nat) : Below B a (w.drewN n) := ⟨h.os, h.tape, h.output, h.size, h.block⟩
theorem own_other {w w1 : World} {B g n cap : Nat} {T : List Et} {r : Option Nat} (h : Own w B (.slice (some ⟨g, 0, none⟩) n cap) T) (hg : w.grownBy w1 r) (hne : r ≠ some g) : Own w1 B (.slice (some ⟨g, 0, none⟩) n cap) T := by
  refine ⟨h.1, ?_⟩
  rcases h.2 with h0 | ⟨g', cap', cur, hv, hg', hh, r'⟩
  · exact .inl h0
  · refine .inr ⟨g', cap', cur, hv, hg', (hg.block g' (Array.getElem?_eq_some_iff.1 hh).1 ?_).trans hh, r'⟩
    injection hv with hv
    injection hv with hv
    injection hv with hv
    rw [← hv]
    intro e
    exact hne e.symm
end Go.Proofs.YtdpnmdnfnplcfaaGreat.En

namespace Go.Proofs.YtdpnmdnfnplcfaaGreat.En
open Go.RowKit Tx Pm Pr
set_option linter.unusedVariables false
end Go.Proofs.YtdpnmdnfnplcfaaGreat.En

namespace Go.Proofs.YtdpnmdnfnplcfaaGreat.En
open Go.RowKit Tx Pm Pr
set_option linter.unusedVariables false
end Go.Proofs.YtdpnmdnfnplcfaaGreat.En

namespace Go.Proofs.YtdpnmdnfnplcfaaGreat.En
open Go.RowKit Tx Pm Pr
set_option linter.unusedVariables false
end Go.Proofs.YtdpnmdnfnplcfaaGreat.En

namespace Go.Proofs.YtdpnmdnfnplcfaaGreat.En
open Go.RowKit Tx Pm Pr
set_option linter.unusedVariables false
theorem lt_irr (a : ByteArray) : less a a = false := less_irr _
theorem lt_asymm {a b : ByteArray} (h : less a b = true) : less b a = false := less_asymm _ _ h
theorem less_trans : ∀ (a b c : List UInt8), Op.bytesLess a b = true → Op.bytesLess b c = true → Op.bytesLess a c = true
  | [], [], _, h, _ => by rw [Op.bytesLess] at h; cases h
  | [], _ :: _, [], _, h => by rw [Op.bytesLess] at h; cases h
  | [], _ :: _, _ :: _, _, _ => by rw [Op.bytesLess]
  | _ :: _, [], _, h, _ => by rw [Op.bytesLess] at h; cases h
  | _ :: _, _ :: _, [], _, h => by rw [Op.bytesLess] at h; cases h
  | x :: a, y :: b, z :: c, h1, h2 => by
    have ih := less_trans a b c
    rw [Op.bytesLess] at h1 h2 ⊢
    simp only [Bool.or_eq_true, Bool.and_eq_true, decide_eq_true_eq, beq_iff_eq] at h1 h2 ⊢
    rcases h1 with h1 | ⟨rfl, h1⟩
    · rcases h2 with h2 | ⟨rfl, h2⟩
      · left
        rw [UInt8.lt_iff_toNat_lt] at h1 h2 ⊢
        omega
      · exact .inl h1
    · rcases h2 with h2 | ⟨rfl, h2⟩
      · exact .inl h2
      · exact .inr ⟨rfl, ih h1 h2⟩
theorem less_tri : ∀ (a b : List UInt8), Op.bytesLess a b = false → Op.bytesLess b a = false → a = b
  | [], [], _, _ => rfl
  | [], _ :: _, h, _ => by rw [Op.bytesLess] at h; cases h
  | _ :: _, [], _, h => by rw [Op.bytesLess] at h; cases h
  | x :: a, y :: b, h1, h2 => by
    have ih := less_tri a b
    rw [Op.bytesLess] at h1 h2
    simp only [Bool.or_eq_false_iff, Bool.and_eq_false_iff, decide_eq_false_iff_not, beq_eq_false_iff_ne] at h1 h2
    have e : x = y := by
      apply UInt8.toNat_inj.1
      have a1 := h1.1
      have a2 := h2.1
      rw [UInt8.lt_iff_toNat_lt] at a1 a2
      omega
    subst e
    rw [ih (h1.2.resolve_left (fun h => h rfl)) (h2.2.resolve_left (fun h => h rfl))]
theorem lt_trans {a b c : ByteArray} (h1 : less a b = true) (h2 : less b c = true) : less a c = true := less_trans _ _ _ h1 h2
theorem rise_ext : ∀ (l m : List ByteArray), l.Pairwise (fun a b => less a b = true) → m.Pairwise (fun a b => less a b = true) → (∀ p, p ∈ l ↔ p ∈ m) → l = m
  | [], [], _, _, _ => rfl
  | [], y :: m, _, _, h => absurd ((h y).2 (by simp)) (by simp)
  | x :: l, [], _, _, h => absurd ((h x).1 (by simp)) (by simp)
  | x :: l, y :: m, hl, hm, h => by
    rw [List.pairwise_cons] at hl hm
    have e : x = y := by
      rcases List.mem_cons.1 ((h x).1 (by simp)) with h1 | h1
      · exact h1
      · rcases List.mem_cons.1 ((h y).2 (by simp)) with h2 | h2
        · exact h2.symm
        · have a1 := hm.1 x h1
          have a2 := hl.1 y h2
          rw [lt_asymm a1] at a2
          cases a2
    subst e
    rw [rise_ext l m hl.2 hm.2 (fun p => ?_)]
    constructor
    · intro hp
      rcases List.mem_cons.1 ((h p).1 (List.mem_cons_of_mem _ hp)) with h1 | h1
      · subst h1
        have := hl.1 p hp
        rw [lt_irr] at this
        cases this
      · exact h1
    · intro hp
      rcases List.mem_cons.1 ((h p).2 (List.mem_cons_of_mem _ hp)) with h1 | h1
      · subst h1
        have := hm.1 p hp
        rw [lt_irr] at this
        cases this
      · exact h1
theorem tree_at {l : List Et} (h : tcheck l = 0) {i : Nat} {x : Et} (hx : l[i]? = some x) : chk x.path.data.toList 5 = 0 ∧ whole x.node = true ∧ x.node.kind ≠ 0 ∧ (i = 0 ∨ ∃ y, l[i - 1]? = some y ∧ less y.path x.path = true) := by
  have hi := (List.getElem?_eq_some_iff.1 hx).1
  have hok : okAt l i = true := by
    unfold tcheck at h
    split at h
    · cases h
    · split at h
      · next hall => exact List.all_eq_true.1 hall i (List.mem_range.2 hi)
      · cases h
  rw [okAt_eq hx] at hok
  simp only [Bool.and_eq_true, Bool.or_eq_true, decide_eq_true_eq, Bool.not_eq_true', decide_eq_false_iff_not] at hok
  obtain ⟨⟨⟨⟨c1, c2⟩, c3⟩, c4⟩, _⟩ := hok
  refine ⟨c1, c2, c3, ?_⟩
  rcases c4 with c4 | c4
  · exact .inl c4
  · by_cases h0 : i = 0
    · exact .inl h0
    · right
      obtain ⟨y, hy⟩ : ∃ y, l[i - 1]? = some y := ⟨_, List.getElem?_eq_getElem (by omega)⟩
      rw [hy] at c4
      exact ⟨y, hy, c4⟩
theorem tree_rise {l : List Et} (h : tcheck l = 0) : ∀ (j i : Nat) (x y : Et), l[i]? = some x → l[j]? = some y → i < j → less x.path y.path = true
  | 0, i, x, y, _, _, hij => absurd hij (by omega)
  | j + 1, i, x, y, hx, hy, hij => by
    rcases (tree_at h hy).2.2.2 with h0 | ⟨z, hz, hlt⟩
    · omega
    · rw [Nat.add_sub_cancel] at hz
      by_cases e : i = j
      · subst e
        rw [hx] at hz
        injection hz with hz
        rw [hz]
        exact hlt
      · exact lt_trans (tree_rise h j i x z hx hz (by omega)) hlt
theorem tree_get {l : List Et} (h : tcheck l = 0) {x : Et} (hx : x ∈ l) : tget l x.path = x.node := by
  obtain ⟨k, hk⟩ := List.getElem?_of_mem hx
  refine tget_hit l x.path k x hk rfl (fun y hy e => ?_)
  obtain ⟨i, hi⟩ := List.getElem?_of_mem hy
  rw [List.getElem?_take] at hi
  split at hi
  · next hik =>
    have := tree_rise h k i y x hi hk hik
    rw [e, lt_irr] at this
    cases this
  · cases hi
theorem tree_paths {l : List Et} (h : tcheck l = 0) : (l.map (·.path)).Pairwise (fun a b => less a b = true) := by
  rw [List.pairwise_iff_getElem]
  intro i j hi hj hij
  rw [List.length_map] at hi hj
  rw [List.getElem_map, List.getElem_map]
  exact tree_rise h j i _ _ (List.getElem?_eq_getElem hi) (List.getElem?_eq_getElem hj) hij
end Go.Proofs.YtdpnmdnfnplcfaaGreat.En
