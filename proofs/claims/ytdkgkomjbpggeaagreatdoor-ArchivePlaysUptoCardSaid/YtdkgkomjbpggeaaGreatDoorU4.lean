/- Texts of this seat, one behind the other. -/
import Derived.Test.YtdkgkomjbpggeaaGreatDoorU3
import Derived.RegionTactic
import Derived.BigRegion
import Derived.Deep.CutRange
import Derived.StillTailTactics
import Derived.Deep.QuietTactic
import Derived.BigQuiet
import Derived.Laws.OwnMore
namespace Go.Proofs.YtdkgkomjbpggeaaGreatDoor.Rg
open Go.RowKit
set_option linter.unusedVariables false
section
variable {P : Program} {ops : Array Oper} {R : Act → World → Prop} {S : World → Prop}
theorem y_look {o : Oper} {a : Act} {T : TypeId} {x y : Operand} {c : Bool} {vx vy v : Value} (ho : o.op = .lookup T x y c) (hx : a.eval x = vx) (hy : a.eval y = vy)
    (hv : ∀ w, S w → (Instr.lookup T vx vy c).run P w = .ok v w) : ∀ w, S w → (execOp a.eval o).run P w = .ok (.value v) w := by
  intro w hw
  obtain ⟨dst, op, ty, pos, after, guard⟩ := o
  simp only at ho
  subst ho
  have := hv w hw
  simp only [execOp, hx, hy, Sem.run_bind]
  rw [this]
  rfl
theorem y_lookk {o : Oper} {a : Act} {T : TypeId} {x y : Operand} {c : Bool} {vx vy v : Value} (hv : ∀ w, S w → (Instr.lookup T vx vy c).run P w = .ok v w) (ho : o.op = .lookup T x y c := by kernel_rfl) (hx : a.eval x = vx := by kernel_rfl) (hy : a.eval y = vy := by kernel_rfl) : ∀ w, S w → (execOp a.eval o).run P w = .ok (.value v) w := y_look ho hx hy hv
theorem y_fld {o : Oper} {a : Act} {T : TypeId} {k : Nat} {x : Operand} {vx v : Value} (ho : o.op = .field T x k) (hx : a.eval x = vx)
    (hv : ∀ w, S w → (Instr.field T vx k).run P w = .ok v w) : ∀ w, S w → (execOp a.eval o).run P w = .ok (.value v) w := by
  intro w hw
  obtain ⟨dst, op, ty, pos, after, guard⟩ := o
  simp only at ho
  subst ho
  have := hv w hw
  simp only [execOp, hx, Sem.run_bind]
  rw [this]
  rfl
theorem y_fldk {o : Oper} {a : Act} {T : TypeId} {k : Nat} {x : Operand} {vx v : Value} (hv : ∀ w, S w → (Instr.field T vx k).run P w = .ok v w) (ho : o.op = .field T x k := by kernel_rfl) (hx : a.eval x = vx := by kernel_rfl) : ∀ w, S w → (execOp a.eval o).run P w = .ok (.value v) w := y_fld ho hx hv
theorem y_func {o : Oper} {a : Act} {f : Fn} {xs ys : Array Operand} {vs us : Array Value} (ho : o.op = .makeFunc f xs ys) (hx : xs.map a.eval = vs) (hy : ys.map a.eval = us) : ∀ w, S w → (execOp a.eval o).run P w = .ok (.value (.func f vs us)) w := by
  intro w hw
  obtain ⟨dst, op, ty, pos, after, guard⟩ := o
  simp only at ho
  subst ho
  subst hx
  subst hy
  rfl
theorem y_funck {o : Oper} {a : Act} {f : Fn} {xs ys : Array Operand} {vs us : Array Value} (ho : o.op = .makeFunc f xs ys := by kernel_rfl) (hx : xs.map a.eval = vs := by kernel_rfl) (hy : ys.map a.eval = us := by kernel_rfl) : ∀ w, S w → (execOp a.eval o).run P w = .ok (.value (.func f vs us)) w := y_func ho hx hy
end
end Go.Proofs.YtdkgkomjbpggeaaGreatDoor.Rg

namespace Go.Proofs.YtdkgkomjbpggeaaGreatDoor.Dk
open Go.RowKit Tx Pm Pl Pr
set_option linter.unusedVariables false
set_option maxRecDepth 100000 in
set_option maxHeartbeats 2000000 in
theorem regMkdir (ops : Array Oper) (hops : ops = (Rg.opsOf Tryz.f25 1)) (id : Nat) (bd bp : Nat) (dv : Value) (p : ByteArray) (r X : Nat) {u0 u1 u4 u5 u6 u7 u8 u9 u10 : Value} (w : World) (A B : World → Prop)
    (hS : (fun W => Cap W bd dv ∧ Cap W bp (.string p)) w.drew) (hm : Calls Tryz.prog 60 #[dv, .string p] w.drew fun e w' => e = .returned (.int .i64 (r : Nat)) ∧ A w') (hAS : ∀ W, A W → (fun W => Cap W bd dv ∧ Cap W bp (.string p)) W)
    (hst : ∀ W, A W → Calls Tryz.prog 59 #[dv, .int .i64 (r : Nat), .func (.func 61) #[] #[.pointer (some ⟨bd, 0, none⟩), .pointer (some ⟨bp, 0, none⟩)]] W fun e w' => e = .returned (.int .i64 (X : Nat)) ∧ B w') (hBS : ∀ W, B W → (fun W => Cap W bd dv ∧ Cap W bp (.string p)) W) :
    (Code.region id ops true).wp Tryz.prog (Rg.Only fun a' w' => a' = ⟨#[u0, u1, (.pointer (some ⟨bd, 0, none⟩)), (.pointer (some ⟨bp, 0, none⟩)), (.int .i64 (X : Nat)), dv, dv, (.string p), (.int .i64 (r : Nat)), .func (Fn.func 61) #[] #[(.pointer (some ⟨bd, 0, none⟩)), (.pointer (some ⟨bp, 0, none⟩))], (.int .i64 (X : Nat))], []⟩ ∧ B w') ⟨#[u0, u1, (.pointer (some ⟨bd, 0, none⟩)), (.pointer (some ⟨bp, 0, none⟩)), u4, u5, u6, u7, u8, u9, u10], []⟩ w := by
  subst hops
  have hNS : Region.noSelect (Rg.opsOf Tryz.f25 1) = true := by kernel_rfl
  refine wp_region_held_drew (S := (fun W => Cap W bd dv ∧ Cap W bp (.string p))) (by kernel_rfl) hS (fun hHeld => ?_)
  rw [show (Rg.opsOf Tryz.f25 1).size = 7 by kernel_rfl]
  refine Rg.takek 0 (some 5) (dv) hNS hHeld (Rg.y_loadk (T := 23) (x := .tmp 2) (vx := (.pointer (some ⟨bd, 0, none⟩))) ?_) ?_
  · (intro w hSw; obtain ⟨s0, s1⟩ := hSw; unfold Cap at *; go_simp)
  refine Rg.takek 1 (some 6) (dv) hNS hHeld (Rg.y_loadk (T := 23) (x := .tmp 2) (vx := (.pointer (some ⟨bd, 0, none⟩))) ?_) ?_
  · (intro w hSw; obtain ⟨s0, s1⟩ := hSw; unfold Cap at *; go_simp)
  refine Rg.takek 2 (some 7) (.string p) hNS hHeld (Rg.y_loadk (T := 9) (x := .tmp 3) (vx := (.pointer (some ⟨bp, 0, none⟩))) ?_) ?_
  · (intro w hSw; obtain ⟨s0, s1⟩ := hSw; unfold Cap at *; go_simp)
  refine Rg.takek 4 (some 9) (.func (Fn.func 61) #[] #[(.pointer (some ⟨bd, 0, none⟩)), (.pointer (some ⟨bp, 0, none⟩))]) hNS hHeld (Rg.y_funck (f := Fn.func 61) (xs := #[]) (ys := #[.tmp 2, .tmp 3]) (vs := #[]) (us := #[(.pointer (some ⟨bd, 0, none⟩)), (.pointer (some ⟨bp, 0, none⟩))])) ?_
  refine Rg.callk (fn := Tryz.f60) (xs := #[.tmp 6, .tmp 7]) (ats := #[23, 9]) 3 (some 8) 60 #[dv, (.string p)] Tryz.func60 ?_
  refine hm.mono ?_
  rintro e w5 ⟨rfl, hA5⟩
  refine ⟨_, rfl, hAS _ hA5, fun hHeld => ?_⟩
  refine Rg.callk (fn := Tryz.f59) (xs := #[.tmp 5, .tmp 8, .tmp 9]) (ats := #[23, 26, 1]) 5 (some 10) 59 #[dv, (.int .i64 (r : Nat)), .func (Fn.func 61) #[] #[(.pointer (some ⟨bd, 0, none⟩)), (.pointer (some ⟨bp, 0, none⟩))]] Tryz.func59 ?_
  refine (hst _ hA5).mono ?_
  rintro e w6 ⟨rfl, hB6⟩
  refine ⟨_, rfl, hBS _ hB6, fun hHeld => ?_⟩
  refine Rg.takek 6 (some 4) (.int .i64 (X : Nat)) hNS hHeld (Rg.y_movekR (x := .tmp 10)) ?_
  refine Rg.donek ?_
  exact ⟨by kernel_rfl, hB6⟩
set_option maxRecDepth 100000 in
set_option maxHeartbeats 2000000 in
theorem regWrite (ops : Array Oper) (hops : ops = (Rg.opsOf Tryz.f118 1)) (id : Nat) (bd bp bq : Nat) (dv : Value) (p q : ByteArray) (r X : Nat) {u0 u1 u2 u6 u7 u8 u9 u10 u11 u12 u13 : Value} (w : World) (A B : World → Prop)
    (hS : (fun W => Cap W bd dv ∧ Cap W bp (.string p) ∧ Cap W bq (.string q)) w.drew) (hm : Calls Tryz.prog 147 #[dv, .string p, .string q] w.drew fun e w' => e = .returned (.int .i64 (r : Nat)) ∧ A w') (hAS : ∀ W, A W → (fun W => Cap W bd dv ∧ Cap W bp (.string p) ∧ Cap W bq (.string q)) W)
    (hst : ∀ W, A W → Calls Tryz.prog 59 #[dv, .int .i64 (r : Nat), .func (.func 148) #[] #[.pointer (some ⟨bd, 0, none⟩), .pointer (some ⟨bp, 0, none⟩), .pointer (some ⟨bq, 0, none⟩)]] W fun e w' => e = .returned (.int .i64 (X : Nat)) ∧ B w') (hBS : ∀ W, B W → (fun W => Cap W bd dv ∧ Cap W bp (.string p) ∧ Cap W bq (.string q)) W) :
    (Code.region id ops true).wp Tryz.prog (Rg.Only fun a' w' => a' = ⟨#[u0, u1, u2, (.pointer (some ⟨bd, 0, none⟩)), (.pointer (some ⟨bp, 0, none⟩)), (.pointer (some ⟨bq, 0, none⟩)), (.int .i64 (X : Nat)), dv, dv, (.string p), (.string q), (.int .i64 (r : Nat)), .func (Fn.func 148) #[] #[(.pointer (some ⟨bd, 0, none⟩)), (.pointer (some ⟨bp, 0, none⟩)), (.pointer (some ⟨bq, 0, none⟩))], (.int .i64 (X : Nat))], []⟩ ∧ B w') ⟨#[u0, u1, u2, (.pointer (some ⟨bd, 0, none⟩)), (.pointer (some ⟨bp, 0, none⟩)), (.pointer (some ⟨bq, 0, none⟩)), u6, u7, u8, u9, u10, u11, u12, u13], []⟩ w := by
  subst hops
  have hNS : Region.noSelect (Rg.opsOf Tryz.f118 1) = true := by kernel_rfl
  refine wp_region_held_drew (S := (fun W => Cap W bd dv ∧ Cap W bp (.string p) ∧ Cap W bq (.string q))) (by kernel_rfl) hS (fun hHeld => ?_)
  rw [show (Rg.opsOf Tryz.f118 1).size = 8 by kernel_rfl]
  refine Rg.takek 0 (some 7) (dv) hNS hHeld (Rg.y_loadk (T := 23) (x := .tmp 3) (vx := (.pointer (some ⟨bd, 0, none⟩))) ?_) ?_
  · (intro w hSw; obtain ⟨s0, s1, s2⟩ := hSw; unfold Cap at *; go_simp)
  refine Rg.takek 1 (some 8) (dv) hNS hHeld (Rg.y_loadk (T := 23) (x := .tmp 3) (vx := (.pointer (some ⟨bd, 0, none⟩))) ?_) ?_
  · (intro w hSw; obtain ⟨s0, s1, s2⟩ := hSw; unfold Cap at *; go_simp)
  refine Rg.takek 2 (some 9) (.string p) hNS hHeld (Rg.y_loadk (T := 9) (x := .tmp 4) (vx := (.pointer (some ⟨bp, 0, none⟩))) ?_) ?_
  · (intro w hSw; obtain ⟨s0, s1, s2⟩ := hSw; unfold Cap at *; go_simp)
  refine Rg.takek 3 (some 10) (.string q) hNS hHeld (Rg.y_loadk (T := 9) (x := .tmp 5) (vx := (.pointer (some ⟨bq, 0, none⟩))) ?_) ?_
  · (intro w hSw; obtain ⟨s0, s1, s2⟩ := hSw; unfold Cap at *; go_simp)
  refine Rg.takek 5 (some 12) (.func (Fn.func 148) #[] #[(.pointer (some ⟨bd, 0, none⟩)), (.pointer (some ⟨bp, 0, none⟩)), (.pointer (some ⟨bq, 0, none⟩))]) hNS hHeld (Rg.y_funck (f := Fn.func 148) (xs := #[]) (ys := #[.tmp 3, .tmp 4, .tmp 5]) (vs := #[]) (us := #[(.pointer (some ⟨bd, 0, none⟩)), (.pointer (some ⟨bp, 0, none⟩)), (.pointer (some ⟨bq, 0, none⟩))])) ?_
  refine Rg.callk (fn := Tryz.f147) (xs := #[.tmp 8, .tmp 9, .tmp 10]) (ats := #[23, 9, 9]) 4 (some 11) 147 #[dv, (.string p), (.string q)] Tryz.func147 ?_
  refine hm.mono ?_
  rintro e w5 ⟨rfl, hA5⟩
  refine ⟨_, rfl, hAS _ hA5, fun hHeld => ?_⟩
  refine Rg.callk (fn := Tryz.f59) (xs := #[.tmp 7, .tmp 11, .tmp 12]) (ats := #[23, 26, 1]) 6 (some 13) 59 #[dv, (.int .i64 (r : Nat)), .func (Fn.func 148) #[] #[(.pointer (some ⟨bd, 0, none⟩)), (.pointer (some ⟨bp, 0, none⟩)), (.pointer (some ⟨bq, 0, none⟩))]] Tryz.func59 ?_
  refine (hst _ hA5).mono ?_
  rintro e w6 ⟨rfl, hB6⟩
  refine ⟨_, rfl, hBS _ hB6, fun hHeld => ?_⟩
  refine Rg.takek 7 (some 6) (.int .i64 (X : Nat)) hNS hHeld (Rg.y_movekR (x := .tmp 13)) ?_
  refine Rg.donek ?_
  exact ⟨by kernel_rfl, hB6⟩
set_option maxRecDepth 100000 in
set_option maxHeartbeats 2000000 in
theorem regAppend (ops : Array Oper) (hops : ops = (Rg.opsOf Tryz.f80 1)) (id : Nat) (bd bp bq : Nat) (dv : Value) (p q : ByteArray) (r X : Nat) {u0 u1 u2 u6 u7 u8 u9 u10 u11 u12 u13 : Value} (w : World) (A B : World → Prop)
    (hS : (fun W => Cap W bd dv ∧ Cap W bp (.string p) ∧ Cap W bq (.string q)) w.drew) (hm : Calls Tryz.prog 113 #[dv, .string p, .string q] w.drew fun e w' => e = .returned (.int .i64 (r : Nat)) ∧ A w') (hAS : ∀ W, A W → (fun W => Cap W bd dv ∧ Cap W bp (.string p) ∧ Cap W bq (.string q)) W)
    (hst : ∀ W, A W → Calls Tryz.prog 59 #[dv, .int .i64 (r : Nat), .func (.func 114) #[] #[.pointer (some ⟨bd, 0, none⟩), .pointer (some ⟨bp, 0, none⟩), .pointer (some ⟨bq, 0, none⟩)]] W fun e w' => e = .returned (.int .i64 (X : Nat)) ∧ B w') (hBS : ∀ W, B W → (fun W => Cap W bd dv ∧ Cap W bp (.string p) ∧ Cap W bq (.string q)) W) :
    (Code.region id ops true).wp Tryz.prog (Rg.Only fun a' w' => a' = ⟨#[u0, u1, u2, (.pointer (some ⟨bd, 0, none⟩)), (.pointer (some ⟨bp, 0, none⟩)), (.pointer (some ⟨bq, 0, none⟩)), (.int .i64 (X : Nat)), dv, dv, (.string p), (.string q), (.int .i64 (r : Nat)), .func (Fn.func 114) #[] #[(.pointer (some ⟨bd, 0, none⟩)), (.pointer (some ⟨bp, 0, none⟩)), (.pointer (some ⟨bq, 0, none⟩))], (.int .i64 (X : Nat))], []⟩ ∧ B w') ⟨#[u0, u1, u2, (.pointer (some ⟨bd, 0, none⟩)), (.pointer (some ⟨bp, 0, none⟩)), (.pointer (some ⟨bq, 0, none⟩)), u6, u7, u8, u9, u10, u11, u12, u13], []⟩ w := by
  subst hops
  have hNS : Region.noSelect (Rg.opsOf Tryz.f80 1) = true := by kernel_rfl
  refine wp_region_held_drew (S := (fun W => Cap W bd dv ∧ Cap W bp (.string p) ∧ Cap W bq (.string q))) (by kernel_rfl) hS (fun hHeld => ?_)
  rw [show (Rg.opsOf Tryz.f80 1).size = 8 by kernel_rfl]
  refine Rg.takek 0 (some 7) (dv) hNS hHeld (Rg.y_loadk (T := 23) (x := .tmp 3) (vx := (.pointer (some ⟨bd, 0, none⟩))) ?_) ?_
  · (intro w hSw; obtain ⟨s0, s1, s2⟩ := hSw; unfold Cap at *; go_simp)
  refine Rg.takek 1 (some 8) (dv) hNS hHeld (Rg.y_loadk (T := 23) (x := .tmp 3) (vx := (.pointer (some ⟨bd, 0, none⟩))) ?_) ?_
  · (intro w hSw; obtain ⟨s0, s1, s2⟩ := hSw; unfold Cap at *; go_simp)
  refine Rg.takek 2 (some 9) (.string p) hNS hHeld (Rg.y_loadk (T := 9) (x := .tmp 4) (vx := (.pointer (some ⟨bp, 0, none⟩))) ?_) ?_
  · (intro w hSw; obtain ⟨s0, s1, s2⟩ := hSw; unfold Cap at *; go_simp)
  refine Rg.takek 3 (some 10) (.string q) hNS hHeld (Rg.y_loadk (T := 9) (x := .tmp 5) (vx := (.pointer (some ⟨bq, 0, none⟩))) ?_) ?_
  · (intro w hSw; obtain ⟨s0, s1, s2⟩ := hSw; unfold Cap at *; go_simp)
  refine Rg.takek 5 (some 12) (.func (Fn.func 114) #[] #[(.pointer (some ⟨bd, 0, none⟩)), (.pointer (some ⟨bp, 0, none⟩)), (.pointer (some ⟨bq, 0, none⟩))]) hNS hHeld (Rg.y_funck (f := Fn.func 114) (xs := #[]) (ys := #[.tmp 3, .tmp 4, .tmp 5]) (vs := #[]) (us := #[(.pointer (some ⟨bd, 0, none⟩)), (.pointer (some ⟨bp, 0, none⟩)), (.pointer (some ⟨bq, 0, none⟩))])) ?_
  refine Rg.callk (fn := Tryz.f113) (xs := #[.tmp 8, .tmp 9, .tmp 10]) (ats := #[23, 9, 9]) 4 (some 11) 113 #[dv, (.string p), (.string q)] Tryz.func113 ?_
  refine hm.mono ?_
  rintro e w5 ⟨rfl, hA5⟩
  refine ⟨_, rfl, hAS _ hA5, fun hHeld => ?_⟩
  refine Rg.callk (fn := Tryz.f59) (xs := #[.tmp 7, .tmp 11, .tmp 12]) (ats := #[23, 26, 1]) 6 (some 13) 59 #[dv, (.int .i64 (r : Nat)), .func (Fn.func 114) #[] #[(.pointer (some ⟨bd, 0, none⟩)), (.pointer (some ⟨bp, 0, none⟩)), (.pointer (some ⟨bq, 0, none⟩))]] Tryz.func59 ?_
  refine (hst _ hA5).mono ?_
  rintro e w6 ⟨rfl, hB6⟩
  refine ⟨_, rfl, hBS _ hB6, fun hHeld => ?_⟩
  refine Rg.takek 7 (some 6) (.int .i64 (X : Nat)) hNS hHeld (Rg.y_movekR (x := .tmp 13)) ?_
  refine Rg.donek ?_
  exact ⟨by kernel_rfl, hB6⟩
set_option maxRecDepth 100000 in
set_option maxHeartbeats 2000000 in
theorem regSync (ops : Array Oper) (hops : ops = (Rg.opsOf Tryz.f81 1)) (id : Nat) (bd bp : Nat) (dv : Value) (p : ByteArray) (r X : Nat) {u0 u1 u4 u5 u6 u7 u8 u9 u10 : Value} (w : World) (A B : World → Prop)
    (hS : (fun W => Cap W bd dv ∧ Cap W bp (.string p)) w.drew) (hm : Calls Tryz.prog 116 #[dv, .string p] w.drew fun e w' => e = .returned (.int .i64 (r : Nat)) ∧ A w') (hAS : ∀ W, A W → (fun W => Cap W bd dv ∧ Cap W bp (.string p)) W)
    (hst : ∀ W, A W → Calls Tryz.prog 59 #[dv, .int .i64 (r : Nat), .func (.func 117) #[] #[.pointer (some ⟨bd, 0, none⟩), .pointer (some ⟨bp, 0, none⟩)]] W fun e w' => e = .returned (.int .i64 (X : Nat)) ∧ B w') (hBS : ∀ W, B W → (fun W => Cap W bd dv ∧ Cap W bp (.string p)) W) :
    (Code.region id ops true).wp Tryz.prog (Rg.Only fun a' w' => a' = ⟨#[u0, u1, (.pointer (some ⟨bd, 0, none⟩)), (.pointer (some ⟨bp, 0, none⟩)), (.int .i64 (X : Nat)), dv, dv, (.string p), (.int .i64 (r : Nat)), .func (Fn.func 117) #[] #[(.pointer (some ⟨bd, 0, none⟩)), (.pointer (some ⟨bp, 0, none⟩))], (.int .i64 (X : Nat))], []⟩ ∧ B w') ⟨#[u0, u1, (.pointer (some ⟨bd, 0, none⟩)), (.pointer (some ⟨bp, 0, none⟩)), u4, u5, u6, u7, u8, u9, u10], []⟩ w := by
  subst hops
  have hNS : Region.noSelect (Rg.opsOf Tryz.f81 1) = true := by kernel_rfl
  refine wp_region_held_drew (S := (fun W => Cap W bd dv ∧ Cap W bp (.string p))) (by kernel_rfl) hS (fun hHeld => ?_)
  rw [show (Rg.opsOf Tryz.f81 1).size = 7 by kernel_rfl]
  refine Rg.takek 0 (some 5) (dv) hNS hHeld (Rg.y_loadk (T := 23) (x := .tmp 2) (vx := (.pointer (some ⟨bd, 0, none⟩))) ?_) ?_
  · (intro w hSw; obtain ⟨s0, s1⟩ := hSw; unfold Cap at *; go_simp)
  refine Rg.takek 1 (some 6) (dv) hNS hHeld (Rg.y_loadk (T := 23) (x := .tmp 2) (vx := (.pointer (some ⟨bd, 0, none⟩))) ?_) ?_
  · (intro w hSw; obtain ⟨s0, s1⟩ := hSw; unfold Cap at *; go_simp)
  refine Rg.takek 2 (some 7) (.string p) hNS hHeld (Rg.y_loadk (T := 9) (x := .tmp 3) (vx := (.pointer (some ⟨bp, 0, none⟩))) ?_) ?_
  · (intro w hSw; obtain ⟨s0, s1⟩ := hSw; unfold Cap at *; go_simp)
  refine Rg.takek 4 (some 9) (.func (Fn.func 117) #[] #[(.pointer (some ⟨bd, 0, none⟩)), (.pointer (some ⟨bp, 0, none⟩))]) hNS hHeld (Rg.y_funck (f := Fn.func 117) (xs := #[]) (ys := #[.tmp 2, .tmp 3]) (vs := #[]) (us := #[(.pointer (some ⟨bd, 0, none⟩)), (.pointer (some ⟨bp, 0, none⟩))])) ?_
  refine Rg.callk (fn := Tryz.f116) (xs := #[.tmp 6, .tmp 7]) (ats := #[23, 9]) 3 (some 8) 116 #[dv, (.string p)] Tryz.func116 ?_
  refine hm.mono ?_
  rintro e w5 ⟨rfl, hA5⟩
  refine ⟨_, rfl, hAS _ hA5, fun hHeld => ?_⟩
  refine Rg.callk (fn := Tryz.f59) (xs := #[.tmp 5, .tmp 8, .tmp 9]) (ats := #[23, 26, 1]) 5 (some 10) 59 #[dv, (.int .i64 (r : Nat)), .func (Fn.func 117) #[] #[(.pointer (some ⟨bd, 0, none⟩)), (.pointer (some ⟨bp, 0, none⟩))]] Tryz.func59 ?_
  refine (hst _ hA5).mono ?_
  rintro e w6 ⟨rfl, hB6⟩
  refine ⟨_, rfl, hBS _ hB6, fun hHeld => ?_⟩
  refine Rg.takek 6 (some 4) (.int .i64 (X : Nat)) hNS hHeld (Rg.y_movekR (x := .tmp 10)) ?_
  refine Rg.donek ?_
  exact ⟨by kernel_rfl, hB6⟩
set_option maxRecDepth 100000 in
set_option maxHeartbeats 2000000 in
theorem regRename (ops : Array Oper) (hops : ops = (Rg.opsOf Tryz.f119 1)) (id : Nat) (bd bp bq : Nat) (dv : Value) (p q : ByteArray) (r X : Nat) {u0 u1 u2 u6 u7 u8 u9 u10 u11 u12 u13 : Value} (w : World) (A B : World → Prop)
    (hS : (fun W => Cap W bd dv ∧ Cap W bp (.string p) ∧ Cap W bq (.string q)) w.drew) (hm : Calls Tryz.prog 149 #[dv, .string p, .string q] w.drew fun e w' => e = .returned (.int .i64 (r : Nat)) ∧ A w') (hAS : ∀ W, A W → (fun W => Cap W bd dv ∧ Cap W bp (.string p) ∧ Cap W bq (.string q)) W)
    (hst : ∀ W, A W → Calls Tryz.prog 59 #[dv, .int .i64 (r : Nat), .func (.func 150) #[] #[.pointer (some ⟨bd, 0, none⟩), .pointer (some ⟨bp, 0, none⟩), .pointer (some ⟨bq, 0, none⟩)]] W fun e w' => e = .returned (.int .i64 (X : Nat)) ∧ B w') (hBS : ∀ W, B W → (fun W => Cap W bd dv ∧ Cap W bp (.string p) ∧ Cap W bq (.string q)) W) :
    (Code.region id ops true).wp Tryz.prog (Rg.Only fun a' w' => a' = ⟨#[u0, u1, u2, (.pointer (some ⟨bd, 0, none⟩)), (.pointer (some ⟨bp, 0, none⟩)), (.pointer (some ⟨bq, 0, none⟩)), (.int .i64 (X : Nat)), dv, dv, (.string p), (.string q), (.int .i64 (r : Nat)), .func (Fn.func 150) #[] #[(.pointer (some ⟨bd, 0, none⟩)), (.pointer (some ⟨bp, 0, none⟩)), (.pointer (some ⟨bq, 0, none⟩))], (.int .i64 (X : Nat))], []⟩ ∧ B w') ⟨#[u0, u1, u2, (.pointer (some ⟨bd, 0, none⟩)), (.pointer (some ⟨bp, 0, none⟩)), (.pointer (some ⟨bq, 0, none⟩)), u6, u7, u8, u9, u10, u11, u12, u13], []⟩ w := by
  subst hops
  have hNS : Region.noSelect (Rg.opsOf Tryz.f119 1) = true := by kernel_rfl
  refine wp_region_held_drew (S := (fun W => Cap W bd dv ∧ Cap W bp (.string p) ∧ Cap W bq (.string q))) (by kernel_rfl) hS (fun hHeld => ?_)
  rw [show (Rg.opsOf Tryz.f119 1).size = 8 by kernel_rfl]
  refine Rg.takek 0 (some 7) (dv) hNS hHeld (Rg.y_loadk (T := 23) (x := .tmp 3) (vx := (.pointer (some ⟨bd, 0, none⟩))) ?_) ?_
  · (intro w hSw; obtain ⟨s0, s1, s2⟩ := hSw; unfold Cap at *; go_simp)
  refine Rg.takek 1 (some 8) (dv) hNS hHeld (Rg.y_loadk (T := 23) (x := .tmp 3) (vx := (.pointer (some ⟨bd, 0, none⟩))) ?_) ?_
  · (intro w hSw; obtain ⟨s0, s1, s2⟩ := hSw; unfold Cap at *; go_simp)
  refine Rg.takek 2 (some 9) (.string p) hNS hHeld (Rg.y_loadk (T := 9) (x := .tmp 4) (vx := (.pointer (some ⟨bp, 0, none⟩))) ?_) ?_
  · (intro w hSw; obtain ⟨s0, s1, s2⟩ := hSw; unfold Cap at *; go_simp)
  refine Rg.takek 3 (some 10) (.string q) hNS hHeld (Rg.y_loadk (T := 9) (x := .tmp 5) (vx := (.pointer (some ⟨bq, 0, none⟩))) ?_) ?_
  · (intro w hSw; obtain ⟨s0, s1, s2⟩ := hSw; unfold Cap at *; go_simp)
  refine Rg.takek 5 (some 12) (.func (Fn.func 150) #[] #[(.pointer (some ⟨bd, 0, none⟩)), (.pointer (some ⟨bp, 0, none⟩)), (.pointer (some ⟨bq, 0, none⟩))]) hNS hHeld (Rg.y_funck (f := Fn.func 150) (xs := #[]) (ys := #[.tmp 3, .tmp 4, .tmp 5]) (vs := #[]) (us := #[(.pointer (some ⟨bd, 0, none⟩)), (.pointer (some ⟨bp, 0, none⟩)), (.pointer (some ⟨bq, 0, none⟩))])) ?_
  refine Rg.callk (fn := Tryz.f149) (xs := #[.tmp 8, .tmp 9, .tmp 10]) (ats := #[23, 9, 9]) 4 (some 11) 149 #[dv, (.string p), (.string q)] Tryz.func149 ?_
  refine hm.mono ?_
  rintro e w5 ⟨rfl, hA5⟩
  refine ⟨_, rfl, hAS _ hA5, fun hHeld => ?_⟩
  refine Rg.callk (fn := Tryz.f59) (xs := #[.tmp 7, .tmp 11, .tmp 12]) (ats := #[23, 26, 1]) 6 (some 13) 59 #[dv, (.int .i64 (r : Nat)), .func (Fn.func 150) #[] #[(.pointer (some ⟨bd, 0, none⟩)), (.pointer (some ⟨bp, 0, none⟩)), (.pointer (some ⟨bq, 0, none⟩))]] Tryz.func59 ?_
  refine (hst _ hA5).mono ?_
  rintro e w6 ⟨rfl, hB6⟩
  refine ⟨_, rfl, hBS _ hB6, fun hHeld => ?_⟩
  refine Rg.takek 7 (some 6) (.int .i64 (X : Nat)) hNS hHeld (Rg.y_movekR (x := .tmp 13)) ?_
  refine Rg.donek ?_
  exact ⟨by kernel_rfl, hB6⟩
end Go.Proofs.YtdkgkomjbpggeaaGreatDoor.Dk

namespace Go.Proofs.YtdkgkomjbpggeaaGreatDoor.Dk
open Go.RowKit Tx Pm Pl Pr
set_option linter.unusedVariables false
set_option maxRecDepth 100000 in
set_option maxHeartbeats 2000000 in
theorem regMayWrite (ops : Array Oper) (hops : ops = (Rg.opsOf Tryz.f147 8)) (id : Nat) (b bi bl : Nat) (l : Int) (s : St) (p d V X0 X1 : ByteArray) (K X2 X3 : Int) (B : Bool) {u3 u4 u5 u6 u7 u8 u9 u10 u11 u12 u13 u14 u15 u16 u17 u18 u19 u20 u21 u22 u23 u24 u25 u26 u27 u28 u29 u30 u31 u32 u33 u34 u35 u36 u37 u38 u39 u40 u41 u42 u43 u44 : Value} (w : World) (h : Ia b bi bl l w s)
    (hlk : ∀ W, Ia b bi bl l W s → (Instr.lookup 59 (.map (some bi)) (.string p) false).run Tryz.prog W = .ok (.agg #[.int .i64 K, .string X0, .string X1, .int .i64 X2, .int .i64 X3]) W)
    (hsub : IntKind.i64.wrap ((d.size : Int) - (X0.size : Int)) = (d.size : Int) - (X0.size : Int))
    (cv : ∀ W, Calls Tryz.prog 146 #[.string p] W fun e w' => e = .returned (.string V) ∧ ∃ n, w' = W.drewN n)
    (cf : ∀ W, Ia b bi bl l W s → Calls Tryz.prog 145 #[.pointer (some ⟨b, 0, none⟩), .string V, .int .i64 ((d.size : Int) - (X0.size : Int))] W fun e w' => e = .returned (.bool B) ∧ Below W.heap.size W w') :
    (Code.region id ops true).wp Tryz.prog (Rg.Only fun a' w' => a' = ⟨#[(.pointer (some ⟨b, 0, none⟩)), (.string p), (.string d), u3, u4, u5, u6, u7, u8, u9, u10, u11, u12, u13, u14, u15, u16, u17, u18, u19, u20, u21, u22, u23, u24, u25, u26, u27, u28, (.bool B), (.pointer (some ⟨b, 0, none⟩)), (.string p), (.string V), (.string d), (.int .i64 (d.size : Int)), (.pointer (some ⟨b, 0, none⟩)), (.pointer (some ⟨b, 0, none⟩)), (.pointer (some ⟨b, 0, none⟩)), (.map (some bi)), (.string p), (.agg #[.int .i64 K, .string X0, .string X1, .int .i64 X2, .int .i64 X3]), (.string X0), (.int .i64 (X0.size : Int)), (.int .i64 ((d.size : Int) - (X0.size : Int))), (.bool B)], []⟩ ∧ Below w.heap.size w w') ⟨#[(.pointer (some ⟨b, 0, none⟩)), (.string p), (.string d), u3, u4, u5, u6, u7, u8, u9, u10, u11, u12, u13, u14, u15, u16, u17, u18, u19, u20, u21, u22, u23, u24, u25, u26, u27, u28, u29, u30, u31, u32, u33, u34, u35, u36, u37, u38, u39, u40, u41, u42, u43, u44], []⟩ w := by
  subst hops
  have hNS : Region.noSelect (Rg.opsOf Tryz.f147 8) = true := by kernel_rfl
  have h0 : Ia b bi bl l w.drew s ∧ Below w.heap.size w w.drew := ⟨h.below (Below.refl _ _).drew, (Below.refl _ _).drew⟩
  refine wp_region_held_drew (S := fun W => Ia b bi bl l W s ∧ Below w.heap.size w W) (by kernel_rfl) h0 (fun hHeld => ?_)
  rw [show (Rg.opsOf Tryz.f147 8).size = 16 by kernel_rfl]
  refine Rg.takek 0 (some 30) (.pointer (some ⟨b, 0, none⟩)) hNS hHeld (Rg.y_movekL (x := .tmp 0)) ?_
  refine Rg.takek 1 (some 31) (.string p) hNS hHeld (Rg.y_movekL (x := .tmp 1)) ?_
  refine Rg.takek 3 (some 33) (.string d) hNS hHeld (Rg.y_movekL (x := .tmp 2)) ?_
  refine Rg.takek 4 (some 34) (.int .i64 (d.size : Int)) hNS hHeld (Rg.y_lenk (x := .tmp 33) (ats := #[9]) (vx := (.string d)) (n := d.size) ?_) ?_
  · (intro ty w hSw; go_simp)
  refine Rg.takek 5 (some 35) (.pointer (some ⟨b, 0, none⟩)) hNS hHeld (Rg.y_movekL (x := .tmp 0)) ?_
  refine Rg.takek 6 (some 36) (.pointer (some ⟨b, 0, none⟩)) hNS hHeld (Rg.y_nilk (x := .tmp 35)) ?_
  refine Rg.takek 7 (some 37) (.pointer (some ⟨b, 0, none⟩)) hNS hHeld (Rg.y_fieldk (T := 62) (k := 0) (x := .tmp 36) (vx := (.pointer (some ⟨b, 0, none⟩))) ?_) ?_
  · (intro w hSw; clear hSw; go_simp)
  refine Rg.takek 8 (some 38) (.map (some bi)) hNS hHeld (Rg.y_loadk (T := 59) (x := .tmp 37) (vx := (.pointer (some ⟨b, 0, none⟩))) ?_) ?_
  · (intro w hSw; have c0 := hSw.1.cell.1; clear hSw; go_simp)
  refine Rg.takek 9 (some 39) (.string p) hNS hHeld (Rg.y_movekL (x := .tmp 1)) ?_
  refine Rg.takek 10 (some 40) (.agg #[.int .i64 K, .string X0, .string X1, .int .i64 X2, .int .i64 X3]) hNS hHeld (Rg.y_lookk (T := 59) (x := .tmp 38) (y := .tmp 39) (c := false) (vx := (.map (some bi))) (vy := (.string p)) ?_) ?_
  · (intro w hSw; exact hlk _ hSw.1)
  refine Rg.takek 11 (some 41) (.string X0) hNS hHeld (Rg.y_fldk (T := 112) (k := 1) (x := .tmp 40) (vx := (.agg #[.int .i64 K, .string X0, .string X1, .int .i64 X2, .int .i64 X3])) ?_) ?_
  · (intro w hSw; exact fld1 _ _ _ _ _ w)
  refine Rg.takek 12 (some 42) (.int .i64 (X0.size : Int)) hNS hHeld (Rg.y_lenk (x := .tmp 41) (ats := #[9]) (vx := (.string X0)) (n := X0.size) ?_) ?_
  · (intro ty w hSw; go_simp)
  refine Rg.takek 13 (some 43) ((.int .i64 ((d.size : Int) - (X0.size : Int)))) hNS hHeld (Rg.y_bink (b := BinOp.sub) (T := 3) (R' := 3) (x := .tmp 34) (y := .tmp 42) (vx := (.int .i64 (d.size : Int))) (vy := (.int .i64 (X0.size : Int))) ?_) ?_
  · (intro w hSw; clear hSw; go_simp <;> exact hsub)
  refine Rg.callk (fn := Tryz.f146) (xs := #[.tmp 31]) (ats := #[9]) 2 (some 32) 146 #[(.string p)] Tryz.func146 ?_
  refine (cv _).mono ?_
  rintro e w5 ⟨rfl, n5, rfl⟩
  refine ⟨_, rfl, ⟨hHeld.1.below (below_drewN _ _), below_call hHeld.2 (below_drewN _ _)⟩, fun hHeld => ?_⟩
  refine Rg.callk (fn := Tryz.f145) (xs := #[.tmp 30, .tmp 32, .tmp 43]) (ats := #[23, 9, 3]) 14 (some 44) 145 #[(.pointer (some ⟨b, 0, none⟩)), (.string V), (.int .i64 ((d.size : Int) - (X0.size : Int)))] Tryz.func145 ?_
  refine (cf _ hHeld.1).mono ?_
  rintro e w6 ⟨rfl, hb6⟩
  refine ⟨_, rfl, ⟨hHeld.1.below hb6, below_call hHeld.2 hb6⟩, fun hHeld => ?_⟩
  refine Rg.takek 15 (some 29) (.bool B) hNS hHeld (Rg.y_movekR (x := .tmp 44)) ?_
  refine Rg.donek ?_
  exact ⟨by kernel_rfl, hHeld.2⟩
set_option maxRecDepth 100000 in
set_option maxHeartbeats 2000000 in
theorem regMayRename1 (ops : Array Oper) (hops : ops = (Rg.opsOf Tryz.f149 12)) (id : Nat) (b bi bl gf gg : Nat) (l : Int) (s : St) (t X Y V : ByteArray) (B : Bool) {u1 u3 u4 u5 u6 u7 u11 u12 u13 u14 u15 u16 u17 u18 u19 u20 u21 u22 u23 u24 u25 u26 u27 u28 u29 u30 u31 u32 u33 u34 u35 u36 u37 u38 u39 u40 u41 u42 u43 u44 u45 u46 u47 u48 u49 u50 u51 u52 u53 u54 u55 u56 u57 u58 u59 u60 u61 u62 u63 u64 u65 : Value} (w : World) (h : Ia b bi bl l w s)
    (hX : w.cell? ⟨gf, 1, none⟩ = some (.string X)) (hY : w.cell? ⟨gg, 1, none⟩ = some (.string Y))
    (hsub : IntKind.i64.wrap ((X.size : Int) - (Y.size : Int)) = (X.size : Int) - (Y.size : Int))
    (cv : ∀ W, Calls Tryz.prog 146 #[.string t] W fun e w' => e = .returned (.string V) ∧ ∃ n, w' = W.drewN n)
    (cf : ∀ W, Ia b bi bl l W s → Calls Tryz.prog 145 #[.pointer (some ⟨b, 0, none⟩), .string V, .int .i64 ((X.size : Int) - (Y.size : Int))] W fun e w' => e = .returned (.bool B) ∧ Below W.heap.size W w') :
    (Code.region id ops true).wp Tryz.prog (Rg.Only fun a' w' => a' = ⟨#[(.pointer (some ⟨b, 0, none⟩)), u1, (.string t), u3, u4, u5, u6, u7, (.pointer (some ⟨gf, 0, none⟩)), (.pointer (some ⟨gg, 0, none⟩)), (.bool true), u11, u12, u13, u14, u15, u16, u17, u18, u19, u20, u21, u22, u23, u24, u25, u26, u27, u28, u29, u30, u31, u32, u33, u34, u35, u36, u37, u38, u39, u40, u41, u42, u43, u44, u45, u46, u47, u48, u49, u50, (.bool B), (.bool true), (.bool true), (.pointer (some ⟨b, 0, none⟩)), (.string t), (.string V), (.pointer (some ⟨gf, 1, none⟩)), (.string X), (.int .i64 (X.size : Int)), (.pointer (some ⟨gg, 1, none⟩)), (.string Y), (.int .i64 (Y.size : Int)), (.int .i64 ((X.size : Int) - (Y.size : Int))), (.bool B), (.bool B)], []⟩ ∧ Below w.heap.size w w') ⟨#[(.pointer (some ⟨b, 0, none⟩)), u1, (.string t), u3, u4, u5, u6, u7, (.pointer (some ⟨gf, 0, none⟩)), (.pointer (some ⟨gg, 0, none⟩)), (.bool true), u11, u12, u13, u14, u15, u16, u17, u18, u19, u20, u21, u22, u23, u24, u25, u26, u27, u28, u29, u30, u31, u32, u33, u34, u35, u36, u37, u38, u39, u40, u41, u42, u43, u44, u45, u46, u47, u48, u49, u50, u51, u52, u53, u54, u55, u56, u57, u58, u59, u60, u61, u62, u63, u64, u65], []⟩ w := by
  subst hops
  have hNS : Region.noSelect (Rg.opsOf Tryz.f149 12) = true := by kernel_rfl
  have h0 : Ia b bi bl l w.drew s ∧ Below w.heap.size w w.drew ∧ w.drew.cell? ⟨gf, 1, none⟩ = some (.string X) ∧ w.drew.cell? ⟨gg, 1, none⟩ = some (.string Y) := ⟨h.below (Below.refl _ _).drew, (Below.refl _ _).drew, hX, hY⟩
  refine wp_region_held_drew (S := fun W => Ia b bi bl l W s ∧ Below w.heap.size w W ∧ W.cell? ⟨gf, 1, none⟩ = some (.string X) ∧ W.cell? ⟨gg, 1, none⟩ = some (.string Y)) (by kernel_rfl) h0 (fun hHeld => ?_)
  rw [show (Rg.opsOf Tryz.f149 12).size = 15 by kernel_rfl]
  refine Rg.takek 0 (some 52) (.bool true) hNS hHeld (Rg.y_movekL (x := .tmp 10)) ?_
  refine Rg.takek 1 (some 53) (.bool true) hNS hHeld (Rg.y_movekL (x := .tmp 52)) ?_
  refine Rg.takek 2 (some 54) (.pointer (some ⟨b, 0, none⟩)) hNS hHeld (Rg.y_movekL (x := .tmp 0)) ?_
  refine Rg.takek 3 (some 55) (.string t) hNS hHeld (Rg.y_movekL (x := .tmp 2)) ?_
  refine Rg.takek 5 (some 57) (.pointer (some ⟨gf, 1, none⟩)) hNS hHeld (Rg.y_fieldk (T := 112) (k := 1) (x := .tmp 8) (vx := (.pointer (some ⟨gf, 0, none⟩))) ?_) ?_
  · (intro w hSw; clear hSw; go_simp)
  refine Rg.takek 6 (some 58) (.string X) hNS hHeld (Rg.y_loadk (T := 9) (x := .tmp 57) (vx := (.pointer (some ⟨gf, 1, none⟩))) ?_) ?_
  · (intro w hSw; obtain ⟨_, _, cx, cy⟩ := hSw; go_simp)
  refine Rg.takek 7 (some 59) (.int .i64 (X.size : Int)) hNS hHeld (Rg.y_lenk (x := .tmp 58) (ats := #[9]) (vx := (.string X)) (n := X.size) ?_) ?_
  · (intro ty w hSw; go_simp)
  refine Rg.takek 8 (some 60) (.pointer (some ⟨gg, 1, none⟩)) hNS hHeld (Rg.y_fieldk (T := 112) (k := 1) (x := .tmp 9) (vx := (.pointer (some ⟨gg, 0, none⟩))) ?_) ?_
  · (intro w hSw; clear hSw; go_simp)
  refine Rg.takek 9 (some 61) (.string Y) hNS hHeld (Rg.y_loadk (T := 9) (x := .tmp 60) (vx := (.pointer (some ⟨gg, 1, none⟩))) ?_) ?_
  · (intro w hSw; obtain ⟨_, _, cx, cy⟩ := hSw; go_simp)
  refine Rg.takek 10 (some 62) (.int .i64 (Y.size : Int)) hNS hHeld (Rg.y_lenk (x := .tmp 61) (ats := #[9]) (vx := (.string Y)) (n := Y.size) ?_) ?_
  · (intro ty w hSw; go_simp)
  refine Rg.takek 11 (some 63) ((.int .i64 ((X.size : Int) - (Y.size : Int)))) hNS hHeld (Rg.y_bink (b := BinOp.sub) (T := 3) (R' := 3) (x := .tmp 59) (y := .tmp 62) (vx := (.int .i64 (X.size : Int))) (vy := (.int .i64 (Y.size : Int))) ?_) ?_
  · (intro w hSw; clear hSw; go_simp <;> exact hsub)
  refine Rg.callk (fn := Tryz.f146) (xs := #[.tmp 55]) (ats := #[9]) 4 (some 56) 146 #[(.string t)] Tryz.func146 ?_
  refine (cv _).mono ?_
  rintro e w5 ⟨rfl, n5, rfl⟩
  refine ⟨_, rfl, ⟨hHeld.1.below (below_drewN _ _), below_call hHeld.2.1 (below_drewN _ _), hHeld.2.2.1, hHeld.2.2.2⟩, fun hHeld => ?_⟩
  refine Rg.callk (fn := Tryz.f145) (xs := #[.tmp 54, .tmp 56, .tmp 63]) (ats := #[23, 9, 3]) 12 (some 64) 145 #[(.pointer (some ⟨b, 0, none⟩)), (.string V), (.int .i64 ((X.size : Int) - (Y.size : Int)))] Tryz.func145 ?_
  refine (cf _ hHeld.1).mono ?_
  rintro e w6 ⟨rfl, hb6⟩
  refine ⟨_, rfl, ⟨hHeld.1.below hb6, below_call hHeld.2.1 hb6, (hb6.cell (p := ⟨gf, 1, none⟩) (World.block_lt_of_cell? _ _ hHeld.2.2.1)).trans hHeld.2.2.1, (hb6.cell (p := ⟨gg, 1, none⟩) (World.block_lt_of_cell? _ _ hHeld.2.2.2)).trans hHeld.2.2.2⟩, fun hHeld => ?_⟩
  refine Rg.takek 13 (some 65) (.bool B) hNS hHeld (Rg.y_pickk (c := .tmp 53) (x := .tmp 64) (y := (.const (Value.bool false))) (b := true)) ?_
  refine Rg.takek 14 (some 51) (.bool B) hNS hHeld (Rg.y_movekR (x := .tmp 65)) ?_
  refine Rg.donek ?_
  exact ⟨by kernel_rfl, hHeld.2.1⟩
set_option maxRecDepth 100000 in
set_option maxHeartbeats 2000000 in
theorem regMayRename0 (ops : Array Oper) (hops : ops = (Rg.opsOf Tryz.f149 12)) (id : Nat) (b bi bl gf gg : Nat) (l : Int) (s : St) (t X Y V : ByteArray) (B : Bool) {u1 u3 u4 u5 u6 u7 u11 u12 u13 u14 u15 u16 u17 u18 u19 u20 u21 u22 u23 u24 u25 u26 u27 u28 u29 u30 u31 u32 u33 u34 u35 u36 u37 u38 u39 u40 u41 u42 u43 u44 u45 u46 u47 u48 u49 u50 u51 u52 u53 u54 u55 u56 u57 u58 u59 u60 u61 u62 u63 u64 u65 : Value} (w : World) (h : Ia b bi bl l w s)
    (hX : w.cell? ⟨gf, 1, none⟩ = some (.string X)) (hY : w.cell? ⟨gg, 1, none⟩ = some (.string Y)) :
    (Code.region id ops true).wp Tryz.prog (Rg.Only fun a' w' => a' = ⟨#[(.pointer (some ⟨b, 0, none⟩)), u1, (.string t), u3, u4, u5, u6, u7, (.pointer (some ⟨gf, 0, none⟩)), (.pointer (some ⟨gg, 0, none⟩)), (.bool false), u11, u12, u13, u14, u15, u16, u17, u18, u19, u20, u21, u22, u23, u24, u25, u26, u27, u28, u29, u30, u31, u32, u33, u34, u35, u36, u37, u38, u39, u40, u41, u42, u43, u44, u45, u46, u47, u48, u49, u50, (Value.bool false), (.bool false), (.bool false), undef, undef, undef, undef, undef, undef, undef, undef, undef, undef, undef, (Value.bool false)], []⟩ ∧ Below w.heap.size w w') ⟨#[(.pointer (some ⟨b, 0, none⟩)), u1, (.string t), u3, u4, u5, u6, u7, (.pointer (some ⟨gf, 0, none⟩)), (.pointer (some ⟨gg, 0, none⟩)), (.bool false), u11, u12, u13, u14, u15, u16, u17, u18, u19, u20, u21, u22, u23, u24, u25, u26, u27, u28, u29, u30, u31, u32, u33, u34, u35, u36, u37, u38, u39, u40, u41, u42, u43, u44, u45, u46, u47, u48, u49, u50, u51, u52, u53, u54, u55, u56, u57, u58, u59, u60, u61, u62, u63, u64, u65], []⟩ w := by
  subst hops
  have hNS : Region.noSelect (Rg.opsOf Tryz.f149 12) = true := by kernel_rfl
  have h0 : Ia b bi bl l w.drew s ∧ Below w.heap.size w w.drew ∧ w.drew.cell? ⟨gf, 1, none⟩ = some (.string X) ∧ w.drew.cell? ⟨gg, 1, none⟩ = some (.string Y) := ⟨h.below (Below.refl _ _).drew, (Below.refl _ _).drew, hX, hY⟩
  refine wp_region_held_drew (S := fun W => Ia b bi bl l W s ∧ Below w.heap.size w W ∧ W.cell? ⟨gf, 1, none⟩ = some (.string X) ∧ W.cell? ⟨gg, 1, none⟩ = some (.string Y)) (by kernel_rfl) h0 (fun hHeld => ?_)
  rw [show (Rg.opsOf Tryz.f149 12).size = 15 by kernel_rfl]
  refine Rg.takek 0 (some 52) (.bool false) hNS hHeld (Rg.y_movekL (x := .tmp 10)) ?_
  refine Rg.takek 1 (some 53) (.bool false) hNS hHeld (Rg.y_movekL (x := .tmp 52)) ?_
  refine Rg.skipk 2 (some 54) hNS hHeld ?_
  refine Rg.skipk 3 (some 55) hNS hHeld ?_
  refine Rg.skipk 4 (some 56) hNS hHeld ?_
  refine Rg.skipk 5 (some 57) hNS hHeld ?_
  refine Rg.skipk 6 (some 58) hNS hHeld ?_
  refine Rg.skipk 7 (some 59) hNS hHeld ?_
  refine Rg.skipk 8 (some 60) hNS hHeld ?_
  refine Rg.skipk 9 (some 61) hNS hHeld ?_
  refine Rg.skipk 10 (some 62) hNS hHeld ?_
  refine Rg.skipk 11 (some 63) hNS hHeld ?_
  refine Rg.skipk 12 (some 64) hNS hHeld ?_
  refine Rg.takek 13 (some 65) (Value.bool false) hNS hHeld (Rg.y_pickk (c := .tmp 53) (x := .tmp 64) (y := (.const (Value.bool false))) (b := false)) ?_
  refine Rg.takek 14 (some 51) (Value.bool false) hNS hHeld (Rg.y_movekR (x := .tmp 65)) ?_
  refine Rg.donek ?_
  exact ⟨by kernel_rfl, hHeld.2.1⟩
end Go.Proofs.YtdkgkomjbpggeaaGreatDoor.Dk

namespace Go.Proofs.YtdkgkomjbpggeaaGreatDoor.Dk
open Go.RowKit Tx Pm Pl Pr
set_option linter.unusedVariables false
theorem ready1 (b bi bl m : Nat) (M l : Int) (s : St) (p : ByteArray) (w : World) (h : Ia b bi bl l w s) (hm : m ≤ 1000) (hM : M = (m : Int) + 1) (hp : p.size ≤ 8000000000000) :
    Calls Tryz.prog 93 #[.pointer (some ⟨b, 0, none⟩), .int .i64 M, .slice (some ⟨w.heap.size, 0, none⟩) 1 1] (w.alloc (.cells #[.string p] 9)) fun e w' => e = .returned (.int .i64 (first s p m : Nat)) ∧ Below w.heap.size w w' := by
  have hb := (Below.refl _ w).alloc (Nat.le_refl _) (.cells #[.string p] 9)
  refine (iReady_any b bi bl w.heap.size 1 1 m M l s [p] _ (h.below hb) rfl hm hM (fun k q hk => ?_) (by simp) (fun q hq => ?_) (by omega)).mono ?_
  · rw [World.cell?_alloc_at _ _ _ _ rfl]
    match k, hk with
    | 0, hk => cases hk; rfl
  · rw [List.mem_singleton.1 hq]
    exact hp
  · rintro e w' ⟨rfl, h2⟩
    rw [rdy_one]
    exact ⟨rfl, below_call hb h2⟩
theorem ready2 (b bi bl m : Nat) (M l : Int) (s : St) (p q : ByteArray) (w : World) (h : Ia b bi bl l w s) (hm : m ≤ 1000) (hM : M = (m : Int) + 1) (hp : p.size ≤ 8000000000000) (hq : q.size ≤ 8000000000000) :
    Calls Tryz.prog 93 #[.pointer (some ⟨b, 0, none⟩), .int .i64 M, .slice (some ⟨w.heap.size, 0, none⟩) 2 2] (w.alloc (.cells #[.string p, .string q] 9)) fun e w' => e = .returned (.int .i64 ((if first s p m ≠ 0 then first s p m else first s q m : Nat) : Nat)) ∧ Below w.heap.size w w' := by
  have hb := (Below.refl _ w).alloc (Nat.le_refl _) (.cells #[.string p, .string q] 9)
  refine (iReady_any b bi bl w.heap.size 2 2 m M l s [p, q] _ (h.below hb) rfl hm hM (fun k x hk => ?_) (by simp) (fun x hx => ?_) (by omega)).mono ?_
  · rw [World.cell?_alloc_at _ _ _ _ rfl]
    match k, hk with
    | 0, hk => cases hk; rfl
    | 1, hk => cases hk; rfl
  · rcases List.mem_cons.1 hx with rfl | hx
    · exact hp
    · rw [List.mem_singleton.1 hx]
      exact hq
  · rintro e w' ⟨rfl, h2⟩
    rw [rdy_two]
    exact ⟨rfl, below_call hb h2⟩
theorem ne_eq {a : Nat} (h : a ≠ 0) : ((a : Int) == 0) = false := beq_eq_false_iff_ne.2 (by omega)
def mayMkdirS (s : St) (p : ByteArray) : Nat := if first s p 0 ≠ 0 then first s p 0 else if home s.L p = false then 11 else if kind s.L p = 2 then 12 else 0
def mayWriteS (s : St) (p d : ByteArray) : Nat := if first s p 1 ≠ 0 then first s p 1 else if home s.L p = false then 11 else if kind s.L p = 1 then 12 else if full s (vol p) ((d.size : Int) - (old s.L p).data.size) = true then 13 else 0
def mayAppendS (s : St) (p d : ByteArray) : Nat := if there s p ≠ 0 then there s p else if full s (vol p) d.size = true then 13 else 0
set_option maxRecDepth 100000 in
set_option maxHeartbeats 1000000 in
theorem iMayMkdir_any (b bi bl : Nat) (l : Int) (s : St) (p : ByteArray) (w : World) (h : Ia b bi bl l w s) (hp : p.size ≤ 8000000000000) :
    Calls Tryz.prog 60 #[.pointer (some ⟨b, 0, none⟩), .string p] w fun e w' => e = .returned (.int .i64 (mayMkdirS s p : Nat)) ∧ Below w.heap.size w w' := by
  have c1 := ready1 b bi bl 0 1 l s p w h (by omega) rfl hp
  have c2 := fun W (hW : Below w.heap.size w W) => iHome_any b bi bl l s p W (h.below hW) hp
  have HL := Lib.hid (fun W (hW : Below w.heap.size w W) => (h.below hW).look (maxLen_of hp))
  have HC := Lib.hid (fun W (hW : Below w.heap.size w W) => (h.below hW).cell.1)
  have f0 := fld0
  unfold mayMkdirS
  generalize first s p 0 = E at c1 ⊢
  generalize home s.L p = H at c2 ⊢
  generalize kind s.L p = K at HL ⊢
  clear h
  by_cases hE : E = 0
  · subst hE
    rw [if_neg (by decide)]
    cases H with
    | false =>
      rw [if_pos rfl]
      go_enter Tryz.func60, Tryz.ntmps60
      go_wp2_with (first | (go_at_call 93; refine c1.mono ?_; rintro e w1 ⟨rfl, hb1⟩; have l0 := HL.out _ hb1; have g0 := HC.out _ hb1) | (go_at_call 94; refine (c2 _ hb1).mono ?_; rintro e w2 ⟨rfl, hb2⟩; have hb3 := below_call hb1 hb2; have l1 := HL.out _ hb3; have g1 := HC.out _ hb3))
      go_ret
      exact ⟨rfl, hb3⟩
    | true =>
      rw [if_neg (by decide)]
      by_cases hK : K = 2
      · subst hK
        rw [if_pos rfl]
        go_enter Tryz.func60, Tryz.ntmps60
        go_wp2_with (first | (go_at_call 93; refine c1.mono ?_; rintro e w1 ⟨rfl, hb1⟩; have l0 := HL.out _ hb1; have g0 := HC.out _ hb1) | (go_at_call 94; refine (c2 _ hb1).mono ?_; rintro e w2 ⟨rfl, hb2⟩; have hb3 := below_call hb1 hb2; have l1 := HL.out _ hb3; have g1 := HC.out _ hb3))
        go_ret
        exact ⟨rfl, hb3⟩
      · rw [if_neg hK]
        have e1 : ((K : Int) == 2) = false := beq_eq_false_iff_ne.2 (by omega)
        clear hK
        go_enter Tryz.func60, Tryz.ntmps60
        go_wp2_with (first | (go_at_call 93; refine c1.mono ?_; rintro e w1 ⟨rfl, hb1⟩; have l0 := HL.out _ hb1; have g0 := HC.out _ hb1) | (go_at_call 94; refine (c2 _ hb1).mono ?_; rintro e w2 ⟨rfl, hb2⟩; have hb3 := below_call hb1 hb2; have l1 := HL.out _ hb3; have g1 := HC.out _ hb3))
        go_ret
        exact ⟨rfl, hb3⟩
  · rw [if_pos hE]
    have e1 := ne_eq hE
    clear hE
    go_enter Tryz.func60, Tryz.ntmps60
    go_wp2_with (first | (go_at_call 93; refine c1.mono ?_; rintro e w1 ⟨rfl, hb1⟩; have l0 := HL.out _ hb1; have g0 := HC.out _ hb1) | (go_at_call 94; refine (c2 _ hb1).mono ?_; rintro e w2 ⟨rfl, hb2⟩; have hb3 := below_call hb1 hb2; have l1 := HL.out _ hb3; have g1 := HC.out _ hb3))
    go_ret
    exact ⟨rfl, hb1⟩
theorem there_mbf (s : St) (p : ByteArray) : there s p = if first s p 1 ≠ 0 then first s p 1 else mbf s.L p := by
  unfold there mbf
  rfl
set_option maxRecDepth 100000 in
set_option maxHeartbeats 1000000 in
theorem iMaySync_any (b bi bl : Nat) (l : Int) (s : St) (p : ByteArray) (w : World) (h : Ia b bi bl l w s) (hp : p.size ≤ 8000000000000) :
    Calls Tryz.prog 116 #[.pointer (some ⟨b, 0, none⟩), .string p] w fun e w' => e = .returned (.int .i64 (there s p : Nat)) ∧ Below w.heap.size w w' := by
  have c1 := ready1 b bi bl 1 2 l s p w h (by omega) rfl hp
  have c2 := fun W (hW : Below w.heap.size w W) => iMbf_any b bi bl l s p W (h.below hW) hp
  rw [there_mbf]
  generalize first s p 1 = E at c1 ⊢
  generalize mbf s.L p = M at c2 ⊢
  clear h
  by_cases hE : E = 0
  · subst hE
    rw [if_neg (by decide)]
    go_enter Tryz.func116, Tryz.ntmps116
    go_wp2_with (first | (go_at_call 93; refine c1.mono ?_; rintro e w1 ⟨rfl, hb1⟩) | (go_at_call 95; refine (c2 _ hb1).mono ?_; rintro e w2 ⟨rfl, rfl⟩))
    go_ret
    exact ⟨rfl, hb1⟩
  · rw [if_pos hE]
    have e1 := ne_eq hE
    clear hE
    go_enter Tryz.func116, Tryz.ntmps116
    go_wp2_with (go_at_call 93; refine c1.mono ?_; rintro e w1 ⟨rfl, hb1⟩)
    go_ret
    exact ⟨rfl, hb1⟩
theorem old_le {s : St} (hf : Fit s) (p : ByteArray) : (old s.L p).data.size ≤ 4000000000000000000 := by
  rcases old_cases s.L p with e | ⟨hm, _⟩
  · rw [e]; show 0 ≤ _; omega
  · exact Nat.le_trans (le_whole hm) hf.2.2
theorem wrap_sub {a b : Nat} (ha : a ≤ 4000000000000000000) (hb : b ≤ 4000000000000000000) : IntKind.i64.wrap ((a : Int) - (b : Int)) = (a : Int) - (b : Int) := IntWalk.i64_in _ (by omega)
set_option maxRecDepth 100000 in
set_option maxHeartbeats 1000000 in
theorem iMayWrite_any (b bi bl : Nat) (l : Int) (s : St) (p d : ByteArray) (w : World) (h : Ia b bi bl l w s) (hR : Rises s.L) (hf : Fit s) (hp : p.size ≤ 8000000000000) (hd : d.size ≤ 1000000000000000000) :
    Calls Tryz.prog 147 #[.pointer (some ⟨b, 0, none⟩), .string p, .string d] w fun e w' => e = .returned (.int .i64 (mayWriteS s p d : Nat)) ∧ Below w.heap.size w w' := by
  have c1 := ready1 b bi bl 1 2 l s p w h (by omega) rfl hp
  have c2 := fun W (hW : Below w.heap.size w W) => iHome_any b bi bl l s p W (h.below hW) hp
  have ho := old_le hf p
  have hv := vol_le p
  have c3 := fun W (hW : Ia b bi bl l W s) => iFull_any b bi bl l s (vol p) ((d.size : Int) - (old s.L p).data.size) W hW hR hf (by omega) (by omega)
  have c4 := fun W => iVol_any p W hp
  have hsub := wrap_sub (a := d.size) (by omega) ho
  have HL := Lib.hid (fun W (hW : Below w.heap.size w W) => (h.below hW).look (maxLen_of hp))
  have hlk := fun W (hW : Ia b bi bl l W s) => hW.look (maxLen_of hp)
  have HC := Lib.hid (fun W (hW : Below w.heap.size w W) => (h.below hW).cell.1)
  have HI := Lib.hid (fun W (hW : Below w.heap.size w W) => h.below hW)
  have f0 := fld0
  unfold mayWriteS
  generalize full s (vol p) ((d.size : Int) - (old s.L p).data.size) = B at c3 ⊢
  generalize first s p 1 = E at c1 ⊢
  generalize home s.L p = H at c2 ⊢
  generalize kind s.L p = K at HL hlk ⊢
  generalize (old s.L p).data = X0 at HL hlk c3 hsub
  generalize (old s.L p).kept = X1 at HL hlk
  generalize stOf (old s.L p) = X2 at HL hlk
  generalize ((old s.L p).stamp : Int) = X3 at HL hlk
  generalize vol p = V at c3 c4
  have HLK := Lib.hid hlk
  have HS := Lib.hid hsub
  clear h hlk hsub ho hv hf hR
  by_cases hE : E = 0
  · subst hE
    rw [if_neg (by decide)]
    cases H with
    | false =>
      rw [if_pos rfl]
      go_enter Tryz.func147, Tryz.ntmps147
      go_wp2_with (first | (go_at_call 93; refine c1.mono ?_; rintro e w1 ⟨rfl, hb1⟩; have l0 := HL.out _ hb1; have g0 := HC.out _ hb1) | (go_at_call 94; refine (c2 _ hb1).mono ?_; rintro e w2 ⟨rfl, hb2⟩; have hb3 := below_call hb1 hb2; have l1 := HL.out _ hb3; have g1 := HC.out _ hb3))
      go_ret
      exact ⟨rfl, hb3⟩
    | true =>
      rw [if_neg (by decide)]
      by_cases hK : K = 1
      · subst hK
        rw [if_pos rfl]
        go_enter Tryz.func147, Tryz.ntmps147
        go_wp2_with (first | (go_at_call 93; refine c1.mono ?_; rintro e w1 ⟨rfl, hb1⟩; have l0 := HL.out _ hb1; have g0 := HC.out _ hb1) | (go_at_call 94; refine (c2 _ hb1).mono ?_; rintro e w2 ⟨rfl, hb2⟩; have hb3 := below_call hb1 hb2; have l1 := HL.out _ hb3; have g1 := HC.out _ hb3))
        go_ret
        exact ⟨rfl, hb3⟩
      · rw [if_neg hK]
        have e1 : ((K : Int) == 1) = false := beq_eq_false_iff_ne.2 (by omega)
        clear hK
        cases B with
        | true =>
          rw [if_pos rfl]
          go_enter Tryz.func147, Tryz.ntmps147
          go_wp2_with (first | (go_at_call 93; refine c1.mono ?_; rintro e w1 ⟨rfl, hb1⟩; have l0 := HL.out _ hb1; have g0 := HC.out _ hb1) | (go_at_call 94; refine (c2 _ hb1).mono ?_; rintro e w2 ⟨rfl, hb2⟩; have hb3 := below_call hb1 hb2; have l1 := HL.out _ hb3; have g1 := HC.out _ hb3))
          refine Rg.wp_only ?_ (regMayWrite _ (by kernel_rfl) _ b bi bl l s p d V X0 X1 K X2 X3 true _ (HI.out _ hb3) HLK.out HS.out c4 c3)
          rintro _ w9 ⟨rfl, hb9⟩
          have hb4 := below_call hb3 hb9
          go_wp2_with fail
          go_ret
          exact ⟨rfl, hb4⟩
        | false =>
          rw [if_neg (by decide)]
          go_enter Tryz.func147, Tryz.ntmps147
          go_wp2_with (first | (go_at_call 93; refine c1.mono ?_; rintro e w1 ⟨rfl, hb1⟩; have l0 := HL.out _ hb1; have g0 := HC.out _ hb1) | (go_at_call 94; refine (c2 _ hb1).mono ?_; rintro e w2 ⟨rfl, hb2⟩; have hb3 := below_call hb1 hb2; have l1 := HL.out _ hb3; have g1 := HC.out _ hb3))
          refine Rg.wp_only ?_ (regMayWrite _ (by kernel_rfl) _ b bi bl l s p d V X0 X1 K X2 X3 false _ (HI.out _ hb3) HLK.out HS.out c4 c3)
          rintro _ w9 ⟨rfl, hb9⟩
          have hb4 := below_call hb3 hb9
          go_wp2_with fail
          go_ret
          exact ⟨rfl, hb4⟩
  · rw [if_pos hE]
    have e1 := ne_eq hE
    clear hE
    go_enter Tryz.func147, Tryz.ntmps147
    go_wp2_with (first | (go_at_call 93; refine c1.mono ?_; rintro e w1 ⟨rfl, hb1⟩; have l0 := HL.out _ hb1; have g0 := HC.out _ hb1) | (go_at_call 94; refine (c2 _ hb1).mono ?_; rintro e w2 ⟨rfl, hb2⟩; have hb3 := below_call hb1 hb2; have l1 := HL.out _ hb3; have g1 := HC.out _ hb3))
    go_ret
    exact ⟨rfl, hb1⟩
set_option maxRecDepth 100000 in
set_option maxHeartbeats 1000000 in
theorem iMayAppend_any (b bi bl : Nat) (l : Int) (s : St) (p d : ByteArray) (w : World) (h : Ia b bi bl l w s) (hR : Rises s.L) (hf : Fit s) (hp : p.size ≤ 8000000000000) (hd : d.size ≤ 1000000000000000000) :
    Calls Tryz.prog 113 #[.pointer (some ⟨b, 0, none⟩), .string p, .string d] w fun e w' => e = .returned (.int .i64 (mayAppendS s p d : Nat)) ∧ Below w.heap.size w w' := by
  have c1 := iMaySync_any b bi bl l s p w h hp
  have hv := vol_le p
  have c3 := fun W (hW : Below w.heap.size w W) => iFull_any b bi bl l s (vol p) (d.size : Int) W (h.below hW) hR hf (by omega) (by omega)
  have c4 := fun W => iVol_any p W hp
  unfold mayAppendS
  generalize full s (vol p) (d.size : Int) = B at c3 ⊢
  generalize there s p = E at c1 ⊢
  generalize vol p = V at c3 c4
  clear h hv hf hR
  by_cases hE : E = 0
  · subst hE
    rw [if_neg (by decide)]
    cases B with
    | true =>
      rw [if_pos rfl]
      go_enter Tryz.func113, Tryz.ntmps113
      go_wp2_with (first | (go_at_call 116; refine c1.mono ?_; rintro e w1 ⟨rfl, hb1⟩) | (go_at_call 146; refine (c4 _).mono ?_; rintro e w2 ⟨rfl, n2, rfl⟩; have hb2 := below_call hb1 (below_drewN _ n2)) | (go_at_call 145; refine (c3 _ hb2).mono ?_; rintro e w3 ⟨rfl, hb3⟩))
      go_ret
      exact ⟨rfl, below_call hb2 hb3⟩
    | false =>
      rw [if_neg (by decide)]
      go_enter Tryz.func113, Tryz.ntmps113
      go_wp2_with (first | (go_at_call 116; refine c1.mono ?_; rintro e w1 ⟨rfl, hb1⟩) | (go_at_call 146; refine (c4 _).mono ?_; rintro e w2 ⟨rfl, n2, rfl⟩; have hb2 := below_call hb1 (below_drewN _ n2)) | (go_at_call 145; refine (c3 _ hb2).mono ?_; rintro e w3 ⟨rfl, hb3⟩))
      go_ret
      exact ⟨rfl, below_call hb2 hb3⟩
  · rw [if_pos hE]
    have e1 := ne_eq hE
    clear hE
    go_enter Tryz.func113, Tryz.ntmps113
    go_wp2_with (first | (go_at_call 116; refine c1.mono ?_; rintro e w1 ⟨rfl, hb1⟩) | (go_at_call 146; refine (c4 _).mono ?_; rintro e w2 ⟨rfl, n2, rfl⟩; have hb2 := below_call hb1 (below_drewN _ n2)) | (go_at_call 145; refine (c3 _ hb2).mono ?_; rintro e w3 ⟨rfl, hb3⟩))
    go_ret
    exact ⟨rfl, hb1⟩
end Go.Proofs.YtdkgkomjbpggeaaGreatDoor.Dk

namespace Go.Proofs.YtdkgkomjbpggeaaGreatDoor.Dk
open Go.RowKit Tx Pm Pl Pr
set_option linter.unusedVariables false
structure Box5 (w : World) (g : Nat) (K : Int) (X0 X1 : ByteArray) (X2 X3 : Int) : Prop where
  lt : g < w.heap.size
  c0 : w.cell? ⟨g, 0, none⟩ = some (.int .i64 K)
  c1 : w.cell? ⟨g, 1, none⟩ = some (.string X0)
  c2 : w.cell? ⟨g, 2, none⟩ = some (.string X1)
  c3 : w.cell? ⟨g, 3, none⟩ = some (.int .i64 X2)
  c4 : w.cell? ⟨g, 4, none⟩ = some (.int .i64 X3)
theorem Box5.below {w w1 : World} {g : Nat} {K : Int} {X0 X1 : ByteArray} {X2 X3 : Int} (h : Box5 w g K X0 X1 X2 X3) (hb : Below w.heap.size w w1) : Box5 w1 g K X0 X1 X2 X3 :=
  ⟨Nat.lt_of_lt_of_le h.lt hb.size, (hb.cell (p := ⟨g, 0, none⟩) h.lt).trans h.c0, (hb.cell (p := ⟨g, 1, none⟩) h.lt).trans h.c1, (hb.cell (p := ⟨g, 2, none⟩) h.lt).trans h.c2, (hb.cell (p := ⟨g, 3, none⟩) h.lt).trans h.c3, (hb.cell (p := ⟨g, 4, none⟩) h.lt).trans h.c4⟩
theorem box5_of {w : World} {g : Nat} {K : Int} {X0 X1 : ByteArray} {X2 X3 : Int} {T : TypeId} {fz : Nat × Nat} (h : w.heap[g]? = some (.cells #[.int .i64 K, .string X0, .string X1, .int .i64 X2, .int .i64 X3] T fz)) : Box5 w g K X0 X1 X2 X3 := by
  refine ⟨(Array.getElem?_eq_some_iff.1 h).1, ?_, ?_, ?_, ?_, ?_⟩ <;> · unfold World.cell?; rw [h]; rfl
theorem two_first (w : World) (o o2 : Obj) : ((w.alloc o).alloc o2).drew.heap[w.heap.size]? = some o := by
  have h := (((Below.refl _ (w.alloc o)).alloc (Nat.le_refl _) o2).drew).block w.heap.size (by simp)
  exact h.trans (new_at w o rfl)
theorem two_second (w : World) (o o2 : Obj) : ((w.alloc o).alloc o2).drew.heap[w.heap.size + 1]? = some o2 := new_at (w.alloc o) o2 (by simp)
def firstR (s : St) (f t : ByteArray) : Nat := if first s f 1 ≠ 0 then first s f 1 else first s t 1
def mayRenS (s : St) (f t : ByteArray) : Nat := if firstR s f t ≠ 0 then firstR s f t else if kind s.L f = 0 then 11 else if home s.L t = false then 11 else if kind s.L f = 1 then 12 else if kind s.L t = 1 then 12 else
  if vol f ≠ vol t ∧ full s (vol t) (((old s.L f).data.size : Int) - (old s.L t).data.size) = true then 13 else 0
set_option maxRecDepth 100000 in
set_option maxHeartbeats 4000000 in
theorem iMayRename_any (b bi bl : Nat) (l : Int) (s : St) (f t : ByteArray) (w : World) (h : Ia b bi bl l w s) (hR : Rises s.L) (hf : Fit s) (hpf : f.size ≤ 8000000000000) (hpt : t.size ≤ 8000000000000) :
    Calls Tryz.prog 149 #[.pointer (some ⟨b, 0, none⟩), .string f, .string t] w fun e w' => e = .returned (.int .i64 (mayRenS s f t : Nat)) ∧ Below w.heap.size w w' := by
  have c1 := ready2 b bi bl 1 2 l s f t w h (by omega) rfl hpf hpt
  have c2 := fun W (hW : Below w.heap.size w W) => iHome_any b bi bl l s t W (h.below hW) hpt
  have ho1 := old_le hf f
  have ho2 := old_le hf t
  have hv := vol_le t
  have c3 := fun W (hW : Ia b bi bl l W s) => iFull_any b bi bl l s (vol t) (((old s.L f).data.size : Int) - (old s.L t).data.size) W hW hR hf (by omega) (by omega)
  have c4 := fun W => iVol_any f W hpf
  have c5 := fun W => iVol_any t W hpt
  have hsub := wrap_sub ho1 ho2
  have hb : b < w.heap.size := h.lt b (.inl rfl)
  have HL := Lib.hid (fun W (hW : Below w.heap.size w W) => (h.below hW).look (maxLen_of hpf))
  have HM := Lib.hid (fun W (hW : Below w.heap.size w W) => (h.below hW).look (maxLen_of hpt))
  have HC := Lib.hid (fun W (hW : Below w.heap.size w W) => (h.below hW).cell.1)
  have HI := Lib.hid (fun W (hW : Below w.heap.size w W) => h.below hW)
  unfold mayRenS
  rw [show (if first s f 1 ≠ 0 then first s f 1 else first s t 1) = firstR s f t from rfl] at c1
  generalize full s (vol t) (((old s.L f).data.size : Int) - (old s.L t).data.size) = B at c3 ⊢
  generalize firstR s f t = E at c1 ⊢
  generalize home s.L t = H at c2 ⊢
  generalize kind s.L f = K at HL ⊢
  generalize kind s.L t = M at HM ⊢
  generalize (old s.L f).data = X0 at HL c3 hsub
  generalize (old s.L f).kept = X1 at HL
  generalize stOf (old s.L f) = X2 at HL
  generalize ((old s.L f).stamp : Int) = X3 at HL
  generalize (old s.L t).data = Y0 at HM c3 hsub
  generalize (old s.L t).kept = Y1 at HM
  generalize stOf (old s.L t) = Y2 at HM
  generalize ((old s.L t).stamp : Int) = Y3 at HM
  generalize vol f = VF at c4 ⊢
  generalize vol t = VT at c3 c5 ⊢
  have HS := Lib.hid hsub
  obtain ⟨RES, hRES⟩ : ∃ RES, RES = if E ≠ 0 then E else if K = 0 then 11 else if H = false then 11 else if K = 1 then 12 else if M = 1 then 12 else if VF ≠ VT ∧ B = true then 13 else 0 := ⟨_, rfl⟩
  rw [← hRES]
  clear h hsub ho1 ho2 hv hf hR
  by_cases hE : E = 0
  · subst hE
    rw [if_neg (by decide)] at hRES
    have HRES := Lib.hid hRES
    clear hRES
    go_enter Tryz.func149, Tryz.ntmps149
    go_upto_region 4 with (go_at_call 93; refine c1.mono ?_; rintro e w1 ⟨rfl, hb1⟩)
    go_cut [8, 9] from 11 (fun v1 v2 wq => ∃ gf gg, v1 = .pointer (some ⟨gf, 0, none⟩) ∧ v2 = .pointer (some ⟨gg, 0, none⟩) ∧ Box5 wq gf K X0 X1 X2 X3 ∧ Box5 wq gg M Y0 Y1 Y2 Y3 ∧ Below w.heap.size w wq)
    case first =>
      have hbw : b < w1.heap.size := Nat.lt_of_lt_of_le hb hb1.size
      have B1 := Lib.hid (Below.refl w1.heap.size w1).drew
      have B2 := fun o => ((Below.refl _ w1).alloc (Nat.le_refl _) o).drew
      have B3 := fun o o2 => (((Below.refl _ w1).alloc (Nat.le_refl _) o).alloc (by simp) o2).drew
      have g0 := HC.out _ hb1
      have k1 := HL.out _ (below_call hb1 B1.out)
      have k2 := fun o => HL.out _ (below_call hb1 (B2 o))
      have k3 := fun o o2 => HL.out _ (below_call hb1 (B3 o o2))
      have m1 := HM.out _ (below_call hb1 B1.out)
      have m2 := fun o => HM.out _ (below_call hb1 (B2 o))
      have m3 := fun o o2 => HM.out _ (below_call hb1 (B3 o o2))
      have HB3 := Lib.hid (fun o o2 => below_call hb1 (B3 o o2))
      clear B2 B3 c1 c2 c3 c4 c5
      go_region
      all_goals (go_wp2_with fail; go_meet)
      · exact ⟨_, _, rfl, rfl, box5_of (two_first _ _ _), box5_of (two_second _ _ _), HB3.out _ _⟩
      · exact ⟨_, _, rfl, rfl, box5_of (two_second _ _ _), box5_of (two_first _ _ _), HB3.out _ _⟩
    case rest =>
      obtain ⟨gf, gg, rfl, rfl, hX, hY, hb2⟩ := hcut
      clear c1 hb1
      have HX := Lib.hid (fun W (hW : Below wc.heap.size wc W) => hX.below hW)
      have HY := Lib.hid (fun W (hW : Below wc.heap.size wc W) => hY.below hW)
      have c0X := hX.c0
      have c0Y := hY.c0
      have hgf := hX.lt
      have hgg := hY.lt
      clear hX hY
      have HSZ := Lib.hid hb2.size
      have hvw : ∀ n, Below wc.heap.size wc (wc.drewN n) := fun n => below_drewN wc n
      have HVW := Lib.hid hvw
      clear hvw
      have HCM := Lib.hid (fun W (hW : Below wc.heap.size wc W) => c2 W (below_call hb2 hW))
      clear c2
      have HVB := Lib.hid (fun n => below_drewN wc n)
      by_cases hV : VF = VT
      · have ev : (VF.toList == VT.toList) = true := by rw [hV]; exact beq_self_eq_true _
        have HV := Lib.hid hV
        clear hV
        clear HVW
        by_cases hK0 : K = 0
        · subst hK0
          have HR2 : Hid (RES = 11) := HRES.out.trans (if_pos rfl)
          clear HRES
          go_wp2_with (first | (go_at_call 146; first | ((with_reducible refine (c4 _).mono ?_); rintro e wv ⟨rfl, n4, rfl⟩) | ((with_reducible refine (c5 _).mono ?_); rintro e wv2 ⟨rfl, n5, rfl⟩)) | (go_at_call 94; refine (HCM.out _ (HVB.out _)).mono ?_; rintro e w3 ⟨rfl, hb3⟩; have hb4 := below_call (HVB.out _) hb3; have x0 := (HX.out _ hb4).c0; have y0 := (HY.out _ hb4).c0))
          go_ret
          exact ⟨ret_int (by rw [HR2.out]; rfl), below_call hb2 (HVB.out _)⟩
        · have HR1 := Lib.hid (HRES.out.trans (if_neg hK0))
          have k0 := ne_eq hK0
          clear hK0 HRES
          cases H with
          | false =>
            have HR2 : Hid (RES = 11) := HR1.out.trans (if_pos rfl)
            go_wp2_with (first | (go_at_call 146; first | ((with_reducible refine (c4 _).mono ?_); rintro e wv ⟨rfl, n4, rfl⟩) | ((with_reducible refine (c5 _).mono ?_); rintro e wv2 ⟨rfl, n5, rfl⟩)) | (go_at_call 94; refine (HCM.out _ (HVB.out _)).mono ?_; rintro e w3 ⟨rfl, hb3⟩; have hb4 := below_call (HVB.out _) hb3; have x0 := (HX.out _ hb4).c0; have y0 := (HY.out _ hb4).c0))
            go_ret
            exact ⟨ret_int (by rw [HR2.out]; rfl), below_call hb2 hb4⟩
          | true =>
            have HR3 := Lib.hid (HR1.out.trans (if_neg (by decide)))
            by_cases hK1 : K = 1
            · subst hK1
              have HR2 : Hid (RES = 12) := HR3.out.trans (if_pos rfl)
              clear HR1 HR3
              go_wp2_with (first | (go_at_call 146; first | ((with_reducible refine (c4 _).mono ?_); rintro e wv ⟨rfl, n4, rfl⟩) | ((with_reducible refine (c5 _).mono ?_); rintro e wv2 ⟨rfl, n5, rfl⟩)) | (go_at_call 94; refine (HCM.out _ (HVB.out _)).mono ?_; rintro e w3 ⟨rfl, hb3⟩; have hb4 := below_call (HVB.out _) hb3; have x0 := (HX.out _ hb4).c0; have y0 := (HY.out _ hb4).c0))
              go_ret
              exact ⟨ret_int (by rw [HR2.out]; rfl), below_call hb2 hb4⟩
            · have HR4 := Lib.hid (HR3.out.trans (if_neg hK1))
              have k1 : ((K : Int) == 1) = false := beq_eq_false_iff_ne.2 (by omega)
              clear hK1 HR1 HR3
              by_cases hM1 : M = 1
              · subst hM1
                have HR2 : Hid (RES = 12) := HR4.out.trans (if_pos rfl)
                clear HR4
                go_wp2_with (first | (go_at_call 146; first | ((with_reducible refine (c4 _).mono ?_); rintro e wv ⟨rfl, n4, rfl⟩) | ((with_reducible refine (c5 _).mono ?_); rintro e wv2 ⟨rfl, n5, rfl⟩)) | (go_at_call 94; refine (HCM.out _ (HVB.out _)).mono ?_; rintro e w3 ⟨rfl, hb3⟩; have hb4 := below_call (HVB.out _) hb3; have x0 := (HX.out _ hb4).c0; have y0 := (HY.out _ hb4).c0))
                go_ret
                exact ⟨ret_int (by rw [HR2.out]; rfl), below_call hb2 hb4⟩
              · have HR5 := Lib.hid (HR4.out.trans (if_neg hM1))
                have m1 : ((M : Int) == 1) = false := beq_eq_false_iff_ne.2 (by omega)
                clear hM1 HR4
                have HR2 : Hid (RES = 0) := HR5.out.trans (if_neg (fun e => e.1 HV.out))
                clear HR5
                go_upto_region 12 with (first | (go_at_call 146; first | ((with_reducible refine (c4 _).mono ?_); rintro e wv ⟨rfl, n4, rfl⟩) | ((with_reducible refine (c5 _).mono ?_); rintro e wv2 ⟨rfl, n5, rfl⟩)) | (go_at_call 94; refine (HCM.out _ (HVB.out _)).mono ?_; rintro e w3 ⟨rfl, hb3⟩; have hb4 := below_call (HVB.out _) hb3; have x0 := (HX.out _ hb4).c0; have y0 := (HY.out _ hb4).c0))
                refine Rg.wp_only ?_ (regMayRename0 _ (by kernel_rfl) _ b bi bl gf gg l s t X0 Y0 VT true _ (HI.out _ (below_call hb2 hb4)) (HX.out _ hb4).c1 (HY.out _ hb4).c1)
                rintro _ w9 ⟨rfl, hb9⟩
                go_wp2_with fail
                go_ret
                exact ⟨ret_int (by rw [HR2.out]; rfl), below_call (below_call hb2 hb4) hb9⟩
      · have ev : (VF.toList == VT.toList) = false := bytes_ne hV
        have HV := Lib.hid hV
        clear hV
        clear HVW
        by_cases hK0 : K = 0
        · subst hK0
          have HR2 : Hid (RES = 11) := HRES.out.trans (if_pos rfl)
          clear HRES
          go_wp2_with (first | (go_at_call 146; first | ((with_reducible refine (c4 _).mono ?_); rintro e wv ⟨rfl, n4, rfl⟩) | ((with_reducible refine (c5 _).mono ?_); rintro e wv2 ⟨rfl, n5, rfl⟩)) | (go_at_call 94; refine (HCM.out _ (HVB.out _)).mono ?_; rintro e w3 ⟨rfl, hb3⟩; have hb4 := below_call (HVB.out _) hb3; have x0 := (HX.out _ hb4).c0; have y0 := (HY.out _ hb4).c0))
          go_ret
          exact ⟨ret_int (by rw [HR2.out]; rfl), below_call hb2 (HVB.out _)⟩
        · have HR1 := Lib.hid (HRES.out.trans (if_neg hK0))
          have k0 := ne_eq hK0
          clear hK0 HRES
          cases H with
          | false =>
            have HR2 : Hid (RES = 11) := HR1.out.trans (if_pos rfl)
            go_wp2_with (first | (go_at_call 146; first | ((with_reducible refine (c4 _).mono ?_); rintro e wv ⟨rfl, n4, rfl⟩) | ((with_reducible refine (c5 _).mono ?_); rintro e wv2 ⟨rfl, n5, rfl⟩)) | (go_at_call 94; refine (HCM.out _ (HVB.out _)).mono ?_; rintro e w3 ⟨rfl, hb3⟩; have hb4 := below_call (HVB.out _) hb3; have x0 := (HX.out _ hb4).c0; have y0 := (HY.out _ hb4).c0))
            go_ret
            exact ⟨ret_int (by rw [HR2.out]; rfl), below_call hb2 hb4⟩
          | true =>
            have HR3 := Lib.hid (HR1.out.trans (if_neg (by decide)))
            by_cases hK1 : K = 1
            · subst hK1
              have HR2 : Hid (RES = 12) := HR3.out.trans (if_pos rfl)
              clear HR1 HR3
              go_wp2_with (first | (go_at_call 146; first | ((with_reducible refine (c4 _).mono ?_); rintro e wv ⟨rfl, n4, rfl⟩) | ((with_reducible refine (c5 _).mono ?_); rintro e wv2 ⟨rfl, n5, rfl⟩)) | (go_at_call 94; refine (HCM.out _ (HVB.out _)).mono ?_; rintro e w3 ⟨rfl, hb3⟩; have hb4 := below_call (HVB.out _) hb3; have x0 := (HX.out _ hb4).c0; have y0 := (HY.out _ hb4).c0))
              go_ret
              exact ⟨ret_int (by rw [HR2.out]; rfl), below_call hb2 hb4⟩
            · have HR4 := Lib.hid (HR3.out.trans (if_neg hK1))
              have k1 : ((K : Int) == 1) = false := beq_eq_false_iff_ne.2 (by omega)
              clear hK1 HR1 HR3
              by_cases hM1 : M = 1
              · subst hM1
                have HR2 : Hid (RES = 12) := HR4.out.trans (if_pos rfl)
                clear HR4
                go_wp2_with (first | (go_at_call 146; first | ((with_reducible refine (c4 _).mono ?_); rintro e wv ⟨rfl, n4, rfl⟩) | ((with_reducible refine (c5 _).mono ?_); rintro e wv2 ⟨rfl, n5, rfl⟩)) | (go_at_call 94; refine (HCM.out _ (HVB.out _)).mono ?_; rintro e w3 ⟨rfl, hb3⟩; have hb4 := below_call (HVB.out _) hb3; have x0 := (HX.out _ hb4).c0; have y0 := (HY.out _ hb4).c0))
                go_ret
                exact ⟨ret_int (by rw [HR2.out]; rfl), below_call hb2 hb4⟩
              · have HR5 := Lib.hid (HR4.out.trans (if_neg hM1))
                have m1 : ((M : Int) == 1) = false := beq_eq_false_iff_ne.2 (by omega)
                clear hM1 HR4
                cases B with
                | true =>
                  have HR2 : Hid (RES = 13) := HR5.out.trans (if_pos ⟨HV.out, rfl⟩)
                  clear HR5
                  go_upto_region 12 with (first | (go_at_call 146; first | ((with_reducible refine (c4 _).mono ?_); rintro e wv ⟨rfl, n4, rfl⟩) | ((with_reducible refine (c5 _).mono ?_); rintro e wv2 ⟨rfl, n5, rfl⟩)) | (go_at_call 94; refine (HCM.out _ (HVB.out _)).mono ?_; rintro e w3 ⟨rfl, hb3⟩; have hb4 := below_call (HVB.out _) hb3; have x0 := (HX.out _ hb4).c0; have y0 := (HY.out _ hb4).c0))
                  refine Rg.wp_only ?_ (regMayRename1 _ (by kernel_rfl) _ b bi bl gf gg l s t X0 Y0 VT true _ (HI.out _ (below_call hb2 hb4)) (HX.out _ hb4).c1 (HY.out _ hb4).c1 HS.out c5 c3)
                  rintro _ w9 ⟨rfl, hb9⟩
                  go_wp2_with fail
                  go_ret
                  exact ⟨ret_int (by rw [HR2.out]; rfl), below_call (below_call hb2 hb4) hb9⟩
                | false =>
                  have HR2 : Hid (RES = 0) := HR5.out.trans (if_neg (fun e => by cases e.2))
                  clear HR5
                  go_upto_region 12 with (first | (go_at_call 146; first | ((with_reducible refine (c4 _).mono ?_); rintro e wv ⟨rfl, n4, rfl⟩) | ((with_reducible refine (c5 _).mono ?_); rintro e wv2 ⟨rfl, n5, rfl⟩)) | (go_at_call 94; refine (HCM.out _ (HVB.out _)).mono ?_; rintro e w3 ⟨rfl, hb3⟩; have hb4 := below_call (HVB.out _) hb3; have x0 := (HX.out _ hb4).c0; have y0 := (HY.out _ hb4).c0))
                  refine Rg.wp_only ?_ (regMayRename1 _ (by kernel_rfl) _ b bi bl gf gg l s t X0 Y0 VT false _ (HI.out _ (below_call hb2 hb4)) (HX.out _ hb4).c1 (HY.out _ hb4).c1 HS.out c5 c3)
                  rintro _ w9 ⟨rfl, hb9⟩
                  go_wp2_with fail
                  go_ret
                  exact ⟨ret_int (by rw [HR2.out]; rfl), below_call (below_call hb2 hb4) hb9⟩
  · rw [if_pos hE] at hRES
    have e1 := ne_eq hE
    have HRES := Lib.hid hRES
    clear hE hRES
    go_enter Tryz.func149, Tryz.ntmps149
    go_wp2_with (go_at_call 93; refine c1.mono ?_; rintro e w1 ⟨rfl, hb1⟩)
    go_ret
    exact ⟨ret_int (by rw [HRES.out]), hb1⟩
end Go.Proofs.YtdkgkomjbpggeaaGreatDoor.Dk

namespace Go.Proofs.YtdkgkomjbpggeaaGreatDoor.Dk
open Go.RowKit Tx Pm Pl Pr
set_option linter.unusedVariables false
theorem Mp.put {w : World} {bi : Nat} {L : List It} (h : Mp w bi L) {x : It} {p : ByteArray} {v : Value} (hx : x.path = p) (hv : iv3 x = v) (hp : p.size ≤ 8000000000000) (hn : L.length ≤ 1000000000) :
    ∃ w', (Instr.mapUpdate 59 (.map (some bi)) (.string p) v).run Tryz.prog w = .ok () w' ∧ Mp w' bi (ins L x) ∧ w.mapTurned w' bi := by
  subst hx
  subst hv
  exact h.store (maxLen_of hp) (by unfold maxLen; omega)
theorem kOf_file {x : It} (h : x.dir = false) : kOf x = 2 := by unfold kOf; rw [h]; rfl
set_option maxRecDepth 100000 in
set_option maxHeartbeats 1000000 in
theorem iWriteC_any (b bi bl bd bp bq : Nat) (l : Int) (s : St) (p d : ByteArray) (w : World) (h : Ia b bi bl l w s) (hd : Cap w bd (.pointer (some ⟨b, 0, none⟩))) (hp : Cap w bp (.string p)) (hq : Cap w bq (.string d)) (hps : p.size ≤ 8000000000000) (hn : s.L.length ≤ 1000000000) (hst : s.stamps ≤ 1000000000000)
    (ho : (old s.L p).dir = false) :
    Calls Tryz.prog 148 #[.pointer (some ⟨bd, 0, none⟩), .pointer (some ⟨bp, 0, none⟩), .pointer (some ⟨bq, 0, none⟩)] w fun e w' => e = .returned (.tuple #[]) ∧ Ip b bi bl w (putS s { old s.L p with data := d, loose := true, anew := true }) w' := by
  obtain ⟨c0, _⟩ := h.cell
  unfold Cap at hd hp hq
  have h0 := h.below (Below.refl _ w).drew
  have hl := h0.look (maxLen_of hps)
  have cs := iSet_any b bi bl l s { old s.L p with data := d, loose := true, anew := true } 0 p w.drew h0 (old_path _ _) hps hn hst
  have e1 : kOf { old s.L p with data := d, loose := true, anew := true } = 2 := kOf_file ho
  rw [e1] at cs
  have cs : Calls Tryz.prog 115 #[.pointer (some ⟨b, 0, none⟩), .string p, .agg #[.int .i64 2, .string d, .string (old s.L p).kept, .int .i64 2, .int .i64 0]] w.drew fun e w' => e = .returned (.tuple #[]) ∧ Ip b bi bl w.drew (putS s { old s.L p with data := d, loose := true, anew := true }) w' := cs
  have hf2 := fld2
  have hend : ∀ w', Ip b bi bl w.drew (putS s { old s.L p with data := d, loose := true, anew := true }) w' → Ip b bi bl w (putS s { old s.L p with data := d, loose := true, anew := true }) w' := fun w' hh => Ip.after (Below.refl _ w).drew hh
  have HE := Lib.hid hend
  generalize (putS s { old s.L p with data := d, loose := true, anew := true }) = s' at cs HE ⊢
  generalize (old s.L p).kept = X1 at cs hl
  generalize stOf (old s.L p) = X2 at hl
  clear h h0 hend e1 ho
  go_enter Tryz.func148, Tryz.ntmps148
  go_wp2
  go_still_tail 11, (by kernel_rfl)
  change wpList _ _ _ _ _ w.drew
  go_wp2_with (go_at_call 115; refine cs.mono ?_; rintro e w5 ⟨rfl, h5⟩)
  go_end0
  exact ⟨rfl, HE.out _ h5⟩
set_option maxRecDepth 100000 in
set_option maxHeartbeats 1000000 in
theorem iSyncC_any (b bi bl bd bp : Nat) (l : Int) (s : St) (p : ByteArray) (w : World) (h : Ia b bi bl l w s) (hd : Cap w bd (.pointer (some ⟨b, 0, none⟩))) (hp : Cap w bp (.string p)) (hps : p.size ≤ 8000000000000) (hn : s.L.length ≤ 1000000000)
    (ho : kind s.L p = 2) :
    Calls Tryz.prog 117 #[.pointer (some ⟨bd, 0, none⟩), .pointer (some ⟨bp, 0, none⟩)] w fun e w' => e = .returned (.tuple #[]) ∧ Ip b bi bl w { s with L := ins s.L { old s.L p with kept := (old s.L p).data, loose := false, anew := false } } w' := by
  obtain ⟨c0, _⟩ := h.cell
  unfold Cap at hd hp
  have hl := (h.below (Below.refl _ w).drew).look (maxLen_of hps)
  have hl2 := fun o => (h.below ((Below.refl _ w).alloc (Nat.le_refl _) o).drew).look (maxLen_of hps)
  rw [ho] at hl hl2
  have hod : (old s.L p).dir = false := old_dir (by omega)
  have hbd : bd < w.heap.size := World.block_lt_of_cell? w _ hd
  have hbp : bp < w.heap.size := World.block_lt_of_cell? w _ hp
  have hb : b < w.heap.size := h.lt b (.inl rfl)
  generalize hX0 : (old s.L p).data = X0 at hl hl2
  have hB2 := ((Below.refl _ w).alloc (Nat.le_refl _) (.cells #[.int .i64 2, .string X0, .string X0, .int .i64 0, .int .i64 (old s.L p).stamp] 112)).drew.drew
  have a2 := h.below hB2
  have e1 : iv3 { old s.L p with kept := X0, loose := false, anew := false } = .agg #[.int .i64 2, .string X0, .string X0, .int .i64 0, .int .i64 (old s.L p).stamp] := by
    unfold iv3
    rw [show kOf { old s.L p with kept := X0, loose := false, anew := false } = 2 from kOf_file hod, ← hX0]
    rfl
  obtain ⟨w3, hrun, hm, ht⟩ := a2.items.put (x := { old s.L p with kept := X0, loose := false, anew := false }) (old_path s.L p) e1 hps hn
  have HE := Lib.hid (show Ip b bi bl w { s with L := ins s.L { old s.L p with kept := X0, loose := false, anew := false } } w3 from ⟨l, a2.turned hm ht, (Chg.of_below hB2).then ((turned_chg ht).mono ft_i)⟩)
  generalize stOf (old s.L p) = X2 at hl hl2
  generalize ((old s.L p).stamp : Int) = X3 at hl hl2 hrun
  generalize (old s.L p).kept = X4 at hl hl2
  clear h hB2 a2 hm ht e1 hod ho hX0
  go_enter Tryz.func117, Tryz.ntmps117
  go_wp2
  go_region
  all_goals go_wp2
  all_goals go_region
  all_goals (go_end0; exact ⟨rfl, HE.out⟩)
end Go.Proofs.YtdkgkomjbpggeaaGreatDoor.Dk

namespace Go.Proofs.YtdkgkomjbpggeaaGreatDoor.Dk
open Go.RowKit Tx Pm Pl Pr
set_option linter.unusedVariables false
set_option maxRecDepth 100000 in
set_option maxHeartbeats 2000000 in
theorem iAppendC_any (b bi bl bd bp bq : Nat) (l : Int) (s : St) (p d : ByteArray) (w : World) (h : Ia b bi bl l w s) (hd : Cap w bd (.pointer (some ⟨b, 0, none⟩))) (hp : Cap w bp (.string p)) (hq : Cap w bq (.string d)) (hps : p.size ≤ 8000000000000) (hn : s.L.length ≤ 1000000000) (hst : s.stamps ≤ 1000000000000)
    (ho : kind s.L p = 2) (hca : (old s.L p).loose = false → (old s.L p).anew = false) (hsz : (old s.L p).data.size + d.size ≤ 1000000000000000000) :
    Calls Tryz.prog 114 #[.pointer (some ⟨bd, 0, none⟩), .pointer (some ⟨bp, 0, none⟩), .pointer (some ⟨bq, 0, none⟩)] w fun e w' => e = .returned (.tuple #[]) ∧ Ip b bi bl w (putS s { old s.L p with data := (old s.L p).data ++ d, loose := true }) w' := by
  obtain ⟨c0, _⟩ := h.cell
  unfold Cap at hd hp hq
  have hbd : bd < w.heap.size := World.block_lt_of_cell? w _ hd
  have hbp : bp < w.heap.size := World.block_lt_of_cell? w _ hp
  have hbq : bq < w.heap.size := World.block_lt_of_cell? w _ hq
  have hb : b < w.heap.size := h.lt b (.inl rfl)
  have hl := (h.below (Below.refl _ w).drew).look (maxLen_of hps)
  have hl2 := fun o => (h.below ((Below.refl _ w).alloc (Nat.le_refl _) o).drew).look (maxLen_of hps)
  rw [ho] at hl hl2
  have hod : (old s.L p).dir = false := old_dir (by omega)
  have hst2 : stOf { old s.L p with data := (old s.L p).data ++ d, loose := true } = if stOf (old s.L p) = 0 then 1 else stOf (old s.L p) := by
    unfold stOf
    cases hlo : (old s.L p).loose with
    | false =>
      rw [hca hlo]
      rfl
    | true => cases (old s.L p).anew <;> rfl
  have hst3 : stOf (old s.L p) = 0 ∨ stOf (old s.L p) = 1 ∨ stOf (old s.L p) = 2 := by
    unfold stOf
    cases (old s.L p).loose <;> cases (old s.L p).anew <;> simp
  have cs := fun W (hW : Below w.heap.size w W) => iSet_any b bi bl l s { old s.L p with data := (old s.L p).data ++ d, loose := true } (old s.L p).stamp p W (h.below hW) (old_path _ _) hps hn hst
  rw [show kOf { old s.L p with data := (old s.L p).data ++ d, loose := true } = 2 from kOf_file hod, hst2] at cs
  simp only at cs
  have HE := Lib.hid (fun W w' (hW : Below w.heap.size w W) (hh : Ip b bi bl W (putS s { old s.L p with data := (old s.L p).data ++ d, loose := true }) w') => Ip.after hW hh)
  generalize (putS s { old s.L p with data := (old s.L p).data ++ d, loose := true }) = s' at cs HE ⊢
  generalize (old s.L p).data = X0 at hl hl2 cs hsz
  generalize (old s.L p).kept = X1 at hl hl2 cs
  generalize ((old s.L p).stamp : Int) = X3 at hl hl2 cs
  generalize stOf (old s.L p) = X2 at hl hl2 cs hst3
  clear h ho hca hod hst2
  have hBW : ∀ o, Below w.heap.size w (w.alloc o).drew := fun o => ((Below.refl _ w).alloc (Nat.le_refl _) o).drew
  have HC := Lib.hid cs
  have HB := Lib.hid hBW
  clear cs hBW
  rcases hst3 with rfl | rfl | rfl
  · go_enter Tryz.func114, Tryz.ntmps114
    go_wp2
    go_region
    all_goals go_wp2_with (go_at_call 115; refine (HC.out _ (HB.out _)).mono ?_; rintro e w5 ⟨rfl, h5⟩)
    all_goals (go_end0; exact ⟨rfl, HE.out _ _ (HB.out _) h5⟩)
  · go_enter Tryz.func114, Tryz.ntmps114
    go_wp2
    go_region
    all_goals go_wp2_with (go_at_call 115; refine (HC.out _ (HB.out _)).mono ?_; rintro e w5 ⟨rfl, h5⟩)
    all_goals (go_end0; exact ⟨rfl, HE.out _ _ (HB.out _) h5⟩)
  · go_enter Tryz.func114, Tryz.ntmps114
    go_wp2
    go_region
    all_goals go_wp2_with (go_at_call 115; refine (HC.out _ (HB.out _)).mono ?_; rintro e w5 ⟨rfl, h5⟩)
    all_goals (go_end0; exact ⟨rfl, HE.out _ _ (HB.out _) h5⟩)
theorem turned_cell {w w' : World} {b i : Nat} (h : w.mapTurned w' b) (hi : i ≠ b) (o : Nat) : w'.cell? ⟨i, o, none⟩ = w.cell? ⟨i, o, none⟩ := by
  unfold World.cell?
  simp only [turned_block h hi]
theorem cell_ne {w : World} {bi : Nat} {L : List It} (h : Mp w bi L) {g : Nat} {o : Nat} {v : Value} (hc : w.cell? ⟨g, o, none⟩ = some v) : g ≠ bi := by
  rintro rfl
  obtain ⟨D, ⟨es, clock, hb, _⟩, _⟩ := h
  unfold World.cell? at hc
  simp [hb] at hc
set_option maxRecDepth 100000 in
set_option maxHeartbeats 2000000 in
theorem iRenameC_any (b bi bl bd bp bq : Nat) (l : Int) (s : St) (f t : ByteArray) (w : World) (h : Ia b bi bl l w s) (hR : Rises s.L) (hd : Cap w bd (.pointer (some ⟨b, 0, none⟩))) (hp : Cap w bp (.string f)) (hq : Cap w bq (.string t)) (hfs : f.size ≤ 8000000000000) (hts : t.size ≤ 8000000000000) (hn : s.L.length ≤ 1000000000) (hst : s.stamps ≤ 1000000000000)
    (ho : kind s.L f = 2) :
    Calls Tryz.prog 150 #[.pointer (some ⟨bd, 0, none⟩), .pointer (some ⟨bp, 0, none⟩), .pointer (some ⟨bq, 0, none⟩)] w fun e w' => e = .returned (.tuple #[]) ∧ Ip b bi bl w (putS { s with L := drop s.L f } { old s.L f with path := t }) w' := by
  obtain ⟨c0, _⟩ := h.cell
  unfold Cap at hd hp hq
  have hbd : bd < w.heap.size := World.block_lt_of_cell? w _ hd
  have hbp : bp < w.heap.size := World.block_lt_of_cell? w _ hp
  have hbq : bq < w.heap.size := World.block_lt_of_cell? w _ hq
  have hb : b < w.heap.size := h.lt b (.inl rfl)
  have nd := cell_ne h.items hd
  have np := cell_ne h.items hp
  have nq := cell_ne h.items hq
  have nb := h.nb.1
  have nn : w.heap.size ≠ bi := fun e => by have := h.items.lt; omega
  have hl := (h.below (Below.refl _ w).drew).look (maxLen_of hfs)
  have hl2 := fun o => (h.below ((Below.refl _ w).alloc (Nat.le_refl _) o).drew).look (maxLen_of hfs)
  rw [ho] at hl hl2
  have hod : (old s.L f).dir = false := old_dir (by omega)
  have hB2 := ((Below.refl _ w).alloc (Nat.le_refl _) (.cells #[.int .i64 2, .string (old s.L f).data, .string (old s.L f).kept, .int .i64 (stOf (old s.L f)), .int .i64 (old s.L f).stamp] 112)).drew.drew
  have a2 := h.below hB2
  obtain ⟨w3, hrun, hm, ht⟩ := a2.items.del hR (maxLen_of hfs) 0
  have a3 : Ia b bi bl l w3 { s with L := drop s.L f } := a2.turned hm ht
  have hc3 : Chg (Ft b bi bl) w w3 := (Chg.of_below hB2).then ((turned_chg ht).mono ft_i)
  have hbox : w3.cell? ⟨w.heap.size, 0, none⟩ = some (.int .i64 2) ∧ w3.cell? ⟨w.heap.size, 1, none⟩ = some (.string (old s.L f).data) ∧ w3.cell? ⟨w.heap.size, 2, none⟩ = some (.string (old s.L f).kept) ∧ w3.cell? ⟨w.heap.size, 3, none⟩ = some (.int .i64 (stOf (old s.L f))) ∧ w3.cell? ⟨w.heap.size, 4, none⟩ = some (.int .i64 (old s.L f).stamp) := by
    refine ⟨?_, ?_, ?_, ?_, ?_⟩ <;> · rw [turned_cell ht nn]; exact World.cell?_alloc_at _ _ _ _ rfl
  have g0 : w3.cell? ⟨bd, 0, none⟩ = some (.pointer (some ⟨b, 0, none⟩)) := (turned_cell ht nd 0).trans ((World.cell?_alloc_past _ _ _ hbd).trans hd)
  have g1 : w3.cell? ⟨bq, 0, none⟩ = some (.string t) := (turned_cell ht nq 0).trans ((World.cell?_alloc_past _ _ _ hbq).trans hq)
  have cs := iSet_any b bi bl l { s with L := drop s.L f } { old s.L f with path := t } (old s.L f).stamp t w3 a3 rfl hts (Nat.le_trans (drop_in s.L f).2 hn) hst
  rw [show kOf { old s.L f with path := t } = 2 from kOf_file hod] at cs
  have cs : Calls Tryz.prog 115 #[.pointer (some ⟨b, 0, none⟩), .string t, .agg #[.int .i64 2, .string (old s.L f).data, .string (old s.L f).kept, .int .i64 (stOf (old s.L f)), .int .i64 (old s.L f).stamp]] w3 fun e w' => e = .returned (.tuple #[]) ∧ Ip b bi bl w3 (putS { s with L := drop s.L f } { old s.L f with path := t }) w' := cs
  have hfin : ∀ w', Ip b bi bl w3 (putS { s with L := drop s.L f } { old s.L f with path := t }) w' → Ip b bi bl w (putS { s with L := drop s.L f } { old s.L f with path := t }) w' := fun w' ⟨l2, h1, h2⟩ => ⟨l2, h1, hc3.then h2⟩
  have HE := Lib.hid hfin
  clear h ho hod hB2 a2 a3 hm ht hc3 hfin
  generalize (putS { s with L := drop s.L f } { old s.L f with path := t }) = s' at cs HE ⊢
  generalize (old s.L f).data = X0 at hl hl2 cs hrun hbox
  generalize (old s.L f).kept = X1 at hl hl2 cs hrun hbox
  generalize ((old s.L f).stamp : Int) = X3 at hl hl2 cs hrun hbox
  generalize stOf (old s.L f) = X2 at hl hl2 cs hrun hbox
  obtain ⟨k0, k1, k2, k3, k4⟩ := hbox
  go_enter Tryz.func150, Tryz.ntmps150
  go_wp2
  go_region
  all_goals go_wp2
  all_goals go_region
  all_goals go_wp2_with (go_at_call 115; refine cs.mono ?_; rintro e w5 ⟨rfl, h5⟩)
  all_goals (go_end0; exact ⟨rfl, HE.out _ h5⟩)
end Go.Proofs.YtdkgkomjbpggeaaGreatDoor.Dk

namespace Go.Proofs.YtdkgkomjbpggeaaGreatDoor.Dk
open Go.RowKit Tx Pm Pl Pr
set_option linter.unusedVariables false
theorem cap_chg {w w1 : World} {F : Nat → Prop} {g : Nat} {v : Value} (h : Cap w g v) (hc : Chg F w w1) (hn : ¬ F g) : Cap w1 g v := by
  have hg := World.block_lt_of_cell? w _ h
  unfold Cap World.cell? at *
  rw [hc.block g hg hn]
  exact h
theorem cap_below {w w1 : World} {g : Nat} {v : Value} (h : Cap w g v) (hb : Below w.heap.size w w1) : Cap w1 g v := cap_chg (F := fun _ => False) h ⟨hb.os, hb.tape, hb.output, hb.size, fun i hi _ => hb.block i hi⟩ id
theorem cap_new (w : World) (v : Value) (T : TypeId) : Cap (w.alloc (.cells #[v] T)) w.heap.size v := by
  unfold Cap
  rw [World.cell?_alloc_at _ _ _ _ rfl]
  rfl
theorem first_down {s : St} {p : ByteArray} {m : Nat} (h : first s p m = 0) : s.down = false := by
  unfold first at h
  cases hd : s.down with
  | false => rfl
  | true => rw [hd] at h; cases h
theorem mkdir_step (s : St) (p : ByteArray) : mkdirS s p = stepR s (mayMkdirS s p) { (done s).2 with L := ins (done s).2.L ⟨p, true, ⟨#[]⟩, ⟨#[]⟩, false, false, 0⟩ } := by
  unfold mkdirS mayMkdirS stepR
  by_cases h1 : first s p 0 ≠ 0
  · rw [if_pos h1, if_pos h1, if_pos h1]
  · rw [if_neg h1, if_neg h1]
    by_cases h2 : home s.L p = false
    · rw [if_pos h2, if_pos h2, if_pos (by decide)]
    · rw [if_neg h2, if_neg h2]
      by_cases h3 : kind s.L p = 2
      · rw [if_pos h3, if_pos h3, if_pos (by decide)]
      · rw [if_neg h3, if_neg h3]
        rfl
theorem mayMkdir_down {s : St} {p : ByteArray} (h : mayMkdirS s p = 0) : s.down = false := by
  unfold mayMkdirS at h
  split at h
  · rename_i h1; exact absurd h h1
  · rename_i h1; exact first_down (p := p) (m := 0) (by omega)
theorem write_step {s : St} (hg : Good s) (p d : ByteArray) : writeS s p d = stepR s (mayWriteS s p d) (putS (done s).2 { old s.L p with data := d, loose := true, anew := true }) := by
  unfold writeS mayWriteS stepR
  rw [fits_full hg]
  by_cases h1 : first s p 1 ≠ 0
  · rw [if_pos h1, if_pos h1, if_pos h1]
  · rw [if_neg h1, if_neg h1]
    by_cases h2 : home s.L p = false
    · rw [if_pos h2, if_pos h2, if_pos (by decide)]
    · rw [if_neg h2, if_neg h2]
      by_cases h3 : kind s.L p = 1
      · rw [if_pos h3, if_pos h3, if_pos (by decide)]
      · rw [if_neg h3, if_neg h3]
        cases full s (vol p) ((d.size : Int) - (old s.L p).data.size) with
        | true => rfl
        | false => rfl
theorem mayWrite_ok {s : St} {p d : ByteArray} (h : mayWriteS s p d = 0) : s.down = false ∧ kind s.L p ≠ 1 := by
  unfold mayWriteS at h
  split at h
  · rename_i h1; exact absurd h h1
  rename_i h1
  split at h
  · cases h
  split at h
  · cases h
  rename_i h3
  exact ⟨first_down (p := p) (m := 1) (by omega), h3⟩
theorem append_step {s : St} (hg : Good s) (p d : ByteArray) : appendS s p d = stepR s (mayAppendS s p d) (putS (done s).2 { old s.L p with data := (old s.L p).data ++ d, loose := true }) := by
  unfold appendS mayAppendS stepR
  rw [fits_full hg]
  by_cases h1 : there s p ≠ 0
  · rw [if_pos h1, if_pos h1, if_pos h1]
  · rw [if_neg h1, if_neg h1]
    cases full s (vol p) (d.size : Int) with
    | true => rfl
    | false => rfl
theorem there_kind {s : St} {p : ByteArray} (h : there s p = 0) : s.down = false ∧ kind s.L p = 2 := by
  unfold there at h
  split at h
  · rename_i h1; exact absurd h h1
  rename_i h1
  split at h
  · cases h
  split at h
  · cases h
  rename_i h2 h3
  refine ⟨first_down (p := p) (m := 1) (by omega), ?_⟩
  rcases kind_le s.L p with e | e | e
  · exact absurd e h2
  · exact absurd e h3
  · exact e
theorem mayAppend_ok {s : St} {p d : ByteArray} (h : mayAppendS s p d = 0) : s.down = false ∧ kind s.L p = 2 := by
  unfold mayAppendS at h
  split at h
  · rename_i h1; exact absurd h h1
  · rename_i h1; exact there_kind (by omega)
theorem sync_step (s : St) (p : ByteArray) : syncS s p = stepR s (there s p) { (done s).2 with L := ins (done s).2.L { old s.L p with kept := (old s.L p).data, loose := false, anew := false } } := rfl
theorem rename_step {s : St} (hg : Good s) (f t : ByteArray) : renameS s f t = stepR s (mayRenS s f t) (putS { (done s).2 with L := drop (done s).2.L f } { old s.L f with path := t }) := by
  unfold renameS mayRenS stepR firstR
  by_cases h1 : first s f 1 ≠ 0
  · rw [if_pos h1, if_pos h1, if_pos h1, if_pos h1]
  rw [if_neg h1, if_neg h1]
  by_cases h2 : first s t 1 ≠ 0
  · rw [if_pos h2, if_pos h2, if_pos h2]
  rw [if_neg h2, if_neg h2]
  by_cases h3 : kind s.L f = 0
  · rw [if_pos (.inl h3), if_pos h3, if_pos (by decide)]
  rw [if_neg h3]
  by_cases h4 : home s.L t = false
  · rw [if_pos (.inr h4), if_pos h4, if_pos (by decide)]
  rw [if_neg (by rintro (h | h) <;> contradiction), if_neg h4]
  by_cases h5 : kind s.L f = 1
  · rw [if_pos (.inl h5), if_pos h5, if_pos (by decide)]
  rw [if_neg h5]
  by_cases h6 : kind s.L t = 1
  · rw [if_pos (.inr h6), if_pos h6, if_pos (by decide)]
  rw [if_neg (by rintro (h | h) <;> contradiction), if_neg h6]
  have e : (f ≠ t ∧ fits s t (moreS s.L f t) = false) ↔ (vol f ≠ vol t ∧ full s (vol t) (((old s.L f).data.size : Int) - (old s.L t).data.size) = true) := by
    rw [fits_full hg]
    by_cases hv : vol f = vol t
    · have hm : moreS s.L f t ≤ 0 := by
        unfold moreS
        rw [if_pos hv]
        split <;> omega
      have hf : full s (vol t) (moreS s.L f t) = false := by
        unfold full
        cases roomOf s.rooms (vol t) with
        | none => rfl
        | some r => simp only; rw [decide_eq_false (by omega), Bool.false_and]
      constructor
      · rintro ⟨_, h⟩
        rw [hf] at h
        cases h
      · rintro ⟨h, _⟩
        exact absurd hv h
    · have hft : f ≠ t := fun e => hv (by rw [e])
      have hm : moreS s.L f t = ((old s.L f).data.size : Int) - (old s.L t).data.size := by
        unfold moreS
        rw [if_neg hv]
        rcases kind_le s.L t with k | k | k
        · have ho : old s.L t = mk t := by
            unfold old
            cases hx : find s.L t with
            | none => rfl
            | some x =>
              unfold kind at k
              rw [hx] at k
              unfold kindOf at k
              simp only at k
              split at k <;> cases k
          rw [if_neg (by omega), ho]
          rfl
        · exact absurd k h6
        · rw [if_pos k]
      rw [hm]
      constructor
      · rintro ⟨_, h⟩
        refine ⟨hv, ?_⟩
        cases hb : full s (vol t) (((old s.L f).data.size : Int) - (old s.L t).data.size) with
        | true => rfl
        | false => rw [hb] at h; cases h
      · rintro ⟨_, h⟩
        refine ⟨hft, ?_⟩
        rw [h]
        rfl
  by_cases h7 : f ≠ t ∧ fits s t (moreS s.L f t) = false
  · rw [if_pos h7, if_pos (e.1 h7), if_pos (by decide)]
  · rw [if_neg h7, if_neg (fun h => h7 (e.2 h))]
    rfl
theorem mayRen_ok {s : St} {f t : ByteArray} (h : mayRenS s f t = 0) : s.down = false ∧ kind s.L f = 2 := by
  unfold mayRenS at h
  split at h
  · rename_i h1; exact absurd h h1
  rename_i h1
  split at h
  · cases h
  rename_i h2
  split at h
  · cases h
  split at h
  · cases h
  rename_i h3
  have hf : first s f 1 = 0 := by
    unfold firstR at h1
    by_cases hq : first s f 1 = 0
    · exact hq
    · rw [if_pos hq] at h1
      omega
  refine ⟨first_down hf, ?_⟩
  rcases kind_le s.L f with e | e | e
  · exact absurd e h2
  · exact absurd e h3
  · exact e
set_option maxRecDepth 100000 in
set_option maxHeartbeats 2000000 in
theorem iMkdir_any (b bi bl : Nat) (l : Int) (s : St) (p : ByteArray) (w : World) (h : Ia b bi bl l w s) (hg : Good s) (ok : Ok s) (hp : p.size ≤ 8000000000000) :
    Calls Tryz.prog 25 #[.pointer (some ⟨b, 0, none⟩), .string p] w fun e w' => e = .returned (.int .i64 ((mkdirS s p).1 : Nat)) ∧ Ip b bi bl w (mkdirS s p).2 w' := by
  have hft := h.lt
  have hn := ok.fit.1
  have hst : (done s).2.stamps ≤ 1000000000000 := by rw [done_stamps]; exact ok.stamps
  have eL := done_L s
  rw [mkdir_step]
  obtain ⟨S', hS'⟩ : ∃ S', S' = { (done s).2 with L := ins (done s).2.L ⟨p, true, ⟨#[]⟩, ⟨#[]⟩, false, false, 0⟩ } := ⟨_, rfl⟩
  rw [← hS']
  have hb1 := (Below.refl w.heap.size w).alloc (Nat.le_refl _) (.cells #[.pointer (some ⟨b, 0, none⟩)] 23)
  have k1 := cap_new w (.pointer (some ⟨b, 0, none⟩)) 23
  have k2 := cap_new (w.alloc (.cells #[.pointer (some ⟨b, 0, none⟩)] 23)) (.string p) 9
  have hs1 : (w.alloc (.cells #[.pointer (some ⟨b, 0, none⟩)] 23)).heap.size = w.heap.size + 1 := by simp
  rw [hs1] at k2
  have hb2 := hb1.alloc (by simp) (.cells #[.string p] 9)
  have k1 := cap_below k1 ((Below.refl _ _).alloc (Nat.le_refl _) (.cells #[.string p] 9))
  obtain ⟨W1, hW1⟩ : ∃ W1, W1 = ((w.alloc (.cells #[.pointer (some ⟨b, 0, none⟩)] 23)).alloc (.cells #[.string p] 9)) := ⟨_, rfl⟩
  rw [← hW1] at k1 k2 hb2
  have hb3 : Below w.heap.size w W1.drew := hb2.drew
  have cm := iMayMkdir_any b bi bl l s p W1.drew (h.below hb3) hp
  have hen : ∀ W, (callFunc 61 #[.pointer (some ⟨w.heap.size, 0, none⟩), .pointer (some ⟨w.heap.size + 1, 0, none⟩)]).run Tryz.prog W = .ok (.enter 61 #[.pointer (some ⟨w.heap.size, 0, none⟩), .pointer (some ⟨w.heap.size + 1, 0, none⟩)]) W :=
    fun W => Rg.entersk Tryz.func61 _ W
  have ct : ∀ W, Below W1.heap.size W1 W → Calls Tryz.prog 59 #[.pointer (some ⟨b, 0, none⟩), .int .i64 (mayMkdirS s p : Nat), .func (.func 61) #[] #[.pointer (some ⟨w.heap.size, 0, none⟩), .pointer (some ⟨w.heap.size + 1, 0, none⟩)]] W fun e w' => e = .returned (.int .i64 ((stepR s (mayMkdirS s p) S').1 : Nat)) ∧
      (Ip b bi bl w (stepR s (mayMkdirS s p) S').2 w' ∧ Cap w' w.heap.size (.pointer (some ⟨b, 0, none⟩)) ∧ Cap w' (w.heap.size + 1) (.string p)) := by
    intro W hW
    have hbW := below_call hb2 hW
    have j1 := cap_below k1 hW
    have j2 := cap_below k2 hW
    have hnf : ∀ k, ¬ Ft b bi bl (w.heap.size + k) := fun k hk => by have := hft _ hk; omega
    refine (iStep_any b bi bl l s _ _ _ S' W (h.below hbW) (fun e => mayMkdir_down e) ok.steps hen (fun l1 W2 hr _ hI hc => ?_)).mono ?_
    · have m1 := cap_chg j1 hc (fun e => by have := hft b (.inl rfl); omega)
      have m2 := cap_chg j2 hc (fun e => by have := hft b (.inl rfl); omega)
      rw [hS']
      exact iMkdirC_any b bi bl _ _ l1 _ p W2 hI m1 m2 hp (by rw [eL]; exact hn)
    · rintro e w' ⟨rfl, l5, h5, hc5⟩
      exact ⟨rfl, ⟨l5, h5, (Chg.of_below hbW).then hc5⟩, cap_chg j1 hc5 (hnf 0), cap_chg j2 hc5 (hnf 1)⟩
  generalize stepR s (mayMkdirS s p) S' = RES at ct ⊢
  generalize mayMkdirS s p = r at cm ct
  have HW1 := Lib.hid hW1
  clear h hg ok hS' hst eL hn hft hb1 hb2 hb3 hen
  go_enter Tryz.func25, Tryz.ntmps25
  go_wp2_with fail
  rw [← HW1.out]
  refine Rg.wp_only ?_ (regMkdir _ (by kernel_rfl) _ w.heap.size (w.heap.size + 1) (.pointer (some ⟨b, 0, none⟩)) p r RES.1 W1 (fun W => Below W1.heap.size W1 W) (fun W => Ip b bi bl w RES.2 W ∧ Cap W w.heap.size (.pointer (some ⟨b, 0, none⟩)) ∧ Cap W (w.heap.size + 1) (.string p)) ⟨k1, k2⟩ (cm.mono (fun e w' he => ⟨he.1, (Below.refl _ W1).drew.trans he.2⟩)) (fun W hW => ⟨cap_below k1 hW, cap_below k2 hW⟩) ct (fun W hW => hW.2))
  rintro _ w9 ⟨rfl, h9⟩
  go_wp2_with fail
  go_ret
  exact ⟨rfl, h9.1⟩
set_option maxRecDepth 100000 in
set_option maxHeartbeats 2000000 in
theorem iWrite_any (b bi bl : Nat) (l : Int) (s : St) (p q : ByteArray) (w : World) (h : Ia b bi bl l w s) (hg : Good s) (ok : Ok s) (hp : p.size ≤ 8000000000000) (hq : q.size ≤ 1000000000000000000) :
    Calls Tryz.prog 118 #[.pointer (some ⟨b, 0, none⟩), .string p, .string q] w fun e w' => e = .returned (.int .i64 ((writeS s p q).1 : Nat)) ∧ Ip b bi bl w (writeS s p q).2 w' := by
  have hft := h.lt
  have hn := ok.fit.1
  have hst : (done s).2.stamps ≤ 1000000000000 := by rw [done_stamps]; exact ok.stamps
  have eL := done_L s
  rw [write_step hg]
  obtain ⟨S', hS'⟩ : ∃ S', S' = putS (done s).2 { old s.L p with data := q, loose := true, anew := true } := ⟨_, rfl⟩
  rw [← hS']
  have hb1 := (Below.refl w.heap.size w).alloc (Nat.le_refl _) (.cells #[.pointer (some ⟨b, 0, none⟩)] 23)
  have k1 := cap_new w (.pointer (some ⟨b, 0, none⟩)) 23
  have k2 := cap_new (w.alloc (.cells #[.pointer (some ⟨b, 0, none⟩)] 23)) (.string p) 9
  have hs1 : (w.alloc (.cells #[.pointer (some ⟨b, 0, none⟩)] 23)).heap.size = w.heap.size + 1 := by simp
  rw [hs1] at k2
  have hb2 := hb1.alloc (by simp) (.cells #[.string p] 9)
  have k1 := cap_below k1 ((Below.refl _ _).alloc (Nat.le_refl _) (.cells #[.string p] 9))
  have k3 := cap_new ((w.alloc (.cells #[.pointer (some ⟨b, 0, none⟩)] 23)).alloc (.cells #[.string p] 9)) (.string q) 9
  have hs2 : ((w.alloc (.cells #[.pointer (some ⟨b, 0, none⟩)] 23)).alloc (.cells #[.string p] 9)).heap.size = w.heap.size + 1 + 1 := by simp
  rw [hs2] at k3
  have hb2 := hb2.alloc (by simp; omega) (.cells #[.string q] 9)
  have k1 := cap_below k1 ((Below.refl _ _).alloc (Nat.le_refl _) (.cells #[.string q] 9))
  have k2 := cap_below k2 ((Below.refl _ _).alloc (Nat.le_refl _) (.cells #[.string q] 9))
  obtain ⟨W1, hW1⟩ : ∃ W1, W1 = ((w.alloc (.cells #[.pointer (some ⟨b, 0, none⟩)] 23)).alloc (.cells #[.string p] 9)).alloc (.cells #[.string q] 9) := ⟨_, rfl⟩
  rw [← hW1] at k1 k2 k3 hb2
  have hb3 : Below w.heap.size w W1.drew := hb2.drew
  have cm := iMayWrite_any b bi bl l s p q W1.drew (h.below hb3) hg.rises ok.fit hp hq
  have hen : ∀ W, (callFunc 148 #[.pointer (some ⟨w.heap.size, 0, none⟩), .pointer (some ⟨w.heap.size + 1, 0, none⟩), .pointer (some ⟨w.heap.size + 1 + 1, 0, none⟩)]).run Tryz.prog W = .ok (.enter 148 #[.pointer (some ⟨w.heap.size, 0, none⟩), .pointer (some ⟨w.heap.size + 1, 0, none⟩), .pointer (some ⟨w.heap.size + 1 + 1, 0, none⟩)]) W :=
    fun W => Rg.entersk Tryz.func148 _ W
  have ct : ∀ W, Below W1.heap.size W1 W → Calls Tryz.prog 59 #[.pointer (some ⟨b, 0, none⟩), .int .i64 (mayWriteS s p q : Nat), .func (.func 148) #[] #[.pointer (some ⟨w.heap.size, 0, none⟩), .pointer (some ⟨w.heap.size + 1, 0, none⟩), .pointer (some ⟨w.heap.size + 1 + 1, 0, none⟩)]] W fun e w' => e = .returned (.int .i64 ((stepR s (mayWriteS s p q) S').1 : Nat)) ∧
      (Ip b bi bl w (stepR s (mayWriteS s p q) S').2 w' ∧ Cap w' w.heap.size (.pointer (some ⟨b, 0, none⟩)) ∧ Cap w' (w.heap.size + 1) (.string p) ∧ Cap w' (w.heap.size + 1 + 1) (.string q)) := by
    intro W hW
    have hbW := below_call hb2 hW
    have j1 := cap_below k1 hW
    have j2 := cap_below k2 hW
    have j3 := cap_below k3 hW
    have hnf : ∀ k, ¬ Ft b bi bl (w.heap.size + k) := fun k hk => by have := hft _ hk; omega
    refine (iStep_any b bi bl l s _ _ _ S' W (h.below hbW) (fun e => (mayWrite_ok e).1) ok.steps hen (fun l1 W2 hr _ hI hc => ?_)).mono ?_
    · have m1 := cap_chg j1 hc (fun e => by have := hft b (.inl rfl); omega)
      have m2 := cap_chg j2 hc (fun e => by have := hft b (.inl rfl); omega)
      have m3 := cap_chg j3 hc (fun e => by have := hft b (.inl rfl); omega)
      rw [hS']
      have c9 := iWriteC_any b bi bl _ _ _ l1 _ p q W2 hI m1 m2 m3 hp (by rw [eL]; exact hn) hst (by rw [eL]; exact old_dir (mayWrite_ok hr).2)
      rw [eL] at c9
      exact c9
    · rintro e w' ⟨rfl, l5, h5, hc5⟩
      exact ⟨rfl, ⟨l5, h5, (Chg.of_below hbW).then hc5⟩, cap_chg j1 hc5 (hnf 0), cap_chg j2 hc5 (hnf 1), cap_chg j3 hc5 (hnf 2)⟩
  generalize stepR s (mayWriteS s p q) S' = RES at ct ⊢
  generalize mayWriteS s p q = r at cm ct
  have HW1 := Lib.hid hW1
  clear h hg ok hS' hst eL hn hft hb1 hb2 hb3 hen
  go_enter Tryz.func118, Tryz.ntmps118
  go_wp2_with fail
  rw [← HW1.out]
  refine Rg.wp_only ?_ (regWrite _ (by kernel_rfl) _ w.heap.size (w.heap.size + 1) (w.heap.size + 1 + 1) (.pointer (some ⟨b, 0, none⟩)) p q r RES.1 W1 (fun W => Below W1.heap.size W1 W) (fun W => Ip b bi bl w RES.2 W ∧ Cap W w.heap.size (.pointer (some ⟨b, 0, none⟩)) ∧ Cap W (w.heap.size + 1) (.string p) ∧ Cap W (w.heap.size + 1 + 1) (.string q)) ⟨k1, k2, k3⟩ (cm.mono (fun e w' he => ⟨he.1, (Below.refl _ W1).drew.trans he.2⟩)) (fun W hW => ⟨cap_below k1 hW, cap_below k2 hW, cap_below k3 hW⟩) ct (fun W hW => hW.2))
  rintro _ w9 ⟨rfl, h9⟩
  go_wp2_with fail
  go_ret
  exact ⟨rfl, h9.1⟩
set_option maxRecDepth 100000 in
set_option maxHeartbeats 2000000 in
theorem iAppend_any (b bi bl : Nat) (l : Int) (s : St) (p q : ByteArray) (w : World) (h : Ia b bi bl l w s) (hg : Good s) (ok : Ok s) (hp : p.size ≤ 8000000000000) (hq : q.size ≤ 1000000000000000000) (hsz : (old s.L p).data.size + q.size ≤ 1000000000000000000) :
    Calls Tryz.prog 80 #[.pointer (some ⟨b, 0, none⟩), .string p, .string q] w fun e w' => e = .returned (.int .i64 ((appendS s p q).1 : Nat)) ∧ Ip b bi bl w (appendS s p q).2 w' := by
  have hft := h.lt
  have hn := ok.fit.1
  have hst : (done s).2.stamps ≤ 1000000000000 := by rw [done_stamps]; exact ok.stamps
  have eL := done_L s
  rw [append_step hg]
  obtain ⟨S', hS'⟩ : ∃ S', S' = putS (done s).2 { old s.L p with data := (old s.L p).data ++ q, loose := true } := ⟨_, rfl⟩
  rw [← hS']
  have hb1 := (Below.refl w.heap.size w).alloc (Nat.le_refl _) (.cells #[.pointer (some ⟨b, 0, none⟩)] 23)
  have k1 := cap_new w (.pointer (some ⟨b, 0, none⟩)) 23
  have k2 := cap_new (w.alloc (.cells #[.pointer (some ⟨b, 0, none⟩)] 23)) (.string p) 9
  have hs1 : (w.alloc (.cells #[.pointer (some ⟨b, 0, none⟩)] 23)).heap.size = w.heap.size + 1 := by simp
  rw [hs1] at k2
  have hb2 := hb1.alloc (by simp) (.cells #[.string p] 9)
  have k1 := cap_below k1 ((Below.refl _ _).alloc (Nat.le_refl _) (.cells #[.string p] 9))
  have k3 := cap_new ((w.alloc (.cells #[.pointer (some ⟨b, 0, none⟩)] 23)).alloc (.cells #[.string p] 9)) (.string q) 9
  have hs2 : ((w.alloc (.cells #[.pointer (some ⟨b, 0, none⟩)] 23)).alloc (.cells #[.string p] 9)).heap.size = w.heap.size + 1 + 1 := by simp
  rw [hs2] at k3
  have hb2 := hb2.alloc (by simp; omega) (.cells #[.string q] 9)
  have k1 := cap_below k1 ((Below.refl _ _).alloc (Nat.le_refl _) (.cells #[.string q] 9))
  have k2 := cap_below k2 ((Below.refl _ _).alloc (Nat.le_refl _) (.cells #[.string q] 9))
  obtain ⟨W1, hW1⟩ : ∃ W1, W1 = ((w.alloc (.cells #[.pointer (some ⟨b, 0, none⟩)] 23)).alloc (.cells #[.string p] 9)).alloc (.cells #[.string q] 9) := ⟨_, rfl⟩
  rw [← hW1] at k1 k2 k3 hb2
  have hb3 : Below w.heap.size w W1.drew := hb2.drew
  have cm := iMayAppend_any b bi bl l s p q W1.drew (h.below hb3) hg.rises ok.fit hp (by omega)
  have hen : ∀ W, (callFunc 114 #[.pointer (some ⟨w.heap.size, 0, none⟩), .pointer (some ⟨w.heap.size + 1, 0, none⟩), .pointer (some ⟨w.heap.size + 1 + 1, 0, none⟩)]).run Tryz.prog W = .ok (.enter 114 #[.pointer (some ⟨w.heap.size, 0, none⟩), .pointer (some ⟨w.heap.size + 1, 0, none⟩), .pointer (some ⟨w.heap.size + 1 + 1, 0, none⟩)]) W :=
    fun W => Rg.entersk Tryz.func114 _ W
  have ct : ∀ W, Below W1.heap.size W1 W → Calls Tryz.prog 59 #[.pointer (some ⟨b, 0, none⟩), .int .i64 (mayAppendS s p q : Nat), .func (.func 114) #[] #[.pointer (some ⟨w.heap.size, 0, none⟩), .pointer (some ⟨w.heap.size + 1, 0, none⟩), .pointer (some ⟨w.heap.size + 1 + 1, 0, none⟩)]] W fun e w' => e = .returned (.int .i64 ((stepR s (mayAppendS s p q) S').1 : Nat)) ∧
      (Ip b bi bl w (stepR s (mayAppendS s p q) S').2 w' ∧ Cap w' w.heap.size (.pointer (some ⟨b, 0, none⟩)) ∧ Cap w' (w.heap.size + 1) (.string p) ∧ Cap w' (w.heap.size + 1 + 1) (.string q)) := by
    intro W hW
    have hbW := below_call hb2 hW
    have j1 := cap_below k1 hW
    have j2 := cap_below k2 hW
    have j3 := cap_below k3 hW
    have hnf : ∀ k, ¬ Ft b bi bl (w.heap.size + k) := fun k hk => by have := hft _ hk; omega
    refine (iStep_any b bi bl l s _ _ _ S' W (h.below hbW) (fun e => (mayAppend_ok e).1) ok.steps hen (fun l1 W2 hr _ hI hc => ?_)).mono ?_
    · have m1 := cap_chg j1 hc (fun e => by have := hft b (.inl rfl); omega)
      have m2 := cap_chg j2 hc (fun e => by have := hft b (.inl rfl); omega)
      have m3 := cap_chg j3 hc (fun e => by have := hft b (.inl rfl); omega)
      rw [hS']
      have c9 := iAppendC_any b bi bl _ _ _ l1 _ p q W2 hI m1 m2 m3 hp (by rw [eL]; exact hn) hst (by rw [eL]; exact (mayAppend_ok hr).2) (by rw [eL]; exact calm_old hg p) (by rw [eL]; exact hsz)
      rw [eL] at c9
      exact c9
    · rintro e w' ⟨rfl, l5, h5, hc5⟩
      exact ⟨rfl, ⟨l5, h5, (Chg.of_below hbW).then hc5⟩, cap_chg j1 hc5 (hnf 0), cap_chg j2 hc5 (hnf 1), cap_chg j3 hc5 (hnf 2)⟩
  generalize stepR s (mayAppendS s p q) S' = RES at ct ⊢
  generalize mayAppendS s p q = r at cm ct
  have HW1 := Lib.hid hW1
  clear h hg ok hS' hst eL hn hft hb1 hb2 hb3 hen
  go_enter Tryz.func80, Tryz.ntmps80
  go_wp2_with fail
  rw [← HW1.out]
  refine Rg.wp_only ?_ (regAppend _ (by kernel_rfl) _ w.heap.size (w.heap.size + 1) (w.heap.size + 1 + 1) (.pointer (some ⟨b, 0, none⟩)) p q r RES.1 W1 (fun W => Below W1.heap.size W1 W) (fun W => Ip b bi bl w RES.2 W ∧ Cap W w.heap.size (.pointer (some ⟨b, 0, none⟩)) ∧ Cap W (w.heap.size + 1) (.string p) ∧ Cap W (w.heap.size + 1 + 1) (.string q)) ⟨k1, k2, k3⟩ (cm.mono (fun e w' he => ⟨he.1, (Below.refl _ W1).drew.trans he.2⟩)) (fun W hW => ⟨cap_below k1 hW, cap_below k2 hW, cap_below k3 hW⟩) ct (fun W hW => hW.2))
  rintro _ w9 ⟨rfl, h9⟩
  go_wp2_with fail
  go_ret
  exact ⟨rfl, h9.1⟩
set_option maxRecDepth 100000 in
set_option maxHeartbeats 2000000 in
theorem iSync_any (b bi bl : Nat) (l : Int) (s : St) (p : ByteArray) (w : World) (h : Ia b bi bl l w s) (hg : Good s) (ok : Ok s) (hp : p.size ≤ 8000000000000) :
    Calls Tryz.prog 81 #[.pointer (some ⟨b, 0, none⟩), .string p] w fun e w' => e = .returned (.int .i64 ((syncS s p).1 : Nat)) ∧ Ip b bi bl w (syncS s p).2 w' := by
  have hft := h.lt
  have hn := ok.fit.1
  have hst : (done s).2.stamps ≤ 1000000000000 := by rw [done_stamps]; exact ok.stamps
  have eL := done_L s
  rw [sync_step]
  obtain ⟨S', hS'⟩ : ∃ S', S' = { (done s).2 with L := ins (done s).2.L { old s.L p with kept := (old s.L p).data, loose := false, anew := false } } := ⟨_, rfl⟩
  rw [← hS']
  have hb1 := (Below.refl w.heap.size w).alloc (Nat.le_refl _) (.cells #[.pointer (some ⟨b, 0, none⟩)] 23)
  have k1 := cap_new w (.pointer (some ⟨b, 0, none⟩)) 23
  have k2 := cap_new (w.alloc (.cells #[.pointer (some ⟨b, 0, none⟩)] 23)) (.string p) 9
  have hs1 : (w.alloc (.cells #[.pointer (some ⟨b, 0, none⟩)] 23)).heap.size = w.heap.size + 1 := by simp
  rw [hs1] at k2
  have hb2 := hb1.alloc (by simp) (.cells #[.string p] 9)
  have k1 := cap_below k1 ((Below.refl _ _).alloc (Nat.le_refl _) (.cells #[.string p] 9))
  obtain ⟨W1, hW1⟩ : ∃ W1, W1 = ((w.alloc (.cells #[.pointer (some ⟨b, 0, none⟩)] 23)).alloc (.cells #[.string p] 9)) := ⟨_, rfl⟩
  rw [← hW1] at k1 k2 hb2
  have hb3 : Below w.heap.size w W1.drew := hb2.drew
  have cm := iMaySync_any b bi bl l s p W1.drew (h.below hb3) hp
  have hen : ∀ W, (callFunc 117 #[.pointer (some ⟨w.heap.size, 0, none⟩), .pointer (some ⟨w.heap.size + 1, 0, none⟩)]).run Tryz.prog W = .ok (.enter 117 #[.pointer (some ⟨w.heap.size, 0, none⟩), .pointer (some ⟨w.heap.size + 1, 0, none⟩)]) W :=
    fun W => Rg.entersk Tryz.func117 _ W
  have ct : ∀ W, Below W1.heap.size W1 W → Calls Tryz.prog 59 #[.pointer (some ⟨b, 0, none⟩), .int .i64 (there s p : Nat), .func (.func 117) #[] #[.pointer (some ⟨w.heap.size, 0, none⟩), .pointer (some ⟨w.heap.size + 1, 0, none⟩)]] W fun e w' => e = .returned (.int .i64 ((stepR s (there s p) S').1 : Nat)) ∧
      (Ip b bi bl w (stepR s (there s p) S').2 w' ∧ Cap w' w.heap.size (.pointer (some ⟨b, 0, none⟩)) ∧ Cap w' (w.heap.size + 1) (.string p)) := by
    intro W hW
    have hbW := below_call hb2 hW
    have j1 := cap_below k1 hW
    have j2 := cap_below k2 hW
    have hnf : ∀ k, ¬ Ft b bi bl (w.heap.size + k) := fun k hk => by have := hft _ hk; omega
    refine (iStep_any b bi bl l s _ _ _ S' W (h.below hbW) (fun e => (there_kind e).1) ok.steps hen (fun l1 W2 hr _ hI hc => ?_)).mono ?_
    · have m1 := cap_chg j1 hc (fun e => by have := hft b (.inl rfl); omega)
      have m2 := cap_chg j2 hc (fun e => by have := hft b (.inl rfl); omega)
      rw [hS']
      have c9 := iSyncC_any b bi bl _ _ l1 _ p W2 hI m1 m2 hp (by rw [eL]; exact hn) (by rw [eL]; exact (there_kind hr).2)
      rw [eL] at c9 ⊢
      exact c9
    · rintro e w' ⟨rfl, l5, h5, hc5⟩
      exact ⟨rfl, ⟨l5, h5, (Chg.of_below hbW).then hc5⟩, cap_chg j1 hc5 (hnf 0), cap_chg j2 hc5 (hnf 1)⟩
  generalize stepR s (there s p) S' = RES at ct ⊢
  generalize there s p = r at cm ct
  have HW1 := Lib.hid hW1
  clear h hg ok hS' hst eL hn hft hb1 hb2 hb3 hen
  go_enter Tryz.func81, Tryz.ntmps81
  go_wp2_with fail
  rw [← HW1.out]
  refine Rg.wp_only ?_ (regSync _ (by kernel_rfl) _ w.heap.size (w.heap.size + 1) (.pointer (some ⟨b, 0, none⟩)) p r RES.1 W1 (fun W => Below W1.heap.size W1 W) (fun W => Ip b bi bl w RES.2 W ∧ Cap W w.heap.size (.pointer (some ⟨b, 0, none⟩)) ∧ Cap W (w.heap.size + 1) (.string p)) ⟨k1, k2⟩ (cm.mono (fun e w' he => ⟨he.1, (Below.refl _ W1).drew.trans he.2⟩)) (fun W hW => ⟨cap_below k1 hW, cap_below k2 hW⟩) ct (fun W hW => hW.2))
  rintro _ w9 ⟨rfl, h9⟩
  go_wp2_with fail
  go_ret
  exact ⟨rfl, h9.1⟩
set_option maxRecDepth 100000 in
set_option maxHeartbeats 2000000 in
theorem iRename_any (b bi bl : Nat) (l : Int) (s : St) (p q : ByteArray) (w : World) (h : Ia b bi bl l w s) (hg : Good s) (ok : Ok s) (hp : p.size ≤ 8000000000000) (hq : q.size ≤ 8000000000000) :
    Calls Tryz.prog 119 #[.pointer (some ⟨b, 0, none⟩), .string p, .string q] w fun e w' => e = .returned (.int .i64 ((renameS s p q).1 : Nat)) ∧ Ip b bi bl w (renameS s p q).2 w' := by
  have hft := h.lt
  have hn := ok.fit.1
  have hst : (done s).2.stamps ≤ 1000000000000 := by rw [done_stamps]; exact ok.stamps
  have eL := done_L s
  rw [rename_step hg]
  obtain ⟨S', hS'⟩ : ∃ S', S' = putS { (done s).2 with L := drop (done s).2.L p } { old s.L p with path := q } := ⟨_, rfl⟩
  rw [← hS']
  have hb1 := (Below.refl w.heap.size w).alloc (Nat.le_refl _) (.cells #[.pointer (some ⟨b, 0, none⟩)] 23)
  have k1 := cap_new w (.pointer (some ⟨b, 0, none⟩)) 23
  have k2 := cap_new (w.alloc (.cells #[.pointer (some ⟨b, 0, none⟩)] 23)) (.string p) 9
  have hs1 : (w.alloc (.cells #[.pointer (some ⟨b, 0, none⟩)] 23)).heap.size = w.heap.size + 1 := by simp
  rw [hs1] at k2
  have hb2 := hb1.alloc (by simp) (.cells #[.string p] 9)
  have k1 := cap_below k1 ((Below.refl _ _).alloc (Nat.le_refl _) (.cells #[.string p] 9))
  have k3 := cap_new ((w.alloc (.cells #[.pointer (some ⟨b, 0, none⟩)] 23)).alloc (.cells #[.string p] 9)) (.string q) 9
  have hs2 : ((w.alloc (.cells #[.pointer (some ⟨b, 0, none⟩)] 23)).alloc (.cells #[.string p] 9)).heap.size = w.heap.size + 1 + 1 := by simp
  rw [hs2] at k3
  have hb2 := hb2.alloc (by simp; omega) (.cells #[.string q] 9)
  have k1 := cap_below k1 ((Below.refl _ _).alloc (Nat.le_refl _) (.cells #[.string q] 9))
  have k2 := cap_below k2 ((Below.refl _ _).alloc (Nat.le_refl _) (.cells #[.string q] 9))
  obtain ⟨W1, hW1⟩ : ∃ W1, W1 = ((w.alloc (.cells #[.pointer (some ⟨b, 0, none⟩)] 23)).alloc (.cells #[.string p] 9)).alloc (.cells #[.string q] 9) := ⟨_, rfl⟩
  rw [← hW1] at k1 k2 k3 hb2
  have hb3 : Below w.heap.size w W1.drew := hb2.drew
  have cm := iMayRename_any b bi bl l s p q W1.drew (h.below hb3) hg.rises ok.fit hp hq
  have hen : ∀ W, (callFunc 150 #[.pointer (some ⟨w.heap.size, 0, none⟩), .pointer (some ⟨w.heap.size + 1, 0, none⟩), .pointer (some ⟨w.heap.size + 1 + 1, 0, none⟩)]).run Tryz.prog W = .ok (.enter 150 #[.pointer (some ⟨w.heap.size, 0, none⟩), .pointer (some ⟨w.heap.size + 1, 0, none⟩), .pointer (some ⟨w.heap.size + 1 + 1, 0, none⟩)]) W :=
    fun W => Rg.entersk Tryz.func150 _ W
  have ct : ∀ W, Below W1.heap.size W1 W → Calls Tryz.prog 59 #[.pointer (some ⟨b, 0, none⟩), .int .i64 (mayRenS s p q : Nat), .func (.func 150) #[] #[.pointer (some ⟨w.heap.size, 0, none⟩), .pointer (some ⟨w.heap.size + 1, 0, none⟩), .pointer (some ⟨w.heap.size + 1 + 1, 0, none⟩)]] W fun e w' => e = .returned (.int .i64 ((stepR s (mayRenS s p q) S').1 : Nat)) ∧
      (Ip b bi bl w (stepR s (mayRenS s p q) S').2 w' ∧ Cap w' w.heap.size (.pointer (some ⟨b, 0, none⟩)) ∧ Cap w' (w.heap.size + 1) (.string p) ∧ Cap w' (w.heap.size + 1 + 1) (.string q)) := by
    intro W hW
    have hbW := below_call hb2 hW
    have j1 := cap_below k1 hW
    have j2 := cap_below k2 hW
    have j3 := cap_below k3 hW
    have hnf : ∀ k, ¬ Ft b bi bl (w.heap.size + k) := fun k hk => by have := hft _ hk; omega
    refine (iStep_any b bi bl l s _ _ _ S' W (h.below hbW) (fun e => (mayRen_ok e).1) ok.steps hen (fun l1 W2 hr _ hI hc => ?_)).mono ?_
    · have m1 := cap_chg j1 hc (fun e => by have := hft b (.inl rfl); omega)
      have m2 := cap_chg j2 hc (fun e => by have := hft b (.inl rfl); omega)
      have m3 := cap_chg j3 hc (fun e => by have := hft b (.inl rfl); omega)
      rw [hS']
      have c9 := iRenameC_any b bi bl _ _ _ l1 _ p q W2 hI (by rw [eL]; exact hg.rises) m1 m2 m3 hp hq (by rw [eL]; exact hn) hst (by rw [eL]; exact (mayRen_ok hr).2)
      rw [eL] at c9 ⊢
      exact c9
    · rintro e w' ⟨rfl, l5, h5, hc5⟩
      exact ⟨rfl, ⟨l5, h5, (Chg.of_below hbW).then hc5⟩, cap_chg j1 hc5 (hnf 0), cap_chg j2 hc5 (hnf 1), cap_chg j3 hc5 (hnf 2)⟩
  generalize stepR s (mayRenS s p q) S' = RES at ct ⊢
  generalize mayRenS s p q = r at cm ct
  have HW1 := Lib.hid hW1
  clear h hg ok hS' hst eL hn hft hb1 hb2 hb3 hen
  go_enter Tryz.func119, Tryz.ntmps119
  go_wp2_with fail
  rw [← HW1.out]
  refine Rg.wp_only ?_ (regRename _ (by kernel_rfl) _ w.heap.size (w.heap.size + 1) (w.heap.size + 1 + 1) (.pointer (some ⟨b, 0, none⟩)) p q r RES.1 W1 (fun W => Below W1.heap.size W1 W) (fun W => Ip b bi bl w RES.2 W ∧ Cap W w.heap.size (.pointer (some ⟨b, 0, none⟩)) ∧ Cap W (w.heap.size + 1) (.string p) ∧ Cap W (w.heap.size + 1 + 1) (.string q)) ⟨k1, k2, k3⟩ (cm.mono (fun e w' he => ⟨he.1, (Below.refl _ W1).drew.trans he.2⟩)) (fun W hW => ⟨cap_below k1 hW, cap_below k2 hW, cap_below k3 hW⟩) ct (fun W hW => hW.2))
  rintro _ w9 ⟨rfl, h9⟩
  go_wp2_with fail
  go_ret
  exact ⟨rfl, h9.1⟩
end Go.Proofs.YtdkgkomjbpggeaaGreatDoor.Dk

namespace Go.Proofs.YtdkgkomjbpggeaaGreatDoor.Dk
open Go.RowKit Tx Pm Pl Pr
set_option linter.unusedVariables false
end Go.Proofs.YtdkgkomjbpggeaaGreatDoor.Dk

namespace Go.Proofs.YtdkgkomjbpggeaaGreatDoor.Dk
open Go.RowKit Tx Pm Pl Pr
set_option linter.unusedVariables false
end Go.Proofs.YtdkgkomjbpggeaaGreatDoor.Dk

namespace Go.Proofs.YtdkgkomjbpggeaaGreatDoor.Dk
open Go.RowKit Tx Pm Pl Pr
set_option linter.unusedVariables false
theorem read_old {s : St} (hg : Good s) (p : ByteArray) (hd : s.down = false) : readS s p = ((old s.L p).data, mbf s.L p) := by
  unfold readS mbf kind old
  rw [hd, if_neg (by decide)]
  cases hf : find s.L p with
  | none => rfl
  | some x =>
    unfold kindOf
    simp only [Option.getD_some]
    by_cases hx : x.dir = true
    · rw [(hg.dirs x (find_mem hf).1 hx).1]
      simp [hx]
    · simp [hx]
set_option maxRecDepth 100000 in
set_option maxHeartbeats 1000000 in
theorem iRead_any (b bi bl : Nat) (l : Int) (s : St) (p : ByteArray) (w : World) (h : Ia b bi bl l w s) (hg : Good s) (hp : p.size ≤ 8000000000000) :
    Calls Tryz.prog 62 #[.pointer (some ⟨b, 0, none⟩), .string p] w fun e w' => e = .returned (.tuple #[.string (readS s p).1, .int .i64 ((readS s p).2 : Nat)]) ∧ Below w.heap.size w w' := by
  have cm := fun n => iMbf_any b bi bl l s p (w.drewN n) (h.below (below_drewN _ _)) hp
  have hl := fun n => (h.below (below_drewN w n)).look (maxLen_of hp)
  obtain ⟨c0, c1, c2, c3, c4, c5⟩ := h.cell
  have hro := read_old hg p
  have hrd : s.down = true → readS s p = (⟨#[]⟩, 14) := fun e => by unfold readS; rw [if_pos e]
  have f1 := fld1
  generalize (old s.L p).data = X0 at hl hro
  generalize (old s.L p).kept = X1 at hl
  generalize stOf (old s.L p) = X2 at hl
  generalize ((old s.L p).stamp : Int) = X3 at hl
  generalize kind s.L p = K at hl
  generalize mbf s.L p = M at cm hro
  generalize readS s p = R at hro hrd ⊢
  generalize s.down = D at c5 hro hrd
  clear h hg c1 c2 c3 c4
  have HB := Lib.hid (fun n => below_drewN w n)
  cases D with
  | true =>
    rw [hrd rfl]
    clear hro hrd cm hl
    go_enter Tryz.func62, Tryz.ntmps62
    go_wp2
    go_ret2
    exact ⟨rfl, Below.refl _ _⟩
  | false =>
    rw [hro rfl]
    clear hro hrd
    go_enter Tryz.func62, Tryz.ntmps62
    go_wp2_with fail
    have hl0 := hl
    go_quiet ((go_at_call 95; exact (cm _).mono (fun _ _ ⟨he, hw⟩ => ⟨he, _, hw.symm⟩)))
    go_wp2
    go_ret2
    exact ⟨rfl, HB.out _⟩
set_option maxRecDepth 100000 in
theorem iNew_any (w : World) : Calls Tryz.prog 6 #[] w fun e w' => ∃ b bi bl, e = .returned (.pointer (some ⟨b, 0, none⟩)) ∧ Ia b bi bl (-1) w' newS ∧ (∀ i, Ft b bi bl i → w.heap.size ≤ i) ∧ Below w.heap.size w w' := by
  have hmm := @run_makeMap Tryz.prog
  have b1 := (Below.refl w.heap.size w).alloc (Nat.le_refl _) (.map #[] 0)
  have b2 := b1.alloc (by simp) (.map #[] 0)
  have b3 := b2.alloc (by simp; omega) (.cells #[.map (some w.heap.size), .map (some (w.heap.size + 1)), .int .i64 (-1), .int .i64 0, .int .i64 0, .bool false] 62)
  have hI : Ia (w.heap.size + 1 + 1) w.heap.size (w.heap.size + 1) (-1) (((w.alloc (.map #[] 0)).alloc (.map #[] 0)).alloc (.cells #[.map (some w.heap.size), .map (some (w.heap.size + 1)), .int .i64 (-1), .int .i64 0, .int .i64 0, .bool false] 62)) newS := by
    refine ⟨new_at _ _ (by simp), ?_, ?_, by omega, .inr rfl, by omega⟩
    · refine (mp_made w).kept ?_
      have := (((Below.refl _ (w.alloc (.map #[] 0))).alloc (Nat.le_refl _) (.map #[] 0)).alloc (by simp) (.cells #[.map (some w.heap.size), .map (some (w.heap.size + 1)), .int .i64 (-1), .int .i64 0, .int .i64 0, .bool false] 62)).block w.heap.size (by simp)
      exact this
    · have hl := lm_made (w.alloc (.map #[] 0))
      have e : (w.alloc (.map #[] 0)).heap.size = w.heap.size + 1 := by simp
      rw [e] at hl
      refine hl.kept ?_
      have := ((Below.refl _ ((w.alloc (.map #[] 0)).alloc (.map #[] 0))).alloc (Nat.le_refl _) (.cells #[.map (some w.heap.size), .map (some (w.heap.size + 1)), .int .i64 (-1), .int .i64 0, .int .i64 0, .bool false] 62)).block (w.heap.size + 1) (by simp)
      exact this
  have HE := Lib.hid (show ∃ b bi bl, (Ending.returned (.pointer (some ⟨w.heap.size + 1 + 1, 0, none⟩))) = .returned (.pointer (some ⟨b, 0, none⟩)) ∧ Ia b bi bl (-1) (((w.alloc (.map #[] 0)).alloc (.map #[] 0)).alloc (.cells #[.map (some w.heap.size), .map (some (w.heap.size + 1)), .int .i64 (-1), .int .i64 0, .int .i64 0, .bool false] 62)) newS ∧ (∀ i, Ft b bi bl i → w.heap.size ≤ i) ∧ Below w.heap.size w (((w.alloc (.map #[] 0)).alloc (.map #[] 0)).alloc (.cells #[.map (some w.heap.size), .map (some (w.heap.size + 1)), .int .i64 (-1), .int .i64 0, .int .i64 0, .bool false] 62)) from
    ⟨_, _, _, rfl, hI, fun i hi => by rcases hi with rfl | rfl | rfl <;> omega, b3⟩)
  clear hI b1 b2 b3
  go_enter Tryz.func6, Tryz.ntmps6
  go_wp2
  go_ret
  exact HE.out
end Go.Proofs.YtdkgkomjbpggeaaGreatDoor.Dk

namespace Go.Proofs.YtdkgkomjbpggeaaGreatDoor.Wl
open Go.RowKit Tx Pm Pl Pr Dk Fr
set_option linter.unusedVariables false
theorem does_of' {b bi bl : Nat} {w w' : World} {F : Nat → Prop} {r : Nat × St} {e : Ending} (hg : Dk.Good r.2) (hF : ∀ i, F i ↔ Ft b bi bl i) (h : e = .returned (.int .i64 (r.1 : Nat)) ∧ Ip b bi bl w r.2 w') : e = .returned (.int .i64 (r.1 : Nat)) ∧ Dk.Left (ImpAt b) w F r.2 w' := ⟨h.1, h.2.left hg hF⟩
section
variable {b : Nat} {F : Nat → Prop} {s : St} {w : World}
def Dos (O : World → (Nat → Prop) → St → Prop) (w : World) (F : Nat → Prop) (k : Nat) (s : St) (e : Ending) (w' : World) : Prop := e = .returned (.int .i64 (k : Nat)) ∧ Dk.Left O w F s w'
theorem iw_write {k : Nat} {s' : St} (P Q : ByteArray) (h : ImpAt b w F s) (ok : Ok s) (hP : P.size ≤ 8000000000000) (hQ : Q.size ≤ 1000000000000000000) (hk : writeS s P Q = (k, s')) : Calls Tryz.prog 118 #[.pointer (some ⟨b, 0, none⟩), .string P, .string Q] w (Dos (ImpAt b) w F k s') := by
  obtain ⟨bi, bl, l, hI, hg, hF⟩ := h
  have c := iWrite_any b bi bl l _ P Q _ hI hg ok hP hQ
  have hg' := good_write (p := P) (d := Q) hg
  rw [hk] at c hg'
  exact c.mono fun e w' ht => does_of' (r := (k, s')) hg' hF ht
theorem iw_append {k : Nat} {s' : St} (P Q : ByteArray) (h : ImpAt b w F s) (ok : Ok s) (hP : P.size ≤ 8000000000000) (hQ : Q.size ≤ 1000000000000000000) (hsz : (old s.L P).data.size + Q.size ≤ 1000000000000000000) (hk : appendS s P Q = (k, s')) : Calls Tryz.prog 80 #[.pointer (some ⟨b, 0, none⟩), .string P, .string Q] w (Dos (ImpAt b) w F k s') := by
  obtain ⟨bi, bl, l, hI, hg, hF⟩ := h
  have c := iAppend_any b bi bl l _ P Q _ hI hg ok hP hQ hsz
  have hg' := good_append (p := P) (d := Q) hg
  rw [hk] at c hg'
  exact c.mono fun e w' ht => does_of' (r := (k, s')) hg' hF ht
theorem iw_sync {k : Nat} {s' : St} (P : ByteArray) (h : ImpAt b w F s) (ok : Ok s) (hP : P.size ≤ 8000000000000) (hk : syncS s P = (k, s')) : Calls Tryz.prog 81 #[.pointer (some ⟨b, 0, none⟩), .string P] w (Dos (ImpAt b) w F k s') := by
  obtain ⟨bi, bl, l, hI, hg, hF⟩ := h
  have c := iSync_any b bi bl l _ P _ hI hg ok hP
  have hg' := good_sync (p := P) hg
  rw [hk] at c hg'
  exact c.mono fun e w' ht => does_of' (r := (k, s')) hg' hF ht
theorem iw_rename {k : Nat} {s' : St} (P Q : ByteArray) (h : ImpAt b w F s) (ok : Ok s) (hP : P.size ≤ 8000000000000) (hQ : Q.size ≤ 8000000000000) (hk : renameS s P Q = (k, s')) : Calls Tryz.prog 119 #[.pointer (some ⟨b, 0, none⟩), .string P, .string Q] w (Dos (ImpAt b) w F k s') := by
  obtain ⟨bi, bl, l, hI, hg, hF⟩ := h
  have c := iRename_any b bi bl l _ P Q _ hI hg ok hP hQ
  have hg' := good_rename (f := P) (t := Q) hg
  rw [hk] at c hg'
  exact c.mono fun e w' ht => does_of' (r := (k, s')) hg' hF ht
theorem iw_kind (P : ByteArray) (h : ImpAt b w F s) (hP : P.size ≤ 8000000000000) : Calls Tryz.prog 24 #[.pointer (some ⟨b, 0, none⟩), .string P] w fun e w' => e = .returned (.int .i64 (kind s.L P : Nat)) ∧ w = w' := by
  obtain ⟨bi, bl, l, hI, hg, hF⟩ := h
  exact iKind_any b bi bl l _ P _ hI hP
theorem iw_read (P : ByteArray) (h : ImpAt b w F s) (hP : P.size ≤ 8000000000000) : Calls Tryz.prog 62 #[.pointer (some ⟨b, 0, none⟩), .string P] w fun e w' => e = .returned (.tuple #[.string (readS s P).1, .int .i64 ((readS s P).2 : Nat)]) ∧ Below w.heap.size w w' := by
  obtain ⟨bi, bl, l, hI, hg, hF⟩ := h
  exact iRead_any b bi bl l _ P _ hI hg hP
end
theorem cat_size (p : ByteArray) : (p ++ tT).size = p.size + 2 := ByteArray.size_append
theorem fill_1 {s s1 : St} {p d : ByteArray} {k : Nat} (h1 : writeS s (p ++ tT) d = (k, s1)) (h : k ≠ 0) : fillS s p d = (k, s1) := by
  unfold fillS; rw [h1]; exact if_pos h
theorem fill_2 {s s1 s2 : St} {p d : ByteArray} {k : Nat} (h1 : writeS s (p ++ tT) d = (0, s1)) (h2 : syncS s1 (p ++ tT) = (k, s2)) (h : k ≠ 0) : fillS s p d = (k, s2) := by
  unfold fillS; rw [h1]; simp only [h2]; rw [if_neg (fun h => h rfl), if_pos h]
theorem fill_3 {s s1 s2 : St} {p d : ByteArray} (h1 : writeS s (p ++ tT) d = (0, s1)) (h2 : syncS s1 (p ++ tT) = (0, s2)) : fillS s p d = renameS s2 (p ++ tT) p := by
  unfold fillS; rw [h1]; simp only [h2]; rw [if_neg (fun h => h rfl), if_neg (fun h => h rfl)]
def FillOk (s : St) (p d : ByteArray) : Prop := Ok s ∧ Ok (writeS s (p ++ tT) d).2 ∧ Ok (syncS (writeS s (p ++ tT) d).2 (p ++ tT)).2
set_option maxRecDepth 100000 in
set_option maxHeartbeats 2000000 in
theorem iFill_any (b : Nat) {F : Nat → Prop} {s : St} (p d : ByteArray) (w : World) (h : ImpAt b w F s) (o : FillOk s p d) (hp : p.size ≤ 1000) (hd : d.size ≤ 1000000000000000000) :
    Calls Tryz.prog 84 #[.pointer (some ⟨b, 0, none⟩), .string p, .string d] w (Dos (ImpAt b) w F (fillS s p d).1 (fillS s p d).2) := by
  obtain ⟨o1, o2, o3⟩ := o
  have hcat := cat_size p
  obtain ⟨k1, s1, h1⟩ : ∃ k s1, writeS s (p ++ tT) d = (k, s1) := ⟨_, _, rfl⟩
  rw [h1] at o2 o3
  simp only at o2 o3
  obtain ⟨k2, s2, h2⟩ : ∃ k s2, syncS s1 (p ++ tT) = (k, s2) := ⟨_, _, rfl⟩
  rw [h2] at o3
  simp only at o3
  have c1 : Calls Tryz.prog 118 #[.pointer (some ⟨b, 0, none⟩), .string (p ++ ⟨#[95, 116]⟩), .string d] w (Dos (ImpAt b) w F k1 s1) := iw_write (p ++ tT) d h o1 (by omega) hd h1
  have c2 : ∀ {W F1}, ImpAt b W F1 s1 → Calls Tryz.prog 81 #[.pointer (some ⟨b, 0, none⟩), .string (p ++ ⟨#[95, 116]⟩)] W (Dos (ImpAt b) W F1 k2 s2) := fun {W F1} hW => iw_sync (p ++ tT) hW o2 (by omega) h2
  have c3 : ∀ {W F1}, ImpAt b W F1 s2 → Calls Tryz.prog 119 #[.pointer (some ⟨b, 0, none⟩), .string (p ++ ⟨#[95, 116]⟩), .string p] W (Dos (ImpAt b) W F1 (renameS s2 (p ++ tT) p).1 (renameS s2 (p ++ tT) p).2) := fun {W F1} hW => iw_rename (p ++ tT) p hW o3 (by omega) (by omega) rfl
  by_cases e1 : k1 ≠ 0
  · rw [fill_1 h1 e1]
    have n1 := Dk.ne_eq e1
    clear h o1 o2 o3 c2 c3 h1 h2 e1
    go_enter Tryz.func84, Tryz.ntmps84
    go_wp2_with fail
    go_at_call 118
    refine c1.mono ?_
    rintro e w1 ⟨rfl, hl1⟩
    go_wp2_with fail
    go_ret
    exact ⟨rfl, hl1⟩
  · obtain rfl : k1 = 0 := by omega
    by_cases e2 : k2 ≠ 0
    · rw [fill_2 h1 h2 e2]
      have n2 := Dk.ne_eq e2
      clear h o1 o2 o3 c3 h1 h2 e1 e2
      go_enter Tryz.func84, Tryz.ntmps84
      go_wp2_with fail
      go_at_call 118
      refine c1.mono ?_
      rintro e w1 ⟨rfl, F1, p1, q1, r1⟩
      go_wp2_with fail
      go_at_call 81
      refine (c2 p1).mono ?_
      rintro e w2 ⟨rfl, hl2⟩
      go_wp2_with fail
      go_ret
      exact ⟨rfl, left_trans q1 r1 hl2⟩
    · obtain rfl : k2 = 0 := by omega
      rw [fill_3 h1 h2]
      clear h o1 o2 o3 h1 h2 e1 e2
      go_enter Tryz.func84, Tryz.ntmps84
      go_wp2_with fail
      go_at_call 118
      refine c1.mono ?_
      rintro e w1 ⟨rfl, F1, p1, q1, r1⟩
      go_wp2_with fail
      go_at_call 81
      refine (c2 p1).mono ?_
      rintro e w2 ⟨rfl, hl2⟩
      obtain ⟨F2, p2, q2, r2⟩ := left_trans q1 r1 hl2
      go_wp2_with fail
      go_at_call 119
      refine (c3 p2).mono ?_
      rintro e w3 ⟨rfl, hl3⟩
      go_wp2_with fail
      go_ret
      exact ⟨rfl, left_trans q2 r2 hl3⟩
end Go.Proofs.YtdkgkomjbpggeaaGreatDoor.Wl

namespace Go.Proofs.YtdkgkomjbpggeaaGreatDoor.Wl
open Go.RowKit Tx Pm Dk Fr
set_option linter.unusedVariables false
def Two (j b : Nat) (p : ByteArray) (W : World) : Prop := W.cell? ⟨j, 0, none⟩ = some (.pointer (some ⟨b, 0, none⟩)) ∧ W.cell? ⟨j, 1, none⟩ = some (.string p)
theorem Two.below {j b : Nat} {p : ByteArray} {W W1 : World} (h : Two j b p W) (hb : Below W.heap.size W W1) : Two j b p W1 := by
  have hj := World.block_lt_of_cell? W _ h.1
  exact ⟨(hb.cell (p := ⟨j, 0, none⟩) hj).trans h.1, (hb.cell (p := ⟨j, 1, none⟩) hj).trans h.2⟩
set_option maxRecDepth 100000 in
set_option maxHeartbeats 2000000 in
theorem regIAdd (ops : Array Oper) (hops : ops = (Rg.opsOf Tryz.f46 3)) (id : Nat) (j b : Nat) (p r K : ByteArray) (k : Nat) {u2 u3 u4 u5 u6 u7 u8 u9 u10 u11 u12 u13 u14 u15 u16 u17 u18 u19 u20 u21 u22 u23 u24 u25 u26 u27 u28 u29 u30 u31 u32 u33 u34 u35 u36 u37 u38 u39 u40 u41 u42 u43 u44 : Value} (w : World) (B : World → Prop) (hS : Two j b p w.drew)
    (cp : ∀ W, Calls Tryz.prog 34 #[.string r] W fun e w' => e = .returned (.string K) ∧ Below W.heap.size W w')
    (ca : ∀ W, Below w.drew.heap.size w.drew W → Calls Tryz.prog 80 #[.pointer (some ⟨b, 0, none⟩), .string p, .string K] W fun e w' => e = .returned (.int .i64 (k : Nat)) ∧ B w') (hBS : ∀ W, B W → Two j b p W) :
    (Code.region id ops true).wp Tryz.prog (Rg.Only fun a' w' => a' = ⟨#[(.pointer (some ⟨j, 0, none⟩)), (.string r), u2, u3, u4, (.int .i64 (k : Nat)), u6, u7, u8, (.pointer (some ⟨j, 0, none⟩)), (.pointer (some ⟨j, 0, none⟩)), (.pointer (some ⟨j, 0, none⟩)), (.pointer (some ⟨b, 0, none⟩)), (.pointer (some ⟨j, 0, none⟩)), (.pointer (some ⟨j, 0, none⟩)), (.pointer (some ⟨j, 1, none⟩)), (.string p), (.string r), (.string K), (.int .i64 (k : Nat)), u20, u21, u22, u23, u24, u25, u26, u27, u28, u29, u30, u31, u32, u33, u34, u35, u36, u37, u38, u39, u40, u41, u42, u43, u44], []⟩ ∧ B w') ⟨#[(.pointer (some ⟨j, 0, none⟩)), (.string r), u2, u3, u4, u5, u6, u7, u8, u9, u10, u11, u12, u13, u14, u15, u16, u17, u18, u19, u20, u21, u22, u23, u24, u25, u26, u27, u28, u29, u30, u31, u32, u33, u34, u35, u36, u37, u38, u39, u40, u41, u42, u43, u44], []⟩ w := by
  subst hops
  have hNS : Region.noSelect (Rg.opsOf Tryz.f46 3) = true := by kernel_rfl
  refine wp_region_held_drew (S := Two j b p) (by kernel_rfl) hS (fun hHeld => ?_)
  rw [show (Rg.opsOf Tryz.f46 3).size = 12 by kernel_rfl]
  refine Rg.takek 0 (some 9) (.pointer (some ⟨j, 0, none⟩)) hNS hHeld (Rg.y_movekL (x := .tmp 0)) ?_
  refine Rg.takek 1 (some 10) (.pointer (some ⟨j, 0, none⟩)) hNS hHeld (Rg.y_nilk (x := .tmp 9)) ?_
  refine Rg.takek 2 (some 11) (.pointer (some ⟨j, 0, none⟩)) hNS hHeld (Rg.y_fieldk (T := 132) (k := 0) (x := .tmp 10) (vx := (.pointer (some ⟨j, 0, none⟩))) ?_) ?_
  · (intro w hSw; clear hSw; go_simp)
  refine Rg.takek 3 (some 12) (.pointer (some ⟨b, 0, none⟩)) hNS hHeld (Rg.y_loadk (T := 23) (x := .tmp 11) (vx := (.pointer (some ⟨j, 0, none⟩))) ?_) ?_
  · (intro w hSw; obtain ⟨s0, s1⟩ := hSw; go_simp)
  refine Rg.takek 4 (some 13) (.pointer (some ⟨j, 0, none⟩)) hNS hHeld (Rg.y_movekL (x := .tmp 0)) ?_
  refine Rg.takek 5 (some 14) (.pointer (some ⟨j, 0, none⟩)) hNS hHeld (Rg.y_nilk (x := .tmp 13)) ?_
  refine Rg.takek 6 (some 15) (.pointer (some ⟨j, 1, none⟩)) hNS hHeld (Rg.y_fieldk (T := 132) (k := 1) (x := .tmp 14) (vx := (.pointer (some ⟨j, 0, none⟩))) ?_) ?_
  · (intro w hSw; clear hSw; go_simp)
  refine Rg.takek 7 (some 16) (.string p) hNS hHeld (Rg.y_loadk (T := 9) (x := .tmp 15) (vx := (.pointer (some ⟨j, 1, none⟩))) ?_) ?_
  · (intro w hSw; obtain ⟨s0, s1⟩ := hSw; go_simp)
  refine Rg.takek 8 (some 17) (.string r) hNS hHeld (Rg.y_movekL (x := .tmp 1)) ?_
  refine Rg.callk (fn := Tryz.f34) (xs := #[.tmp 17]) (ats := #[9]) 9 (some 18) 34 #[(.string r)] Tryz.func34 ?_
  refine (cp _).mono ?_
  rintro e w5 ⟨rfl, hb5⟩
  refine ⟨_, rfl, hS.below hb5, fun hHeld => ?_⟩
  refine Rg.callk (fn := Tryz.f80) (xs := #[.tmp 12, .tmp 16, .tmp 18]) (ats := #[23, 9, 9]) 10 (some 19) 80 #[(.pointer (some ⟨b, 0, none⟩)), (.string p), (.string K)] Tryz.func80 ?_
  refine (ca _ hb5).mono ?_
  rintro e w6 ⟨rfl, hB6⟩
  refine ⟨_, rfl, hBS _ hB6, fun hHeld => ?_⟩
  refine Rg.takek 11 (some 5) (.int .i64 (k : Nat)) hNS hHeld (Rg.y_movekR (x := .tmp 19)) ?_
  refine Rg.donek ?_
  exact ⟨by kernel_rfl, hB6⟩
end Go.Proofs.YtdkgkomjbpggeaaGreatDoor.Wl

namespace Go.Proofs.YtdkgkomjbpggeaaGreatDoor.Wl
open Go.RowKit Tx Pm Pl Pr Dk Fr
set_option linter.unusedVariables false
theorem add_1 {x : Jst} {p r : ByteArray} {k : Nat} {s1 : St} (h1 : appendS x.s p (Fm.pk r) = (k, s1)) (h : k ≠ 0) : addS x p r = (k, ⟨s1, x.R, x.dm⟩) := by
  unfold addS; rw [h1]; exact if_pos h
theorem add_2 {x : Jst} {p r : ByteArray} {k : Nat} {s1 s2 : St} (h1 : appendS x.s p (Fm.pk r) = (0, s1)) (h2 : syncS s1 p = (k, s2)) (h : k ≠ 0) : addS x p r = (k, ⟨s2, x.R, x.dm⟩) := by
  unfold addS; rw [h1]; simp only [h2]; rw [if_neg (fun h => h rfl), if_pos h]
theorem add_3 {x : Jst} {p r : ByteArray} {s1 s2 : St} (h1 : appendS x.s p (Fm.pk r) = (0, s1)) (h2 : syncS s1 p = (0, s2)) : addS x p r = (0, ⟨s2, x.R ++ [r], x.dm⟩) := by
  unfold addS; rw [h1]; simp only [h2]; rw [if_neg (fun h => h rfl), if_neg (fun h => h rfl)]
def AddOk (x : Jst) (p r : ByteArray) : Prop := Ok x.s ∧ Ok (appendS x.s p (Fm.pk r)).2 ∧ (old x.s.L p).data.size + (Fm.pk r).size ≤ 1000000000000000000 ∧ r.size ≤ 140737488355300 ∧ x.R.length ≤ 10000000000
theorem JAt.two {O : World → (Nat → Prop) → St → Prop} {T : TypeId} {b j : Nat} {p : ByteArray} {v : Value} {Fd : Nat → Prop} {w : World} {F : Nat → Prop} {x : Jst} (h : JAt O T b j p v Fd w F x) : Two j b p w := ⟨h.cell.1, h.cell.2.1⟩
theorem Mid.two {O : World → (Nat → Prop) → St → Prop} {T : TypeId} {b j : Nat} {p : ByteArray} {v : Value} {w W : World} {F : Nat → Prop} {x : Jst} (h : Mid O T b j p v w F x W) : Two j b p W := by
  obtain ⟨_, _, q, _⟩ := h
  exact q.two
theorem Mid.call {O : World → (Nat → Prop) → St → Prop} (k : Dk.Kind O) {T : TypeId} {b j : Nat} {p : ByteArray} {v : Value} {w W : World} {F : Nat → Prop} {x : Jst} {s' : St} {n : Nat} {f : FuncId} {args : Array Value} (h : Mid O T b j p v w F x W)
    (hc : ∀ {Fd}, O W Fd x.s → Calls Tryz.prog f args W (Dos O W Fd n s')) : Calls Tryz.prog f args W fun e w' => e = .returned (.int .i64 (n : Nat)) ∧ Mid O T b j p v w F ⟨s', x.R, x.dm⟩ w' := by
  obtain ⟨Fd, F', q, h1, h2⟩ := h
  refine (hc q.dsk).mono ?_
  rintro e w' ⟨rfl, hl⟩
  obtain ⟨Fd2, F2, q2, c2, n2⟩ := q.disk_left k hl
  exact ⟨rfl, Mid.trans h1 h2 ⟨Fd2, F2, q2, c2, n2⟩⟩
theorem own_form {w : World} {B size n : Nat} {e : TypeId} {v : Value} {xs : List Value} (h : w.ownsRow B e size v n xs) : ∃ a c, v = .slice a n c := by
  rcases h.2 with ⟨rfl, h0⟩ | ⟨g, cap, cur, rfl, _⟩
  · exact ⟨none, 0, by rw [h0]⟩
  · exact ⟨_, _, rfl⟩
theorem info9 : (Tryz.prog.info? 9).map (fun i => (i.zero, i.size, i.bytes)) = some (some (.string ⟨#[]⟩), 1, 16) := by kernel_rfl
theorem JAt.grown {O : World → (Nat → Prop) → St → Prop} (k : Dk.Kind O) {T : TypeId} {b j : Nat} {p r : ByteArray} {v v' : Value} {Fd : Nat → Prop} {w w0 w1 : World} {F : Nat → Prop} {x : Jst} (h : JAt O T b j p v Fd w F x) (hb : Below w.heap.size w w0)
    (hown : w1.ownsRow 0 9 1 v' (x.R.length + 1) (x.R.map Fr.sv ++ [Fr.sv r])) (hg : (v'.ownBlock = v.ownBlock ∧ w0.grownBy w1 v.ownBlock) ∨ (v'.ownBlock = some w0.heap.size ∧ w0.grownBy w1 none)) :
    (w1.cell? ⟨j, 2, none⟩ = some v ∧ w1.frozen? ⟨j, 2, none⟩ = false) ∧ LeftA (Jn O T b j p) w F ⟨x.s, x.R ++ [r], x.dm⟩ (w1.setCell ⟨j, 2, none⟩ v') := by
  have hj : j < w.heap.size := (Array.getElem?_eq_some_iff.1 h.blk).1
  have hj0 : j < w0.heap.size := Nat.lt_of_lt_of_le hj hb.size
  have hc : Chg (fun i => v.ownBlock = some i) w w1 := by
    rcases hg with ⟨_, g⟩ | ⟨_, g⟩
    · obtain ⟨g1, g2, g3, g4, g5⟩ := g
      exact ⟨g1.trans hb.os, g2.trans hb.tape, g3.trans hb.output, Nat.le_trans hb.size g4, fun i hi hn => (g5 i (Nat.lt_of_lt_of_le hi hb.size) (fun e => hn e.symm)).trans (hb.block i hi)⟩
    · obtain ⟨g1, g2, g3, g4, g5⟩ := g
      exact ⟨g1.trans hb.os, g2.trans hb.tape, g3.trans hb.output, Nat.le_trans hb.size g4, fun i hi hn => (g5 i (Nat.lt_of_lt_of_le hi hb.size) (by simp)).trans (hb.block i hi)⟩
  have hblk : w1.heap[j]? = _ := (hc.block j hj h.ne).trans h.blk
  have hvj : v'.ownBlock ≠ some j := by
    rcases hg with ⟨e, _⟩ | ⟨e, _⟩
    · rw [e]; exact h.ne
    · rw [e]; intro e2; injection e2 with e2; omega
  refine ⟨⟨by unfold World.cell?; rw [hblk]; rfl, by unfold World.frozen?; rw [hblk]; simp⟩, ?_⟩
  refine Mid.left (h.poke k (v' := v') (w1 := w1.setCell ⟨j, 2, none⟩ v') ((hc.mono (fun i hi => .inr hi)).trans ((chg_set (b := j) (k := 2) v').mono (fun i hi => Or.inl hi)) (fun i hi => .inl hi)) ?_ ?_ ?_)
  · rw [set_block hblk]
    rfl
  · have ht : Fr.Texts w1 0 v' (x.R ++ [r]) := by
      unfold Fr.Texts
      rw [List.length_append, List.map_append]
      exact hown
    exact own_kept ht (fun g hgb => set_other v' (fun e => hvj (e ▸ hgb)))
  · intro i hi
    rcases hg with ⟨e, _⟩ | ⟨e, _⟩
    · exact .inl (by rw [← e]; exact hi)
    · rw [e] at hi; injection hi with hi; exact .inr (by rw [← hi]; exact hb.size)
set_option maxRecDepth 100000 in
set_option maxHeartbeats 2000000 in
theorem iAdd_any (b j : Nat) {F Fd : Nat → Prop} {x : Jst} {v : Value} (p r : ByteArray) (w : World) (h : JAt (ImpAt b) 132 b j p v Fd w F x) (o : AddOk x p r) (hp : p.size ≤ 1000) :
    Calls Tryz.prog 46 #[.pointer (some ⟨j, 0, none⟩), .string r] w fun e w' => e = .returned (.int .i64 ((addS x p r).1 : Nat)) ∧ LeftA (Jn (ImpAt b) 132 b j p) w F (addS x p r).2 w' := by
  obtain ⟨o1, o2, o3, o4, o5⟩ := o
  obtain ⟨a0, c0, hform, _⟩ := h.row.form
  have kk := imp_kind b
  have hpk := Fm.pk_size r
  obtain ⟨k1, s1, h1⟩ : ∃ k s1, appendS x.s p (Fm.pk r) = (k, s1) := ⟨_, _, rfl⟩
  rw [h1] at o2
  simp only at o2
  obtain ⟨k2, s2, h2⟩ : ∃ k s2, syncS s1 p = (k, s2) := ⟨_, _, rfl⟩
  have cp := fun W => fPack_any r W o4
  have ca : ∀ W, Below w.drew.heap.size w.drew W → Calls Tryz.prog 80 #[.pointer (some ⟨b, 0, none⟩), .string p, .string (Fm.pk r)] W fun e w' => e = .returned (.int .i64 (k1 : Nat)) ∧ Mid (ImpAt b) 132 b j p v w F ⟨s1, x.R, x.dm⟩ w' := fun W hW =>
    (Mid.of kk h (below_call (Below.refl w.heap.size w).drew hW)).call kk (fun hd => iw_append p (Fm.pk r) hd o1 (by omega) (by omega) o3 h1)
  have cs : ∀ W, Mid (ImpAt b) 132 b j p v w F ⟨s1, x.R, x.dm⟩ W → Calls Tryz.prog 81 #[.pointer (some ⟨b, 0, none⟩), .string p] W.drew fun e w' => e = .returned (.int .i64 (k2 : Nat)) ∧ Mid (ImpAt b) 132 b j p v w F ⟨s2, x.R, x.dm⟩ w' := fun W hW => by
    obtain ⟨Fd', F', q, q2, q3⟩ := hW
    exact (Mid.trans q2 q3 (Mid.of kk q (Below.refl _ W).drew)).call (x := ⟨s1, x.R, x.dm⟩) kk (fun hd => iw_sync p hd o2 (by omega) h2)
  have hS := (h.below kk (Below.refl w.heap.size w).drew).two
  have hBS := fun W (hW : Mid (ImpAt b) 132 b j p v w F ⟨s1, x.R, x.dm⟩ W) => hW.two
  have HS := Lib.hid hS
  have HCA := Lib.hid ca
  have HCS := Lib.hid cs
  have HBS := Lib.hid hBS
  generalize hK : Fm.pk r = K at cp ca HCA h1
  by_cases e1 : k1 ≠ 0
  · rw [add_1 (by rw [hK]; exact h1) e1]
    have n1 := Dk.ne_eq e1
    clear h o1 o2 o3 h1 h2 e1 hS ca cs hBS hK hpk
    go_enter Tryz.func46, Tryz.ntmps46
    go_wp2_with fail
    refine Rg.wp_only ?_ (regIAdd _ (by kernel_rfl) _ j b p r K k1 _ _ HS.out cp HCA.out HBS.out)
    rintro _ w9 ⟨rfl, hB9⟩
    go_wp2_with fail
    go_ret
    exact ⟨rfl, hB9.left⟩
  · obtain rfl : k1 = 0 := by omega
    by_cases e2 : k2 ≠ 0
    · rw [add_2 (by rw [hK]; exact h1) h2 e2]
      have n2 := Dk.ne_eq e2
      clear h o1 o2 o3 h1 h2 e1 e2 hS ca cs hBS hK hpk
      go_enter Tryz.func46, Tryz.ntmps46
      go_wp2_with fail
      refine Rg.wp_only ?_ (regIAdd _ (by kernel_rfl) _ j b p r K 0 _ _ HS.out cp HCA.out HBS.out)
      rintro _ w9 ⟨rfl, hB9⟩
      obtain ⟨t0, t1⟩ := hB9.two
      have c9 := HCS.out _ hB9
      go_wp2_with fail
      go_still_tail 8, (by kernel_rfl)
      change wpList _ _ _ _ _ w9.drew
      go_wp2_with (go_at_call 81; refine c9.mono ?_; rintro e w5 ⟨rfl, h5⟩)
      go_ret
      exact ⟨rfl, h5.left⟩
    · obtain rfl : k2 = 0 := by omega
      rw [add_3 (by rw [hK]; exact h1) h2]
      clear h o1 o2 o3 h1 h2 e1 e2 hS ca cs hBS hK hpk
      obtain ⟨i0, hi, hz0, hz1, hz2⟩ := info_parts info9
      obtain ⟨n0, hn0⟩ : ∃ n0, n0 = x.R.length := ⟨_, rfl⟩
      rw [← hn0] at hform o5
      have HN0 := Lib.hid hn0
      subst hform
      clear hn0
      go_enter Tryz.func46, Tryz.ntmps46
      go_wp2_with fail
      refine Rg.wp_only ?_ (regIAdd _ (by kernel_rfl) _ j b p r K 0 _ _ HS.out cp HCA.out HBS.out)
      rintro _ w9 ⟨rfl, hB9⟩
      obtain ⟨t0, t1⟩ := hB9.two
      have c9 := HCS.out _ hB9
      go_wp2_with fail
      go_still_tail 8, (by kernel_rfl)
      change wpList _ _ _ _ _ w9.drew
      go_wp2_with fail
      go_at_call 81
      refine c9.mono ?_
      rintro e w5 ⟨rfl, Fd5, F5, q5, k5, n5⟩
      obtain ⟨t50, t51, t52, t53⟩ := q5.cell
      have hrow := q5.row
      unfold Fr.Texts at hrow
      have HQ := Lib.hid q5
      clear q5
      rw [← HN0.out] at hrow
      go_wp2_with (at_builtin; refine Ap.wpList_append_two _ rfl _ _ 52 rfl 0 9 i0 (.string ⟨#[]⟩) 1 16 Tryz.underlying52 hi hz0 hz1 hz2 rfl (by decide) (by decide) _ _ _ rfl (hrow.alloc _) ⟨w5.heap.size, 0, none⟩ 1 [Fr.sv r] rfl rfl ?c1 ?c2 ?c3 ?c4 ?c5 ?_)
      case c1 => exact cell_one_new _ _ _
      case c2 => exact Fr.sv_one [r]
      case c3 => omega
      case c4 => omega
      case c5 => exact Nat.zero_le _
      intro v' w6 hown hg
      obtain ⟨a6, c6, rfl⟩ := own_form hown
      obtain ⟨⟨g1, g2⟩, hfin⟩ := HQ.out.grown (r := r) kk ((Below.refl _ w5).alloc (Nat.le_refl _) (.cells #[.string r] 9)) (by rw [← HN0.out]; exact hown) (by rw [World.size_alloc]; exact hg)
      have HFIN := Lib.hid (hfin.trans k5 n5)
      clear hown hg hrow hfin
      go_wp2_with fail
      go_ret
      exact ⟨rfl, HFIN.out⟩
end Go.Proofs.YtdkgkomjbpggeaaGreatDoor.Wl

namespace Go.Proofs.YtdkgkomjbpggeaaGreatDoor.Wl
open Go.RowKit Tx Pm Pl Pr Dk Fr
set_option linter.unusedVariables false
theorem scf_le (s : ByteArray) : ∀ (f a : Nat), a ≤ s.size → (Fm.scf s f a).2.1 ≤ s.size
  | 0, a, h => h
  | f + 1, a, h => by
    by_cases hl : a < s.size
    · obtain ⟨t, n, e, h2⟩ := Fm.trip (Fm.fr (s.extract a s.size))
      by_cases he : e = 0
      · subst he
        have hn := (Fm.fr_ok h2).2.2.1
        have hs : (s.extract a s.size).size = s.size - a := by simp
        rw [Fm.scf_one f hl h2]
        exact scf_le s f (a + n) (by omega)
      · rw [Fm.scf_bad f hl h2 he]
        exact h
    · rw [Fm.scf_end _ hl]
      exact h
theorem sc_le (s : ByteArray) : (Fm.sc s 0).2.1 ≤ s.size := scf_le s _ 0 (Nat.zero_le _)
theorem own_zero {w : World} {B size n : Nat} {e : TypeId} {v : Value} {xs : List Value} (h : w.ownsRow B e size v n xs) : w.ownsRow 0 e size v n xs := by
  refine ⟨h.1, ?_⟩
  rcases h.2 with h0 | ⟨g, cap, cur, hv, hg, r⟩
  · exact .inl h0
  · exact .inr ⟨g, cap, cur, hv, Nat.zero_le _, r⟩
theorem own_base {w : World} {B size n i : Nat} {e : TypeId} {v : Value} {xs : List Value} (h : w.ownsRow B e size v n xs) (hi : v.ownBlock = some i) : B ≤ i := by
  rcases h.2 with ⟨rfl, h0⟩ | ⟨g, cap, cur, rfl, hg, r⟩
  · cases hi
  · have e : g = i := by simpa [Value.ownBlock] using hi
    omega
set_option maxRecDepth 100000 in
set_option maxHeartbeats 2000000 in
theorem iReset_any (b j : Nat) {F Fd : Nat → Prop} {x : Jst} {v : Value} (p : ByteArray) (w : World) (h : JAt (ImpAt b) 132 b j p v Fd w F x) (o : FillOk x.s p ⟨#[]⟩) (hp : p.size ≤ 1000) :
    Calls Tryz.prog 86 #[.pointer (some ⟨j, 0, none⟩)] w fun e w' => e = .returned (.int .i64 ((resetS x p).1 : Nat)) ∧ LeftA (Jn (ImpAt b) 132 b j p) w F (resetS x p).2 w' := by
  have kk := imp_kind b
  obtain ⟨k1, s1, h1⟩ : ∃ k s1, fillS x.s p ⟨#[]⟩ = (k, s1) := ⟨_, _, rfl⟩
  have hM := Mid.of kk h (Below.refl w.heap.size w).drew
  have c1 : Calls Tryz.prog 84 #[.pointer (some ⟨b, 0, none⟩), .string p, .string ⟨#[]⟩] w.drew fun e w' => e = .returned (.int .i64 (k1 : Nat)) ∧ Mid (ImpAt b) 132 b j p v w F ⟨s1, x.R, x.dm⟩ w' := hM.call kk (fun hd => by
    have := iFill_any b p ⟨#[]⟩ w.drew hd o hp (by decide)
    rw [h1] at this
    exact this)
  obtain ⟨t0, t1, _, _⟩ := h.cell
  have hr : resetS x p = if k1 ≠ 0 then (k1, ⟨s1, x.R, x.dm⟩) else (0, ⟨s1, [], x.dm⟩) := by
    unfold resetS
    rw [h1]
  by_cases e1 : k1 ≠ 0
  · rw [hr, if_pos e1]
    have n1 := Dk.ne_eq e1
    clear h o hM e1 h1 hr
    go_enter Tryz.func86, Tryz.ntmps86
    go_wp2_with fail
    go_still_tail 8, (by kernel_rfl)
    change wpList _ _ _ _ _ w.drew
    go_wp2_with fail
    go_at_call 84
    refine c1.mono ?_
    rintro e w5 ⟨rfl, h5⟩
    go_wp2_with fail
    go_ret
    exact ⟨rfl, h5.left⟩
  · obtain rfl : k1 = 0 := by omega
    rw [hr, if_neg (fun h => h rfl)]
    clear h o hM e1 h1 hr
    go_enter Tryz.func86, Tryz.ntmps86
    go_wp2_with fail
    go_still_tail 8, (by kernel_rfl)
    change wpList _ _ _ _ _ w.drew
    go_wp2_with fail
    go_at_call 84
    refine c1.mono ?_
    rintro e w5 ⟨rfl, Fd5, F5, q5, k5, n5⟩
    obtain ⟨t50, t51, t52, t53⟩ := q5.cell
    have hwm := q5.warm 2
    have hfin : LeftA (Jn (ImpAt b) 132 b j p) w F ⟨s1, [], x.dm⟩ (w5.setCell ⟨j, 2, none⟩ (.slice none 0 0)) := by
      refine LeftA.trans k5 n5 (Mid.left (q5.poke kk (v' := .slice none 0 0) ((chg_set (b := j) (k := 2) (.slice none 0 0)).mono (fun i hi => Or.inl hi)) ?_ (World.ownsRow_nil _ _ _ _) (fun i hi => by cases hi)))
      rw [set_block q5.blk]
      rfl
    have HF := Lib.hid hfin
    clear q5 k5 n5 hfin
    go_wp2_with fail
    go_ret
    exact ⟨rfl, HF.out⟩
theorem same_belowW {w w' : World} (h : w = w') : Below w.heap.size w w' := by
  subst h
  exact Below.refl _ _
def OpenOk (s : St) (p : ByteArray) : Prop := (kind s.L p = 0 → FillOk s p ⟨#[]⟩) ∧ (kind s.L p ≠ 0 → (readS s p).1.size ≤ 1000000000000000000 ∧ (Fm.sc (readS s p).1 0).1.length ≤ 10000000000 ∧ ((Fm.sc (readS s p).1 0).2.2 ≠ 0 → FillOk s p ((readS s p).1.extract 0 (Fm.sc (readS s p).1 0).2.1)))
theorem open_0 {s s1 : St} {p : ByteArray} {k : Nat} (h : kind s.L p = 0) (h1 : fillS s p ⟨#[]⟩ = (k, s1)) : openS s p = (k, ⟨s1, [], false⟩) := by
  unfold openS; rw [if_pos h, h1]
theorem open_1 {s : St} {p t : ByteArray} {k : Nat} (h : kind s.L p ≠ 0) (h1 : readS s p = (t, k)) (hk : k ≠ 0) : openS s p = (k, ⟨s, [], false⟩) := by
  unfold openS; rw [if_neg h, h1]; exact if_pos hk
theorem open_2 {s : St} {p t : ByteArray} {R : List ByteArray} {g : Nat} (h : kind s.L p ≠ 0) (h1 : readS s p = (t, 0)) (h2 : Fm.sc t 0 = (R, g, 0)) : openS s p = (0, ⟨s, R, false⟩) := by
  unfold openS; rw [if_neg h, h1]; simp only [h2]; rfl
theorem open_3 {s s1 : St} {p t : ByteArray} {R : List ByteArray} {g e k : Nat} (h : kind s.L p ≠ 0) (h1 : readS s p = (t, 0)) (h2 : Fm.sc t 0 = (R, g, e)) (he : e ≠ 0) (h3 : fillS s p (t.extract 0 g) = (k, s1)) : openS s p = (k, ⟨s1, R, bad e⟩) := by
  unfold openS; rw [if_neg h, h1]; simp only [h2]; rw [if_neg (by show ¬ (0 ≠ 0); decide), if_neg he, h3]
theorem JAt.scanned {O : World → (Nat → Prop) → St → Prop} (k : Dk.Kind O) {T : TypeId} {b j : Nat} {p : ByteArray} {v : Value} {Fd : Nat → Prop} {w w2 : World} {F : Nat → Prop} {s : St} {dm : Bool} {R : List ByteArray} {B : Nat} (h : JAt O T b j p (.slice none 0 0) Fd w F ⟨s, [], false⟩) (hb : Below w.heap.size w w2) (hr : Fr.Texts w2 B v R) (hB : w.heap.size ≤ B) :
    (w2.cell? ⟨j, 2, none⟩ = some (.slice none 0 0) ∧ w2.frozen? ⟨j, 2, none⟩ = false) ∧ ((w2.setCell ⟨j, 2, none⟩ v).cell? ⟨j, 3, none⟩ = some (.bool false) ∧ (w2.setCell ⟨j, 2, none⟩ v).frozen? ⟨j, 3, none⟩ = false) ∧
    Mid O T b j p v w F ⟨s, R, dm⟩ ((w2.setCell ⟨j, 2, none⟩ v).setCell ⟨j, 3, none⟩ (.bool dm)) := by
  have hj : j < w.heap.size := (Array.getElem?_eq_some_iff.1 h.blk).1
  have hblk := (hb.block j hj).trans h.blk
  have hblk3 : (w2.setCell ⟨j, 2, none⟩ v).heap[j]? = some (.cells #[.pointer (some ⟨b, 0, none⟩), .string p, v, .bool false] T (0, 0)) := by
    rw [set_block hblk]
    rfl
  have hvj : v.ownBlock ≠ some j := fun e => by
    have := own_base hr e
    omega
  refine ⟨⟨by unfold World.cell?; rw [hblk]; rfl, by unfold World.frozen?; rw [hblk]; simp⟩, ⟨by unfold World.cell?; rw [hblk3]; rfl, by unfold World.frozen?; rw [hblk3]; simp⟩, ?_⟩
  refine h.poke k (v' := v) (((Chg.of_below hb).trans (F := fun i => i = j ∨ (Value.slice none 0 0).ownBlock = some i) ((chg_set (b := j) (k := 2) v).mono (fun i hi => Or.inl hi)) (fun i hi => .inl hi)).then ((chg_set (b := j) (k := 3) (.bool dm)).mono (fun i hi => Or.inl hi))) ?_ ?_ ?_
  · rw [set_block hblk3]
    rfl
  · exact own_kept (own_kept (own_zero hr) (fun g hg => set_other v (fun e => hvj (by rw [← e]; exact hg)))) (fun g hg => set_other _ (fun e => hvj (by rw [← e]; exact hg)))
  · intro i hi
    have := own_base hr hi
    exact .inr (by omega)
set_option maxRecDepth 100000 in
set_option maxHeartbeats 4000000 in
theorem iBegin_any (b j : Nat) {F Fd : Nat → Prop} {s : St} (p : ByteArray) (w : World) (h : JAt (ImpAt b) 132 b j p (.slice none 0 0) Fd w F ⟨s, [], false⟩) (o : OpenOk s p) (hp : p.size ≤ 1000) :
    Calls Tryz.prog 100 #[.pointer (some ⟨j, 0, none⟩)] w fun e w' => e = .returned (.int .i64 ((openS s p).1 : Nat)) ∧ LeftA (Jn (ImpAt b) 132 b j p) w F (openS s p).2 w' := by
  have kk := imp_kind b
  obtain ⟨o1, o2⟩ := o
  have hd1 := (Below.refl w.heap.size w).drew
  have ck := (iw_kind p (h.below kk hd1).dsk (by omega)).mono fun e w' (hh : _ ∧ w.drew = w') => (⟨hh.1, same_belowW hh.2⟩ : _ ∧ Below w.drew.heap.size w.drew w')
  obtain ⟨t0, t1, _, _⟩ := h.cell
  have hcl : ∀ W, Below w.drew.heap.size w.drew W → W.cell? ⟨j, 0, none⟩ = some (.pointer (some ⟨b, 0, none⟩)) ∧ W.cell? ⟨j, 1, none⟩ = some (.string p) := fun W hW => (h.below kk (below_call hd1 hW)).two
  have HCL := Lib.hid hcl
  clear hcl
  by_cases hk : kind s.L p = 0
  · obtain ⟨k1, s1, h1⟩ : ∃ k s1, fillS s p ⟨#[]⟩ = (k, s1) := ⟨_, _, rfl⟩
    rw [open_0 hk h1]
    have c1 : ∀ W, Below w.drew.heap.size w.drew W → Calls Tryz.prog 84 #[.pointer (some ⟨b, 0, none⟩), .string p, .string ⟨#[]⟩] W.drew fun e w' => e = .returned (.int .i64 (k1 : Nat)) ∧ Mid (ImpAt b) 132 b j p (.slice none 0 0) w F ⟨s1, [], false⟩ w' := fun W hW => (Mid.of kk h (below_call hd1 hW.drew)).call kk (fun hd => by
      have := iFill_any b p ⟨#[]⟩ W.drew hd (o1 hk) hp (by decide)
      rw [h1] at this
      exact this)
    rw [hk] at ck
    clear h o1 o2 hk h1 hd1
    go_enter Tryz.func100, Tryz.ntmps100
    go_wp2_with fail
    go_still_tail 8, (by kernel_rfl)
    change wpList _ _ _ _ _ w.drew
    go_wp2_with fail
    go_at_call 24
    refine ck.mono ?_
    rintro e w4 ⟨rfl, hb4⟩
    obtain ⟨u0, u1⟩ := HCL.out _ hb4
    go_wp2_with fail
    go_still_tail 8, (by kernel_rfl)
    change wpList _ _ _ _ _ w4.drew
    go_wp2_with fail
    go_at_call 84
    refine (c1 _ hb4).mono ?_
    rintro e w5 ⟨rfl, h5⟩
    go_wp2_with fail
    go_ret
    exact ⟨rfl, h5.left⟩
  · have nk := Dk.ne_eq hk
    obtain ⟨q1, q2, q3⟩ := o2 hk
    obtain ⟨t, k, hrd⟩ : ∃ t k, readS s p = (t, k) := ⟨_, _, rfl⟩
    have hd2 : ∀ W, Below w.drew.heap.size w.drew W → Below w.heap.size w W.drew := fun W hW => below_call hd1 hW.drew
    have cr := fun W hW => iw_read p (h.below kk (hd2 W hW)).dsk (by omega)
    rw [hrd] at q1 q2 q3 cr
    simp only at q1 q2 q3 cr
    by_cases hk0 : k ≠ 0
    · rw [open_1 hk hrd hk0]
      have n0 := Dk.ne_eq hk0
      have hfin : ∀ W4 W, Below w.drew.heap.size w.drew W4 → Below W4.drew.heap.size W4.drew W → LeftA (Jn (ImpAt b) 132 b j p) w F ⟨s, [], false⟩ W := fun W4 W h4 hW => (Mid.of kk h (below_call (hd2 _ h4) hW)).left
      have HF := Lib.hid hfin
      generalize kind s.L p = K at ck nk
      clear h o1 o2 hk hd1 hd2 hfin hrd hk0 q1 q2 q3
      go_enter Tryz.func100, Tryz.ntmps100
      go_wp2_with fail
      go_still_tail 8, (by kernel_rfl)
      change wpList _ _ _ _ _ w.drew
      go_wp2_with fail
      go_at_call 24
      refine ck.mono ?_
      rintro e w4 ⟨rfl, hb4⟩
      obtain ⟨u0, u1⟩ := HCL.out _ hb4
      go_wp2_with fail
      go_region_with (go_at_call 62; refine (cr _ hb4).mono ?_; rintro e w5 ⟨rfl, h5⟩)
      all_goals
        go_wp2_with fail
        go_ret
        exact ⟨rfl, HF.out _ _ hb4 h5⟩
    · obtain rfl : k = 0 := by omega
      obtain ⟨R, g, e, hsc⟩ := Fm.trip (Fm.sc t 0)
      have hgl := sc_le t
      have cs := fun W => Fr.fScan_w t W q1 q2
      unfold Fr.ScanTo at cs
      rw [hsc] at q2 q3 hgl cs
      simp only at q2 q3 hgl cs
      have hcell : ∀ W, Below w.heap.size w W → W.cell? ⟨j, 0, none⟩ = some (.pointer (some ⟨b, 0, none⟩)) ∧ W.cell? ⟨j, 1, none⟩ = some (.string p) := fun W hW => (h.below kk hW).two
      have HC := Lib.hid hcell
      have HD2 := Lib.hid hd2
      have HH := Lib.hid h
      have HN := Lib.hid (show R.length ≤ 10000000000 from q2)
      by_cases he : e = 0
      · subst he
        rw [open_2 hk hrd hsc]
        generalize kind s.L p = K at ck nk
        clear h o1 o2 hk hd1 hd2 hrd hk0 q1 q2 q3 hsc hcell
        go_enter Tryz.func100, Tryz.ntmps100
        go_wp2_with fail
        go_still_tail 8, (by kernel_rfl)
        change wpList _ _ _ _ _ w.drew
        go_wp2_with fail
        go_at_call 24
        refine ck.mono ?_
        rintro e w4 ⟨rfl, hb4⟩
        obtain ⟨u0, u1⟩ := HCL.out _ hb4
        go_wp2_with fail
        go_region_with (go_at_call 62; refine (cr _ hb4).mono ?_; rintro e w5 ⟨rfl, h5⟩)
        all_goals
          have hb5 := below_call (HD2.out _ hb4) h5
          go_wp2_with fail
          go_at_call 136
          refine (cs _).mono ?_
          rintro e w6 ⟨v, rfl, htx, hb6'⟩
          have hb6 := below_call hb5 hb6'
          obtain ⟨⟨g1, g2⟩, ⟨g3, g4⟩, hfin⟩ := HH.out.scanned kk (dm := false) hb6 htx hb5.size
          obtain ⟨a6, c6, hv⟩ := own_form htx
          obtain ⟨n6, hn6⟩ : ∃ n6, n6 = R.length := ⟨_, rfl⟩
          rw [← hn6] at hv
          have HFIN := Lib.hid hfin
          clear hn6 htx hfin hb6' h5
          subst hv
          go_wp2_with fail
          go_ret
          exact ⟨rfl, HFIN.out.left⟩
      · have hfk := q3 he
        obtain ⟨k1, s1, h1⟩ : ∃ k s1, fillS s p (t.extract 0 g) = (k, s1) := ⟨_, _, rfl⟩
        rw [open_3 hk hrd hsc he h1]
        have hxs : (t.extract 0 g).size ≤ 1000000000000000000 := by rw [ByteArray.size_extract]; omega
        have c1 : ∀ (v : Value) (dm : Bool) (W : World), Mid (ImpAt b) 132 b j p v w F ⟨s, R, dm⟩ W → Calls Tryz.prog 84 #[.pointer (some ⟨b, 0, none⟩), .string p, .string (t.extract 0 g)] W fun e w' => e = .returned (.int .i64 (k1 : Nat)) ∧ Mid (ImpAt b) 132 b j p v w F ⟨s1, R, dm⟩ w' := fun v dm W hW => hW.call (x := ⟨s, R, dm⟩) kk (fun hd => by
          have := iFill_any b p (t.extract 0 g) W hd hfk hp hxs
          rw [h1] at this
          exact this)
        have HC1 := Lib.hid c1
        have ne0 := Dk.ne_eq he
        have hgz : (g : Int) ≤ (t.size : Int) := by omega
        have hts : (t.size : Int) ≤ 1000000000000000000 := by omega
        have hbad : bad e = (decide (e = 6) || decide (e = 3)) := rfl
        generalize kind s.L p = K at ck nk
        clear h o1 o2 hk hd1 hd2 hrd hk0 q1 q2 q3 hsc hcell hfk h1 hxs c1
        have n6 : ((e : Int) == 6) = decide (e = 6) := by by_cases h : e = 6 <;> simp [h]; omega
        have n3 : ((e : Int) == 3) = decide (e = 3) := by by_cases h : e = 3 <;> simp [h]; omega
        rw [hbad]
        clear hbad he
        generalize decide (e = 6) = b6 at n6 ⊢
        generalize decide (e = 3) = b3 at n3 ⊢
        go_enter Tryz.func100, Tryz.ntmps100
        go_wp2_with fail
        go_still_tail 8, (by kernel_rfl)
        change wpList _ _ _ _ _ w.drew
        go_wp2_with fail
        go_at_call 24
        refine ck.mono ?_
        rintro e w4 ⟨rfl, hb4⟩
        obtain ⟨u0, u1⟩ := HCL.out _ hb4
        go_wp2_with fail
        go_region_with (go_at_call 62; refine (cr _ hb4).mono ?_; rintro e w5 ⟨rfl, h5⟩)
        all_goals
          have hb5 := below_call (HD2.out _ hb4) h5
          go_wp2_with fail
          go_at_call 136
          refine (cs _).mono ?_
          rintro e w6 ⟨v, rfl, htx, hb6'⟩
          have hb6 := below_call hb5 hb6'
          obtain ⟨⟨g1, g2⟩, ⟨g3, g4⟩, hfin⟩ := HH.out.scanned kk (dm := b6 || b3) hb6 htx hb5.size
          have htwo := hfin.two
          obtain ⟨t60, t61⟩ := htwo
          have hfd := hfin.below kk (Below.refl _ _).drew
          have c6 := HC1.out _ _ _ hfd
          obtain ⟨a6, cp6, hv⟩ := own_form htx
          obtain ⟨m6, hm6⟩ : ∃ m6, m6 = R.length := ⟨_, rfl⟩
          rw [← hm6] at hv
          clear hm6 htx hfin hb6' h5 hfd
          subst hv
          cases b6
          · cases b3
            · rw [show (false || false) = false from rfl] at t60 t61 c6
              go_wp2_with fail
              generalize (w6.setCell { block := j, off := 2 } (Value.slice a6 m6 cp6)).setCell { block := j, off := 3 } (Value.bool false) = W7 at t60 t61 c6 ⊢
              go_still_tail 11, (by kernel_rfl)
              change wpList _ _ _ _ _ W7.drew
              go_wp2_with fail
              go_at_call 84
              refine c6.mono ?_
              rintro e w7 ⟨rfl, h7⟩
              go_wp2_with fail
              go_ret
              exact ⟨rfl, h7.left⟩
            · rw [show (false || true) = true from rfl] at t60 t61 c6
              go_wp2_with fail
              generalize (w6.setCell { block := j, off := 2 } (Value.slice a6 m6 cp6)).setCell { block := j, off := 3 } (Value.bool true) = W7 at t60 t61 c6 ⊢
              go_still_tail 11, (by kernel_rfl)
              change wpList _ _ _ _ _ W7.drew
              go_wp2_with fail
              go_at_call 84
              refine c6.mono ?_
              rintro e w7 ⟨rfl, h7⟩
              go_wp2_with fail
              go_ret
              exact ⟨rfl, h7.left⟩
          · cases b3
            · rw [show (true || false) = true from rfl] at t60 t61 c6
              go_wp2_with fail
              generalize (w6.setCell { block := j, off := 2 } (Value.slice a6 m6 cp6)).setCell { block := j, off := 3 } (Value.bool true) = W7 at t60 t61 c6 ⊢
              go_still_tail 11, (by kernel_rfl)
              change wpList _ _ _ _ _ W7.drew
              go_wp2_with fail
              go_at_call 84
              refine c6.mono ?_
              rintro e w7 ⟨rfl, h7⟩
              go_wp2_with fail
              go_ret
              exact ⟨rfl, h7.left⟩
            · rw [show (true || true) = true from rfl] at t60 t61 c6
              go_wp2_with fail
              generalize (w6.setCell { block := j, off := 2 } (Value.slice a6 m6 cp6)).setCell { block := j, off := 3 } (Value.bool true) = W7 at t60 t61 c6 ⊢
              go_still_tail 11, (by kernel_rfl)
              change wpList _ _ _ _ _ W7.drew
              go_wp2_with fail
              go_at_call 84
              refine c6.mono ?_
              rintro e w7 ⟨rfl, h7⟩
              go_wp2_with fail
              go_ret
              exact ⟨rfl, h7.left⟩
end Go.Proofs.YtdkgkomjbpggeaaGreatDoor.Wl

namespace Go.Proofs.YtdkgkomjbpggeaaGreatDoor.Wl
open Go.RowKit Tx Pm Pl Pr Dk Fr
set_option linter.unusedVariables false
def OpenTo (O : World → (Nat → Prop) → St → Prop) (T : TypeId) (b : Nat) (p : ByteArray) (w : World) (F : Nat → Prop) (r : Nat × Jst) (e : Ending) (w' : World) : Prop :=
  (r.1 = 0 ∧ ∃ j, e = .returned (.tuple #[.pointer (some ⟨j, 0, none⟩), .int .i64 0]) ∧ LeftA (Jn O T b j p) w F r.2 w') ∨ (r.1 ≠ 0 ∧ e = .returned (.tuple #[.pointer none, .int .i64 (r.1 : Nat)]) ∧ Dk.Left O w F r.2.s w')
theorem jn_disk {O : World → (Nat → Prop) → St → Prop} {T : TypeId} {b j : Nat} {p : ByteArray} {w w' : World} {F : Nat → Prop} {x : Jst} (h : LeftA (Jn O T b j p) w F x w') : Dk.Left O w F x.s w' := by
  obtain ⟨F', ⟨v, Fd, h1⟩, h2, h3⟩ := h
  exact ⟨Fd, h1.dsk, h2, fun g hg => h3 g ((h1.foot g).2 (.inl hg))⟩
theorem jat_new {O : World → (Nat → Prop) → St → Prop} (k : Dk.Kind O) (T : TypeId) (b : Nat) (p : ByteArray) {w : World} {F : Nat → Prop} {s : St} (h : O w F s) :
    JAt O T b w.heap.size p (.slice none 0 0) F (w.alloc (.cells #[.pointer (some ⟨b, 0, none⟩), .string p, .slice none 0 0, .bool false] T)) (fun i => F i ∨ i = w.heap.size) ⟨s, [], false⟩ :=
  ⟨k.kept h (fun i hi => ((Below.refl w.heap.size w).alloc (Nat.le_refl _) _).block i (k.lt h i hi)), new_at w _ rfl, World.ownsRow_nil _ _ _ _, (fun e => by cases e), fun i hi => ⟨fun e => by have := k.lt h i hi; omega, fun e => by cases e⟩, fun i => ⟨fun hh => hh.imp id (fun e => .inl e), fun hh => by rcases hh with hh | hh | hh; exact .inl hh; exact .inr hh; cases hh⟩⟩
theorem left_new {O : World → (Nat → Prop) → St → Prop} {T : TypeId} {b : Nat} {p : ByteArray} {w W : World} {F : Nat → Prop} {x : Jst} {o : Obj} (h : LeftA (Jn O T b w.heap.size p) (w.alloc o) (fun i => F i ∨ i = w.heap.size) x W) : LeftA (Jn O T b w.heap.size p) w F x W :=
  h.trans (F := F) (Chg.of_below ((Below.refl w.heap.size w).alloc (Nat.le_refl _) o)) (fun g hg => hg.imp id (fun e => Nat.le_of_eq e.symm))
set_option maxRecDepth 100000 in
set_option maxHeartbeats 2000000 in
theorem iOpen_any (b : Nat) {F : Nat → Prop} {s : St} (p : ByteArray) (w : World) (h : ImpAt b w F s) (o : OpenOk s p) (hp : p.size ≤ 1000) :
    Calls Tryz.prog 65 #[.pointer (some ⟨b, 0, none⟩), .string p] w (OpenTo (ImpAt b) 132 b p w F (openS s p)) := by
  have hJ := jat_new (imp_kind b) 132 b p h
  have c := iBegin_any b w.heap.size p _ hJ o hp
  obtain ⟨k, x, hx⟩ : ∃ k x, openS s p = (k, x) := ⟨_, _, rfl⟩
  rw [hx] at c ⊢
  simp only at c
  have hl : ∀ W, LeftA (Jn (ImpAt b) 132 b w.heap.size p) (w.alloc (.cells #[.pointer (some ⟨b, 0, none⟩), .string p, .slice none 0 0, .bool false] 132)) (fun i => F i ∨ i = w.heap.size) x W → LeftA (Jn (ImpAt b) 132 b w.heap.size p) w F x W := fun W hh => left_new hh
  have HL := Lib.hid hl
  by_cases h0 : k ≠ 0
  · have n0 := Dk.ne_eq h0
    have H0 := Lib.hid h0
    clear h hJ o hx hl h0
    go_enter Tryz.func65, Tryz.ntmps65
    go_wp2_with fail
    go_at_call 100
    refine c.mono ?_
    rintro e w5 ⟨rfl, h5⟩
    go_wp2_with fail
    go_ret2
    unfold OpenTo
    exact .inr ⟨H0.out, rfl, jn_disk (HL.out _ h5)⟩
  · obtain rfl : k = 0 := by omega
    clear h hJ o hx hl h0
    go_enter Tryz.func65, Tryz.ntmps65
    go_wp2_with fail
    go_at_call 100
    refine c.mono ?_
    rintro e w5 ⟨rfl, h5⟩
    go_wp2_with fail
    go_ret2
    unfold OpenTo
    exact .inl ⟨rfl, _, rfl, HL.out _ h5⟩
set_option maxRecDepth 100000 in
set_option maxHeartbeats 2000000 in
theorem clone_any (a : Option Addr) (n c : Nat) (l : List ByteArray) (w : World) (h : Fr.Texts w 0 (.slice a n c) l) (hn : n = l.length) (hl : n ≤ 10000000000) :
    Calls Tryz.prog 83 #[.slice a n c] w fun e w' => ∃ v', e = .returned v' ∧ Fr.Texts w' w.heap.size v' l ∧ Below w.heap.size w w' := by
  subst hn
  rcases h.2 with ⟨he, h0⟩ | ⟨g, cap, cur, he, hg, hh, hnc, hcm, _⟩
  · injection he with e1 e2 e3
    subst e1 e3
    have hl0 : l = [] := List.eq_nil_of_length_eq_zero h0
    subst hl0
    clear h h0 e2 hl
    have q24 : ∀ (w : World) (a : Option Addr) (n c n' c' : Nat), (binOp .eql 52 (.slice a n c) (.slice none n' c')).run Tryz.prog w = .ok (.bool a.isNone) w := fun w a n c n' c' => Lib.run_eql_slice_nil w _ _ a n c n' c' Tryz.underlying52
    go_enter Tryz.func83, Tryz.ntmps83
    go_wp2_with fail
    go_ret
    exact ⟨_, rfl, World.ownsRow_nil _ _ _ _, Below.refl _ _⟩
  · injection he with e1 e2 e3
    subst e1 e3
    obtain ⟨i0, hi, hz0, hz1, hz2⟩ := info_parts info9
    have hcells := h.cells (g := g) rfl
    obtain ⟨n, hn⟩ : ∃ n, n = l.length := ⟨_, rfl⟩
    have HN := Lib.hid hn
    have HCC := Lib.hid hcells
    rw [← hn] at hl ⊢
    clear h hh e2 hcells hn hnc hcm
    have q24 : ∀ (w : World) (a : Option Addr) (n c n' c' : Nat), (binOp .eql 52 (.slice a n c) (.slice none n' c')).run Tryz.prog w = .ok (.bool a.isNone) w := fun w a n c n' c' => Lib.run_eql_slice_nil w _ _ a n c n' c' Tryz.underlying52
    go_enter Tryz.func83, Tryz.ntmps83
    go_wp2_with (at_builtin; refine wpList_append_own _ rfl _ _ 52 rfl w.heap.size 9 i0 (.string { data := #[] }) 1 16 Tryz.underlying52 hi hz0 hz1 hz2 rfl (by decide) _ _ _ rfl (World.ownsRow_made w #[] 0 (Nat.le_refl _) (Nat.zero_le _) rfl) ⟨g, 0, none⟩ n c (l.map Fr.sv) rfl ?qc1 ?qc2 ?qc3 ?qc4 ?qc5 ?qc6 ?_)
    case qc1 => rw [List.length_map, ← HN.out, Nat.mul_one]
    case qc2 =>
      intro k u hk
      refine Lib.cell?_alloc_some _ ?_
      exact HCC.out k u hk
    case qc3 => exact Fr.sv_one l
    case qc4 => unfold maxLen; omega
    case qc5 => omega
    case qc6 => simp
    intro v' w1 hown hgrow hnil
    obtain ⟨a1, c1, rfl⟩ := own_form hown
    have hfin : Fr.Texts w1 w.heap.size (.slice a1 n c1) l := by
      unfold Fr.Texts
      rw [← HN.out]
      exact hown
    have hbel : Below w.heap.size w w1 := ((Below.refl _ w).alloc (Nat.le_refl _) _).grown hgrow (by simp) (by intro k hk; simp [Value.ownBlock] at hk; omega)
    have HF := Lib.hid hfin
    have HB := Lib.hid hbel
    clear hown hgrow hnil hfin hbel
    go_wp2_with fail
    go_ret
    exact ⟨_, rfl, HF.out, HB.out⟩
set_option maxRecDepth 100000 in
theorem iRecords_any {O : World → (Nat → Prop) → St → Prop} (k : Dk.Kind O) (b j : Nat) {F Fd : Nat → Prop} {x : Jst} {v : Value} (p : ByteArray) (w : World) (h : JAt O 132 b j p v Fd w F x) (hl : x.R.length ≤ 10000000000) :
    Calls Tryz.prog 49 #[.pointer (some ⟨j, 0, none⟩)] w fun e w' => ∃ v', e = .returned v' ∧ Fr.Texts w' w.heap.size v' x.R ∧ Below w.heap.size w w' := by
  obtain ⟨_, _, t2, _⟩ := h.cell
  obtain ⟨a, c, hv, _⟩ := h.row.form
  obtain ⟨n, hn⟩ : ∃ n, n = x.R.length := ⟨_, rfl⟩
  rw [← hn] at hv hl
  have cc := fun W (hW : Fr.Texts W 0 v x.R) => by
    rw [hv] at hW
    exact clone_any a n c x.R W hW hn hl
  have hrow := h.row
  have ct := cc w hrow
  have HN := Lib.hid hn
  clear h hrow cc hn
  subst hv
  go_enter Tryz.func49, Tryz.ntmps49
  go_wp2_with fail
  go_at_call 83
  refine ct.mono ?_
  rintro e w5 ⟨v5, rfl, h5, hb5⟩
  obtain ⟨a5, c5, hv5, _⟩ := h5.form
  rw [← HN.out] at hv5
  have H5 := Lib.hid h5
  clear h5
  subst hv5
  go_wp2_with fail
  go_ret
  exact ⟨_, rfl, H5.out, hb5⟩
end Go.Proofs.YtdkgkomjbpggeaaGreatDoor.Wl

namespace Go.Proofs.YtdkgkomjbpggeaaGreatDoor.Tb
open Go.RowKit Tx Pm Dk Wm Wr Wl Pl
set_option linter.unusedVariables false
set_option linter.unusedSimpArgs false
set_option linter.unnecessarySimpa false
theorem pl_ge (c : Ch) (h : norm c = c) : c.key.size + c.val.size + 2 ≤ (pl c).length := by
  obtain ⟨key, val, gone⟩ := c
  have h1 := vb_pos 0
  have h2 := vb_pos 1
  have h3 := vb_pos key.size
  cases gone
  · rw [pl_give]
    simp only [List.length_append, tl, Wm.len_l]
    omega
  · have hv : val = ⟨#[]⟩ := by
      have := congrArg Ch.val h
      simpa [norm] using this.symm
    rw [pl_gone, hv]
    simp only [List.length_append, tl, Wm.len_l]
    show key.size + 0 + 2 ≤ _
    omega
theorem wt_all : ∀ {l : List Ch}, l.map norm = l → wt l ≤ 20 * (l.flatMap pl).length
  | [], _ => Nat.zero_le _
  | c :: l, h => by
    rw [List.map_cons] at h
    injection h with h1 h2
    have a1 := pl_ge c h1
    have a2 := wt_all h2
    rw [wt_cons, List.flatMap_cons, List.length_append]
    omega
theorem wt_ops {r : ByteArray} {l : List Ch} (h : opsS r = (l, 0)) : wt l ≤ 20 * r.size := by
  obtain ⟨h1, h2, _⟩ := opsS_ok h
  have := wt_all h2
  rw [← h1, rec7_size, recl, List.length_append]
  omega
def taken (L : List It) (r : ByteArray) : List It := if (opsS r).2 = 0 then all7 L (opsS r).1 else L
set_option maxRecDepth 100000 in
set_option maxHeartbeats 1000000 in
theorem take_any (t m : Nat) (L : List It) (r : ByteArray) (w : World) (ht : w.cell? ⟨t, 3, none⟩ = some (.map (some m))) (hm : Mo w m L) (hR : Rises L) (hr : r.size ≤ 500000000) (hn : L.length ≤ 500000000) :
    Calls Tryz.prog 64 #[.pointer (some ⟨t, 0, none⟩), .string r] w fun e w' => e = .returned (.int .i64 ((opsS r).2 : Nat)) ∧ Mo w' m (taken L r) ∧ Chg (· = m) w w' := by
  have co := ops_any r w (by omega)
  unfold OpsTo at co
  have htl := World.block_lt_of_cell? w _ ht
  obtain ⟨l, e, h⟩ : ∃ l e, opsS r = (l, e) := ⟨_, _, rfl⟩
  unfold taken
  rw [h] at co ⊢
  simp only at co ⊢
  by_cases he : e = 0
  · subst he
    rw [if_pos rfl]
    have hw := wt_ops h
    have hln := wt_len l
    obtain ⟨_, _, h2l⟩ := opsS_ok h
    have hks : ∀ x ∈ l, x.key.size ≤ 1000000000000 := fun x hx => by have := wt_mem hx; omega
    have cd := fun W (hW : Below w.heap.size w W) a c (hO : Opl W a l.length l) (hc : l.length ≤ c) => do_any t m L a l.length c l W ((hW.cell (p := ⟨t, 3, none⟩) htl).trans ht) (hm.below hW) hR hO (by omega) hks hc
    clear hm hR h
    go_enter Tryz.func64, Tryz.ntmps64
    go_wp2_with fail
    go_at_call 99
    refine co.mono ?_
    rintro e w1 ⟨v, rfl, hO, hb1⟩
    obtain ⟨a, c, hv, hO2, hc, _⟩ := hO.form
    have c1 := cd _ hb1 a c hO2 hc
    obtain ⟨n, hn⟩ : ∃ n, n = l.length := ⟨_, rfl⟩
    rw [← hn] at hv c1
    clear hO hO2 hn cd hw hln hks h2l
    subst hv
    go_wp2_with fail
    go_at_call 48
    refine c1.mono ?_
    rintro e w2 ⟨rfl, hm2, hc2⟩
    go_wp2_with fail
    go_ret
    exact ⟨rfl, hm2, (Chg.of_below hb1).then hc2⟩
  · rw [if_neg he]
    have ne := neZ he
    have HM := Lib.hid (fun W (hW : Below w.heap.size w W) => hm.below hW)
    clear h he hm
    go_enter Tryz.func64, Tryz.ntmps64
    go_wp2_with fail
    go_at_call 99
    refine co.mono ?_
    rintro e w1 ⟨v, rfl, hO, hb1⟩
    clear hO
    go_wp2_with fail
    go_ret
    exact ⟨rfl, HM.out _ hb1, Chg.of_below hb1⟩
theorem frAt_fr (s : ByteArray) : Fr.frAt s 0 = (if (Fm.fr s).2.2 ≠ 0 then (⟨#[]⟩, 0, (Fm.fr s).2.2) else ((Fm.fr s).1, (((Fm.fr s).2.1 : Nat) : Int), 0) : ByteArray × Int × Nat) := by
  have hx : s.extract (Int.toNat 0) s.size = s := extract_all s
  unfold Fr.frAt
  rw [if_neg (by omega), hx]
  split
  · rfl
  · rw [Int.zero_add]
def based (s : St) (p : ByteArray) : List It := if (base0 s p).2 = 0 then (base0 s p).1 else []
section
variable {s : St} {p d r : ByteArray} {e n : Nat} {l : List Ch}
theorem base_0 (h : kind s.L p = 0) : base0 s p = ([], 0) := by unfold base0; rw [if_pos h]
theorem base_1 (h : kind s.L p ≠ 0) (h1 : readS s p = (d, e)) (he : e ≠ 0) : base0 s p = ([], e) := by unfold base0; rw [if_neg h, h1]; exact if_pos he
theorem base_2 (h : kind s.L p ≠ 0) (h1 : readS s p = (d, 0)) (h2 : Fm.fr d = (r, n, e)) (he : e ≠ 0) : base0 s p = ([], e) := by
  unfold base0 baseS; rw [if_neg h, h1]; simp only [h2]; rw [if_neg (fun hh => hh rfl)]; exact if_pos he
theorem base_3 (h : kind s.L p ≠ 0) (h1 : readS s p = (d, 0)) (h2 : Fm.fr d = (r, n, 0)) (hn : n < d.size) : base0 s p = ([], 5) := by
  unfold base0 baseS; rw [if_neg h, h1]; simp only [h2]; rw [if_neg (fun hh => hh rfl), if_neg (fun hh => hh rfl)]; exact if_pos hn
theorem base_4 (h : kind s.L p ≠ 0) (h1 : readS s p = (d, 0)) (h2 : Fm.fr d = (r, n, 0)) (hn : ¬ n < d.size) (h3 : opsS r = (l, e)) (he : e ≠ 0) : base0 s p = ([], e) := by
  unfold base0 baseS; rw [if_neg h, h1]; simp only [h2, h3]; rw [if_neg (fun hh => hh rfl), if_neg (fun hh => hh rfl), if_neg hn]; exact if_pos he
theorem base_5 (h : kind s.L p ≠ 0) (h1 : readS s p = (d, 0)) (h2 : Fm.fr d = (r, n, 0)) (hn : ¬ n < d.size) (h3 : opsS r = (l, 0)) : base0 s p = (all7 [] l, 0) := by
  unfold base0 baseS; rw [if_neg h, h1]; simp only [h2, h3]; rw [if_neg (fun hh => hh rfl), if_neg (fun hh => hh rfl), if_neg hn]; exact if_neg (fun hh => hh rfl)
end
theorem fr_size {d r : ByteArray} {n e : Nat} (h : Fm.fr d = (r, n, e)) : r.size ≤ d.size ∧ n ≤ d.size := by
  have hle := Fm.fr_le d
  rw [h] at hle
  refine ⟨?_, hle⟩
  by_cases he : e = 0
  · subst he
    obtain ⟨_, _, _, h4⟩ := Fm.fr_ok h
    have h5 := congrArg ByteArray.size h4
    rw [Fm.pk_size, ByteArray.size_extract] at h5
    omega
  · unfold Fm.fr at h
    split at h
    · simp only [Prod.mk.injEq] at h; rw [← h.1]; exact Nat.zero_le _
    · split at h
      · simp only [Prod.mk.injEq] at h; rw [← h.1]; exact Nat.zero_le _
      · split at h
        · simp only [Prod.mk.injEq] at h; rw [← h.1]; exact Nat.zero_le _
        · simp only [Prod.mk.injEq] at h; exact absurd h.2.2.symm he
set_option maxRecDepth 100000 in
set_option maxHeartbeats 4000000 in
theorem takeBase_any (b t m : Nat) {Fd : Nat → Prop} {s : St} (p : ByteArray) (w : World) (t0 : w.cell? ⟨t, 0, none⟩ = some (.pointer (some ⟨b, 0, none⟩))) (t1 : w.cell? ⟨t, 1, none⟩ = some (.string p)) (ht : w.cell? ⟨t, 3, none⟩ = some (.map (some m)))
    (hm : Mo w m []) (hD : ImpAt b w Fd s) (hp : p.size ≤ 1000) (hs : (readS s p).1.size ≤ 500000000) :
    Calls Tryz.prog 27 #[.pointer (some ⟨t, 0, none⟩)] w fun e w' => e = .returned (.int .i64 ((base0 s p).2 : Nat)) ∧ Mo w' m (based s p) ∧ Chg (· = m) w w' := by
  have kk := imp_kind b
  have hd1 := (Below.refl w.heap.size w).drew
  have htl := World.block_lt_of_cell? w _ ht
  have hDB := fun W (hW : Below w.heap.size w W) => kk.kept hD (fun i hi => hW.block i (kk.lt hD i hi))
  have ck := (iw_kind p (hDB _ hd1) (by omega)).mono fun e w' (hh : _ ∧ w.drew = w') => (⟨hh.1, same_belowW hh.2⟩ : _ ∧ Below w.drew.heap.size w.drew w')
  have hd2 : ∀ W, Below w.drew.heap.size w.drew W → Below w.heap.size w W.drew := fun W hW => Tx.below_call hd1 hW.drew
  have cr := fun W hW => iw_read p (hDB _ (hd2 W hW)) (by omega)
  have HCL := Lib.hid (fun W (hW : Below w.drew.heap.size w.drew W) => (⟨((Tx.below_call hd1 hW).cell (p := ⟨t, 0, none⟩) htl).trans t0, ((Tx.below_call hd1 hW).cell (p := ⟨t, 1, none⟩) htl).trans t1⟩ : W.cell? ⟨t, 0, none⟩ = some (.pointer (some ⟨b, 0, none⟩)) ∧ W.cell? ⟨t, 1, none⟩ = some (.string p)))
  have HT := Lib.hid (fun W (hW : Below w.heap.size w W) => (hW.cell (p := ⟨t, 3, none⟩) htl).trans ht)
  have HM := Lib.hid (fun W (hW : Below w.heap.size w W) => hm.below hW)
  have HD2 := Lib.hid hd2
  unfold based
  by_cases hk : kind s.L p = 0
  · rw [base_0 hk]
    rw [hk] at ck
    clear hD hDB hk cr hd1 hd2 hm
    go_enter Tryz.func27, Tryz.ntmps27
    go_wp2_with fail
    go_still_tail 8, (by kernel_rfl)
    change wpList _ _ _ _ _ w.drew
    go_wp2_with fail
    go_at_call 24
    refine ck.mono ?_
    rintro e w4 ⟨rfl, hb4⟩
    obtain ⟨u0, u1⟩ := HCL.out _ hb4
    have hb4' := HD2.out _ hb4
    go_wp2_with fail
    go_ret
    exact ⟨rfl, HM.out _ (Tx.below_call (Below.refl w.heap.size w).drew hb4), Chg.of_below (Tx.below_call (Below.refl w.heap.size w).drew hb4)⟩
  · have nk := neZ hk
    obtain ⟨d, e1, hrd⟩ : ∃ d e, readS s p = (d, e) := ⟨_, _, rfl⟩
    rw [hrd] at cr hs
    simp only at cr hs
    by_cases he1 : e1 = 0
    · subst he1
      obtain ⟨r, n, e2, hfr⟩ := Fm.trip (Fm.fr d)
      have cf := fun W => Fr.fRead_any d 0 W (by omega) (by omega) (by omega)
      have hfa := frAt_fr d
      rw [hfr] at hfa
      obtain ⟨hrs, hnd⟩ := fr_size hfr
      by_cases he2 : e2 = 0
      · subst he2
        rw [if_neg (fun hh => hh rfl)] at hfa
        simp only at hfa
        rw [hfa] at cf
        have hdi : (d.size : Int) ≤ 500000000 := by omega
        by_cases hn : n < d.size
        · rw [base_3 hk hrd hfr hn]
          have hnz : (n : Int) < (d.size : Int) := by omega
          generalize kind s.L p = K at ck nk
          clear hD hDB hk hd1 hd2 hm hrd hfr hfa hrs hnd hn hs
          go_enter Tryz.func27, Tryz.ntmps27
          go_wp2_with fail
          go_still_tail 8, (by kernel_rfl)
          change wpList _ _ _ _ _ w.drew
          go_wp2_with fail
          go_at_call 24
          refine ck.mono ?_
          rintro e w4 ⟨rfl, hb4⟩
          obtain ⟨u0, u1⟩ := HCL.out _ hb4
          go_wp2_with fail
          go_region_with (go_at_call 62; refine (cr _ hb4).mono ?_; rintro e w5 ⟨rfl, h5⟩)
          all_goals
            have hb5 := Tx.below_call (HD2.out _ hb4) h5
            go_wp2_with fail
            go_at_call 63
            refine (cf _).mono ?_
            rintro e w6 ⟨rfl, hb6⟩
            have hb7 := Tx.below_call hb5 hb6
            go_wp2_with fail
            go_ret
            exact ⟨rfl, HM.out _ hb7, Chg.of_below hb7⟩
        · have hnz : ¬ (n : Int) < (d.size : Int) := by omega
          have hbt : base0 s p = (if (opsS r).2 = 0 then all7 [] (opsS r).1 else [], (opsS r).2) := by
            obtain ⟨l, e3, h3⟩ : ∃ l e, opsS r = (l, e) := ⟨_, _, rfl⟩
            rw [h3]
            by_cases he3 : e3 = 0
            · subst he3
              rw [base_5 hk hrd hfr hn h3]
              rfl
            · rw [base_4 hk hrd hfr hn h3 he3]
              show _ = (if e3 = 0 then all7 [] l else [], e3)
              rw [if_neg he3]
          have hbt2 : (if (base0 s p).2 = 0 then (base0 s p).1 else []) = taken [] r := by
            rw [hbt]
            unfold taken
            split
            · rfl
            · rfl
          have hbt3 : (base0 s p).2 = (opsS r).2 := by rw [hbt]
          rw [hbt2, hbt3]
          have ctk := fun W (hW : Below w.heap.size w W) => take_any t m [] r W (HT.out W hW) (HM.out W hW) List.Pairwise.nil (by omega) (by decide)
          have HCT := Lib.hid ctk
          generalize kind s.L p = K at ck nk
          generalize taken [] r = TK at HCT
          generalize (opsS r).2 = ER at HCT
          clear hD hDB hk hd1 hd2 hm hrd hfr hfa hrs hnd hn hs hbt hbt2 hbt3 ctk
          go_enter Tryz.func27, Tryz.ntmps27
          go_wp2_with fail
          go_still_tail 8, (by kernel_rfl)
          change wpList _ _ _ _ _ w.drew
          go_wp2_with fail
          go_at_call 24
          refine ck.mono ?_
          rintro e w4 ⟨rfl, hb4⟩
          obtain ⟨u0, u1⟩ := HCL.out _ hb4
          go_wp2_with fail
          go_region_with (go_at_call 62; refine (cr _ hb4).mono ?_; rintro e w5 ⟨rfl, h5⟩)
          all_goals
            have hb5 := Tx.below_call (HD2.out _ hb4) h5
            go_wp2_with fail
            go_at_call 63
            refine (cf _).mono ?_
            rintro e w6 ⟨rfl, hb6⟩
            have hb7 := Tx.below_call hb5 hb6
            go_wp2_with fail
            go_at_call 64
            refine (HCT.out _ hb7).mono ?_
            rintro e w8 ⟨rfl, hm8, hc8⟩
            go_wp2_with fail
            go_ret
            exact ⟨rfl, hm8, (Chg.of_below hb7).then hc8⟩
      · rw [if_pos he2] at hfa
        simp only at hfa
        rw [hfa] at cf
        rw [base_2 hk hrd hfr he2]
        have ne2 := neZ he2
        have hif : (if ((([], e2) : List It × Nat)).2 = 0 then ((([], e2) : List It × Nat)).1 else []) = [] := by split <;> rfl
        rw [hif]
        generalize kind s.L p = K at ck nk
        clear hD hDB hk hd1 hd2 hm hrd hfr hfa hrs hnd hs he2 hif
        go_enter Tryz.func27, Tryz.ntmps27
        go_wp2_with fail
        go_still_tail 8, (by kernel_rfl)
        change wpList _ _ _ _ _ w.drew
        go_wp2_with fail
        go_at_call 24
        refine ck.mono ?_
        rintro e w4 ⟨rfl, hb4⟩
        obtain ⟨u0, u1⟩ := HCL.out _ hb4
        go_wp2_with fail
        go_region_with (go_at_call 62; refine (cr _ hb4).mono ?_; rintro e w5 ⟨rfl, h5⟩)
        all_goals
          have hb5 := Tx.below_call (HD2.out _ hb4) h5
          go_wp2_with fail
          go_at_call 63
          refine (cf _).mono ?_
          rintro e w6 ⟨rfl, hb6⟩
          have hb7 := Tx.below_call hb5 hb6
          go_wp2_with fail
          go_ret
          exact ⟨rfl, HM.out _ hb7, Chg.of_below hb7⟩
    · rw [base_1 hk hrd he1]
      have ne1 := neZ he1
      have hif : (if ((([], e1) : List It × Nat)).2 = 0 then ((([], e1) : List It × Nat)).1 else []) = [] := by split <;> rfl
      rw [hif]
      generalize kind s.L p = K at ck nk
      clear hD hDB hk hd1 hd2 hm hrd he1 hif hs
      go_enter Tryz.func27, Tryz.ntmps27
      go_wp2_with fail
      go_still_tail 8, (by kernel_rfl)
      change wpList _ _ _ _ _ w.drew
      go_wp2_with fail
      go_at_call 24
      refine ck.mono ?_
      rintro e w4 ⟨rfl, hb4⟩
      obtain ⟨u0, u1⟩ := HCL.out _ hb4
      go_wp2_with fail
      go_region_with (go_at_call 62; refine (cr _ hb4).mono ?_; rintro e w5 ⟨rfl, h5⟩)
      all_goals
        have hb5 := Tx.below_call (HD2.out _ hb4) h5
        go_wp2_with fail
        go_ret
        exact ⟨rfl, HM.out _ hb5, Chg.of_below hb5⟩
end Go.Proofs.YtdkgkomjbpggeaaGreatDoor.Tb

namespace Go.Proofs.YtdkgkomjbpggeaaGreatDoor.Tb
open Go.RowKit Tx Pm Dk Wm Wr Wl Pl
set_option linter.unusedVariables false
set_option linter.unusedSimpArgs false
set_option linter.unnecessarySimpa false
abbrev JnT (b j : Nat) (q : ByteArray) := Jn (ImpAt b) 132 b j q
structure TAt (b j t m : Nat) (p q : ByteArray) (Fj : Nat → Prop) (w : World) (F : Nat → Prop) (x : Tst) : Prop where
  jn : JnT b j q w Fj x.j
  blk : w.heap[t]? = some (.cells #[.pointer (some ⟨b, 0, none⟩), .string p, .pointer (some ⟨j, 0, none⟩), .map (some m)] 69 (0, 0))
  rows : Mo w m x.L
  off : ¬ Fj t ∧ ¬ Fj m
  foot : ∀ i, F i ↔ Fj i ∨ i = t ∨ i = m
  rises : Rises x.L
  plain : Plain x.L
def Tn (b j t m : Nat) (p q : ByteArray) (w : World) (F : Nat → Prop) (x : Tst) : Prop := ∃ Fj, TAt b j t m p q Fj w F x
section
variable {b j t m : Nat} {p q : ByteArray} {Fj F : Nat → Prop} {w w1 : World} {x : Tst}
theorem TAt.tm (h : TAt b j t m p q Fj w F x) : t ≠ m := fun e => h.rows.nb (e ▸ h.blk)
theorem TAt.lt (h : TAt b j t m p q Fj w F x) : ∀ i, F i → i < w.heap.size := fun i hi => by
  rcases (h.foot i).1 hi with h1 | rfl | rfl
  · exact (jn_kind (imp_kind b) _ b j q).1 h.jn i h1
  · exact (Array.getElem?_eq_some_iff.1 h.blk).1
  · exact h.rows.lt
theorem TAt.kept (h : TAt b j t m p q Fj w F x) (hk : ∀ i, F i → w1.heap[i]? = w.heap[i]?) : TAt b j t m p q Fj w1 F x :=
  ⟨(jn_kind (imp_kind b) _ b j q).2 h.jn (fun i hi => hk i ((h.foot i).2 (.inl hi))), (hk t ((h.foot t).2 (.inr (.inl rfl)))).trans h.blk, h.rows.kept (hk m ((h.foot m).2 (.inr (.inr rfl)))), h.off, h.foot, h.rises, h.plain⟩
theorem TAt.below (h : TAt b j t m p q Fj w F x) (hb : Below w.heap.size w w1) : TAt b j t m p q Fj w1 F x := h.kept (fun i hi => hb.block i (h.lt i hi))
theorem TAt.cell (h : TAt b j t m p q Fj w F x) : w.cell? ⟨t, 0, none⟩ = some (.pointer (some ⟨b, 0, none⟩)) ∧ w.cell? ⟨t, 1, none⟩ = some (.string p) ∧ w.cell? ⟨t, 2, none⟩ = some (.pointer (some ⟨j, 0, none⟩)) ∧ w.cell? ⟨t, 3, none⟩ = some (.map (some m)) := by
  have hb := h.blk
  refine ⟨?_, ?_, ?_, ?_⟩ <;> · unfold World.cell?; rw [hb]; rfl
theorem TAt.jleft {y : Jst} (h : TAt b j t m p q Fj w F x) (hl : LeftA (JnT b j q) w Fj y w1) : LeftA (Tn b j t m p q) w F ⟨y, x.L⟩ w1 := by
  obtain ⟨Fj', h1, h2, h3⟩ := hl
  have htl : t < w.heap.size := (Array.getElem?_eq_some_iff.1 h.blk).1
  have hml := h.rows.lt
  refine ⟨fun i => Fj' i ∨ i = t ∨ i = m, ⟨Fj', h1, (h2.block t htl h.off.1).trans h.blk, h.rows.kept (h2.block m hml h.off.2), ⟨fun hh => ?_, fun hh => ?_⟩, fun i => Iff.rfl, h.rises, h.plain⟩, h2.mono (fun i hi => (h.foot i).2 (.inl hi)), fun g hg => ?_⟩
  · rcases h3 t hh with hh | hh
    · exact h.off.1 hh
    · omega
  · rcases h3 m hh with hh | hh
    · exact h.off.2 hh
    · omega
  · rcases hg with hg | hg
    · exact (h3 g hg).imp (fun hh => (h.foot g).2 (.inl hh)) id
    · exact .inl ((h.foot g).2 (.inr hg))
theorem TAt.turned {L : List It} (h : TAt b j t m p q Fj w F x) (hm : Mo w1 m L) (hc : Chg (· = m) w w1) (hr : Rises L) (hp : Plain L) : TAt b j t m p q Fj w1 F ⟨x.j, L⟩ :=
  ⟨(jn_kind (imp_kind b) _ b j q).2 h.jn (fun i hi => hc.block i ((jn_kind (imp_kind b) _ b j q).1 h.jn i hi) (fun e => h.off.2 (e ▸ hi))), (hc.block t (Array.getElem?_eq_some_iff.1 h.blk).1 h.tm).trans h.blk, hm, h.off, h.foot, hr, hp⟩
end
theorem LeftA.of {α : Type} {Obj : World → (Nat → Prop) → α → Prop} {w w1 : World} {F : Nat → Prop} {x : α} (h : Obj w1 F x) (hc : Chg F w w1) : LeftA Obj w F x w1 := ⟨F, h, hc, fun g hg => .inl hg⟩
structure BAt (u pm : Nat) (tp : Option Addr) (vO : Value) (w : World) (G : Nat → Prop) (l : List Ch) : Prop where
  blk : w.heap[u]? = some (.cells #[.pointer tp, vO, .map (some pm)] 76 (0, 0))
  ops : OwnC w 0 vO l
  plc : Pp w pm l
  ne : vO.ownBlock ≠ some u
  once : Once l
  foot : ∀ i, G i ↔ i = u ∨ vO.ownBlock = some i ∨ i = pm
def Bn (u : Nat) (tp : Option Addr) (w : World) (G : Nat → Prop) (l : List Ch) : Prop := ∃ pm vO, BAt u pm tp vO w G l
section
variable {u pm : Nat} {tp : Option Addr} {vO : Value} {w w1 : World} {G : Nat → Prop} {l : List Ch}
theorem BAt.up (h : BAt u pm tp vO w G l) : u ≠ pm := fun e => h.plc.nb (e ▸ h.blk)
theorem BAt.op (h : BAt u pm tp vO w G l) : vO.ownBlock ≠ some pm := fun e => by
  rcases h.ops.2 with ⟨hv, _⟩ | ⟨g, cap, cur, hv, _, hg, _⟩
  · rw [hv] at e; cases e
  · rw [hv] at e
    injection e with e
    subst e
    exact h.plc.nb hg
theorem BAt.lt (h : BAt u pm tp vO w G l) : ∀ i, G i → i < w.heap.size := fun i hi => by
  rcases (h.foot i).1 hi with rfl | h1 | rfl
  · exact (Array.getElem?_eq_some_iff.1 h.blk).1
  · exact (h.ops.lt i h1).2
  · exact h.plc.lt
theorem BAt.kept (h : BAt u pm tp vO w G l) (hk : ∀ i, G i → w1.heap[i]? = w.heap[i]?) : BAt u pm tp vO w1 G l :=
  ⟨(hk u ((h.foot u).2 (.inl rfl))).trans h.blk, own_kept h.ops (fun g hg => hk g ((h.foot g).2 (.inr (.inl hg)))), h.plc.kept (hk pm ((h.foot pm).2 (.inr (.inr rfl)))), h.ne, h.once, h.foot⟩
theorem BAt.below (h : BAt u pm tp vO w G l) (hb : Below w.heap.size w w1) : BAt u pm tp vO w1 G l := h.kept (fun i hi => hb.block i (h.lt i hi))
theorem BAt.cell (h : BAt u pm tp vO w G l) : w.cell? ⟨u, 0, none⟩ = some (.pointer tp) ∧ w.cell? ⟨u, 1, none⟩ = some vO ∧ w.cell? ⟨u, 2, none⟩ = some (.map (some pm)) := by
  have hb := h.blk
  refine ⟨?_, ?_, ?_⟩ <;> · unfold World.cell?; rw [hb]; rfl
end
end Go.Proofs.YtdkgkomjbpggeaaGreatDoor.Tb

namespace Go.Proofs.YtdkgkomjbpggeaaGreatDoor.Tb
open Go.RowKit
set_option linter.unusedVariables false
set_option linter.unusedSimpArgs false
set_option linter.unnecessarySimpa false
set_option maxRecDepth 100000 in
set_option maxHeartbeats 4000000 in
theorem chgNew (ops : Array Oper) (hops : ops = (Rg.opsOf Tryz.f67 6)) (id : Nat) (u x n c : Nat) (a : Option Addr) (key val : ByteArray) (gone : Bool) {u1 u2 u4 u5 u6 u7 u8 u9 u10 u11 u12 u13 u14 u15 u16 u17 u18 u19 u20 u21 u22 u23 u24 u25 u26 u27 u28 u29 u30 u31 u32 u33 u34 u35 u36 u37 u38 u39 u40 u41 u42 u43 u44 u45 u46 : Value} (w : World) (B4 : Value → World → Prop)
    (hS : Cells3 x key val gone w) (hL : w.drew.cell? ⟨u, 1, none⟩ = some (.slice a n c)) (hL2 : (w.alloc (.cells #[.string key, .string val, .bool gone] 105)).cell? ⟨u, 1, none⟩ = some (.slice a n c)) (hS2 : Cells3 x key val gone (w.drew.alloc (.cells #[.string key, .string val, .bool gone] 105)))
    (hE : ∀ ty, ∃ a8 n8 c8 w8, (Builtin.append_ #[74, 74] ty #[.slice a n c, .slice (some ⟨w.heap.size, 0, none⟩) 1 1]).run Tryz.prog (w.drew.alloc (.cells #[.string key, .string val, .bool gone] 105)) = .ok (.slice a8 n8 c8) w8 ∧ w8.cell? ⟨u, 1, none⟩ = some (.slice a n c) ∧ w8.frozen? ⟨u, 1, none⟩ = false ∧
      Cells3 x key val gone w8 ∧ Cells3 x key val gone (w8.setCell ⟨u, 1, none⟩ (.slice a8 n8 c8)) ∧ B4 (.slice a8 n8 c8) w8) :
    (Code.region id ops true).wp Tryz.prog (Rg.Only fun a' w' => ∃ (z8 : Nat) (a8 : Option Addr) (n8 c8 : Nat) (w8 : World), a' = ⟨#[(.pointer (some ⟨u, 0, none⟩)), u1, u2, (.pointer (some ⟨x, 0, none⟩)), u4, u5, u6, u7, u8, u9, u10, u11, u12, u13, u14, u15, u16, u17, u18, u19, u20, u21, u22, u23, u24, u25, u26, u27, u28, u29, u30, u31, u32, u33, u34, u35, u36, (.pointer (some ⟨u, 0, none⟩)), (.pointer (some ⟨u, 0, none⟩)), (.pointer (some ⟨u, 0, none⟩)), (.pointer (some ⟨u, 1, none⟩)), (.slice a n c), (.agg #[.string key, .string val, .bool gone]), (.slice (some ⟨z8, 0, none⟩) 1 1), (.slice a8 n8 c8), (.pointer (some ⟨u, 0, none⟩)), (.pointer (some ⟨u, 1, none⟩))], []⟩ ∧ w' = w8.setCell ⟨u, 1, none⟩ (.slice a8 n8 c8) ∧ B4 (.slice a8 n8 c8) w8) ⟨#[(.pointer (some ⟨u, 0, none⟩)), u1, u2, (.pointer (some ⟨x, 0, none⟩)), u4, u5, u6, u7, u8, u9, u10, u11, u12, u13, u14, u15, u16, u17, u18, u19, u20, u21, u22, u23, u24, u25, u26, u27, u28, u29, u30, u31, u32, u33, u34, u35, u36, u37, u38, u39, u40, u41, u42, u43, u44, u45, u46], []⟩ w := by
  subst hops
  have hNS : Region.noSelect (Rg.opsOf Tryz.f67 6) = true := by kernel_rfl
  refine wp_region_held_drew (S := Cells3 x key val gone) (by kernel_rfl) hS (fun hHeld => ?_)
  rw [show (Rg.opsOf Tryz.f67 6).size = 11 by kernel_rfl]
  refine Rg.takek 0 (some 37) (.pointer (some ⟨u, 0, none⟩)) hNS hHeld (Rg.y_movekL (x := .tmp 0)) ?_
  refine Rg.takek 1 (some 38) (.pointer (some ⟨u, 0, none⟩)) hNS hHeld (Rg.y_movekL (x := .tmp 0)) ?_
  refine Rg.takek 2 (some 39) (.pointer (some ⟨u, 0, none⟩)) hNS hHeld (Rg.y_nilk (x := .tmp 38)) ?_
  refine Rg.takek 3 (some 40) (.pointer (some ⟨u, 1, none⟩)) hNS hHeld (Rg.y_fieldk (T := 76) (k := 1) (x := .tmp 39) (vx := (.pointer (some ⟨u, 0, none⟩))) ?_) ?_
  · (intro w hSw; clear hSw; go_simp)
  refine Rg.takek 5 (some 42) (.agg #[.string key, .string val, .bool gone]) hNS hHeld (Rg.y_loadk (T := 105) (x := .tmp 3) (vx := (.pointer (some ⟨x, 0, none⟩))) ?_) ?_
  · (intro w hSw; obtain ⟨s0, s1, s2⟩ := hSw; go_simp)
  refine Rg.twok (i := 4) (j := 6) ?_ ?_
  · refine Rg.op_loadk 4 (some 41) (T := 74) (x := .tmp 40) (vx := (.pointer (some ⟨u, 1, none⟩))) (v := (.slice a n c)) ?_ hHeld ?_
    · (clear hHeld hE; go_simp)
    refine Rg.bldk 6 (some 43) (T := 74) (len := 1) (parts := #[(0, .tmp 42)]) (vs := #[(0, (.agg #[.string key, .string val, .bool gone]))]) (v := (.slice (some ⟨w.heap.size, 0, none⟩) 1 1)) (w1 := w.drew.alloc (.cells #[.string key, .string val, .bool gone] 105)) ?_ (hS2) (fun hHeld => ?_)
    · (clear hHeld hE hL hL2; go_simp)
    refine Rg.app1k 7 (some 44) (T := 74) (x := .tmp 41) (y := .tmp 43) (vx := (.slice a n c)) (vy := (.slice (some ⟨w.heap.size, 0, none⟩) 1 1)) ?_
    intro ty
    obtain ⟨a8, n8, c8, w8, hr8, hl8, hf8, hS8, hS9, h8⟩ := hE ty
    refine ⟨_, w8, hr8, hS8, fun hHeld => ?_⟩
    refine Rg.takek 8 (some 45) (.pointer (some ⟨u, 0, none⟩)) hNS hHeld (Rg.y_nilk (x := .tmp 37)) ?_
    refine Rg.takek 9 (some 46) (.pointer (some ⟨u, 1, none⟩)) hNS hHeld (Rg.y_fieldk (T := 76) (k := 1) (x := .tmp 45) (vx := (.pointer (some ⟨u, 0, none⟩))) ?_) ?_
    · (intro w hSw; clear hSw; go_simp)
    refine Rg.storek 10 (T := 74) (x := .tmp 46) (y := .tmp 44) (vx := (.pointer (some ⟨u, 1, none⟩))) (vy := (.slice a8 n8 c8)) (w1 := (w8.setCell ⟨u, 1, none⟩ (.slice a8 n8 c8))) ?_ (hS9) (fun hHeld => ?_)
    · (clear hHeld hE hL hL2 hS8 hS9 hr8 h8; go_simp)
    refine Rg.donek ?_
    exact ⟨w.heap.size, a8, n8, c8, w8, by kernel_rfl, rfl, h8⟩
  · refine Rg.op_bldk 6 (some 43) (T := 74) (len := 1) (parts := #[(0, .tmp 42)]) (vs := #[(0, (.agg #[.string key, .string val, .bool gone]))]) (v := (.slice (some ⟨w.heap.size, 0, none⟩) 1 1)) (w1 := w.drew.alloc (.cells #[.string key, .string val, .bool gone] 105)) ?_ (hS2) (fun hHeld => ?_)
    · (clear hHeld hE hL hL2; go_simp)
    refine Rg.onek (i := 4) ?_
    refine Rg.op_loadk 4 (some 41) (T := 74) (x := .tmp 40) (vx := (.pointer (some ⟨u, 1, none⟩))) (v := (.slice a n c)) ?_ hHeld ?_
    · (clear hHeld hE; go_simp)
    refine Rg.app1k 7 (some 44) (T := 74) (x := .tmp 41) (y := .tmp 43) (vx := (.slice a n c)) (vy := (.slice (some ⟨w.heap.size, 0, none⟩) 1 1)) ?_
    intro ty
    obtain ⟨a8, n8, c8, w8, hr8, hl8, hf8, hS8, hS9, h8⟩ := hE ty
    refine ⟨_, w8, hr8, hS8, fun hHeld => ?_⟩
    refine Rg.takek 8 (some 45) (.pointer (some ⟨u, 0, none⟩)) hNS hHeld (Rg.y_nilk (x := .tmp 37)) ?_
    refine Rg.takek 9 (some 46) (.pointer (some ⟨u, 1, none⟩)) hNS hHeld (Rg.y_fieldk (T := 76) (k := 1) (x := .tmp 45) (vx := (.pointer (some ⟨u, 0, none⟩))) ?_) ?_
    · (intro w hSw; clear hSw; go_simp)
    refine Rg.storek 10 (T := 74) (x := .tmp 46) (y := .tmp 44) (vx := (.pointer (some ⟨u, 1, none⟩))) (vy := (.slice a8 n8 c8)) (w1 := (w8.setCell ⟨u, 1, none⟩ (.slice a8 n8 c8))) ?_ (hS9) (fun hHeld => ?_)
    · (clear hHeld hE hL hL2 hS8 hS9 hr8 h8; go_simp)
    refine Rg.donek ?_
    exact ⟨w.heap.size, a8, n8, c8, w8, by kernel_rfl, rfl, h8⟩
end Go.Proofs.YtdkgkomjbpggeaaGreatDoor.Tb

namespace Go.Proofs.YtdkgkomjbpggeaaGreatDoor.Tb
open Go.RowKit Tx Pm Dk Wm Wr Wl Pl
set_option linter.unusedVariables false
set_option linter.unusedSimpArgs false
set_option linter.unnecessarySimpa false
theorem flat_set : ∀ (l : List Ch) (k : Nat) (x : Ch), k < l.length → (((l.flatMap cellsC).set (k * 3) (.string x.key)).set (k * 3 + 1) (.string x.val)).set (k * 3 + 1 + 1) (.bool x.gone) = (l.set k x).flatMap cellsC
  | [], k, x, h => by simp at h
  | y :: l, 0, x, h => by simp [cellsC]
  | y :: l, k + 1, x, h => by
    have ih := flat_set l k x (by simpa using h)
    rw [List.flatMap_cons, List.set_cons_succ, List.flatMap_cons, ← ih]
    have e1 : (k + 1) * 3 = k * 3 + 3 := by omega
    have e2 : (k + 1) * 3 + 1 = (k * 3 + 1) + 3 := by omega
    have e3 : (k + 1) * 3 + 1 + 1 = (k * 3 + 1 + 1) + 3 := by omega
    rw [e3, e2, e1]
    simp [cellsC]
theorem own_set3 {w : World} {g n cap : Nat} {l : List Ch} (h : w.ownsRow 0 105 3 (.slice (some ⟨g, 0, none⟩) n cap) n (l.flatMap cellsC)) {k : Nat} {y : Ch} (hk : l[k]? = some y) (x : Ch) :
    (w.cell? ⟨g, k * 3, none⟩ = some (.string y.key) ∧ w.frozen? ⟨g, k * 3, none⟩ = false) ∧ ((w.setCell ⟨g, k * 3, none⟩ (.string x.key)).cell? ⟨g, k * 3 + 1, none⟩ = some (.string y.val) ∧ (w.setCell ⟨g, k * 3, none⟩ (.string x.key)).frozen? ⟨g, k * 3 + 1, none⟩ = false) ∧
    (((w.setCell ⟨g, k * 3, none⟩ (.string x.key)).setCell ⟨g, k * 3 + 1, none⟩ (.string x.val)).cell? ⟨g, k * 3 + 1 + 1, none⟩ = some (.bool y.gone) ∧ ((w.setCell ⟨g, k * 3, none⟩ (.string x.key)).setCell ⟨g, k * 3 + 1, none⟩ (.string x.val)).frozen? ⟨g, k * 3 + 1 + 1, none⟩ = false) ∧
    (((w.setCell ⟨g, k * 3, none⟩ (.string x.key)).setCell ⟨g, k * 3 + 1, none⟩ (.string x.val)).setCell ⟨g, k * 3 + 1 + 1, none⟩ (.bool x.gone)).ownsRow 0 105 3 (.slice (some ⟨g, 0, none⟩) n cap) n ((l.set k x).flatMap cellsC) ∧
    Chg (· = g) w (((w.setCell ⟨g, k * 3, none⟩ (.string x.key)).setCell ⟨g, k * 3 + 1, none⟩ (.string x.val)).setCell ⟨g, k * 3 + 1 + 1, none⟩ (.bool x.gone)) := by
  obtain ⟨h1, _⟩ := h.stored (k * 3) (.string x.key)
  obtain ⟨h2, _⟩ := h1.stored (k * 3 + 1) (.string x.val)
  obtain ⟨h3, _⟩ := h2.stored (k * 3 + 1 + 1) (.bool x.gone)
  have hkl := (List.getElem?_eq_some_iff.1 hk).1
  have hc : ∀ j u, j < 3 → (cellsC y)[j]? = some u → (l.flatMap cellsC)[k * 3 + j]? = some u := fun j u hj hu => (flat_at cellsC 3 (fun _ => rfl) l k y j hk hj).trans hu
  have cell : ∀ {W : World} {xs : List Value} {j : Nat} {u : Value}, W.ownsRow 0 105 3 (.slice (some ⟨g, 0, none⟩) n cap) n xs → xs[j]? = some u → W.cell? ⟨g, j, none⟩ = some u := fun {W xs j u} hW hu => by
    have := hW.cells (g := g) rfl j u hu
    rwa [WideShapes.add_plain, Nat.zero_add] at this
  refine ⟨⟨cell h (hc 0 _ (by omega) rfl), h.frozenAt _⟩, ⟨cell h1 ?_, h1.frozenAt _⟩, ⟨cell h2 ?_, h2.frozenAt _⟩, ?_, ((chg_set (b := g) (k := k * 3) _).then (chg_set (b := g) (k := k * 3 + 1) _)).then (chg_set (b := g) (k := k * 3 + 1 + 1) _)⟩
  · rw [List.getElem?_set_ne (by omega)]
    exact hc 1 _ (by omega) rfl
  · rw [List.getElem?_set_ne (by omega), List.getElem?_set_ne (by omega)]
    exact hc 2 _ (by omega) rfl
  · rw [flat_set l k x hkl] at h3
    exact h3
theorem set_left {u pm g i n : Nat} {tp : Option Addr} {vO : Value} {w W Wf : World} {G : Nat → Prop} {l : List Ch} {c : Ch} (h : BAt u pm tp vO w G l) (hB : Below w.heap.size w W) (hset : Wf.ownsRow 0 105 3 vO n ((l.set i c).flatMap cellsC)) (hn : n = l.length)
    (hc : Chg (· = g) W Wf) (hg : vO.ownBlock = some g) (hat : at7 l c.key = some i) : LeftA (Bn u tp) w G (l.set i c) Wf := by
  have hW := h.below hB
  have hug : u ≠ g := fun e => h.ne (by rw [hg, e])
  have hpg : pm ≠ g := fun e => h.op (by rw [hg, e])
  have hon := once_bat h.once c
  rw [bat_set h.once hat] at hon
  refine LeftA.of ⟨pm, vO, ⟨(hc.block u (hW.lt u ((h.foot u).2 (.inl rfl))) hug).trans hW.blk, ?_, (hW.plc.same h.once hat).kept (hc.block pm hW.plc.lt hpg), h.ne, hon, h.foot⟩⟩ ((Chg.of_below hB).then (hc.mono (fun x hx => (h.foot x).2 (.inr (.inl (by rw [hg, hx]))))))
  unfold OwnC
  rw [List.length_set, ← hn]
  exact hset
theorem new_left {u pm n : Nat} {tp : Option Addr} {vO v' : Value} {w w3 w4 w6 : World} {G : Nat → Prop} {l : List Ch} {c : Ch} {o : Obj} (h : BAt u pm tp vO w G l) (hB : Below w.heap.size w w3) (hP : Pp w4 pm (l ++ [c])) (ht : w3.mapTurned w4 pm)
    (hO : w6.ownsRow 0 105 3 v' (n + 1) ((l ++ [c]).flatMap cellsC)) (hn : n = l.length) (hg : (v'.ownBlock = vO.ownBlock ∧ (w4.drew.alloc o).grownBy w6 vO.ownBlock) ∨ (v'.ownBlock = some (w4.drew.alloc o).heap.size ∧ (w4.drew.alloc o).grownBy w6 none)) (hat : at7 l c.key = none) :
    (w6.cell? ⟨u, 1, none⟩ = some vO ∧ w6.frozen? ⟨u, 1, none⟩ = false) ∧ LeftA (Bn u tp) w G (l ++ [c]) (w6.setCell ⟨u, 1, none⟩ v') := by
  have hW := h.below hB
  have hsz : w3.heap.size ≤ w4.heap.size := (turned_chg ht).size
  have hul : u < w3.heap.size := hW.lt u ((h.foot u).2 (.inl rfl))
  have hpl : pm < w3.heap.size := hW.plc.lt
  have hub : w4.heap[u]? = w3.heap[u]? := turned_block ht h.up
  have hon := once_bat h.once c
  rw [bat_new hat] at hon
  have hc4 : Chg (fun i => vO.ownBlock = some i) w4 w6 := by
    have h0 : Chg (fun i => vO.ownBlock = some i) w4 (w4.drew.alloc o) := Chg.of_below (((Below.refl w4.heap.size w4).drew).alloc (Nat.le_refl _) o)
    rcases hg with ⟨_, g1, g2, g3, g4, g5⟩ | ⟨_, g1, g2, g3, g4, g5⟩
    · exact h0.then ⟨g1, g2, g3, g4, fun i hi hn => g5 i hi (fun e => hn e.symm)⟩
    · exact h0.then ⟨g1, g2, g3, g4, fun i hi hn => g5 i hi (by simp)⟩
  have hblk : w6.heap[u]? = some (.cells #[.pointer tp, vO, .map (some pm)] 76 (0, 0)) := (hc4.block u (by omega) h.ne).trans (hub.trans hW.blk)
  have hv'u : ∀ i, v'.ownBlock = some i → vO.ownBlock = some i ∨ w4.heap.size ≤ i := fun i hi => by
    rcases hg with ⟨e, _⟩ | ⟨e, _⟩
    · exact .inl (by rw [← e]; exact hi)
    · rw [e] at hi
      injection hi with hi
      have : (w4.drew.alloc o).heap.size = w4.heap.size + 1 := by simp
      exact .inr (by omega)
  have hne : v'.ownBlock ≠ some u := fun e => by
    rcases hv'u u e with hh | hh
    · exact h.ne hh
    · omega
  have hchg : Chg G w (w6.setCell ⟨u, 1, none⟩ v') := ((((Chg.of_below hB).then ((turned_chg ht).mono (fun i hi => (h.foot i).2 (.inr (.inr hi))))).then (hc4.mono (fun i hi => (h.foot i).2 (.inr (.inl hi))))).then ((chg_set (b := u) (k := 1) v').mono (fun i hi => (h.foot i).2 (.inl hi))))
  refine ⟨⟨by unfold World.cell?; rw [hblk]; rfl, by unfold World.frozen?; rw [hblk]; simp⟩, fun i => i = u ∨ v'.ownBlock = some i ∨ i = pm, ⟨pm, v', ⟨by rw [set_block hblk]; rfl, ?_, ?_, hne, hon, fun i => Iff.rfl⟩⟩, hchg, ?_⟩
  · unfold OwnC
    rw [List.length_append, List.length_singleton, ← hn]
    exact own_kept hO (fun i hi => set_other v' (fun e => hne (e ▸ hi)))
  · exact (hP.kept (hc4.block pm (by omega) h.op)).kept (set_other v' (fun e => h.up e.symm))
  · rintro i (rfl | hi | rfl)
    · exact .inl ((h.foot _).2 (.inl rfl))
    · rcases hv'u i hi with hh | hh
      · exact .inl ((h.foot _).2 (.inr (.inl hh)))
      · have := hB.size
        have h2 := (Chg.of_below (F := G) hB).size
        exact .inr (by omega)
    · exact .inl ((h.foot _).2 (.inr (.inr rfl)))
theorem cells3_set {W : World} {x u k : Nat} {key val : ByteArray} {gone : Bool} (h : Cells3 x key val gone W) (hne : x ≠ u) (v : Value) : Cells3 x key val gone (W.setCell ⟨u, k, none⟩ v) := by
  have hb := set_other (w := W) (b := u) (k := k) v hne
  refine ⟨?_, ?_, ?_⟩
  · have := h.1; unfold World.cell? at this ⊢; rw [hb]; exact this
  · have := h.2.1; unfold World.cell? at this ⊢; rw [hb]; exact this
  · have := h.2.2; unfold World.cell? at this ⊢; rw [hb]; exact this
theorem app_change {u pm n cO : Nat} {tp aO : Option Addr} {vO : Value} {w w3 w4 : World} {G : Nat → Prop} {l : List Ch} {key val : ByteArray} {gone : Bool} (h : BAt u pm tp vO w G l) (hB : Below w.heap.size w w3) (hP : Pp w4 pm (l ++ [⟨key, val, gone⟩])) (ht : w3.mapTurned w4 pm)
    (hO : w4.ownsRow 0 105 3 vO n (l.flatMap cellsC)) (hv : vO = .slice aO n cO) (hn : n = l.length) (hat : at7 l key = none) (hnl : n < 1000000000) (hC : Cells3 w.heap.size key val gone (w4.drew.alloc (.cells #[.string key, .string val, .bool gone] 105))) :
    ∀ ty, ∃ a8 n8 c8 w8, (Builtin.append_ #[74, 74] ty #[.slice aO n cO, .slice (some ⟨w4.heap.size, 0, none⟩) 1 1]).run Tryz.prog (w4.drew.alloc (.cells #[.string key, .string val, .bool gone] 105)) = .ok (.slice a8 n8 c8) w8 ∧
      w8.cell? ⟨u, 1, none⟩ = some (.slice aO n cO) ∧ w8.frozen? ⟨u, 1, none⟩ = false ∧ Cells3 w.heap.size key val gone w8 ∧ Cells3 w.heap.size key val gone (w8.setCell ⟨u, 1, none⟩ (.slice a8 n8 c8)) ∧ LeftA (Bn u tp) w G (l ++ [⟨key, val, gone⟩]) (w8.setCell ⟨u, 1, none⟩ (.slice a8 n8 c8)) := by
  intro ty
  obtain ⟨i0, hi, hz0, hz1, hz2⟩ := info_parts infoC
  have hO5 : (w4.drew.alloc (.cells #[.string key, .string val, .bool gone] 105)).ownsRow 0 105 3 vO n (l.flatMap cellsC) := row_below (w := w4) hO (((Below.refl w4.heap.size w4).drew).alloc (Nat.le_refl _) _)
  obtain ⟨v', w', hr, h1, h2⟩ := Ap.append_two (P := Tryz.prog) _ 0 74 ty 105 i0 (ov ch0) 3 40 Tryz.underlying74 hi hz0 hz1 hz2 rfl (by decide) (by decide) vO n (l.flatMap cellsC) hO5 ⟨w4.heap.size, 0, none⟩ 1 (cellsC ⟨key, val, gone⟩) rfl
    (new3 w4.drew ⟨key, val, gone⟩ (by simp)) (cells_one ⟨key, val, gone⟩) (by omega) (by omega) (Nat.zero_le _)
  have e : l.flatMap cellsC ++ cellsC ⟨key, val, gone⟩ = (l ++ [(⟨key, val, gone⟩ : Ch)]).flatMap cellsC := by rw [List.flatMap_append]; rfl
  rw [e] at h1
  obtain ⟨⟨k1, k2⟩, hfin⟩ := new_left h hB hP ht h1 hn h2 hat
  obtain ⟨a8, c8, rfl⟩ : ∃ a8 c8, v' = .slice a8 (n + 1) c8 := by
    rcases h1.2 with ⟨hv, h0⟩ | ⟨g, cap, cur, hv, _⟩
    · omega
    · exact ⟨_, _, hv⟩
  have hul : u < w.heap.size := h.lt u ((h.foot u).2 (.inl rfl))
  have hC8 : Cells3 w.heap.size key val gone w' := by
    rcases h2 with ⟨_, hg⟩ | ⟨_, hg⟩
    · exact cells3_grown hC hg (fun e => by have := (h.ops.lt _ e.symm).2; omega)
    · exact cells3_grown hC hg (by simp)
  rw [hv] at hr k1
  exact ⟨a8, n + 1, c8, w', hr, k1, k2, hC8, cells3_set hC8 (by omega) _, hfin⟩
set_option maxRecDepth 100000 in
set_option maxHeartbeats 4000000 in
theorem change_any (u pm : Nat) (tp : Option Addr) (vO : Value) {G : Nat → Prop} {l : List Ch} (c : Ch) (w : World) (h : BAt u pm tp vO w G l) (hk : c.key.size ≤ 1000000000000) (hl : l.length < 1000000000) :
    Calls Tryz.prog 67 #[.pointer (some ⟨u, 0, none⟩), ov c] w fun e w' => e = .returned (.tuple #[]) ∧ LeftA (Bn u tp) w G (bat l c) w' := by
  obtain ⟨c0, c1, c2⟩ := h.cell
  have hB1 : Below w.heap.size w (w.alloc (.cells #[.string c.key, .string c.val, .bool c.gone] 105)).drew := ((Below.refl _ w).alloc (Nat.le_refl _) _).drew
  have hlk := (h.plc.kept (hB1.block pm h.plc.lt)).look (p := c.key) (by unfold maxLen; omega)
  obtain ⟨aO, cO, hvO, hO1, hO2, hO3⟩ := h.ops.form
  obtain ⟨n, hn⟩ : ∃ n, n = l.length := ⟨_, rfl⟩
  rw [← hn] at hvO hO1 hO2
  cases hat : at7 l c.key with
  | some i =>
    obtain ⟨y, hy, hyk, hin⟩ := at7_lt hat
    rw [bat_set h.once hat]
    have hpv : placeV l c.key = .tuple #[.int .i64 i, .bool true] := by unfold placeV; rw [hat]
    rw [hpv] at hlk
    obtain ⟨hO0, hne⟩ := hO1
    have hown := h.ops
    unfold OwnC at hown
    rw [hvO, ← hn] at hown
    obtain ⟨g, rfl⟩ : ∃ g, aO = some ⟨g, 0, none⟩ := by
      rcases hown.2 with ⟨_, h0⟩ | ⟨g, cap, cur, hv, _⟩
      · omega
      · injection hv with hv; exact ⟨g, hv⟩
    have hB2 : Below w.heap.size w (w.alloc (.cells #[.string c.key, .string c.val, .bool c.gone] 105)).drew.drew := hB1.drew
    obtain ⟨_, _, _, hset, hcs⟩ := own_set3 (row_below hown hB2) hy c
    have c0' := (hB1.cell (p := ⟨u, 0, none⟩) (World.block_lt_of_cell? w _ c0)).trans c0
    have c1' := (hB1.cell (p := ⟨u, 1, none⟩) (World.block_lt_of_cell? w _ c1)).trans c1
    have c2' := (hB1.cell (p := ⟨u, 2, none⟩) (World.block_lt_of_cell? w _ c2)).trans c2
    have c1'' := (hB2.cell (p := ⟨u, 1, none⟩) (World.block_lt_of_cell? w _ c1)).trans c1
    rw [hvO] at c1 c1' c1''
    have hul : u < w.heap.size := World.block_lt_of_cell? w _ c1
    have hul2 : u ≠ w.heap.size := by omega
    have d1 : (w.alloc (.cells #[.string c.key, .string c.val, .bool c.gone] 105)).cell? ⟨u, 1, none⟩ = some (.slice (some ⟨g, 0, none⟩) n cO) := c1'
    have hiz : (i : Int) < (n : Int) := by omega
    have hsz2 : w.heap.size < (w.alloc (.cells #[.string c.key, .string c.val, .bool c.gone] 105)).heap.size := by simp
    have e0 : (w.alloc (.cells #[.string c.key, .string c.val, .bool c.gone] 105)).drew.cell? ⟨w.heap.size, 0, none⟩ = some (.string c.key) := (cells3_new w c _).1
    have e1 : (w.alloc (.cells #[.string c.key, .string c.val, .bool c.gone] 105)).drew.cell? ⟨w.heap.size, 1, none⟩ = some (.string c.val) := (cells3_new w c _).2.1
    have e2 : (w.alloc (.cells #[.string c.key, .string c.val, .bool c.gone] 105)).drew.cell? ⟨w.heap.size, 2, none⟩ = some (.bool c.gone) := (cells3_new w c _).2.2
    have HS := Lib.hid hset
    have HC := Lib.hid hcs
    have HH := Lib.hid h
    have hownW := row_below hown hB1
    obtain ⟨⟨a0, b0⟩, _, _, _, _⟩ := own_set3 hownW hy c
    have hcW : ∀ j v, (l.flatMap cellsC)[j]? = some v → (w.alloc (.cells #[.string c.key, .string c.val, .bool c.gone] 105)).drew.cell? ⟨g, j, none⟩ = some v := fun j v hv => by
      have := hownW.cells (g := g) rfl j v hv
      rwa [WideShapes.add_plain, Nat.zero_add] at this
    have a1 := hcW (i * 3 + 1) (.string y.val) ((flat_at cellsC 3 (fun _ => rfl) l i y 1 hy (by omega)).trans rfl)
    have a2 := hcW (i * 3 + 1 + 1) (.bool y.gone) ((flat_at cellsC 3 (fun _ => rfl) l i y 2 hy (by omega)).trans rfl)
    have b1 := hownW.frozenAt (i * 3 + 1)
    have b2 := hownW.frozenAt (i * 3 + 1 + 1)
    obtain ⟨key, val, gone⟩ := c
    simp only [ov] at hlk c0' c1' c1'' d1 c2' a0 a1 a2 b0 b1 b2 HS HC e0 e1 e2 ⊢
    have HN := Lib.hid hn
    have HV := Lib.hid hvO
    have HB2 := Lib.hid hB2
    have HAT := Lib.hid hat
    clear hset hcs h hy hat hpv hown hne hO3 hin hB1 hB2 hn hvO hyk hO0 hsz2 hownW hcW
    go_enter Tryz.func67, Tryz.ntmps67
    go_wp2_with fail
    go_region
    go_wp2_with fail
    clear hlk c0' c2' d1
    generalize (w.alloc (.cells #[.string key, .string val, .bool gone] 105)).drew = W2 at c1' c1'' a0 a1 a2 b0 b1 b2 HS HC e0 e1 e2 HB2 ⊢
    go_region
    all_goals
      go_wp2_with fail
      (try simp only [Exit.inBlock, Exit.then])
      refine bodyPost_ret (results_none rfl _ _ _) rfl ?_
      exact ⟨rfl, set_left (g := g) HH.out HB2.out (by rw [HV.out]; exact HS.out) HN.out HC.out (by rw [HV.out]; rfl) HAT.out⟩
  | none =>
    rw [bat_new hat]
    have hpv : placeV l c.key = .tuple #[.int .i64 0, .bool false] := by unfold placeV; rw [hat]
    rw [hpv] at hlk
    have hB2 : Below w.heap.size w (w.alloc (.cells #[.string c.key, .string c.val, .bool c.gone] 105)).drew.drew := hB1.drew
    obtain ⟨w4, hrun, hP4, hturn⟩ := (h.plc.kept (hB2.block pm h.plc.lt)).store h.once hat (by unfold maxLen; omega) (by omega)
    rw [← hn] at hrun
    have hul : u < w.heap.size := World.block_lt_of_cell? w _ c1
    have hx4 : w4.heap[w.heap.size]? = some (.cells #[.string c.key, .string c.val, .bool c.gone] 105) := (turned_block hturn (fun e => by have := h.plc.lt; omega)).trans (heap_alloc_new w _)
    have e0 : w4.cell? ⟨w.heap.size, 0, none⟩ = some (.string c.key) ∧ w4.cell? ⟨w.heap.size, 1, none⟩ = some (.string c.val) ∧ w4.cell? ⟨w.heap.size, 2, none⟩ = some (.bool c.gone) := by
      refine ⟨?_, ?_, ?_⟩ <;> · unfold World.cell?; rw [hx4]; rfl
    obtain ⟨e0, e1, e2⟩ := e0
    have hu4 : w4.cell? ⟨u, 1, none⟩ = some vO := by
      have hb := (turned_block hturn h.up).trans ((hB2.block u hul).trans h.blk)
      unfold World.cell?
      rw [hb]
      rfl
    have hO4 : w4.ownsRow 0 105 3 vO n (l.flatMap cellsC) := by
      have := h.ops
      unfold OwnC at this
      rw [← hn] at this
      exact own_chg (row_below this hB2) (turned_chg hturn) (fun g hg e => h.op (by rw [hg, e]))
    have c1' := (hB1.cell (p := ⟨u, 1, none⟩) (World.block_lt_of_cell? w _ c1)).trans c1
    have c2' := (hB1.cell (p := ⟨u, 2, none⟩) (World.block_lt_of_cell? w _ c2)).trans c2
    have f0 : (w.alloc (.cells #[.string c.key, .string c.val, .bool c.gone] 105)).drew.cell? ⟨w.heap.size, 0, none⟩ = some (.string c.key) := (cells3_new w c _).1
    rw [hvO] at c1 c1' hu4
    have HN := Lib.hid hn
    have HV := Lib.hid hvO
    have HB2 := Lib.hid hB2
    have HAT := Lib.hid hat
    have HP4 := Lib.hid hP4
    have HT := Lib.hid hturn
    have HO4 := Lib.hid hO4
    have HH := Lib.hid h
    have hnl : n < 1000000000 := by omega
    obtain ⟨i0, hi, hz0, hz1, hz2⟩ := info_parts infoC
    obtain ⟨key, val, gone⟩ := c
    simp only [ov] at hlk hrun c1' c2' e0 e1 e2 f0 HB2 HAT HP4 HT ⊢
    clear hB1 hB2 hat hP4 hturn hO4 h hn hvO hpv hx4 hO1 hO3 hl
    go_enter Tryz.func67, Tryz.ntmps67
    go_wp2_with fail
    go_region
    go_wp2_with fail
    clear hlk
    generalize (w.alloc (.cells #[.string key, .string val, .bool gone] 105)).drew = W2 at c1' c2' f0 hrun HB2 HT ⊢
    go_region
    go_wp2_with fail
    have hC4 : Cells3 w.heap.size key val gone w4 := ⟨e0, e1, e2⟩
    have hsz4 : w.heap.size < w4.heap.size := World.block_lt_of_cell? w4 _ e0
    have hC5 : Cells3 w.heap.size key val gone (w4.drew.alloc (.cells #[.string key, .string val, .bool gone] 105)) := cells3_alloc (W := w4.drew) hC4 hsz4 _
    have hu5 : (w4.alloc (.cells #[.string key, .string val, .bool gone] 105)).cell? ⟨u, 1, none⟩ = some (.slice aO n cO) := (((Below.refl w4.heap.size w4).alloc (Nat.le_refl _) _).cell (p := ⟨u, 1, none⟩) (by show u < _; omega)).trans hu4
    have hE := app_change (aO := aO) (cO := cO) HH.out HB2.out HP4.out HT.out HO4.out HV.out HN.out HAT.out hnl hC5
    refine Rg.wp_only ?_ (chgNew _ (by kernel_rfl) _ u w.heap.size n cO aO key val gone w4 (fun v W => LeftA (Bn u tp) w G (l ++ [⟨key, val, gone⟩]) (W.setCell ⟨u, 1, none⟩ v)) hC4 hu4 hu5 hC5 hE)
    rintro _ w9 ⟨z8, a8, n8, c8, w8, rfl, rfl, hfin⟩
    clear hE hC5 hu5 hC4
    go_wp2_with fail
    go_end0
    exact ⟨rfl, hfin⟩
theorem bPut_any (u pm : Nat) (tp : Option Addr) (vO : Value) {G : Nat → Prop} {l : List Ch} (key val : ByteArray) (w : World) (h : BAt u pm tp vO w G l) (hk : key.size ≤ 1000000000000) (hl : l.length < 1000000000) :
    Calls Tryz.prog 32 #[.pointer (some ⟨u, 0, none⟩), .string key, .string val] w fun e w' => e = .returned (.tuple #[]) ∧ LeftA (Bn u tp) w G (bat l ⟨key, val, false⟩) w' := by
  have c := change_any u pm tp vO ⟨key, val, false⟩ w h hk hl
  simp only [ov] at c
  clear h
  go_enter Tryz.func32, Tryz.ntmps32
  go_wp2_with fail
  go_at_call 67
  refine c.mono ?_
  rintro e w1 ⟨rfl, h1⟩
  go_wp2_with fail
  go_end0
  exact ⟨rfl, h1⟩
theorem bDrop_any (u pm : Nat) (tp : Option Addr) (vO : Value) {G : Nat → Prop} {l : List Ch} (key : ByteArray) (w : World) (h : BAt u pm tp vO w G l) (hk : key.size ≤ 1000000000000) (hl : l.length < 1000000000) :
    Calls Tryz.prog 43 #[.pointer (some ⟨u, 0, none⟩), .string key] w fun e w' => e = .returned (.tuple #[]) ∧ LeftA (Bn u tp) w G (bat l ⟨key, ⟨#[]⟩, true⟩) w' := by
  have c := change_any u pm tp vO ⟨key, ⟨#[]⟩, true⟩ w h hk hl
  simp only [ov] at c
  clear h
  go_enter Tryz.func43, Tryz.ntmps43
  go_wp2_with fail
  go_at_call 67
  refine c.mono ?_
  rintro e w1 ⟨rfl, h1⟩
  go_wp2_with fail
  go_end0
  exact ⟨rfl, h1⟩
end Go.Proofs.YtdkgkomjbpggeaaGreatDoor.Tb

namespace Go.Proofs.YtdkgkomjbpggeaaGreatDoor.Tb
open Go.RowKit
set_option linter.unusedVariables false
set_option linter.unusedSimpArgs false
set_option linter.unnecessarySimpa false
def TwoT (t b : Nat) (p : ByteArray) (W : World) : Prop := W.cell? ⟨t, 0, none⟩ = some (.pointer (some ⟨b, 0, none⟩)) ∧ W.cell? ⟨t, 1, none⟩ = some (.string p)
def TwoC (t j u n c : Nat) (a : Option Addr) (W : World) : Prop := W.cell? ⟨t, 2, none⟩ = some (.pointer (some ⟨j, 0, none⟩)) ∧ W.cell? ⟨u, 1, none⟩ = some (.slice a n c)
set_option maxRecDepth 100000 in
set_option maxHeartbeats 4000000 in
theorem packReg (ops : Array Oper) (hops : ops = (Rg.opsOf Tryz.f50 3)) (id : Nat) (t b k : Nat) (p r f : ByteArray) {u1 u2 u3 u4 u5 u6 u7 u8 u9 u10 u11 u12 u13 u14 u15 u16 u17 u18 u19 u20 u21 u22 u23 u24 u25 u26 : Value} (w : World)
    (B1 : Option Addr → Nat → Nat → World → Prop) (B2 B3 B4 : World → Prop) (hS : TwoT t b p w)
    (hA : Calls Tryz.prog 85 #[.pointer (some ⟨t, 0, none⟩)] w.drew fun e w' => ∃ a n c, e = .returned (.slice a n c) ∧ B1 a n c w') (hAS : ∀ a n c W, B1 a n c W → TwoT t b p W)
    (hB : ∀ a n c W, B1 a n c W → Calls Tryz.prog 47 #[.slice a n c] W fun e w' => e = .returned (.string r) ∧ B2 w') (hBS : ∀ W, B2 W → TwoT t b p W)
    (hC : ∀ W, B2 W → Calls Tryz.prog 34 #[.string r] W fun e w' => e = .returned (.string f) ∧ B3 w') (hCS : ∀ W, B3 W → TwoT t b p W)
    (hD : ∀ W, B3 W → Calls Tryz.prog 84 #[.pointer (some ⟨b, 0, none⟩), .string p, .string f] W fun e w' => e = .returned (.int .i64 (k : Nat)) ∧ B4 w') (hDS : ∀ W, B4 W → TwoT t b p W) :
    (Code.region id ops true).wp Tryz.prog (Rg.Only fun a' w' => ∃ (a5 : Option Addr) (n5 c5 : Nat), a' = ⟨#[(.pointer (some ⟨t, 0, none⟩)), u1, u2, (.int .i64 (k : Nat)), u4, u5, (.pointer (some ⟨t, 0, none⟩)), (.pointer (some ⟨t, 0, none⟩)), (.pointer (some ⟨t, 0, none⟩)), (.pointer (some ⟨b, 0, none⟩)), (.pointer (some ⟨t, 0, none⟩)), (.pointer (some ⟨t, 0, none⟩)), (.pointer (some ⟨t, 1, none⟩)), (.string p), (.pointer (some ⟨t, 0, none⟩)), (.slice a5 n5 c5), (.string r), (.string f), (.int .i64 (k : Nat)), u19, u20, u21, u22, u23, u24, u25, u26], []⟩ ∧ B4 w') ⟨#[(.pointer (some ⟨t, 0, none⟩)), u1, u2, u3, u4, u5, u6, u7, u8, u9, u10, u11, u12, u13, u14, u15, u16, u17, u18, u19, u20, u21, u22, u23, u24, u25, u26], []⟩ w := by
  subst hops
  have hNS : Region.noSelect (Rg.opsOf Tryz.f50 3) = true := by kernel_rfl
  refine wp_region_held_drew (S := TwoT t b p) (by kernel_rfl) hS (fun hHeld => ?_)
  rw [show (Rg.opsOf Tryz.f50 3).size = 14 by kernel_rfl]
  refine Rg.takek 0 (some 6) (.pointer (some ⟨t, 0, none⟩)) hNS hHeld (Rg.y_movekL (x := .tmp 0)) ?_
  refine Rg.takek 1 (some 7) (.pointer (some ⟨t, 0, none⟩)) hNS hHeld (Rg.y_nilk (x := .tmp 6)) ?_
  refine Rg.takek 2 (some 8) (.pointer (some ⟨t, 0, none⟩)) hNS hHeld (Rg.y_fieldk (T := 69) (k := 0) (x := .tmp 7) (vx := (.pointer (some ⟨t, 0, none⟩))) ?_) ?_
  · (intro w hSw; clear hSw; go_simp)
  refine Rg.takek 3 (some 9) (.pointer (some ⟨b, 0, none⟩)) hNS hHeld (Rg.y_loadk (T := 23) (x := .tmp 8) (vx := (.pointer (some ⟨t, 0, none⟩))) ?_) ?_
  · (intro w hSw; obtain ⟨s0, s1⟩ := hSw; go_simp)
  refine Rg.takek 4 (some 10) (.pointer (some ⟨t, 0, none⟩)) hNS hHeld (Rg.y_movekL (x := .tmp 0)) ?_
  refine Rg.takek 5 (some 11) (.pointer (some ⟨t, 0, none⟩)) hNS hHeld (Rg.y_nilk (x := .tmp 10)) ?_
  refine Rg.takek 6 (some 12) (.pointer (some ⟨t, 1, none⟩)) hNS hHeld (Rg.y_fieldk (T := 69) (k := 1) (x := .tmp 11) (vx := (.pointer (some ⟨t, 0, none⟩))) ?_) ?_
  · (intro w hSw; clear hSw; go_simp)
  refine Rg.takek 7 (some 13) (.string p) hNS hHeld (Rg.y_loadk (T := 9) (x := .tmp 12) (vx := (.pointer (some ⟨t, 1, none⟩))) ?_) ?_
  · (intro w hSw; obtain ⟨s0, s1⟩ := hSw; go_simp)
  refine Rg.takek 8 (some 14) (.pointer (some ⟨t, 0, none⟩)) hNS hHeld (Rg.y_movekL (x := .tmp 0)) ?_
  refine Rg.callk (fn := Tryz.f85) (xs := #[.tmp 14]) (ats := #[25]) 9 (some 15) 85 #[(.pointer (some ⟨t, 0, none⟩))] Tryz.func85 ?_
  refine hA.mono ?_
  rintro e w5 ⟨a5, n5, c5, rfl, h5⟩
  refine ⟨_, rfl, hAS _ _ _ _ h5, fun hHeld => ?_⟩
  refine Rg.callk (fn := Tryz.f47) (xs := #[.tmp 15]) (ats := #[74]) 10 (some 16) 47 #[(.slice a5 n5 c5)] Tryz.func47 ?_
  refine (hB _ _ _ _ h5).mono ?_
  rintro e w6 ⟨rfl, h6⟩
  refine ⟨_, rfl, hBS _ h6, fun hHeld => ?_⟩
  refine Rg.callk (fn := Tryz.f34) (xs := #[.tmp 16]) (ats := #[9]) 11 (some 17) 34 #[(.string r)] Tryz.func34 ?_
  refine (hC _ h6).mono ?_
  rintro e w7 ⟨rfl, h7⟩
  refine ⟨_, rfl, hCS _ h7, fun hHeld => ?_⟩
  refine Rg.callk (fn := Tryz.f84) (xs := #[.tmp 9, .tmp 13, .tmp 17]) (ats := #[23, 9, 9]) 12 (some 18) 84 #[(.pointer (some ⟨b, 0, none⟩)), (.string p), (.string f)] Tryz.func84 ?_
  refine (hD _ h7).mono ?_
  rintro e w8 ⟨rfl, h8⟩
  refine ⟨_, rfl, hDS _ h8, fun hHeld => ?_⟩
  refine Rg.takek 13 (some 3) (.int .i64 (k : Nat)) hNS hHeld (Rg.y_movekR (x := .tmp 18)) ?_
  refine Rg.donek ?_
  exact ⟨a5, n5, c5, by kernel_rfl, h8⟩
set_option maxRecDepth 100000 in
set_option maxHeartbeats 4000000 in
theorem commitReg (ops : Array Oper) (hops : ops = (Rg.opsOf Tryz.f18 6)) (id : Nat) (t j u n c k : Nat) (a : Option Addr) (r : ByteArray) {u1 u2 u4 u5 u6 u7 u8 u9 u10 u11 u12 u13 u14 u15 u16 u17 u18 u19 u20 u21 u22 u23 u24 u25 u26 u27 u28 u29 u30 u31 u32 u33 u34 u35 u36 u37 u38 u39 u40 u41 u42 u43 u44 u45 u46 u47 u48 u49 u50 u51 u52 u53 u54 u55 u56 u57 u58 : Value} (w : World)
    (B1 B2 : World → Prop) (hS : TwoC t j u n c a w)
    (hA : Calls Tryz.prog 47 #[.slice a n c] w.drew fun e w' => e = .returned (.string r) ∧ B1 w') (hAS : ∀ W, B1 W → TwoC t j u n c a W)
    (hB : ∀ W, B1 W → Calls Tryz.prog 46 #[.pointer (some ⟨j, 0, none⟩), .string r] W fun e w' => e = .returned (.int .i64 (k : Nat)) ∧ B2 w') (hBS : ∀ W, B2 W → TwoC t j u n c a W) :
    (Code.region id ops true).wp Tryz.prog (Rg.Only fun a' w' => a' = ⟨#[(.pointer (some ⟨u, 0, none⟩)), u1, u2, (.pointer (some ⟨t, 0, none⟩)), (.int .i64 (k : Nat)), u5, u6, u7, u8, u9, u10, u11, u12, u13, u14, u15, u16, u17, u18, u19, u20, u21, u22, u23, (.pointer (some ⟨t, 0, none⟩)), (.pointer (some ⟨t, 0, none⟩)), (.pointer (some ⟨t, 2, none⟩)), (.pointer (some ⟨j, 0, none⟩)), (.pointer (some ⟨u, 0, none⟩)), (.pointer (some ⟨u, 0, none⟩)), (.pointer (some ⟨u, 1, none⟩)), (.slice a n c), (.string r), (.int .i64 (k : Nat)), u34, u35, u36, u37, u38, u39, u40, u41, u42, u43, u44, u45, u46, u47, u48, u49, u50, u51, u52, u53, u54, u55, u56, u57, u58], []⟩ ∧ B2 w') ⟨#[(.pointer (some ⟨u, 0, none⟩)), u1, u2, (.pointer (some ⟨t, 0, none⟩)), u4, u5, u6, u7, u8, u9, u10, u11, u12, u13, u14, u15, u16, u17, u18, u19, u20, u21, u22, u23, u24, u25, u26, u27, u28, u29, u30, u31, u32, u33, u34, u35, u36, u37, u38, u39, u40, u41, u42, u43, u44, u45, u46, u47, u48, u49, u50, u51, u52, u53, u54, u55, u56, u57, u58], []⟩ w := by
  subst hops
  have hNS : Region.noSelect (Rg.opsOf Tryz.f18 6) = true := by kernel_rfl
  refine wp_region_held_drew (S := TwoC t j u n c a) (by kernel_rfl) hS (fun hHeld => ?_)
  rw [show (Rg.opsOf Tryz.f18 6).size = 11 by kernel_rfl]
  refine Rg.takek 0 (some 24) (.pointer (some ⟨t, 0, none⟩)) hNS hHeld (Rg.y_movekL (x := .tmp 3)) ?_
  refine Rg.takek 1 (some 25) (.pointer (some ⟨t, 0, none⟩)) hNS hHeld (Rg.y_nilk (x := .tmp 24)) ?_
  refine Rg.takek 2 (some 26) (.pointer (some ⟨t, 2, none⟩)) hNS hHeld (Rg.y_fieldk (T := 69) (k := 2) (x := .tmp 25) (vx := (.pointer (some ⟨t, 0, none⟩))) ?_) ?_
  · (intro w hSw; clear hSw; go_simp)
  refine Rg.takek 3 (some 27) (.pointer (some ⟨j, 0, none⟩)) hNS hHeld (Rg.y_loadk (T := 67) (x := .tmp 26) (vx := (.pointer (some ⟨t, 2, none⟩))) ?_) ?_
  · (intro w hSw; obtain ⟨s0, s1⟩ := hSw; go_simp)
  refine Rg.takek 4 (some 28) (.pointer (some ⟨u, 0, none⟩)) hNS hHeld (Rg.y_movekL (x := .tmp 0)) ?_
  refine Rg.takek 5 (some 29) (.pointer (some ⟨u, 0, none⟩)) hNS hHeld (Rg.y_nilk (x := .tmp 28)) ?_
  refine Rg.takek 6 (some 30) (.pointer (some ⟨u, 1, none⟩)) hNS hHeld (Rg.y_fieldk (T := 76) (k := 1) (x := .tmp 29) (vx := (.pointer (some ⟨u, 0, none⟩))) ?_) ?_
  · (intro w hSw; clear hSw; go_simp)
  refine Rg.takek 7 (some 31) (.slice a n c) hNS hHeld (Rg.y_loadk (T := 74) (x := .tmp 30) (vx := (.pointer (some ⟨u, 1, none⟩))) ?_) ?_
  · (intro w hSw; obtain ⟨s0, s1⟩ := hSw; go_simp)
  refine Rg.callk (fn := Tryz.f47) (xs := #[.tmp 31]) (ats := #[74]) 8 (some 32) 47 #[(.slice a n c)] Tryz.func47 ?_
  refine hA.mono ?_
  rintro e w6 ⟨rfl, h6⟩
  refine ⟨_, rfl, hAS _ h6, fun hHeld => ?_⟩
  refine Rg.callk (fn := Tryz.f46) (xs := #[.tmp 27, .tmp 32]) (ats := #[67, 9]) 9 (some 33) 46 #[(.pointer (some ⟨j, 0, none⟩)), (.string r)] Tryz.func46 ?_
  refine (hB _ h6).mono ?_
  rintro e w8 ⟨rfl, h8⟩
  refine ⟨_, rfl, hBS _ h8, fun hHeld => ?_⟩
  refine Rg.takek 10 (some 4) (.int .i64 (k : Nat)) hNS hHeld (Rg.y_movekR (x := .tmp 33)) ?_
  refine Rg.donek ?_
  exact ⟨by kernel_rfl, h8⟩
end Go.Proofs.YtdkgkomjbpggeaaGreatDoor.Tb

namespace Go.Proofs.YtdkgkomjbpggeaaGreatDoor.Tb
open Go.RowKit Tx Pm Dk Wm Wr Wl Pl
set_option linter.unusedVariables false
set_option linter.unusedSimpArgs false
set_option linter.unnecessarySimpa false
theorem wt_whole_len (L : List It) : L.length * 40 ≤ wt (whole7 L) := by
  have := wt_len (whole7 L)
  unfold whole7 at this ⊢
  rwa [List.length_map] at this
theorem wt_whole_mem {L : List It} {x : It} (h : x ∈ L) : x.path.size + x.data.size + 40 ≤ wt (whole7 L) := wt_mem (c := ⟨x.path, x.data, false⟩) (List.mem_map.2 ⟨x, h, rfl⟩)
def PackOk (x : Tst) (p q : ByteArray) : Prop := FillOk x.j.s p (Fm.pk (rec7 (whole7 x.L))) ∧ ((fillS x.j.s p (Fm.pk (rec7 (whole7 x.L)))).1 = 0 → FillOk (fillS x.j.s p (Fm.pk (rec7 (whole7 x.L)))).2 q ⟨#[]⟩) ∧ wt (whole7 x.L) ≤ 1000000000 ∧ p.size ≤ 1000 ∧ q.size ≤ 1000
theorem pack_1 {x : Tst} {p q : ByteArray} {k : Nat} {s1 : St} (h : fillS x.j.s p (Fm.pk (rec7 (whole7 x.L))) = (k, s1)) (hk : k ≠ 0) : packS x p q = (k, ⟨⟨s1, x.j.R, x.j.dm⟩, x.L⟩) := by
  unfold packS; rw [h]; exact if_pos hk
theorem pack_2 {x : Tst} {p q : ByteArray} {k : Nat} {s1 : St} {y : Jst} (h : fillS x.j.s p (Fm.pk (rec7 (whole7 x.L))) = (0, s1)) (h2 : resetS ⟨s1, x.j.R, x.j.dm⟩ q = (k, y)) : packS x p q = (k, ⟨y, x.L⟩) := by
  unfold packS; rw [h]; simp only [h2]; exact if_neg (fun hh => hh rfl)
theorem left_trans7 {α : Type} {Obj : World → (Nat → Prop) → α → Prop} {w w1 w2 : World} {F F1 : Nat → Prop} {y : α} (hc : Chg F w w1) (hn : ∀ g, F1 g → F g ∨ w.heap.size ≤ g) (h : LeftA Obj w1 F1 y w2) : LeftA Obj w F y w2 := LeftA.trans hc hn h
theorem TAt.disk {b j t m : Nat} {p q : ByteArray} {Fj F : Nat → Prop} {w W : World} {x : Tst} {s' : St} {k : Nat} {f : FuncId} {args : Array Value} (h : TAt b j t m p q Fj w F x) (hW : Below w.heap.size w W)
    (hc : ∀ {Fd}, ImpAt b W Fd x.j.s → Calls Tryz.prog f args W (Dos (ImpAt b) W Fd k s')) : Calls Tryz.prog f args W fun e w' => e = .returned (.int .i64 (k : Nat)) ∧ LeftA (Tn b j t m p q) w F ⟨⟨s', x.j.R, x.j.dm⟩, x.L⟩ w' := by
  have hw := h.below hW
  obtain ⟨v, Fd, hj⟩ := hw.jn
  refine (hc hj.dsk).mono ?_
  rintro e w' ⟨rfl, hl⟩
  obtain ⟨Fd', F', q1, c1, n1⟩ := hj.disk_left (imp_kind b) hl
  have h2 := hw.jleft (y := ⟨s', x.j.R, x.j.dm⟩) ⟨F', ⟨v, Fd', q1⟩, c1, n1⟩
  exact ⟨rfl, left_trans7 (Chg.of_below hW) (fun g hg => .inl hg) h2⟩
set_option maxRecDepth 100000 in
set_option maxHeartbeats 2000000 in
theorem pack_any (b j t m : Nat) {Fj F : Nat → Prop} {x : Tst} (p q : ByteArray) (w : World) (h : TAt b j t m p q Fj w F x) (o : PackOk x p q) :
    Calls Tryz.prog 50 #[.pointer (some ⟨t, 0, none⟩)] w fun e w' => e = .returned (.int .i64 ((packS x p q).1 : Nat)) ∧ LeftA (Tn b j t m p q) w F (packS x p q).2 w' := by
  obtain ⟨o1, o2, o3, o4, o5⟩ := o
  have hlen := wt_whole_len x.L
  have hsz : (rec7 (whole7 x.L)).size ≤ wt (whole7 x.L) + 10 := rec7_le (by omega)
  have hpk := Fm.pk_size (rec7 (whole7 x.L))
  have hvb := vb_len (x := (rec7 (whole7 x.L)).size) (by omega)
  obtain ⟨t0, t1, t2, t3⟩ := h.cell
  have hd1 := (Below.refl w.heap.size w).drew
  have h1 := h.below hd1
  have cw := whole_any t m x.L w.drew h1.cell.2.2.2 h1.rows h.rises (by omega) (fun y hy => by have := wt_whole_mem hy; omega)
  obtain ⟨k1, s1, hf⟩ : ∃ k s, fillS x.j.s p (Fm.pk (rec7 (whole7 x.L))) = (k, s) := ⟨_, _, rfl⟩
  have cf : ∀ W, Below w.heap.size w W → Calls Tryz.prog 84 #[.pointer (some ⟨b, 0, none⟩), .string p, .string (Fm.pk (rec7 (whole7 x.L)))] W fun e w' => e = .returned (.int .i64 (k1 : Nat)) ∧ LeftA (Tn b j t m p q) w F ⟨⟨s1, x.j.R, x.j.dm⟩, x.L⟩ w' := fun W hW =>
    h.disk hW (fun hd => by
      have := iFill_any b p (Fm.pk (rec7 (whole7 x.L))) W hd o1 o4 (by omega)
      rw [hf] at this
      exact this)
  have hS : ∀ W, Below w.heap.size w W → TwoT t b p W := fun W hW => ⟨(h.below hW).cell.1, (h.below hW).cell.2.1⟩
  have hDS : ∀ W, LeftA (Tn b j t m p q) w F ⟨⟨s1, x.j.R, x.j.dm⟩, x.L⟩ W → TwoT t b p W := fun W hW => by
    obtain ⟨F', ⟨Fj', hh⟩, _⟩ := hW
    exact ⟨hh.cell.1, hh.cell.2.1⟩
  have hrg := fun (ops : Array Oper) hops id => @packReg ops hops id t b k1 p (rec7 (whole7 x.L)) (Fm.pk (rec7 (whole7 x.L)))
  have hA : Calls Tryz.prog 85 #[.pointer (some ⟨t, 0, none⟩)] w.drew fun e w' => ∃ a n c, e = .returned (.slice a n c) ∧ (n ≤ c ∧ Opl w' a n (whole7 x.L) ∧ Below w.heap.size w w') := cw.mono fun e w' hh => by
    obtain ⟨v, rfl, hO, hb⟩ := hh
    obtain ⟨a, c, rfl, hl, hc, _⟩ := hO.form
    exact ⟨a, _, c, rfl, hc, hl, Tx.below_call hd1 hb⟩
  have hB : ∀ a n c W, (n ≤ c ∧ Opl W a n (whole7 x.L) ∧ Below w.heap.size w W) → Calls Tryz.prog 47 #[.slice a n c] W fun e w' => e = .returned (.string (rec7 (whole7 x.L))) ∧ Below w.heap.size w w' := fun a n c W hW =>
    (record_any a n c (whole7 x.L) W hW.2.1 (by omega) hW.1).mono fun e w' hh => ⟨hh.1, Tx.below_call hW.2.2 hh.2⟩
  have hC : ∀ W, Below w.heap.size w W → Calls Tryz.prog 34 #[.string (rec7 (whole7 x.L))] W fun e w' => e = .returned (.string (Fm.pk (rec7 (whole7 x.L)))) ∧ Below w.heap.size w w' := fun W hW =>
    (Fr.fPack_any (rec7 (whole7 x.L)) W (by omega)).mono fun e w' hh => ⟨hh.1, Tx.below_call hW hh.2⟩
  have HS := Lib.hid hS
  have HDS := Lib.hid hDS
  have HA := Lib.hid hA
  have HB := Lib.hid hB
  have HC := Lib.hid hC
  have HF := Lib.hid cf
  generalize hR7 : rec7 (whole7 x.L) = R7 at *
  generalize hPK : Fm.pk R7 = PK at *
  by_cases e1 : k1 ≠ 0
  · have hp : packS x p q = (k1, ⟨⟨s1, x.j.R, x.j.dm⟩, x.L⟩) := pack_1 (by rw [hR7, hPK]; exact hf) e1
    rw [hp]
    have n1 := neZ e1
    have h0 := Lib.hid (hS w (Below.refl _ _))
    clear h h1 o1 o2 o3 o4 o5 hlen hsz hpk hvb t0 t1 t2 t3 hd1 cw hf cf hS hDS hrg hA hB hC hp e1 hR7 hPK
    go_enter Tryz.func50, Tryz.ntmps50
    go_wp2_with fail
    refine Rg.wp_only ?_ (packReg _ (by kernel_rfl) _ t b k1 p R7 PK _ _ _ _ _ h0.out HA.out (fun a n c W hW => HS.out W hW.2.2) HB.out (fun W hW => HS.out W hW) HC.out (fun W hW => HS.out W hW) HF.out HDS.out)
    rintro _ w8 ⟨a5, n5, c5, rfl, h8⟩
    go_wp2_with fail
    go_ret
    exact ⟨rfl, h8⟩
  · obtain rfl : k1 = 0 := by omega
    have o2' := o2 (by rw [hf])
    rw [hf] at o2'
    simp only at o2'
    obtain ⟨k2, y, hrs⟩ : ∃ k y, resetS ⟨s1, x.j.R, x.j.dm⟩ q = (k, y) := ⟨_, _, rfl⟩
    have hp : packS x p q = (k2, ⟨y, x.L⟩) := pack_2 (by rw [hR7, hPK]; exact hf) hrs
    rw [hp]
    have h0 := Lib.hid (hS w (Below.refl _ _))
    have H2 := Lib.hid o2'
    have HRS := Lib.hid hrs
    have H5 := Lib.hid o5
    clear h h1 o1 o2 o3 o4 o5 hlen hsz hpk hvb t0 t1 t2 t3 hd1 cw hf cf hS hDS hrg hA hB hC hp e1 o2' hrs hR7 hPK
    go_enter Tryz.func50, Tryz.ntmps50
    go_wp2_with fail
    refine Rg.wp_only ?_ (packReg _ (by kernel_rfl) _ t b 0 p R7 PK _ _ _ _ _ h0.out HA.out (fun a n c W hW => HS.out W hW.2.2) HB.out (fun W hW => HS.out W hW) HC.out (fun W hW => HS.out W hW) HF.out HDS.out)
    rintro _ w8 ⟨a5, n5, c5, rfl, F8, ⟨Fj8, q8⟩, k8, n8⟩
    obtain ⟨_, _, t2, _⟩ := q8.cell
    obtain ⟨v8, Fd8, j8⟩ := q8.jn
    have cr := iReset_any b j q w8 j8 H2.out H5.out
    rw [HRS.out] at cr
    have HQ := Lib.hid (fun w' (hl : LeftA (JnT b j q) w8 Fj8 y w') => left_trans7 k8 n8 (q8.jleft (y := y) hl))
    clear q8 j8 k8 n8
    go_wp2_with fail
    go_at_call 86
    refine cr.mono ?_
    rintro e w9 ⟨rfl, h9⟩
    go_wp2_with fail
    go_ret
    exact ⟨rfl, HQ.out _ h9⟩
set_option maxRecDepth 100000 in
theorem begin_any (tp : Option Addr) (w : World) : Calls Tryz.prog 9 #[.pointer tp] w fun e w' => ∃ u, e = .returned (.pointer (some ⟨u, 0, none⟩)) ∧ ∃ G, Bn u tp w' G [] ∧ (∀ g, G g → w.heap.size ≤ g) ∧ Below w.heap.size w w' := by
  have HB := Lib.hid (((Below.refl w.heap.size w).alloc (Nat.le_refl _) (.map #[] 0)).alloc (by simp) (.cells #[.pointer tp, .slice none 0 0, .map (some w.heap.size)] 76))
  have hP : Pp ((w.alloc (.map #[] 0)).alloc (.cells #[.pointer tp, .slice none 0 0, .map (some w.heap.size)] 76)) w.heap.size [] := (pp_made w).kept (((Below.refl (w.alloc (.map #[] 0)).heap.size _).alloc (Nat.le_refl _) _).block _ (by simp))
  have hb := new_at (w.alloc (.map #[] 0)) (.cells #[.pointer tp, .slice none 0 0, .map (some w.heap.size)] 76) (g := w.heap.size + 1) (by simp)
  have hbn : BAt (w.heap.size + 1) w.heap.size tp (.slice none 0 0) ((w.alloc (.map #[] 0)).alloc (.cells #[.pointer tp, .slice none 0 0, .map (some w.heap.size)] 76)) (fun i => i = w.heap.size + 1 ∨ (Value.slice none 0 0).ownBlock = some i ∨ i = w.heap.size) [] :=
    ⟨hb, nil_OwnC _ _, hP, (fun e => by cases e), List.Pairwise.nil, fun i => Iff.rfl⟩
  have HN := Lib.hid hbn
  have hmm := @run_makeMap Tryz.prog
  clear hbn hP hb
  go_enter Tryz.func9, Tryz.ntmps9
  go_wp2_with fail
  go_ret
  refine ⟨w.heap.size + 1, rfl, _, ⟨_, _, HN.out⟩, ?_, HB.out⟩
  rintro g (rfl | hg | rfl)
  · omega
  · cases hg
  · omega
end Go.Proofs.YtdkgkomjbpggeaaGreatDoor.Tb
