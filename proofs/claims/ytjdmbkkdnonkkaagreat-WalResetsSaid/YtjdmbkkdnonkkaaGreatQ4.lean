/- Texts of this seat, one behind the other. -/
import Derived.Test.YtjdmbkkdnonkkaaGreatQ3
import Derived.RegionTactic
import Derived.BigRegion
import Derived.Deep.CutRange
import Derived.StillTailTactics
import Derived.Shelf.Sort.Plain
import Derived.Test.YtjdmbkkdnonkkaaGreatProg
import Derived.Lib.OwnBridge
import Derived.Shelf.Slices.In.SortNone
import Derived.Sort.OwnSorted
import Derived.Deep.QuietTactic
import Derived.BigQuiet
import Derived.Maps.AppendAt
namespace Go.Proofs.YtjdmbkkdnonkkaaGreat.Dk
open Go.RowKit Tx Pm Pl Pr
set_option linter.unusedVariables false
set_option maxRecDepth 100000 in
set_option maxHeartbeats 2000000 in
theorem regMkdir (ops : Array Oper) (hops : ops = (Rg.opsOf Tryz.f62 1)) (id : Nat) (bd bp : Nat) (dv : Value) (p : ByteArray) (r X : Nat) {u0 u1 u4 u5 u6 u7 u8 u9 u10 : Value} (w : World) (A B : World → Prop)
    (hS : (fun W => Cap W bd dv ∧ Cap W bp (.string p)) w.drew) (hm : Calls Tryz.prog 119 #[dv, .string p] w.drew fun e w' => e = .returned (.int .i64 (r : Nat)) ∧ A w') (hAS : ∀ W, A W → (fun W => Cap W bd dv ∧ Cap W bp (.string p)) W)
    (hst : ∀ W, A W → Calls Tryz.prog 88 #[dv, .int .i64 (r : Nat), .func (.func 120) #[] #[.pointer (some ⟨bd, 0, none⟩), .pointer (some ⟨bp, 0, none⟩)]] W fun e w' => e = .returned (.int .i64 (X : Nat)) ∧ B w') (hBS : ∀ W, B W → (fun W => Cap W bd dv ∧ Cap W bp (.string p)) W) :
    (Code.region id ops true).wp Tryz.prog (Rg.Only fun a' w' => a' = ⟨#[u0, u1, (.pointer (some ⟨bd, 0, none⟩)), (.pointer (some ⟨bp, 0, none⟩)), (.int .i64 (X : Nat)), dv, dv, (.string p), (.int .i64 (r : Nat)), .func (Fn.func 120) #[] #[(.pointer (some ⟨bd, 0, none⟩)), (.pointer (some ⟨bp, 0, none⟩))], (.int .i64 (X : Nat))], []⟩ ∧ B w') ⟨#[u0, u1, (.pointer (some ⟨bd, 0, none⟩)), (.pointer (some ⟨bp, 0, none⟩)), u4, u5, u6, u7, u8, u9, u10], []⟩ w := by
  subst hops
  have hNS : Region.noSelect (Rg.opsOf Tryz.f62 1) = true := by kernel_rfl
  refine wp_region_held_drew (S := (fun W => Cap W bd dv ∧ Cap W bp (.string p))) (by kernel_rfl) hS (fun hHeld => ?_)
  rw [show (Rg.opsOf Tryz.f62 1).size = 7 by kernel_rfl]
  refine Rg.take (ops := (Rg.opsOf Tryz.f62 1)) 0 (some 5) (dv) hNS (by kernel_rfl) (by kernel_rfl) (by kernel_rfl) (by kernel_rfl) (by kernel_rfl) hHeld (Rg.y_load (T := 23) (x := (Operand.tmp 2)) (vx := (.pointer (some ⟨bd, 0, none⟩))) (by kernel_rfl) (by kernel_rfl) ?_) ?_
  · (intro w hSw; obtain ⟨s0, s1⟩ := hSw; unfold Cap at *; go_simp)
  refine Rg.take (ops := (Rg.opsOf Tryz.f62 1)) 1 (some 6) (dv) hNS (by kernel_rfl) (by kernel_rfl) (by kernel_rfl) (by kernel_rfl) (by kernel_rfl) hHeld (Rg.y_load (T := 23) (x := (Operand.tmp 2)) (vx := (.pointer (some ⟨bd, 0, none⟩))) (by kernel_rfl) (by kernel_rfl) ?_) ?_
  · (intro w hSw; obtain ⟨s0, s1⟩ := hSw; unfold Cap at *; go_simp)
  refine Rg.take (ops := (Rg.opsOf Tryz.f62 1)) 2 (some 7) ((.string p)) hNS (by kernel_rfl) (by kernel_rfl) (by kernel_rfl) (by kernel_rfl) (by kernel_rfl) hHeld (Rg.y_load (T := 9) (x := (Operand.tmp 3)) (vx := (.pointer (some ⟨bp, 0, none⟩))) (by kernel_rfl) (by kernel_rfl) ?_) ?_
  · (intro w hSw; obtain ⟨s0, s1⟩ := hSw; unfold Cap at *; go_simp)
  refine Rg.take (ops := (Rg.opsOf Tryz.f62 1)) 4 (some 9) (.func (Fn.func 120) #[] #[(.pointer (some ⟨bd, 0, none⟩)), (.pointer (some ⟨bp, 0, none⟩))]) hNS (by kernel_rfl) (by kernel_rfl) (by kernel_rfl) (by kernel_rfl) (by kernel_rfl) hHeld (Rg.y_func (f := Fn.func 120) (xs := #[]) (ys := #[Operand.tmp 2, Operand.tmp 3]) (vs := #[]) (us := #[(.pointer (some ⟨bd, 0, none⟩)), (.pointer (some ⟨bp, 0, none⟩))]) (by kernel_rfl) (by kernel_rfl) (by kernel_rfl)) ?_
  refine Rg.call (ops := (Rg.opsOf Tryz.f62 1)) (fn := Tryz.f119) (xs := #[Operand.tmp 6, Operand.tmp 7]) (ats := #[23, 9]) 3 (some 8) 119 #[dv, (.string p)] (by kernel_rfl) (by kernel_rfl) (by kernel_rfl) (by kernel_rfl) (by kernel_rfl) Tryz.func119 (by kernel_rfl) (by kernel_rfl) (by kernel_rfl) ?_
  refine hm.mono ?_
  rintro e w5 ⟨rfl, hA5⟩
  refine ⟨_, rfl, hAS _ hA5, fun hHeld => ?_⟩
  refine Rg.call (ops := (Rg.opsOf Tryz.f62 1)) (fn := Tryz.f88) (xs := #[Operand.tmp 5, Operand.tmp 8, Operand.tmp 9]) (ats := #[23, 30, 1]) 5 (some 10) 88 #[dv, (.int .i64 (r : Nat)), .func (Fn.func 120) #[] #[(.pointer (some ⟨bd, 0, none⟩)), (.pointer (some ⟨bp, 0, none⟩))]] (by kernel_rfl) (by kernel_rfl) (by kernel_rfl) (by kernel_rfl) (by kernel_rfl) Tryz.func88 (by kernel_rfl) (by kernel_rfl) (by kernel_rfl) ?_
  refine (hst _ hA5).mono ?_
  rintro e w6 ⟨rfl, hB6⟩
  refine ⟨_, rfl, hBS _ hB6, fun hHeld => ?_⟩
  refine Rg.take (ops := (Rg.opsOf Tryz.f62 1)) 6 (some 4) ((.int .i64 (X : Nat))) hNS (by kernel_rfl) (by kernel_rfl) (by kernel_rfl) (by kernel_rfl) (by kernel_rfl) hHeld (Rg.y_move (x := (Operand.tmp 10)) (Or.inr (by kernel_rfl)) (by kernel_rfl)) ?_
  refine Rg.done (ops := (Rg.opsOf Tryz.f62 1)) (by kernel_rfl) ?_
  exact ⟨by kernel_rfl, hB6⟩
set_option maxRecDepth 100000 in
set_option maxHeartbeats 2000000 in
theorem regWrite (ops : Array Oper) (hops : ops = (Rg.opsOf Tryz.f130 1)) (id : Nat) (bd bp bq : Nat) (dv : Value) (p q : ByteArray) (r X : Nat) {u0 u1 u2 u6 u7 u8 u9 u10 u11 u12 u13 : Value} (w : World) (A B : World → Prop)
    (hS : (fun W => Cap W bd dv ∧ Cap W bp (.string p) ∧ Cap W bq (.string q)) w.drew) (hm : Calls Tryz.prog 156 #[dv, .string p, .string q] w.drew fun e w' => e = .returned (.int .i64 (r : Nat)) ∧ A w') (hAS : ∀ W, A W → (fun W => Cap W bd dv ∧ Cap W bp (.string p) ∧ Cap W bq (.string q)) W)
    (hst : ∀ W, A W → Calls Tryz.prog 88 #[dv, .int .i64 (r : Nat), .func (.func 157) #[] #[.pointer (some ⟨bd, 0, none⟩), .pointer (some ⟨bp, 0, none⟩), .pointer (some ⟨bq, 0, none⟩)]] W fun e w' => e = .returned (.int .i64 (X : Nat)) ∧ B w') (hBS : ∀ W, B W → (fun W => Cap W bd dv ∧ Cap W bp (.string p) ∧ Cap W bq (.string q)) W) :
    (Code.region id ops true).wp Tryz.prog (Rg.Only fun a' w' => a' = ⟨#[u0, u1, u2, (.pointer (some ⟨bd, 0, none⟩)), (.pointer (some ⟨bp, 0, none⟩)), (.pointer (some ⟨bq, 0, none⟩)), (.int .i64 (X : Nat)), dv, dv, (.string p), (.string q), (.int .i64 (r : Nat)), .func (Fn.func 157) #[] #[(.pointer (some ⟨bd, 0, none⟩)), (.pointer (some ⟨bp, 0, none⟩)), (.pointer (some ⟨bq, 0, none⟩))], (.int .i64 (X : Nat))], []⟩ ∧ B w') ⟨#[u0, u1, u2, (.pointer (some ⟨bd, 0, none⟩)), (.pointer (some ⟨bp, 0, none⟩)), (.pointer (some ⟨bq, 0, none⟩)), u6, u7, u8, u9, u10, u11, u12, u13], []⟩ w := by
  subst hops
  have hNS : Region.noSelect (Rg.opsOf Tryz.f130 1) = true := by kernel_rfl
  refine wp_region_held_drew (S := (fun W => Cap W bd dv ∧ Cap W bp (.string p) ∧ Cap W bq (.string q))) (by kernel_rfl) hS (fun hHeld => ?_)
  rw [show (Rg.opsOf Tryz.f130 1).size = 8 by kernel_rfl]
  refine Rg.take (ops := (Rg.opsOf Tryz.f130 1)) 0 (some 7) (dv) hNS (by kernel_rfl) (by kernel_rfl) (by kernel_rfl) (by kernel_rfl) (by kernel_rfl) hHeld (Rg.y_load (T := 23) (x := (Operand.tmp 3)) (vx := (.pointer (some ⟨bd, 0, none⟩))) (by kernel_rfl) (by kernel_rfl) ?_) ?_
  · (intro w hSw; obtain ⟨s0, s1, s2⟩ := hSw; unfold Cap at *; go_simp)
  refine Rg.take (ops := (Rg.opsOf Tryz.f130 1)) 1 (some 8) (dv) hNS (by kernel_rfl) (by kernel_rfl) (by kernel_rfl) (by kernel_rfl) (by kernel_rfl) hHeld (Rg.y_load (T := 23) (x := (Operand.tmp 3)) (vx := (.pointer (some ⟨bd, 0, none⟩))) (by kernel_rfl) (by kernel_rfl) ?_) ?_
  · (intro w hSw; obtain ⟨s0, s1, s2⟩ := hSw; unfold Cap at *; go_simp)
  refine Rg.take (ops := (Rg.opsOf Tryz.f130 1)) 2 (some 9) ((.string p)) hNS (by kernel_rfl) (by kernel_rfl) (by kernel_rfl) (by kernel_rfl) (by kernel_rfl) hHeld (Rg.y_load (T := 9) (x := (Operand.tmp 4)) (vx := (.pointer (some ⟨bp, 0, none⟩))) (by kernel_rfl) (by kernel_rfl) ?_) ?_
  · (intro w hSw; obtain ⟨s0, s1, s2⟩ := hSw; unfold Cap at *; go_simp)
  refine Rg.take (ops := (Rg.opsOf Tryz.f130 1)) 3 (some 10) ((.string q)) hNS (by kernel_rfl) (by kernel_rfl) (by kernel_rfl) (by kernel_rfl) (by kernel_rfl) hHeld (Rg.y_load (T := 9) (x := (Operand.tmp 5)) (vx := (.pointer (some ⟨bq, 0, none⟩))) (by kernel_rfl) (by kernel_rfl) ?_) ?_
  · (intro w hSw; obtain ⟨s0, s1, s2⟩ := hSw; unfold Cap at *; go_simp)
  refine Rg.take (ops := (Rg.opsOf Tryz.f130 1)) 5 (some 12) (.func (Fn.func 157) #[] #[(.pointer (some ⟨bd, 0, none⟩)), (.pointer (some ⟨bp, 0, none⟩)), (.pointer (some ⟨bq, 0, none⟩))]) hNS (by kernel_rfl) (by kernel_rfl) (by kernel_rfl) (by kernel_rfl) (by kernel_rfl) hHeld (Rg.y_func (f := Fn.func 157) (xs := #[]) (ys := #[Operand.tmp 3, Operand.tmp 4, Operand.tmp 5]) (vs := #[]) (us := #[(.pointer (some ⟨bd, 0, none⟩)), (.pointer (some ⟨bp, 0, none⟩)), (.pointer (some ⟨bq, 0, none⟩))]) (by kernel_rfl) (by kernel_rfl) (by kernel_rfl)) ?_
  refine Rg.call (ops := (Rg.opsOf Tryz.f130 1)) (fn := Tryz.f156) (xs := #[Operand.tmp 8, Operand.tmp 9, Operand.tmp 10]) (ats := #[23, 9, 9]) 4 (some 11) 156 #[dv, (.string p), (.string q)] (by kernel_rfl) (by kernel_rfl) (by kernel_rfl) (by kernel_rfl) (by kernel_rfl) Tryz.func156 (by kernel_rfl) (by kernel_rfl) (by kernel_rfl) ?_
  refine hm.mono ?_
  rintro e w5 ⟨rfl, hA5⟩
  refine ⟨_, rfl, hAS _ hA5, fun hHeld => ?_⟩
  refine Rg.call (ops := (Rg.opsOf Tryz.f130 1)) (fn := Tryz.f88) (xs := #[Operand.tmp 7, Operand.tmp 11, Operand.tmp 12]) (ats := #[23, 30, 1]) 6 (some 13) 88 #[dv, (.int .i64 (r : Nat)), .func (Fn.func 157) #[] #[(.pointer (some ⟨bd, 0, none⟩)), (.pointer (some ⟨bp, 0, none⟩)), (.pointer (some ⟨bq, 0, none⟩))]] (by kernel_rfl) (by kernel_rfl) (by kernel_rfl) (by kernel_rfl) (by kernel_rfl) Tryz.func88 (by kernel_rfl) (by kernel_rfl) (by kernel_rfl) ?_
  refine (hst _ hA5).mono ?_
  rintro e w6 ⟨rfl, hB6⟩
  refine ⟨_, rfl, hBS _ hB6, fun hHeld => ?_⟩
  refine Rg.take (ops := (Rg.opsOf Tryz.f130 1)) 7 (some 6) ((.int .i64 (X : Nat))) hNS (by kernel_rfl) (by kernel_rfl) (by kernel_rfl) (by kernel_rfl) (by kernel_rfl) hHeld (Rg.y_move (x := (Operand.tmp 13)) (Or.inr (by kernel_rfl)) (by kernel_rfl)) ?_
  refine Rg.done (ops := (Rg.opsOf Tryz.f130 1)) (by kernel_rfl) ?_
  exact ⟨by kernel_rfl, hB6⟩
set_option maxRecDepth 100000 in
set_option maxHeartbeats 2000000 in
theorem regAppend (ops : Array Oper) (hops : ops = (Rg.opsOf Tryz.f28 1)) (id : Nat) (bd bp bq : Nat) (dv : Value) (p q : ByteArray) (r X : Nat) {u0 u1 u2 u6 u7 u8 u9 u10 u11 u12 u13 : Value} (w : World) (A B : World → Prop)
    (hS : (fun W => Cap W bd dv ∧ Cap W bp (.string p) ∧ Cap W bq (.string q)) w.drew) (hm : Calls Tryz.prog 89 #[dv, .string p, .string q] w.drew fun e w' => e = .returned (.int .i64 (r : Nat)) ∧ A w') (hAS : ∀ W, A W → (fun W => Cap W bd dv ∧ Cap W bp (.string p) ∧ Cap W bq (.string q)) W)
    (hst : ∀ W, A W → Calls Tryz.prog 88 #[dv, .int .i64 (r : Nat), .func (.func 90) #[] #[.pointer (some ⟨bd, 0, none⟩), .pointer (some ⟨bp, 0, none⟩), .pointer (some ⟨bq, 0, none⟩)]] W fun e w' => e = .returned (.int .i64 (X : Nat)) ∧ B w') (hBS : ∀ W, B W → (fun W => Cap W bd dv ∧ Cap W bp (.string p) ∧ Cap W bq (.string q)) W) :
    (Code.region id ops true).wp Tryz.prog (Rg.Only fun a' w' => a' = ⟨#[u0, u1, u2, (.pointer (some ⟨bd, 0, none⟩)), (.pointer (some ⟨bp, 0, none⟩)), (.pointer (some ⟨bq, 0, none⟩)), (.int .i64 (X : Nat)), dv, dv, (.string p), (.string q), (.int .i64 (r : Nat)), .func (Fn.func 90) #[] #[(.pointer (some ⟨bd, 0, none⟩)), (.pointer (some ⟨bp, 0, none⟩)), (.pointer (some ⟨bq, 0, none⟩))], (.int .i64 (X : Nat))], []⟩ ∧ B w') ⟨#[u0, u1, u2, (.pointer (some ⟨bd, 0, none⟩)), (.pointer (some ⟨bp, 0, none⟩)), (.pointer (some ⟨bq, 0, none⟩)), u6, u7, u8, u9, u10, u11, u12, u13], []⟩ w := by
  subst hops
  have hNS : Region.noSelect (Rg.opsOf Tryz.f28 1) = true := by kernel_rfl
  refine wp_region_held_drew (S := (fun W => Cap W bd dv ∧ Cap W bp (.string p) ∧ Cap W bq (.string q))) (by kernel_rfl) hS (fun hHeld => ?_)
  rw [show (Rg.opsOf Tryz.f28 1).size = 8 by kernel_rfl]
  refine Rg.take (ops := (Rg.opsOf Tryz.f28 1)) 0 (some 7) (dv) hNS (by kernel_rfl) (by kernel_rfl) (by kernel_rfl) (by kernel_rfl) (by kernel_rfl) hHeld (Rg.y_load (T := 23) (x := (Operand.tmp 3)) (vx := (.pointer (some ⟨bd, 0, none⟩))) (by kernel_rfl) (by kernel_rfl) ?_) ?_
  · (intro w hSw; obtain ⟨s0, s1, s2⟩ := hSw; unfold Cap at *; go_simp)
  refine Rg.take (ops := (Rg.opsOf Tryz.f28 1)) 1 (some 8) (dv) hNS (by kernel_rfl) (by kernel_rfl) (by kernel_rfl) (by kernel_rfl) (by kernel_rfl) hHeld (Rg.y_load (T := 23) (x := (Operand.tmp 3)) (vx := (.pointer (some ⟨bd, 0, none⟩))) (by kernel_rfl) (by kernel_rfl) ?_) ?_
  · (intro w hSw; obtain ⟨s0, s1, s2⟩ := hSw; unfold Cap at *; go_simp)
  refine Rg.take (ops := (Rg.opsOf Tryz.f28 1)) 2 (some 9) ((.string p)) hNS (by kernel_rfl) (by kernel_rfl) (by kernel_rfl) (by kernel_rfl) (by kernel_rfl) hHeld (Rg.y_load (T := 9) (x := (Operand.tmp 4)) (vx := (.pointer (some ⟨bp, 0, none⟩))) (by kernel_rfl) (by kernel_rfl) ?_) ?_
  · (intro w hSw; obtain ⟨s0, s1, s2⟩ := hSw; unfold Cap at *; go_simp)
  refine Rg.take (ops := (Rg.opsOf Tryz.f28 1)) 3 (some 10) ((.string q)) hNS (by kernel_rfl) (by kernel_rfl) (by kernel_rfl) (by kernel_rfl) (by kernel_rfl) hHeld (Rg.y_load (T := 9) (x := (Operand.tmp 5)) (vx := (.pointer (some ⟨bq, 0, none⟩))) (by kernel_rfl) (by kernel_rfl) ?_) ?_
  · (intro w hSw; obtain ⟨s0, s1, s2⟩ := hSw; unfold Cap at *; go_simp)
  refine Rg.take (ops := (Rg.opsOf Tryz.f28 1)) 5 (some 12) (.func (Fn.func 90) #[] #[(.pointer (some ⟨bd, 0, none⟩)), (.pointer (some ⟨bp, 0, none⟩)), (.pointer (some ⟨bq, 0, none⟩))]) hNS (by kernel_rfl) (by kernel_rfl) (by kernel_rfl) (by kernel_rfl) (by kernel_rfl) hHeld (Rg.y_func (f := Fn.func 90) (xs := #[]) (ys := #[Operand.tmp 3, Operand.tmp 4, Operand.tmp 5]) (vs := #[]) (us := #[(.pointer (some ⟨bd, 0, none⟩)), (.pointer (some ⟨bp, 0, none⟩)), (.pointer (some ⟨bq, 0, none⟩))]) (by kernel_rfl) (by kernel_rfl) (by kernel_rfl)) ?_
  refine Rg.call (ops := (Rg.opsOf Tryz.f28 1)) (fn := Tryz.f89) (xs := #[Operand.tmp 8, Operand.tmp 9, Operand.tmp 10]) (ats := #[23, 9, 9]) 4 (some 11) 89 #[dv, (.string p), (.string q)] (by kernel_rfl) (by kernel_rfl) (by kernel_rfl) (by kernel_rfl) (by kernel_rfl) Tryz.func89 (by kernel_rfl) (by kernel_rfl) (by kernel_rfl) ?_
  refine hm.mono ?_
  rintro e w5 ⟨rfl, hA5⟩
  refine ⟨_, rfl, hAS _ hA5, fun hHeld => ?_⟩
  refine Rg.call (ops := (Rg.opsOf Tryz.f28 1)) (fn := Tryz.f88) (xs := #[Operand.tmp 7, Operand.tmp 11, Operand.tmp 12]) (ats := #[23, 30, 1]) 6 (some 13) 88 #[dv, (.int .i64 (r : Nat)), .func (Fn.func 90) #[] #[(.pointer (some ⟨bd, 0, none⟩)), (.pointer (some ⟨bp, 0, none⟩)), (.pointer (some ⟨bq, 0, none⟩))]] (by kernel_rfl) (by kernel_rfl) (by kernel_rfl) (by kernel_rfl) (by kernel_rfl) Tryz.func88 (by kernel_rfl) (by kernel_rfl) (by kernel_rfl) ?_
  refine (hst _ hA5).mono ?_
  rintro e w6 ⟨rfl, hB6⟩
  refine ⟨_, rfl, hBS _ hB6, fun hHeld => ?_⟩
  refine Rg.take (ops := (Rg.opsOf Tryz.f28 1)) 7 (some 6) ((.int .i64 (X : Nat))) hNS (by kernel_rfl) (by kernel_rfl) (by kernel_rfl) (by kernel_rfl) (by kernel_rfl) hHeld (Rg.y_move (x := (Operand.tmp 13)) (Or.inr (by kernel_rfl)) (by kernel_rfl)) ?_
  refine Rg.done (ops := (Rg.opsOf Tryz.f28 1)) (by kernel_rfl) ?_
  exact ⟨by kernel_rfl, hB6⟩
set_option maxRecDepth 100000 in
set_option maxHeartbeats 2000000 in
theorem regSync (ops : Array Oper) (hops : ops = (Rg.opsOf Tryz.f72 1)) (id : Nat) (bd bp : Nat) (dv : Value) (p : ByteArray) (r X : Nat) {u0 u1 u4 u5 u6 u7 u8 u9 u10 : Value} (w : World) (A B : World → Prop)
    (hS : (fun W => Cap W bd dv ∧ Cap W bp (.string p)) w.drew) (hm : Calls Tryz.prog 83 #[dv, .string p] w.drew fun e w' => e = .returned (.int .i64 (r : Nat)) ∧ A w') (hAS : ∀ W, A W → (fun W => Cap W bd dv ∧ Cap W bp (.string p)) W)
    (hst : ∀ W, A W → Calls Tryz.prog 88 #[dv, .int .i64 (r : Nat), .func (.func 128) #[] #[.pointer (some ⟨bd, 0, none⟩), .pointer (some ⟨bp, 0, none⟩)]] W fun e w' => e = .returned (.int .i64 (X : Nat)) ∧ B w') (hBS : ∀ W, B W → (fun W => Cap W bd dv ∧ Cap W bp (.string p)) W) :
    (Code.region id ops true).wp Tryz.prog (Rg.Only fun a' w' => a' = ⟨#[u0, u1, (.pointer (some ⟨bd, 0, none⟩)), (.pointer (some ⟨bp, 0, none⟩)), (.int .i64 (X : Nat)), dv, dv, (.string p), (.int .i64 (r : Nat)), .func (Fn.func 128) #[] #[(.pointer (some ⟨bd, 0, none⟩)), (.pointer (some ⟨bp, 0, none⟩))], (.int .i64 (X : Nat))], []⟩ ∧ B w') ⟨#[u0, u1, (.pointer (some ⟨bd, 0, none⟩)), (.pointer (some ⟨bp, 0, none⟩)), u4, u5, u6, u7, u8, u9, u10], []⟩ w := by
  subst hops
  have hNS : Region.noSelect (Rg.opsOf Tryz.f72 1) = true := by kernel_rfl
  refine wp_region_held_drew (S := (fun W => Cap W bd dv ∧ Cap W bp (.string p))) (by kernel_rfl) hS (fun hHeld => ?_)
  rw [show (Rg.opsOf Tryz.f72 1).size = 7 by kernel_rfl]
  refine Rg.take (ops := (Rg.opsOf Tryz.f72 1)) 0 (some 5) (dv) hNS (by kernel_rfl) (by kernel_rfl) (by kernel_rfl) (by kernel_rfl) (by kernel_rfl) hHeld (Rg.y_load (T := 23) (x := (Operand.tmp 2)) (vx := (.pointer (some ⟨bd, 0, none⟩))) (by kernel_rfl) (by kernel_rfl) ?_) ?_
  · (intro w hSw; obtain ⟨s0, s1⟩ := hSw; unfold Cap at *; go_simp)
  refine Rg.take (ops := (Rg.opsOf Tryz.f72 1)) 1 (some 6) (dv) hNS (by kernel_rfl) (by kernel_rfl) (by kernel_rfl) (by kernel_rfl) (by kernel_rfl) hHeld (Rg.y_load (T := 23) (x := (Operand.tmp 2)) (vx := (.pointer (some ⟨bd, 0, none⟩))) (by kernel_rfl) (by kernel_rfl) ?_) ?_
  · (intro w hSw; obtain ⟨s0, s1⟩ := hSw; unfold Cap at *; go_simp)
  refine Rg.take (ops := (Rg.opsOf Tryz.f72 1)) 2 (some 7) ((.string p)) hNS (by kernel_rfl) (by kernel_rfl) (by kernel_rfl) (by kernel_rfl) (by kernel_rfl) hHeld (Rg.y_load (T := 9) (x := (Operand.tmp 3)) (vx := (.pointer (some ⟨bp, 0, none⟩))) (by kernel_rfl) (by kernel_rfl) ?_) ?_
  · (intro w hSw; obtain ⟨s0, s1⟩ := hSw; unfold Cap at *; go_simp)
  refine Rg.take (ops := (Rg.opsOf Tryz.f72 1)) 4 (some 9) (.func (Fn.func 128) #[] #[(.pointer (some ⟨bd, 0, none⟩)), (.pointer (some ⟨bp, 0, none⟩))]) hNS (by kernel_rfl) (by kernel_rfl) (by kernel_rfl) (by kernel_rfl) (by kernel_rfl) hHeld (Rg.y_func (f := Fn.func 128) (xs := #[]) (ys := #[Operand.tmp 2, Operand.tmp 3]) (vs := #[]) (us := #[(.pointer (some ⟨bd, 0, none⟩)), (.pointer (some ⟨bp, 0, none⟩))]) (by kernel_rfl) (by kernel_rfl) (by kernel_rfl)) ?_
  refine Rg.call (ops := (Rg.opsOf Tryz.f72 1)) (fn := Tryz.f83) (xs := #[Operand.tmp 6, Operand.tmp 7]) (ats := #[23, 9]) 3 (some 8) 83 #[dv, (.string p)] (by kernel_rfl) (by kernel_rfl) (by kernel_rfl) (by kernel_rfl) (by kernel_rfl) Tryz.func83 (by kernel_rfl) (by kernel_rfl) (by kernel_rfl) ?_
  refine hm.mono ?_
  rintro e w5 ⟨rfl, hA5⟩
  refine ⟨_, rfl, hAS _ hA5, fun hHeld => ?_⟩
  refine Rg.call (ops := (Rg.opsOf Tryz.f72 1)) (fn := Tryz.f88) (xs := #[Operand.tmp 5, Operand.tmp 8, Operand.tmp 9]) (ats := #[23, 30, 1]) 5 (some 10) 88 #[dv, (.int .i64 (r : Nat)), .func (Fn.func 128) #[] #[(.pointer (some ⟨bd, 0, none⟩)), (.pointer (some ⟨bp, 0, none⟩))]] (by kernel_rfl) (by kernel_rfl) (by kernel_rfl) (by kernel_rfl) (by kernel_rfl) Tryz.func88 (by kernel_rfl) (by kernel_rfl) (by kernel_rfl) ?_
  refine (hst _ hA5).mono ?_
  rintro e w6 ⟨rfl, hB6⟩
  refine ⟨_, rfl, hBS _ hB6, fun hHeld => ?_⟩
  refine Rg.take (ops := (Rg.opsOf Tryz.f72 1)) 6 (some 4) ((.int .i64 (X : Nat))) hNS (by kernel_rfl) (by kernel_rfl) (by kernel_rfl) (by kernel_rfl) (by kernel_rfl) hHeld (Rg.y_move (x := (Operand.tmp 10)) (Or.inr (by kernel_rfl)) (by kernel_rfl)) ?_
  refine Rg.done (ops := (Rg.opsOf Tryz.f72 1)) (by kernel_rfl) ?_
  exact ⟨by kernel_rfl, hB6⟩
set_option maxRecDepth 100000 in
set_option maxHeartbeats 2000000 in
theorem regRename (ops : Array Oper) (hops : ops = (Rg.opsOf Tryz.f131 1)) (id : Nat) (bd bp bq : Nat) (dv : Value) (p q : ByteArray) (r X : Nat) {u0 u1 u2 u6 u7 u8 u9 u10 u11 u12 u13 : Value} (w : World) (A B : World → Prop)
    (hS : (fun W => Cap W bd dv ∧ Cap W bp (.string p) ∧ Cap W bq (.string q)) w.drew) (hm : Calls Tryz.prog 158 #[dv, .string p, .string q] w.drew fun e w' => e = .returned (.int .i64 (r : Nat)) ∧ A w') (hAS : ∀ W, A W → (fun W => Cap W bd dv ∧ Cap W bp (.string p) ∧ Cap W bq (.string q)) W)
    (hst : ∀ W, A W → Calls Tryz.prog 88 #[dv, .int .i64 (r : Nat), .func (.func 159) #[] #[.pointer (some ⟨bd, 0, none⟩), .pointer (some ⟨bp, 0, none⟩), .pointer (some ⟨bq, 0, none⟩)]] W fun e w' => e = .returned (.int .i64 (X : Nat)) ∧ B w') (hBS : ∀ W, B W → (fun W => Cap W bd dv ∧ Cap W bp (.string p) ∧ Cap W bq (.string q)) W) :
    (Code.region id ops true).wp Tryz.prog (Rg.Only fun a' w' => a' = ⟨#[u0, u1, u2, (.pointer (some ⟨bd, 0, none⟩)), (.pointer (some ⟨bp, 0, none⟩)), (.pointer (some ⟨bq, 0, none⟩)), (.int .i64 (X : Nat)), dv, dv, (.string p), (.string q), (.int .i64 (r : Nat)), .func (Fn.func 159) #[] #[(.pointer (some ⟨bd, 0, none⟩)), (.pointer (some ⟨bp, 0, none⟩)), (.pointer (some ⟨bq, 0, none⟩))], (.int .i64 (X : Nat))], []⟩ ∧ B w') ⟨#[u0, u1, u2, (.pointer (some ⟨bd, 0, none⟩)), (.pointer (some ⟨bp, 0, none⟩)), (.pointer (some ⟨bq, 0, none⟩)), u6, u7, u8, u9, u10, u11, u12, u13], []⟩ w := by
  subst hops
  have hNS : Region.noSelect (Rg.opsOf Tryz.f131 1) = true := by kernel_rfl
  refine wp_region_held_drew (S := (fun W => Cap W bd dv ∧ Cap W bp (.string p) ∧ Cap W bq (.string q))) (by kernel_rfl) hS (fun hHeld => ?_)
  rw [show (Rg.opsOf Tryz.f131 1).size = 8 by kernel_rfl]
  refine Rg.take (ops := (Rg.opsOf Tryz.f131 1)) 0 (some 7) (dv) hNS (by kernel_rfl) (by kernel_rfl) (by kernel_rfl) (by kernel_rfl) (by kernel_rfl) hHeld (Rg.y_load (T := 23) (x := (Operand.tmp 3)) (vx := (.pointer (some ⟨bd, 0, none⟩))) (by kernel_rfl) (by kernel_rfl) ?_) ?_
  · (intro w hSw; obtain ⟨s0, s1, s2⟩ := hSw; unfold Cap at *; go_simp)
  refine Rg.take (ops := (Rg.opsOf Tryz.f131 1)) 1 (some 8) (dv) hNS (by kernel_rfl) (by kernel_rfl) (by kernel_rfl) (by kernel_rfl) (by kernel_rfl) hHeld (Rg.y_load (T := 23) (x := (Operand.tmp 3)) (vx := (.pointer (some ⟨bd, 0, none⟩))) (by kernel_rfl) (by kernel_rfl) ?_) ?_
  · (intro w hSw; obtain ⟨s0, s1, s2⟩ := hSw; unfold Cap at *; go_simp)
  refine Rg.take (ops := (Rg.opsOf Tryz.f131 1)) 2 (some 9) ((.string p)) hNS (by kernel_rfl) (by kernel_rfl) (by kernel_rfl) (by kernel_rfl) (by kernel_rfl) hHeld (Rg.y_load (T := 9) (x := (Operand.tmp 4)) (vx := (.pointer (some ⟨bp, 0, none⟩))) (by kernel_rfl) (by kernel_rfl) ?_) ?_
  · (intro w hSw; obtain ⟨s0, s1, s2⟩ := hSw; unfold Cap at *; go_simp)
  refine Rg.take (ops := (Rg.opsOf Tryz.f131 1)) 3 (some 10) ((.string q)) hNS (by kernel_rfl) (by kernel_rfl) (by kernel_rfl) (by kernel_rfl) (by kernel_rfl) hHeld (Rg.y_load (T := 9) (x := (Operand.tmp 5)) (vx := (.pointer (some ⟨bq, 0, none⟩))) (by kernel_rfl) (by kernel_rfl) ?_) ?_
  · (intro w hSw; obtain ⟨s0, s1, s2⟩ := hSw; unfold Cap at *; go_simp)
  refine Rg.take (ops := (Rg.opsOf Tryz.f131 1)) 5 (some 12) (.func (Fn.func 159) #[] #[(.pointer (some ⟨bd, 0, none⟩)), (.pointer (some ⟨bp, 0, none⟩)), (.pointer (some ⟨bq, 0, none⟩))]) hNS (by kernel_rfl) (by kernel_rfl) (by kernel_rfl) (by kernel_rfl) (by kernel_rfl) hHeld (Rg.y_func (f := Fn.func 159) (xs := #[]) (ys := #[Operand.tmp 3, Operand.tmp 4, Operand.tmp 5]) (vs := #[]) (us := #[(.pointer (some ⟨bd, 0, none⟩)), (.pointer (some ⟨bp, 0, none⟩)), (.pointer (some ⟨bq, 0, none⟩))]) (by kernel_rfl) (by kernel_rfl) (by kernel_rfl)) ?_
  refine Rg.call (ops := (Rg.opsOf Tryz.f131 1)) (fn := Tryz.f158) (xs := #[Operand.tmp 8, Operand.tmp 9, Operand.tmp 10]) (ats := #[23, 9, 9]) 4 (some 11) 158 #[dv, (.string p), (.string q)] (by kernel_rfl) (by kernel_rfl) (by kernel_rfl) (by kernel_rfl) (by kernel_rfl) Tryz.func158 (by kernel_rfl) (by kernel_rfl) (by kernel_rfl) ?_
  refine hm.mono ?_
  rintro e w5 ⟨rfl, hA5⟩
  refine ⟨_, rfl, hAS _ hA5, fun hHeld => ?_⟩
  refine Rg.call (ops := (Rg.opsOf Tryz.f131 1)) (fn := Tryz.f88) (xs := #[Operand.tmp 7, Operand.tmp 11, Operand.tmp 12]) (ats := #[23, 30, 1]) 6 (some 13) 88 #[dv, (.int .i64 (r : Nat)), .func (Fn.func 159) #[] #[(.pointer (some ⟨bd, 0, none⟩)), (.pointer (some ⟨bp, 0, none⟩)), (.pointer (some ⟨bq, 0, none⟩))]] (by kernel_rfl) (by kernel_rfl) (by kernel_rfl) (by kernel_rfl) (by kernel_rfl) Tryz.func88 (by kernel_rfl) (by kernel_rfl) (by kernel_rfl) ?_
  refine (hst _ hA5).mono ?_
  rintro e w6 ⟨rfl, hB6⟩
  refine ⟨_, rfl, hBS _ hB6, fun hHeld => ?_⟩
  refine Rg.take (ops := (Rg.opsOf Tryz.f131 1)) 7 (some 6) ((.int .i64 (X : Nat))) hNS (by kernel_rfl) (by kernel_rfl) (by kernel_rfl) (by kernel_rfl) (by kernel_rfl) hHeld (Rg.y_move (x := (Operand.tmp 13)) (Or.inr (by kernel_rfl)) (by kernel_rfl)) ?_
  refine Rg.done (ops := (Rg.opsOf Tryz.f131 1)) (by kernel_rfl) ?_
  exact ⟨by kernel_rfl, hB6⟩
end Go.Proofs.YtjdmbkkdnonkkaaGreat.Dk

namespace Go.Proofs.YtjdmbkkdnonkkaaGreat.Dk
open Go.RowKit Tx Pm Pl Pr
set_option linter.unusedVariables false
set_option maxRecDepth 100000 in
set_option maxHeartbeats 2000000 in
theorem regMayWrite (ops : Array Oper) (hops : ops = (Rg.opsOf Tryz.f156 8)) (id : Nat) (b bi bl : Nat) (l : Int) (s : St) (p d V X0 X1 : ByteArray) (K X2 X3 : Int) (B : Bool) {u3 u4 u5 u6 u7 u8 u9 u10 u11 u12 u13 u14 u15 u16 u17 u18 u19 u20 u21 u22 u23 u24 u25 u26 u27 u28 u29 u30 u31 u32 u33 u34 u35 u36 u37 u38 u39 u40 u41 u42 u43 u44 : Value} (w : World) (h : Ia b bi bl l w s)
    (hlk : ∀ W, Ia b bi bl l W s → (Instr.lookup 111 (.map (some bi)) (.string p) false).run Tryz.prog W = .ok (.agg #[.int .i64 K, .string X0, .string X1, .int .i64 X2, .int .i64 X3]) W)
    (hsub : IntKind.i64.wrap ((d.size : Int) - (X0.size : Int)) = (d.size : Int) - (X0.size : Int))
    (cv : ∀ W, Calls Tryz.prog 135 #[.string p] W fun e w' => e = .returned (.string V) ∧ ∃ n, w' = W.drewN n)
    (cf : ∀ W, Ia b bi bl l W s → Calls Tryz.prog 134 #[.pointer (some ⟨b, 0, none⟩), .string V, .int .i64 ((d.size : Int) - (X0.size : Int))] W fun e w' => e = .returned (.bool B) ∧ Below W.heap.size W w') :
    (Code.region id ops true).wp Tryz.prog (Rg.Only fun a' w' => a' = ⟨#[(.pointer (some ⟨b, 0, none⟩)), (.string p), (.string d), u3, u4, u5, u6, u7, u8, u9, u10, u11, u12, u13, u14, u15, u16, u17, u18, u19, u20, u21, u22, u23, u24, u25, u26, u27, u28, (.bool B), (.pointer (some ⟨b, 0, none⟩)), (.string p), (.string V), (.string d), (.int .i64 (d.size : Int)), (.pointer (some ⟨b, 0, none⟩)), (.pointer (some ⟨b, 0, none⟩)), (.pointer (some ⟨b, 0, none⟩)), (.map (some bi)), (.string p), (.agg #[.int .i64 K, .string X0, .string X1, .int .i64 X2, .int .i64 X3]), (.string X0), (.int .i64 (X0.size : Int)), (.int .i64 ((d.size : Int) - (X0.size : Int))), (.bool B)], []⟩ ∧ Below w.heap.size w w') ⟨#[(.pointer (some ⟨b, 0, none⟩)), (.string p), (.string d), u3, u4, u5, u6, u7, u8, u9, u10, u11, u12, u13, u14, u15, u16, u17, u18, u19, u20, u21, u22, u23, u24, u25, u26, u27, u28, u29, u30, u31, u32, u33, u34, u35, u36, u37, u38, u39, u40, u41, u42, u43, u44], []⟩ w := by
  subst hops
  have hNS : Region.noSelect (Rg.opsOf Tryz.f156 8) = true := by kernel_rfl
  have h0 : Ia b bi bl l w.drew s ∧ Below w.heap.size w w.drew := ⟨h.below (Below.refl _ _).drew, (Below.refl _ _).drew⟩
  refine wp_region_held_drew (S := fun W => Ia b bi bl l W s ∧ Below w.heap.size w W) (by kernel_rfl) h0 (fun hHeld => ?_)
  rw [show (Rg.opsOf Tryz.f156 8).size = 16 by kernel_rfl]
  refine Rg.take (ops := (Rg.opsOf Tryz.f156 8)) 0 (some 30) ((.pointer (some ⟨b, 0, none⟩))) hNS (by kernel_rfl) (by kernel_rfl) (by kernel_rfl) (by kernel_rfl) (by kernel_rfl) hHeld (Rg.y_move (x := (Operand.tmp 0)) (Or.inl (by kernel_rfl)) (by kernel_rfl)) ?_
  refine Rg.take (ops := (Rg.opsOf Tryz.f156 8)) 1 (some 31) ((.string p)) hNS (by kernel_rfl) (by kernel_rfl) (by kernel_rfl) (by kernel_rfl) (by kernel_rfl) hHeld (Rg.y_move (x := (Operand.tmp 1)) (Or.inl (by kernel_rfl)) (by kernel_rfl)) ?_
  refine Rg.take (ops := (Rg.opsOf Tryz.f156 8)) 3 (some 33) ((.string d)) hNS (by kernel_rfl) (by kernel_rfl) (by kernel_rfl) (by kernel_rfl) (by kernel_rfl) hHeld (Rg.y_move (x := (Operand.tmp 2)) (Or.inl (by kernel_rfl)) (by kernel_rfl)) ?_
  refine Rg.take (ops := (Rg.opsOf Tryz.f156 8)) 4 (some 34) ((.int .i64 (d.size : Int))) hNS (by kernel_rfl) (by kernel_rfl) (by kernel_rfl) (by kernel_rfl) (by kernel_rfl) hHeld (Rg.y_len (x := (Operand.tmp 33)) (ats := #[9]) (vx := (.string d)) (n := d.size) (by kernel_rfl) (by kernel_rfl) ?_) ?_
  · (intro ty w hSw; go_simp)
  refine Rg.take (ops := (Rg.opsOf Tryz.f156 8)) 5 (some 35) ((.pointer (some ⟨b, 0, none⟩))) hNS (by kernel_rfl) (by kernel_rfl) (by kernel_rfl) (by kernel_rfl) (by kernel_rfl) hHeld (Rg.y_move (x := (Operand.tmp 0)) (Or.inl (by kernel_rfl)) (by kernel_rfl)) ?_
  refine Rg.take (ops := (Rg.opsOf Tryz.f156 8)) 6 (some 36) ((.pointer (some ⟨b, 0, none⟩))) hNS (by kernel_rfl) (by kernel_rfl) (by kernel_rfl) (by kernel_rfl) (by kernel_rfl) hHeld (Rg.y_nil (x := (Operand.tmp 35)) (by kernel_rfl) (by kernel_rfl)) ?_
  refine Rg.take (ops := (Rg.opsOf Tryz.f156 8)) 7 (some 37) ((.pointer (some ⟨b, 0, none⟩))) hNS (by kernel_rfl) (by kernel_rfl) (by kernel_rfl) (by kernel_rfl) (by kernel_rfl) hHeld (Rg.y_field (T := 114) (k := 0) (x := (Operand.tmp 36)) (vx := (.pointer (some ⟨b, 0, none⟩))) (by kernel_rfl) (by kernel_rfl) ?_) ?_
  · (intro w hSw; clear hSw; go_simp)
  refine Rg.take (ops := (Rg.opsOf Tryz.f156 8)) 8 (some 38) ((.map (some bi))) hNS (by kernel_rfl) (by kernel_rfl) (by kernel_rfl) (by kernel_rfl) (by kernel_rfl) hHeld (Rg.y_load (T := 111) (x := (Operand.tmp 37)) (vx := (.pointer (some ⟨b, 0, none⟩))) (by kernel_rfl) (by kernel_rfl) ?_) ?_
  · (intro w hSw; have c0 := hSw.1.cell.1; clear hSw; go_simp)
  refine Rg.take (ops := (Rg.opsOf Tryz.f156 8)) 9 (some 39) ((.string p)) hNS (by kernel_rfl) (by kernel_rfl) (by kernel_rfl) (by kernel_rfl) (by kernel_rfl) hHeld (Rg.y_move (x := (Operand.tmp 1)) (Or.inl (by kernel_rfl)) (by kernel_rfl)) ?_
  refine Rg.take (ops := (Rg.opsOf Tryz.f156 8)) 10 (some 40) ((.agg #[.int .i64 K, .string X0, .string X1, .int .i64 X2, .int .i64 X3])) hNS (by kernel_rfl) (by kernel_rfl) (by kernel_rfl) (by kernel_rfl) (by kernel_rfl) hHeld (Rg.y_look (T := 111) (x := (Operand.tmp 38)) (y := (Operand.tmp 39)) (c := false) (vx := (.map (some bi))) (vy := (.string p)) (by kernel_rfl) (by kernel_rfl) (by kernel_rfl) ?_) ?_
  · (intro w hSw; exact hlk _ hSw.1)
  refine Rg.take (ops := (Rg.opsOf Tryz.f156 8)) 11 (some 41) ((.string X0)) hNS (by kernel_rfl) (by kernel_rfl) (by kernel_rfl) (by kernel_rfl) (by kernel_rfl) hHeld (Rg.y_fld (T := 117) (k := 1) (x := (Operand.tmp 40)) (vx := (.agg #[.int .i64 K, .string X0, .string X1, .int .i64 X2, .int .i64 X3])) (by kernel_rfl) (by kernel_rfl) ?_) ?_
  · (intro w hSw; exact fld1 _ _ _ _ _ w)
  refine Rg.take (ops := (Rg.opsOf Tryz.f156 8)) 12 (some 42) ((.int .i64 (X0.size : Int))) hNS (by kernel_rfl) (by kernel_rfl) (by kernel_rfl) (by kernel_rfl) (by kernel_rfl) hHeld (Rg.y_len (x := (Operand.tmp 41)) (ats := #[9]) (vx := (.string X0)) (n := X0.size) (by kernel_rfl) (by kernel_rfl) ?_) ?_
  · (intro ty w hSw; go_simp)
  refine Rg.take (ops := (Rg.opsOf Tryz.f156 8)) 13 (some 43) ((.int .i64 ((d.size : Int) - (X0.size : Int)))) hNS (by kernel_rfl) (by kernel_rfl) (by kernel_rfl) (by kernel_rfl) (by kernel_rfl) hHeld (Rg.y_bin (b := BinOp.sub) (T := 3) (R' := 3) (x := (Operand.tmp 34)) (y := (Operand.tmp 42)) (vx := (.int .i64 (d.size : Int))) (vy := (.int .i64 (X0.size : Int))) (by kernel_rfl) (by kernel_rfl) (by kernel_rfl) ?_) ?_
  · (intro w hSw; clear hSw; go_simp <;> exact hsub)
  refine Rg.call (ops := (Rg.opsOf Tryz.f156 8)) (fn := Tryz.f135) (xs := #[Operand.tmp 31]) (ats := #[9]) 2 (some 32) 135 #[(.string p)] (by kernel_rfl) (by kernel_rfl) (by kernel_rfl) (by kernel_rfl) (by kernel_rfl) Tryz.func135 (by kernel_rfl) (by kernel_rfl) (by kernel_rfl) ?_
  refine (cv _).mono ?_
  rintro e w5 ⟨rfl, n5, rfl⟩
  refine ⟨_, rfl, ⟨hHeld.1.below (below_drewN _ _), below_call hHeld.2 (below_drewN _ _)⟩, fun hHeld => ?_⟩
  refine Rg.call (ops := (Rg.opsOf Tryz.f156 8)) (fn := Tryz.f134) (xs := #[Operand.tmp 30, Operand.tmp 32, Operand.tmp 43]) (ats := #[23, 9, 3]) 14 (some 44) 134 #[(.pointer (some ⟨b, 0, none⟩)), (.string V), (.int .i64 ((d.size : Int) - (X0.size : Int)))] (by kernel_rfl) (by kernel_rfl) (by kernel_rfl) (by kernel_rfl) (by kernel_rfl) Tryz.func134 (by kernel_rfl) (by kernel_rfl) (by kernel_rfl) ?_
  refine (cf _ hHeld.1).mono ?_
  rintro e w6 ⟨rfl, hb6⟩
  refine ⟨_, rfl, ⟨hHeld.1.below hb6, below_call hHeld.2 hb6⟩, fun hHeld => ?_⟩
  refine Rg.take (ops := (Rg.opsOf Tryz.f156 8)) 15 (some 29) ((.bool B)) hNS (by kernel_rfl) (by kernel_rfl) (by kernel_rfl) (by kernel_rfl) (by kernel_rfl) hHeld (Rg.y_move (x := (Operand.tmp 44)) (Or.inr (by kernel_rfl)) (by kernel_rfl)) ?_
  refine Rg.done (ops := (Rg.opsOf Tryz.f156 8)) (by kernel_rfl) ?_
  exact ⟨by kernel_rfl, hHeld.2⟩
set_option maxRecDepth 100000 in
set_option maxHeartbeats 2000000 in
theorem regMayRename1 (ops : Array Oper) (hops : ops = (Rg.opsOf Tryz.f158 12)) (id : Nat) (b bi bl gf gg : Nat) (l : Int) (s : St) (t X Y V : ByteArray) (B : Bool) {u1 u3 u4 u5 u6 u7 u11 u12 u13 u14 u15 u16 u17 u18 u19 u20 u21 u22 u23 u24 u25 u26 u27 u28 u29 u30 u31 u32 u33 u34 u35 u36 u37 u38 u39 u40 u41 u42 u43 u44 u45 u46 u47 u48 u49 u50 u51 u52 u53 u54 u55 u56 u57 u58 u59 u60 u61 u62 u63 u64 u65 : Value} (w : World) (h : Ia b bi bl l w s)
    (hX : w.cell? ⟨gf, 1, none⟩ = some (.string X)) (hY : w.cell? ⟨gg, 1, none⟩ = some (.string Y))
    (hsub : IntKind.i64.wrap ((X.size : Int) - (Y.size : Int)) = (X.size : Int) - (Y.size : Int))
    (cv : ∀ W, Calls Tryz.prog 135 #[.string t] W fun e w' => e = .returned (.string V) ∧ ∃ n, w' = W.drewN n)
    (cf : ∀ W, Ia b bi bl l W s → Calls Tryz.prog 134 #[.pointer (some ⟨b, 0, none⟩), .string V, .int .i64 ((X.size : Int) - (Y.size : Int))] W fun e w' => e = .returned (.bool B) ∧ Below W.heap.size W w') :
    (Code.region id ops true).wp Tryz.prog (Rg.Only fun a' w' => a' = ⟨#[(.pointer (some ⟨b, 0, none⟩)), u1, (.string t), u3, u4, u5, u6, u7, (.pointer (some ⟨gf, 0, none⟩)), (.pointer (some ⟨gg, 0, none⟩)), (.bool true), u11, u12, u13, u14, u15, u16, u17, u18, u19, u20, u21, u22, u23, u24, u25, u26, u27, u28, u29, u30, u31, u32, u33, u34, u35, u36, u37, u38, u39, u40, u41, u42, u43, u44, u45, u46, u47, u48, u49, u50, (.bool B), (.bool true), (.bool true), (.pointer (some ⟨b, 0, none⟩)), (.string t), (.string V), (.pointer (some ⟨gf, 1, none⟩)), (.string X), (.int .i64 (X.size : Int)), (.pointer (some ⟨gg, 1, none⟩)), (.string Y), (.int .i64 (Y.size : Int)), (.int .i64 ((X.size : Int) - (Y.size : Int))), (.bool B), (.bool B)], []⟩ ∧ Below w.heap.size w w') ⟨#[(.pointer (some ⟨b, 0, none⟩)), u1, (.string t), u3, u4, u5, u6, u7, (.pointer (some ⟨gf, 0, none⟩)), (.pointer (some ⟨gg, 0, none⟩)), (.bool true), u11, u12, u13, u14, u15, u16, u17, u18, u19, u20, u21, u22, u23, u24, u25, u26, u27, u28, u29, u30, u31, u32, u33, u34, u35, u36, u37, u38, u39, u40, u41, u42, u43, u44, u45, u46, u47, u48, u49, u50, u51, u52, u53, u54, u55, u56, u57, u58, u59, u60, u61, u62, u63, u64, u65], []⟩ w := by
  subst hops
  have hNS : Region.noSelect (Rg.opsOf Tryz.f158 12) = true := by kernel_rfl
  have h0 : Ia b bi bl l w.drew s ∧ Below w.heap.size w w.drew ∧ w.drew.cell? ⟨gf, 1, none⟩ = some (.string X) ∧ w.drew.cell? ⟨gg, 1, none⟩ = some (.string Y) := ⟨h.below (Below.refl _ _).drew, (Below.refl _ _).drew, hX, hY⟩
  refine wp_region_held_drew (S := fun W => Ia b bi bl l W s ∧ Below w.heap.size w W ∧ W.cell? ⟨gf, 1, none⟩ = some (.string X) ∧ W.cell? ⟨gg, 1, none⟩ = some (.string Y)) (by kernel_rfl) h0 (fun hHeld => ?_)
  rw [show (Rg.opsOf Tryz.f158 12).size = 15 by kernel_rfl]
  refine Rg.take (ops := (Rg.opsOf Tryz.f158 12)) 0 (some 52) ((.bool true)) hNS (by kernel_rfl) (by kernel_rfl) (by kernel_rfl) (by kernel_rfl) (by kernel_rfl) hHeld (Rg.y_move (x := (Operand.tmp 10)) (Or.inl (by kernel_rfl)) (by kernel_rfl)) ?_
  refine Rg.take (ops := (Rg.opsOf Tryz.f158 12)) 1 (some 53) ((.bool true)) hNS (by kernel_rfl) (by kernel_rfl) (by kernel_rfl) (by kernel_rfl) (by kernel_rfl) hHeld (Rg.y_move (x := (Operand.tmp 52)) (Or.inl (by kernel_rfl)) (by kernel_rfl)) ?_
  refine Rg.take (ops := (Rg.opsOf Tryz.f158 12)) 2 (some 54) ((.pointer (some ⟨b, 0, none⟩))) hNS (by kernel_rfl) (by kernel_rfl) (by kernel_rfl) (by kernel_rfl) (by kernel_rfl) hHeld (Rg.y_move (x := (Operand.tmp 0)) (Or.inl (by kernel_rfl)) (by kernel_rfl)) ?_
  refine Rg.take (ops := (Rg.opsOf Tryz.f158 12)) 3 (some 55) ((.string t)) hNS (by kernel_rfl) (by kernel_rfl) (by kernel_rfl) (by kernel_rfl) (by kernel_rfl) hHeld (Rg.y_move (x := (Operand.tmp 2)) (Or.inl (by kernel_rfl)) (by kernel_rfl)) ?_
  refine Rg.take (ops := (Rg.opsOf Tryz.f158 12)) 5 (some 57) ((.pointer (some ⟨gf, 1, none⟩))) hNS (by kernel_rfl) (by kernel_rfl) (by kernel_rfl) (by kernel_rfl) (by kernel_rfl) hHeld (Rg.y_field (T := 117) (k := 1) (x := (Operand.tmp 8)) (vx := (.pointer (some ⟨gf, 0, none⟩))) (by kernel_rfl) (by kernel_rfl) ?_) ?_
  · (intro w hSw; clear hSw; go_simp)
  refine Rg.take (ops := (Rg.opsOf Tryz.f158 12)) 6 (some 58) ((.string X)) hNS (by kernel_rfl) (by kernel_rfl) (by kernel_rfl) (by kernel_rfl) (by kernel_rfl) hHeld (Rg.y_load (T := 9) (x := (Operand.tmp 57)) (vx := (.pointer (some ⟨gf, 1, none⟩))) (by kernel_rfl) (by kernel_rfl) ?_) ?_
  · (intro w hSw; obtain ⟨_, _, cx, cy⟩ := hSw; go_simp)
  refine Rg.take (ops := (Rg.opsOf Tryz.f158 12)) 7 (some 59) ((.int .i64 (X.size : Int))) hNS (by kernel_rfl) (by kernel_rfl) (by kernel_rfl) (by kernel_rfl) (by kernel_rfl) hHeld (Rg.y_len (x := (Operand.tmp 58)) (ats := #[9]) (vx := (.string X)) (n := X.size) (by kernel_rfl) (by kernel_rfl) ?_) ?_
  · (intro ty w hSw; go_simp)
  refine Rg.take (ops := (Rg.opsOf Tryz.f158 12)) 8 (some 60) ((.pointer (some ⟨gg, 1, none⟩))) hNS (by kernel_rfl) (by kernel_rfl) (by kernel_rfl) (by kernel_rfl) (by kernel_rfl) hHeld (Rg.y_field (T := 117) (k := 1) (x := (Operand.tmp 9)) (vx := (.pointer (some ⟨gg, 0, none⟩))) (by kernel_rfl) (by kernel_rfl) ?_) ?_
  · (intro w hSw; clear hSw; go_simp)
  refine Rg.take (ops := (Rg.opsOf Tryz.f158 12)) 9 (some 61) ((.string Y)) hNS (by kernel_rfl) (by kernel_rfl) (by kernel_rfl) (by kernel_rfl) (by kernel_rfl) hHeld (Rg.y_load (T := 9) (x := (Operand.tmp 60)) (vx := (.pointer (some ⟨gg, 1, none⟩))) (by kernel_rfl) (by kernel_rfl) ?_) ?_
  · (intro w hSw; obtain ⟨_, _, cx, cy⟩ := hSw; go_simp)
  refine Rg.take (ops := (Rg.opsOf Tryz.f158 12)) 10 (some 62) ((.int .i64 (Y.size : Int))) hNS (by kernel_rfl) (by kernel_rfl) (by kernel_rfl) (by kernel_rfl) (by kernel_rfl) hHeld (Rg.y_len (x := (Operand.tmp 61)) (ats := #[9]) (vx := (.string Y)) (n := Y.size) (by kernel_rfl) (by kernel_rfl) ?_) ?_
  · (intro ty w hSw; go_simp)
  refine Rg.take (ops := (Rg.opsOf Tryz.f158 12)) 11 (some 63) ((.int .i64 ((X.size : Int) - (Y.size : Int)))) hNS (by kernel_rfl) (by kernel_rfl) (by kernel_rfl) (by kernel_rfl) (by kernel_rfl) hHeld (Rg.y_bin (b := BinOp.sub) (T := 3) (R' := 3) (x := (Operand.tmp 59)) (y := (Operand.tmp 62)) (vx := (.int .i64 (X.size : Int))) (vy := (.int .i64 (Y.size : Int))) (by kernel_rfl) (by kernel_rfl) (by kernel_rfl) ?_) ?_
  · (intro w hSw; clear hSw; go_simp <;> exact hsub)
  refine Rg.call (ops := (Rg.opsOf Tryz.f158 12)) (fn := Tryz.f135) (xs := #[Operand.tmp 55]) (ats := #[9]) 4 (some 56) 135 #[(.string t)] (by kernel_rfl) (by kernel_rfl) (by kernel_rfl) (by kernel_rfl) (by kernel_rfl) Tryz.func135 (by kernel_rfl) (by kernel_rfl) (by kernel_rfl) ?_
  refine (cv _).mono ?_
  rintro e w5 ⟨rfl, n5, rfl⟩
  refine ⟨_, rfl, ⟨hHeld.1.below (below_drewN _ _), below_call hHeld.2.1 (below_drewN _ _), hHeld.2.2.1, hHeld.2.2.2⟩, fun hHeld => ?_⟩
  refine Rg.call (ops := (Rg.opsOf Tryz.f158 12)) (fn := Tryz.f134) (xs := #[Operand.tmp 54, Operand.tmp 56, Operand.tmp 63]) (ats := #[23, 9, 3]) 12 (some 64) 134 #[(.pointer (some ⟨b, 0, none⟩)), (.string V), (.int .i64 ((X.size : Int) - (Y.size : Int)))] (by kernel_rfl) (by kernel_rfl) (by kernel_rfl) (by kernel_rfl) (by kernel_rfl) Tryz.func134 (by kernel_rfl) (by kernel_rfl) (by kernel_rfl) ?_
  refine (cf _ hHeld.1).mono ?_
  rintro e w6 ⟨rfl, hb6⟩
  refine ⟨_, rfl, ⟨hHeld.1.below hb6, below_call hHeld.2.1 hb6, (hb6.cell (p := ⟨gf, 1, none⟩) (World.block_lt_of_cell? _ _ hHeld.2.2.1)).trans hHeld.2.2.1, (hb6.cell (p := ⟨gg, 1, none⟩) (World.block_lt_of_cell? _ _ hHeld.2.2.2)).trans hHeld.2.2.2⟩, fun hHeld => ?_⟩
  refine Rg.take (ops := (Rg.opsOf Tryz.f158 12)) 13 (some 65) ((.bool B)) hNS (by kernel_rfl) (by kernel_rfl) (by kernel_rfl) (by kernel_rfl) (by kernel_rfl) hHeld (Rg.y_pick (c := (Operand.tmp 53)) (x := (Operand.tmp 64)) (y := (Operand.const (Value.bool false))) (b := true) (by kernel_rfl) (by kernel_rfl) (by kernel_rfl)) ?_
  refine Rg.take (ops := (Rg.opsOf Tryz.f158 12)) 14 (some 51) ((.bool B)) hNS (by kernel_rfl) (by kernel_rfl) (by kernel_rfl) (by kernel_rfl) (by kernel_rfl) hHeld (Rg.y_move (x := (Operand.tmp 65)) (Or.inr (by kernel_rfl)) (by kernel_rfl)) ?_
  refine Rg.done (ops := (Rg.opsOf Tryz.f158 12)) (by kernel_rfl) ?_
  exact ⟨by kernel_rfl, hHeld.2.1⟩
set_option maxRecDepth 100000 in
set_option maxHeartbeats 2000000 in
theorem regMayRename0 (ops : Array Oper) (hops : ops = (Rg.opsOf Tryz.f158 12)) (id : Nat) (b bi bl gf gg : Nat) (l : Int) (s : St) (t X Y V : ByteArray) (B : Bool) {u1 u3 u4 u5 u6 u7 u11 u12 u13 u14 u15 u16 u17 u18 u19 u20 u21 u22 u23 u24 u25 u26 u27 u28 u29 u30 u31 u32 u33 u34 u35 u36 u37 u38 u39 u40 u41 u42 u43 u44 u45 u46 u47 u48 u49 u50 u51 u52 u53 u54 u55 u56 u57 u58 u59 u60 u61 u62 u63 u64 u65 : Value} (w : World) (h : Ia b bi bl l w s)
    (hX : w.cell? ⟨gf, 1, none⟩ = some (.string X)) (hY : w.cell? ⟨gg, 1, none⟩ = some (.string Y)) :
    (Code.region id ops true).wp Tryz.prog (Rg.Only fun a' w' => a' = ⟨#[(.pointer (some ⟨b, 0, none⟩)), u1, (.string t), u3, u4, u5, u6, u7, (.pointer (some ⟨gf, 0, none⟩)), (.pointer (some ⟨gg, 0, none⟩)), (.bool false), u11, u12, u13, u14, u15, u16, u17, u18, u19, u20, u21, u22, u23, u24, u25, u26, u27, u28, u29, u30, u31, u32, u33, u34, u35, u36, u37, u38, u39, u40, u41, u42, u43, u44, u45, u46, u47, u48, u49, u50, (Value.bool false), (.bool false), (.bool false), undef, undef, undef, undef, undef, undef, undef, undef, undef, undef, undef, (Value.bool false)], []⟩ ∧ Below w.heap.size w w') ⟨#[(.pointer (some ⟨b, 0, none⟩)), u1, (.string t), u3, u4, u5, u6, u7, (.pointer (some ⟨gf, 0, none⟩)), (.pointer (some ⟨gg, 0, none⟩)), (.bool false), u11, u12, u13, u14, u15, u16, u17, u18, u19, u20, u21, u22, u23, u24, u25, u26, u27, u28, u29, u30, u31, u32, u33, u34, u35, u36, u37, u38, u39, u40, u41, u42, u43, u44, u45, u46, u47, u48, u49, u50, u51, u52, u53, u54, u55, u56, u57, u58, u59, u60, u61, u62, u63, u64, u65], []⟩ w := by
  subst hops
  have hNS : Region.noSelect (Rg.opsOf Tryz.f158 12) = true := by kernel_rfl
  have h0 : Ia b bi bl l w.drew s ∧ Below w.heap.size w w.drew ∧ w.drew.cell? ⟨gf, 1, none⟩ = some (.string X) ∧ w.drew.cell? ⟨gg, 1, none⟩ = some (.string Y) := ⟨h.below (Below.refl _ _).drew, (Below.refl _ _).drew, hX, hY⟩
  refine wp_region_held_drew (S := fun W => Ia b bi bl l W s ∧ Below w.heap.size w W ∧ W.cell? ⟨gf, 1, none⟩ = some (.string X) ∧ W.cell? ⟨gg, 1, none⟩ = some (.string Y)) (by kernel_rfl) h0 (fun hHeld => ?_)
  rw [show (Rg.opsOf Tryz.f158 12).size = 15 by kernel_rfl]
  refine Rg.take (ops := (Rg.opsOf Tryz.f158 12)) 0 (some 52) ((.bool false)) hNS (by kernel_rfl) (by kernel_rfl) (by kernel_rfl) (by kernel_rfl) (by kernel_rfl) hHeld (Rg.y_move (x := (Operand.tmp 10)) (Or.inl (by kernel_rfl)) (by kernel_rfl)) ?_
  refine Rg.take (ops := (Rg.opsOf Tryz.f158 12)) 1 (some 53) ((.bool false)) hNS (by kernel_rfl) (by kernel_rfl) (by kernel_rfl) (by kernel_rfl) (by kernel_rfl) hHeld (Rg.y_move (x := (Operand.tmp 52)) (Or.inl (by kernel_rfl)) (by kernel_rfl)) ?_
  refine Rg.skip (ops := (Rg.opsOf Tryz.f158 12)) 2 (some 54) hNS (by kernel_rfl) (by kernel_rfl) (by kernel_rfl) (by kernel_rfl) (by kernel_rfl) hHeld ?_
  refine Rg.skip (ops := (Rg.opsOf Tryz.f158 12)) 3 (some 55) hNS (by kernel_rfl) (by kernel_rfl) (by kernel_rfl) (by kernel_rfl) (by kernel_rfl) hHeld ?_
  refine Rg.skip (ops := (Rg.opsOf Tryz.f158 12)) 4 (some 56) hNS (by kernel_rfl) (by kernel_rfl) (by kernel_rfl) (by kernel_rfl) (by kernel_rfl) hHeld ?_
  refine Rg.skip (ops := (Rg.opsOf Tryz.f158 12)) 5 (some 57) hNS (by kernel_rfl) (by kernel_rfl) (by kernel_rfl) (by kernel_rfl) (by kernel_rfl) hHeld ?_
  refine Rg.skip (ops := (Rg.opsOf Tryz.f158 12)) 6 (some 58) hNS (by kernel_rfl) (by kernel_rfl) (by kernel_rfl) (by kernel_rfl) (by kernel_rfl) hHeld ?_
  refine Rg.skip (ops := (Rg.opsOf Tryz.f158 12)) 7 (some 59) hNS (by kernel_rfl) (by kernel_rfl) (by kernel_rfl) (by kernel_rfl) (by kernel_rfl) hHeld ?_
  refine Rg.skip (ops := (Rg.opsOf Tryz.f158 12)) 8 (some 60) hNS (by kernel_rfl) (by kernel_rfl) (by kernel_rfl) (by kernel_rfl) (by kernel_rfl) hHeld ?_
  refine Rg.skip (ops := (Rg.opsOf Tryz.f158 12)) 9 (some 61) hNS (by kernel_rfl) (by kernel_rfl) (by kernel_rfl) (by kernel_rfl) (by kernel_rfl) hHeld ?_
  refine Rg.skip (ops := (Rg.opsOf Tryz.f158 12)) 10 (some 62) hNS (by kernel_rfl) (by kernel_rfl) (by kernel_rfl) (by kernel_rfl) (by kernel_rfl) hHeld ?_
  refine Rg.skip (ops := (Rg.opsOf Tryz.f158 12)) 11 (some 63) hNS (by kernel_rfl) (by kernel_rfl) (by kernel_rfl) (by kernel_rfl) (by kernel_rfl) hHeld ?_
  refine Rg.skip (ops := (Rg.opsOf Tryz.f158 12)) 12 (some 64) hNS (by kernel_rfl) (by kernel_rfl) (by kernel_rfl) (by kernel_rfl) (by kernel_rfl) hHeld ?_
  refine Rg.take (ops := (Rg.opsOf Tryz.f158 12)) 13 (some 65) ((Value.bool false)) hNS (by kernel_rfl) (by kernel_rfl) (by kernel_rfl) (by kernel_rfl) (by kernel_rfl) hHeld (Rg.y_pick (c := (Operand.tmp 53)) (x := (Operand.tmp 64)) (y := (Operand.const (Value.bool false))) (b := false) (by kernel_rfl) (by kernel_rfl) (by kernel_rfl)) ?_
  refine Rg.take (ops := (Rg.opsOf Tryz.f158 12)) 14 (some 51) ((Value.bool false)) hNS (by kernel_rfl) (by kernel_rfl) (by kernel_rfl) (by kernel_rfl) (by kernel_rfl) hHeld (Rg.y_move (x := (Operand.tmp 65)) (Or.inr (by kernel_rfl)) (by kernel_rfl)) ?_
  refine Rg.done (ops := (Rg.opsOf Tryz.f158 12)) (by kernel_rfl) ?_
  exact ⟨by kernel_rfl, hHeld.2.1⟩
end Go.Proofs.YtjdmbkkdnonkkaaGreat.Dk

namespace Go.Proofs.YtjdmbkkdnonkkaaGreat.Dk
open Go.RowKit Tx Pm Pl Pr
set_option linter.unusedVariables false
theorem ready1 (b bi bl m : Nat) (M l : Int) (s : St) (p : ByteArray) (w : World) (h : Ia b bi bl l w s) (hm : m ≤ 1000) (hM : M = (m : Int) + 1) (hp : p.size ≤ 8000000000000) :
    Calls Tryz.prog 133 #[.pointer (some ⟨b, 0, none⟩), .int .i64 M, .slice (some ⟨w.heap.size, 0, none⟩) 1 1] (w.alloc (.cells #[.string p] 9)) fun e w' => e = .returned (.int .i64 (first s p m : Nat)) ∧ Below w.heap.size w w' := by
  have hb := (Below.refl _ w).alloc (Nat.le_refl _) (.cells #[.string p] 9)
  refine (iReady_any b bi bl w.heap.size 1 1 m M l s [p] _ (h.below hb) rfl hm hM (fun k q hk => ?_) (by simp) (fun q hq => ?_) (by omega)).mono ?_
  · rw [World.cell?_alloc_at _ _ _ _ rfl]
    match k, hk with
    | 0, hk => cases hk; rfl
  · rw [List.mem_singleton.1 hq]
    exact hp
  · rintro e w' ⟨rfl, h2⟩
    rw [rdy_one]
    exact ⟨rfl, below_call hb h2⟩
theorem ready2 (b bi bl m : Nat) (M l : Int) (s : St) (p q : ByteArray) (w : World) (h : Ia b bi bl l w s) (hm : m ≤ 1000) (hM : M = (m : Int) + 1) (hp : p.size ≤ 8000000000000) (hq : q.size ≤ 8000000000000) :
    Calls Tryz.prog 133 #[.pointer (some ⟨b, 0, none⟩), .int .i64 M, .slice (some ⟨w.heap.size, 0, none⟩) 2 2] (w.alloc (.cells #[.string p, .string q] 9)) fun e w' => e = .returned (.int .i64 ((if first s p m ≠ 0 then first s p m else first s q m : Nat) : Nat)) ∧ Below w.heap.size w w' := by
  have hb := (Below.refl _ w).alloc (Nat.le_refl _) (.cells #[.string p, .string q] 9)
  refine (iReady_any b bi bl w.heap.size 2 2 m M l s [p, q] _ (h.below hb) rfl hm hM (fun k x hk => ?_) (by simp) (fun x hx => ?_) (by omega)).mono ?_
  · rw [World.cell?_alloc_at _ _ _ _ rfl]
    match k, hk with
    | 0, hk => cases hk; rfl
    | 1, hk => cases hk; rfl
  · rcases List.mem_cons.1 hx with rfl | hx
    · exact hp
    · rw [List.mem_singleton.1 hx]
      exact hq
  · rintro e w' ⟨rfl, h2⟩
    rw [rdy_two]
    exact ⟨rfl, below_call hb h2⟩
theorem ne_eq {a : Nat} (h : a ≠ 0) : ((a : Int) == 0) = false := beq_eq_false_iff_ne.2 (by omega)
def mayMkdirS (s : St) (p : ByteArray) : Nat := if first s p 0 ≠ 0 then first s p 0 else if home s.L p = false then 11 else if kind s.L p = 2 then 12 else 0
def mayWriteS (s : St) (p d : ByteArray) : Nat := if first s p 1 ≠ 0 then first s p 1 else if home s.L p = false then 11 else if kind s.L p = 1 then 12 else if full s (vol p) ((d.size : Int) - (old s.L p).data.size) = true then 13 else 0
def mayAppendS (s : St) (p d : ByteArray) : Nat := if there s p ≠ 0 then there s p else if full s (vol p) d.size = true then 13 else 0
set_option maxRecDepth 100000 in
set_option maxHeartbeats 1000000 in
theorem iMayMkdir_any (b bi bl : Nat) (l : Int) (s : St) (p : ByteArray) (w : World) (h : Ia b bi bl l w s) (hp : p.size ≤ 8000000000000) :
    Calls Tryz.prog 119 #[.pointer (some ⟨b, 0, none⟩), .string p] w fun e w' => e = .returned (.int .i64 (mayMkdirS s p : Nat)) ∧ Below w.heap.size w w' := by
  have c1 := ready1 b bi bl 0 1 l s p w h (by omega) rfl hp
  have c2 := fun W (hW : Below w.heap.size w W) => iHome_any b bi bl l s p W (h.below hW) hp
  have HL := Lib.hid (fun W (hW : Below w.heap.size w W) => (h.below hW).look (maxLen_of hp))
  have HC := Lib.hid (fun W (hW : Below w.heap.size w W) => (h.below hW).cell.1)
  have f0 := fld0
  unfold mayMkdirS
  generalize first s p 0 = E at c1 ⊢
  generalize home s.L p = H at c2 ⊢
  generalize kind s.L p = K at HL ⊢
  clear h
  by_cases hE : E = 0
  · subst hE
    rw [if_neg (by decide)]
    cases H with
    | false =>
      rw [if_pos rfl]
      go_enter Tryz.func119, Tryz.ntmps119
      go_wp2_with (first | (go_at_call 133; refine c1.mono ?_; rintro e w1 ⟨rfl, hb1⟩; have l0 := HL.out _ hb1; have g0 := HC.out _ hb1) | (go_at_call 151; refine (c2 _ hb1).mono ?_; rintro e w2 ⟨rfl, hb2⟩; have hb3 := below_call hb1 hb2; have l1 := HL.out _ hb3; have g1 := HC.out _ hb3))
      go_ret
      exact ⟨rfl, hb3⟩
    | true =>
      rw [if_neg (by decide)]
      by_cases hK : K = 2
      · subst hK
        rw [if_pos rfl]
        go_enter Tryz.func119, Tryz.ntmps119
        go_wp2_with (first | (go_at_call 133; refine c1.mono ?_; rintro e w1 ⟨rfl, hb1⟩; have l0 := HL.out _ hb1; have g0 := HC.out _ hb1) | (go_at_call 151; refine (c2 _ hb1).mono ?_; rintro e w2 ⟨rfl, hb2⟩; have hb3 := below_call hb1 hb2; have l1 := HL.out _ hb3; have g1 := HC.out _ hb3))
        go_ret
        exact ⟨rfl, hb3⟩
      · rw [if_neg hK]
        have e1 : ((K : Int) == 2) = false := beq_eq_false_iff_ne.2 (by omega)
        clear hK
        go_enter Tryz.func119, Tryz.ntmps119
        go_wp2_with (first | (go_at_call 133; refine c1.mono ?_; rintro e w1 ⟨rfl, hb1⟩; have l0 := HL.out _ hb1; have g0 := HC.out _ hb1) | (go_at_call 151; refine (c2 _ hb1).mono ?_; rintro e w2 ⟨rfl, hb2⟩; have hb3 := below_call hb1 hb2; have l1 := HL.out _ hb3; have g1 := HC.out _ hb3))
        go_ret
        exact ⟨rfl, hb3⟩
  · rw [if_pos hE]
    have e1 := ne_eq hE
    clear hE
    go_enter Tryz.func119, Tryz.ntmps119
    go_wp2_with (first | (go_at_call 133; refine c1.mono ?_; rintro e w1 ⟨rfl, hb1⟩; have l0 := HL.out _ hb1; have g0 := HC.out _ hb1) | (go_at_call 151; refine (c2 _ hb1).mono ?_; rintro e w2 ⟨rfl, hb2⟩; have hb3 := below_call hb1 hb2; have l1 := HL.out _ hb3; have g1 := HC.out _ hb3))
    go_ret
    exact ⟨rfl, hb1⟩
theorem there_mbf (s : St) (p : ByteArray) : there s p = if first s p 1 ≠ 0 then first s p 1 else mbf s.L p := by
  unfold there mbf
  rfl
set_option maxRecDepth 100000 in
set_option maxHeartbeats 1000000 in
theorem iMaySync_any (b bi bl : Nat) (l : Int) (s : St) (p : ByteArray) (w : World) (h : Ia b bi bl l w s) (hp : p.size ≤ 8000000000000) :
    Calls Tryz.prog 83 #[.pointer (some ⟨b, 0, none⟩), .string p] w fun e w' => e = .returned (.int .i64 (there s p : Nat)) ∧ Below w.heap.size w w' := by
  have c1 := ready1 b bi bl 1 2 l s p w h (by omega) rfl hp
  have c2 := fun W (hW : Below w.heap.size w W) => iMbf_any b bi bl l s p W (h.below hW) hp
  rw [there_mbf]
  generalize first s p 1 = E at c1 ⊢
  generalize mbf s.L p = M at c2 ⊢
  clear h
  by_cases hE : E = 0
  · subst hE
    rw [if_neg (by decide)]
    go_enter Tryz.func83, Tryz.ntmps83
    go_wp2_with (first | (go_at_call 133; refine c1.mono ?_; rintro e w1 ⟨rfl, hb1⟩) | (go_at_call 92; refine (c2 _ hb1).mono ?_; rintro e w2 ⟨rfl, rfl⟩))
    go_ret
    exact ⟨rfl, hb1⟩
  · rw [if_pos hE]
    have e1 := ne_eq hE
    clear hE
    go_enter Tryz.func83, Tryz.ntmps83
    go_wp2_with (go_at_call 133; refine c1.mono ?_; rintro e w1 ⟨rfl, hb1⟩)
    go_ret
    exact ⟨rfl, hb1⟩
theorem old_le {s : St} (hf : Fit s) (p : ByteArray) : (old s.L p).data.size ≤ 4000000000000000000 := by
  rcases old_cases s.L p with e | ⟨hm, _⟩
  · rw [e]; show 0 ≤ _; omega
  · exact Nat.le_trans (le_whole hm) hf.2.2
theorem wrap_sub {a b : Nat} (ha : a ≤ 4000000000000000000) (hb : b ≤ 4000000000000000000) : IntKind.i64.wrap ((a : Int) - (b : Int)) = (a : Int) - (b : Int) := IntWalk.i64_in _ (by omega)
set_option maxRecDepth 100000 in
set_option maxHeartbeats 1000000 in
theorem iMayWrite_any (b bi bl : Nat) (l : Int) (s : St) (p d : ByteArray) (w : World) (h : Ia b bi bl l w s) (hR : Rises s.L) (hf : Fit s) (hp : p.size ≤ 8000000000000) (hd : d.size ≤ 1000000000000000000) :
    Calls Tryz.prog 156 #[.pointer (some ⟨b, 0, none⟩), .string p, .string d] w fun e w' => e = .returned (.int .i64 (mayWriteS s p d : Nat)) ∧ Below w.heap.size w w' := by
  have c1 := ready1 b bi bl 1 2 l s p w h (by omega) rfl hp
  have c2 := fun W (hW : Below w.heap.size w W) => iHome_any b bi bl l s p W (h.below hW) hp
  have ho := old_le hf p
  have hv := vol_le p
  have c3 := fun W (hW : Ia b bi bl l W s) => iFull_any b bi bl l s (vol p) ((d.size : Int) - (old s.L p).data.size) W hW hR hf (by omega) (by omega)
  have c4 := fun W => iVol_any p W hp
  have hsub := wrap_sub (a := d.size) (by omega) ho
  have HL := Lib.hid (fun W (hW : Below w.heap.size w W) => (h.below hW).look (maxLen_of hp))
  have hlk := fun W (hW : Ia b bi bl l W s) => hW.look (maxLen_of hp)
  have HC := Lib.hid (fun W (hW : Below w.heap.size w W) => (h.below hW).cell.1)
  have HI := Lib.hid (fun W (hW : Below w.heap.size w W) => h.below hW)
  have f0 := fld0
  unfold mayWriteS
  generalize full s (vol p) ((d.size : Int) - (old s.L p).data.size) = B at c3 ⊢
  generalize first s p 1 = E at c1 ⊢
  generalize home s.L p = H at c2 ⊢
  generalize kind s.L p = K at HL hlk ⊢
  generalize (old s.L p).data = X0 at HL hlk c3 hsub
  generalize (old s.L p).kept = X1 at HL hlk
  generalize stOf (old s.L p) = X2 at HL hlk
  generalize ((old s.L p).stamp : Int) = X3 at HL hlk
  generalize vol p = V at c3 c4
  have HLK := Lib.hid hlk
  have HS := Lib.hid hsub
  clear h hlk hsub ho hv hf hR
  by_cases hE : E = 0
  · subst hE
    rw [if_neg (by decide)]
    cases H with
    | false =>
      rw [if_pos rfl]
      go_enter Tryz.func156, Tryz.ntmps156
      go_wp2_with (first | (go_at_call 133; refine c1.mono ?_; rintro e w1 ⟨rfl, hb1⟩; have l0 := HL.out _ hb1; have g0 := HC.out _ hb1) | (go_at_call 151; refine (c2 _ hb1).mono ?_; rintro e w2 ⟨rfl, hb2⟩; have hb3 := below_call hb1 hb2; have l1 := HL.out _ hb3; have g1 := HC.out _ hb3))
      go_ret
      exact ⟨rfl, hb3⟩
    | true =>
      rw [if_neg (by decide)]
      by_cases hK : K = 1
      · subst hK
        rw [if_pos rfl]
        go_enter Tryz.func156, Tryz.ntmps156
        go_wp2_with (first | (go_at_call 133; refine c1.mono ?_; rintro e w1 ⟨rfl, hb1⟩; have l0 := HL.out _ hb1; have g0 := HC.out _ hb1) | (go_at_call 151; refine (c2 _ hb1).mono ?_; rintro e w2 ⟨rfl, hb2⟩; have hb3 := below_call hb1 hb2; have l1 := HL.out _ hb3; have g1 := HC.out _ hb3))
        go_ret
        exact ⟨rfl, hb3⟩
      · rw [if_neg hK]
        have e1 : ((K : Int) == 1) = false := beq_eq_false_iff_ne.2 (by omega)
        clear hK
        cases B with
        | true =>
          rw [if_pos rfl]
          go_enter Tryz.func156, Tryz.ntmps156
          go_wp2_with (first | (go_at_call 133; refine c1.mono ?_; rintro e w1 ⟨rfl, hb1⟩; have l0 := HL.out _ hb1; have g0 := HC.out _ hb1) | (go_at_call 151; refine (c2 _ hb1).mono ?_; rintro e w2 ⟨rfl, hb2⟩; have hb3 := below_call hb1 hb2; have l1 := HL.out _ hb3; have g1 := HC.out _ hb3))
          refine Rg.wp_only ?_ (regMayWrite _ (by kernel_rfl) _ b bi bl l s p d V X0 X1 K X2 X3 true _ (HI.out _ hb3) HLK.out HS.out c4 c3)
          rintro _ w9 ⟨rfl, hb9⟩
          have hb4 := below_call hb3 hb9
          go_wp2_with fail
          go_ret
          exact ⟨rfl, hb4⟩
        | false =>
          rw [if_neg (by decide)]
          go_enter Tryz.func156, Tryz.ntmps156
          go_wp2_with (first | (go_at_call 133; refine c1.mono ?_; rintro e w1 ⟨rfl, hb1⟩; have l0 := HL.out _ hb1; have g0 := HC.out _ hb1) | (go_at_call 151; refine (c2 _ hb1).mono ?_; rintro e w2 ⟨rfl, hb2⟩; have hb3 := below_call hb1 hb2; have l1 := HL.out _ hb3; have g1 := HC.out _ hb3))
          refine Rg.wp_only ?_ (regMayWrite _ (by kernel_rfl) _ b bi bl l s p d V X0 X1 K X2 X3 false _ (HI.out _ hb3) HLK.out HS.out c4 c3)
          rintro _ w9 ⟨rfl, hb9⟩
          have hb4 := below_call hb3 hb9
          go_wp2_with fail
          go_ret
          exact ⟨rfl, hb4⟩
  · rw [if_pos hE]
    have e1 := ne_eq hE
    clear hE
    go_enter Tryz.func156, Tryz.ntmps156
    go_wp2_with (first | (go_at_call 133; refine c1.mono ?_; rintro e w1 ⟨rfl, hb1⟩; have l0 := HL.out _ hb1; have g0 := HC.out _ hb1) | (go_at_call 151; refine (c2 _ hb1).mono ?_; rintro e w2 ⟨rfl, hb2⟩; have hb3 := below_call hb1 hb2; have l1 := HL.out _ hb3; have g1 := HC.out _ hb3))
    go_ret
    exact ⟨rfl, hb1⟩
set_option maxRecDepth 100000 in
set_option maxHeartbeats 1000000 in
theorem iMayAppend_any (b bi bl : Nat) (l : Int) (s : St) (p d : ByteArray) (w : World) (h : Ia b bi bl l w s) (hR : Rises s.L) (hf : Fit s) (hp : p.size ≤ 8000000000000) (hd : d.size ≤ 1000000000000000000) :
    Calls Tryz.prog 89 #[.pointer (some ⟨b, 0, none⟩), .string p, .string d] w fun e w' => e = .returned (.int .i64 (mayAppendS s p d : Nat)) ∧ Below w.heap.size w w' := by
  have c1 := iMaySync_any b bi bl l s p w h hp
  have hv := vol_le p
  have c3 := fun W (hW : Below w.heap.size w W) => iFull_any b bi bl l s (vol p) (d.size : Int) W (h.below hW) hR hf (by omega) (by omega)
  have c4 := fun W => iVol_any p W hp
  unfold mayAppendS
  generalize full s (vol p) (d.size : Int) = B at c3 ⊢
  generalize there s p = E at c1 ⊢
  generalize vol p = V at c3 c4
  clear h hv hf hR
  by_cases hE : E = 0
  · subst hE
    rw [if_neg (by decide)]
    cases B with
    | true =>
      rw [if_pos rfl]
      go_enter Tryz.func89, Tryz.ntmps89
      go_wp2_with (first | (go_at_call 83; refine c1.mono ?_; rintro e w1 ⟨rfl, hb1⟩) | (go_at_call 135; refine (c4 _).mono ?_; rintro e w2 ⟨rfl, n2, rfl⟩; have hb2 := below_call hb1 (below_drewN _ n2)) | (go_at_call 134; refine (c3 _ hb2).mono ?_; rintro e w3 ⟨rfl, hb3⟩))
      go_ret
      exact ⟨rfl, below_call hb2 hb3⟩
    | false =>
      rw [if_neg (by decide)]
      go_enter Tryz.func89, Tryz.ntmps89
      go_wp2_with (first | (go_at_call 83; refine c1.mono ?_; rintro e w1 ⟨rfl, hb1⟩) | (go_at_call 135; refine (c4 _).mono ?_; rintro e w2 ⟨rfl, n2, rfl⟩; have hb2 := below_call hb1 (below_drewN _ n2)) | (go_at_call 134; refine (c3 _ hb2).mono ?_; rintro e w3 ⟨rfl, hb3⟩))
      go_ret
      exact ⟨rfl, below_call hb2 hb3⟩
  · rw [if_pos hE]
    have e1 := ne_eq hE
    clear hE
    go_enter Tryz.func89, Tryz.ntmps89
    go_wp2_with (first | (go_at_call 83; refine c1.mono ?_; rintro e w1 ⟨rfl, hb1⟩) | (go_at_call 135; refine (c4 _).mono ?_; rintro e w2 ⟨rfl, n2, rfl⟩; have hb2 := below_call hb1 (below_drewN _ n2)) | (go_at_call 134; refine (c3 _ hb2).mono ?_; rintro e w3 ⟨rfl, hb3⟩))
    go_ret
    exact ⟨rfl, hb1⟩
end Go.Proofs.YtjdmbkkdnonkkaaGreat.Dk

namespace Go.Proofs.YtjdmbkkdnonkkaaGreat.Dk
open Go.RowKit Tx Pm Pl Pr
set_option linter.unusedVariables false
structure Box5 (w : World) (g : Nat) (K : Int) (X0 X1 : ByteArray) (X2 X3 : Int) : Prop where
  lt : g < w.heap.size
  c0 : w.cell? ⟨g, 0, none⟩ = some (.int .i64 K)
  c1 : w.cell? ⟨g, 1, none⟩ = some (.string X0)
  c2 : w.cell? ⟨g, 2, none⟩ = some (.string X1)
  c3 : w.cell? ⟨g, 3, none⟩ = some (.int .i64 X2)
  c4 : w.cell? ⟨g, 4, none⟩ = some (.int .i64 X3)
theorem Box5.below {w w1 : World} {g : Nat} {K : Int} {X0 X1 : ByteArray} {X2 X3 : Int} (h : Box5 w g K X0 X1 X2 X3) (hb : Below w.heap.size w w1) : Box5 w1 g K X0 X1 X2 X3 :=
  ⟨Nat.lt_of_lt_of_le h.lt hb.size, (hb.cell (p := ⟨g, 0, none⟩) h.lt).trans h.c0, (hb.cell (p := ⟨g, 1, none⟩) h.lt).trans h.c1, (hb.cell (p := ⟨g, 2, none⟩) h.lt).trans h.c2, (hb.cell (p := ⟨g, 3, none⟩) h.lt).trans h.c3, (hb.cell (p := ⟨g, 4, none⟩) h.lt).trans h.c4⟩
theorem box5_of {w : World} {g : Nat} {K : Int} {X0 X1 : ByteArray} {X2 X3 : Int} {T : TypeId} {fz : Nat × Nat} (h : w.heap[g]? = some (.cells #[.int .i64 K, .string X0, .string X1, .int .i64 X2, .int .i64 X3] T fz)) : Box5 w g K X0 X1 X2 X3 := by
  refine ⟨(Array.getElem?_eq_some_iff.1 h).1, ?_, ?_, ?_, ?_, ?_⟩ <;> · unfold World.cell?; rw [h]; rfl
theorem two_first (w : World) (o o2 : Obj) : ((w.alloc o).alloc o2).drew.heap[w.heap.size]? = some o := by
  have h := (((Below.refl _ (w.alloc o)).alloc (Nat.le_refl _) o2).drew).block w.heap.size (by simp)
  exact h.trans (new_at w o rfl)
theorem two_second (w : World) (o o2 : Obj) : ((w.alloc o).alloc o2).drew.heap[w.heap.size + 1]? = some o2 := new_at (w.alloc o) o2 (by simp)
def firstR (s : St) (f t : ByteArray) : Nat := if first s f 1 ≠ 0 then first s f 1 else first s t 1
def mayRenS (s : St) (f t : ByteArray) : Nat := if firstR s f t ≠ 0 then firstR s f t else if kind s.L f = 0 then 11 else if home s.L t = false then 11 else if kind s.L f = 1 then 12 else if kind s.L t = 1 then 12 else
  if vol f ≠ vol t ∧ full s (vol t) (((old s.L f).data.size : Int) - (old s.L t).data.size) = true then 13 else 0
set_option maxRecDepth 100000 in
set_option maxHeartbeats 4000000 in
theorem iMayRename_any (b bi bl : Nat) (l : Int) (s : St) (f t : ByteArray) (w : World) (h : Ia b bi bl l w s) (hR : Rises s.L) (hf : Fit s) (hpf : f.size ≤ 8000000000000) (hpt : t.size ≤ 8000000000000) :
    Calls Tryz.prog 158 #[.pointer (some ⟨b, 0, none⟩), .string f, .string t] w fun e w' => e = .returned (.int .i64 (mayRenS s f t : Nat)) ∧ Below w.heap.size w w' := by
  have c1 := ready2 b bi bl 1 2 l s f t w h (by omega) rfl hpf hpt
  have c2 := fun W (hW : Below w.heap.size w W) => iHome_any b bi bl l s t W (h.below hW) hpt
  have ho1 := old_le hf f
  have ho2 := old_le hf t
  have hv := vol_le t
  have c3 := fun W (hW : Ia b bi bl l W s) => iFull_any b bi bl l s (vol t) (((old s.L f).data.size : Int) - (old s.L t).data.size) W hW hR hf (by omega) (by omega)
  have c4 := fun W => iVol_any f W hpf
  have c5 := fun W => iVol_any t W hpt
  have hsub := wrap_sub ho1 ho2
  have hb : b < w.heap.size := h.lt b (.inl rfl)
  have HL := Lib.hid (fun W (hW : Below w.heap.size w W) => (h.below hW).look (maxLen_of hpf))
  have HM := Lib.hid (fun W (hW : Below w.heap.size w W) => (h.below hW).look (maxLen_of hpt))
  have HC := Lib.hid (fun W (hW : Below w.heap.size w W) => (h.below hW).cell.1)
  have HI := Lib.hid (fun W (hW : Below w.heap.size w W) => h.below hW)
  unfold mayRenS
  rw [show (if first s f 1 ≠ 0 then first s f 1 else first s t 1) = firstR s f t from rfl] at c1
  generalize full s (vol t) (((old s.L f).data.size : Int) - (old s.L t).data.size) = B at c3 ⊢
  generalize firstR s f t = E at c1 ⊢
  generalize home s.L t = H at c2 ⊢
  generalize kind s.L f = K at HL ⊢
  generalize kind s.L t = M at HM ⊢
  generalize (old s.L f).data = X0 at HL c3 hsub
  generalize (old s.L f).kept = X1 at HL
  generalize stOf (old s.L f) = X2 at HL
  generalize ((old s.L f).stamp : Int) = X3 at HL
  generalize (old s.L t).data = Y0 at HM c3 hsub
  generalize (old s.L t).kept = Y1 at HM
  generalize stOf (old s.L t) = Y2 at HM
  generalize ((old s.L t).stamp : Int) = Y3 at HM
  generalize vol f = VF at c4 ⊢
  generalize vol t = VT at c3 c5 ⊢
  have HS := Lib.hid hsub
  obtain ⟨RES, hRES⟩ : ∃ RES, RES = if E ≠ 0 then E else if K = 0 then 11 else if H = false then 11 else if K = 1 then 12 else if M = 1 then 12 else if VF ≠ VT ∧ B = true then 13 else 0 := ⟨_, rfl⟩
  rw [← hRES]
  clear h hsub ho1 ho2 hv hf hR
  by_cases hE : E = 0
  · subst hE
    rw [if_neg (by decide)] at hRES
    have HRES := Lib.hid hRES
    clear hRES
    go_enter Tryz.func158, Tryz.ntmps158
    go_upto_region 4 with (go_at_call 133; refine c1.mono ?_; rintro e w1 ⟨rfl, hb1⟩)
    go_cut [8, 9] from 11 (fun v1 v2 wq => ∃ gf gg, v1 = .pointer (some ⟨gf, 0, none⟩) ∧ v2 = .pointer (some ⟨gg, 0, none⟩) ∧ Box5 wq gf K X0 X1 X2 X3 ∧ Box5 wq gg M Y0 Y1 Y2 Y3 ∧ Below w.heap.size w wq)
    case first =>
      have hbw : b < w1.heap.size := Nat.lt_of_lt_of_le hb hb1.size
      have B1 := Lib.hid (Below.refl w1.heap.size w1).drew
      have B2 := fun o => ((Below.refl _ w1).alloc (Nat.le_refl _) o).drew
      have B3 := fun o o2 => (((Below.refl _ w1).alloc (Nat.le_refl _) o).alloc (by simp) o2).drew
      have g0 := HC.out _ hb1
      have k1 := HL.out _ (below_call hb1 B1.out)
      have k2 := fun o => HL.out _ (below_call hb1 (B2 o))
      have k3 := fun o o2 => HL.out _ (below_call hb1 (B3 o o2))
      have m1 := HM.out _ (below_call hb1 B1.out)
      have m2 := fun o => HM.out _ (below_call hb1 (B2 o))
      have m3 := fun o o2 => HM.out _ (below_call hb1 (B3 o o2))
      have HB3 := Lib.hid (fun o o2 => below_call hb1 (B3 o o2))
      clear B2 B3 c1 c2 c3 c4 c5
      go_region
      all_goals (go_wp2_with fail; go_meet)
      · exact ⟨_, _, rfl, rfl, box5_of (two_first _ _ _), box5_of (two_second _ _ _), HB3.out _ _⟩
      · exact ⟨_, _, rfl, rfl, box5_of (two_second _ _ _), box5_of (two_first _ _ _), HB3.out _ _⟩
    case rest =>
      obtain ⟨gf, gg, rfl, rfl, hX, hY, hb2⟩ := hcut
      clear c1 hb1
      have HX := Lib.hid (fun W (hW : Below wc.heap.size wc W) => hX.below hW)
      have HY := Lib.hid (fun W (hW : Below wc.heap.size wc W) => hY.below hW)
      have c0X := hX.c0
      have c0Y := hY.c0
      have hgf := hX.lt
      have hgg := hY.lt
      clear hX hY
      have HSZ := Lib.hid hb2.size
      have hvw : ∀ n, Below wc.heap.size wc (wc.drewN n) := fun n => below_drewN wc n
      have HVW := Lib.hid hvw
      clear hvw
      have HCM := Lib.hid (fun W (hW : Below wc.heap.size wc W) => c2 W (below_call hb2 hW))
      clear c2
      have HVB := Lib.hid (fun n => below_drewN wc n)
      by_cases hV : VF = VT
      · have ev : (VF.toList == VT.toList) = true := by rw [hV]; exact beq_self_eq_true _
        have HV := Lib.hid hV
        clear hV
        clear HVW
        by_cases hK0 : K = 0
        · subst hK0
          have HR2 : Hid (RES = 11) := HRES.out.trans (if_pos rfl)
          clear HRES
          go_wp2_with (first | (go_at_call 135; first | ((with_reducible refine (c4 _).mono ?_); rintro e wv ⟨rfl, n4, rfl⟩) | ((with_reducible refine (c5 _).mono ?_); rintro e wv2 ⟨rfl, n5, rfl⟩)) | (go_at_call 151; refine (HCM.out _ (HVB.out _)).mono ?_; rintro e w3 ⟨rfl, hb3⟩; have hb4 := below_call (HVB.out _) hb3; have x0 := (HX.out _ hb4).c0; have y0 := (HY.out _ hb4).c0))
          go_ret
          exact ⟨ret_int (by rw [HR2.out]; rfl), below_call hb2 (HVB.out _)⟩
        · have HR1 := Lib.hid (HRES.out.trans (if_neg hK0))
          have k0 := ne_eq hK0
          clear hK0 HRES
          cases H with
          | false =>
            have HR2 : Hid (RES = 11) := HR1.out.trans (if_pos rfl)
            go_wp2_with (first | (go_at_call 135; first | ((with_reducible refine (c4 _).mono ?_); rintro e wv ⟨rfl, n4, rfl⟩) | ((with_reducible refine (c5 _).mono ?_); rintro e wv2 ⟨rfl, n5, rfl⟩)) | (go_at_call 151; refine (HCM.out _ (HVB.out _)).mono ?_; rintro e w3 ⟨rfl, hb3⟩; have hb4 := below_call (HVB.out _) hb3; have x0 := (HX.out _ hb4).c0; have y0 := (HY.out _ hb4).c0))
            go_ret
            exact ⟨ret_int (by rw [HR2.out]; rfl), below_call hb2 hb4⟩
          | true =>
            have HR3 := Lib.hid (HR1.out.trans (if_neg (by decide)))
            by_cases hK1 : K = 1
            · subst hK1
              have HR2 : Hid (RES = 12) := HR3.out.trans (if_pos rfl)
              clear HR1 HR3
              go_wp2_with (first | (go_at_call 135; first | ((with_reducible refine (c4 _).mono ?_); rintro e wv ⟨rfl, n4, rfl⟩) | ((with_reducible refine (c5 _).mono ?_); rintro e wv2 ⟨rfl, n5, rfl⟩)) | (go_at_call 151; refine (HCM.out _ (HVB.out _)).mono ?_; rintro e w3 ⟨rfl, hb3⟩; have hb4 := below_call (HVB.out _) hb3; have x0 := (HX.out _ hb4).c0; have y0 := (HY.out _ hb4).c0))
              go_ret
              exact ⟨ret_int (by rw [HR2.out]; rfl), below_call hb2 hb4⟩
            · have HR4 := Lib.hid (HR3.out.trans (if_neg hK1))
              have k1 : ((K : Int) == 1) = false := beq_eq_false_iff_ne.2 (by omega)
              clear hK1 HR1 HR3
              by_cases hM1 : M = 1
              · subst hM1
                have HR2 : Hid (RES = 12) := HR4.out.trans (if_pos rfl)
                clear HR4
                go_wp2_with (first | (go_at_call 135; first | ((with_reducible refine (c4 _).mono ?_); rintro e wv ⟨rfl, n4, rfl⟩) | ((with_reducible refine (c5 _).mono ?_); rintro e wv2 ⟨rfl, n5, rfl⟩)) | (go_at_call 151; refine (HCM.out _ (HVB.out _)).mono ?_; rintro e w3 ⟨rfl, hb3⟩; have hb4 := below_call (HVB.out _) hb3; have x0 := (HX.out _ hb4).c0; have y0 := (HY.out _ hb4).c0))
                go_ret
                exact ⟨ret_int (by rw [HR2.out]; rfl), below_call hb2 hb4⟩
              · have HR5 := Lib.hid (HR4.out.trans (if_neg hM1))
                have m1 : ((M : Int) == 1) = false := beq_eq_false_iff_ne.2 (by omega)
                clear hM1 HR4
                have HR2 : Hid (RES = 0) := HR5.out.trans (if_neg (fun e => e.1 HV.out))
                clear HR5
                go_upto_region 12 with (first | (go_at_call 135; first | ((with_reducible refine (c4 _).mono ?_); rintro e wv ⟨rfl, n4, rfl⟩) | ((with_reducible refine (c5 _).mono ?_); rintro e wv2 ⟨rfl, n5, rfl⟩)) | (go_at_call 151; refine (HCM.out _ (HVB.out _)).mono ?_; rintro e w3 ⟨rfl, hb3⟩; have hb4 := below_call (HVB.out _) hb3; have x0 := (HX.out _ hb4).c0; have y0 := (HY.out _ hb4).c0))
                refine Rg.wp_only ?_ (regMayRename0 _ (by kernel_rfl) _ b bi bl gf gg l s t X0 Y0 VT true _ (HI.out _ (below_call hb2 hb4)) (HX.out _ hb4).c1 (HY.out _ hb4).c1)
                rintro _ w9 ⟨rfl, hb9⟩
                go_wp2_with fail
                go_ret
                exact ⟨ret_int (by rw [HR2.out]; rfl), below_call (below_call hb2 hb4) hb9⟩
      · have ev : (VF.toList == VT.toList) = false := bytes_ne hV
        have HV := Lib.hid hV
        clear hV
        clear HVW
        by_cases hK0 : K = 0
        · subst hK0
          have HR2 : Hid (RES = 11) := HRES.out.trans (if_pos rfl)
          clear HRES
          go_wp2_with (first | (go_at_call 135; first | ((with_reducible refine (c4 _).mono ?_); rintro e wv ⟨rfl, n4, rfl⟩) | ((with_reducible refine (c5 _).mono ?_); rintro e wv2 ⟨rfl, n5, rfl⟩)) | (go_at_call 151; refine (HCM.out _ (HVB.out _)).mono ?_; rintro e w3 ⟨rfl, hb3⟩; have hb4 := below_call (HVB.out _) hb3; have x0 := (HX.out _ hb4).c0; have y0 := (HY.out _ hb4).c0))
          go_ret
          exact ⟨ret_int (by rw [HR2.out]; rfl), below_call hb2 (HVB.out _)⟩
        · have HR1 := Lib.hid (HRES.out.trans (if_neg hK0))
          have k0 := ne_eq hK0
          clear hK0 HRES
          cases H with
          | false =>
            have HR2 : Hid (RES = 11) := HR1.out.trans (if_pos rfl)
            go_wp2_with (first | (go_at_call 135; first | ((with_reducible refine (c4 _).mono ?_); rintro e wv ⟨rfl, n4, rfl⟩) | ((with_reducible refine (c5 _).mono ?_); rintro e wv2 ⟨rfl, n5, rfl⟩)) | (go_at_call 151; refine (HCM.out _ (HVB.out _)).mono ?_; rintro e w3 ⟨rfl, hb3⟩; have hb4 := below_call (HVB.out _) hb3; have x0 := (HX.out _ hb4).c0; have y0 := (HY.out _ hb4).c0))
            go_ret
            exact ⟨ret_int (by rw [HR2.out]; rfl), below_call hb2 hb4⟩
          | true =>
            have HR3 := Lib.hid (HR1.out.trans (if_neg (by decide)))
            by_cases hK1 : K = 1
            · subst hK1
              have HR2 : Hid (RES = 12) := HR3.out.trans (if_pos rfl)
              clear HR1 HR3
              go_wp2_with (first | (go_at_call 135; first | ((with_reducible refine (c4 _).mono ?_); rintro e wv ⟨rfl, n4, rfl⟩) | ((with_reducible refine (c5 _).mono ?_); rintro e wv2 ⟨rfl, n5, rfl⟩)) | (go_at_call 151; refine (HCM.out _ (HVB.out _)).mono ?_; rintro e w3 ⟨rfl, hb3⟩; have hb4 := below_call (HVB.out _) hb3; have x0 := (HX.out _ hb4).c0; have y0 := (HY.out _ hb4).c0))
              go_ret
              exact ⟨ret_int (by rw [HR2.out]; rfl), below_call hb2 hb4⟩
            · have HR4 := Lib.hid (HR3.out.trans (if_neg hK1))
              have k1 : ((K : Int) == 1) = false := beq_eq_false_iff_ne.2 (by omega)
              clear hK1 HR1 HR3
              by_cases hM1 : M = 1
              · subst hM1
                have HR2 : Hid (RES = 12) := HR4.out.trans (if_pos rfl)
                clear HR4
                go_wp2_with (first | (go_at_call 135; first | ((with_reducible refine (c4 _).mono ?_); rintro e wv ⟨rfl, n4, rfl⟩) | ((with_reducible refine (c5 _).mono ?_); rintro e wv2 ⟨rfl, n5, rfl⟩)) | (go_at_call 151; refine (HCM.out _ (HVB.out _)).mono ?_; rintro e w3 ⟨rfl, hb3⟩; have hb4 := below_call (HVB.out _) hb3; have x0 := (HX.out _ hb4).c0; have y0 := (HY.out _ hb4).c0))
                go_ret
                exact ⟨ret_int (by rw [HR2.out]; rfl), below_call hb2 hb4⟩
              · have HR5 := Lib.hid (HR4.out.trans (if_neg hM1))
                have m1 : ((M : Int) == 1) = false := beq_eq_false_iff_ne.2 (by omega)
                clear hM1 HR4
                cases B with
                | true =>
                  have HR2 : Hid (RES = 13) := HR5.out.trans (if_pos ⟨HV.out, rfl⟩)
                  clear HR5
                  go_upto_region 12 with (first | (go_at_call 135; first | ((with_reducible refine (c4 _).mono ?_); rintro e wv ⟨rfl, n4, rfl⟩) | ((with_reducible refine (c5 _).mono ?_); rintro e wv2 ⟨rfl, n5, rfl⟩)) | (go_at_call 151; refine (HCM.out _ (HVB.out _)).mono ?_; rintro e w3 ⟨rfl, hb3⟩; have hb4 := below_call (HVB.out _) hb3; have x0 := (HX.out _ hb4).c0; have y0 := (HY.out _ hb4).c0))
                  refine Rg.wp_only ?_ (regMayRename1 _ (by kernel_rfl) _ b bi bl gf gg l s t X0 Y0 VT true _ (HI.out _ (below_call hb2 hb4)) (HX.out _ hb4).c1 (HY.out _ hb4).c1 HS.out c5 c3)
                  rintro _ w9 ⟨rfl, hb9⟩
                  go_wp2_with fail
                  go_ret
                  exact ⟨ret_int (by rw [HR2.out]; rfl), below_call (below_call hb2 hb4) hb9⟩
                | false =>
                  have HR2 : Hid (RES = 0) := HR5.out.trans (if_neg (fun e => by cases e.2))
                  clear HR5
                  go_upto_region 12 with (first | (go_at_call 135; first | ((with_reducible refine (c4 _).mono ?_); rintro e wv ⟨rfl, n4, rfl⟩) | ((with_reducible refine (c5 _).mono ?_); rintro e wv2 ⟨rfl, n5, rfl⟩)) | (go_at_call 151; refine (HCM.out _ (HVB.out _)).mono ?_; rintro e w3 ⟨rfl, hb3⟩; have hb4 := below_call (HVB.out _) hb3; have x0 := (HX.out _ hb4).c0; have y0 := (HY.out _ hb4).c0))
                  refine Rg.wp_only ?_ (regMayRename1 _ (by kernel_rfl) _ b bi bl gf gg l s t X0 Y0 VT false _ (HI.out _ (below_call hb2 hb4)) (HX.out _ hb4).c1 (HY.out _ hb4).c1 HS.out c5 c3)
                  rintro _ w9 ⟨rfl, hb9⟩
                  go_wp2_with fail
                  go_ret
                  exact ⟨ret_int (by rw [HR2.out]; rfl), below_call (below_call hb2 hb4) hb9⟩
  · rw [if_pos hE] at hRES
    have e1 := ne_eq hE
    have HRES := Lib.hid hRES
    clear hE hRES
    go_enter Tryz.func158, Tryz.ntmps158
    go_wp2_with (go_at_call 133; refine c1.mono ?_; rintro e w1 ⟨rfl, hb1⟩)
    go_ret
    exact ⟨ret_int (by rw [HRES.out]), hb1⟩
end Go.Proofs.YtjdmbkkdnonkkaaGreat.Dk

namespace Go.Proofs.YtjdmbkkdnonkkaaGreat.Dk
open Go.RowKit Tx Pm Pl Pr
set_option linter.unusedVariables false
theorem Mp.put {w : World} {bi : Nat} {L : List It} (h : Mp w bi L) {x : It} {p : ByteArray} {v : Value} (hx : x.path = p) (hv : iv3 x = v) (hp : p.size ≤ 8000000000000) (hn : L.length ≤ 1000000000) :
    ∃ w', (Instr.mapUpdate 111 (.map (some bi)) (.string p) v).run Tryz.prog w = .ok () w' ∧ Mp w' bi (ins L x) ∧ w.mapTurned w' bi := by
  subst hx
  subst hv
  exact h.store (maxLen_of hp) (by unfold maxLen; omega)
theorem kOf_file {x : It} (h : x.dir = false) : kOf x = 2 := by unfold kOf; rw [h]; rfl
set_option maxRecDepth 100000 in
set_option maxHeartbeats 1000000 in
theorem iWriteC_any (b bi bl bd bp bq : Nat) (l : Int) (s : St) (p d : ByteArray) (w : World) (h : Ia b bi bl l w s) (hd : Cap w bd (.pointer (some ⟨b, 0, none⟩))) (hp : Cap w bp (.string p)) (hq : Cap w bq (.string d)) (hps : p.size ≤ 8000000000000) (hn : s.L.length ≤ 1000000000) (hst : s.stamps ≤ 1000000000000)
    (ho : (old s.L p).dir = false) :
    Calls Tryz.prog 157 #[.pointer (some ⟨bd, 0, none⟩), .pointer (some ⟨bp, 0, none⟩), .pointer (some ⟨bq, 0, none⟩)] w fun e w' => e = .returned (.tuple #[]) ∧ Ip b bi bl w (putS s { old s.L p with data := d, loose := true, anew := true }) w' := by
  obtain ⟨c0, _⟩ := h.cell
  unfold Cap at hd hp hq
  have h0 := h.below (Below.refl _ w).drew
  have hl := h0.look (maxLen_of hps)
  have cs := iSet_any b bi bl l s { old s.L p with data := d, loose := true, anew := true } 0 p w.drew h0 (old_path _ _) hps hn hst
  have e1 : kOf { old s.L p with data := d, loose := true, anew := true } = 2 := kOf_file ho
  rw [e1] at cs
  have cs : Calls Tryz.prog 78 #[.pointer (some ⟨b, 0, none⟩), .string p, .agg #[.int .i64 2, .string d, .string (old s.L p).kept, .int .i64 2, .int .i64 0]] w.drew fun e w' => e = .returned (.tuple #[]) ∧ Ip b bi bl w.drew (putS s { old s.L p with data := d, loose := true, anew := true }) w' := cs
  have hf2 := fld2
  have hend : ∀ w', Ip b bi bl w.drew (putS s { old s.L p with data := d, loose := true, anew := true }) w' → Ip b bi bl w (putS s { old s.L p with data := d, loose := true, anew := true }) w' := fun w' hh => Ip.after (Below.refl _ w).drew hh
  have HE := Lib.hid hend
  generalize (putS s { old s.L p with data := d, loose := true, anew := true }) = s' at cs HE ⊢
  generalize (old s.L p).kept = X1 at cs hl
  generalize stOf (old s.L p) = X2 at hl
  clear h h0 hend e1 ho
  go_enter Tryz.func157, Tryz.ntmps157
  go_wp2
  go_still_tail 11, (by kernel_rfl)
  change wpList _ _ _ _ _ w.drew
  go_wp2_with (go_at_call 78; refine cs.mono ?_; rintro e w5 ⟨rfl, h5⟩)
  go_end0
  exact ⟨rfl, HE.out _ h5⟩
set_option maxRecDepth 100000 in
set_option maxHeartbeats 1000000 in
theorem iSyncC_any (b bi bl bd bp : Nat) (l : Int) (s : St) (p : ByteArray) (w : World) (h : Ia b bi bl l w s) (hd : Cap w bd (.pointer (some ⟨b, 0, none⟩))) (hp : Cap w bp (.string p)) (hps : p.size ≤ 8000000000000) (hn : s.L.length ≤ 1000000000)
    (ho : kind s.L p = 2) :
    Calls Tryz.prog 128 #[.pointer (some ⟨bd, 0, none⟩), .pointer (some ⟨bp, 0, none⟩)] w fun e w' => e = .returned (.tuple #[]) ∧ Ip b bi bl w { s with L := ins s.L { old s.L p with kept := (old s.L p).data, loose := false, anew := false } } w' := by
  obtain ⟨c0, _⟩ := h.cell
  unfold Cap at hd hp
  have hl := (h.below (Below.refl _ w).drew).look (maxLen_of hps)
  have hl2 := fun o => (h.below ((Below.refl _ w).alloc (Nat.le_refl _) o).drew).look (maxLen_of hps)
  rw [ho] at hl hl2
  have hod : (old s.L p).dir = false := old_dir (by omega)
  have hbd : bd < w.heap.size := World.block_lt_of_cell? w _ hd
  have hbp : bp < w.heap.size := World.block_lt_of_cell? w _ hp
  have hb : b < w.heap.size := h.lt b (.inl rfl)
  generalize hX0 : (old s.L p).data = X0 at hl hl2
  have hB2 := ((Below.refl _ w).alloc (Nat.le_refl _) (.cells #[.int .i64 2, .string X0, .string X0, .int .i64 0, .int .i64 (old s.L p).stamp] 117)).drew.drew
  have a2 := h.below hB2
  have e1 : iv3 { old s.L p with kept := X0, loose := false, anew := false } = .agg #[.int .i64 2, .string X0, .string X0, .int .i64 0, .int .i64 (old s.L p).stamp] := by
    unfold iv3
    rw [show kOf { old s.L p with kept := X0, loose := false, anew := false } = 2 from kOf_file hod, ← hX0]
    rfl
  obtain ⟨w3, hrun, hm, ht⟩ := a2.items.put (x := { old s.L p with kept := X0, loose := false, anew := false }) (old_path s.L p) e1 hps hn
  have HE := Lib.hid (show Ip b bi bl w { s with L := ins s.L { old s.L p with kept := X0, loose := false, anew := false } } w3 from ⟨l, a2.turned hm ht, (Chg.of_below hB2).then ((turned_chg ht).mono ft_i)⟩)
  generalize stOf (old s.L p) = X2 at hl hl2
  generalize ((old s.L p).stamp : Int) = X3 at hl hl2 hrun
  generalize (old s.L p).kept = X4 at hl hl2
  clear h hB2 a2 hm ht e1 hod ho hX0
  go_enter Tryz.func128, Tryz.ntmps128
  go_wp2
  go_region
  all_goals go_wp2
  all_goals go_region
  all_goals (go_end0; exact ⟨rfl, HE.out⟩)
end Go.Proofs.YtjdmbkkdnonkkaaGreat.Dk

namespace Go.Proofs.YtjdmbkkdnonkkaaGreat.Dk
open Go.RowKit Tx Pm Pl Pr
set_option linter.unusedVariables false
set_option maxRecDepth 100000 in
set_option maxHeartbeats 2000000 in
theorem iAppendC_any (b bi bl bd bp bq : Nat) (l : Int) (s : St) (p d : ByteArray) (w : World) (h : Ia b bi bl l w s) (hd : Cap w bd (.pointer (some ⟨b, 0, none⟩))) (hp : Cap w bp (.string p)) (hq : Cap w bq (.string d)) (hps : p.size ≤ 8000000000000) (hn : s.L.length ≤ 1000000000) (hst : s.stamps ≤ 1000000000000)
    (ho : kind s.L p = 2) (hca : (old s.L p).loose = false → (old s.L p).anew = false) (hsz : (old s.L p).data.size + d.size ≤ 1000000000000000000) :
    Calls Tryz.prog 90 #[.pointer (some ⟨bd, 0, none⟩), .pointer (some ⟨bp, 0, none⟩), .pointer (some ⟨bq, 0, none⟩)] w fun e w' => e = .returned (.tuple #[]) ∧ Ip b bi bl w (putS s { old s.L p with data := (old s.L p).data ++ d, loose := true }) w' := by
  obtain ⟨c0, _⟩ := h.cell
  unfold Cap at hd hp hq
  have hbd : bd < w.heap.size := World.block_lt_of_cell? w _ hd
  have hbp : bp < w.heap.size := World.block_lt_of_cell? w _ hp
  have hbq : bq < w.heap.size := World.block_lt_of_cell? w _ hq
  have hb : b < w.heap.size := h.lt b (.inl rfl)
  have hl := (h.below (Below.refl _ w).drew).look (maxLen_of hps)
  have hl2 := fun o => (h.below ((Below.refl _ w).alloc (Nat.le_refl _) o).drew).look (maxLen_of hps)
  rw [ho] at hl hl2
  have hod : (old s.L p).dir = false := old_dir (by omega)
  have hst2 : stOf { old s.L p with data := (old s.L p).data ++ d, loose := true } = if stOf (old s.L p) = 0 then 1 else stOf (old s.L p) := by
    unfold stOf
    cases hlo : (old s.L p).loose with
    | false =>
      rw [hca hlo]
      rfl
    | true => cases (old s.L p).anew <;> rfl
  have hst3 : stOf (old s.L p) = 0 ∨ stOf (old s.L p) = 1 ∨ stOf (old s.L p) = 2 := by
    unfold stOf
    cases (old s.L p).loose <;> cases (old s.L p).anew <;> simp
  have cs := fun W (hW : Below w.heap.size w W) => iSet_any b bi bl l s { old s.L p with data := (old s.L p).data ++ d, loose := true } (old s.L p).stamp p W (h.below hW) (old_path _ _) hps hn hst
  rw [show kOf { old s.L p with data := (old s.L p).data ++ d, loose := true } = 2 from kOf_file hod, hst2] at cs
  simp only at cs
  have HE := Lib.hid (fun W w' (hW : Below w.heap.size w W) (hh : Ip b bi bl W (putS s { old s.L p with data := (old s.L p).data ++ d, loose := true }) w') => Ip.after hW hh)
  generalize (putS s { old s.L p with data := (old s.L p).data ++ d, loose := true }) = s' at cs HE ⊢
  generalize (old s.L p).data = X0 at hl hl2 cs hsz
  generalize (old s.L p).kept = X1 at hl hl2 cs
  generalize ((old s.L p).stamp : Int) = X3 at hl hl2 cs
  generalize stOf (old s.L p) = X2 at hl hl2 cs hst3
  clear h ho hca hod hst2
  have hBW : ∀ o, Below w.heap.size w (w.alloc o).drew := fun o => ((Below.refl _ w).alloc (Nat.le_refl _) o).drew
  have HC := Lib.hid cs
  have HB := Lib.hid hBW
  clear cs hBW
  rcases hst3 with rfl | rfl | rfl
  · go_enter Tryz.func90, Tryz.ntmps90
    go_wp2
    go_region
    all_goals go_wp2_with (go_at_call 78; refine (HC.out _ (HB.out _)).mono ?_; rintro e w5 ⟨rfl, h5⟩)
    all_goals (go_end0; exact ⟨rfl, HE.out _ _ (HB.out _) h5⟩)
  · go_enter Tryz.func90, Tryz.ntmps90
    go_wp2
    go_region
    all_goals go_wp2_with (go_at_call 78; refine (HC.out _ (HB.out _)).mono ?_; rintro e w5 ⟨rfl, h5⟩)
    all_goals (go_end0; exact ⟨rfl, HE.out _ _ (HB.out _) h5⟩)
  · go_enter Tryz.func90, Tryz.ntmps90
    go_wp2
    go_region
    all_goals go_wp2_with (go_at_call 78; refine (HC.out _ (HB.out _)).mono ?_; rintro e w5 ⟨rfl, h5⟩)
    all_goals (go_end0; exact ⟨rfl, HE.out _ _ (HB.out _) h5⟩)
theorem turned_cell {w w' : World} {b i : Nat} (h : w.mapTurned w' b) (hi : i ≠ b) (o : Nat) : w'.cell? ⟨i, o, none⟩ = w.cell? ⟨i, o, none⟩ := by
  unfold World.cell?
  simp only [turned_block h hi]
theorem cell_ne {w : World} {bi : Nat} {L : List It} (h : Mp w bi L) {g : Nat} {o : Nat} {v : Value} (hc : w.cell? ⟨g, o, none⟩ = some v) : g ≠ bi := by
  rintro rfl
  obtain ⟨D, ⟨es, clock, hb, _⟩, _⟩ := h
  unfold World.cell? at hc
  simp [hb] at hc
set_option maxRecDepth 100000 in
set_option maxHeartbeats 2000000 in
theorem iRenameC_any (b bi bl bd bp bq : Nat) (l : Int) (s : St) (f t : ByteArray) (w : World) (h : Ia b bi bl l w s) (hR : Rises s.L) (hd : Cap w bd (.pointer (some ⟨b, 0, none⟩))) (hp : Cap w bp (.string f)) (hq : Cap w bq (.string t)) (hfs : f.size ≤ 8000000000000) (hts : t.size ≤ 8000000000000) (hn : s.L.length ≤ 1000000000) (hst : s.stamps ≤ 1000000000000)
    (ho : kind s.L f = 2) :
    Calls Tryz.prog 159 #[.pointer (some ⟨bd, 0, none⟩), .pointer (some ⟨bp, 0, none⟩), .pointer (some ⟨bq, 0, none⟩)] w fun e w' => e = .returned (.tuple #[]) ∧ Ip b bi bl w (putS { s with L := drop s.L f } { old s.L f with path := t }) w' := by
  obtain ⟨c0, _⟩ := h.cell
  unfold Cap at hd hp hq
  have hbd : bd < w.heap.size := World.block_lt_of_cell? w _ hd
  have hbp : bp < w.heap.size := World.block_lt_of_cell? w _ hp
  have hbq : bq < w.heap.size := World.block_lt_of_cell? w _ hq
  have hb : b < w.heap.size := h.lt b (.inl rfl)
  have nd := cell_ne h.items hd
  have np := cell_ne h.items hp
  have nq := cell_ne h.items hq
  have nb := h.nb.1
  have nn : w.heap.size ≠ bi := fun e => by have := h.items.lt; omega
  have hl := (h.below (Below.refl _ w).drew).look (maxLen_of hfs)
  have hl2 := fun o => (h.below ((Below.refl _ w).alloc (Nat.le_refl _) o).drew).look (maxLen_of hfs)
  rw [ho] at hl hl2
  have hod : (old s.L f).dir = false := old_dir (by omega)
  have hB2 := ((Below.refl _ w).alloc (Nat.le_refl _) (.cells #[.int .i64 2, .string (old s.L f).data, .string (old s.L f).kept, .int .i64 (stOf (old s.L f)), .int .i64 (old s.L f).stamp] 117)).drew.drew
  have a2 := h.below hB2
  obtain ⟨w3, hrun, hm, ht⟩ := a2.items.del hR (maxLen_of hfs) 0
  have a3 : Ia b bi bl l w3 { s with L := drop s.L f } := a2.turned hm ht
  have hc3 : Chg (Ft b bi bl) w w3 := (Chg.of_below hB2).then ((turned_chg ht).mono ft_i)
  have hbox : w3.cell? ⟨w.heap.size, 0, none⟩ = some (.int .i64 2) ∧ w3.cell? ⟨w.heap.size, 1, none⟩ = some (.string (old s.L f).data) ∧ w3.cell? ⟨w.heap.size, 2, none⟩ = some (.string (old s.L f).kept) ∧ w3.cell? ⟨w.heap.size, 3, none⟩ = some (.int .i64 (stOf (old s.L f))) ∧ w3.cell? ⟨w.heap.size, 4, none⟩ = some (.int .i64 (old s.L f).stamp) := by
    refine ⟨?_, ?_, ?_, ?_, ?_⟩ <;> · rw [turned_cell ht nn]; exact World.cell?_alloc_at _ _ _ _ rfl
  have g0 : w3.cell? ⟨bd, 0, none⟩ = some (.pointer (some ⟨b, 0, none⟩)) := (turned_cell ht nd 0).trans ((World.cell?_alloc_past _ _ _ hbd).trans hd)
  have g1 : w3.cell? ⟨bq, 0, none⟩ = some (.string t) := (turned_cell ht nq 0).trans ((World.cell?_alloc_past _ _ _ hbq).trans hq)
  have cs := iSet_any b bi bl l { s with L := drop s.L f } { old s.L f with path := t } (old s.L f).stamp t w3 a3 rfl hts (Nat.le_trans (drop_in s.L f).2 hn) hst
  rw [show kOf { old s.L f with path := t } = 2 from kOf_file hod] at cs
  have cs : Calls Tryz.prog 78 #[.pointer (some ⟨b, 0, none⟩), .string t, .agg #[.int .i64 2, .string (old s.L f).data, .string (old s.L f).kept, .int .i64 (stOf (old s.L f)), .int .i64 (old s.L f).stamp]] w3 fun e w' => e = .returned (.tuple #[]) ∧ Ip b bi bl w3 (putS { s with L := drop s.L f } { old s.L f with path := t }) w' := cs
  have hfin : ∀ w', Ip b bi bl w3 (putS { s with L := drop s.L f } { old s.L f with path := t }) w' → Ip b bi bl w (putS { s with L := drop s.L f } { old s.L f with path := t }) w' := fun w' ⟨l2, h1, h2⟩ => ⟨l2, h1, hc3.then h2⟩
  have HE := Lib.hid hfin
  clear h ho hod hB2 a2 a3 hm ht hc3 hfin
  generalize (putS { s with L := drop s.L f } { old s.L f with path := t }) = s' at cs HE ⊢
  generalize (old s.L f).data = X0 at hl hl2 cs hrun hbox
  generalize (old s.L f).kept = X1 at hl hl2 cs hrun hbox
  generalize ((old s.L f).stamp : Int) = X3 at hl hl2 cs hrun hbox
  generalize stOf (old s.L f) = X2 at hl hl2 cs hrun hbox
  obtain ⟨k0, k1, k2, k3, k4⟩ := hbox
  go_enter Tryz.func159, Tryz.ntmps159
  go_wp2
  go_region
  all_goals go_wp2
  all_goals go_region
  all_goals go_wp2_with (go_at_call 78; refine cs.mono ?_; rintro e w5 ⟨rfl, h5⟩)
  all_goals (go_end0; exact ⟨rfl, HE.out _ h5⟩)
end Go.Proofs.YtjdmbkkdnonkkaaGreat.Dk

namespace Go.Proofs.YtjdmbkkdnonkkaaGreat.Dk
open Go.RowKit Tx Pm Pl Pr
set_option linter.unusedVariables false
theorem cap_chg {w w1 : World} {F : Nat → Prop} {g : Nat} {v : Value} (h : Cap w g v) (hc : Chg F w w1) (hn : ¬ F g) : Cap w1 g v := by
  have hg := World.block_lt_of_cell? w _ h
  unfold Cap World.cell? at *
  rw [hc.block g hg hn]
  exact h
theorem cap_below {w w1 : World} {g : Nat} {v : Value} (h : Cap w g v) (hb : Below w.heap.size w w1) : Cap w1 g v := cap_chg (F := fun _ => False) h ⟨hb.os, hb.tape, hb.output, hb.size, fun i hi _ => hb.block i hi⟩ id
theorem cap_new (w : World) (v : Value) (T : TypeId) : Cap (w.alloc (.cells #[v] T)) w.heap.size v := by
  unfold Cap
  rw [World.cell?_alloc_at _ _ _ _ rfl]
  rfl
theorem first_down {s : St} {p : ByteArray} {m : Nat} (h : first s p m = 0) : s.down = false := by
  unfold first at h
  cases hd : s.down with
  | false => rfl
  | true => rw [hd] at h; cases h
theorem mkdir_step (s : St) (p : ByteArray) : mkdirS s p = stepR s (mayMkdirS s p) { (done s).2 with L := ins (done s).2.L ⟨p, true, ⟨#[]⟩, ⟨#[]⟩, false, false, 0⟩ } := by
  unfold mkdirS mayMkdirS stepR
  by_cases h1 : first s p 0 ≠ 0
  · rw [if_pos h1, if_pos h1, if_pos h1]
  · rw [if_neg h1, if_neg h1]
    by_cases h2 : home s.L p = false
    · rw [if_pos h2, if_pos h2, if_pos (by decide)]
    · rw [if_neg h2, if_neg h2]
      by_cases h3 : kind s.L p = 2
      · rw [if_pos h3, if_pos h3, if_pos (by decide)]
      · rw [if_neg h3, if_neg h3]
        rfl
theorem mayMkdir_down {s : St} {p : ByteArray} (h : mayMkdirS s p = 0) : s.down = false := by
  unfold mayMkdirS at h
  split at h
  · rename_i h1; exact absurd h h1
  · rename_i h1; exact first_down (p := p) (m := 0) (by omega)
theorem write_step {s : St} (hg : Good s) (p d : ByteArray) : writeS s p d = stepR s (mayWriteS s p d) (putS (done s).2 { old s.L p with data := d, loose := true, anew := true }) := by
  unfold writeS mayWriteS stepR
  rw [fits_full hg]
  by_cases h1 : first s p 1 ≠ 0
  · rw [if_pos h1, if_pos h1, if_pos h1]
  · rw [if_neg h1, if_neg h1]
    by_cases h2 : home s.L p = false
    · rw [if_pos h2, if_pos h2, if_pos (by decide)]
    · rw [if_neg h2, if_neg h2]
      by_cases h3 : kind s.L p = 1
      · rw [if_pos h3, if_pos h3, if_pos (by decide)]
      · rw [if_neg h3, if_neg h3]
        cases full s (vol p) ((d.size : Int) - (old s.L p).data.size) with
        | true => rfl
        | false => rfl
theorem mayWrite_ok {s : St} {p d : ByteArray} (h : mayWriteS s p d = 0) : s.down = false ∧ kind s.L p ≠ 1 := by
  unfold mayWriteS at h
  split at h
  · rename_i h1; exact absurd h h1
  rename_i h1
  split at h
  · cases h
  split at h
  · cases h
  rename_i h3
  exact ⟨first_down (p := p) (m := 1) (by omega), h3⟩
theorem append_step {s : St} (hg : Good s) (p d : ByteArray) : appendS s p d = stepR s (mayAppendS s p d) (putS (done s).2 { old s.L p with data := (old s.L p).data ++ d, loose := true }) := by
  unfold appendS mayAppendS stepR
  rw [fits_full hg]
  by_cases h1 : there s p ≠ 0
  · rw [if_pos h1, if_pos h1, if_pos h1]
  · rw [if_neg h1, if_neg h1]
    cases full s (vol p) (d.size : Int) with
    | true => rfl
    | false => rfl
theorem there_kind {s : St} {p : ByteArray} (h : there s p = 0) : s.down = false ∧ kind s.L p = 2 := by
  unfold there at h
  split at h
  · rename_i h1; exact absurd h h1
  rename_i h1
  split at h
  · cases h
  split at h
  · cases h
  rename_i h2 h3
  refine ⟨first_down (p := p) (m := 1) (by omega), ?_⟩
  rcases kind_le s.L p with e | e | e
  · exact absurd e h2
  · exact absurd e h3
  · exact e
theorem mayAppend_ok {s : St} {p d : ByteArray} (h : mayAppendS s p d = 0) : s.down = false ∧ kind s.L p = 2 := by
  unfold mayAppendS at h
  split at h
  · rename_i h1; exact absurd h h1
  · rename_i h1; exact there_kind (by omega)
theorem sync_step (s : St) (p : ByteArray) : syncS s p = stepR s (there s p) { (done s).2 with L := ins (done s).2.L { old s.L p with kept := (old s.L p).data, loose := false, anew := false } } := rfl
theorem rename_step {s : St} (hg : Good s) (f t : ByteArray) : renameS s f t = stepR s (mayRenS s f t) (putS { (done s).2 with L := drop (done s).2.L f } { old s.L f with path := t }) := by
  unfold renameS mayRenS stepR firstR
  by_cases h1 : first s f 1 ≠ 0
  · rw [if_pos h1, if_pos h1, if_pos h1, if_pos h1]
  rw [if_neg h1, if_neg h1]
  by_cases h2 : first s t 1 ≠ 0
  · rw [if_pos h2, if_pos h2, if_pos h2]
  rw [if_neg h2, if_neg h2]
  by_cases h3 : kind s.L f = 0
  · rw [if_pos (.inl h3), if_pos h3, if_pos (by decide)]
  rw [if_neg h3]
  by_cases h4 : home s.L t = false
  · rw [if_pos (.inr h4), if_pos h4, if_pos (by decide)]
  rw [if_neg (by rintro (h | h) <;> contradiction), if_neg h4]
  by_cases h5 : kind s.L f = 1
  · rw [if_pos (.inl h5), if_pos h5, if_pos (by decide)]
  rw [if_neg h5]
  by_cases h6 : kind s.L t = 1
  · rw [if_pos (.inr h6), if_pos h6, if_pos (by decide)]
  rw [if_neg (by rintro (h | h) <;> contradiction), if_neg h6]
  have e : (f ≠ t ∧ fits s t (moreS s.L f t) = false) ↔ (vol f ≠ vol t ∧ full s (vol t) (((old s.L f).data.size : Int) - (old s.L t).data.size) = true) := by
    rw [fits_full hg]
    by_cases hv : vol f = vol t
    · have hm : moreS s.L f t ≤ 0 := by
        unfold moreS
        rw [if_pos hv]
        split <;> omega
      have hf : full s (vol t) (moreS s.L f t) = false := by
        unfold full
        cases roomOf s.rooms (vol t) with
        | none => rfl
        | some r => simp only; rw [decide_eq_false (by omega), Bool.false_and]
      constructor
      · rintro ⟨_, h⟩
        rw [hf] at h
        cases h
      · rintro ⟨h, _⟩
        exact absurd hv h
    · have hft : f ≠ t := fun e => hv (by rw [e])
      have hm : moreS s.L f t = ((old s.L f).data.size : Int) - (old s.L t).data.size := by
        unfold moreS
        rw [if_neg hv]
        rcases kind_le s.L t with k | k | k
        · have ho : old s.L t = mk t := by
            unfold old
            cases hx : find s.L t with
            | none => rfl
            | some x =>
              unfold kind at k
              rw [hx] at k
              unfold kindOf at k
              simp only at k
              split at k <;> cases k
          rw [if_neg (by omega), ho]
          rfl
        · exact absurd k h6
        · rw [if_pos k]
      rw [hm]
      constructor
      · rintro ⟨_, h⟩
        refine ⟨hv, ?_⟩
        cases hb : full s (vol t) (((old s.L f).data.size : Int) - (old s.L t).data.size) with
        | true => rfl
        | false => rw [hb] at h; cases h
      · rintro ⟨_, h⟩
        refine ⟨hft, ?_⟩
        rw [h]
        rfl
  by_cases h7 : f ≠ t ∧ fits s t (moreS s.L f t) = false
  · rw [if_pos h7, if_pos (e.1 h7), if_pos (by decide)]
  · rw [if_neg h7, if_neg (fun h => h7 (e.2 h))]
    rfl
theorem mayRen_ok {s : St} {f t : ByteArray} (h : mayRenS s f t = 0) : s.down = false ∧ kind s.L f = 2 := by
  unfold mayRenS at h
  split at h
  · rename_i h1; exact absurd h h1
  rename_i h1
  split at h
  · cases h
  rename_i h2
  split at h
  · cases h
  split at h
  · cases h
  rename_i h3
  have hf : first s f 1 = 0 := by
    unfold firstR at h1
    by_cases hq : first s f 1 = 0
    · exact hq
    · rw [if_pos hq] at h1
      omega
  refine ⟨first_down hf, ?_⟩
  rcases kind_le s.L f with e | e | e
  · exact absurd e h2
  · exact absurd e h3
  · exact e
set_option maxRecDepth 100000 in
set_option maxHeartbeats 2000000 in
theorem iMkdir_any (b bi bl : Nat) (l : Int) (s : St) (p : ByteArray) (w : World) (h : Ia b bi bl l w s) (hg : Good s) (ok : Ok s) (hp : p.size ≤ 8000000000000) :
    Calls Tryz.prog 62 #[.pointer (some ⟨b, 0, none⟩), .string p] w fun e w' => e = .returned (.int .i64 ((mkdirS s p).1 : Nat)) ∧ Ip b bi bl w (mkdirS s p).2 w' := by
  have hft := h.lt
  have hn := ok.fit.1
  have hst : (done s).2.stamps ≤ 1000000000000 := by rw [done_stamps]; exact ok.stamps
  have eL := done_L s
  rw [mkdir_step]
  obtain ⟨S', hS'⟩ : ∃ S', S' = { (done s).2 with L := ins (done s).2.L ⟨p, true, ⟨#[]⟩, ⟨#[]⟩, false, false, 0⟩ } := ⟨_, rfl⟩
  rw [← hS']
  have hb1 := (Below.refl w.heap.size w).alloc (Nat.le_refl _) (.cells #[.pointer (some ⟨b, 0, none⟩)] 23)
  have k1 := cap_new w (.pointer (some ⟨b, 0, none⟩)) 23
  have k2 := cap_new (w.alloc (.cells #[.pointer (some ⟨b, 0, none⟩)] 23)) (.string p) 9
  have hs1 : (w.alloc (.cells #[.pointer (some ⟨b, 0, none⟩)] 23)).heap.size = w.heap.size + 1 := by simp
  rw [hs1] at k2
  have hb2 := hb1.alloc (by simp) (.cells #[.string p] 9)
  have k1 := cap_below k1 ((Below.refl _ _).alloc (Nat.le_refl _) (.cells #[.string p] 9))
  obtain ⟨W1, hW1⟩ : ∃ W1, W1 = ((w.alloc (.cells #[.pointer (some ⟨b, 0, none⟩)] 23)).alloc (.cells #[.string p] 9)) := ⟨_, rfl⟩
  rw [← hW1] at k1 k2 hb2
  have hb3 : Below w.heap.size w W1.drew := hb2.drew
  have cm := iMayMkdir_any b bi bl l s p W1.drew (h.below hb3) hp
  have hen : ∀ W, (callFunc 120 #[.pointer (some ⟨w.heap.size, 0, none⟩), .pointer (some ⟨w.heap.size + 1, 0, none⟩)]).run Tryz.prog W = .ok (.enter 120 #[.pointer (some ⟨w.heap.size, 0, none⟩), .pointer (some ⟨w.heap.size + 1, 0, none⟩)]) W :=
    fun W => Rg.enters Tryz.func120 (by kernel_rfl) (by kernel_rfl) _ W
  have ct : ∀ W, Below W1.heap.size W1 W → Calls Tryz.prog 88 #[.pointer (some ⟨b, 0, none⟩), .int .i64 (mayMkdirS s p : Nat), .func (.func 120) #[] #[.pointer (some ⟨w.heap.size, 0, none⟩), .pointer (some ⟨w.heap.size + 1, 0, none⟩)]] W fun e w' => e = .returned (.int .i64 ((stepR s (mayMkdirS s p) S').1 : Nat)) ∧
      (Ip b bi bl w (stepR s (mayMkdirS s p) S').2 w' ∧ Cap w' w.heap.size (.pointer (some ⟨b, 0, none⟩)) ∧ Cap w' (w.heap.size + 1) (.string p)) := by
    intro W hW
    have hbW := below_call hb2 hW
    have j1 := cap_below k1 hW
    have j2 := cap_below k2 hW
    have hnf : ∀ k, ¬ Ft b bi bl (w.heap.size + k) := fun k hk => by have := hft _ hk; omega
    refine (iStep_any b bi bl l s _ _ _ S' W (h.below hbW) (fun e => mayMkdir_down e) ok.steps hen (fun l1 W2 hr _ hI hc => ?_)).mono ?_
    · have m1 := cap_chg j1 hc (fun e => by have := hft b (.inl rfl); omega)
      have m2 := cap_chg j2 hc (fun e => by have := hft b (.inl rfl); omega)
      rw [hS']
      exact iMkdirC_any b bi bl _ _ l1 _ p W2 hI m1 m2 hp (by rw [eL]; exact hn)
    · rintro e w' ⟨rfl, l5, h5, hc5⟩
      exact ⟨rfl, ⟨l5, h5, (Chg.of_below hbW).then hc5⟩, cap_chg j1 hc5 (hnf 0), cap_chg j2 hc5 (hnf 1)⟩
  generalize stepR s (mayMkdirS s p) S' = RES at ct ⊢
  generalize mayMkdirS s p = r at cm ct
  have HW1 := Lib.hid hW1
  clear h hg ok hS' hst eL hn hft hb1 hb2 hb3 hen
  go_enter Tryz.func62, Tryz.ntmps62
  go_wp2_with fail
  rw [← HW1.out]
  refine Rg.wp_only ?_ (regMkdir _ (by kernel_rfl) _ w.heap.size (w.heap.size + 1) (.pointer (some ⟨b, 0, none⟩)) p r RES.1 W1 (fun W => Below W1.heap.size W1 W) (fun W => Ip b bi bl w RES.2 W ∧ Cap W w.heap.size (.pointer (some ⟨b, 0, none⟩)) ∧ Cap W (w.heap.size + 1) (.string p)) ⟨k1, k2⟩ (cm.mono (fun e w' he => ⟨he.1, (Below.refl _ W1).drew.trans he.2⟩)) (fun W hW => ⟨cap_below k1 hW, cap_below k2 hW⟩) ct (fun W hW => hW.2))
  rintro _ w9 ⟨rfl, h9⟩
  go_wp2_with fail
  go_ret
  exact ⟨rfl, h9.1⟩
set_option maxRecDepth 100000 in
set_option maxHeartbeats 2000000 in
theorem iWrite_any (b bi bl : Nat) (l : Int) (s : St) (p q : ByteArray) (w : World) (h : Ia b bi bl l w s) (hg : Good s) (ok : Ok s) (hp : p.size ≤ 8000000000000) (hq : q.size ≤ 1000000000000000000) :
    Calls Tryz.prog 130 #[.pointer (some ⟨b, 0, none⟩), .string p, .string q] w fun e w' => e = .returned (.int .i64 ((writeS s p q).1 : Nat)) ∧ Ip b bi bl w (writeS s p q).2 w' := by
  have hft := h.lt
  have hn := ok.fit.1
  have hst : (done s).2.stamps ≤ 1000000000000 := by rw [done_stamps]; exact ok.stamps
  have eL := done_L s
  rw [write_step hg]
  obtain ⟨S', hS'⟩ : ∃ S', S' = putS (done s).2 { old s.L p with data := q, loose := true, anew := true } := ⟨_, rfl⟩
  rw [← hS']
  have hb1 := (Below.refl w.heap.size w).alloc (Nat.le_refl _) (.cells #[.pointer (some ⟨b, 0, none⟩)] 23)
  have k1 := cap_new w (.pointer (some ⟨b, 0, none⟩)) 23
  have k2 := cap_new (w.alloc (.cells #[.pointer (some ⟨b, 0, none⟩)] 23)) (.string p) 9
  have hs1 : (w.alloc (.cells #[.pointer (some ⟨b, 0, none⟩)] 23)).heap.size = w.heap.size + 1 := by simp
  rw [hs1] at k2
  have hb2 := hb1.alloc (by simp) (.cells #[.string p] 9)
  have k1 := cap_below k1 ((Below.refl _ _).alloc (Nat.le_refl _) (.cells #[.string p] 9))
  have k3 := cap_new ((w.alloc (.cells #[.pointer (some ⟨b, 0, none⟩)] 23)).alloc (.cells #[.string p] 9)) (.string q) 9
  have hs2 : ((w.alloc (.cells #[.pointer (some ⟨b, 0, none⟩)] 23)).alloc (.cells #[.string p] 9)).heap.size = w.heap.size + 1 + 1 := by simp
  rw [hs2] at k3
  have hb2 := hb2.alloc (by simp; omega) (.cells #[.string q] 9)
  have k1 := cap_below k1 ((Below.refl _ _).alloc (Nat.le_refl _) (.cells #[.string q] 9))
  have k2 := cap_below k2 ((Below.refl _ _).alloc (Nat.le_refl _) (.cells #[.string q] 9))
  obtain ⟨W1, hW1⟩ : ∃ W1, W1 = ((w.alloc (.cells #[.pointer (some ⟨b, 0, none⟩)] 23)).alloc (.cells #[.string p] 9)).alloc (.cells #[.string q] 9) := ⟨_, rfl⟩
  rw [← hW1] at k1 k2 k3 hb2
  have hb3 : Below w.heap.size w W1.drew := hb2.drew
  have cm := iMayWrite_any b bi bl l s p q W1.drew (h.below hb3) hg.rises ok.fit hp hq
  have hen : ∀ W, (callFunc 157 #[.pointer (some ⟨w.heap.size, 0, none⟩), .pointer (some ⟨w.heap.size + 1, 0, none⟩), .pointer (some ⟨w.heap.size + 1 + 1, 0, none⟩)]).run Tryz.prog W = .ok (.enter 157 #[.pointer (some ⟨w.heap.size, 0, none⟩), .pointer (some ⟨w.heap.size + 1, 0, none⟩), .pointer (some ⟨w.heap.size + 1 + 1, 0, none⟩)]) W :=
    fun W => Rg.enters Tryz.func157 (by kernel_rfl) (by kernel_rfl) _ W
  have ct : ∀ W, Below W1.heap.size W1 W → Calls Tryz.prog 88 #[.pointer (some ⟨b, 0, none⟩), .int .i64 (mayWriteS s p q : Nat), .func (.func 157) #[] #[.pointer (some ⟨w.heap.size, 0, none⟩), .pointer (some ⟨w.heap.size + 1, 0, none⟩), .pointer (some ⟨w.heap.size + 1 + 1, 0, none⟩)]] W fun e w' => e = .returned (.int .i64 ((stepR s (mayWriteS s p q) S').1 : Nat)) ∧
      (Ip b bi bl w (stepR s (mayWriteS s p q) S').2 w' ∧ Cap w' w.heap.size (.pointer (some ⟨b, 0, none⟩)) ∧ Cap w' (w.heap.size + 1) (.string p) ∧ Cap w' (w.heap.size + 1 + 1) (.string q)) := by
    intro W hW
    have hbW := below_call hb2 hW
    have j1 := cap_below k1 hW
    have j2 := cap_below k2 hW
    have j3 := cap_below k3 hW
    have hnf : ∀ k, ¬ Ft b bi bl (w.heap.size + k) := fun k hk => by have := hft _ hk; omega
    refine (iStep_any b bi bl l s _ _ _ S' W (h.below hbW) (fun e => (mayWrite_ok e).1) ok.steps hen (fun l1 W2 hr _ hI hc => ?_)).mono ?_
    · have m1 := cap_chg j1 hc (fun e => by have := hft b (.inl rfl); omega)
      have m2 := cap_chg j2 hc (fun e => by have := hft b (.inl rfl); omega)
      have m3 := cap_chg j3 hc (fun e => by have := hft b (.inl rfl); omega)
      rw [hS']
      have c9 := iWriteC_any b bi bl _ _ _ l1 _ p q W2 hI m1 m2 m3 hp (by rw [eL]; exact hn) hst (by rw [eL]; exact old_dir (mayWrite_ok hr).2)
      rw [eL] at c9
      exact c9
    · rintro e w' ⟨rfl, l5, h5, hc5⟩
      exact ⟨rfl, ⟨l5, h5, (Chg.of_below hbW).then hc5⟩, cap_chg j1 hc5 (hnf 0), cap_chg j2 hc5 (hnf 1), cap_chg j3 hc5 (hnf 2)⟩
  generalize stepR s (mayWriteS s p q) S' = RES at ct ⊢
  generalize mayWriteS s p q = r at cm ct
  have HW1 := Lib.hid hW1
  clear h hg ok hS' hst eL hn hft hb1 hb2 hb3 hen
  go_enter Tryz.func130, Tryz.ntmps130
  go_wp2_with fail
  rw [← HW1.out]
  refine Rg.wp_only ?_ (regWrite _ (by kernel_rfl) _ w.heap.size (w.heap.size + 1) (w.heap.size + 1 + 1) (.pointer (some ⟨b, 0, none⟩)) p q r RES.1 W1 (fun W => Below W1.heap.size W1 W) (fun W => Ip b bi bl w RES.2 W ∧ Cap W w.heap.size (.pointer (some ⟨b, 0, none⟩)) ∧ Cap W (w.heap.size + 1) (.string p) ∧ Cap W (w.heap.size + 1 + 1) (.string q)) ⟨k1, k2, k3⟩ (cm.mono (fun e w' he => ⟨he.1, (Below.refl _ W1).drew.trans he.2⟩)) (fun W hW => ⟨cap_below k1 hW, cap_below k2 hW, cap_below k3 hW⟩) ct (fun W hW => hW.2))
  rintro _ w9 ⟨rfl, h9⟩
  go_wp2_with fail
  go_ret
  exact ⟨rfl, h9.1⟩
set_option maxRecDepth 100000 in
set_option maxHeartbeats 2000000 in
theorem iAppend_any (b bi bl : Nat) (l : Int) (s : St) (p q : ByteArray) (w : World) (h : Ia b bi bl l w s) (hg : Good s) (ok : Ok s) (hp : p.size ≤ 8000000000000) (hq : q.size ≤ 1000000000000000000) (hsz : (old s.L p).data.size + q.size ≤ 1000000000000000000) :
    Calls Tryz.prog 28 #[.pointer (some ⟨b, 0, none⟩), .string p, .string q] w fun e w' => e = .returned (.int .i64 ((appendS s p q).1 : Nat)) ∧ Ip b bi bl w (appendS s p q).2 w' := by
  have hft := h.lt
  have hn := ok.fit.1
  have hst : (done s).2.stamps ≤ 1000000000000 := by rw [done_stamps]; exact ok.stamps
  have eL := done_L s
  rw [append_step hg]
  obtain ⟨S', hS'⟩ : ∃ S', S' = putS (done s).2 { old s.L p with data := (old s.L p).data ++ q, loose := true } := ⟨_, rfl⟩
  rw [← hS']
  have hb1 := (Below.refl w.heap.size w).alloc (Nat.le_refl _) (.cells #[.pointer (some ⟨b, 0, none⟩)] 23)
  have k1 := cap_new w (.pointer (some ⟨b, 0, none⟩)) 23
  have k2 := cap_new (w.alloc (.cells #[.pointer (some ⟨b, 0, none⟩)] 23)) (.string p) 9
  have hs1 : (w.alloc (.cells #[.pointer (some ⟨b, 0, none⟩)] 23)).heap.size = w.heap.size + 1 := by simp
  rw [hs1] at k2
  have hb2 := hb1.alloc (by simp) (.cells #[.string p] 9)
  have k1 := cap_below k1 ((Below.refl _ _).alloc (Nat.le_refl _) (.cells #[.string p] 9))
  have k3 := cap_new ((w.alloc (.cells #[.pointer (some ⟨b, 0, none⟩)] 23)).alloc (.cells #[.string p] 9)) (.string q) 9
  have hs2 : ((w.alloc (.cells #[.pointer (some ⟨b, 0, none⟩)] 23)).alloc (.cells #[.string p] 9)).heap.size = w.heap.size + 1 + 1 := by simp
  rw [hs2] at k3
  have hb2 := hb2.alloc (by simp; omega) (.cells #[.string q] 9)
  have k1 := cap_below k1 ((Below.refl _ _).alloc (Nat.le_refl _) (.cells #[.string q] 9))
  have k2 := cap_below k2 ((Below.refl _ _).alloc (Nat.le_refl _) (.cells #[.string q] 9))
  obtain ⟨W1, hW1⟩ : ∃ W1, W1 = ((w.alloc (.cells #[.pointer (some ⟨b, 0, none⟩)] 23)).alloc (.cells #[.string p] 9)).alloc (.cells #[.string q] 9) := ⟨_, rfl⟩
  rw [← hW1] at k1 k2 k3 hb2
  have hb3 : Below w.heap.size w W1.drew := hb2.drew
  have cm := iMayAppend_any b bi bl l s p q W1.drew (h.below hb3) hg.rises ok.fit hp (by omega)
  have hen : ∀ W, (callFunc 90 #[.pointer (some ⟨w.heap.size, 0, none⟩), .pointer (some ⟨w.heap.size + 1, 0, none⟩), .pointer (some ⟨w.heap.size + 1 + 1, 0, none⟩)]).run Tryz.prog W = .ok (.enter 90 #[.pointer (some ⟨w.heap.size, 0, none⟩), .pointer (some ⟨w.heap.size + 1, 0, none⟩), .pointer (some ⟨w.heap.size + 1 + 1, 0, none⟩)]) W :=
    fun W => Rg.enters Tryz.func90 (by kernel_rfl) (by kernel_rfl) _ W
  have ct : ∀ W, Below W1.heap.size W1 W → Calls Tryz.prog 88 #[.pointer (some ⟨b, 0, none⟩), .int .i64 (mayAppendS s p q : Nat), .func (.func 90) #[] #[.pointer (some ⟨w.heap.size, 0, none⟩), .pointer (some ⟨w.heap.size + 1, 0, none⟩), .pointer (some ⟨w.heap.size + 1 + 1, 0, none⟩)]] W fun e w' => e = .returned (.int .i64 ((stepR s (mayAppendS s p q) S').1 : Nat)) ∧
      (Ip b bi bl w (stepR s (mayAppendS s p q) S').2 w' ∧ Cap w' w.heap.size (.pointer (some ⟨b, 0, none⟩)) ∧ Cap w' (w.heap.size + 1) (.string p) ∧ Cap w' (w.heap.size + 1 + 1) (.string q)) := by
    intro W hW
    have hbW := below_call hb2 hW
    have j1 := cap_below k1 hW
    have j2 := cap_below k2 hW
    have j3 := cap_below k3 hW
    have hnf : ∀ k, ¬ Ft b bi bl (w.heap.size + k) := fun k hk => by have := hft _ hk; omega
    refine (iStep_any b bi bl l s _ _ _ S' W (h.below hbW) (fun e => (mayAppend_ok e).1) ok.steps hen (fun l1 W2 hr _ hI hc => ?_)).mono ?_
    · have m1 := cap_chg j1 hc (fun e => by have := hft b (.inl rfl); omega)
      have m2 := cap_chg j2 hc (fun e => by have := hft b (.inl rfl); omega)
      have m3 := cap_chg j3 hc (fun e => by have := hft b (.inl rfl); omega)
      rw [hS']
      have c9 := iAppendC_any b bi bl _ _ _ l1 _ p q W2 hI m1 m2 m3 hp (by rw [eL]; exact hn) hst (by rw [eL]; exact (mayAppend_ok hr).2) (by rw [eL]; exact calm_old hg p) (by rw [eL]; exact hsz)
      rw [eL] at c9
      exact c9
    · rintro e w' ⟨rfl, l5, h5, hc5⟩
      exact ⟨rfl, ⟨l5, h5, (Chg.of_below hbW).then hc5⟩, cap_chg j1 hc5 (hnf 0), cap_chg j2 hc5 (hnf 1), cap_chg j3 hc5 (hnf 2)⟩
  generalize stepR s (mayAppendS s p q) S' = RES at ct ⊢
  generalize mayAppendS s p q = r at cm ct
  have HW1 := Lib.hid hW1
  clear h hg ok hS' hst eL hn hft hb1 hb2 hb3 hen
  go_enter Tryz.func28, Tryz.ntmps28
  go_wp2_with fail
  rw [← HW1.out]
  refine Rg.wp_only ?_ (regAppend _ (by kernel_rfl) _ w.heap.size (w.heap.size + 1) (w.heap.size + 1 + 1) (.pointer (some ⟨b, 0, none⟩)) p q r RES.1 W1 (fun W => Below W1.heap.size W1 W) (fun W => Ip b bi bl w RES.2 W ∧ Cap W w.heap.size (.pointer (some ⟨b, 0, none⟩)) ∧ Cap W (w.heap.size + 1) (.string p) ∧ Cap W (w.heap.size + 1 + 1) (.string q)) ⟨k1, k2, k3⟩ (cm.mono (fun e w' he => ⟨he.1, (Below.refl _ W1).drew.trans he.2⟩)) (fun W hW => ⟨cap_below k1 hW, cap_below k2 hW, cap_below k3 hW⟩) ct (fun W hW => hW.2))
  rintro _ w9 ⟨rfl, h9⟩
  go_wp2_with fail
  go_ret
  exact ⟨rfl, h9.1⟩
set_option maxRecDepth 100000 in
set_option maxHeartbeats 2000000 in
theorem iSync_any (b bi bl : Nat) (l : Int) (s : St) (p : ByteArray) (w : World) (h : Ia b bi bl l w s) (hg : Good s) (ok : Ok s) (hp : p.size ≤ 8000000000000) :
    Calls Tryz.prog 72 #[.pointer (some ⟨b, 0, none⟩), .string p] w fun e w' => e = .returned (.int .i64 ((syncS s p).1 : Nat)) ∧ Ip b bi bl w (syncS s p).2 w' := by
  have hft := h.lt
  have hn := ok.fit.1
  have hst : (done s).2.stamps ≤ 1000000000000 := by rw [done_stamps]; exact ok.stamps
  have eL := done_L s
  rw [sync_step]
  obtain ⟨S', hS'⟩ : ∃ S', S' = { (done s).2 with L := ins (done s).2.L { old s.L p with kept := (old s.L p).data, loose := false, anew := false } } := ⟨_, rfl⟩
  rw [← hS']
  have hb1 := (Below.refl w.heap.size w).alloc (Nat.le_refl _) (.cells #[.pointer (some ⟨b, 0, none⟩)] 23)
  have k1 := cap_new w (.pointer (some ⟨b, 0, none⟩)) 23
  have k2 := cap_new (w.alloc (.cells #[.pointer (some ⟨b, 0, none⟩)] 23)) (.string p) 9
  have hs1 : (w.alloc (.cells #[.pointer (some ⟨b, 0, none⟩)] 23)).heap.size = w.heap.size + 1 := by simp
  rw [hs1] at k2
  have hb2 := hb1.alloc (by simp) (.cells #[.string p] 9)
  have k1 := cap_below k1 ((Below.refl _ _).alloc (Nat.le_refl _) (.cells #[.string p] 9))
  obtain ⟨W1, hW1⟩ : ∃ W1, W1 = ((w.alloc (.cells #[.pointer (some ⟨b, 0, none⟩)] 23)).alloc (.cells #[.string p] 9)) := ⟨_, rfl⟩
  rw [← hW1] at k1 k2 hb2
  have hb3 : Below w.heap.size w W1.drew := hb2.drew
  have cm := iMaySync_any b bi bl l s p W1.drew (h.below hb3) hp
  have hen : ∀ W, (callFunc 128 #[.pointer (some ⟨w.heap.size, 0, none⟩), .pointer (some ⟨w.heap.size + 1, 0, none⟩)]).run Tryz.prog W = .ok (.enter 128 #[.pointer (some ⟨w.heap.size, 0, none⟩), .pointer (some ⟨w.heap.size + 1, 0, none⟩)]) W :=
    fun W => Rg.enters Tryz.func128 (by kernel_rfl) (by kernel_rfl) _ W
  have ct : ∀ W, Below W1.heap.size W1 W → Calls Tryz.prog 88 #[.pointer (some ⟨b, 0, none⟩), .int .i64 (there s p : Nat), .func (.func 128) #[] #[.pointer (some ⟨w.heap.size, 0, none⟩), .pointer (some ⟨w.heap.size + 1, 0, none⟩)]] W fun e w' => e = .returned (.int .i64 ((stepR s (there s p) S').1 : Nat)) ∧
      (Ip b bi bl w (stepR s (there s p) S').2 w' ∧ Cap w' w.heap.size (.pointer (some ⟨b, 0, none⟩)) ∧ Cap w' (w.heap.size + 1) (.string p)) := by
    intro W hW
    have hbW := below_call hb2 hW
    have j1 := cap_below k1 hW
    have j2 := cap_below k2 hW
    have hnf : ∀ k, ¬ Ft b bi bl (w.heap.size + k) := fun k hk => by have := hft _ hk; omega
    refine (iStep_any b bi bl l s _ _ _ S' W (h.below hbW) (fun e => (there_kind e).1) ok.steps hen (fun l1 W2 hr _ hI hc => ?_)).mono ?_
    · have m1 := cap_chg j1 hc (fun e => by have := hft b (.inl rfl); omega)
      have m2 := cap_chg j2 hc (fun e => by have := hft b (.inl rfl); omega)
      rw [hS']
      have c9 := iSyncC_any b bi bl _ _ l1 _ p W2 hI m1 m2 hp (by rw [eL]; exact hn) (by rw [eL]; exact (there_kind hr).2)
      rw [eL] at c9 ⊢
      exact c9
    · rintro e w' ⟨rfl, l5, h5, hc5⟩
      exact ⟨rfl, ⟨l5, h5, (Chg.of_below hbW).then hc5⟩, cap_chg j1 hc5 (hnf 0), cap_chg j2 hc5 (hnf 1)⟩
  generalize stepR s (there s p) S' = RES at ct ⊢
  generalize there s p = r at cm ct
  have HW1 := Lib.hid hW1
  clear h hg ok hS' hst eL hn hft hb1 hb2 hb3 hen
  go_enter Tryz.func72, Tryz.ntmps72
  go_wp2_with fail
  rw [← HW1.out]
  refine Rg.wp_only ?_ (regSync _ (by kernel_rfl) _ w.heap.size (w.heap.size + 1) (.pointer (some ⟨b, 0, none⟩)) p r RES.1 W1 (fun W => Below W1.heap.size W1 W) (fun W => Ip b bi bl w RES.2 W ∧ Cap W w.heap.size (.pointer (some ⟨b, 0, none⟩)) ∧ Cap W (w.heap.size + 1) (.string p)) ⟨k1, k2⟩ (cm.mono (fun e w' he => ⟨he.1, (Below.refl _ W1).drew.trans he.2⟩)) (fun W hW => ⟨cap_below k1 hW, cap_below k2 hW⟩) ct (fun W hW => hW.2))
  rintro _ w9 ⟨rfl, h9⟩
  go_wp2_with fail
  go_ret
  exact ⟨rfl, h9.1⟩
set_option maxRecDepth 100000 in
set_option maxHeartbeats 2000000 in
theorem iRename_any (b bi bl : Nat) (l : Int) (s : St) (p q : ByteArray) (w : World) (h : Ia b bi bl l w s) (hg : Good s) (ok : Ok s) (hp : p.size ≤ 8000000000000) (hq : q.size ≤ 8000000000000) :
    Calls Tryz.prog 131 #[.pointer (some ⟨b, 0, none⟩), .string p, .string q] w fun e w' => e = .returned (.int .i64 ((renameS s p q).1 : Nat)) ∧ Ip b bi bl w (renameS s p q).2 w' := by
  have hft := h.lt
  have hn := ok.fit.1
  have hst : (done s).2.stamps ≤ 1000000000000 := by rw [done_stamps]; exact ok.stamps
  have eL := done_L s
  rw [rename_step hg]
  obtain ⟨S', hS'⟩ : ∃ S', S' = putS { (done s).2 with L := drop (done s).2.L p } { old s.L p with path := q } := ⟨_, rfl⟩
  rw [← hS']
  have hb1 := (Below.refl w.heap.size w).alloc (Nat.le_refl _) (.cells #[.pointer (some ⟨b, 0, none⟩)] 23)
  have k1 := cap_new w (.pointer (some ⟨b, 0, none⟩)) 23
  have k2 := cap_new (w.alloc (.cells #[.pointer (some ⟨b, 0, none⟩)] 23)) (.string p) 9
  have hs1 : (w.alloc (.cells #[.pointer (some ⟨b, 0, none⟩)] 23)).heap.size = w.heap.size + 1 := by simp
  rw [hs1] at k2
  have hb2 := hb1.alloc (by simp) (.cells #[.string p] 9)
  have k1 := cap_below k1 ((Below.refl _ _).alloc (Nat.le_refl _) (.cells #[.string p] 9))
  have k3 := cap_new ((w.alloc (.cells #[.pointer (some ⟨b, 0, none⟩)] 23)).alloc (.cells #[.string p] 9)) (.string q) 9
  have hs2 : ((w.alloc (.cells #[.pointer (some ⟨b, 0, none⟩)] 23)).alloc (.cells #[.string p] 9)).heap.size = w.heap.size + 1 + 1 := by simp
  rw [hs2] at k3
  have hb2 := hb2.alloc (by simp; omega) (.cells #[.string q] 9)
  have k1 := cap_below k1 ((Below.refl _ _).alloc (Nat.le_refl _) (.cells #[.string q] 9))
  have k2 := cap_below k2 ((Below.refl _ _).alloc (Nat.le_refl _) (.cells #[.string q] 9))
  obtain ⟨W1, hW1⟩ : ∃ W1, W1 = ((w.alloc (.cells #[.pointer (some ⟨b, 0, none⟩)] 23)).alloc (.cells #[.string p] 9)).alloc (.cells #[.string q] 9) := ⟨_, rfl⟩
  rw [← hW1] at k1 k2 k3 hb2
  have hb3 : Below w.heap.size w W1.drew := hb2.drew
  have cm := iMayRename_any b bi bl l s p q W1.drew (h.below hb3) hg.rises ok.fit hp hq
  have hen : ∀ W, (callFunc 159 #[.pointer (some ⟨w.heap.size, 0, none⟩), .pointer (some ⟨w.heap.size + 1, 0, none⟩), .pointer (some ⟨w.heap.size + 1 + 1, 0, none⟩)]).run Tryz.prog W = .ok (.enter 159 #[.pointer (some ⟨w.heap.size, 0, none⟩), .pointer (some ⟨w.heap.size + 1, 0, none⟩), .pointer (some ⟨w.heap.size + 1 + 1, 0, none⟩)]) W :=
    fun W => Rg.enters Tryz.func159 (by kernel_rfl) (by kernel_rfl) _ W
  have ct : ∀ W, Below W1.heap.size W1 W → Calls Tryz.prog 88 #[.pointer (some ⟨b, 0, none⟩), .int .i64 (mayRenS s p q : Nat), .func (.func 159) #[] #[.pointer (some ⟨w.heap.size, 0, none⟩), .pointer (some ⟨w.heap.size + 1, 0, none⟩), .pointer (some ⟨w.heap.size + 1 + 1, 0, none⟩)]] W fun e w' => e = .returned (.int .i64 ((stepR s (mayRenS s p q) S').1 : Nat)) ∧
      (Ip b bi bl w (stepR s (mayRenS s p q) S').2 w' ∧ Cap w' w.heap.size (.pointer (some ⟨b, 0, none⟩)) ∧ Cap w' (w.heap.size + 1) (.string p) ∧ Cap w' (w.heap.size + 1 + 1) (.string q)) := by
    intro W hW
    have hbW := below_call hb2 hW
    have j1 := cap_below k1 hW
    have j2 := cap_below k2 hW
    have j3 := cap_below k3 hW
    have hnf : ∀ k, ¬ Ft b bi bl (w.heap.size + k) := fun k hk => by have := hft _ hk; omega
    refine (iStep_any b bi bl l s _ _ _ S' W (h.below hbW) (fun e => (mayRen_ok e).1) ok.steps hen (fun l1 W2 hr _ hI hc => ?_)).mono ?_
    · have m1 := cap_chg j1 hc (fun e => by have := hft b (.inl rfl); omega)
      have m2 := cap_chg j2 hc (fun e => by have := hft b (.inl rfl); omega)
      have m3 := cap_chg j3 hc (fun e => by have := hft b (.inl rfl); omega)
      rw [hS']
      have c9 := iRenameC_any b bi bl _ _ _ l1 _ p q W2 hI (by rw [eL]; exact hg.rises) m1 m2 m3 hp hq (by rw [eL]; exact hn) hst (by rw [eL]; exact (mayRen_ok hr).2)
      rw [eL] at c9 ⊢
      exact c9
    · rintro e w' ⟨rfl, l5, h5, hc5⟩
      exact ⟨rfl, ⟨l5, h5, (Chg.of_below hbW).then hc5⟩, cap_chg j1 hc5 (hnf 0), cap_chg j2 hc5 (hnf 1), cap_chg j3 hc5 (hnf 2)⟩
  generalize stepR s (mayRenS s p q) S' = RES at ct ⊢
  generalize mayRenS s p q = r at cm ct
  have HW1 := Lib.hid hW1
  clear h hg ok hS' hst eL hn hft hb1 hb2 hb3 hen
  go_enter Tryz.func131, Tryz.ntmps131
  go_wp2_with fail
  rw [← HW1.out]
  refine Rg.wp_only ?_ (regRename _ (by kernel_rfl) _ w.heap.size (w.heap.size + 1) (w.heap.size + 1 + 1) (.pointer (some ⟨b, 0, none⟩)) p q r RES.1 W1 (fun W => Below W1.heap.size W1 W) (fun W => Ip b bi bl w RES.2 W ∧ Cap W w.heap.size (.pointer (some ⟨b, 0, none⟩)) ∧ Cap W (w.heap.size + 1) (.string p) ∧ Cap W (w.heap.size + 1 + 1) (.string q)) ⟨k1, k2, k3⟩ (cm.mono (fun e w' he => ⟨he.1, (Below.refl _ W1).drew.trans he.2⟩)) (fun W hW => ⟨cap_below k1 hW, cap_below k2 hW, cap_below k3 hW⟩) ct (fun W hW => hW.2))
  rintro _ w9 ⟨rfl, h9⟩
  go_wp2_with fail
  go_ret
  exact ⟨rfl, h9.1⟩
end Go.Proofs.YtjdmbkkdnonkkaaGreat.Dk

namespace Go.Proofs
open Go.Shelf
def Tryz.sortS_ren : Go.Shelf.Ren := ⟨fun | 190 => 118 | 125 => 150 | 258 => 149 | 128 => 178 | 129 => 179 | 302 => 169 | 303 => 170 | 304 => 171 | 305 => 172 | 306 => 173 | 307 => 174 | 308 => 175 | 309 => 176 | 310 => 177 | 333 => 186 | 329 => 187 | 330 => 188 | 334 => 189 | 335 => 190 | 336 => 191 | 344 => 200 | n => n, fun | 31 => 56 | 9 => 9 | 3 => 3 | 46 => 169 | 0 => 0 | 51 => 165 | 53 => 121 | 4 => 4 | 183 => 203 | 182 => 202 | 131 => 162 | 5 => 5 | 218 => 210 | 222 => 214 | 228 => 221 | 229 => 222 | n => n, fun | n => n⟩
theorem Tryz.sortS : Go.Proofs.Lays.n190 Tryz.prog Tryz.sortS_ren := {
  mixed := by kernel_rfl
  f125 := Tryz.func150.trans (congrArg some (by kernel_rfl))
  f128 := Tryz.func178.trans (congrArg some (by kernel_rfl))
  f129 := Tryz.func179.trans (congrArg some (by kernel_rfl))
  f190 := Tryz.func118.trans (congrArg some (by kernel_rfl))
  f258 := Tryz.func149.trans (congrArg some (by kernel_rfl))
  f302 := Tryz.func169.trans (congrArg some (by kernel_rfl))
  f303 := Tryz.func170.trans (congrArg some (by kernel_rfl))
  f304 := Tryz.func171.trans (congrArg some (by kernel_rfl))
  f305 := Tryz.func172.trans (congrArg some (by kernel_rfl))
  f306 := Tryz.func173.trans (congrArg some (by kernel_rfl))
  f307 := Tryz.func174.trans (congrArg some (by kernel_rfl))
  f308 := Tryz.func175.trans (congrArg some (by kernel_rfl))
  f309 := Tryz.func176.trans (congrArg some (by kernel_rfl))
  f310 := Tryz.func177.trans (congrArg some (by kernel_rfl))
  f329 := Tryz.func187.trans (congrArg some (by kernel_rfl))
  f330 := Tryz.func188.trans (congrArg some (by kernel_rfl))
  f333 := Tryz.func186.trans (congrArg some (by kernel_rfl))
  f334 := Tryz.func189.trans (congrArg some (by kernel_rfl))
  f335 := Tryz.func190.trans (congrArg some (by kernel_rfl))
  f336 := Tryz.func191.trans (congrArg some (by kernel_rfl))
  f344 := Tryz.func200.trans (congrArg some (by kernel_rfl))
  t0 := Tryz.underlying0
  a0 := Tryz.isAgg0
  z0 := Tryz.sizeOf0
  v0 := Tryz.zeroValue0
  t3 := Tryz.underlying3
  a3 := Tryz.isAgg3
  z3 := Tryz.sizeOf3
  v3 := Tryz.zeroValue3
  t4 := Tryz.underlying4
  a4 := Tryz.isAgg4
  z4 := Tryz.sizeOf4
  v4 := Tryz.zeroValue4
  t5 := Tryz.underlying5
  a5 := Tryz.isAgg5
  z5 := Tryz.sizeOf5
  v5 := Tryz.zeroValue5
  t9 := Tryz.underlying9
  a9 := Tryz.isAgg9
  z9 := Tryz.sizeOf9
  v9 := Tryz.zeroValue9
  t31 := Tryz.underlying56
  a31 := Tryz.isAgg56
  z31 := Tryz.sizeOf56
  v31 := Tryz.zeroValue56
  t46 := Tryz.underlying169
  a46 := Tryz.isAgg169
  z46 := Tryz.sizeOf169
  v46 := Tryz.zeroValue169
  t51 := Tryz.underlying165
  a51 := Tryz.isAgg165
  z51 := Tryz.sizeOf165
  v51 := Tryz.zeroValue165
  t53 := Tryz.underlying121
  a53 := Tryz.isAgg121
  z53 := Tryz.sizeOf121
  v53 := Tryz.zeroValue121
  t131 := Tryz.underlying162
  a131 := Tryz.isAgg162
  z131 := Tryz.sizeOf162
  v131 := Tryz.zeroValue162
  t182 := Tryz.underlying202
  a182 := Tryz.isAgg202
  z182 := Tryz.sizeOf202
  v182 := Tryz.zeroValue202
  t183 := Tryz.underlying203
  a183 := Tryz.isAgg203
  z183 := Tryz.sizeOf203
  v183 := Tryz.zeroValue203
  t218 := Tryz.underlying210
  a218 := Tryz.isAgg210
  z218 := Tryz.sizeOf210
  v218 := Tryz.zeroValue210
  t222 := Tryz.underlying214
  a222 := Tryz.isAgg214
  z222 := Tryz.sizeOf214
  v222 := Tryz.zeroValue214
  t228 := Tryz.underlying221
  a228 := Tryz.isAgg221
  z228 := Tryz.sizeOf221
  v228 := Tryz.zeroValue221
  t229 := Tryz.underlying222
  a229 := Tryz.isAgg222
  z229 := Tryz.sizeOf222
  v229 := Tryz.zeroValue222 }
end Go.Proofs

namespace Go.Proofs.YtjdmbkkdnonkkaaGreat.Dk
open Go.RowKit Tx Pm Go.Sort Go.Lib Go.Shelf
set_option linter.unusedVariables false
theorem rising_perm : ∀ {ts l : List ByteArray}, ts.Perm l → ts.Pairwise (fun a b => Op.bytesLess b.toList a.toList = false) → l.Pairwise (fun a b => Op.bytesLess a.toList b.toList = true) → ts = l
  | ts, [], hp, _, _ => hp.eq_nil
  | [], x :: l, hp, _, _ => absurd hp.symm.eq_nil (by simp)
  | y :: t, x :: l, hp, h1, h2 => by
    obtain ⟨a1, a2⟩ := List.pairwise_cons.1 h1
    obtain ⟨b1, b2⟩ := List.pairwise_cons.1 h2
    have hyx : y = x := by
      rcases List.mem_cons.1 (hp.mem_iff.1 (List.mem_cons_self : y ∈ y :: t)) with e | hy
      · exact e
      · rcases List.mem_cons.1 (hp.mem_iff.2 (List.mem_cons_self : x ∈ x :: l)) with e | hx
        · exact e.symm
        · have := a1 x hx
          rw [b1 y hy] at this
          cases this
    subst hyx
    rw [rising_perm (List.Perm.cons_inv hp) a2 b2]
theorem less_iffS (a b : ByteArray) : Op.bytesLess a.toList b.toList = decide (a.data.toList < b.data.toList) := by
  rw [bytesLess_eq, ByteArray.toList_eq, ByteArray.toList_eq]
theorem merge_sortedS (l : List (List UInt8)) : (l.mergeSort fun x y => decide (x ≤ y)).Pairwise (fun a b => ¬ b < a) := by
  have h := List.pairwise_mergeSort (le := fun x y : List UInt8 => decide (x ≤ y)) (fun a b c h1 h2 => decide_eq_true (List.le_trans (of_decide_eq_true h1) (of_decide_eq_true h2))) (fun a b => by
    rcases List.le_total a b with h | h
    · simp [h]
    · simp [h]) l
  exact h.imp (fun hab => of_decide_eq_true hab)
theorem encSS (l : List ByteArray) : (l.map (·.data.toList)).map encStr = l.map sv := by
  rw [List.map_map]
  refine List.map_congr_left (fun x _ => ?_)
  rfl
theorem encTS (l : List (List UInt8)) : l.map encStr = (l.map tb).map sv := by
  rw [List.map_map]
  rfl
theorem below_sortSS {w : World} {B g q : Nat} {d : Array (List UInt8)} {os : Array Obj} (hg : B ≤ g) (hB : B ≤ w.heap.size) : RowKit.Below B w (grow (putRow encStr (Sort.ahead w q) g 0 d) os) := by
  have h1 : RowKit.Below B w (putRow encStr (Sort.ahead w q) g 0 d) := Lib.below_putRow (RowKit.Below.refl B w) hg
  refine ⟨h1.os, h1.tape, h1.output, by simp, fun k hk => ?_⟩
  rw [heap_grow_old _ _ (by have h2 : (putRow encStr (Sort.ahead w q) g 0 d).heap.size = w.heap.size := by simp
                            omega)]
  exact h1.block k hk
set_option maxRecDepth 100000 in
set_option maxHeartbeats 1000000 in
theorem sortS_any (v : Value) (ss : List ByteArray) (w : World) (B : Nat) (hT : Texts w B v ss) (hB : B ≤ w.heap.size) (hn : ss.length ≤ 4000000000) :
    Calls Tryz.prog 118 #[v] w fun e w' => e = .returned (.tuple #[]) ∧ ∃ ts : List ByteArray, ts.Perm ss ∧ ts.Pairwise (fun a b => Op.bytesLess b.toList a.toList = false) ∧ Texts w' B v ts ∧ RowKit.Below B w w' := by
  have hT2 := hT
  obtain ⟨hlen, h2⟩ := hT2
  rcases h2 with ⟨hv, h0⟩ | ⟨g, cap, cur, hv, hb, hg, hc, hm, hs, ht⟩
  · subst hv
    obtain rfl : ss = [] := List.length_eq_zero_iff.1 h0
    have h := Any.slices_Sort_string_none Tryz.sortS none 0 w
    change Calls Tryz.prog 118 _ _ _ at h
    refine h.mono ?_
    rintro e w' ⟨rfl, rfl⟩
    exact ⟨rfl, [], List.Perm.refl _, List.Pairwise.nil, hT, RowKit.Below.refl _ _⟩
  · subst hv
    have hlt : g < w.heap.size := (Array.getElem?_eq_some_iff.1 hg).1
    obtain ⟨zs, hz⟩ : ∃ zs, zs = ss.map (·.data.toList) := ⟨_, rfl⟩
    have hzl : zs.length = ss.length := by rw [hz, List.length_map]
    have hH : Holds encStr w g 0 zs.toArray := holds_of_block hg (by
      rw [Nat.mul_one] at ht
      rw [hzl, ht, hz, encSS])
    have h := Any.slices_Sort_string Tryz.sortS g 0 cap zs w hH hlt (by omega)
    change Calls Tryz.prog 118 _ _ _ at h
    rw [hzl] at h
    refine h.mono ?_
    rintro e w' ⟨rfl, q, os, rfl⟩
    have hml : (zs.mergeSort fun x y => decide (x ≤ y)).length = zs.length := List.length_mergeSort zs
    refine ⟨rfl, (zs.mergeSort fun x y => decide (x ≤ y)).map tb, ?_, ?_, ?_, below_sortSS hb hB⟩
    · have h1 := (List.mergeSort_perm zs (fun x y => decide (x ≤ y))).map tb
      have h2 : zs.map tb = ss := by
        rw [hz, List.map_map]
        conv => rhs; rw [← List.map_id ss]
        exact List.map_congr_left (fun x _ => tb_of x)
      rwa [h2] at h1
    · rw [List.pairwise_map]
      refine (merge_sortedS zs).imp (fun hab => ?_)
      rw [less_iffS]
      exact decide_eq_false hab
    · have h1 := ownsRow_sorted (ss := zs) (ts := zs.mergeSort fun x y => decide (x ≤ y)) (n := q) (os := os) hml hb hg (by rw [hzl]; exact hc) hm hs
      unfold Texts
      rw [List.length_map, hml, ← encTS, hzl]
      rw [hzl] at h1
      exact h1
end Go.Proofs.YtjdmbkkdnonkkaaGreat.Dk

namespace Go.Proofs.YtjdmbkkdnonkkaaGreat.Dk
open Go.RowKit Tx Pm Pl Pr
set_option linter.unusedVariables false
theorem own_base {w : World} {B C n size : Nat} {e : TypeId} {v : Value} {xs : List Value} (h : w.ownsRow C e size v n xs) (hB : B ≤ C) : w.ownsRow B e size v n xs := by
  refine ⟨h.1, ?_⟩
  rcases h.2 with h0 | ⟨g, cap, cur, hv, hg, hh, r⟩
  · exact .inl h0
  · exact .inr ⟨g, cap, cur, hv, Nat.le_trans hB hg, hh, r⟩
theorem grown_below {w w1 : World} (h : Below w.heap.size w w1) : w.grownBy w1 none := ⟨h.os, h.tape, h.output, h.size, fun i hi _ => h.block i hi⟩
theorem own_belowT {w w1 : World} {B n size : Nat} {e : TypeId} {v : Value} {xs : List Value} (h : w.ownsRow B e size v n xs) (hb : Below w.heap.size w w1) : w1.ownsRow B e size v n xs := own_kept h (fun g hg => hb.block g (h.lt g hg).2)
def held (φ : It → Bool) (l : List It) : List ByteArray := (l.filter φ).map (·.path)
theorem held_cons (φ : It → Bool) (x : It) (l : List It) : held φ (x :: l) = (if φ x = true then [x.path] else []) ++ held φ l := by
  unfold held
  cases h : φ x <;> simp [h]
theorem held_perm {φ : It → Bool} {a b : List It} (h : a.Perm b) : (held φ a).Perm (held φ b) := (h.filter φ).map _
theorem held_rises {φ : It → Bool} {l : List It} (h : Rises l) : (held φ l).Pairwise (fun a b => Op.bytesLess a.toList b.toList = true) := by
  unfold held
  rw [List.pairwise_map]
  exact List.Pairwise.filter _ h
theorem held_len (φ : It → Bool) (l : List It) : (held φ l).length ≤ l.length := by
  unfold held
  rw [List.length_map]
  exact List.length_filter_le _ _
set_option maxRecDepth 100000 in
set_option maxHeartbeats 2000000 in
theorem iPaths_any (b bi bl : Nat) (l : Int) (s : St) (f : FuncId) (cap : Array Value) (φ : It → Bool) (w : World) (h : Ia b bi bl l w s) (hR : Rises s.L) (hn : s.L.length ≤ 1000000000) (hps : ∀ x ∈ s.L, x.path.size ≤ 8000000000000)
    (hen : ∀ a1 a2 W, (callFunc f (#[a1, a2] ++ cap)).run Tryz.prog W = .ok (.enter f (#[a1, a2] ++ cap)) W)
    (cf : ∀ W x, Below w.heap.size w W → x ∈ s.L → Calls Tryz.prog f (#[.string x.path, .agg #[.int .i64 (kOf x), .string x.data, .string x.kept, .int .i64 (stOf x), .int .i64 x.stamp]] ++ cap) W fun e w' => e = .returned (.bool (φ x)) ∧ Below W.heap.size W w') :
    Calls Tryz.prog 76 #[.pointer (some ⟨b, 0, none⟩), .func (.func f) #[] cap] w (ListTo (held φ s.L) w) := by
  obtain ⟨i0, hi, hz0, hz1, hz2⟩ := info_parts info9
  obtain ⟨c0, _⟩ := h.cell
  have hm := h.items
  go_enter Tryz.func76, Tryz.ntmps76
  go_wp2_with (at_range; refine range_items _ rfl _ rfl bi s.L rfl hm ?_; intro D w0 hD hrg0 hg0 hs0)
  go_frame
  have HD := Lib.hid hD
  have HR := Lib.hid hR
  have HP := Lib.hid hps
  have HF := Lib.hid cf
  have HH := Lib.hid (fun left => Nat.le_trans (held_len φ (came s.L left)) (List.Sublist.length_le (came_sub s.L left)))
  have hsm : w.heap.size < w0.heap.size := by omega
  have HS := Lib.hid hs0
  clear hD hR hps hs0 cf
  go_loopw [5] (fun v wr => ∃ (left : Lit → Bool) (cnt T : Nat) (out : List ByteArray), wr.ranges Tryz.prog 9 itemR bi w.heap.size s.L.length D left cnt ∧ Hid (out.Perm (held φ (came s.L left))) ∧ Hid (out.length = T) ∧ T ≤ 1000000000 ∧ wr.ownsRow (w.heap.size + 1) 9 1 v T (out.map sv) ∧ Below w.heap.size w wr ∧ w.heap.size < wr.heap.size) (fun _ wr => wr.rangeLeft bi w.heap.size)
  case atStart => exact ⟨_, _, 0, [], hrg0, by show List.Perm _ _; rw [came_start HD.out]; exact List.Perm.refl _, rfl, by omega, World.ownsRow_nil _ _ _ _, (Below.refl _ _).grown hg0 (Nat.le_refl _) (fun j hj => by cases hj), hsm⟩
  case round =>
    obtain ⟨left, cnt, T, out, hrg, hout, hlen, hT, hown, hB, hlt⟩ := hrel
    go_wp2_with (at_next; refine next_items _ rfl _ rfl bi w.heap.size s.L.length D left cnt s.L rfl hrg HD.out ?_ ?_)
    · intro hl
      have hp := hout.out
      rw [came_end s.L hl] at hp
      have hO : Texts wr w.heap.size _ out := own_toT (own_base hown (Nat.le_succ _)) hlen.out
      have hol : out.length ≤ 4000000000 := by rw [hlen.out]; omega
      have cs := sortS_any _ out wr w.heap.size hO hB.size hol
      have HPM := Lib.hid hp
      clear hl hp hO hrg h hout hlen hown hol
      go_wp2_with (go_at_call 118; refine cs.mono ?_; rintro e w5 ⟨rfl, ts, hts, hso, htx, hb5⟩)
      go_ret
      obtain rfl : ts = held φ s.L := rising_perm (hts.trans HPM.out) hso (held_rises HR.out)
      exact ⟨_, rfl, htx, hB.trans hb5⟩
    · intro x w1 cnt1 hx hlx hrg1 hlt1 hg1 hs1 hen1
      have hst := held_perm (φ := φ) (came_step hlx HR.out hx)
      rw [held_cons] at hst
      have hbd := HH.out (less left x.path)
      have hlen2 := hst.length_eq
      have hme : cnt1 < wr.rangeLeft bi w.heap.size := by rw [hrg.left_eq]; exact hlt1
      have hb1 : Below w.heap.size w w1 := below_grown hB hg1 (Nat.le_of_lt hlt) (Nat.le_refl _)
      have hs2 : w.heap.size < w1.heap.size := by omega
      have hrg2 := hrg1.alloc (.cells #[.int .i64 (kOf x), .string x.data, .string x.kept, .int .i64 (stOf x), .int .i64 x.stamp] 117)
      have hb3 := hb1.alloc (Nat.le_of_lt hs2) (.cells #[.int .i64 (kOf x), .string x.data, .string x.kept, .int .i64 (stOf x), .int .i64 x.stamp] 117)
      have cx := HF.out _ x hb3 hx
      have hown1 := hown.kept hg1 (.inr (fun e => by have := (hown.lt _ e).1; omega))
      have HME := Lib.hid hme
      have HS1 := Lib.hid hs1
      clear hs1
      cases hφ : φ x with
      | true =>
        rw [hφ] at cx
        rw [hφ, if_pos rfl, List.length_append, List.length_singleton] at hlen2
        rw [hφ, if_pos rfl] at hst
        have hT2 : T + 1 ≤ 1000000000 := by have := hout.out.length_eq; have := hlen.out; omega
        have hpm : (out ++ [x.path]).Perm (held φ (came s.L (less left x.path))) := (List.perm_append_comm.trans (hout.out.append_left [x.path])).trans hst.symm
        have HPM := Lib.hid hpm
        have HSZ := Lib.hid (show w.heap.size + 1 ≤ w1.heap.size by omega)
        have HLN := Lib.hid (show (out ++ [x.path]).length = T + 1 by rw [List.length_append, hlen.out]; rfl)
        have HB3 := Lib.hid hb3
        clear hst hlen2 hbd hlx hx hpm hout hlen hrg hrg1 hlt1 hg1 hme hown h
        go_wp2_with fail
        refine cx.mono ?_
        rintro e w5 ⟨rfl, hb5⟩
        have hown5 := own_belowT (hown1.alloc (.cells #[.int .i64 (kOf x), .string x.data, .string x.kept, .int .i64 (stOf x), .int .i64 x.stamp] 117)) hb5
        have hB5 := below_call HB3.out hb5
        have hrg5 := hrg2.kept (grown_below hb5) (by simp) (by simp)
        have hz5 : w1.heap.size + 1 ≤ w5.heap.size := by have := hb5.size; simpa using this
        have hS := HSZ.out
        go_wp2_with (at_builtin; refine wpList_append_own _ rfl _ _ 56 rfl (w.heap.size + 1) 9 i0 (.string ⟨#[]⟩) 1 16 Tryz.underlying56 hi hz0 hz1 hz2 rfl (by decide) _ _ _ rfl (hown5.alloc _) ⟨w5.heap.size, 0, none⟩ 1 1 [sv x.path] rfl rfl ?c1_2 ?c2_2 ?c3_2 ?c4_2 ?c5_2 ?_)
        case c1_2 => exact cell_one_new _ _ _
        case c2_2 => exact sv_one [x.path]
        case c3_2 => unfold maxLen; omega
        case c4_2 => omega
        case c5_2 => first | (simp; omega) | omega
        intro v' w6 hown' hgrow _
        have ho6 : w6.ownsRow (w.heap.size + 1) 9 1 v' (T + 1) ((out ++ [x.path]).map sv) := by
          rw [List.map_append]
          exact hown'
        have hB6 : Below w.heap.size w w6 := (hB5.alloc hB5.size _).grown hgrow (by have := hB5.size; simp; omega) (fun k hk => by have := (hown5.lt k hk).1; omega)
        have hlb : bi < w.heap.size := hm.lt
        have hrg6 := (hrg5.alloc (.cells #[.string x.path] 9)).kept hgrow (fun e => by have := (hown5.lt _ e.symm).1; omega) (fun e => by have := (hown5.lt _ e.symm).1; omega)
        have hle6 : w.heap.size < w6.heap.size := by have := hgrow.size; simp at this; omega
        have hme6 : w6.rangeLeft bi w.heap.size < wr.rangeLeft bi w.heap.size := by rw [hrg6.left_eq]; exact HME.out
        have HM6 := Lib.hid hme6
        have HO6 := Lib.hid ho6
        clear hown5 hrg5 hown' hgrow hme6 hown1 hrg2 ho6
        go_wp2_with fail
        go_roundw
        case rel => exact ⟨less left x.path, cnt1, T + 1, out ++ [x.path], hrg6, HPM, HLN, hT2, HO6.out, hB6, hle6⟩
        case measure => exact HM6.out
      | false =>
        rw [hφ] at cx
        rw [hφ, if_neg (by decide), List.nil_append] at hst
        have hpm : out.Perm (held φ (came s.L (less left x.path))) := hout.out.trans hst.symm
        have HPM := Lib.hid hpm
        have HB3 := Lib.hid hb3
        clear hst hlen2 hbd hlx hx hpm hout hrg hrg1 hlt1 hg1 hme hown h
        go_wp2_with fail
        refine cx.mono ?_
        rintro e w5 ⟨rfl, hb5⟩
        have hown5 := own_belowT (hown1.alloc (.cells #[.int .i64 (kOf x), .string x.data, .string x.kept, .int .i64 (stOf x), .int .i64 x.stamp] 117)) hb5
        have hB5 := below_call HB3.out hb5
        have hrg5 := hrg2.kept (grown_below hb5) (by simp) (by simp)
        have hz5 : w1.heap.size + 1 ≤ w5.heap.size := by have := hb5.size; simpa using this
        have hme5 : w5.rangeLeft bi w.heap.size < wr.rangeLeft bi w.heap.size := by rw [hrg5.left_eq]; exact HME.out
        have HM5 := Lib.hid hme5
        clear hme5 hown1 hrg2
        go_wp2_with fail
        go_roundw
        case rel => exact ⟨less left x.path, cnt1, T, out, hrg5, HPM, hlen, hT, hown5, hB5, by omega⟩
        case measure => exact HM5.out
set_option maxRecDepth 100000 in
theorem iRestC_any (x : It) (w : World) :
    Calls Tryz.prog 77 #[.string x.path, .agg #[.int .i64 (kOf x), .string x.data, .string x.kept, .int .i64 (stOf x), .int .i64 x.stamp]] w fun e w' => e = .returned (.bool x.loose) ∧ Below w.heap.size w w' := by
  have HB := Lib.hid (fun o => (Below.refl _ w).alloc (Nat.le_refl _) o)
  have hs : (x.loose = false ∧ stOf x = 0) ∨ (x.loose = true ∧ (stOf x = 1 ∨ stOf x = 2)) := by
    unfold stOf
    cases x.loose <;> cases x.anew <;> simp
  generalize stOf x = T at hs ⊢
  rcases hs with ⟨h1, rfl⟩ | ⟨h1, rfl | rfl⟩ <;> rw [h1]
  all_goals
    clear h1
    go_enter Tryz.func77, Tryz.ntmps77
    go_wp2
    go_ret
    exact ⟨rfl, HB.out _⟩
end Go.Proofs.YtjdmbkkdnonkkaaGreat.Dk

namespace Go.Proofs.YtjdmbkkdnonkkaaGreat.Dk
open Go.RowKit Tx Pm Pl Pr
set_option linter.unusedVariables false
end Go.Proofs.YtjdmbkkdnonkkaaGreat.Dk

namespace Go.Proofs.YtjdmbkkdnonkkaaGreat.Dk
open Go.RowKit Tx Pm Pl Pr
set_option linter.unusedVariables false
end Go.Proofs.YtjdmbkkdnonkkaaGreat.Dk

namespace Go.Proofs.YtjdmbkkdnonkkaaGreat.Dk
open Go.RowKit Tx Pm Pl Pr
set_option linter.unusedVariables false
theorem read_old {s : St} (hg : Good s) (p : ByteArray) (hd : s.down = false) : readS s p = ((old s.L p).data, mbf s.L p) := by
  unfold readS mbf kind old
  rw [hd, if_neg (by decide)]
  cases hf : find s.L p with
  | none => rfl
  | some x =>
    unfold kindOf
    simp only [Option.getD_some]
    by_cases hx : x.dir = true
    · rw [(hg.dirs x (find_mem hf).1 hx).1]
      simp [hx]
    · simp [hx]
set_option maxRecDepth 100000 in
set_option maxHeartbeats 1000000 in
theorem iRead_any (b bi bl : Nat) (l : Int) (s : St) (p : ByteArray) (w : World) (h : Ia b bi bl l w s) (hg : Good s) (hp : p.size ≤ 8000000000000) :
    Calls Tryz.prog 31 #[.pointer (some ⟨b, 0, none⟩), .string p] w fun e w' => e = .returned (.tuple #[.string (readS s p).1, .int .i64 ((readS s p).2 : Nat)]) ∧ Below w.heap.size w w' := by
  have cm := fun n => iMbf_any b bi bl l s p (w.drewN n) (h.below (below_drewN _ _)) hp
  have hl := fun n => (h.below (below_drewN w n)).look (maxLen_of hp)
  obtain ⟨c0, c1, c2, c3, c4, c5⟩ := h.cell
  have hro := read_old hg p
  have hrd : s.down = true → readS s p = (⟨#[]⟩, 14) := fun e => by unfold readS; rw [if_pos e]
  have f1 := fld1
  generalize (old s.L p).data = X0 at hl hro
  generalize (old s.L p).kept = X1 at hl
  generalize stOf (old s.L p) = X2 at hl
  generalize ((old s.L p).stamp : Int) = X3 at hl
  generalize kind s.L p = K at hl
  generalize mbf s.L p = M at cm hro
  generalize readS s p = R at hro hrd ⊢
  generalize s.down = D at c5 hro hrd
  clear h hg c1 c2 c3 c4
  have HB := Lib.hid (fun n => below_drewN w n)
  cases D with
  | true =>
    rw [hrd rfl]
    clear hro hrd cm hl
    go_enter Tryz.func31, Tryz.ntmps31
    go_wp2
    go_ret2
    exact ⟨rfl, Below.refl _ _⟩
  | false =>
    rw [hro rfl]
    clear hro hrd
    go_enter Tryz.func31, Tryz.ntmps31
    go_wp2_with fail
    have hl0 := hl
    go_quiet ((go_at_call 92; exact (cm _).mono (fun _ _ ⟨he, hw⟩ => ⟨he, _, hw.symm⟩)))
    go_wp2
    go_ret2
    exact ⟨rfl, HB.out _⟩
set_option maxRecDepth 100000 in
theorem iArm_any (b bi bl : Nat) (l : Int) (s : St) (m : Int) (w : World) (h : Ia b bi bl l w s) (hm : -9223372036854775808 ≤ m ∧ m ≤ 9223372036854775807) :
    Calls Tryz.prog 23 #[.pointer (some ⟨b, 0, none⟩), .int .i64 m] w fun e w' => e = .returned (.tuple #[]) ∧ Ip b bi bl w { s with armed := if m < 0 then -1 else m } w' := by
  have hc := h.cell
  have hw := h.warm
  have hlow := h.low
  obtain ⟨A, hA⟩ : ∃ A : Int, A = if m < 0 then -1 else m := ⟨_, rfl⟩
  have hAm : A = max m (-1) := by rw [hA]; split <;> omega
  rw [← hA]
  have a1 : Ia b bi bl A (w.setCell ⟨b, 2, none⟩ (.int .i64 A)) { s with armed := A } := h.poke (chg_set _) (own_cells h 2 _ rfl) rfl rfl (.inr rfl) (by omega)
  rw [hAm] at a1 ⊢
  have HE := Lib.hid (show Ip b bi bl w { s with armed := max m (-1) } (w.setCell ⟨b, 2, none⟩ (.int .i64 (max m (-1)))) from ⟨_, a1, (chg_set _).mono ft_b⟩)
  clear a1 h hA hAm
  obtain ⟨c0, c1, c2, c3, c4, c5⟩ := hc
  go_enter Tryz.func23, Tryz.ntmps23
  go_wp2
  go_end0
  exact ⟨rfl, HE.out⟩
set_option maxRecDepth 100000 in
theorem iNew_any (w : World) : Calls Tryz.prog 44 #[] w fun e w' => ∃ b bi bl, e = .returned (.pointer (some ⟨b, 0, none⟩)) ∧ Ia b bi bl (-1) w' newS ∧ (∀ i, Ft b bi bl i → w.heap.size ≤ i) ∧ Below w.heap.size w w' := by
  have hmm := @run_makeMap Tryz.prog
  have b1 := (Below.refl w.heap.size w).alloc (Nat.le_refl _) (.map #[] 0)
  have b2 := b1.alloc (by simp) (.map #[] 0)
  have b3 := b2.alloc (by simp; omega) (.cells #[.map (some w.heap.size), .map (some (w.heap.size + 1)), .int .i64 (-1), .int .i64 0, .int .i64 0, .bool false] 114)
  have hI : Ia (w.heap.size + 1 + 1) w.heap.size (w.heap.size + 1) (-1) (((w.alloc (.map #[] 0)).alloc (.map #[] 0)).alloc (.cells #[.map (some w.heap.size), .map (some (w.heap.size + 1)), .int .i64 (-1), .int .i64 0, .int .i64 0, .bool false] 114)) newS := by
    refine ⟨new_at _ _ (by simp), ?_, ?_, by omega, .inr rfl, by omega⟩
    · refine (mp_made w).kept ?_
      have := (((Below.refl _ (w.alloc (.map #[] 0))).alloc (Nat.le_refl _) (.map #[] 0)).alloc (by simp) (.cells #[.map (some w.heap.size), .map (some (w.heap.size + 1)), .int .i64 (-1), .int .i64 0, .int .i64 0, .bool false] 114)).block w.heap.size (by simp)
      exact this
    · have hl := lm_made (w.alloc (.map #[] 0))
      have e : (w.alloc (.map #[] 0)).heap.size = w.heap.size + 1 := by simp
      rw [e] at hl
      refine hl.kept ?_
      have := ((Below.refl _ ((w.alloc (.map #[] 0)).alloc (.map #[] 0))).alloc (Nat.le_refl _) (.cells #[.map (some w.heap.size), .map (some (w.heap.size + 1)), .int .i64 (-1), .int .i64 0, .int .i64 0, .bool false] 114)).block (w.heap.size + 1) (by simp)
      exact this
  have HE := Lib.hid (show ∃ b bi bl, (Ending.returned (.pointer (some ⟨w.heap.size + 1 + 1, 0, none⟩))) = .returned (.pointer (some ⟨b, 0, none⟩)) ∧ Ia b bi bl (-1) (((w.alloc (.map #[] 0)).alloc (.map #[] 0)).alloc (.cells #[.map (some w.heap.size), .map (some (w.heap.size + 1)), .int .i64 (-1), .int .i64 0, .int .i64 0, .bool false] 114)) newS ∧ (∀ i, Ft b bi bl i → w.heap.size ≤ i) ∧ Below w.heap.size w (((w.alloc (.map #[] 0)).alloc (.map #[] 0)).alloc (.cells #[.map (some w.heap.size), .map (some (w.heap.size + 1)), .int .i64 (-1), .int .i64 0, .int .i64 0, .bool false] 114)) from
    ⟨_, _, _, rfl, hI, fun i hi => by rcases hi with rfl | rfl | rfl <;> omega, b3⟩)
  clear hI b1 b2 b3
  go_enter Tryz.func44, Tryz.ntmps44
  go_wp2
  go_ret
  exact HE.out
end Go.Proofs.YtjdmbkkdnonkkaaGreat.Dk

namespace Go.Proofs.YtjdmbkkdnonkkaaGreat.Wl
open Go.RowKit Tx Pm Pl Pr Dk Fr
set_option linter.unusedVariables false
theorem does_of' {b bi bl : Nat} {w w' : World} {F : Nat → Prop} {r : Nat × St} {e : Ending} (hg : Dk.Good r.2) (hF : ∀ i, F i ↔ Ft b bi bl i) (h : e = .returned (.int .i64 (r.1 : Nat)) ∧ Ip b bi bl w r.2 w') : e = .returned (.int .i64 (r.1 : Nat)) ∧ Dk.Left (ImpAt b) w F r.2 w' := ⟨h.1, h.2.left hg hF⟩
section
variable {b : Nat} {F : Nat → Prop} {s : St} {w : World}
def Dos (O : World → (Nat → Prop) → St → Prop) (w : World) (F : Nat → Prop) (k : Nat) (s : St) (e : Ending) (w' : World) : Prop := e = .returned (.int .i64 (k : Nat)) ∧ Dk.Left O w F s w'
theorem iw_write {k : Nat} {s' : St} (P Q : ByteArray) (h : ImpAt b w F s) (ok : Ok s) (hP : P.size ≤ 8000000000000) (hQ : Q.size ≤ 1000000000000000000) (hk : writeS s P Q = (k, s')) : Calls Tryz.prog 130 #[.pointer (some ⟨b, 0, none⟩), .string P, .string Q] w (Dos (ImpAt b) w F k s') := by
  obtain ⟨bi, bl, l, hI, hg, hF⟩ := h
  have c := iWrite_any b bi bl l _ P Q _ hI hg ok hP hQ
  have hg' := good_write (p := P) (d := Q) hg
  rw [hk] at c hg'
  exact c.mono fun e w' ht => does_of' (r := (k, s')) hg' hF ht
theorem iw_append {k : Nat} {s' : St} (P Q : ByteArray) (h : ImpAt b w F s) (ok : Ok s) (hP : P.size ≤ 8000000000000) (hQ : Q.size ≤ 1000000000000000000) (hsz : (old s.L P).data.size + Q.size ≤ 1000000000000000000) (hk : appendS s P Q = (k, s')) : Calls Tryz.prog 28 #[.pointer (some ⟨b, 0, none⟩), .string P, .string Q] w (Dos (ImpAt b) w F k s') := by
  obtain ⟨bi, bl, l, hI, hg, hF⟩ := h
  have c := iAppend_any b bi bl l _ P Q _ hI hg ok hP hQ hsz
  have hg' := good_append (p := P) (d := Q) hg
  rw [hk] at c hg'
  exact c.mono fun e w' ht => does_of' (r := (k, s')) hg' hF ht
theorem iw_sync {k : Nat} {s' : St} (P : ByteArray) (h : ImpAt b w F s) (ok : Ok s) (hP : P.size ≤ 8000000000000) (hk : syncS s P = (k, s')) : Calls Tryz.prog 72 #[.pointer (some ⟨b, 0, none⟩), .string P] w (Dos (ImpAt b) w F k s') := by
  obtain ⟨bi, bl, l, hI, hg, hF⟩ := h
  have c := iSync_any b bi bl l _ P _ hI hg ok hP
  have hg' := good_sync (p := P) hg
  rw [hk] at c hg'
  exact c.mono fun e w' ht => does_of' (r := (k, s')) hg' hF ht
theorem iw_rename {k : Nat} {s' : St} (P Q : ByteArray) (h : ImpAt b w F s) (ok : Ok s) (hP : P.size ≤ 8000000000000) (hQ : Q.size ≤ 8000000000000) (hk : renameS s P Q = (k, s')) : Calls Tryz.prog 131 #[.pointer (some ⟨b, 0, none⟩), .string P, .string Q] w (Dos (ImpAt b) w F k s') := by
  obtain ⟨bi, bl, l, hI, hg, hF⟩ := h
  have c := iRename_any b bi bl l _ P Q _ hI hg ok hP hQ
  have hg' := good_rename (f := P) (t := Q) hg
  rw [hk] at c hg'
  exact c.mono fun e w' ht => does_of' (r := (k, s')) hg' hF ht
theorem iw_kind (P : ByteArray) (h : ImpAt b w F s) (hP : P.size ≤ 8000000000000) : Calls Tryz.prog 105 #[.pointer (some ⟨b, 0, none⟩), .string P] w fun e w' => e = .returned (.int .i64 (kind s.L P : Nat)) ∧ w = w' := by
  obtain ⟨bi, bl, l, hI, hg, hF⟩ := h
  exact iKind_any b bi bl l _ P _ hI hP
theorem iw_read (P : ByteArray) (h : ImpAt b w F s) (hP : P.size ≤ 8000000000000) : Calls Tryz.prog 31 #[.pointer (some ⟨b, 0, none⟩), .string P] w fun e w' => e = .returned (.tuple #[.string (readS s P).1, .int .i64 ((readS s P).2 : Nat)]) ∧ Below w.heap.size w w' := by
  obtain ⟨bi, bl, l, hI, hg, hF⟩ := h
  exact iRead_any b bi bl l _ P _ hI hg hP
end
theorem cat_size (p : ByteArray) : (p ++ tT).size = p.size + 2 := ByteArray.size_append
theorem fill_1 {s s1 : St} {p d : ByteArray} {k : Nat} (h1 : writeS s (p ++ tT) d = (k, s1)) (h : k ≠ 0) : fillS s p d = (k, s1) := by
  unfold fillS; rw [h1]; exact if_pos h
theorem fill_2 {s s1 s2 : St} {p d : ByteArray} {k : Nat} (h1 : writeS s (p ++ tT) d = (0, s1)) (h2 : syncS s1 (p ++ tT) = (k, s2)) (h : k ≠ 0) : fillS s p d = (k, s2) := by
  unfold fillS; rw [h1]; simp only [h2]; rw [if_neg (fun h => h rfl), if_pos h]
theorem fill_3 {s s1 s2 : St} {p d : ByteArray} (h1 : writeS s (p ++ tT) d = (0, s1)) (h2 : syncS s1 (p ++ tT) = (0, s2)) : fillS s p d = renameS s2 (p ++ tT) p := by
  unfold fillS; rw [h1]; simp only [h2]; rw [if_neg (fun h => h rfl), if_neg (fun h => h rfl)]
def FillOk (s : St) (p d : ByteArray) : Prop := Ok s ∧ Ok (writeS s (p ++ tT) d).2 ∧ Ok (syncS (writeS s (p ++ tT) d).2 (p ++ tT)).2
set_option maxRecDepth 100000 in
set_option maxHeartbeats 2000000 in
theorem iFill_any (b : Nat) {F : Nat → Prop} {s : St} (p d : ByteArray) (w : World) (h : ImpAt b w F s) (o : FillOk s p d) (hp : p.size ≤ 1000) (hd : d.size ≤ 1000000000000000000) :
    Calls Tryz.prog 75 #[.pointer (some ⟨b, 0, none⟩), .string p, .string d] w (Dos (ImpAt b) w F (fillS s p d).1 (fillS s p d).2) := by
  obtain ⟨o1, o2, o3⟩ := o
  have hcat := cat_size p
  obtain ⟨k1, s1, h1⟩ : ∃ k s1, writeS s (p ++ tT) d = (k, s1) := ⟨_, _, rfl⟩
  rw [h1] at o2 o3
  simp only at o2 o3
  obtain ⟨k2, s2, h2⟩ : ∃ k s2, syncS s1 (p ++ tT) = (k, s2) := ⟨_, _, rfl⟩
  rw [h2] at o3
  simp only at o3
  have c1 : Calls Tryz.prog 130 #[.pointer (some ⟨b, 0, none⟩), .string (p ++ ⟨#[95, 116]⟩), .string d] w (Dos (ImpAt b) w F k1 s1) := iw_write (p ++ tT) d h o1 (by omega) hd h1
  have c2 : ∀ {W F1}, ImpAt b W F1 s1 → Calls Tryz.prog 72 #[.pointer (some ⟨b, 0, none⟩), .string (p ++ ⟨#[95, 116]⟩)] W (Dos (ImpAt b) W F1 k2 s2) := fun {W F1} hW => iw_sync (p ++ tT) hW o2 (by omega) h2
  have c3 : ∀ {W F1}, ImpAt b W F1 s2 → Calls Tryz.prog 131 #[.pointer (some ⟨b, 0, none⟩), .string (p ++ ⟨#[95, 116]⟩), .string p] W (Dos (ImpAt b) W F1 (renameS s2 (p ++ tT) p).1 (renameS s2 (p ++ tT) p).2) := fun {W F1} hW => iw_rename (p ++ tT) p hW o3 (by omega) (by omega) rfl
  by_cases e1 : k1 ≠ 0
  · rw [fill_1 h1 e1]
    have n1 := Dk.ne_eq e1
    clear h o1 o2 o3 c2 c3 h1 h2 e1
    go_enter Tryz.func75, Tryz.ntmps75
    go_wp2_with fail
    go_at_call 130
    refine c1.mono ?_
    rintro e w1 ⟨rfl, hl1⟩
    go_wp2_with fail
    go_ret
    exact ⟨rfl, hl1⟩
  · obtain rfl : k1 = 0 := by omega
    by_cases e2 : k2 ≠ 0
    · rw [fill_2 h1 h2 e2]
      have n2 := Dk.ne_eq e2
      clear h o1 o2 o3 c3 h1 h2 e1 e2
      go_enter Tryz.func75, Tryz.ntmps75
      go_wp2_with fail
      go_at_call 130
      refine c1.mono ?_
      rintro e w1 ⟨rfl, F1, p1, q1, r1⟩
      go_wp2_with fail
      go_at_call 72
      refine (c2 p1).mono ?_
      rintro e w2 ⟨rfl, hl2⟩
      go_wp2_with fail
      go_ret
      exact ⟨rfl, left_trans q1 r1 hl2⟩
    · obtain rfl : k2 = 0 := by omega
      rw [fill_3 h1 h2]
      clear h o1 o2 o3 h1 h2 e1 e2
      go_enter Tryz.func75, Tryz.ntmps75
      go_wp2_with fail
      go_at_call 130
      refine c1.mono ?_
      rintro e w1 ⟨rfl, F1, p1, q1, r1⟩
      go_wp2_with fail
      go_at_call 72
      refine (c2 p1).mono ?_
      rintro e w2 ⟨rfl, hl2⟩
      obtain ⟨F2, p2, q2, r2⟩ := left_trans q1 r1 hl2
      go_wp2_with fail
      go_at_call 131
      refine (c3 p2).mono ?_
      rintro e w3 ⟨rfl, hl3⟩
      go_wp2_with fail
      go_ret
      exact ⟨rfl, left_trans q2 r2 hl3⟩
end Go.Proofs.YtjdmbkkdnonkkaaGreat.Wl

namespace Go.Proofs.YtjdmbkkdnonkkaaGreat.Wl
open Go.RowKit Tx Pm Dk Fr
set_option linter.unusedVariables false
def Two (j b : Nat) (p : ByteArray) (W : World) : Prop := W.cell? ⟨j, 0, none⟩ = some (.pointer (some ⟨b, 0, none⟩)) ∧ W.cell? ⟨j, 1, none⟩ = some (.string p)
theorem Two.below {j b : Nat} {p : ByteArray} {W W1 : World} (h : Two j b p W) (hb : Below W.heap.size W W1) : Two j b p W1 := by
  have hj := World.block_lt_of_cell? W _ h.1
  exact ⟨(hb.cell (p := ⟨j, 0, none⟩) hj).trans h.1, (hb.cell (p := ⟨j, 1, none⟩) hj).trans h.2⟩
set_option maxRecDepth 100000 in
set_option maxHeartbeats 2000000 in
theorem regIAdd (ops : Array Oper) (hops : ops = (Rg.opsOf Tryz.f19 3)) (id : Nat) (j b : Nat) (p r K : ByteArray) (k : Nat) {u2 u3 u4 u5 u6 u7 u8 u9 u10 u11 u12 u13 u14 u15 u16 u17 u18 u19 u20 u21 u22 u23 u24 u25 u26 u27 u28 u29 u30 u31 u32 u33 u34 u35 u36 u37 u38 u39 u40 u41 u42 u43 u44 : Value} (w : World) (B : World → Prop) (hS : Two j b p w.drew)
    (cp : ∀ W, Calls Tryz.prog 71 #[.string r] W fun e w' => e = .returned (.string K) ∧ Below W.heap.size W w')
    (ca : ∀ W, Below w.drew.heap.size w.drew W → Calls Tryz.prog 28 #[.pointer (some ⟨b, 0, none⟩), .string p, .string K] W fun e w' => e = .returned (.int .i64 (k : Nat)) ∧ B w') (hBS : ∀ W, B W → Two j b p W) :
    (Code.region id ops true).wp Tryz.prog (Rg.Only fun a' w' => a' = ⟨#[(.pointer (some ⟨j, 0, none⟩)), (.string r), u2, u3, u4, (.int .i64 (k : Nat)), u6, u7, u8, (.pointer (some ⟨j, 0, none⟩)), (.pointer (some ⟨j, 0, none⟩)), (.pointer (some ⟨j, 0, none⟩)), (.pointer (some ⟨b, 0, none⟩)), (.pointer (some ⟨j, 0, none⟩)), (.pointer (some ⟨j, 0, none⟩)), (.pointer (some ⟨j, 1, none⟩)), (.string p), (.string r), (.string K), (.int .i64 (k : Nat)), u20, u21, u22, u23, u24, u25, u26, u27, u28, u29, u30, u31, u32, u33, u34, u35, u36, u37, u38, u39, u40, u41, u42, u43, u44], []⟩ ∧ B w') ⟨#[(.pointer (some ⟨j, 0, none⟩)), (.string r), u2, u3, u4, u5, u6, u7, u8, u9, u10, u11, u12, u13, u14, u15, u16, u17, u18, u19, u20, u21, u22, u23, u24, u25, u26, u27, u28, u29, u30, u31, u32, u33, u34, u35, u36, u37, u38, u39, u40, u41, u42, u43, u44], []⟩ w := by
  subst hops
  have hNS : Region.noSelect (Rg.opsOf Tryz.f19 3) = true := by kernel_rfl
  refine wp_region_held_drew (S := Two j b p) (by kernel_rfl) hS (fun hHeld => ?_)
  rw [show (Rg.opsOf Tryz.f19 3).size = 12 by kernel_rfl]
  refine Rg.take (ops := (Rg.opsOf Tryz.f19 3)) 0 (some 9) ((.pointer (some ⟨j, 0, none⟩))) hNS (by kernel_rfl) (by kernel_rfl) (by kernel_rfl) (by kernel_rfl) (by kernel_rfl) hHeld (Rg.y_move (x := (Operand.tmp 0)) (Or.inl (by kernel_rfl)) (by kernel_rfl)) ?_
  refine Rg.take (ops := (Rg.opsOf Tryz.f19 3)) 1 (some 10) ((.pointer (some ⟨j, 0, none⟩))) hNS (by kernel_rfl) (by kernel_rfl) (by kernel_rfl) (by kernel_rfl) (by kernel_rfl) hHeld (Rg.y_nil (x := (Operand.tmp 9)) (by kernel_rfl) (by kernel_rfl)) ?_
  refine Rg.take (ops := (Rg.opsOf Tryz.f19 3)) 2 (some 11) ((.pointer (some ⟨j, 0, none⟩))) hNS (by kernel_rfl) (by kernel_rfl) (by kernel_rfl) (by kernel_rfl) (by kernel_rfl) hHeld (Rg.y_field (T := 105) (k := 0) (x := (Operand.tmp 10)) (vx := (.pointer (some ⟨j, 0, none⟩))) (by kernel_rfl) (by kernel_rfl) ?_) ?_
  · (intro w hSw; clear hSw; go_simp)
  refine Rg.take (ops := (Rg.opsOf Tryz.f19 3)) 3 (some 12) ((.pointer (some ⟨b, 0, none⟩))) hNS (by kernel_rfl) (by kernel_rfl) (by kernel_rfl) (by kernel_rfl) (by kernel_rfl) hHeld (Rg.y_load (T := 23) (x := (Operand.tmp 11)) (vx := (.pointer (some ⟨j, 0, none⟩))) (by kernel_rfl) (by kernel_rfl) ?_) ?_
  · (intro w hSw; obtain ⟨s0, s1⟩ := hSw; go_simp)
  refine Rg.take (ops := (Rg.opsOf Tryz.f19 3)) 4 (some 13) ((.pointer (some ⟨j, 0, none⟩))) hNS (by kernel_rfl) (by kernel_rfl) (by kernel_rfl) (by kernel_rfl) (by kernel_rfl) hHeld (Rg.y_move (x := (Operand.tmp 0)) (Or.inl (by kernel_rfl)) (by kernel_rfl)) ?_
  refine Rg.take (ops := (Rg.opsOf Tryz.f19 3)) 5 (some 14) ((.pointer (some ⟨j, 0, none⟩))) hNS (by kernel_rfl) (by kernel_rfl) (by kernel_rfl) (by kernel_rfl) (by kernel_rfl) hHeld (Rg.y_nil (x := (Operand.tmp 13)) (by kernel_rfl) (by kernel_rfl)) ?_
  refine Rg.take (ops := (Rg.opsOf Tryz.f19 3)) 6 (some 15) ((.pointer (some ⟨j, 1, none⟩))) hNS (by kernel_rfl) (by kernel_rfl) (by kernel_rfl) (by kernel_rfl) (by kernel_rfl) hHeld (Rg.y_field (T := 105) (k := 1) (x := (Operand.tmp 14)) (vx := (.pointer (some ⟨j, 0, none⟩))) (by kernel_rfl) (by kernel_rfl) ?_) ?_
  · (intro w hSw; clear hSw; go_simp)
  refine Rg.take (ops := (Rg.opsOf Tryz.f19 3)) 7 (some 16) ((.string p)) hNS (by kernel_rfl) (by kernel_rfl) (by kernel_rfl) (by kernel_rfl) (by kernel_rfl) hHeld (Rg.y_load (T := 9) (x := (Operand.tmp 15)) (vx := (.pointer (some ⟨j, 1, none⟩))) (by kernel_rfl) (by kernel_rfl) ?_) ?_
  · (intro w hSw; obtain ⟨s0, s1⟩ := hSw; go_simp)
  refine Rg.take (ops := (Rg.opsOf Tryz.f19 3)) 8 (some 17) ((.string r)) hNS (by kernel_rfl) (by kernel_rfl) (by kernel_rfl) (by kernel_rfl) (by kernel_rfl) hHeld (Rg.y_move (x := (Operand.tmp 1)) (Or.inl (by kernel_rfl)) (by kernel_rfl)) ?_
  refine Rg.call (ops := (Rg.opsOf Tryz.f19 3)) (fn := Tryz.f71) (xs := #[Operand.tmp 17]) (ats := #[9]) 9 (some 18) 71 #[(.string r)] (by kernel_rfl) (by kernel_rfl) (by kernel_rfl) (by kernel_rfl) (by kernel_rfl) Tryz.func71 (by kernel_rfl) (by kernel_rfl) (by kernel_rfl) ?_
  refine (cp _).mono ?_
  rintro e w5 ⟨rfl, hb5⟩
  refine ⟨_, rfl, hS.below hb5, fun hHeld => ?_⟩
  refine Rg.call (ops := (Rg.opsOf Tryz.f19 3)) (fn := Tryz.f28) (xs := #[Operand.tmp 12, Operand.tmp 16, Operand.tmp 18]) (ats := #[23, 9, 9]) 10 (some 19) 28 #[(.pointer (some ⟨b, 0, none⟩)), (.string p), (.string K)] (by kernel_rfl) (by kernel_rfl) (by kernel_rfl) (by kernel_rfl) (by kernel_rfl) Tryz.func28 (by kernel_rfl) (by kernel_rfl) (by kernel_rfl) ?_
  refine (ca _ hb5).mono ?_
  rintro e w6 ⟨rfl, hB6⟩
  refine ⟨_, rfl, hBS _ hB6, fun hHeld => ?_⟩
  refine Rg.take (ops := (Rg.opsOf Tryz.f19 3)) 11 (some 5) ((.int .i64 (k : Nat))) hNS (by kernel_rfl) (by kernel_rfl) (by kernel_rfl) (by kernel_rfl) (by kernel_rfl) hHeld (Rg.y_move (x := (Operand.tmp 19)) (Or.inr (by kernel_rfl)) (by kernel_rfl)) ?_
  refine Rg.done (ops := (Rg.opsOf Tryz.f19 3)) (by kernel_rfl) ?_
  exact ⟨by kernel_rfl, hB6⟩
set_option maxRecDepth 100000 in
set_option maxHeartbeats 2000000 in
theorem regRAdd (ops : Array Oper) (hops : ops = (Rg.opsOf Tryz.f20 1)) (id : Nat) (j b : Nat) (p r K : ByteArray) (k : Nat) {u2 u3 u4 u5 u6 u7 u8 u9 u10 u11 u12 u13 u14 u15 u16 u17 u18 u19 u20 u21 u22 u23 u24 u25 u26 u27 u28 u29 u30 u31 u32 u33 u34 u35 u36 u37 u38 u39 u40 : Value} (w : World) (B : World → Prop) (hS : Two j b p w.drew)
    (cp : ∀ W, Calls Tryz.prog 73 #[.string r] W fun e w' => e = .returned (.string K) ∧ Below W.heap.size W w')
    (ca : ∀ W, Below w.drew.heap.size w.drew W → Calls Tryz.prog 29 #[.pointer (some ⟨b, 0, none⟩), .string p, .string K] W fun e w' => e = .returned (.int .i64 (k : Nat)) ∧ B w') (hBS : ∀ W, B W → Two j b p W) :
    (Code.region id ops true).wp Tryz.prog (Rg.Only fun a' w' => a' = ⟨#[(.pointer (some ⟨j, 0, none⟩)), (.string r), u2, u3, u4, (.int .i64 (k : Nat)), (.pointer (some ⟨j, 0, none⟩)), (.pointer (some ⟨j, 0, none⟩)), (.pointer (some ⟨j, 0, none⟩)), (.pointer (some ⟨b, 0, none⟩)), (.pointer (some ⟨j, 0, none⟩)), (.pointer (some ⟨j, 0, none⟩)), (.pointer (some ⟨j, 1, none⟩)), (.string p), (.string r), (.string K), (.int .i64 (k : Nat)), u17, u18, u19, u20, u21, u22, u23, u24, u25, u26, u27, u28, u29, u30, u31, u32, u33, u34, u35, u36, u37, u38, u39, u40], []⟩ ∧ B w') ⟨#[(.pointer (some ⟨j, 0, none⟩)), (.string r), u2, u3, u4, u5, u6, u7, u8, u9, u10, u11, u12, u13, u14, u15, u16, u17, u18, u19, u20, u21, u22, u23, u24, u25, u26, u27, u28, u29, u30, u31, u32, u33, u34, u35, u36, u37, u38, u39, u40], []⟩ w := by
  subst hops
  have hNS : Region.noSelect (Rg.opsOf Tryz.f20 1) = true := by kernel_rfl
  refine wp_region_held_drew (S := Two j b p) (by kernel_rfl) hS (fun hHeld => ?_)
  rw [show (Rg.opsOf Tryz.f20 1).size = 12 by kernel_rfl]
  refine Rg.take (ops := (Rg.opsOf Tryz.f20 1)) 0 (some 6) ((.pointer (some ⟨j, 0, none⟩))) hNS (by kernel_rfl) (by kernel_rfl) (by kernel_rfl) (by kernel_rfl) (by kernel_rfl) hHeld (Rg.y_move (x := (Operand.tmp 0)) (Or.inl (by kernel_rfl)) (by kernel_rfl)) ?_
  refine Rg.take (ops := (Rg.opsOf Tryz.f20 1)) 1 (some 7) ((.pointer (some ⟨j, 0, none⟩))) hNS (by kernel_rfl) (by kernel_rfl) (by kernel_rfl) (by kernel_rfl) (by kernel_rfl) hHeld (Rg.y_nil (x := (Operand.tmp 6)) (by kernel_rfl) (by kernel_rfl)) ?_
  refine Rg.take (ops := (Rg.opsOf Tryz.f20 1)) 2 (some 8) ((.pointer (some ⟨j, 0, none⟩))) hNS (by kernel_rfl) (by kernel_rfl) (by kernel_rfl) (by kernel_rfl) (by kernel_rfl) hHeld (Rg.y_field (T := 60) (k := 0) (x := (Operand.tmp 7)) (vx := (.pointer (some ⟨j, 0, none⟩))) (by kernel_rfl) (by kernel_rfl) ?_) ?_
  · (intro w hSw; clear hSw; go_simp)
  refine Rg.take (ops := (Rg.opsOf Tryz.f20 1)) 3 (some 9) ((.pointer (some ⟨b, 0, none⟩))) hNS (by kernel_rfl) (by kernel_rfl) (by kernel_rfl) (by kernel_rfl) (by kernel_rfl) hHeld (Rg.y_load (T := 25) (x := (Operand.tmp 8)) (vx := (.pointer (some ⟨j, 0, none⟩))) (by kernel_rfl) (by kernel_rfl) ?_) ?_
  · (intro w hSw; obtain ⟨s0, s1⟩ := hSw; go_simp)
  refine Rg.take (ops := (Rg.opsOf Tryz.f20 1)) 4 (some 10) ((.pointer (some ⟨j, 0, none⟩))) hNS (by kernel_rfl) (by kernel_rfl) (by kernel_rfl) (by kernel_rfl) (by kernel_rfl) hHeld (Rg.y_move (x := (Operand.tmp 0)) (Or.inl (by kernel_rfl)) (by kernel_rfl)) ?_
  refine Rg.take (ops := (Rg.opsOf Tryz.f20 1)) 5 (some 11) ((.pointer (some ⟨j, 0, none⟩))) hNS (by kernel_rfl) (by kernel_rfl) (by kernel_rfl) (by kernel_rfl) (by kernel_rfl) hHeld (Rg.y_nil (x := (Operand.tmp 10)) (by kernel_rfl) (by kernel_rfl)) ?_
  refine Rg.take (ops := (Rg.opsOf Tryz.f20 1)) 6 (some 12) ((.pointer (some ⟨j, 1, none⟩))) hNS (by kernel_rfl) (by kernel_rfl) (by kernel_rfl) (by kernel_rfl) (by kernel_rfl) hHeld (Rg.y_field (T := 60) (k := 1) (x := (Operand.tmp 11)) (vx := (.pointer (some ⟨j, 0, none⟩))) (by kernel_rfl) (by kernel_rfl) ?_) ?_
  · (intro w hSw; clear hSw; go_simp)
  refine Rg.take (ops := (Rg.opsOf Tryz.f20 1)) 7 (some 13) ((.string p)) hNS (by kernel_rfl) (by kernel_rfl) (by kernel_rfl) (by kernel_rfl) (by kernel_rfl) hHeld (Rg.y_load (T := 9) (x := (Operand.tmp 12)) (vx := (.pointer (some ⟨j, 1, none⟩))) (by kernel_rfl) (by kernel_rfl) ?_) ?_
  · (intro w hSw; obtain ⟨s0, s1⟩ := hSw; go_simp)
  refine Rg.take (ops := (Rg.opsOf Tryz.f20 1)) 8 (some 14) ((.string r)) hNS (by kernel_rfl) (by kernel_rfl) (by kernel_rfl) (by kernel_rfl) (by kernel_rfl) hHeld (Rg.y_move (x := (Operand.tmp 1)) (Or.inl (by kernel_rfl)) (by kernel_rfl)) ?_
  refine Rg.call (ops := (Rg.opsOf Tryz.f20 1)) (fn := Tryz.f73) (xs := #[Operand.tmp 14]) (ats := #[9]) 9 (some 15) 73 #[(.string r)] (by kernel_rfl) (by kernel_rfl) (by kernel_rfl) (by kernel_rfl) (by kernel_rfl) Tryz.func73 (by kernel_rfl) (by kernel_rfl) (by kernel_rfl) ?_
  refine (cp _).mono ?_
  rintro e w5 ⟨rfl, hb5⟩
  refine ⟨_, rfl, hS.below hb5, fun hHeld => ?_⟩
  refine Rg.call (ops := (Rg.opsOf Tryz.f20 1)) (fn := Tryz.f29) (xs := #[Operand.tmp 9, Operand.tmp 13, Operand.tmp 15]) (ats := #[25, 9, 9]) 10 (some 16) 29 #[(.pointer (some ⟨b, 0, none⟩)), (.string p), (.string K)] (by kernel_rfl) (by kernel_rfl) (by kernel_rfl) (by kernel_rfl) (by kernel_rfl) Tryz.func29 (by kernel_rfl) (by kernel_rfl) (by kernel_rfl) ?_
  refine (ca _ hb5).mono ?_
  rintro e w6 ⟨rfl, hB6⟩
  refine ⟨_, rfl, hBS _ hB6, fun hHeld => ?_⟩
  refine Rg.take (ops := (Rg.opsOf Tryz.f20 1)) 11 (some 5) ((.int .i64 (k : Nat))) hNS (by kernel_rfl) (by kernel_rfl) (by kernel_rfl) (by kernel_rfl) (by kernel_rfl) hHeld (Rg.y_move (x := (Operand.tmp 16)) (Or.inr (by kernel_rfl)) (by kernel_rfl)) ?_
  refine Rg.done (ops := (Rg.opsOf Tryz.f20 1)) (by kernel_rfl) ?_
  exact ⟨by kernel_rfl, hB6⟩
end Go.Proofs.YtjdmbkkdnonkkaaGreat.Wl

namespace Go.Proofs.YtjdmbkkdnonkkaaGreat.Wl
open Go.RowKit Tx Pm Pl Pr Dk Fr
set_option linter.unusedVariables false
theorem add_1 {x : Jst} {p r : ByteArray} {k : Nat} {s1 : St} (h1 : appendS x.s p (Fm.pk r) = (k, s1)) (h : k ≠ 0) : addS x p r = (k, ⟨s1, x.R, x.dm⟩) := by
  unfold addS; rw [h1]; exact if_pos h
theorem add_2 {x : Jst} {p r : ByteArray} {k : Nat} {s1 s2 : St} (h1 : appendS x.s p (Fm.pk r) = (0, s1)) (h2 : syncS s1 p = (k, s2)) (h : k ≠ 0) : addS x p r = (k, ⟨s2, x.R, x.dm⟩) := by
  unfold addS; rw [h1]; simp only [h2]; rw [if_neg (fun h => h rfl), if_pos h]
theorem add_3 {x : Jst} {p r : ByteArray} {s1 s2 : St} (h1 : appendS x.s p (Fm.pk r) = (0, s1)) (h2 : syncS s1 p = (0, s2)) : addS x p r = (0, ⟨s2, x.R ++ [r], x.dm⟩) := by
  unfold addS; rw [h1]; simp only [h2]; rw [if_neg (fun h => h rfl), if_neg (fun h => h rfl)]
def AddOk (x : Jst) (p r : ByteArray) : Prop := Ok x.s ∧ Ok (appendS x.s p (Fm.pk r)).2 ∧ (old x.s.L p).data.size + (Fm.pk r).size ≤ 1000000000000000000 ∧ r.size ≤ 140737488355300 ∧ x.R.length ≤ 10000000000
theorem JAt.two {O : World → (Nat → Prop) → St → Prop} {T : TypeId} {b j : Nat} {p : ByteArray} {v : Value} {Fd : Nat → Prop} {w : World} {F : Nat → Prop} {x : Jst} (h : JAt O T b j p v Fd w F x) : Two j b p w := ⟨h.cell.1, h.cell.2.1⟩
theorem Mid.two {O : World → (Nat → Prop) → St → Prop} {T : TypeId} {b j : Nat} {p : ByteArray} {v : Value} {w W : World} {F : Nat → Prop} {x : Jst} (h : Mid O T b j p v w F x W) : Two j b p W := by
  obtain ⟨_, _, q, _⟩ := h
  exact q.two
theorem Mid.call {O : World → (Nat → Prop) → St → Prop} (k : Dk.Kind O) {T : TypeId} {b j : Nat} {p : ByteArray} {v : Value} {w W : World} {F : Nat → Prop} {x : Jst} {s' : St} {n : Nat} {f : FuncId} {args : Array Value} (h : Mid O T b j p v w F x W)
    (hc : ∀ {Fd}, O W Fd x.s → Calls Tryz.prog f args W (Dos O W Fd n s')) : Calls Tryz.prog f args W fun e w' => e = .returned (.int .i64 (n : Nat)) ∧ Mid O T b j p v w F ⟨s', x.R, x.dm⟩ w' := by
  obtain ⟨Fd, F', q, h1, h2⟩ := h
  refine (hc q.dsk).mono ?_
  rintro e w' ⟨rfl, hl⟩
  obtain ⟨Fd2, F2, q2, c2, n2⟩ := q.disk_left k hl
  exact ⟨rfl, Mid.trans h1 h2 ⟨Fd2, F2, q2, c2, n2⟩⟩
theorem own_form {w : World} {B size n : Nat} {e : TypeId} {v : Value} {xs : List Value} (h : w.ownsRow B e size v n xs) : ∃ a c, v = .slice a n c := by
  rcases h.2 with ⟨rfl, h0⟩ | ⟨g, cap, cur, rfl, _⟩
  · exact ⟨none, 0, by rw [h0]⟩
  · exact ⟨_, _, rfl⟩
theorem info9 : (Tryz.prog.info? 9).map (fun i => (i.zero, i.size, i.bytes)) = some (some (.string ⟨#[]⟩), 1, 16) := by kernel_rfl
theorem JAt.grown {O : World → (Nat → Prop) → St → Prop} (k : Dk.Kind O) {T : TypeId} {b j : Nat} {p r : ByteArray} {v v' : Value} {Fd : Nat → Prop} {w w0 w1 : World} {F : Nat → Prop} {x : Jst} (h : JAt O T b j p v Fd w F x) (hb : Below w.heap.size w w0)
    (hown : w1.ownsRow 0 9 1 v' (x.R.length + 1) (x.R.map Fr.sv ++ [Fr.sv r])) (hg : (v'.ownBlock = v.ownBlock ∧ w0.grownBy w1 v.ownBlock) ∨ (v'.ownBlock = some w0.heap.size ∧ w0.grownBy w1 none)) :
    (w1.cell? ⟨j, 2, none⟩ = some v ∧ w1.frozen? ⟨j, 2, none⟩ = false) ∧ LeftA (Jn O T b j p) w F ⟨x.s, x.R ++ [r], x.dm⟩ (w1.setCell ⟨j, 2, none⟩ v') := by
  have hj : j < w.heap.size := (Array.getElem?_eq_some_iff.1 h.blk).1
  have hj0 : j < w0.heap.size := Nat.lt_of_lt_of_le hj hb.size
  have hc : Chg (fun i => v.ownBlock = some i) w w1 := by
    rcases hg with ⟨_, g⟩ | ⟨_, g⟩
    · obtain ⟨g1, g2, g3, g4, g5⟩ := g
      exact ⟨g1.trans hb.os, g2.trans hb.tape, g3.trans hb.output, Nat.le_trans hb.size g4, fun i hi hn => (g5 i (Nat.lt_of_lt_of_le hi hb.size) (fun e => hn e.symm)).trans (hb.block i hi)⟩
    · obtain ⟨g1, g2, g3, g4, g5⟩ := g
      exact ⟨g1.trans hb.os, g2.trans hb.tape, g3.trans hb.output, Nat.le_trans hb.size g4, fun i hi hn => (g5 i (Nat.lt_of_lt_of_le hi hb.size) (by simp)).trans (hb.block i hi)⟩
  have hblk : w1.heap[j]? = _ := (hc.block j hj h.ne).trans h.blk
  have hvj : v'.ownBlock ≠ some j := by
    rcases hg with ⟨e, _⟩ | ⟨e, _⟩
    · rw [e]; exact h.ne
    · rw [e]; intro e2; injection e2 with e2; omega
  refine ⟨⟨by unfold World.cell?; rw [hblk]; rfl, by unfold World.frozen?; rw [hblk]; simp⟩, ?_⟩
  refine Mid.left (h.poke k (v' := v') (w1 := w1.setCell ⟨j, 2, none⟩ v') ((hc.mono (fun i hi => .inr hi)).trans ((chg_set (b := j) (k := 2) v').mono (fun i hi => Or.inl hi)) (fun i hi => .inl hi)) ?_ ?_ ?_)
  · rw [set_block hblk]
    rfl
  · have ht : Fr.Texts w1 0 v' (x.R ++ [r]) := by
      unfold Fr.Texts
      rw [List.length_append, List.map_append]
      exact hown
    exact own_kept ht (fun g hgb => set_other v' (fun e => hvj (e ▸ hgb)))
  · intro i hi
    rcases hg with ⟨e, _⟩ | ⟨e, _⟩
    · exact .inl (by rw [← e]; exact hi)
    · rw [e] at hi; injection hi with hi; exact .inr (by rw [← hi]; exact hb.size)
set_option maxRecDepth 100000 in
set_option maxHeartbeats 2000000 in
theorem iAdd_any (b j : Nat) {F Fd : Nat → Prop} {x : Jst} {v : Value} (p r : ByteArray) (w : World) (h : JAt (ImpAt b) 105 b j p v Fd w F x) (o : AddOk x p r) (hp : p.size ≤ 1000) :
    Calls Tryz.prog 19 #[.pointer (some ⟨j, 0, none⟩), .string r] w fun e w' => e = .returned (.int .i64 ((addS x p r).1 : Nat)) ∧ LeftA (Jn (ImpAt b) 105 b j p) w F (addS x p r).2 w' := by
  obtain ⟨o1, o2, o3, o4, o5⟩ := o
  obtain ⟨a0, c0, hform, _⟩ := h.row.form
  have kk := imp_kind b
  have hpk := Fm.pk_size r
  obtain ⟨k1, s1, h1⟩ : ∃ k s1, appendS x.s p (Fm.pk r) = (k, s1) := ⟨_, _, rfl⟩
  rw [h1] at o2
  simp only at o2
  obtain ⟨k2, s2, h2⟩ : ∃ k s2, syncS s1 p = (k, s2) := ⟨_, _, rfl⟩
  have cp := fun W => fPack_any r W o4
  have ca : ∀ W, Below w.drew.heap.size w.drew W → Calls Tryz.prog 28 #[.pointer (some ⟨b, 0, none⟩), .string p, .string (Fm.pk r)] W fun e w' => e = .returned (.int .i64 (k1 : Nat)) ∧ Mid (ImpAt b) 105 b j p v w F ⟨s1, x.R, x.dm⟩ w' := fun W hW =>
    (Mid.of kk h (below_call (Below.refl w.heap.size w).drew hW)).call kk (fun hd => iw_append p (Fm.pk r) hd o1 (by omega) (by omega) o3 h1)
  have cs : ∀ W, Mid (ImpAt b) 105 b j p v w F ⟨s1, x.R, x.dm⟩ W → Calls Tryz.prog 72 #[.pointer (some ⟨b, 0, none⟩), .string p] W.drew fun e w' => e = .returned (.int .i64 (k2 : Nat)) ∧ Mid (ImpAt b) 105 b j p v w F ⟨s2, x.R, x.dm⟩ w' := fun W hW => by
    obtain ⟨Fd', F', q, q2, q3⟩ := hW
    exact (Mid.trans q2 q3 (Mid.of kk q (Below.refl _ W).drew)).call (x := ⟨s1, x.R, x.dm⟩) kk (fun hd => iw_sync p hd o2 (by omega) h2)
  have hS := (h.below kk (Below.refl w.heap.size w).drew).two
  have hBS := fun W (hW : Mid (ImpAt b) 105 b j p v w F ⟨s1, x.R, x.dm⟩ W) => hW.two
  have HS := Lib.hid hS
  have HCA := Lib.hid ca
  have HCS := Lib.hid cs
  have HBS := Lib.hid hBS
  generalize hK : Fm.pk r = K at cp ca HCA h1
  by_cases e1 : k1 ≠ 0
  · rw [add_1 (by rw [hK]; exact h1) e1]
    have n1 := Dk.ne_eq e1
    clear h o1 o2 o3 h1 h2 e1 hS ca cs hBS hK hpk
    go_enter Tryz.func19, Tryz.ntmps19
    go_wp2_with fail
    refine Rg.wp_only ?_ (regIAdd _ (by kernel_rfl) _ j b p r K k1 _ _ HS.out cp HCA.out HBS.out)
    rintro _ w9 ⟨rfl, hB9⟩
    go_wp2_with fail
    go_ret
    exact ⟨rfl, hB9.left⟩
  · obtain rfl : k1 = 0 := by omega
    by_cases e2 : k2 ≠ 0
    · rw [add_2 (by rw [hK]; exact h1) h2 e2]
      have n2 := Dk.ne_eq e2
      clear h o1 o2 o3 h1 h2 e1 e2 hS ca cs hBS hK hpk
      go_enter Tryz.func19, Tryz.ntmps19
      go_wp2_with fail
      refine Rg.wp_only ?_ (regIAdd _ (by kernel_rfl) _ j b p r K 0 _ _ HS.out cp HCA.out HBS.out)
      rintro _ w9 ⟨rfl, hB9⟩
      obtain ⟨t0, t1⟩ := hB9.two
      have c9 := HCS.out _ hB9
      go_wp2_with fail
      go_still_tail 8, (by kernel_rfl)
      change wpList _ _ _ _ _ w9.drew
      go_wp2_with (go_at_call 72; refine c9.mono ?_; rintro e w5 ⟨rfl, h5⟩)
      go_ret
      exact ⟨rfl, h5.left⟩
    · obtain rfl : k2 = 0 := by omega
      rw [add_3 (by rw [hK]; exact h1) h2]
      clear h o1 o2 o3 h1 h2 e1 e2 hS ca cs hBS hK hpk
      obtain ⟨i0, hi, hz0, hz1, hz2⟩ := info_parts info9
      obtain ⟨n0, hn0⟩ : ∃ n0, n0 = x.R.length := ⟨_, rfl⟩
      rw [← hn0] at hform o5
      have HN0 := Lib.hid hn0
      subst hform
      clear hn0
      go_enter Tryz.func19, Tryz.ntmps19
      go_wp2_with fail
      refine Rg.wp_only ?_ (regIAdd _ (by kernel_rfl) _ j b p r K 0 _ _ HS.out cp HCA.out HBS.out)
      rintro _ w9 ⟨rfl, hB9⟩
      obtain ⟨t0, t1⟩ := hB9.two
      have c9 := HCS.out _ hB9
      go_wp2_with fail
      go_still_tail 8, (by kernel_rfl)
      change wpList _ _ _ _ _ w9.drew
      go_wp2_with fail
      go_at_call 72
      refine c9.mono ?_
      rintro e w5 ⟨rfl, Fd5, F5, q5, k5, n5⟩
      obtain ⟨t50, t51, t52, t53⟩ := q5.cell
      have hrow := q5.row
      unfold Fr.Texts at hrow
      have HQ := Lib.hid q5
      clear q5
      rw [← HN0.out] at hrow
      go_wp2_with (at_builtin; refine Ap.wpList_append_two _ rfl _ _ 56 rfl 0 9 i0 (.string ⟨#[]⟩) 1 16 Tryz.underlying56 hi hz0 hz1 hz2 rfl (by decide) (by decide) _ _ _ rfl (hrow.alloc _) ⟨w5.heap.size, 0, none⟩ 1 [Fr.sv r] rfl rfl ?c1 ?c2 ?c3 ?c4 ?c5 ?_)
      case c1 => exact cell_one_new _ _ _
      case c2 => exact Fr.sv_one [r]
      case c3 => omega
      case c4 => omega
      case c5 => exact Nat.zero_le _
      intro v' w6 hown hg
      obtain ⟨a6, c6, rfl⟩ := own_form hown
      obtain ⟨⟨g1, g2⟩, hfin⟩ := HQ.out.grown (r := r) kk ((Below.refl _ w5).alloc (Nat.le_refl _) (.cells #[.string r] 9)) (by rw [← HN0.out]; exact hown) (by rw [World.size_alloc]; exact hg)
      have HFIN := Lib.hid (hfin.trans k5 n5)
      clear hown hg hrow hfin
      go_wp2_with fail
      go_ret
      exact ⟨rfl, HFIN.out⟩
end Go.Proofs.YtjdmbkkdnonkkaaGreat.Wl

namespace Go.Proofs.YtjdmbkkdnonkkaaGreat.Wl
open Go.RowKit Tx Pm Pl Pr Dk Fr
set_option linter.unusedVariables false
theorem scf_le (s : ByteArray) : ∀ (f a : Nat), a ≤ s.size → (Fm.scf s f a).2.1 ≤ s.size
  | 0, a, h => h
  | f + 1, a, h => by
    by_cases hl : a < s.size
    · obtain ⟨t, n, e, h2⟩ := Fm.trip (Fm.fr (s.extract a s.size))
      by_cases he : e = 0
      · subst he
        have hn := (Fm.fr_ok h2).2.2.1
        have hs : (s.extract a s.size).size = s.size - a := by simp
        rw [Fm.scf_one f hl h2]
        exact scf_le s f (a + n) (by omega)
      · rw [Fm.scf_bad f hl h2 he]
        exact h
    · rw [Fm.scf_end _ hl]
      exact h
theorem sc_le (s : ByteArray) : (Fm.sc s 0).2.1 ≤ s.size := scf_le s _ 0 (Nat.zero_le _)
theorem own_zero {w : World} {B size n : Nat} {e : TypeId} {v : Value} {xs : List Value} (h : w.ownsRow B e size v n xs) : w.ownsRow 0 e size v n xs := by
  refine ⟨h.1, ?_⟩
  rcases h.2 with h0 | ⟨g, cap, cur, hv, hg, r⟩
  · exact .inl h0
  · exact .inr ⟨g, cap, cur, hv, Nat.zero_le _, r⟩
theorem own_base {w : World} {B size n i : Nat} {e : TypeId} {v : Value} {xs : List Value} (h : w.ownsRow B e size v n xs) (hi : v.ownBlock = some i) : B ≤ i := by
  rcases h.2 with ⟨rfl, h0⟩ | ⟨g, cap, cur, rfl, hg, r⟩
  · cases hi
  · have e : g = i := by simpa [Value.ownBlock] using hi
    omega
set_option maxRecDepth 100000 in
set_option maxHeartbeats 2000000 in
theorem iReset_any (b j : Nat) {F Fd : Nat → Prop} {x : Jst} {v : Value} (p : ByteArray) (w : World) (h : JAt (ImpAt b) 105 b j p v Fd w F x) (o : FillOk x.s p ⟨#[]⟩) (hp : p.size ≤ 1000) :
    Calls Tryz.prog 21 #[.pointer (some ⟨j, 0, none⟩)] w fun e w' => e = .returned (.int .i64 ((resetS x p).1 : Nat)) ∧ LeftA (Jn (ImpAt b) 105 b j p) w F (resetS x p).2 w' := by
  have kk := imp_kind b
  obtain ⟨k1, s1, h1⟩ : ∃ k s1, fillS x.s p ⟨#[]⟩ = (k, s1) := ⟨_, _, rfl⟩
  have hM := Mid.of kk h (Below.refl w.heap.size w).drew
  have c1 : Calls Tryz.prog 75 #[.pointer (some ⟨b, 0, none⟩), .string p, .string ⟨#[]⟩] w.drew fun e w' => e = .returned (.int .i64 (k1 : Nat)) ∧ Mid (ImpAt b) 105 b j p v w F ⟨s1, x.R, x.dm⟩ w' := hM.call kk (fun hd => by
    have := iFill_any b p ⟨#[]⟩ w.drew hd o hp (by decide)
    rw [h1] at this
    exact this)
  obtain ⟨t0, t1, _, _⟩ := h.cell
  have hr : resetS x p = if k1 ≠ 0 then (k1, ⟨s1, x.R, x.dm⟩) else (0, ⟨s1, [], x.dm⟩) := by
    unfold resetS
    rw [h1]
  by_cases e1 : k1 ≠ 0
  · rw [hr, if_pos e1]
    have n1 := Dk.ne_eq e1
    clear h o hM e1 h1 hr
    go_enter Tryz.func21, Tryz.ntmps21
    go_wp2_with fail
    go_still_tail 8, (by kernel_rfl)
    change wpList _ _ _ _ _ w.drew
    go_wp2_with fail
    go_at_call 75
    refine c1.mono ?_
    rintro e w5 ⟨rfl, h5⟩
    go_wp2_with fail
    go_ret
    exact ⟨rfl, h5.left⟩
  · obtain rfl : k1 = 0 := by omega
    rw [hr, if_neg (fun h => h rfl)]
    clear h o hM e1 h1 hr
    go_enter Tryz.func21, Tryz.ntmps21
    go_wp2_with fail
    go_still_tail 8, (by kernel_rfl)
    change wpList _ _ _ _ _ w.drew
    go_wp2_with fail
    go_at_call 75
    refine c1.mono ?_
    rintro e w5 ⟨rfl, Fd5, F5, q5, k5, n5⟩
    obtain ⟨t50, t51, t52, t53⟩ := q5.cell
    have hwm := q5.warm 2
    have hfin : LeftA (Jn (ImpAt b) 105 b j p) w F ⟨s1, [], x.dm⟩ (w5.setCell ⟨j, 2, none⟩ (.slice none 0 0)) := by
      refine LeftA.trans k5 n5 (Mid.left (q5.poke kk (v' := .slice none 0 0) ((chg_set (b := j) (k := 2) (.slice none 0 0)).mono (fun i hi => Or.inl hi)) ?_ (World.ownsRow_nil _ _ _ _) (fun i hi => by cases hi)))
      rw [set_block q5.blk]
      rfl
    have HF := Lib.hid hfin
    clear q5 k5 n5 hfin
    go_wp2_with fail
    go_ret
    exact ⟨rfl, HF.out⟩
theorem same_belowW {w w' : World} (h : w = w') : Below w.heap.size w w' := by
  subst h
  exact Below.refl _ _
def OpenOk (s : St) (p : ByteArray) : Prop := (kind s.L p = 0 → FillOk s p ⟨#[]⟩) ∧ (kind s.L p ≠ 0 → (readS s p).1.size ≤ 1000000000000000000 ∧ (Fm.sc (readS s p).1 0).1.length ≤ 10000000000 ∧ ((Fm.sc (readS s p).1 0).2.2 ≠ 0 → FillOk s p ((readS s p).1.extract 0 (Fm.sc (readS s p).1 0).2.1)))
theorem open_0 {s s1 : St} {p : ByteArray} {k : Nat} (h : kind s.L p = 0) (h1 : fillS s p ⟨#[]⟩ = (k, s1)) : openS s p = (k, ⟨s1, [], false⟩) := by
  unfold openS; rw [if_pos h, h1]
theorem open_1 {s : St} {p t : ByteArray} {k : Nat} (h : kind s.L p ≠ 0) (h1 : readS s p = (t, k)) (hk : k ≠ 0) : openS s p = (k, ⟨s, [], false⟩) := by
  unfold openS; rw [if_neg h, h1]; exact if_pos hk
theorem open_2 {s : St} {p t : ByteArray} {R : List ByteArray} {g : Nat} (h : kind s.L p ≠ 0) (h1 : readS s p = (t, 0)) (h2 : Fm.sc t 0 = (R, g, 0)) : openS s p = (0, ⟨s, R, false⟩) := by
  unfold openS; rw [if_neg h, h1]; simp only [h2]; rfl
theorem open_3 {s s1 : St} {p t : ByteArray} {R : List ByteArray} {g e k : Nat} (h : kind s.L p ≠ 0) (h1 : readS s p = (t, 0)) (h2 : Fm.sc t 0 = (R, g, e)) (he : e ≠ 0) (h3 : fillS s p (t.extract 0 g) = (k, s1)) : openS s p = (k, ⟨s1, R, bad e⟩) := by
  unfold openS; rw [if_neg h, h1]; simp only [h2]; rw [if_neg (by show ¬ (0 ≠ 0); decide), if_neg he, h3]
theorem JAt.scanned {O : World → (Nat → Prop) → St → Prop} (k : Dk.Kind O) {T : TypeId} {b j : Nat} {p : ByteArray} {v : Value} {Fd : Nat → Prop} {w w2 : World} {F : Nat → Prop} {s : St} {dm : Bool} {R : List ByteArray} {B : Nat} (h : JAt O T b j p (.slice none 0 0) Fd w F ⟨s, [], false⟩) (hb : Below w.heap.size w w2) (hr : Fr.Texts w2 B v R) (hB : w.heap.size ≤ B) :
    (w2.cell? ⟨j, 2, none⟩ = some (.slice none 0 0) ∧ w2.frozen? ⟨j, 2, none⟩ = false) ∧ ((w2.setCell ⟨j, 2, none⟩ v).cell? ⟨j, 3, none⟩ = some (.bool false) ∧ (w2.setCell ⟨j, 2, none⟩ v).frozen? ⟨j, 3, none⟩ = false) ∧
    Mid O T b j p v w F ⟨s, R, dm⟩ ((w2.setCell ⟨j, 2, none⟩ v).setCell ⟨j, 3, none⟩ (.bool dm)) := by
  have hj : j < w.heap.size := (Array.getElem?_eq_some_iff.1 h.blk).1
  have hblk := (hb.block j hj).trans h.blk
  have hblk3 : (w2.setCell ⟨j, 2, none⟩ v).heap[j]? = some (.cells #[.pointer (some ⟨b, 0, none⟩), .string p, v, .bool false] T (0, 0)) := by
    rw [set_block hblk]
    rfl
  have hvj : v.ownBlock ≠ some j := fun e => by
    have := own_base hr e
    omega
  refine ⟨⟨by unfold World.cell?; rw [hblk]; rfl, by unfold World.frozen?; rw [hblk]; simp⟩, ⟨by unfold World.cell?; rw [hblk3]; rfl, by unfold World.frozen?; rw [hblk3]; simp⟩, ?_⟩
  refine h.poke k (v' := v) (((Chg.of_below hb).trans (F := fun i => i = j ∨ (Value.slice none 0 0).ownBlock = some i) ((chg_set (b := j) (k := 2) v).mono (fun i hi => Or.inl hi)) (fun i hi => .inl hi)).then ((chg_set (b := j) (k := 3) (.bool dm)).mono (fun i hi => Or.inl hi))) ?_ ?_ ?_
  · rw [set_block hblk3]
    rfl
  · exact own_kept (own_kept (own_zero hr) (fun g hg => set_other v (fun e => hvj (by rw [← e]; exact hg)))) (fun g hg => set_other _ (fun e => hvj (by rw [← e]; exact hg)))
  · intro i hi
    have := own_base hr hi
    exact .inr (by omega)
set_option maxRecDepth 100000 in
set_option maxHeartbeats 4000000 in
theorem iBegin_any (b j : Nat) {F Fd : Nat → Prop} {s : St} (p : ByteArray) (w : World) (h : JAt (ImpAt b) 105 b j p (.slice none 0 0) Fd w F ⟨s, [], false⟩) (o : OpenOk s p) (hp : p.size ≤ 1000) :
    Calls Tryz.prog 68 #[.pointer (some ⟨j, 0, none⟩)] w fun e w' => e = .returned (.int .i64 ((openS s p).1 : Nat)) ∧ LeftA (Jn (ImpAt b) 105 b j p) w F (openS s p).2 w' := by
  have kk := imp_kind b
  obtain ⟨o1, o2⟩ := o
  have hd1 := (Below.refl w.heap.size w).drew
  have ck := (iw_kind p (h.below kk hd1).dsk (by omega)).mono fun e w' (hh : _ ∧ w.drew = w') => (⟨hh.1, same_belowW hh.2⟩ : _ ∧ Below w.drew.heap.size w.drew w')
  obtain ⟨t0, t1, _, _⟩ := h.cell
  have hcl : ∀ W, Below w.drew.heap.size w.drew W → W.cell? ⟨j, 0, none⟩ = some (.pointer (some ⟨b, 0, none⟩)) ∧ W.cell? ⟨j, 1, none⟩ = some (.string p) := fun W hW => (h.below kk (below_call hd1 hW)).two
  have HCL := Lib.hid hcl
  clear hcl
  by_cases hk : kind s.L p = 0
  · obtain ⟨k1, s1, h1⟩ : ∃ k s1, fillS s p ⟨#[]⟩ = (k, s1) := ⟨_, _, rfl⟩
    rw [open_0 hk h1]
    have c1 : ∀ W, Below w.drew.heap.size w.drew W → Calls Tryz.prog 75 #[.pointer (some ⟨b, 0, none⟩), .string p, .string ⟨#[]⟩] W.drew fun e w' => e = .returned (.int .i64 (k1 : Nat)) ∧ Mid (ImpAt b) 105 b j p (.slice none 0 0) w F ⟨s1, [], false⟩ w' := fun W hW => (Mid.of kk h (below_call hd1 hW.drew)).call kk (fun hd => by
      have := iFill_any b p ⟨#[]⟩ W.drew hd (o1 hk) hp (by decide)
      rw [h1] at this
      exact this)
    rw [hk] at ck
    clear h o1 o2 hk h1 hd1
    go_enter Tryz.func68, Tryz.ntmps68
    go_wp2_with fail
    go_still_tail 8, (by kernel_rfl)
    change wpList _ _ _ _ _ w.drew
    go_wp2_with fail
    go_at_call 105
    refine ck.mono ?_
    rintro e w4 ⟨rfl, hb4⟩
    obtain ⟨u0, u1⟩ := HCL.out _ hb4
    go_wp2_with fail
    go_still_tail 8, (by kernel_rfl)
    change wpList _ _ _ _ _ w4.drew
    go_wp2_with fail
    go_at_call 75
    refine (c1 _ hb4).mono ?_
    rintro e w5 ⟨rfl, h5⟩
    go_wp2_with fail
    go_ret
    exact ⟨rfl, h5.left⟩
  · have nk := Dk.ne_eq hk
    obtain ⟨q1, q2, q3⟩ := o2 hk
    obtain ⟨t, k, hrd⟩ : ∃ t k, readS s p = (t, k) := ⟨_, _, rfl⟩
    have hd2 : ∀ W, Below w.drew.heap.size w.drew W → Below w.heap.size w W.drew := fun W hW => below_call hd1 hW.drew
    have cr := fun W hW => iw_read p (h.below kk (hd2 W hW)).dsk (by omega)
    rw [hrd] at q1 q2 q3 cr
    simp only at q1 q2 q3 cr
    by_cases hk0 : k ≠ 0
    · rw [open_1 hk hrd hk0]
      have n0 := Dk.ne_eq hk0
      have hfin : ∀ W4 W, Below w.drew.heap.size w.drew W4 → Below W4.drew.heap.size W4.drew W → LeftA (Jn (ImpAt b) 105 b j p) w F ⟨s, [], false⟩ W := fun W4 W h4 hW => (Mid.of kk h (below_call (hd2 _ h4) hW)).left
      have HF := Lib.hid hfin
      generalize kind s.L p = K at ck nk
      clear h o1 o2 hk hd1 hd2 hfin hrd hk0 q1 q2 q3
      go_enter Tryz.func68, Tryz.ntmps68
      go_wp2_with fail
      go_still_tail 8, (by kernel_rfl)
      change wpList _ _ _ _ _ w.drew
      go_wp2_with fail
      go_at_call 105
      refine ck.mono ?_
      rintro e w4 ⟨rfl, hb4⟩
      obtain ⟨u0, u1⟩ := HCL.out _ hb4
      go_wp2_with fail
      go_region_with (go_at_call 31; refine (cr _ hb4).mono ?_; rintro e w5 ⟨rfl, h5⟩)
      all_goals
        go_wp2_with fail
        go_ret
        exact ⟨rfl, HF.out _ _ hb4 h5⟩
    · obtain rfl : k = 0 := by omega
      obtain ⟨R, g, e, hsc⟩ := Fm.trip (Fm.sc t 0)
      have hgl := sc_le t
      have cs := fun W => Fr.fScan_w t W q1 q2
      unfold Fr.ScanTo at cs
      rw [hsc] at q2 q3 hgl cs
      simp only at q2 q3 hgl cs
      have hcell : ∀ W, Below w.heap.size w W → W.cell? ⟨j, 0, none⟩ = some (.pointer (some ⟨b, 0, none⟩)) ∧ W.cell? ⟨j, 1, none⟩ = some (.string p) := fun W hW => (h.below kk hW).two
      have HC := Lib.hid hcell
      have HD2 := Lib.hid hd2
      have HH := Lib.hid h
      have HN := Lib.hid (show R.length ≤ 10000000000 from q2)
      by_cases he : e = 0
      · subst he
        rw [open_2 hk hrd hsc]
        generalize kind s.L p = K at ck nk
        clear h o1 o2 hk hd1 hd2 hrd hk0 q1 q2 q3 hsc hcell
        go_enter Tryz.func68, Tryz.ntmps68
        go_wp2_with fail
        go_still_tail 8, (by kernel_rfl)
        change wpList _ _ _ _ _ w.drew
        go_wp2_with fail
        go_at_call 105
        refine ck.mono ?_
        rintro e w4 ⟨rfl, hb4⟩
        obtain ⟨u0, u1⟩ := HCL.out _ hb4
        go_wp2_with fail
        go_region_with (go_at_call 31; refine (cr _ hb4).mono ?_; rintro e w5 ⟨rfl, h5⟩)
        all_goals
          have hb5 := below_call (HD2.out _ hb4) h5
          go_wp2_with fail
          go_at_call 124
          refine (cs _).mono ?_
          rintro e w6 ⟨v, rfl, htx, hb6'⟩
          have hb6 := below_call hb5 hb6'
          obtain ⟨⟨g1, g2⟩, ⟨g3, g4⟩, hfin⟩ := HH.out.scanned kk (dm := false) hb6 htx hb5.size
          obtain ⟨a6, c6, hv⟩ := own_form htx
          obtain ⟨n6, hn6⟩ : ∃ n6, n6 = R.length := ⟨_, rfl⟩
          rw [← hn6] at hv
          have HFIN := Lib.hid hfin
          clear hn6 htx hfin hb6' h5
          subst hv
          go_wp2_with fail
          go_ret
          exact ⟨rfl, HFIN.out.left⟩
      · have hfk := q3 he
        obtain ⟨k1, s1, h1⟩ : ∃ k s1, fillS s p (t.extract 0 g) = (k, s1) := ⟨_, _, rfl⟩
        rw [open_3 hk hrd hsc he h1]
        have hxs : (t.extract 0 g).size ≤ 1000000000000000000 := by rw [ByteArray.size_extract]; omega
        have c1 : ∀ (v : Value) (dm : Bool) (W : World), Mid (ImpAt b) 105 b j p v w F ⟨s, R, dm⟩ W → Calls Tryz.prog 75 #[.pointer (some ⟨b, 0, none⟩), .string p, .string (t.extract 0 g)] W fun e w' => e = .returned (.int .i64 (k1 : Nat)) ∧ Mid (ImpAt b) 105 b j p v w F ⟨s1, R, dm⟩ w' := fun v dm W hW => hW.call (x := ⟨s, R, dm⟩) kk (fun hd => by
          have := iFill_any b p (t.extract 0 g) W hd hfk hp hxs
          rw [h1] at this
          exact this)
        have HC1 := Lib.hid c1
        have ne0 := Dk.ne_eq he
        have hgz : (g : Int) ≤ (t.size : Int) := by omega
        have hts : (t.size : Int) ≤ 1000000000000000000 := by omega
        have hbad : bad e = (decide (e = 6) || decide (e = 3)) := rfl
        generalize kind s.L p = K at ck nk
        clear h o1 o2 hk hd1 hd2 hrd hk0 q1 q2 q3 hsc hcell hfk h1 hxs c1
        have n6 : ((e : Int) == 6) = decide (e = 6) := by by_cases h : e = 6 <;> simp [h]; omega
        have n3 : ((e : Int) == 3) = decide (e = 3) := by by_cases h : e = 3 <;> simp [h]; omega
        rw [hbad]
        clear hbad he
        generalize decide (e = 6) = b6 at n6 ⊢
        generalize decide (e = 3) = b3 at n3 ⊢
        go_enter Tryz.func68, Tryz.ntmps68
        go_wp2_with fail
        go_still_tail 8, (by kernel_rfl)
        change wpList _ _ _ _ _ w.drew
        go_wp2_with fail
        go_at_call 105
        refine ck.mono ?_
        rintro e w4 ⟨rfl, hb4⟩
        obtain ⟨u0, u1⟩ := HCL.out _ hb4
        go_wp2_with fail
        go_region_with (go_at_call 31; refine (cr _ hb4).mono ?_; rintro e w5 ⟨rfl, h5⟩)
        all_goals
          have hb5 := below_call (HD2.out _ hb4) h5
          go_wp2_with fail
          go_at_call 124
          refine (cs _).mono ?_
          rintro e w6 ⟨v, rfl, htx, hb6'⟩
          have hb6 := below_call hb5 hb6'
          obtain ⟨⟨g1, g2⟩, ⟨g3, g4⟩, hfin⟩ := HH.out.scanned kk (dm := b6 || b3) hb6 htx hb5.size
          have htwo := hfin.two
          obtain ⟨t60, t61⟩ := htwo
          have hfd := hfin.below kk (Below.refl _ _).drew
          have c6 := HC1.out _ _ _ hfd
          obtain ⟨a6, cp6, hv⟩ := own_form htx
          obtain ⟨m6, hm6⟩ : ∃ m6, m6 = R.length := ⟨_, rfl⟩
          rw [← hm6] at hv
          clear hm6 htx hfin hb6' h5 hfd
          subst hv
          cases b6
          · cases b3
            · rw [show (false || false) = false from rfl] at t60 t61 c6
              go_wp2_with fail
              generalize (w6.setCell { block := j, off := 2 } (Value.slice a6 m6 cp6)).setCell { block := j, off := 3 } (Value.bool false) = W7 at t60 t61 c6 ⊢
              go_still_tail 11, (by kernel_rfl)
              change wpList _ _ _ _ _ W7.drew
              go_wp2_with fail
              go_at_call 75
              refine c6.mono ?_
              rintro e w7 ⟨rfl, h7⟩
              go_wp2_with fail
              go_ret
              exact ⟨rfl, h7.left⟩
            · rw [show (false || true) = true from rfl] at t60 t61 c6
              go_wp2_with fail
              generalize (w6.setCell { block := j, off := 2 } (Value.slice a6 m6 cp6)).setCell { block := j, off := 3 } (Value.bool true) = W7 at t60 t61 c6 ⊢
              go_still_tail 11, (by kernel_rfl)
              change wpList _ _ _ _ _ W7.drew
              go_wp2_with fail
              go_at_call 75
              refine c6.mono ?_
              rintro e w7 ⟨rfl, h7⟩
              go_wp2_with fail
              go_ret
              exact ⟨rfl, h7.left⟩
          · cases b3
            · rw [show (true || false) = true from rfl] at t60 t61 c6
              go_wp2_with fail
              generalize (w6.setCell { block := j, off := 2 } (Value.slice a6 m6 cp6)).setCell { block := j, off := 3 } (Value.bool true) = W7 at t60 t61 c6 ⊢
              go_still_tail 11, (by kernel_rfl)
              change wpList _ _ _ _ _ W7.drew
              go_wp2_with fail
              go_at_call 75
              refine c6.mono ?_
              rintro e w7 ⟨rfl, h7⟩
              go_wp2_with fail
              go_ret
              exact ⟨rfl, h7.left⟩
            · rw [show (true || true) = true from rfl] at t60 t61 c6
              go_wp2_with fail
              generalize (w6.setCell { block := j, off := 2 } (Value.slice a6 m6 cp6)).setCell { block := j, off := 3 } (Value.bool true) = W7 at t60 t61 c6 ⊢
              go_still_tail 11, (by kernel_rfl)
              change wpList _ _ _ _ _ W7.drew
              go_wp2_with fail
              go_at_call 75
              refine c6.mono ?_
              rintro e w7 ⟨rfl, h7⟩
              go_wp2_with fail
              go_ret
              exact ⟨rfl, h7.left⟩
end Go.Proofs.YtjdmbkkdnonkkaaGreat.Wl

namespace Go.Proofs.YtjdmbkkdnonkkaaGreat.Wl
open Go.RowKit Tx Pm Pl Pr Dk Fr
set_option linter.unusedVariables false
def OpenTo (O : World → (Nat → Prop) → St → Prop) (T : TypeId) (b : Nat) (p : ByteArray) (w : World) (F : Nat → Prop) (r : Nat × Jst) (e : Ending) (w' : World) : Prop :=
  (r.1 = 0 ∧ ∃ j, e = .returned (.tuple #[.pointer (some ⟨j, 0, none⟩), .int .i64 0]) ∧ LeftA (Jn O T b j p) w F r.2 w') ∨ (r.1 ≠ 0 ∧ e = .returned (.tuple #[.pointer none, .int .i64 (r.1 : Nat)]) ∧ Dk.Left O w F r.2.s w')
theorem jn_disk {O : World → (Nat → Prop) → St → Prop} {T : TypeId} {b j : Nat} {p : ByteArray} {w w' : World} {F : Nat → Prop} {x : Jst} (h : LeftA (Jn O T b j p) w F x w') : Dk.Left O w F x.s w' := by
  obtain ⟨F', ⟨v, Fd, h1⟩, h2, h3⟩ := h
  exact ⟨Fd, h1.dsk, h2, fun g hg => h3 g ((h1.foot g).2 (.inl hg))⟩
theorem jat_new {O : World → (Nat → Prop) → St → Prop} (k : Dk.Kind O) (T : TypeId) (b : Nat) (p : ByteArray) {w : World} {F : Nat → Prop} {s : St} (h : O w F s) :
    JAt O T b w.heap.size p (.slice none 0 0) F (w.alloc (.cells #[.pointer (some ⟨b, 0, none⟩), .string p, .slice none 0 0, .bool false] T)) (fun i => F i ∨ i = w.heap.size) ⟨s, [], false⟩ :=
  ⟨k.kept h (fun i hi => ((Below.refl w.heap.size w).alloc (Nat.le_refl _) _).block i (k.lt h i hi)), new_at w _ rfl, World.ownsRow_nil _ _ _ _, (fun e => by cases e), fun i hi => ⟨fun e => by have := k.lt h i hi; omega, fun e => by cases e⟩, fun i => ⟨fun hh => hh.imp id (fun e => .inl e), fun hh => by rcases hh with hh | hh | hh; exact .inl hh; exact .inr hh; cases hh⟩⟩
theorem left_new {O : World → (Nat → Prop) → St → Prop} {T : TypeId} {b : Nat} {p : ByteArray} {w W : World} {F : Nat → Prop} {x : Jst} {o : Obj} (h : LeftA (Jn O T b w.heap.size p) (w.alloc o) (fun i => F i ∨ i = w.heap.size) x W) : LeftA (Jn O T b w.heap.size p) w F x W :=
  h.trans (F := F) (Chg.of_below ((Below.refl w.heap.size w).alloc (Nat.le_refl _) o)) (fun g hg => hg.imp id (fun e => Nat.le_of_eq e.symm))
set_option maxRecDepth 100000 in
set_option maxHeartbeats 2000000 in
theorem iOpen_any (b : Nat) {F : Nat → Prop} {s : St} (p : ByteArray) (w : World) (h : ImpAt b w F s) (o : OpenOk s p) (hp : p.size ≤ 1000) :
    Calls Tryz.prog 17 #[.pointer (some ⟨b, 0, none⟩), .string p] w (OpenTo (ImpAt b) 105 b p w F (openS s p)) := by
  have hJ := jat_new (imp_kind b) 105 b p h
  have c := iBegin_any b w.heap.size p _ hJ o hp
  obtain ⟨k, x, hx⟩ : ∃ k x, openS s p = (k, x) := ⟨_, _, rfl⟩
  rw [hx] at c ⊢
  simp only at c
  have hl : ∀ W, LeftA (Jn (ImpAt b) 105 b w.heap.size p) (w.alloc (.cells #[.pointer (some ⟨b, 0, none⟩), .string p, .slice none 0 0, .bool false] 105)) (fun i => F i ∨ i = w.heap.size) x W → LeftA (Jn (ImpAt b) 105 b w.heap.size p) w F x W := fun W hh => left_new hh
  have HL := Lib.hid hl
  by_cases h0 : k ≠ 0
  · have n0 := Dk.ne_eq h0
    have H0 := Lib.hid h0
    clear h hJ o hx hl h0
    go_enter Tryz.func17, Tryz.ntmps17
    go_wp2_with fail
    go_at_call 68
    refine c.mono ?_
    rintro e w5 ⟨rfl, h5⟩
    go_wp2_with fail
    go_ret2
    unfold OpenTo
    exact .inr ⟨H0.out, rfl, jn_disk (HL.out _ h5)⟩
  · obtain rfl : k = 0 := by omega
    clear h hJ o hx hl h0
    go_enter Tryz.func17, Tryz.ntmps17
    go_wp2_with fail
    go_at_call 68
    refine c.mono ?_
    rintro e w5 ⟨rfl, h5⟩
    go_wp2_with fail
    go_ret2
    unfold OpenTo
    exact .inl ⟨rfl, _, rfl, HL.out _ h5⟩
theorem iDamaged_any (O : World → (Nat → Prop) → St → Prop) (b j : Nat) {F Fd : Nat → Prop} {x : Jst} {v : Value} (p : ByteArray) (w : World) (h : JAt O 105 b j p v Fd w F x) :
    Calls Tryz.prog 35 #[.pointer (some ⟨j, 0, none⟩)] w fun e w' => e = .returned (.bool x.dm) ∧ w = w' := by
  obtain ⟨_, _, _, t3⟩ := h.cell
  generalize x.dm = dm at t3 ⊢
  clear h
  go_enter Tryz.func35, Tryz.ntmps35
  go_wp2_with fail
  go_ret
  exact ⟨rfl, rfl⟩
set_option maxRecDepth 100000 in
set_option maxHeartbeats 2000000 in
theorem clone_any (a : Option Addr) (n c : Nat) (l : List ByteArray) (w : World) (h : Fr.Texts w 0 (.slice a n c) l) (hn : n = l.length) (hl : n ≤ 10000000000) :
    Calls Tryz.prog 93 #[.slice a n c] w fun e w' => ∃ v', e = .returned v' ∧ Fr.Texts w' w.heap.size v' l ∧ Below w.heap.size w w' := by
  subst hn
  rcases h.2 with ⟨he, h0⟩ | ⟨g, cap, cur, he, hg, hh, hnc, hcm, _⟩
  · injection he with e1 e2 e3
    subst e1 e3
    have hl0 : l = [] := List.eq_nil_of_length_eq_zero h0
    subst hl0
    clear h h0 e2 hl
    have q24 : ∀ (w : World) (a : Option Addr) (n c n' c' : Nat), (binOp .eql 56 (.slice a n c) (.slice none n' c')).run Tryz.prog w = .ok (.bool a.isNone) w := fun w a n c n' c' => Lib.run_eql_slice_nil w _ _ a n c n' c' Tryz.underlying56
    go_enter Tryz.func93, Tryz.ntmps93
    go_wp2_with fail
    go_ret
    exact ⟨_, rfl, World.ownsRow_nil _ _ _ _, Below.refl _ _⟩
  · injection he with e1 e2 e3
    subst e1 e3
    obtain ⟨i0, hi, hz0, hz1, hz2⟩ := info_parts info9
    have hcells := h.cells (g := g) rfl
    obtain ⟨n, hn⟩ : ∃ n, n = l.length := ⟨_, rfl⟩
    have HN := Lib.hid hn
    have HCC := Lib.hid hcells
    rw [← hn] at hl ⊢
    clear h hh e2 hcells hn hnc hcm
    have q24 : ∀ (w : World) (a : Option Addr) (n c n' c' : Nat), (binOp .eql 56 (.slice a n c) (.slice none n' c')).run Tryz.prog w = .ok (.bool a.isNone) w := fun w a n c n' c' => Lib.run_eql_slice_nil w _ _ a n c n' c' Tryz.underlying56
    go_enter Tryz.func93, Tryz.ntmps93
    go_wp2_with (at_builtin; refine wpList_append_own _ rfl _ _ 56 rfl w.heap.size 9 i0 (.string { data := #[] }) 1 16 Tryz.underlying56 hi hz0 hz1 hz2 rfl (by decide) _ _ _ rfl (World.ownsRow_made w #[] 0 (Nat.le_refl _) (Nat.zero_le _) rfl) ⟨g, 0, none⟩ n c (l.map Fr.sv) rfl ?qc1 ?qc2 ?qc3 ?qc4 ?qc5 ?qc6 ?_)
    case qc1 => rw [List.length_map, ← HN.out, Nat.mul_one]
    case qc2 =>
      intro k u hk
      refine Lib.cell?_alloc_some _ ?_
      exact HCC.out k u hk
    case qc3 => exact Fr.sv_one l
    case qc4 => unfold maxLen; omega
    case qc5 => omega
    case qc6 => simp
    intro v' w1 hown hgrow hnil
    obtain ⟨a1, c1, rfl⟩ := own_form hown
    have hfin : Fr.Texts w1 w.heap.size (.slice a1 n c1) l := by
      unfold Fr.Texts
      rw [← HN.out]
      exact hown
    have hbel : Below w.heap.size w w1 := ((Below.refl _ w).alloc (Nat.le_refl _) _).grown hgrow (by simp) (by intro k hk; simp [Value.ownBlock] at hk; omega)
    have HF := Lib.hid hfin
    have HB := Lib.hid hbel
    clear hown hgrow hnil hfin hbel
    go_wp2_with fail
    go_ret
    exact ⟨_, rfl, HF.out, HB.out⟩
set_option maxRecDepth 100000 in
theorem iRecords_any {O : World → (Nat → Prop) → St → Prop} (k : Dk.Kind O) (b j : Nat) {F Fd : Nat → Prop} {x : Jst} {v : Value} (p : ByteArray) (w : World) (h : JAt O 105 b j p v Fd w F x) (hl : x.R.length ≤ 10000000000) :
    Calls Tryz.prog 33 #[.pointer (some ⟨j, 0, none⟩)] w fun e w' => ∃ v', e = .returned v' ∧ Fr.Texts w' w.heap.size v' x.R ∧ Below w.heap.size w w' := by
  obtain ⟨_, _, t2, _⟩ := h.cell
  obtain ⟨a, c, hv, _⟩ := h.row.form
  obtain ⟨n, hn⟩ : ∃ n, n = x.R.length := ⟨_, rfl⟩
  rw [← hn] at hv hl
  have cc := fun W (hW : Fr.Texts W 0 v x.R) => by
    rw [hv] at hW
    exact clone_any a n c x.R W hW hn hl
  have hrow := h.row
  have ct := cc w hrow
  have HN := Lib.hid hn
  clear h hrow cc hn
  subst hv
  go_enter Tryz.func33, Tryz.ntmps33
  go_wp2_with fail
  go_at_call 93
  refine ct.mono ?_
  rintro e w5 ⟨v5, rfl, h5, hb5⟩
  obtain ⟨a5, c5, hv5, _⟩ := h5.form
  rw [← HN.out] at hv5
  have H5 := Lib.hid h5
  clear h5
  subst hv5
  go_wp2_with fail
  go_ret
  exact ⟨_, rfl, H5.out, hb5⟩
end Go.Proofs.YtjdmbkkdnonkkaaGreat.Wl

namespace Go.Proofs.YtjdmbkkdnonkkaaGreat.Dk
open Go.RowKit Tx Pm
set_option linter.unusedVariables false
structure Reads (O : World → (Nat → Prop) → St → Prop) (v : Value) (f : Fin 5 → FuncId) : Prop where
  read : ∀ {w F s i T} (P : ByteArray), O w F s → Far s i T → P.size ≤ 1048576 → Calls Tryz.prog (f 0) #[v, .string P] w fun e w' => e = .returned (.tuple #[.string (readS s P).1, .int .i64 ((readS s P).2 : Nat)]) ∧ Below w.heap.size w w'
  kind : ∀ {w F s i T} (P : ByteArray), O w F s → Far s i T → P.size ≤ 1048576 → Calls Tryz.prog (f 1) #[v, .string P] w fun e w' => e = .returned (.int .i64 (kind s.L P : Nat)) ∧ Below w.heap.size w w'
  stamp : ∀ {w F s i T} (P : ByteArray), O w F s → Far s i T → P.size ≤ 1048576 → Calls Tryz.prog (f 2) #[v, .string P] w fun e w' => e = .returned (.int .i64 (stampS s P : Nat)) ∧ Below w.heap.size w w'
  used : ∀ {w F s i T} (P : ByteArray), O w F s → Far s i T → P.size ≤ 1048576 → Calls Tryz.prog (f 3) #[v, .string P] w fun e w' => e = .returned (.int .i64 (used s.L P : Nat)) ∧ Below w.heap.size w w'
  list : ∀ {w F s i T} (P : ByteArray), O w F s → Far s i T → P.size ≤ 1048576 → Calls Tryz.prog (f 4) #[v, .string P] w (ListTo (list s.L P) w)
end Go.Proofs.YtjdmbkkdnonkkaaGreat.Dk



namespace Go.Proofs.YtjdmbkkdnonkkaaGreat.Tx
open Go.RowKit
set_option linter.unusedVariables false
theorem below_drewN {B : Nat} {a w : World} (h : Below B a w) (n : Nat) : Below B a (w.drewN n) := ⟨h.os, h.tape, h.output, h.size, h.block⟩
set_option maxRecDepth 100000 in
set_option maxHeartbeats 1000000 in
theorem same_true (a b : Option Addr) (n ca cb : Nat) (l : List ByteArray) (w : World) (hn : n ≤ 9223372036854775807) (ha : Strs w a n l) (hb : Strs w b n l) :
    Calls Tryz.prog 34 #[.slice a n ca, .slice b n cb] w fun e w' => e = .returned (.bool true) ∧ Below w.heap.size w w' := by
  by_cases h0 : n = 0
  · subst h0
    clear ha hb
    go_enter Tryz.func34, Tryz.ntmps34
    go_wp2_with fail
    go_loop [5] (fun i => i = .int .i64 0) (fun _ => 0)
    case atStart => exact rfl
    case round =>
      obtain rfl := hrel
      go_wp2_with fail
      go_ret
      exact ⟨rfl, Below.refl _ _⟩
  · obtain ⟨hl, ha⟩ := ha
    obtain ⟨ba, oa, rfl, hba, hca⟩ := ha.resolve_left h0
    obtain ⟨bb, ob, rfl, hbb, hcb⟩ := hb.2.resolve_left h0
    have HA := Lib.hid hca
    have HB := Lib.hid hcb
    clear hca hcb ha hb h0
    go_enter Tryz.func34, Tryz.ntmps34
    go_wp2_with fail
    go_loopw [5] (fun i wr => ∃ k : Nat, k ≤ n ∧ i = .int .i64 k ∧ Below w.heap.size w wr) (fun i _ => n - (intOf i).toNat)
    case atStart => exact ⟨0, Nat.zero_le _, rfl, Below.refl _ _⟩
    case round =>
      obtain ⟨k, hk, rfl, hB⟩ := hrel
      by_cases hlt : k < n
      · have c1 := (hB.cell (p := ⟨ba, oa + k, none⟩) hba).trans (HA.out k l[k] (List.getElem?_eq_getElem (by omega)))
        have c2 := (hB.cell (p := ⟨bb, ob + k, none⟩) hbb).trans (HB.out k l[k] (List.getElem?_eq_getElem (by omega)))
        obtain ⟨S, hS⟩ : ∃ S, S = l[k] := ⟨_, rfl⟩
        rw [← hS] at c1 c2
        clear hS hl
        have hlt1 : (k : Int) < (n : Int) := by omega
        go_wp2_with fail
        go_quiet (fail)
        go_wp2_with fail
        go_roundw
        case rel => exact ⟨k + 1, by omega, by go_num, below_drewN hB _⟩
        case measure => simp [intOf]; omega
      · go_wp2_with fail
        go_ret
        exact ⟨rfl, hB⟩
end Go.Proofs.YtjdmbkkdnonkkaaGreat.Tx

namespace Go.Proofs.YtjdmbkkdnonkkaaGreat.Aq
open Go.RowKit Tx
set_option linter.unusedVariables false
section
variable {P : Program}
theorem append_two (w : World) (base : Nat) (t ty e : TypeId) (i : TypeInfo) (z : Value) (bytes : Nat) (ht : P.underlying t = some (.slice e)) (hi : P.info? e = some i) (hz : i.zero = some z)
    (hsize : i.size = 1) (hby : i.bytes = bytes) (hzs : z.cells.size = 1)
    (v : Value) (n : Nat) (xs : List Value) (hown : w.ownsRow base e 1 v n xs)
    (a : Addr) (c : Nat) (u : Value) (hu : w.cell? a = some u) (h1 : u.oneCell' = true)
    (hn : n + 1 ≤ 1152921504606846976) (hbytes : (n + 1) * bytes ≤ 140737488355328) (hbase : base ≤ w.heap.size) :
    ∃ v' w', (Builtin.append_ #[t, t] ty #[v, .slice (some a) 1 c]).run P w = .ok v' w' ∧ w'.ownsRow base e 1 v' (n + 1) (xs ++ [u]) ∧
      ((v'.ownBlock = v.ownBlock ∧ w.grownBy w' v.ownBlock) ∨ (v'.ownBlock = some w.heap.size ∧ w.grownBy w' none)) := by
  have hnews : ∀ j x, [u][j]? = some x → w.cell? (a.add j) = some x := by
    intro j x hj
    match j, hj with
    | 0, hj =>
      simp at hj
      subst hj
      simpa [Addr.add] using hu
  have hone : ∀ x ∈ [u], x.oneCell' = true := by intro x hx; simp at hx; subst hx; exact h1
  have hlen : (xs ++ [u]).length = (n + 1) * 1 := by rw [List.length_append, hown.1]; simp
  have made : ∀ old, old < n + 1 → (w.drew.alloc (.cells (xs.toArray ++ [u].toArray ++ Builtin.zeroCells z.cells (grownCap w (n + 1) old e - (n + 1))) e)).ownsRow base e 1 (.slice (some ⟨w.heap.size, 0, none⟩) (n + 1) (grownCap w (n + 1) old e)) (n + 1) (xs ++ [u]) ∧
      w.grownBy (w.drew.alloc (.cells (xs.toArray ++ [u].toArray ++ Builtin.zeroCells z.cells (grownCap w (n + 1) old e - (n + 1))) e)) none := by
    intro old _
    have hge := grownCap_ge w (n + 1) old e
    have hcm := grownCap_le_maxLen w (n + 1) old e (by unfold maxLen; omega)
    refine ⟨⟨hlen, .inr ⟨w.heap.size, _, _, rfl, hbase, heap_alloc_new w.drew _, hge, hcm, ?_, ?_⟩⟩, ⟨rfl, rfl, rfl, by simp, fun k hk _ => Below.heap_alloc w.drew _ k hk⟩⟩
    · have h0 := hown.1
      simp only [Array.size_append, List.size_toArray, size_zeroCells, hzs, List.length_singleton]
      omega
    · simp only [Array.toList_append, List.append_assoc]
      rw [← List.append_assoc]
      exact List.take_left' hlen
  rcases hown.2 with ⟨rfl, rfl⟩ | ⟨g, cap, cur, rfl, hbg, hg, hnc, hcm, hcs, htake⟩
  · have hx : xs = [] := List.eq_nil_of_length_eq_zero (by simpa using hown.1)
    subst hx
    have hr := run_append_nil (P := P) w t ty e i z ht hi hz a 1 c [u] (by rw [hsize]; rfl) hnews (by omega) (by omega) (by rw [hby]; have h2 := hbytes; simp only [Nat.zero_add] at h2; omega)
    have hm := made 0 (by omega)
    simp only [Nat.zero_add, List.nil_append, Array.empty_append] at hm ⊢
    exact ⟨_, _, hr, hm.1, .inr ⟨rfl, hm.2⟩⟩
  · by_cases hroom : n + 1 ≤ cap
    · have hfit : n * i.size + [u].length ≤ cur.size := by rw [hsize, hcs]; simp; omega
      have hr := run_append_room (P := P) w t ty e i ht hi g n cap cur hg a 1 c [u] (by rw [hsize]; rfl) hnews hone hroom hfit
      refine ⟨_, _, hr, ⟨hlen, .inr ⟨g, cap, _, rfl, hbg, setRow_heap w g cur _ e _ hg, hroom, hcm, ?_, ?_⟩⟩, .inl ⟨rfl, ⟨rfl, rfl, rfl, by simp, fun k _ hk => setRow_other w g k _ (fun e => hk (by simp [Value.ownBlock, e]))⟩⟩⟩
      · simp only [List.size_toArray, List.length_append, List.length_take, List.length_drop, Array.length_toList, hsize, List.length_singleton]
        simp only [hsize, List.length_singleton] at hfit
        omega
      · rw [hsize, htake]
        exact List.take_left' hlen
    · have hr := run_append_grow (P := P) w t ty e i z ht hi hz ⟨g, 0, none⟩ n cap xs (by rw [hsize]; exact hown.1) (hown.cells (g := g) rfl) a 1 c [u] (by rw [hsize]; rfl) hnews (by omega) (by omega) (growslice_fits (by omega) (by rw [hby]; exact hbytes))
      have hm := made cap (by omega)
      exact ⟨_, _, hr, hm.1, .inr ⟨rfl, hm.2⟩⟩
end
theorem wpList_append_two {P : Program} (w : World) {ops : Array Oper} {rest : List Oper} {o : Oper} {a : Act} {Q : Exit → Act → World → Prop} (hgd : o.guard = none) (s x : Operand) (t : TypeId)
    (ho : o.op = .call { callee := .builtin .append, args := #[s, x], argTypes := #[t, t] })
    (base : Nat) (e : TypeId) (i : TypeInfo) (z : Value) (bytes : Nat) (ht : P.underlying t = some (.slice e)) (hi : P.info? e = some i) (hz : i.zero = some z)
    (hsize : i.size = 1) (hby : i.bytes = bytes) (hzs : z.cells.size = 1)
    (v : Value) (n : Nat) (xs : List Value) (hs : a.eval s = v) (hown : w.ownsRow base e 1 v n xs)
    (ad : Addr) (c : Nat) (u : Value) (hx : a.eval x = .slice (some ad) 1 c) (hu : w.cell? ad = some u) (h1 : u.oneCell' = true)
    (hn : n + 1 ≤ 1152921504606846976) (hbytes : (n + 1) * bytes ≤ 140737488355328) (hbase : base ≤ w.heap.size)
    (h : ∀ v' w', w'.ownsRow base e 1 v' (n + 1) (xs ++ [u]) → ((v'.ownBlock = v.ownBlock ∧ w.grownBy w' v.ownBlock) ∨ (v'.ownBlock = some w.heap.size ∧ w.grownBy w' none)) → wpList P ops Q rest (a.put o.dst v') w') :
    wpList P ops Q (o :: rest) a w := by
  refine wpList_plain hgd fun K hK => ?_
  obtain ⟨v', w', hr, h2, h3⟩ := append_two (P := P) w base t o.type e i z bytes ht hi hz hsize hby hzs v n xs hown ad c u hu h1 hn hbytes hbase
  unfold Oper.wp execOp
  simp only [ho, resolve, invoke, builtin, Sem.run_bind, Sem.run_pure, Result.andThen_ok, List.map_toArray, List.map_cons, List.map_nil, hs, hx, hr]
  exact hK _ _ (h v' w' h2 h3)
theorem own_frozen {w : World} {base g n cap : Nat} {e : TypeId} {xs : List Value} (h : w.ownsRow base e 1 (.slice (some ⟨g, 0, none⟩) n cap) n xs) (k : Nat) : w.frozen? ⟨g, k, none⟩ = false := by
  rcases h.2 with ⟨h0, _⟩ | ⟨g', cap', cur, hv, _, hh, _⟩
  · cases h0
  · injection hv with hg
    injection hg with hg
    injection hg with hg
    subst hg
    simp [World.frozen?, hh]
theorem own_cell {w : World} {base g n cap : Nat} {e : TypeId} {xs : List Value} (h : w.ownsRow base e 1 (.slice (some ⟨g, 0, none⟩) n cap) n xs) {k : Nat} {u : Value} (hk : xs[k]? = some u) : w.cell? ⟨g, k, none⟩ = some u := by
  have := h.cells (g := g) rfl k u hk
  rwa [WideShapes.add_plain, Nat.zero_add] at this
theorem own_store {w : World} {base g n cap : Nat} {e : TypeId} {xs : List Value} (h : w.ownsRow base e 1 (.slice (some ⟨g, 0, none⟩) n cap) n xs) {k : Nat} (hk : k < n) (u : Value) :
    (w.setCell ⟨g, k, none⟩ u).ownsRow base e 1 (.slice (some ⟨g, 0, none⟩) n cap) n (xs.set k u) := by
  refine ⟨by rw [List.length_set]; exact h.1, ?_⟩
  rcases h.2 with ⟨h0, _⟩ | ⟨g', cap', cur, hv, hb, hh, hn, hc, hs, ht⟩
  · cases h0
  · injection hv with hg _ hcap
    injection hg with hg
    injection hg with hg
    subst hg
    subst hcap
    refine .inr ⟨g, cap, cur.setIfInBounds k u, rfl, hb, ?_, hn, hc, by simpa using hs, ?_⟩
    · simp [World.setCell, Array.getElem?_modify, hh]
    · rw [Array.toList_setIfInBounds, List.take_set, ht]
theorem own_far {w : World} {base n : Nat} {e : TypeId} {v : Value} {xs : List Value} (h : w.ownsRow base e 1 v n xs) {g k : Nat} (hne : v.ownBlock ≠ some g) (u : Value) : (w.setCell ⟨g, k, none⟩ u).ownsRow base e 1 v n xs := by
  have hg : w.grownBy (w.setCell ⟨g, k, none⟩ u) (some g) := ⟨rfl, rfl, rfl, by simp [World.setCell], fun j _ hj => Below.heap_setCell w ⟨g, k, none⟩ u j (fun e => hj (by rw [e]))⟩
  exact h.kept hg (.inr hne)
theorem own_kept {w w1 : World} {base n : Nat} {e : TypeId} {v : Value} {xs : List Value} {row : Option Nat} (h : w.ownsRow base e 1 v n xs) (hg : w.grownBy w1 row) (hne : v.ownBlock ≠ row ∨ row = none) : w1.ownsRow base e 1 v n xs := by
  rcases hne with hne | rfl
  · exact h.kept hg (.inr hne)
  · refine h.kept hg ?_
    cases hv : v.ownBlock
    · exact .inl rfl
    · exact .inr (by simp)
theorem types_ne {w : World} {base b2 n n2 : Nat} {e e2 : TypeId} {v v2 : Value} {xs ys : List Value} (h : w.ownsRow base e 1 v n xs) (h2 : w.ownsRow b2 e2 1 v2 n2 ys) (hne : e ≠ e2) {g : Nat} (hg : v.ownBlock = some g) : v2.ownBlock ≠ some g := by
  rcases h.2 with ⟨rfl, _⟩ | ⟨a, cap, cur, rfl, _, hh, _⟩
  · simp [Value.ownBlock] at hg
  · rcases h2.2 with ⟨rfl, _⟩ | ⟨a2, cap2, cur2, rfl, _, hh2, _⟩
    · simp [Value.ownBlock]
    · simp only [Value.ownBlock, Option.some.injEq] at hg ⊢
      subst hg
      intro he
      injection he with he
      subst he
      rw [hh] at hh2
      injection hh2 with hh2
      injection hh2 with _ ht
      exact hne ht
end Go.Proofs.YtjdmbkkdnonkkaaGreat.Aq
