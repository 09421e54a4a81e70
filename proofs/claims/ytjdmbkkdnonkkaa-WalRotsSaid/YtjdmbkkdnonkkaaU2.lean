/- Texts of this seat, one behind the other. -/
import Derived.Test.YtjdmbkkdnonkkaaU1
import Derived.RegionTactic
import Derived.BigRegion
import Derived.Deep.CutRange
import Derived.StillTailTactics
import Derived.Shelf.Sort.Plain
import Derived.Test.YtjdmbkkdnonkkaaProg
import Derived.Lib.OwnBridge
import Derived.Shelf.Slices.In.SortNone
import Derived.Sort.OwnSorted
import Derived.Deep.QuietTactic
import Derived.BigQuiet
import Derived.Maps.AppendAt
import Derived.ProofKit
import Derived.OpenShut
import Derived.ShutString
import Derived.Deep.Slices
import Derived.Deep.Fields
import Derived.ChangeSame
import Derived.Test.YtjdmbkkdnonkkaaRows
namespace Go.Proofs.Ytjdmbkkdnonkkaa.Dk
open Go.RowKit Tx Pm Pl Pr
set_option linter.unusedVariables false
set_option maxRecDepth 100000 in
set_option maxHeartbeats 2000000 in
theorem regMayWrite (ops : Array Oper) (hops : ops = (Rg.opsOf Try.f53 8)) (id : Nat) (b bi bl : Nat) (l : Int) (s : St) (p d V X0 X1 : ByteArray) (K X2 X3 : Int) (B : Bool) {u3 u4 u5 u6 u7 u8 u9 u10 u11 u12 u13 u14 u15 u16 u17 u18 u19 u20 u21 u22 u23 u24 u25 u26 u27 u28 u29 u30 u31 u32 u33 u34 u35 u36 u37 u38 u39 u40 u41 u42 u43 u44 : Value} (w : World) (h : Ia b bi bl l w s)
    (hlk : ∀ W, Ia b bi bl l W s → (Instr.lookup 44 (.map (some bi)) (.string p) false).run Try.prog W = .ok (.agg #[.int .i64 K, .string X0, .string X1, .int .i64 X2, .int .i64 X3]) W)
    (hsub : IntKind.i64.wrap ((d.size : Int) - (X0.size : Int)) = (d.size : Int) - (X0.size : Int))
    (cv : ∀ W, Calls Try.prog 47 #[.string p] W fun e w' => e = .returned (.string V) ∧ ∃ n, w' = W.drewN n)
    (cf : ∀ W, Ia b bi bl l W s → Calls Try.prog 46 #[.pointer (some ⟨b, 0, none⟩), .string V, .int .i64 ((d.size : Int) - (X0.size : Int))] W fun e w' => e = .returned (.bool B) ∧ Below W.heap.size W w') :
    (Code.region id ops true).wp Try.prog (Rg.Only fun a' w' => a' = ⟨#[(.pointer (some ⟨b, 0, none⟩)), (.string p), (.string d), u3, u4, u5, u6, u7, u8, u9, u10, u11, u12, u13, u14, u15, u16, u17, u18, u19, u20, u21, u22, u23, u24, u25, u26, u27, u28, (.bool B), (.pointer (some ⟨b, 0, none⟩)), (.string p), (.string V), (.string d), (.int .i64 (d.size : Int)), (.pointer (some ⟨b, 0, none⟩)), (.pointer (some ⟨b, 0, none⟩)), (.pointer (some ⟨b, 0, none⟩)), (.map (some bi)), (.string p), (.agg #[.int .i64 K, .string X0, .string X1, .int .i64 X2, .int .i64 X3]), (.string X0), (.int .i64 (X0.size : Int)), (.int .i64 ((d.size : Int) - (X0.size : Int))), (.bool B)], []⟩ ∧ Below w.heap.size w w') ⟨#[(.pointer (some ⟨b, 0, none⟩)), (.string p), (.string d), u3, u4, u5, u6, u7, u8, u9, u10, u11, u12, u13, u14, u15, u16, u17, u18, u19, u20, u21, u22, u23, u24, u25, u26, u27, u28, u29, u30, u31, u32, u33, u34, u35, u36, u37, u38, u39, u40, u41, u42, u43, u44], []⟩ w := by
  subst hops
  have hNS : Region.noSelect (Rg.opsOf Try.f53 8) = true := by kernel_rfl
  have h0 : Ia b bi bl l w.drew s ∧ Below w.heap.size w w.drew := ⟨h.below (Below.refl _ _).drew, (Below.refl _ _).drew⟩
  refine wp_region_held_drew (S := fun W => Ia b bi bl l W s ∧ Below w.heap.size w W) (by kernel_rfl) h0 (fun hHeld => ?_)
  rw [show (Rg.opsOf Try.f53 8).size = 16 by kernel_rfl]
  refine Rg.take (ops := (Rg.opsOf Try.f53 8)) 0 (some 30) ((.pointer (some ⟨b, 0, none⟩))) hNS (by kernel_rfl) (by kernel_rfl) (by kernel_rfl) (by kernel_rfl) (by kernel_rfl) hHeld (Rg.y_move (x := (Operand.tmp 0)) (Or.inl (by kernel_rfl)) (by kernel_rfl)) ?_
  refine Rg.take (ops := (Rg.opsOf Try.f53 8)) 1 (some 31) ((.string p)) hNS (by kernel_rfl) (by kernel_rfl) (by kernel_rfl) (by kernel_rfl) (by kernel_rfl) hHeld (Rg.y_move (x := (Operand.tmp 1)) (Or.inl (by kernel_rfl)) (by kernel_rfl)) ?_
  refine Rg.take (ops := (Rg.opsOf Try.f53 8)) 3 (some 33) ((.string d)) hNS (by kernel_rfl) (by kernel_rfl) (by kernel_rfl) (by kernel_rfl) (by kernel_rfl) hHeld (Rg.y_move (x := (Operand.tmp 2)) (Or.inl (by kernel_rfl)) (by kernel_rfl)) ?_
  refine Rg.take (ops := (Rg.opsOf Try.f53 8)) 4 (some 34) ((.int .i64 (d.size : Int))) hNS (by kernel_rfl) (by kernel_rfl) (by kernel_rfl) (by kernel_rfl) (by kernel_rfl) hHeld (Rg.y_len (x := (Operand.tmp 33)) (ats := #[9]) (vx := (.string d)) (n := d.size) (by kernel_rfl) (by kernel_rfl) ?_) ?_
  · (intro ty w hSw; go_simp)
  refine Rg.take (ops := (Rg.opsOf Try.f53 8)) 5 (some 35) ((.pointer (some ⟨b, 0, none⟩))) hNS (by kernel_rfl) (by kernel_rfl) (by kernel_rfl) (by kernel_rfl) (by kernel_rfl) hHeld (Rg.y_move (x := (Operand.tmp 0)) (Or.inl (by kernel_rfl)) (by kernel_rfl)) ?_
  refine Rg.take (ops := (Rg.opsOf Try.f53 8)) 6 (some 36) ((.pointer (some ⟨b, 0, none⟩))) hNS (by kernel_rfl) (by kernel_rfl) (by kernel_rfl) (by kernel_rfl) (by kernel_rfl) hHeld (Rg.y_nil (x := (Operand.tmp 35)) (by kernel_rfl) (by kernel_rfl)) ?_
  refine Rg.take (ops := (Rg.opsOf Try.f53 8)) 7 (some 37) ((.pointer (some ⟨b, 0, none⟩))) hNS (by kernel_rfl) (by kernel_rfl) (by kernel_rfl) (by kernel_rfl) (by kernel_rfl) hHeld (Rg.y_field (T := 47) (k := 0) (x := (Operand.tmp 36)) (vx := (.pointer (some ⟨b, 0, none⟩))) (by kernel_rfl) (by kernel_rfl) ?_) ?_
  · (intro w hSw; clear hSw; go_simp)
  refine Rg.take (ops := (Rg.opsOf Try.f53 8)) 8 (some 38) ((.map (some bi))) hNS (by kernel_rfl) (by kernel_rfl) (by kernel_rfl) (by kernel_rfl) (by kernel_rfl) hHeld (Rg.y_load (T := 44) (x := (Operand.tmp 37)) (vx := (.pointer (some ⟨b, 0, none⟩))) (by kernel_rfl) (by kernel_rfl) ?_) ?_
  · (intro w hSw; have c0 := hSw.1.cell.1; clear hSw; go_simp)
  refine Rg.take (ops := (Rg.opsOf Try.f53 8)) 9 (some 39) ((.string p)) hNS (by kernel_rfl) (by kernel_rfl) (by kernel_rfl) (by kernel_rfl) (by kernel_rfl) hHeld (Rg.y_move (x := (Operand.tmp 1)) (Or.inl (by kernel_rfl)) (by kernel_rfl)) ?_
  refine Rg.take (ops := (Rg.opsOf Try.f53 8)) 10 (some 40) ((.agg #[.int .i64 K, .string X0, .string X1, .int .i64 X2, .int .i64 X3])) hNS (by kernel_rfl) (by kernel_rfl) (by kernel_rfl) (by kernel_rfl) (by kernel_rfl) hHeld (Rg.y_look (T := 44) (x := (Operand.tmp 38)) (y := (Operand.tmp 39)) (c := false) (vx := (.map (some bi))) (vy := (.string p)) (by kernel_rfl) (by kernel_rfl) (by kernel_rfl) ?_) ?_
  · (intro w hSw; exact hlk _ hSw.1)
  refine Rg.take (ops := (Rg.opsOf Try.f53 8)) 11 (some 41) ((.string X0)) hNS (by kernel_rfl) (by kernel_rfl) (by kernel_rfl) (by kernel_rfl) (by kernel_rfl) hHeld (Rg.y_fld (T := 43) (k := 1) (x := (Operand.tmp 40)) (vx := (.agg #[.int .i64 K, .string X0, .string X1, .int .i64 X2, .int .i64 X3])) (by kernel_rfl) (by kernel_rfl) ?_) ?_
  · (intro w hSw; exact fld1 _ _ _ _ _ w)
  refine Rg.take (ops := (Rg.opsOf Try.f53 8)) 12 (some 42) ((.int .i64 (X0.size : Int))) hNS (by kernel_rfl) (by kernel_rfl) (by kernel_rfl) (by kernel_rfl) (by kernel_rfl) hHeld (Rg.y_len (x := (Operand.tmp 41)) (ats := #[9]) (vx := (.string X0)) (n := X0.size) (by kernel_rfl) (by kernel_rfl) ?_) ?_
  · (intro ty w hSw; go_simp)
  refine Rg.take (ops := (Rg.opsOf Try.f53 8)) 13 (some 43) ((.int .i64 ((d.size : Int) - (X0.size : Int)))) hNS (by kernel_rfl) (by kernel_rfl) (by kernel_rfl) (by kernel_rfl) (by kernel_rfl) hHeld (Rg.y_bin (b := BinOp.sub) (T := 3) (R' := 3) (x := (Operand.tmp 34)) (y := (Operand.tmp 42)) (vx := (.int .i64 (d.size : Int))) (vy := (.int .i64 (X0.size : Int))) (by kernel_rfl) (by kernel_rfl) (by kernel_rfl) ?_) ?_
  · (intro w hSw; clear hSw; go_simp <;> exact hsub)
  refine Rg.call (ops := (Rg.opsOf Try.f53 8)) (fn := Try.f47) (xs := #[Operand.tmp 31]) (ats := #[9]) 2 (some 32) 47 #[(.string p)] (by kernel_rfl) (by kernel_rfl) (by kernel_rfl) (by kernel_rfl) (by kernel_rfl) Try.func47 (by kernel_rfl) (by kernel_rfl) (by kernel_rfl) ?_
  refine (cv _).mono ?_
  rintro e w5 ⟨rfl, n5, rfl⟩
  refine ⟨_, rfl, ⟨hHeld.1.below (below_drewN _ _), below_call hHeld.2 (below_drewN _ _)⟩, fun hHeld => ?_⟩
  refine Rg.call (ops := (Rg.opsOf Try.f53 8)) (fn := Try.f46) (xs := #[Operand.tmp 30, Operand.tmp 32, Operand.tmp 43]) (ats := #[23, 9, 3]) 14 (some 44) 46 #[(.pointer (some ⟨b, 0, none⟩)), (.string V), (.int .i64 ((d.size : Int) - (X0.size : Int)))] (by kernel_rfl) (by kernel_rfl) (by kernel_rfl) (by kernel_rfl) (by kernel_rfl) Try.func46 (by kernel_rfl) (by kernel_rfl) (by kernel_rfl) ?_
  refine (cf _ hHeld.1).mono ?_
  rintro e w6 ⟨rfl, hb6⟩
  refine ⟨_, rfl, ⟨hHeld.1.below hb6, below_call hHeld.2 hb6⟩, fun hHeld => ?_⟩
  refine Rg.take (ops := (Rg.opsOf Try.f53 8)) 15 (some 29) ((.bool B)) hNS (by kernel_rfl) (by kernel_rfl) (by kernel_rfl) (by kernel_rfl) (by kernel_rfl) hHeld (Rg.y_move (x := (Operand.tmp 44)) (Or.inr (by kernel_rfl)) (by kernel_rfl)) ?_
  refine Rg.done (ops := (Rg.opsOf Try.f53 8)) (by kernel_rfl) ?_
  exact ⟨by kernel_rfl, hHeld.2⟩
set_option maxRecDepth 100000 in
set_option maxHeartbeats 2000000 in
theorem regMayRename1 (ops : Array Oper) (hops : ops = (Rg.opsOf Try.f55 12)) (id : Nat) (b bi bl gf gg : Nat) (l : Int) (s : St) (t X Y V : ByteArray) (B : Bool) {u1 u3 u4 u5 u6 u7 u11 u12 u13 u14 u15 u16 u17 u18 u19 u20 u21 u22 u23 u24 u25 u26 u27 u28 u29 u30 u31 u32 u33 u34 u35 u36 u37 u38 u39 u40 u41 u42 u43 u44 u45 u46 u47 u48 u49 u50 u51 u52 u53 u54 u55 u56 u57 u58 u59 u60 u61 u62 u63 u64 u65 : Value} (w : World) (h : Ia b bi bl l w s)
    (hX : w.cell? ⟨gf, 1, none⟩ = some (.string X)) (hY : w.cell? ⟨gg, 1, none⟩ = some (.string Y))
    (hsub : IntKind.i64.wrap ((X.size : Int) - (Y.size : Int)) = (X.size : Int) - (Y.size : Int))
    (cv : ∀ W, Calls Try.prog 47 #[.string t] W fun e w' => e = .returned (.string V) ∧ ∃ n, w' = W.drewN n)
    (cf : ∀ W, Ia b bi bl l W s → Calls Try.prog 46 #[.pointer (some ⟨b, 0, none⟩), .string V, .int .i64 ((X.size : Int) - (Y.size : Int))] W fun e w' => e = .returned (.bool B) ∧ Below W.heap.size W w') :
    (Code.region id ops true).wp Try.prog (Rg.Only fun a' w' => a' = ⟨#[(.pointer (some ⟨b, 0, none⟩)), u1, (.string t), u3, u4, u5, u6, u7, (.pointer (some ⟨gf, 0, none⟩)), (.pointer (some ⟨gg, 0, none⟩)), (.bool true), u11, u12, u13, u14, u15, u16, u17, u18, u19, u20, u21, u22, u23, u24, u25, u26, u27, u28, u29, u30, u31, u32, u33, u34, u35, u36, u37, u38, u39, u40, u41, u42, u43, u44, u45, u46, u47, u48, u49, u50, (.bool B), (.bool true), (.bool true), (.pointer (some ⟨b, 0, none⟩)), (.string t), (.string V), (.pointer (some ⟨gf, 1, none⟩)), (.string X), (.int .i64 (X.size : Int)), (.pointer (some ⟨gg, 1, none⟩)), (.string Y), (.int .i64 (Y.size : Int)), (.int .i64 ((X.size : Int) - (Y.size : Int))), (.bool B), (.bool B)], []⟩ ∧ Below w.heap.size w w') ⟨#[(.pointer (some ⟨b, 0, none⟩)), u1, (.string t), u3, u4, u5, u6, u7, (.pointer (some ⟨gf, 0, none⟩)), (.pointer (some ⟨gg, 0, none⟩)), (.bool true), u11, u12, u13, u14, u15, u16, u17, u18, u19, u20, u21, u22, u23, u24, u25, u26, u27, u28, u29, u30, u31, u32, u33, u34, u35, u36, u37, u38, u39, u40, u41, u42, u43, u44, u45, u46, u47, u48, u49, u50, u51, u52, u53, u54, u55, u56, u57, u58, u59, u60, u61, u62, u63, u64, u65], []⟩ w := by
  subst hops
  have hNS : Region.noSelect (Rg.opsOf Try.f55 12) = true := by kernel_rfl
  have h0 : Ia b bi bl l w.drew s ∧ Below w.heap.size w w.drew ∧ w.drew.cell? ⟨gf, 1, none⟩ = some (.string X) ∧ w.drew.cell? ⟨gg, 1, none⟩ = some (.string Y) := ⟨h.below (Below.refl _ _).drew, (Below.refl _ _).drew, hX, hY⟩
  refine wp_region_held_drew (S := fun W => Ia b bi bl l W s ∧ Below w.heap.size w W ∧ W.cell? ⟨gf, 1, none⟩ = some (.string X) ∧ W.cell? ⟨gg, 1, none⟩ = some (.string Y)) (by kernel_rfl) h0 (fun hHeld => ?_)
  rw [show (Rg.opsOf Try.f55 12).size = 15 by kernel_rfl]
  refine Rg.take (ops := (Rg.opsOf Try.f55 12)) 0 (some 52) ((.bool true)) hNS (by kernel_rfl) (by kernel_rfl) (by kernel_rfl) (by kernel_rfl) (by kernel_rfl) hHeld (Rg.y_move (x := (Operand.tmp 10)) (Or.inl (by kernel_rfl)) (by kernel_rfl)) ?_
  refine Rg.take (ops := (Rg.opsOf Try.f55 12)) 1 (some 53) ((.bool true)) hNS (by kernel_rfl) (by kernel_rfl) (by kernel_rfl) (by kernel_rfl) (by kernel_rfl) hHeld (Rg.y_move (x := (Operand.tmp 52)) (Or.inl (by kernel_rfl)) (by kernel_rfl)) ?_
  refine Rg.take (ops := (Rg.opsOf Try.f55 12)) 2 (some 54) ((.pointer (some ⟨b, 0, none⟩))) hNS (by kernel_rfl) (by kernel_rfl) (by kernel_rfl) (by kernel_rfl) (by kernel_rfl) hHeld (Rg.y_move (x := (Operand.tmp 0)) (Or.inl (by kernel_rfl)) (by kernel_rfl)) ?_
  refine Rg.take (ops := (Rg.opsOf Try.f55 12)) 3 (some 55) ((.string t)) hNS (by kernel_rfl) (by kernel_rfl) (by kernel_rfl) (by kernel_rfl) (by kernel_rfl) hHeld (Rg.y_move (x := (Operand.tmp 2)) (Or.inl (by kernel_rfl)) (by kernel_rfl)) ?_
  refine Rg.take (ops := (Rg.opsOf Try.f55 12)) 5 (some 57) ((.pointer (some ⟨gf, 1, none⟩))) hNS (by kernel_rfl) (by kernel_rfl) (by kernel_rfl) (by kernel_rfl) (by kernel_rfl) hHeld (Rg.y_field (T := 43) (k := 1) (x := (Operand.tmp 8)) (vx := (.pointer (some ⟨gf, 0, none⟩))) (by kernel_rfl) (by kernel_rfl) ?_) ?_
  · (intro w hSw; clear hSw; go_simp)
  refine Rg.take (ops := (Rg.opsOf Try.f55 12)) 6 (some 58) ((.string X)) hNS (by kernel_rfl) (by kernel_rfl) (by kernel_rfl) (by kernel_rfl) (by kernel_rfl) hHeld (Rg.y_load (T := 9) (x := (Operand.tmp 57)) (vx := (.pointer (some ⟨gf, 1, none⟩))) (by kernel_rfl) (by kernel_rfl) ?_) ?_
  · (intro w hSw; obtain ⟨_, _, cx, cy⟩ := hSw; go_simp)
  refine Rg.take (ops := (Rg.opsOf Try.f55 12)) 7 (some 59) ((.int .i64 (X.size : Int))) hNS (by kernel_rfl) (by kernel_rfl) (by kernel_rfl) (by kernel_rfl) (by kernel_rfl) hHeld (Rg.y_len (x := (Operand.tmp 58)) (ats := #[9]) (vx := (.string X)) (n := X.size) (by kernel_rfl) (by kernel_rfl) ?_) ?_
  · (intro ty w hSw; go_simp)
  refine Rg.take (ops := (Rg.opsOf Try.f55 12)) 8 (some 60) ((.pointer (some ⟨gg, 1, none⟩))) hNS (by kernel_rfl) (by kernel_rfl) (by kernel_rfl) (by kernel_rfl) (by kernel_rfl) hHeld (Rg.y_field (T := 43) (k := 1) (x := (Operand.tmp 9)) (vx := (.pointer (some ⟨gg, 0, none⟩))) (by kernel_rfl) (by kernel_rfl) ?_) ?_
  · (intro w hSw; clear hSw; go_simp)
  refine Rg.take (ops := (Rg.opsOf Try.f55 12)) 9 (some 61) ((.string Y)) hNS (by kernel_rfl) (by kernel_rfl) (by kernel_rfl) (by kernel_rfl) (by kernel_rfl) hHeld (Rg.y_load (T := 9) (x := (Operand.tmp 60)) (vx := (.pointer (some ⟨gg, 1, none⟩))) (by kernel_rfl) (by kernel_rfl) ?_) ?_
  · (intro w hSw; obtain ⟨_, _, cx, cy⟩ := hSw; go_simp)
  refine Rg.take (ops := (Rg.opsOf Try.f55 12)) 10 (some 62) ((.int .i64 (Y.size : Int))) hNS (by kernel_rfl) (by kernel_rfl) (by kernel_rfl) (by kernel_rfl) (by kernel_rfl) hHeld (Rg.y_len (x := (Operand.tmp 61)) (ats := #[9]) (vx := (.string Y)) (n := Y.size) (by kernel_rfl) (by kernel_rfl) ?_) ?_
  · (intro ty w hSw; go_simp)
  refine Rg.take (ops := (Rg.opsOf Try.f55 12)) 11 (some 63) ((.int .i64 ((X.size : Int) - (Y.size : Int)))) hNS (by kernel_rfl) (by kernel_rfl) (by kernel_rfl) (by kernel_rfl) (by kernel_rfl) hHeld (Rg.y_bin (b := BinOp.sub) (T := 3) (R' := 3) (x := (Operand.tmp 59)) (y := (Operand.tmp 62)) (vx := (.int .i64 (X.size : Int))) (vy := (.int .i64 (Y.size : Int))) (by kernel_rfl) (by kernel_rfl) (by kernel_rfl) ?_) ?_
  · (intro w hSw; clear hSw; go_simp <;> exact hsub)
  refine Rg.call (ops := (Rg.opsOf Try.f55 12)) (fn := Try.f47) (xs := #[Operand.tmp 55]) (ats := #[9]) 4 (some 56) 47 #[(.string t)] (by kernel_rfl) (by kernel_rfl) (by kernel_rfl) (by kernel_rfl) (by kernel_rfl) Try.func47 (by kernel_rfl) (by kernel_rfl) (by kernel_rfl) ?_
  refine (cv _).mono ?_
  rintro e w5 ⟨rfl, n5, rfl⟩
  refine ⟨_, rfl, ⟨hHeld.1.below (below_drewN _ _), below_call hHeld.2.1 (below_drewN _ _), hHeld.2.2.1, hHeld.2.2.2⟩, fun hHeld => ?_⟩
  refine Rg.call (ops := (Rg.opsOf Try.f55 12)) (fn := Try.f46) (xs := #[Operand.tmp 54, Operand.tmp 56, Operand.tmp 63]) (ats := #[23, 9, 3]) 12 (some 64) 46 #[(.pointer (some ⟨b, 0, none⟩)), (.string V), (.int .i64 ((X.size : Int) - (Y.size : Int)))] (by kernel_rfl) (by kernel_rfl) (by kernel_rfl) (by kernel_rfl) (by kernel_rfl) Try.func46 (by kernel_rfl) (by kernel_rfl) (by kernel_rfl) ?_
  refine (cf _ hHeld.1).mono ?_
  rintro e w6 ⟨rfl, hb6⟩
  refine ⟨_, rfl, ⟨hHeld.1.below hb6, below_call hHeld.2.1 hb6, (hb6.cell (p := ⟨gf, 1, none⟩) (World.block_lt_of_cell? _ _ hHeld.2.2.1)).trans hHeld.2.2.1, (hb6.cell (p := ⟨gg, 1, none⟩) (World.block_lt_of_cell? _ _ hHeld.2.2.2)).trans hHeld.2.2.2⟩, fun hHeld => ?_⟩
  refine Rg.take (ops := (Rg.opsOf Try.f55 12)) 13 (some 65) ((.bool B)) hNS (by kernel_rfl) (by kernel_rfl) (by kernel_rfl) (by kernel_rfl) (by kernel_rfl) hHeld (Rg.y_pick (c := (Operand.tmp 53)) (x := (Operand.tmp 64)) (y := (Operand.const (Value.bool false))) (b := true) (by kernel_rfl) (by kernel_rfl) (by kernel_rfl)) ?_
  refine Rg.take (ops := (Rg.opsOf Try.f55 12)) 14 (some 51) ((.bool B)) hNS (by kernel_rfl) (by kernel_rfl) (by kernel_rfl) (by kernel_rfl) (by kernel_rfl) hHeld (Rg.y_move (x := (Operand.tmp 65)) (Or.inr (by kernel_rfl)) (by kernel_rfl)) ?_
  refine Rg.done (ops := (Rg.opsOf Try.f55 12)) (by kernel_rfl) ?_
  exact ⟨by kernel_rfl, hHeld.2.1⟩
set_option maxRecDepth 100000 in
set_option maxHeartbeats 2000000 in
theorem regMayRename0 (ops : Array Oper) (hops : ops = (Rg.opsOf Try.f55 12)) (id : Nat) (b bi bl gf gg : Nat) (l : Int) (s : St) (t X Y V : ByteArray) (B : Bool) {u1 u3 u4 u5 u6 u7 u11 u12 u13 u14 u15 u16 u17 u18 u19 u20 u21 u22 u23 u24 u25 u26 u27 u28 u29 u30 u31 u32 u33 u34 u35 u36 u37 u38 u39 u40 u41 u42 u43 u44 u45 u46 u47 u48 u49 u50 u51 u52 u53 u54 u55 u56 u57 u58 u59 u60 u61 u62 u63 u64 u65 : Value} (w : World) (h : Ia b bi bl l w s)
    (hX : w.cell? ⟨gf, 1, none⟩ = some (.string X)) (hY : w.cell? ⟨gg, 1, none⟩ = some (.string Y)) :
    (Code.region id ops true).wp Try.prog (Rg.Only fun a' w' => a' = ⟨#[(.pointer (some ⟨b, 0, none⟩)), u1, (.string t), u3, u4, u5, u6, u7, (.pointer (some ⟨gf, 0, none⟩)), (.pointer (some ⟨gg, 0, none⟩)), (.bool false), u11, u12, u13, u14, u15, u16, u17, u18, u19, u20, u21, u22, u23, u24, u25, u26, u27, u28, u29, u30, u31, u32, u33, u34, u35, u36, u37, u38, u39, u40, u41, u42, u43, u44, u45, u46, u47, u48, u49, u50, (Value.bool false), (.bool false), (.bool false), undef, undef, undef, undef, undef, undef, undef, undef, undef, undef, undef, (Value.bool false)], []⟩ ∧ Below w.heap.size w w') ⟨#[(.pointer (some ⟨b, 0, none⟩)), u1, (.string t), u3, u4, u5, u6, u7, (.pointer (some ⟨gf, 0, none⟩)), (.pointer (some ⟨gg, 0, none⟩)), (.bool false), u11, u12, u13, u14, u15, u16, u17, u18, u19, u20, u21, u22, u23, u24, u25, u26, u27, u28, u29, u30, u31, u32, u33, u34, u35, u36, u37, u38, u39, u40, u41, u42, u43, u44, u45, u46, u47, u48, u49, u50, u51, u52, u53, u54, u55, u56, u57, u58, u59, u60, u61, u62, u63, u64, u65], []⟩ w := by
  subst hops
  have hNS : Region.noSelect (Rg.opsOf Try.f55 12) = true := by kernel_rfl
  have h0 : Ia b bi bl l w.drew s ∧ Below w.heap.size w w.drew ∧ w.drew.cell? ⟨gf, 1, none⟩ = some (.string X) ∧ w.drew.cell? ⟨gg, 1, none⟩ = some (.string Y) := ⟨h.below (Below.refl _ _).drew, (Below.refl _ _).drew, hX, hY⟩
  refine wp_region_held_drew (S := fun W => Ia b bi bl l W s ∧ Below w.heap.size w W ∧ W.cell? ⟨gf, 1, none⟩ = some (.string X) ∧ W.cell? ⟨gg, 1, none⟩ = some (.string Y)) (by kernel_rfl) h0 (fun hHeld => ?_)
  rw [show (Rg.opsOf Try.f55 12).size = 15 by kernel_rfl]
  refine Rg.take (ops := (Rg.opsOf Try.f55 12)) 0 (some 52) ((.bool false)) hNS (by kernel_rfl) (by kernel_rfl) (by kernel_rfl) (by kernel_rfl) (by kernel_rfl) hHeld (Rg.y_move (x := (Operand.tmp 10)) (Or.inl (by kernel_rfl)) (by kernel_rfl)) ?_
  refine Rg.take (ops := (Rg.opsOf Try.f55 12)) 1 (some 53) ((.bool false)) hNS (by kernel_rfl) (by kernel_rfl) (by kernel_rfl) (by kernel_rfl) (by kernel_rfl) hHeld (Rg.y_move (x := (Operand.tmp 52)) (Or.inl (by kernel_rfl)) (by kernel_rfl)) ?_
  refine Rg.skip (ops := (Rg.opsOf Try.f55 12)) 2 (some 54) hNS (by kernel_rfl) (by kernel_rfl) (by kernel_rfl) (by kernel_rfl) (by kernel_rfl) hHeld ?_
  refine Rg.skip (ops := (Rg.opsOf Try.f55 12)) 3 (some 55) hNS (by kernel_rfl) (by kernel_rfl) (by kernel_rfl) (by kernel_rfl) (by kernel_rfl) hHeld ?_
  refine Rg.skip (ops := (Rg.opsOf Try.f55 12)) 4 (some 56) hNS (by kernel_rfl) (by kernel_rfl) (by kernel_rfl) (by kernel_rfl) (by kernel_rfl) hHeld ?_
  refine Rg.skip (ops := (Rg.opsOf Try.f55 12)) 5 (some 57) hNS (by kernel_rfl) (by kernel_rfl) (by kernel_rfl) (by kernel_rfl) (by kernel_rfl) hHeld ?_
  refine Rg.skip (ops := (Rg.opsOf Try.f55 12)) 6 (some 58) hNS (by kernel_rfl) (by kernel_rfl) (by kernel_rfl) (by kernel_rfl) (by kernel_rfl) hHeld ?_
  refine Rg.skip (ops := (Rg.opsOf Try.f55 12)) 7 (some 59) hNS (by kernel_rfl) (by kernel_rfl) (by kernel_rfl) (by kernel_rfl) (by kernel_rfl) hHeld ?_
  refine Rg.skip (ops := (Rg.opsOf Try.f55 12)) 8 (some 60) hNS (by kernel_rfl) (by kernel_rfl) (by kernel_rfl) (by kernel_rfl) (by kernel_rfl) hHeld ?_
  refine Rg.skip (ops := (Rg.opsOf Try.f55 12)) 9 (some 61) hNS (by kernel_rfl) (by kernel_rfl) (by kernel_rfl) (by kernel_rfl) (by kernel_rfl) hHeld ?_
  refine Rg.skip (ops := (Rg.opsOf Try.f55 12)) 10 (some 62) hNS (by kernel_rfl) (by kernel_rfl) (by kernel_rfl) (by kernel_rfl) (by kernel_rfl) hHeld ?_
  refine Rg.skip (ops := (Rg.opsOf Try.f55 12)) 11 (some 63) hNS (by kernel_rfl) (by kernel_rfl) (by kernel_rfl) (by kernel_rfl) (by kernel_rfl) hHeld ?_
  refine Rg.skip (ops := (Rg.opsOf Try.f55 12)) 12 (some 64) hNS (by kernel_rfl) (by kernel_rfl) (by kernel_rfl) (by kernel_rfl) (by kernel_rfl) hHeld ?_
  refine Rg.take (ops := (Rg.opsOf Try.f55 12)) 13 (some 65) ((Value.bool false)) hNS (by kernel_rfl) (by kernel_rfl) (by kernel_rfl) (by kernel_rfl) (by kernel_rfl) hHeld (Rg.y_pick (c := (Operand.tmp 53)) (x := (Operand.tmp 64)) (y := (Operand.const (Value.bool false))) (b := false) (by kernel_rfl) (by kernel_rfl) (by kernel_rfl)) ?_
  refine Rg.take (ops := (Rg.opsOf Try.f55 12)) 14 (some 51) ((Value.bool false)) hNS (by kernel_rfl) (by kernel_rfl) (by kernel_rfl) (by kernel_rfl) (by kernel_rfl) hHeld (Rg.y_move (x := (Operand.tmp 65)) (Or.inr (by kernel_rfl)) (by kernel_rfl)) ?_
  refine Rg.done (ops := (Rg.opsOf Try.f55 12)) (by kernel_rfl) ?_
  exact ⟨by kernel_rfl, hHeld.2.1⟩
end Go.Proofs.Ytjdmbkkdnonkkaa.Dk

namespace Go.Proofs.Ytjdmbkkdnonkkaa.Dk
open Go.RowKit Tx Pm Pl Pr
set_option linter.unusedVariables false
theorem ready1 (b bi bl m : Nat) (M l : Int) (s : St) (p : ByteArray) (w : World) (h : Ia b bi bl l w s) (hm : m ≤ 1000) (hM : M = (m : Int) + 1) (hp : p.size ≤ 8000000000000) :
    Calls Try.prog 40 #[.pointer (some ⟨b, 0, none⟩), .int .i64 M, .slice (some ⟨w.heap.size, 0, none⟩) 1 1] (w.alloc (.cells #[.string p] 9)) fun e w' => e = .returned (.int .i64 (first s p m : Nat)) ∧ Below w.heap.size w w' := by
  have hb := (Below.refl _ w).alloc (Nat.le_refl _) (.cells #[.string p] 9)
  refine (iReady_any b bi bl w.heap.size 1 1 m M l s [p] _ (h.below hb) rfl hm hM (fun k q hk => ?_) (by simp) (fun q hq => ?_) (by omega)).mono ?_
  · rw [World.cell?_alloc_at _ _ _ _ rfl]
    match k, hk with
    | 0, hk => cases hk; rfl
  · rw [List.mem_singleton.1 hq]
    exact hp
  · rintro e w' ⟨rfl, h2⟩
    rw [rdy_one]
    exact ⟨rfl, below_call hb h2⟩
theorem ready2 (b bi bl m : Nat) (M l : Int) (s : St) (p q : ByteArray) (w : World) (h : Ia b bi bl l w s) (hm : m ≤ 1000) (hM : M = (m : Int) + 1) (hp : p.size ≤ 8000000000000) (hq : q.size ≤ 8000000000000) :
    Calls Try.prog 40 #[.pointer (some ⟨b, 0, none⟩), .int .i64 M, .slice (some ⟨w.heap.size, 0, none⟩) 2 2] (w.alloc (.cells #[.string p, .string q] 9)) fun e w' => e = .returned (.int .i64 ((if first s p m ≠ 0 then first s p m else first s q m : Nat) : Nat)) ∧ Below w.heap.size w w' := by
  have hb := (Below.refl _ w).alloc (Nat.le_refl _) (.cells #[.string p, .string q] 9)
  refine (iReady_any b bi bl w.heap.size 2 2 m M l s [p, q] _ (h.below hb) rfl hm hM (fun k x hk => ?_) (by simp) (fun x hx => ?_) (by omega)).mono ?_
  · rw [World.cell?_alloc_at _ _ _ _ rfl]
    match k, hk with
    | 0, hk => cases hk; rfl
    | 1, hk => cases hk; rfl
  · rcases List.mem_cons.1 hx with rfl | hx
    · exact hp
    · rw [List.mem_singleton.1 hx]
      exact hq
  · rintro e w' ⟨rfl, h2⟩
    rw [rdy_two]
    exact ⟨rfl, below_call hb h2⟩
theorem ne_eq {a : Nat} (h : a ≠ 0) : ((a : Int) == 0) = false := beq_eq_false_iff_ne.2 (by omega)
def mayMkdirS (s : St) (p : ByteArray) : Nat := if first s p 0 ≠ 0 then first s p 0 else if home s.L p = false then 11 else if kind s.L p = 2 then 12 else 0
def mayWriteS (s : St) (p d : ByteArray) : Nat := if first s p 1 ≠ 0 then first s p 1 else if home s.L p = false then 11 else if kind s.L p = 1 then 12 else if full s (vol p) ((d.size : Int) - (old s.L p).data.size) = true then 13 else 0
def mayAppendS (s : St) (p d : ByteArray) : Nat := if there s p ≠ 0 then there s p else if full s (vol p) d.size = true then 13 else 0
set_option maxRecDepth 100000 in
set_option maxHeartbeats 1000000 in
theorem iMayMkdir_any (b bi bl : Nat) (l : Int) (s : St) (p : ByteArray) (w : World) (h : Ia b bi bl l w s) (hp : p.size ≤ 8000000000000) :
    Calls Try.prog 29 #[.pointer (some ⟨b, 0, none⟩), .string p] w fun e w' => e = .returned (.int .i64 (mayMkdirS s p : Nat)) ∧ Below w.heap.size w w' := by
  have c1 := ready1 b bi bl 0 1 l s p w h (by omega) rfl hp
  have c2 := fun W (hW : Below w.heap.size w W) => iHome_any b bi bl l s p W (h.below hW) hp
  have HL := Lib.hid (fun W (hW : Below w.heap.size w W) => (h.below hW).look (maxLen_of hp))
  have HC := Lib.hid (fun W (hW : Below w.heap.size w W) => (h.below hW).cell.1)
  have f0 := fld0
  unfold mayMkdirS
  generalize first s p 0 = E at c1 ⊢
  generalize home s.L p = H at c2 ⊢
  generalize kind s.L p = K at HL ⊢
  clear h
  by_cases hE : E = 0
  · subst hE
    rw [if_neg (by decide)]
    cases H with
    | false =>
      rw [if_pos rfl]
      go_enter Try.func29, Try.ntmps29
      go_wp2_with (first | (go_at_call 40; refine c1.mono ?_; rintro e w1 ⟨rfl, hb1⟩; have l0 := HL.out _ hb1; have g0 := HC.out _ hb1) | (go_at_call 44; refine (c2 _ hb1).mono ?_; rintro e w2 ⟨rfl, hb2⟩; have hb3 := below_call hb1 hb2; have l1 := HL.out _ hb3; have g1 := HC.out _ hb3))
      go_ret
      exact ⟨rfl, hb3⟩
    | true =>
      rw [if_neg (by decide)]
      by_cases hK : K = 2
      · subst hK
        rw [if_pos rfl]
        go_enter Try.func29, Try.ntmps29
        go_wp2_with (first | (go_at_call 40; refine c1.mono ?_; rintro e w1 ⟨rfl, hb1⟩; have l0 := HL.out _ hb1; have g0 := HC.out _ hb1) | (go_at_call 44; refine (c2 _ hb1).mono ?_; rintro e w2 ⟨rfl, hb2⟩; have hb3 := below_call hb1 hb2; have l1 := HL.out _ hb3; have g1 := HC.out _ hb3))
        go_ret
        exact ⟨rfl, hb3⟩
      · rw [if_neg hK]
        have e1 : ((K : Int) == 2) = false := beq_eq_false_iff_ne.2 (by omega)
        clear hK
        go_enter Try.func29, Try.ntmps29
        go_wp2_with (first | (go_at_call 40; refine c1.mono ?_; rintro e w1 ⟨rfl, hb1⟩; have l0 := HL.out _ hb1; have g0 := HC.out _ hb1) | (go_at_call 44; refine (c2 _ hb1).mono ?_; rintro e w2 ⟨rfl, hb2⟩; have hb3 := below_call hb1 hb2; have l1 := HL.out _ hb3; have g1 := HC.out _ hb3))
        go_ret
        exact ⟨rfl, hb3⟩
  · rw [if_pos hE]
    have e1 := ne_eq hE
    clear hE
    go_enter Try.func29, Try.ntmps29
    go_wp2_with (first | (go_at_call 40; refine c1.mono ?_; rintro e w1 ⟨rfl, hb1⟩; have l0 := HL.out _ hb1; have g0 := HC.out _ hb1) | (go_at_call 44; refine (c2 _ hb1).mono ?_; rintro e w2 ⟨rfl, hb2⟩; have hb3 := below_call hb1 hb2; have l1 := HL.out _ hb3; have g1 := HC.out _ hb3))
    go_ret
    exact ⟨rfl, hb1⟩
theorem there_mbf (s : St) (p : ByteArray) : there s p = if first s p 1 ≠ 0 then first s p 1 else mbf s.L p := by
  unfold there mbf
  rfl
set_option maxRecDepth 100000 in
set_option maxHeartbeats 1000000 in
theorem iMaySync_any (b bi bl : Nat) (l : Int) (s : St) (p : ByteArray) (w : World) (h : Ia b bi bl l w s) (hp : p.size ≤ 8000000000000) :
    Calls Try.prog 23 #[.pointer (some ⟨b, 0, none⟩), .string p] w fun e w' => e = .returned (.int .i64 (there s p : Nat)) ∧ Below w.heap.size w w' := by
  have c1 := ready1 b bi bl 1 2 l s p w h (by omega) rfl hp
  have c2 := fun W (hW : Below w.heap.size w W) => iMbf_any b bi bl l s p W (h.below hW) hp
  rw [there_mbf]
  generalize first s p 1 = E at c1 ⊢
  generalize mbf s.L p = M at c2 ⊢
  clear h
  by_cases hE : E = 0
  · subst hE
    rw [if_neg (by decide)]
    go_enter Try.func23, Try.ntmps23
    go_wp2_with (first | (go_at_call 40; refine c1.mono ?_; rintro e w1 ⟨rfl, hb1⟩) | (go_at_call 41; refine (c2 _ hb1).mono ?_; rintro e w2 ⟨rfl, rfl⟩))
    go_ret
    exact ⟨rfl, hb1⟩
  · rw [if_pos hE]
    have e1 := ne_eq hE
    clear hE
    go_enter Try.func23, Try.ntmps23
    go_wp2_with (go_at_call 40; refine c1.mono ?_; rintro e w1 ⟨rfl, hb1⟩)
    go_ret
    exact ⟨rfl, hb1⟩
theorem old_le {s : St} (hf : Fit s) (p : ByteArray) : (old s.L p).data.size ≤ 4000000000000000000 := by
  rcases old_cases s.L p with e | ⟨hm, _⟩
  · rw [e]; show 0 ≤ _; omega
  · exact Nat.le_trans (le_whole hm) hf.2.2
theorem wrap_sub {a b : Nat} (ha : a ≤ 4000000000000000000) (hb : b ≤ 4000000000000000000) : IntKind.i64.wrap ((a : Int) - (b : Int)) = (a : Int) - (b : Int) := IntWalk.i64_in _ (by omega)
set_option maxRecDepth 100000 in
set_option maxHeartbeats 1000000 in
theorem iMayWrite_any (b bi bl : Nat) (l : Int) (s : St) (p d : ByteArray) (w : World) (h : Ia b bi bl l w s) (hR : Rises s.L) (hf : Fit s) (hp : p.size ≤ 8000000000000) (hd : d.size ≤ 1000000000000000000) :
    Calls Try.prog 53 #[.pointer (some ⟨b, 0, none⟩), .string p, .string d] w fun e w' => e = .returned (.int .i64 (mayWriteS s p d : Nat)) ∧ Below w.heap.size w w' := by
  have c1 := ready1 b bi bl 1 2 l s p w h (by omega) rfl hp
  have c2 := fun W (hW : Below w.heap.size w W) => iHome_any b bi bl l s p W (h.below hW) hp
  have ho := old_le hf p
  have hv := vol_le p
  have c3 := fun W (hW : Ia b bi bl l W s) => iFull_any b bi bl l s (vol p) ((d.size : Int) - (old s.L p).data.size) W hW hR hf (by omega) (by omega)
  have c4 := fun W => iVol_any p W hp
  have hsub := wrap_sub (a := d.size) (by omega) ho
  have HL := Lib.hid (fun W (hW : Below w.heap.size w W) => (h.below hW).look (maxLen_of hp))
  have hlk := fun W (hW : Ia b bi bl l W s) => hW.look (maxLen_of hp)
  have HC := Lib.hid (fun W (hW : Below w.heap.size w W) => (h.below hW).cell.1)
  have HI := Lib.hid (fun W (hW : Below w.heap.size w W) => h.below hW)
  have f0 := fld0
  unfold mayWriteS
  generalize full s (vol p) ((d.size : Int) - (old s.L p).data.size) = B at c3 ⊢
  generalize first s p 1 = E at c1 ⊢
  generalize home s.L p = H at c2 ⊢
  generalize kind s.L p = K at HL hlk ⊢
  generalize (old s.L p).data = X0 at HL hlk c3 hsub
  generalize (old s.L p).kept = X1 at HL hlk
  generalize stOf (old s.L p) = X2 at HL hlk
  generalize ((old s.L p).stamp : Int) = X3 at HL hlk
  generalize vol p = V at c3 c4
  have HLK := Lib.hid hlk
  have HS := Lib.hid hsub
  clear h hlk hsub ho hv hf hR
  by_cases hE : E = 0
  · subst hE
    rw [if_neg (by decide)]
    cases H with
    | false =>
      rw [if_pos rfl]
      go_enter Try.func53, Try.ntmps53
      go_wp2_with (first | (go_at_call 40; refine c1.mono ?_; rintro e w1 ⟨rfl, hb1⟩; have l0 := HL.out _ hb1; have g0 := HC.out _ hb1) | (go_at_call 44; refine (c2 _ hb1).mono ?_; rintro e w2 ⟨rfl, hb2⟩; have hb3 := below_call hb1 hb2; have l1 := HL.out _ hb3; have g1 := HC.out _ hb3))
      go_ret
      exact ⟨rfl, hb3⟩
    | true =>
      rw [if_neg (by decide)]
      by_cases hK : K = 1
      · subst hK
        rw [if_pos rfl]
        go_enter Try.func53, Try.ntmps53
        go_wp2_with (first | (go_at_call 40; refine c1.mono ?_; rintro e w1 ⟨rfl, hb1⟩; have l0 := HL.out _ hb1; have g0 := HC.out _ hb1) | (go_at_call 44; refine (c2 _ hb1).mono ?_; rintro e w2 ⟨rfl, hb2⟩; have hb3 := below_call hb1 hb2; have l1 := HL.out _ hb3; have g1 := HC.out _ hb3))
        go_ret
        exact ⟨rfl, hb3⟩
      · rw [if_neg hK]
        have e1 : ((K : Int) == 1) = false := beq_eq_false_iff_ne.2 (by omega)
        clear hK
        cases B with
        | true =>
          rw [if_pos rfl]
          go_enter Try.func53, Try.ntmps53
          go_wp2_with (first | (go_at_call 40; refine c1.mono ?_; rintro e w1 ⟨rfl, hb1⟩; have l0 := HL.out _ hb1; have g0 := HC.out _ hb1) | (go_at_call 44; refine (c2 _ hb1).mono ?_; rintro e w2 ⟨rfl, hb2⟩; have hb3 := below_call hb1 hb2; have l1 := HL.out _ hb3; have g1 := HC.out _ hb3))
          refine Rg.wp_only ?_ (regMayWrite _ (by kernel_rfl) _ b bi bl l s p d V X0 X1 K X2 X3 true _ (HI.out _ hb3) HLK.out HS.out c4 c3)
          rintro _ w9 ⟨rfl, hb9⟩
          have hb4 := below_call hb3 hb9
          go_wp2_with fail
          go_ret
          exact ⟨rfl, hb4⟩
        | false =>
          rw [if_neg (by decide)]
          go_enter Try.func53, Try.ntmps53
          go_wp2_with (first | (go_at_call 40; refine c1.mono ?_; rintro e w1 ⟨rfl, hb1⟩; have l0 := HL.out _ hb1; have g0 := HC.out _ hb1) | (go_at_call 44; refine (c2 _ hb1).mono ?_; rintro e w2 ⟨rfl, hb2⟩; have hb3 := below_call hb1 hb2; have l1 := HL.out _ hb3; have g1 := HC.out _ hb3))
          refine Rg.wp_only ?_ (regMayWrite _ (by kernel_rfl) _ b bi bl l s p d V X0 X1 K X2 X3 false _ (HI.out _ hb3) HLK.out HS.out c4 c3)
          rintro _ w9 ⟨rfl, hb9⟩
          have hb4 := below_call hb3 hb9
          go_wp2_with fail
          go_ret
          exact ⟨rfl, hb4⟩
  · rw [if_pos hE]
    have e1 := ne_eq hE
    clear hE
    go_enter Try.func53, Try.ntmps53
    go_wp2_with (first | (go_at_call 40; refine c1.mono ?_; rintro e w1 ⟨rfl, hb1⟩; have l0 := HL.out _ hb1; have g0 := HC.out _ hb1) | (go_at_call 44; refine (c2 _ hb1).mono ?_; rintro e w2 ⟨rfl, hb2⟩; have hb3 := below_call hb1 hb2; have l1 := HL.out _ hb3; have g1 := HC.out _ hb3))
    go_ret
    exact ⟨rfl, hb1⟩
set_option maxRecDepth 100000 in
set_option maxHeartbeats 1000000 in
theorem iMayAppend_any (b bi bl : Nat) (l : Int) (s : St) (p d : ByteArray) (w : World) (h : Ia b bi bl l w s) (hR : Rises s.L) (hf : Fit s) (hp : p.size ≤ 8000000000000) (hd : d.size ≤ 1000000000000000000) :
    Calls Try.prog 34 #[.pointer (some ⟨b, 0, none⟩), .string p, .string d] w fun e w' => e = .returned (.int .i64 (mayAppendS s p d : Nat)) ∧ Below w.heap.size w w' := by
  have c1 := iMaySync_any b bi bl l s p w h hp
  have hv := vol_le p
  have c3 := fun W (hW : Below w.heap.size w W) => iFull_any b bi bl l s (vol p) (d.size : Int) W (h.below hW) hR hf (by omega) (by omega)
  have c4 := fun W => iVol_any p W hp
  unfold mayAppendS
  generalize full s (vol p) (d.size : Int) = B at c3 ⊢
  generalize there s p = E at c1 ⊢
  generalize vol p = V at c3 c4
  clear h hv hf hR
  by_cases hE : E = 0
  · subst hE
    rw [if_neg (by decide)]
    cases B with
    | true =>
      rw [if_pos rfl]
      go_enter Try.func34, Try.ntmps34
      go_wp2_with (first | (go_at_call 23; refine c1.mono ?_; rintro e w1 ⟨rfl, hb1⟩) | (go_at_call 47; refine (c4 _).mono ?_; rintro e w2 ⟨rfl, n2, rfl⟩; have hb2 := below_call hb1 (below_drewN _ n2)) | (go_at_call 46; refine (c3 _ hb2).mono ?_; rintro e w3 ⟨rfl, hb3⟩))
      go_ret
      exact ⟨rfl, below_call hb2 hb3⟩
    | false =>
      rw [if_neg (by decide)]
      go_enter Try.func34, Try.ntmps34
      go_wp2_with (first | (go_at_call 23; refine c1.mono ?_; rintro e w1 ⟨rfl, hb1⟩) | (go_at_call 47; refine (c4 _).mono ?_; rintro e w2 ⟨rfl, n2, rfl⟩; have hb2 := below_call hb1 (below_drewN _ n2)) | (go_at_call 46; refine (c3 _ hb2).mono ?_; rintro e w3 ⟨rfl, hb3⟩))
      go_ret
      exact ⟨rfl, below_call hb2 hb3⟩
  · rw [if_pos hE]
    have e1 := ne_eq hE
    clear hE
    go_enter Try.func34, Try.ntmps34
    go_wp2_with (first | (go_at_call 23; refine c1.mono ?_; rintro e w1 ⟨rfl, hb1⟩) | (go_at_call 47; refine (c4 _).mono ?_; rintro e w2 ⟨rfl, n2, rfl⟩; have hb2 := below_call hb1 (below_drewN _ n2)) | (go_at_call 46; refine (c3 _ hb2).mono ?_; rintro e w3 ⟨rfl, hb3⟩))
    go_ret
    exact ⟨rfl, hb1⟩
end Go.Proofs.Ytjdmbkkdnonkkaa.Dk

namespace Go.Proofs.Ytjdmbkkdnonkkaa.Dk
open Go.RowKit Tx Pm Pl Pr
set_option linter.unusedVariables false
structure Box5 (w : World) (g : Nat) (K : Int) (X0 X1 : ByteArray) (X2 X3 : Int) : Prop where
  lt : g < w.heap.size
  c0 : w.cell? ⟨g, 0, none⟩ = some (.int .i64 K)
  c1 : w.cell? ⟨g, 1, none⟩ = some (.string X0)
  c2 : w.cell? ⟨g, 2, none⟩ = some (.string X1)
  c3 : w.cell? ⟨g, 3, none⟩ = some (.int .i64 X2)
  c4 : w.cell? ⟨g, 4, none⟩ = some (.int .i64 X3)
theorem Box5.below {w w1 : World} {g : Nat} {K : Int} {X0 X1 : ByteArray} {X2 X3 : Int} (h : Box5 w g K X0 X1 X2 X3) (hb : Below w.heap.size w w1) : Box5 w1 g K X0 X1 X2 X3 :=
  ⟨Nat.lt_of_lt_of_le h.lt hb.size, (hb.cell (p := ⟨g, 0, none⟩) h.lt).trans h.c0, (hb.cell (p := ⟨g, 1, none⟩) h.lt).trans h.c1, (hb.cell (p := ⟨g, 2, none⟩) h.lt).trans h.c2, (hb.cell (p := ⟨g, 3, none⟩) h.lt).trans h.c3, (hb.cell (p := ⟨g, 4, none⟩) h.lt).trans h.c4⟩
theorem box5_of {w : World} {g : Nat} {K : Int} {X0 X1 : ByteArray} {X2 X3 : Int} {T : TypeId} {fz : Nat × Nat} (h : w.heap[g]? = some (.cells #[.int .i64 K, .string X0, .string X1, .int .i64 X2, .int .i64 X3] T fz)) : Box5 w g K X0 X1 X2 X3 := by
  refine ⟨(Array.getElem?_eq_some_iff.1 h).1, ?_, ?_, ?_, ?_, ?_⟩ <;> · unfold World.cell?; rw [h]; rfl
theorem two_first (w : World) (o o2 : Obj) : ((w.alloc o).alloc o2).drew.heap[w.heap.size]? = some o := by
  have h := (((Below.refl _ (w.alloc o)).alloc (Nat.le_refl _) o2).drew).block w.heap.size (by simp)
  exact h.trans (new_at w o rfl)
theorem two_second (w : World) (o o2 : Obj) : ((w.alloc o).alloc o2).drew.heap[w.heap.size + 1]? = some o2 := new_at (w.alloc o) o2 (by simp)
def firstR (s : St) (f t : ByteArray) : Nat := if first s f 1 ≠ 0 then first s f 1 else first s t 1
def mayRenS (s : St) (f t : ByteArray) : Nat := if firstR s f t ≠ 0 then firstR s f t else if kind s.L f = 0 then 11 else if home s.L t = false then 11 else if kind s.L f = 1 then 12 else if kind s.L t = 1 then 12 else
  if vol f ≠ vol t ∧ full s (vol t) (((old s.L f).data.size : Int) - (old s.L t).data.size) = true then 13 else 0
set_option maxRecDepth 100000 in
set_option maxHeartbeats 4000000 in
theorem iMayRename_any (b bi bl : Nat) (l : Int) (s : St) (f t : ByteArray) (w : World) (h : Ia b bi bl l w s) (hR : Rises s.L) (hf : Fit s) (hpf : f.size ≤ 8000000000000) (hpt : t.size ≤ 8000000000000) :
    Calls Try.prog 55 #[.pointer (some ⟨b, 0, none⟩), .string f, .string t] w fun e w' => e = .returned (.int .i64 (mayRenS s f t : Nat)) ∧ Below w.heap.size w w' := by
  have c1 := ready2 b bi bl 1 2 l s f t w h (by omega) rfl hpf hpt
  have c2 := fun W (hW : Below w.heap.size w W) => iHome_any b bi bl l s t W (h.below hW) hpt
  have ho1 := old_le hf f
  have ho2 := old_le hf t
  have hv := vol_le t
  have c3 := fun W (hW : Ia b bi bl l W s) => iFull_any b bi bl l s (vol t) (((old s.L f).data.size : Int) - (old s.L t).data.size) W hW hR hf (by omega) (by omega)
  have c4 := fun W => iVol_any f W hpf
  have c5 := fun W => iVol_any t W hpt
  have hsub := wrap_sub ho1 ho2
  have hb : b < w.heap.size := h.lt b (.inl rfl)
  have HL := Lib.hid (fun W (hW : Below w.heap.size w W) => (h.below hW).look (maxLen_of hpf))
  have HM := Lib.hid (fun W (hW : Below w.heap.size w W) => (h.below hW).look (maxLen_of hpt))
  have HC := Lib.hid (fun W (hW : Below w.heap.size w W) => (h.below hW).cell.1)
  have HI := Lib.hid (fun W (hW : Below w.heap.size w W) => h.below hW)
  unfold mayRenS
  rw [show (if first s f 1 ≠ 0 then first s f 1 else first s t 1) = firstR s f t from rfl] at c1
  generalize full s (vol t) (((old s.L f).data.size : Int) - (old s.L t).data.size) = B at c3 ⊢
  generalize firstR s f t = E at c1 ⊢
  generalize home s.L t = H at c2 ⊢
  generalize kind s.L f = K at HL ⊢
  generalize kind s.L t = M at HM ⊢
  generalize (old s.L f).data = X0 at HL c3 hsub
  generalize (old s.L f).kept = X1 at HL
  generalize stOf (old s.L f) = X2 at HL
  generalize ((old s.L f).stamp : Int) = X3 at HL
  generalize (old s.L t).data = Y0 at HM c3 hsub
  generalize (old s.L t).kept = Y1 at HM
  generalize stOf (old s.L t) = Y2 at HM
  generalize ((old s.L t).stamp : Int) = Y3 at HM
  generalize vol f = VF at c4 ⊢
  generalize vol t = VT at c3 c5 ⊢
  have HS := Lib.hid hsub
  obtain ⟨RES, hRES⟩ : ∃ RES, RES = if E ≠ 0 then E else if K = 0 then 11 else if H = false then 11 else if K = 1 then 12 else if M = 1 then 12 else if VF ≠ VT ∧ B = true then 13 else 0 := ⟨_, rfl⟩
  rw [← hRES]
  clear h hsub ho1 ho2 hv hf hR
  by_cases hE : E = 0
  · subst hE
    rw [if_neg (by decide)] at hRES
    have HRES := Lib.hid hRES
    clear hRES
    go_enter Try.func55, Try.ntmps55
    go_upto_region 4 with (go_at_call 40; refine c1.mono ?_; rintro e w1 ⟨rfl, hb1⟩)
    go_cut [8, 9] from 11 (fun v1 v2 wq => ∃ gf gg, v1 = .pointer (some ⟨gf, 0, none⟩) ∧ v2 = .pointer (some ⟨gg, 0, none⟩) ∧ Box5 wq gf K X0 X1 X2 X3 ∧ Box5 wq gg M Y0 Y1 Y2 Y3 ∧ Below w.heap.size w wq)
    case first =>
      have hbw : b < w1.heap.size := Nat.lt_of_lt_of_le hb hb1.size
      have B1 := Lib.hid (Below.refl w1.heap.size w1).drew
      have B2 := fun o => ((Below.refl _ w1).alloc (Nat.le_refl _) o).drew
      have B3 := fun o o2 => (((Below.refl _ w1).alloc (Nat.le_refl _) o).alloc (by simp) o2).drew
      have g0 := HC.out _ hb1
      have k1 := HL.out _ (below_call hb1 B1.out)
      have k2 := fun o => HL.out _ (below_call hb1 (B2 o))
      have k3 := fun o o2 => HL.out _ (below_call hb1 (B3 o o2))
      have m1 := HM.out _ (below_call hb1 B1.out)
      have m2 := fun o => HM.out _ (below_call hb1 (B2 o))
      have m3 := fun o o2 => HM.out _ (below_call hb1 (B3 o o2))
      have HB3 := Lib.hid (fun o o2 => below_call hb1 (B3 o o2))
      clear B2 B3 c1 c2 c3 c4 c5
      go_region
      all_goals (go_wp2_with fail; go_meet)
      · exact ⟨_, _, rfl, rfl, box5_of (two_first _ _ _), box5_of (two_second _ _ _), HB3.out _ _⟩
      · exact ⟨_, _, rfl, rfl, box5_of (two_second _ _ _), box5_of (two_first _ _ _), HB3.out _ _⟩
    case rest =>
      obtain ⟨gf, gg, rfl, rfl, hX, hY, hb2⟩ := hcut
      clear c1 hb1
      have HX := Lib.hid (fun W (hW : Below wc.heap.size wc W) => hX.below hW)
      have HY := Lib.hid (fun W (hW : Below wc.heap.size wc W) => hY.below hW)
      have c0X := hX.c0
      have c0Y := hY.c0
      have hgf := hX.lt
      have hgg := hY.lt
      clear hX hY
      have HSZ := Lib.hid hb2.size
      have hvw : ∀ n, Below wc.heap.size wc (wc.drewN n) := fun n => below_drewN wc n
      have HVW := Lib.hid hvw
      clear hvw
      have HCM := Lib.hid (fun W (hW : Below wc.heap.size wc W) => c2 W (below_call hb2 hW))
      clear c2
      have HVB := Lib.hid (fun n => below_drewN wc n)
      by_cases hV : VF = VT
      · have ev : (VF.toList == VT.toList) = true := by rw [hV]; exact beq_self_eq_true _
        have HV := Lib.hid hV
        clear hV
        clear HVW
        by_cases hK0 : K = 0
        · subst hK0
          have HR2 : Hid (RES = 11) := HRES.out.trans (if_pos rfl)
          clear HRES
          go_wp2_with (first | (go_at_call 47; first | ((with_reducible refine (c4 _).mono ?_); rintro e wv ⟨rfl, n4, rfl⟩) | ((with_reducible refine (c5 _).mono ?_); rintro e wv2 ⟨rfl, n5, rfl⟩)) | (go_at_call 44; refine (HCM.out _ (HVB.out _)).mono ?_; rintro e w3 ⟨rfl, hb3⟩; have hb4 := below_call (HVB.out _) hb3; have x0 := (HX.out _ hb4).c0; have y0 := (HY.out _ hb4).c0))
          go_ret
          exact ⟨ret_int (by rw [HR2.out]; rfl), below_call hb2 (HVB.out _)⟩
        · have HR1 := Lib.hid (HRES.out.trans (if_neg hK0))
          have k0 := ne_eq hK0
          clear hK0 HRES
          cases H with
          | false =>
            have HR2 : Hid (RES = 11) := HR1.out.trans (if_pos rfl)
            go_wp2_with (first | (go_at_call 47; first | ((with_reducible refine (c4 _).mono ?_); rintro e wv ⟨rfl, n4, rfl⟩) | ((with_reducible refine (c5 _).mono ?_); rintro e wv2 ⟨rfl, n5, rfl⟩)) | (go_at_call 44; refine (HCM.out _ (HVB.out _)).mono ?_; rintro e w3 ⟨rfl, hb3⟩; have hb4 := below_call (HVB.out _) hb3; have x0 := (HX.out _ hb4).c0; have y0 := (HY.out _ hb4).c0))
            go_ret
            exact ⟨ret_int (by rw [HR2.out]; rfl), below_call hb2 hb4⟩
          | true =>
            have HR3 := Lib.hid (HR1.out.trans (if_neg (by decide)))
            by_cases hK1 : K = 1
            · subst hK1
              have HR2 : Hid (RES = 12) := HR3.out.trans (if_pos rfl)
              clear HR1 HR3
              go_wp2_with (first | (go_at_call 47; first | ((with_reducible refine (c4 _).mono ?_); rintro e wv ⟨rfl, n4, rfl⟩) | ((with_reducible refine (c5 _).mono ?_); rintro e wv2 ⟨rfl, n5, rfl⟩)) | (go_at_call 44; refine (HCM.out _ (HVB.out _)).mono ?_; rintro e w3 ⟨rfl, hb3⟩; have hb4 := below_call (HVB.out _) hb3; have x0 := (HX.out _ hb4).c0; have y0 := (HY.out _ hb4).c0))
              go_ret
              exact ⟨ret_int (by rw [HR2.out]; rfl), below_call hb2 hb4⟩
            · have HR4 := Lib.hid (HR3.out.trans (if_neg hK1))
              have k1 : ((K : Int) == 1) = false := beq_eq_false_iff_ne.2 (by omega)
              clear hK1 HR1 HR3
              by_cases hM1 : M = 1
              · subst hM1
                have HR2 : Hid (RES = 12) := HR4.out.trans (if_pos rfl)
                clear HR4
                go_wp2_with (first | (go_at_call 47; first | ((with_reducible refine (c4 _).mono ?_); rintro e wv ⟨rfl, n4, rfl⟩) | ((with_reducible refine (c5 _).mono ?_); rintro e wv2 ⟨rfl, n5, rfl⟩)) | (go_at_call 44; refine (HCM.out _ (HVB.out _)).mono ?_; rintro e w3 ⟨rfl, hb3⟩; have hb4 := below_call (HVB.out _) hb3; have x0 := (HX.out _ hb4).c0; have y0 := (HY.out _ hb4).c0))
                go_ret
                exact ⟨ret_int (by rw [HR2.out]; rfl), below_call hb2 hb4⟩
              · have HR5 := Lib.hid (HR4.out.trans (if_neg hM1))
                have m1 : ((M : Int) == 1) = false := beq_eq_false_iff_ne.2 (by omega)
                clear hM1 HR4
                have HR2 : Hid (RES = 0) := HR5.out.trans (if_neg (fun e => e.1 HV.out))
                clear HR5
                go_upto_region 12 with (first | (go_at_call 47; first | ((with_reducible refine (c4 _).mono ?_); rintro e wv ⟨rfl, n4, rfl⟩) | ((with_reducible refine (c5 _).mono ?_); rintro e wv2 ⟨rfl, n5, rfl⟩)) | (go_at_call 44; refine (HCM.out _ (HVB.out _)).mono ?_; rintro e w3 ⟨rfl, hb3⟩; have hb4 := below_call (HVB.out _) hb3; have x0 := (HX.out _ hb4).c0; have y0 := (HY.out _ hb4).c0))
                refine Rg.wp_only ?_ (regMayRename0 _ (by kernel_rfl) _ b bi bl gf gg l s t X0 Y0 VT true _ (HI.out _ (below_call hb2 hb4)) (HX.out _ hb4).c1 (HY.out _ hb4).c1)
                rintro _ w9 ⟨rfl, hb9⟩
                go_wp2_with fail
                go_ret
                exact ⟨ret_int (by rw [HR2.out]; rfl), below_call (below_call hb2 hb4) hb9⟩
      · have ev : (VF.toList == VT.toList) = false := bytes_ne hV
        have HV := Lib.hid hV
        clear hV
        clear HVW
        by_cases hK0 : K = 0
        · subst hK0
          have HR2 : Hid (RES = 11) := HRES.out.trans (if_pos rfl)
          clear HRES
          go_wp2_with (first | (go_at_call 47; first | ((with_reducible refine (c4 _).mono ?_); rintro e wv ⟨rfl, n4, rfl⟩) | ((with_reducible refine (c5 _).mono ?_); rintro e wv2 ⟨rfl, n5, rfl⟩)) | (go_at_call 44; refine (HCM.out _ (HVB.out _)).mono ?_; rintro e w3 ⟨rfl, hb3⟩; have hb4 := below_call (HVB.out _) hb3; have x0 := (HX.out _ hb4).c0; have y0 := (HY.out _ hb4).c0))
          go_ret
          exact ⟨ret_int (by rw [HR2.out]; rfl), below_call hb2 (HVB.out _)⟩
        · have HR1 := Lib.hid (HRES.out.trans (if_neg hK0))
          have k0 := ne_eq hK0
          clear hK0 HRES
          cases H with
          | false =>
            have HR2 : Hid (RES = 11) := HR1.out.trans (if_pos rfl)
            go_wp2_with (first | (go_at_call 47; first | ((with_reducible refine (c4 _).mono ?_); rintro e wv ⟨rfl, n4, rfl⟩) | ((with_reducible refine (c5 _).mono ?_); rintro e wv2 ⟨rfl, n5, rfl⟩)) | (go_at_call 44; refine (HCM.out _ (HVB.out _)).mono ?_; rintro e w3 ⟨rfl, hb3⟩; have hb4 := below_call (HVB.out _) hb3; have x0 := (HX.out _ hb4).c0; have y0 := (HY.out _ hb4).c0))
            go_ret
            exact ⟨ret_int (by rw [HR2.out]; rfl), below_call hb2 hb4⟩
          | true =>
            have HR3 := Lib.hid (HR1.out.trans (if_neg (by decide)))
            by_cases hK1 : K = 1
            · subst hK1
              have HR2 : Hid (RES = 12) := HR3.out.trans (if_pos rfl)
              clear HR1 HR3
              go_wp2_with (first | (go_at_call 47; first | ((with_reducible refine (c4 _).mono ?_); rintro e wv ⟨rfl, n4, rfl⟩) | ((with_reducible refine (c5 _).mono ?_); rintro e wv2 ⟨rfl, n5, rfl⟩)) | (go_at_call 44; refine (HCM.out _ (HVB.out _)).mono ?_; rintro e w3 ⟨rfl, hb3⟩; have hb4 := below_call (HVB.out _) hb3; have x0 := (HX.out _ hb4).c0; have y0 := (HY.out _ hb4).c0))
              go_ret
              exact ⟨ret_int (by rw [HR2.out]; rfl), below_call hb2 hb4⟩
            · have HR4 := Lib.hid (HR3.out.trans (if_neg hK1))
              have k1 : ((K : Int) == 1) = false := beq_eq_false_iff_ne.2 (by omega)
              clear hK1 HR1 HR3
              by_cases hM1 : M = 1
              · subst hM1
                have HR2 : Hid (RES = 12) := HR4.out.trans (if_pos rfl)
                clear HR4
                go_wp2_with (first | (go_at_call 47; first | ((with_reducible refine (c4 _).mono ?_); rintro e wv ⟨rfl, n4, rfl⟩) | ((with_reducible refine (c5 _).mono ?_); rintro e wv2 ⟨rfl, n5, rfl⟩)) | (go_at_call 44; refine (HCM.out _ (HVB.out _)).mono ?_; rintro e w3 ⟨rfl, hb3⟩; have hb4 := below_call (HVB.out _) hb3; have x0 := (HX.out _ hb4).c0; have y0 := (HY.out _ hb4).c0))
                go_ret
                exact ⟨ret_int (by rw [HR2.out]; rfl), below_call hb2 hb4⟩
              · have HR5 := Lib.hid (HR4.out.trans (if_neg hM1))
                have m1 : ((M : Int) == 1) = false := beq_eq_false_iff_ne.2 (by omega)
                clear hM1 HR4
                cases B with
                | true =>
                  have HR2 : Hid (RES = 13) := HR5.out.trans (if_pos ⟨HV.out, rfl⟩)
                  clear HR5
                  go_upto_region 12 with (first | (go_at_call 47; first | ((with_reducible refine (c4 _).mono ?_); rintro e wv ⟨rfl, n4, rfl⟩) | ((with_reducible refine (c5 _).mono ?_); rintro e wv2 ⟨rfl, n5, rfl⟩)) | (go_at_call 44; refine (HCM.out _ (HVB.out _)).mono ?_; rintro e w3 ⟨rfl, hb3⟩; have hb4 := below_call (HVB.out _) hb3; have x0 := (HX.out _ hb4).c0; have y0 := (HY.out _ hb4).c0))
                  refine Rg.wp_only ?_ (regMayRename1 _ (by kernel_rfl) _ b bi bl gf gg l s t X0 Y0 VT true _ (HI.out _ (below_call hb2 hb4)) (HX.out _ hb4).c1 (HY.out _ hb4).c1 HS.out c5 c3)
                  rintro _ w9 ⟨rfl, hb9⟩
                  go_wp2_with fail
                  go_ret
                  exact ⟨ret_int (by rw [HR2.out]; rfl), below_call (below_call hb2 hb4) hb9⟩
                | false =>
                  have HR2 : Hid (RES = 0) := HR5.out.trans (if_neg (fun e => by cases e.2))
                  clear HR5
                  go_upto_region 12 with (first | (go_at_call 47; first | ((with_reducible refine (c4 _).mono ?_); rintro e wv ⟨rfl, n4, rfl⟩) | ((with_reducible refine (c5 _).mono ?_); rintro e wv2 ⟨rfl, n5, rfl⟩)) | (go_at_call 44; refine (HCM.out _ (HVB.out _)).mono ?_; rintro e w3 ⟨rfl, hb3⟩; have hb4 := below_call (HVB.out _) hb3; have x0 := (HX.out _ hb4).c0; have y0 := (HY.out _ hb4).c0))
                  refine Rg.wp_only ?_ (regMayRename1 _ (by kernel_rfl) _ b bi bl gf gg l s t X0 Y0 VT false _ (HI.out _ (below_call hb2 hb4)) (HX.out _ hb4).c1 (HY.out _ hb4).c1 HS.out c5 c3)
                  rintro _ w9 ⟨rfl, hb9⟩
                  go_wp2_with fail
                  go_ret
                  exact ⟨ret_int (by rw [HR2.out]; rfl), below_call (below_call hb2 hb4) hb9⟩
  · rw [if_pos hE] at hRES
    have e1 := ne_eq hE
    have HRES := Lib.hid hRES
    clear hE hRES
    go_enter Try.func55, Try.ntmps55
    go_wp2_with (go_at_call 40; refine c1.mono ?_; rintro e w1 ⟨rfl, hb1⟩)
    go_ret
    exact ⟨ret_int (by rw [HRES.out]), hb1⟩
end Go.Proofs.Ytjdmbkkdnonkkaa.Dk

namespace Go.Proofs.Ytjdmbkkdnonkkaa.Dk
open Go.RowKit Tx Pm Pl Pr
set_option linter.unusedVariables false
theorem Mp.put {w : World} {bi : Nat} {L : List It} (h : Mp w bi L) {x : It} {p : ByteArray} {v : Value} (hx : x.path = p) (hv : iv3 x = v) (hp : p.size ≤ 8000000000000) (hn : L.length ≤ 1000000000) :
    ∃ w', (Instr.mapUpdate 44 (.map (some bi)) (.string p) v).run Try.prog w = .ok () w' ∧ Mp w' bi (ins L x) ∧ w.mapTurned w' bi := by
  subst hx
  subst hv
  exact h.store (maxLen_of hp) (by unfold maxLen; omega)
theorem kOf_file {x : It} (h : x.dir = false) : kOf x = 2 := by unfold kOf; rw [h]; rfl
set_option maxRecDepth 100000 in
set_option maxHeartbeats 1000000 in
theorem iWriteC_any (b bi bl bd bp bq : Nat) (l : Int) (s : St) (p d : ByteArray) (w : World) (h : Ia b bi bl l w s) (hd : Cap w bd (.pointer (some ⟨b, 0, none⟩))) (hp : Cap w bp (.string p)) (hq : Cap w bq (.string d)) (hps : p.size ≤ 8000000000000) (hn : s.L.length ≤ 1000000000) (hst : s.stamps ≤ 1000000000000)
    (ho : (old s.L p).dir = false) :
    Calls Try.prog 54 #[.pointer (some ⟨bd, 0, none⟩), .pointer (some ⟨bp, 0, none⟩), .pointer (some ⟨bq, 0, none⟩)] w fun e w' => e = .returned (.tuple #[]) ∧ Ip b bi bl w (putS s { old s.L p with data := d, loose := true, anew := true }) w' := by
  obtain ⟨c0, _⟩ := h.cell
  unfold Cap at hd hp hq
  have h0 := h.below (Below.refl _ w).drew
  have hl := h0.look (maxLen_of hps)
  have cs := iSet_any b bi bl l s { old s.L p with data := d, loose := true, anew := true } 0 p w.drew h0 (old_path _ _) hps hn hst
  have e1 : kOf { old s.L p with data := d, loose := true, anew := true } = 2 := kOf_file ho
  rw [e1] at cs
  have cs : Calls Try.prog 25 #[.pointer (some ⟨b, 0, none⟩), .string p, .agg #[.int .i64 2, .string d, .string (old s.L p).kept, .int .i64 2, .int .i64 0]] w.drew fun e w' => e = .returned (.tuple #[]) ∧ Ip b bi bl w.drew (putS s { old s.L p with data := d, loose := true, anew := true }) w' := cs
  have hf2 := fld2
  have hend : ∀ w', Ip b bi bl w.drew (putS s { old s.L p with data := d, loose := true, anew := true }) w' → Ip b bi bl w (putS s { old s.L p with data := d, loose := true, anew := true }) w' := fun w' hh => Ip.after (Below.refl _ w).drew hh
  have HE := Lib.hid hend
  generalize (putS s { old s.L p with data := d, loose := true, anew := true }) = s' at cs HE ⊢
  generalize (old s.L p).kept = X1 at cs hl
  generalize stOf (old s.L p) = X2 at hl
  clear h h0 hend e1 ho
  go_enter Try.func54, Try.ntmps54
  go_wp2
  go_still_tail 11, (by kernel_rfl)
  change wpList _ _ _ _ _ w.drew
  go_wp2_with (go_at_call 25; refine cs.mono ?_; rintro e w5 ⟨rfl, h5⟩)
  go_end0
  exact ⟨rfl, HE.out _ h5⟩
set_option maxRecDepth 100000 in
set_option maxHeartbeats 1000000 in
theorem iSyncC_any (b bi bl bd bp : Nat) (l : Int) (s : St) (p : ByteArray) (w : World) (h : Ia b bi bl l w s) (hd : Cap w bd (.pointer (some ⟨b, 0, none⟩))) (hp : Cap w bp (.string p)) (hps : p.size ≤ 8000000000000) (hn : s.L.length ≤ 1000000000)
    (ho : kind s.L p = 2) :
    Calls Try.prog 36 #[.pointer (some ⟨bd, 0, none⟩), .pointer (some ⟨bp, 0, none⟩)] w fun e w' => e = .returned (.tuple #[]) ∧ Ip b bi bl w { s with L := ins s.L { old s.L p with kept := (old s.L p).data, loose := false, anew := false } } w' := by
  obtain ⟨c0, _⟩ := h.cell
  unfold Cap at hd hp
  have hl := (h.below (Below.refl _ w).drew).look (maxLen_of hps)
  have hl2 := fun o => (h.below ((Below.refl _ w).alloc (Nat.le_refl _) o).drew).look (maxLen_of hps)
  rw [ho] at hl hl2
  have hod : (old s.L p).dir = false := old_dir (by omega)
  have hbd : bd < w.heap.size := World.block_lt_of_cell? w _ hd
  have hbp : bp < w.heap.size := World.block_lt_of_cell? w _ hp
  have hb : b < w.heap.size := h.lt b (.inl rfl)
  generalize hX0 : (old s.L p).data = X0 at hl hl2
  have hB2 := ((Below.refl _ w).alloc (Nat.le_refl _) (.cells #[.int .i64 2, .string X0, .string X0, .int .i64 0, .int .i64 (old s.L p).stamp] 43)).drew.drew
  have a2 := h.below hB2
  have e1 : iv3 { old s.L p with kept := X0, loose := false, anew := false } = .agg #[.int .i64 2, .string X0, .string X0, .int .i64 0, .int .i64 (old s.L p).stamp] := by
    unfold iv3
    rw [show kOf { old s.L p with kept := X0, loose := false, anew := false } = 2 from kOf_file hod, ← hX0]
    rfl
  obtain ⟨w3, hrun, hm, ht⟩ := a2.items.put (x := { old s.L p with kept := X0, loose := false, anew := false }) (old_path s.L p) e1 hps hn
  have HE := Lib.hid (show Ip b bi bl w { s with L := ins s.L { old s.L p with kept := X0, loose := false, anew := false } } w3 from ⟨l, a2.turned hm ht, (Chg.of_below hB2).then ((turned_chg ht).mono ft_i)⟩)
  generalize stOf (old s.L p) = X2 at hl hl2
  generalize ((old s.L p).stamp : Int) = X3 at hl hl2 hrun
  generalize (old s.L p).kept = X4 at hl hl2
  clear h hB2 a2 hm ht e1 hod ho hX0
  go_enter Try.func36, Try.ntmps36
  go_wp2
  go_region
  all_goals go_wp2
  all_goals go_region
  all_goals (go_end0; exact ⟨rfl, HE.out⟩)
end Go.Proofs.Ytjdmbkkdnonkkaa.Dk

namespace Go.Proofs.Ytjdmbkkdnonkkaa.Dk
open Go.RowKit Tx Pm Pl Pr
set_option linter.unusedVariables false
set_option maxRecDepth 100000 in
set_option maxHeartbeats 2000000 in
theorem iAppendC_any (b bi bl bd bp bq : Nat) (l : Int) (s : St) (p d : ByteArray) (w : World) (h : Ia b bi bl l w s) (hd : Cap w bd (.pointer (some ⟨b, 0, none⟩))) (hp : Cap w bp (.string p)) (hq : Cap w bq (.string d)) (hps : p.size ≤ 8000000000000) (hn : s.L.length ≤ 1000000000) (hst : s.stamps ≤ 1000000000000)
    (ho : kind s.L p = 2) (hca : (old s.L p).loose = false → (old s.L p).anew = false) (hsz : (old s.L p).data.size + d.size ≤ 1000000000000000000) :
    Calls Try.prog 35 #[.pointer (some ⟨bd, 0, none⟩), .pointer (some ⟨bp, 0, none⟩), .pointer (some ⟨bq, 0, none⟩)] w fun e w' => e = .returned (.tuple #[]) ∧ Ip b bi bl w (putS s { old s.L p with data := (old s.L p).data ++ d, loose := true }) w' := by
  obtain ⟨c0, _⟩ := h.cell
  unfold Cap at hd hp hq
  have hbd : bd < w.heap.size := World.block_lt_of_cell? w _ hd
  have hbp : bp < w.heap.size := World.block_lt_of_cell? w _ hp
  have hbq : bq < w.heap.size := World.block_lt_of_cell? w _ hq
  have hb : b < w.heap.size := h.lt b (.inl rfl)
  have hl := (h.below (Below.refl _ w).drew).look (maxLen_of hps)
  have hl2 := fun o => (h.below ((Below.refl _ w).alloc (Nat.le_refl _) o).drew).look (maxLen_of hps)
  rw [ho] at hl hl2
  have hod : (old s.L p).dir = false := old_dir (by omega)
  have hst2 : stOf { old s.L p with data := (old s.L p).data ++ d, loose := true } = if stOf (old s.L p) = 0 then 1 else stOf (old s.L p) := by
    unfold stOf
    cases hlo : (old s.L p).loose with
    | false =>
      rw [hca hlo]
      rfl
    | true => cases (old s.L p).anew <;> rfl
  have hst3 : stOf (old s.L p) = 0 ∨ stOf (old s.L p) = 1 ∨ stOf (old s.L p) = 2 := by
    unfold stOf
    cases (old s.L p).loose <;> cases (old s.L p).anew <;> simp
  have cs := fun W (hW : Below w.heap.size w W) => iSet_any b bi bl l s { old s.L p with data := (old s.L p).data ++ d, loose := true } (old s.L p).stamp p W (h.below hW) (old_path _ _) hps hn hst
  rw [show kOf { old s.L p with data := (old s.L p).data ++ d, loose := true } = 2 from kOf_file hod, hst2] at cs
  simp only at cs
  have HE := Lib.hid (fun W w' (hW : Below w.heap.size w W) (hh : Ip b bi bl W (putS s { old s.L p with data := (old s.L p).data ++ d, loose := true }) w') => Ip.after hW hh)
  generalize (putS s { old s.L p with data := (old s.L p).data ++ d, loose := true }) = s' at cs HE ⊢
  generalize (old s.L p).data = X0 at hl hl2 cs hsz
  generalize (old s.L p).kept = X1 at hl hl2 cs
  generalize ((old s.L p).stamp : Int) = X3 at hl hl2 cs
  generalize stOf (old s.L p) = X2 at hl hl2 cs hst3
  clear h ho hca hod hst2
  have hBW : ∀ o, Below w.heap.size w (w.alloc o).drew := fun o => ((Below.refl _ w).alloc (Nat.le_refl _) o).drew
  have HC := Lib.hid cs
  have HB := Lib.hid hBW
  clear cs hBW
  rcases hst3 with rfl | rfl | rfl
  · go_enter Try.func35, Try.ntmps35
    go_wp2
    go_region
    all_goals go_wp2_with (go_at_call 25; refine (HC.out _ (HB.out _)).mono ?_; rintro e w5 ⟨rfl, h5⟩)
    all_goals (go_end0; exact ⟨rfl, HE.out _ _ (HB.out _) h5⟩)
  · go_enter Try.func35, Try.ntmps35
    go_wp2
    go_region
    all_goals go_wp2_with (go_at_call 25; refine (HC.out _ (HB.out _)).mono ?_; rintro e w5 ⟨rfl, h5⟩)
    all_goals (go_end0; exact ⟨rfl, HE.out _ _ (HB.out _) h5⟩)
  · go_enter Try.func35, Try.ntmps35
    go_wp2
    go_region
    all_goals go_wp2_with (go_at_call 25; refine (HC.out _ (HB.out _)).mono ?_; rintro e w5 ⟨rfl, h5⟩)
    all_goals (go_end0; exact ⟨rfl, HE.out _ _ (HB.out _) h5⟩)
theorem turned_cell {w w' : World} {b i : Nat} (h : w.mapTurned w' b) (hi : i ≠ b) (o : Nat) : w'.cell? ⟨i, o, none⟩ = w.cell? ⟨i, o, none⟩ := by
  unfold World.cell?
  simp only [turned_block h hi]
theorem cell_ne {w : World} {bi : Nat} {L : List It} (h : Mp w bi L) {g : Nat} {o : Nat} {v : Value} (hc : w.cell? ⟨g, o, none⟩ = some v) : g ≠ bi := by
  rintro rfl
  obtain ⟨D, ⟨es, clock, hb, _⟩, _⟩ := h
  unfold World.cell? at hc
  simp [hb] at hc
set_option maxRecDepth 100000 in
set_option maxHeartbeats 2000000 in
theorem iRenameC_any (b bi bl bd bp bq : Nat) (l : Int) (s : St) (f t : ByteArray) (w : World) (h : Ia b bi bl l w s) (hR : Rises s.L) (hd : Cap w bd (.pointer (some ⟨b, 0, none⟩))) (hp : Cap w bp (.string f)) (hq : Cap w bq (.string t)) (hfs : f.size ≤ 8000000000000) (hts : t.size ≤ 8000000000000) (hn : s.L.length ≤ 1000000000) (hst : s.stamps ≤ 1000000000000)
    (ho : kind s.L f = 2) :
    Calls Try.prog 56 #[.pointer (some ⟨bd, 0, none⟩), .pointer (some ⟨bp, 0, none⟩), .pointer (some ⟨bq, 0, none⟩)] w fun e w' => e = .returned (.tuple #[]) ∧ Ip b bi bl w (putS { s with L := drop s.L f } { old s.L f with path := t }) w' := by
  obtain ⟨c0, _⟩ := h.cell
  unfold Cap at hd hp hq
  have hbd : bd < w.heap.size := World.block_lt_of_cell? w _ hd
  have hbp : bp < w.heap.size := World.block_lt_of_cell? w _ hp
  have hbq : bq < w.heap.size := World.block_lt_of_cell? w _ hq
  have hb : b < w.heap.size := h.lt b (.inl rfl)
  have nd := cell_ne h.items hd
  have np := cell_ne h.items hp
  have nq := cell_ne h.items hq
  have nb := h.nb.1
  have nn : w.heap.size ≠ bi := fun e => by have := h.items.lt; omega
  have hl := (h.below (Below.refl _ w).drew).look (maxLen_of hfs)
  have hl2 := fun o => (h.below ((Below.refl _ w).alloc (Nat.le_refl _) o).drew).look (maxLen_of hfs)
  rw [ho] at hl hl2
  have hod : (old s.L f).dir = false := old_dir (by omega)
  have hB2 := ((Below.refl _ w).alloc (Nat.le_refl _) (.cells #[.int .i64 2, .string (old s.L f).data, .string (old s.L f).kept, .int .i64 (stOf (old s.L f)), .int .i64 (old s.L f).stamp] 43)).drew.drew
  have a2 := h.below hB2
  obtain ⟨w3, hrun, hm, ht⟩ := a2.items.del hR (maxLen_of hfs) 0
  have a3 : Ia b bi bl l w3 { s with L := drop s.L f } := a2.turned hm ht
  have hc3 : Chg (Ft b bi bl) w w3 := (Chg.of_below hB2).then ((turned_chg ht).mono ft_i)
  have hbox : w3.cell? ⟨w.heap.size, 0, none⟩ = some (.int .i64 2) ∧ w3.cell? ⟨w.heap.size, 1, none⟩ = some (.string (old s.L f).data) ∧ w3.cell? ⟨w.heap.size, 2, none⟩ = some (.string (old s.L f).kept) ∧ w3.cell? ⟨w.heap.size, 3, none⟩ = some (.int .i64 (stOf (old s.L f))) ∧ w3.cell? ⟨w.heap.size, 4, none⟩ = some (.int .i64 (old s.L f).stamp) := by
    refine ⟨?_, ?_, ?_, ?_, ?_⟩ <;> · rw [turned_cell ht nn]; exact World.cell?_alloc_at _ _ _ _ rfl
  have g0 : w3.cell? ⟨bd, 0, none⟩ = some (.pointer (some ⟨b, 0, none⟩)) := (turned_cell ht nd 0).trans ((World.cell?_alloc_past _ _ _ hbd).trans hd)
  have g1 : w3.cell? ⟨bq, 0, none⟩ = some (.string t) := (turned_cell ht nq 0).trans ((World.cell?_alloc_past _ _ _ hbq).trans hq)
  have cs := iSet_any b bi bl l { s with L := drop s.L f } { old s.L f with path := t } (old s.L f).stamp t w3 a3 rfl hts (Nat.le_trans (drop_in s.L f).2 hn) hst
  rw [show kOf { old s.L f with path := t } = 2 from kOf_file hod] at cs
  have cs : Calls Try.prog 25 #[.pointer (some ⟨b, 0, none⟩), .string t, .agg #[.int .i64 2, .string (old s.L f).data, .string (old s.L f).kept, .int .i64 (stOf (old s.L f)), .int .i64 (old s.L f).stamp]] w3 fun e w' => e = .returned (.tuple #[]) ∧ Ip b bi bl w3 (putS { s with L := drop s.L f } { old s.L f with path := t }) w' := cs
  have hfin : ∀ w', Ip b bi bl w3 (putS { s with L := drop s.L f } { old s.L f with path := t }) w' → Ip b bi bl w (putS { s with L := drop s.L f } { old s.L f with path := t }) w' := fun w' ⟨l2, h1, h2⟩ => ⟨l2, h1, hc3.then h2⟩
  have HE := Lib.hid hfin
  clear h ho hod hB2 a2 a3 hm ht hc3 hfin
  generalize (putS { s with L := drop s.L f } { old s.L f with path := t }) = s' at cs HE ⊢
  generalize (old s.L f).data = X0 at hl hl2 cs hrun hbox
  generalize (old s.L f).kept = X1 at hl hl2 cs hrun hbox
  generalize ((old s.L f).stamp : Int) = X3 at hl hl2 cs hrun hbox
  generalize stOf (old s.L f) = X2 at hl hl2 cs hrun hbox
  obtain ⟨k0, k1, k2, k3, k4⟩ := hbox
  go_enter Try.func56, Try.ntmps56
  go_wp2
  go_region
  all_goals go_wp2
  all_goals go_region
  all_goals go_wp2_with (go_at_call 25; refine cs.mono ?_; rintro e w5 ⟨rfl, h5⟩)
  all_goals (go_end0; exact ⟨rfl, HE.out _ h5⟩)
end Go.Proofs.Ytjdmbkkdnonkkaa.Dk

namespace Go.Proofs.Ytjdmbkkdnonkkaa.Dk
open Go.RowKit Tx Pm Pl Pr
set_option linter.unusedVariables false
theorem cap_chg {w w1 : World} {F : Nat → Prop} {g : Nat} {v : Value} (h : Cap w g v) (hc : Chg F w w1) (hn : ¬ F g) : Cap w1 g v := by
  have hg := World.block_lt_of_cell? w _ h
  unfold Cap World.cell? at *
  rw [hc.block g hg hn]
  exact h
theorem cap_below {w w1 : World} {g : Nat} {v : Value} (h : Cap w g v) (hb : Below w.heap.size w w1) : Cap w1 g v := cap_chg (F := fun _ => False) h ⟨hb.os, hb.tape, hb.output, hb.size, fun i hi _ => hb.block i hi⟩ id
theorem cap_new (w : World) (v : Value) (T : TypeId) : Cap (w.alloc (.cells #[v] T)) w.heap.size v := by
  unfold Cap
  rw [World.cell?_alloc_at _ _ _ _ rfl]
  rfl
theorem first_down {s : St} {p : ByteArray} {m : Nat} (h : first s p m = 0) : s.down = false := by
  unfold first at h
  cases hd : s.down with
  | false => rfl
  | true => rw [hd] at h; cases h
theorem mkdir_step (s : St) (p : ByteArray) : mkdirS s p = stepR s (mayMkdirS s p) { (done s).2 with L := ins (done s).2.L ⟨p, true, ⟨#[]⟩, ⟨#[]⟩, false, false, 0⟩ } := by
  unfold mkdirS mayMkdirS stepR
  by_cases h1 : first s p 0 ≠ 0
  · rw [if_pos h1, if_pos h1, if_pos h1]
  · rw [if_neg h1, if_neg h1]
    by_cases h2 : home s.L p = false
    · rw [if_pos h2, if_pos h2, if_pos (by decide)]
    · rw [if_neg h2, if_neg h2]
      by_cases h3 : kind s.L p = 2
      · rw [if_pos h3, if_pos h3, if_pos (by decide)]
      · rw [if_neg h3, if_neg h3]
        rfl
theorem mayMkdir_down {s : St} {p : ByteArray} (h : mayMkdirS s p = 0) : s.down = false := by
  unfold mayMkdirS at h
  split at h
  · rename_i h1; exact absurd h h1
  · rename_i h1; exact first_down (p := p) (m := 0) (by omega)
theorem write_step {s : St} (hg : Good s) (p d : ByteArray) : writeS s p d = stepR s (mayWriteS s p d) (putS (done s).2 { old s.L p with data := d, loose := true, anew := true }) := by
  unfold writeS mayWriteS stepR
  rw [fits_full hg]
  by_cases h1 : first s p 1 ≠ 0
  · rw [if_pos h1, if_pos h1, if_pos h1]
  · rw [if_neg h1, if_neg h1]
    by_cases h2 : home s.L p = false
    · rw [if_pos h2, if_pos h2, if_pos (by decide)]
    · rw [if_neg h2, if_neg h2]
      by_cases h3 : kind s.L p = 1
      · rw [if_pos h3, if_pos h3, if_pos (by decide)]
      · rw [if_neg h3, if_neg h3]
        cases full s (vol p) ((d.size : Int) - (old s.L p).data.size) with
        | true => rfl
        | false => rfl
theorem mayWrite_ok {s : St} {p d : ByteArray} (h : mayWriteS s p d = 0) : s.down = false ∧ kind s.L p ≠ 1 := by
  unfold mayWriteS at h
  split at h
  · rename_i h1; exact absurd h h1
  rename_i h1
  split at h
  · cases h
  split at h
  · cases h
  rename_i h3
  exact ⟨first_down (p := p) (m := 1) (by omega), h3⟩
theorem append_step {s : St} (hg : Good s) (p d : ByteArray) : appendS s p d = stepR s (mayAppendS s p d) (putS (done s).2 { old s.L p with data := (old s.L p).data ++ d, loose := true }) := by
  unfold appendS mayAppendS stepR
  rw [fits_full hg]
  by_cases h1 : there s p ≠ 0
  · rw [if_pos h1, if_pos h1, if_pos h1]
  · rw [if_neg h1, if_neg h1]
    cases full s (vol p) (d.size : Int) with
    | true => rfl
    | false => rfl
theorem there_kind {s : St} {p : ByteArray} (h : there s p = 0) : s.down = false ∧ kind s.L p = 2 := by
  unfold there at h
  split at h
  · rename_i h1; exact absurd h h1
  rename_i h1
  split at h
  · cases h
  split at h
  · cases h
  rename_i h2 h3
  refine ⟨first_down (p := p) (m := 1) (by omega), ?_⟩
  rcases kind_le s.L p with e | e | e
  · exact absurd e h2
  · exact absurd e h3
  · exact e
theorem mayAppend_ok {s : St} {p d : ByteArray} (h : mayAppendS s p d = 0) : s.down = false ∧ kind s.L p = 2 := by
  unfold mayAppendS at h
  split at h
  · rename_i h1; exact absurd h h1
  · rename_i h1; exact there_kind (by omega)
theorem sync_step (s : St) (p : ByteArray) : syncS s p = stepR s (there s p) { (done s).2 with L := ins (done s).2.L { old s.L p with kept := (old s.L p).data, loose := false, anew := false } } := rfl
theorem rename_step {s : St} (hg : Good s) (f t : ByteArray) : renameS s f t = stepR s (mayRenS s f t) (putS { (done s).2 with L := drop (done s).2.L f } { old s.L f with path := t }) := by
  unfold renameS mayRenS stepR firstR
  by_cases h1 : first s f 1 ≠ 0
  · rw [if_pos h1, if_pos h1, if_pos h1, if_pos h1]
  rw [if_neg h1, if_neg h1]
  by_cases h2 : first s t 1 ≠ 0
  · rw [if_pos h2, if_pos h2, if_pos h2]
  rw [if_neg h2, if_neg h2]
  by_cases h3 : kind s.L f = 0
  · rw [if_pos (.inl h3), if_pos h3, if_pos (by decide)]
  rw [if_neg h3]
  by_cases h4 : home s.L t = false
  · rw [if_pos (.inr h4), if_pos h4, if_pos (by decide)]
  rw [if_neg (by rintro (h | h) <;> contradiction), if_neg h4]
  by_cases h5 : kind s.L f = 1
  · rw [if_pos (.inl h5), if_pos h5, if_pos (by decide)]
  rw [if_neg h5]
  by_cases h6 : kind s.L t = 1
  · rw [if_pos (.inr h6), if_pos h6, if_pos (by decide)]
  rw [if_neg (by rintro (h | h) <;> contradiction), if_neg h6]
  have e : (f ≠ t ∧ fits s t (moreS s.L f t) = false) ↔ (vol f ≠ vol t ∧ full s (vol t) (((old s.L f).data.size : Int) - (old s.L t).data.size) = true) := by
    rw [fits_full hg]
    by_cases hv : vol f = vol t
    · have hm : moreS s.L f t ≤ 0 := by
        unfold moreS
        rw [if_pos hv]
        split <;> omega
      have hf : full s (vol t) (moreS s.L f t) = false := by
        unfold full
        cases roomOf s.rooms (vol t) with
        | none => rfl
        | some r => simp only; rw [decide_eq_false (by omega), Bool.false_and]
      constructor
      · rintro ⟨_, h⟩
        rw [hf] at h
        cases h
      · rintro ⟨h, _⟩
        exact absurd hv h
    · have hft : f ≠ t := fun e => hv (by rw [e])
      have hm : moreS s.L f t = ((old s.L f).data.size : Int) - (old s.L t).data.size := by
        unfold moreS
        rw [if_neg hv]
        rcases kind_le s.L t with k | k | k
        · have ho : old s.L t = mk t := by
            unfold old
            cases hx : find s.L t with
            | none => rfl
            | some x =>
              unfold kind at k
              rw [hx] at k
              unfold kindOf at k
              simp only at k
              split at k <;> cases k
          rw [if_neg (by omega), ho]
          rfl
        · exact absurd k h6
        · rw [if_pos k]
      rw [hm]
      constructor
      · rintro ⟨_, h⟩
        refine ⟨hv, ?_⟩
        cases hb : full s (vol t) (((old s.L f).data.size : Int) - (old s.L t).data.size) with
        | true => rfl
        | false => rw [hb] at h; cases h
      · rintro ⟨_, h⟩
        refine ⟨hft, ?_⟩
        rw [h]
        rfl
  by_cases h7 : f ≠ t ∧ fits s t (moreS s.L f t) = false
  · rw [if_pos h7, if_pos (e.1 h7), if_pos (by decide)]
  · rw [if_neg h7, if_neg (fun h => h7 (e.2 h))]
    rfl
theorem mayRen_ok {s : St} {f t : ByteArray} (h : mayRenS s f t = 0) : s.down = false ∧ kind s.L f = 2 := by
  unfold mayRenS at h
  split at h
  · rename_i h1; exact absurd h h1
  rename_i h1
  split at h
  · cases h
  rename_i h2
  split at h
  · cases h
  split at h
  · cases h
  rename_i h3
  have hf : first s f 1 = 0 := by
    unfold firstR at h1
    by_cases hq : first s f 1 = 0
    · exact hq
    · rw [if_pos hq] at h1
      omega
  refine ⟨first_down hf, ?_⟩
  rcases kind_le s.L f with e | e | e
  · exact absurd e h2
  · exact absurd e h3
  · exact e
set_option maxRecDepth 100000 in
set_option maxHeartbeats 2000000 in
theorem iMkdir_any (b bi bl : Nat) (l : Int) (s : St) (p : ByteArray) (w : World) (h : Ia b bi bl l w s) (hg : Good s) (ok : Ok s) (hp : p.size ≤ 8000000000000) :
    Calls Try.prog 16 #[.pointer (some ⟨b, 0, none⟩), .string p] w fun e w' => e = .returned (.int .i64 ((mkdirS s p).1 : Nat)) ∧ Ip b bi bl w (mkdirS s p).2 w' := by
  have hft := h.lt
  have hn := ok.fit.1
  have hst : (done s).2.stamps ≤ 1000000000000 := by rw [done_stamps]; exact ok.stamps
  have eL := done_L s
  rw [mkdir_step]
  obtain ⟨S', hS'⟩ : ∃ S', S' = { (done s).2 with L := ins (done s).2.L ⟨p, true, ⟨#[]⟩, ⟨#[]⟩, false, false, 0⟩ } := ⟨_, rfl⟩
  rw [← hS']
  have hb1 := (Below.refl w.heap.size w).alloc (Nat.le_refl _) (.cells #[.pointer (some ⟨b, 0, none⟩)] 23)
  have k1 := cap_new w (.pointer (some ⟨b, 0, none⟩)) 23
  have k2 := cap_new (w.alloc (.cells #[.pointer (some ⟨b, 0, none⟩)] 23)) (.string p) 9
  have hs1 : (w.alloc (.cells #[.pointer (some ⟨b, 0, none⟩)] 23)).heap.size = w.heap.size + 1 := by simp
  rw [hs1] at k2
  have hb2 := hb1.alloc (by simp) (.cells #[.string p] 9)
  have k1 := cap_below k1 ((Below.refl _ _).alloc (Nat.le_refl _) (.cells #[.string p] 9))
  obtain ⟨W1, hW1⟩ : ∃ W1, W1 = ((w.alloc (.cells #[.pointer (some ⟨b, 0, none⟩)] 23)).alloc (.cells #[.string p] 9)) := ⟨_, rfl⟩
  rw [← hW1] at k1 k2 hb2
  have hb3 : Below w.heap.size w W1.drew := hb2.drew
  have cm := iMayMkdir_any b bi bl l s p W1.drew (h.below hb3) hp
  have hen : ∀ W, (callFunc 30 #[.pointer (some ⟨w.heap.size, 0, none⟩), .pointer (some ⟨w.heap.size + 1, 0, none⟩)]).run Try.prog W = .ok (.enter 30 #[.pointer (some ⟨w.heap.size, 0, none⟩), .pointer (some ⟨w.heap.size + 1, 0, none⟩)]) W :=
    fun W => Rg.enters Try.func30 (by kernel_rfl) (by kernel_rfl) _ W
  have ct : ∀ W, Below W1.heap.size W1 W → Calls Try.prog 28 #[.pointer (some ⟨b, 0, none⟩), .int .i64 (mayMkdirS s p : Nat), .func (.func 30) #[] #[.pointer (some ⟨w.heap.size, 0, none⟩), .pointer (some ⟨w.heap.size + 1, 0, none⟩)]] W fun e w' => e = .returned (.int .i64 ((stepR s (mayMkdirS s p) S').1 : Nat)) ∧
      (Ip b bi bl w (stepR s (mayMkdirS s p) S').2 w' ∧ Cap w' w.heap.size (.pointer (some ⟨b, 0, none⟩)) ∧ Cap w' (w.heap.size + 1) (.string p)) := by
    intro W hW
    have hbW := below_call hb2 hW
    have j1 := cap_below k1 hW
    have j2 := cap_below k2 hW
    have hnf : ∀ k, ¬ Ft b bi bl (w.heap.size + k) := fun k hk => by have := hft _ hk; omega
    refine (iStep_any b bi bl l s _ _ _ S' W (h.below hbW) (fun e => mayMkdir_down e) ok.steps hen (fun l1 W2 hr _ hI hc => ?_)).mono ?_
    · have m1 := cap_chg j1 hc (fun e => by have := hft b (.inl rfl); omega)
      have m2 := cap_chg j2 hc (fun e => by have := hft b (.inl rfl); omega)
      rw [hS']
      exact iMkdirC_any b bi bl _ _ l1 _ p W2 hI m1 m2 hp (by rw [eL]; exact hn)
    · rintro e w' ⟨rfl, l5, h5, hc5⟩
      exact ⟨rfl, ⟨l5, h5, (Chg.of_below hbW).then hc5⟩, cap_chg j1 hc5 (hnf 0), cap_chg j2 hc5 (hnf 1)⟩
  generalize stepR s (mayMkdirS s p) S' = RES at ct ⊢
  generalize mayMkdirS s p = r at cm ct
  have HW1 := Lib.hid hW1
  clear h hg ok hS' hst eL hn hft hb1 hb2 hb3 hen
  go_enter Try.func16, Try.ntmps16
  go_wp2_with fail
  rw [← HW1.out]
  refine Rg.wp_only ?_ (regMkdir _ (by kernel_rfl) _ w.heap.size (w.heap.size + 1) (.pointer (some ⟨b, 0, none⟩)) p r RES.1 W1 (fun W => Below W1.heap.size W1 W) (fun W => Ip b bi bl w RES.2 W ∧ Cap W w.heap.size (.pointer (some ⟨b, 0, none⟩)) ∧ Cap W (w.heap.size + 1) (.string p)) ⟨k1, k2⟩ (cm.mono (fun e w' he => ⟨he.1, (Below.refl _ W1).drew.trans he.2⟩)) (fun W hW => ⟨cap_below k1 hW, cap_below k2 hW⟩) ct (fun W hW => hW.2))
  rintro _ w9 ⟨rfl, h9⟩
  go_wp2_with fail
  go_ret
  exact ⟨rfl, h9.1⟩
set_option maxRecDepth 100000 in
set_option maxHeartbeats 2000000 in
theorem iWrite_any (b bi bl : Nat) (l : Int) (s : St) (p q : ByteArray) (w : World) (h : Ia b bi bl l w s) (hg : Good s) (ok : Ok s) (hp : p.size ≤ 8000000000000) (hq : q.size ≤ 1000000000000000000) :
    Calls Try.prog 42 #[.pointer (some ⟨b, 0, none⟩), .string p, .string q] w fun e w' => e = .returned (.int .i64 ((writeS s p q).1 : Nat)) ∧ Ip b bi bl w (writeS s p q).2 w' := by
  have hft := h.lt
  have hn := ok.fit.1
  have hst : (done s).2.stamps ≤ 1000000000000 := by rw [done_stamps]; exact ok.stamps
  have eL := done_L s
  rw [write_step hg]
  obtain ⟨S', hS'⟩ : ∃ S', S' = putS (done s).2 { old s.L p with data := q, loose := true, anew := true } := ⟨_, rfl⟩
  rw [← hS']
  have hb1 := (Below.refl w.heap.size w).alloc (Nat.le_refl _) (.cells #[.pointer (some ⟨b, 0, none⟩)] 23)
  have k1 := cap_new w (.pointer (some ⟨b, 0, none⟩)) 23
  have k2 := cap_new (w.alloc (.cells #[.pointer (some ⟨b, 0, none⟩)] 23)) (.string p) 9
  have hs1 : (w.alloc (.cells #[.pointer (some ⟨b, 0, none⟩)] 23)).heap.size = w.heap.size + 1 := by simp
  rw [hs1] at k2
  have hb2 := hb1.alloc (by simp) (.cells #[.string p] 9)
  have k1 := cap_below k1 ((Below.refl _ _).alloc (Nat.le_refl _) (.cells #[.string p] 9))
  have k3 := cap_new ((w.alloc (.cells #[.pointer (some ⟨b, 0, none⟩)] 23)).alloc (.cells #[.string p] 9)) (.string q) 9
  have hs2 : ((w.alloc (.cells #[.pointer (some ⟨b, 0, none⟩)] 23)).alloc (.cells #[.string p] 9)).heap.size = w.heap.size + 1 + 1 := by simp
  rw [hs2] at k3
  have hb2 := hb2.alloc (by simp; omega) (.cells #[.string q] 9)
  have k1 := cap_below k1 ((Below.refl _ _).alloc (Nat.le_refl _) (.cells #[.string q] 9))
  have k2 := cap_below k2 ((Below.refl _ _).alloc (Nat.le_refl _) (.cells #[.string q] 9))
  obtain ⟨W1, hW1⟩ : ∃ W1, W1 = ((w.alloc (.cells #[.pointer (some ⟨b, 0, none⟩)] 23)).alloc (.cells #[.string p] 9)).alloc (.cells #[.string q] 9) := ⟨_, rfl⟩
  rw [← hW1] at k1 k2 k3 hb2
  have hb3 : Below w.heap.size w W1.drew := hb2.drew
  have cm := iMayWrite_any b bi bl l s p q W1.drew (h.below hb3) hg.rises ok.fit hp hq
  have hen : ∀ W, (callFunc 54 #[.pointer (some ⟨w.heap.size, 0, none⟩), .pointer (some ⟨w.heap.size + 1, 0, none⟩), .pointer (some ⟨w.heap.size + 1 + 1, 0, none⟩)]).run Try.prog W = .ok (.enter 54 #[.pointer (some ⟨w.heap.size, 0, none⟩), .pointer (some ⟨w.heap.size + 1, 0, none⟩), .pointer (some ⟨w.heap.size + 1 + 1, 0, none⟩)]) W :=
    fun W => Rg.enters Try.func54 (by kernel_rfl) (by kernel_rfl) _ W
  have ct : ∀ W, Below W1.heap.size W1 W → Calls Try.prog 28 #[.pointer (some ⟨b, 0, none⟩), .int .i64 (mayWriteS s p q : Nat), .func (.func 54) #[] #[.pointer (some ⟨w.heap.size, 0, none⟩), .pointer (some ⟨w.heap.size + 1, 0, none⟩), .pointer (some ⟨w.heap.size + 1 + 1, 0, none⟩)]] W fun e w' => e = .returned (.int .i64 ((stepR s (mayWriteS s p q) S').1 : Nat)) ∧
      (Ip b bi bl w (stepR s (mayWriteS s p q) S').2 w' ∧ Cap w' w.heap.size (.pointer (some ⟨b, 0, none⟩)) ∧ Cap w' (w.heap.size + 1) (.string p) ∧ Cap w' (w.heap.size + 1 + 1) (.string q)) := by
    intro W hW
    have hbW := below_call hb2 hW
    have j1 := cap_below k1 hW
    have j2 := cap_below k2 hW
    have j3 := cap_below k3 hW
    have hnf : ∀ k, ¬ Ft b bi bl (w.heap.size + k) := fun k hk => by have := hft _ hk; omega
    refine (iStep_any b bi bl l s _ _ _ S' W (h.below hbW) (fun e => (mayWrite_ok e).1) ok.steps hen (fun l1 W2 hr _ hI hc => ?_)).mono ?_
    · have m1 := cap_chg j1 hc (fun e => by have := hft b (.inl rfl); omega)
      have m2 := cap_chg j2 hc (fun e => by have := hft b (.inl rfl); omega)
      have m3 := cap_chg j3 hc (fun e => by have := hft b (.inl rfl); omega)
      rw [hS']
      have c9 := iWriteC_any b bi bl _ _ _ l1 _ p q W2 hI m1 m2 m3 hp (by rw [eL]; exact hn) hst (by rw [eL]; exact old_dir (mayWrite_ok hr).2)
      rw [eL] at c9
      exact c9
    · rintro e w' ⟨rfl, l5, h5, hc5⟩
      exact ⟨rfl, ⟨l5, h5, (Chg.of_below hbW).then hc5⟩, cap_chg j1 hc5 (hnf 0), cap_chg j2 hc5 (hnf 1), cap_chg j3 hc5 (hnf 2)⟩
  generalize stepR s (mayWriteS s p q) S' = RES at ct ⊢
  generalize mayWriteS s p q = r at cm ct
  have HW1 := Lib.hid hW1
  clear h hg ok hS' hst eL hn hft hb1 hb2 hb3 hen
  go_enter Try.func42, Try.ntmps42
  go_wp2_with fail
  rw [← HW1.out]
  refine Rg.wp_only ?_ (regWrite _ (by kernel_rfl) _ w.heap.size (w.heap.size + 1) (w.heap.size + 1 + 1) (.pointer (some ⟨b, 0, none⟩)) p q r RES.1 W1 (fun W => Below W1.heap.size W1 W) (fun W => Ip b bi bl w RES.2 W ∧ Cap W w.heap.size (.pointer (some ⟨b, 0, none⟩)) ∧ Cap W (w.heap.size + 1) (.string p) ∧ Cap W (w.heap.size + 1 + 1) (.string q)) ⟨k1, k2, k3⟩ (cm.mono (fun e w' he => ⟨he.1, (Below.refl _ W1).drew.trans he.2⟩)) (fun W hW => ⟨cap_below k1 hW, cap_below k2 hW, cap_below k3 hW⟩) ct (fun W hW => hW.2))
  rintro _ w9 ⟨rfl, h9⟩
  go_wp2_with fail
  go_ret
  exact ⟨rfl, h9.1⟩
set_option maxRecDepth 100000 in
set_option maxHeartbeats 2000000 in
theorem iAppend_any (b bi bl : Nat) (l : Int) (s : St) (p q : ByteArray) (w : World) (h : Ia b bi bl l w s) (hg : Good s) (ok : Ok s) (hp : p.size ≤ 8000000000000) (hq : q.size ≤ 1000000000000000000) (hsz : (old s.L p).data.size + q.size ≤ 1000000000000000000) :
    Calls Try.prog 18 #[.pointer (some ⟨b, 0, none⟩), .string p, .string q] w fun e w' => e = .returned (.int .i64 ((appendS s p q).1 : Nat)) ∧ Ip b bi bl w (appendS s p q).2 w' := by
  have hft := h.lt
  have hn := ok.fit.1
  have hst : (done s).2.stamps ≤ 1000000000000 := by rw [done_stamps]; exact ok.stamps
  have eL := done_L s
  rw [append_step hg]
  obtain ⟨S', hS'⟩ : ∃ S', S' = putS (done s).2 { old s.L p with data := (old s.L p).data ++ q, loose := true } := ⟨_, rfl⟩
  rw [← hS']
  have hb1 := (Below.refl w.heap.size w).alloc (Nat.le_refl _) (.cells #[.pointer (some ⟨b, 0, none⟩)] 23)
  have k1 := cap_new w (.pointer (some ⟨b, 0, none⟩)) 23
  have k2 := cap_new (w.alloc (.cells #[.pointer (some ⟨b, 0, none⟩)] 23)) (.string p) 9
  have hs1 : (w.alloc (.cells #[.pointer (some ⟨b, 0, none⟩)] 23)).heap.size = w.heap.size + 1 := by simp
  rw [hs1] at k2
  have hb2 := hb1.alloc (by simp) (.cells #[.string p] 9)
  have k1 := cap_below k1 ((Below.refl _ _).alloc (Nat.le_refl _) (.cells #[.string p] 9))
  have k3 := cap_new ((w.alloc (.cells #[.pointer (some ⟨b, 0, none⟩)] 23)).alloc (.cells #[.string p] 9)) (.string q) 9
  have hs2 : ((w.alloc (.cells #[.pointer (some ⟨b, 0, none⟩)] 23)).alloc (.cells #[.string p] 9)).heap.size = w.heap.size + 1 + 1 := by simp
  rw [hs2] at k3
  have hb2 := hb2.alloc (by simp; omega) (.cells #[.string q] 9)
  have k1 := cap_below k1 ((Below.refl _ _).alloc (Nat.le_refl _) (.cells #[.string q] 9))
  have k2 := cap_below k2 ((Below.refl _ _).alloc (Nat.le_refl _) (.cells #[.string q] 9))
  obtain ⟨W1, hW1⟩ : ∃ W1, W1 = ((w.alloc (.cells #[.pointer (some ⟨b, 0, none⟩)] 23)).alloc (.cells #[.string p] 9)).alloc (.cells #[.string q] 9) := ⟨_, rfl⟩
  rw [← hW1] at k1 k2 k3 hb2
  have hb3 : Below w.heap.size w W1.drew := hb2.drew
  have cm := iMayAppend_any b bi bl l s p q W1.drew (h.below hb3) hg.rises ok.fit hp (by omega)
  have hen : ∀ W, (callFunc 35 #[.pointer (some ⟨w.heap.size, 0, none⟩), .pointer (some ⟨w.heap.size + 1, 0, none⟩), .pointer (some ⟨w.heap.size + 1 + 1, 0, none⟩)]).run Try.prog W = .ok (.enter 35 #[.pointer (some ⟨w.heap.size, 0, none⟩), .pointer (some ⟨w.heap.size + 1, 0, none⟩), .pointer (some ⟨w.heap.size + 1 + 1, 0, none⟩)]) W :=
    fun W => Rg.enters Try.func35 (by kernel_rfl) (by kernel_rfl) _ W
  have ct : ∀ W, Below W1.heap.size W1 W → Calls Try.prog 28 #[.pointer (some ⟨b, 0, none⟩), .int .i64 (mayAppendS s p q : Nat), .func (.func 35) #[] #[.pointer (some ⟨w.heap.size, 0, none⟩), .pointer (some ⟨w.heap.size + 1, 0, none⟩), .pointer (some ⟨w.heap.size + 1 + 1, 0, none⟩)]] W fun e w' => e = .returned (.int .i64 ((stepR s (mayAppendS s p q) S').1 : Nat)) ∧
      (Ip b bi bl w (stepR s (mayAppendS s p q) S').2 w' ∧ Cap w' w.heap.size (.pointer (some ⟨b, 0, none⟩)) ∧ Cap w' (w.heap.size + 1) (.string p) ∧ Cap w' (w.heap.size + 1 + 1) (.string q)) := by
    intro W hW
    have hbW := below_call hb2 hW
    have j1 := cap_below k1 hW
    have j2 := cap_below k2 hW
    have j3 := cap_below k3 hW
    have hnf : ∀ k, ¬ Ft b bi bl (w.heap.size + k) := fun k hk => by have := hft _ hk; omega
    refine (iStep_any b bi bl l s _ _ _ S' W (h.below hbW) (fun e => (mayAppend_ok e).1) ok.steps hen (fun l1 W2 hr _ hI hc => ?_)).mono ?_
    · have m1 := cap_chg j1 hc (fun e => by have := hft b (.inl rfl); omega)
      have m2 := cap_chg j2 hc (fun e => by have := hft b (.inl rfl); omega)
      have m3 := cap_chg j3 hc (fun e => by have := hft b (.inl rfl); omega)
      rw [hS']
      have c9 := iAppendC_any b bi bl _ _ _ l1 _ p q W2 hI m1 m2 m3 hp (by rw [eL]; exact hn) hst (by rw [eL]; exact (mayAppend_ok hr).2) (by rw [eL]; exact calm_old hg p) (by rw [eL]; exact hsz)
      rw [eL] at c9
      exact c9
    · rintro e w' ⟨rfl, l5, h5, hc5⟩
      exact ⟨rfl, ⟨l5, h5, (Chg.of_below hbW).then hc5⟩, cap_chg j1 hc5 (hnf 0), cap_chg j2 hc5 (hnf 1), cap_chg j3 hc5 (hnf 2)⟩
  generalize stepR s (mayAppendS s p q) S' = RES at ct ⊢
  generalize mayAppendS s p q = r at cm ct
  have HW1 := Lib.hid hW1
  clear h hg ok hS' hst eL hn hft hb1 hb2 hb3 hen
  go_enter Try.func18, Try.ntmps18
  go_wp2_with fail
  rw [← HW1.out]
  refine Rg.wp_only ?_ (regAppend _ (by kernel_rfl) _ w.heap.size (w.heap.size + 1) (w.heap.size + 1 + 1) (.pointer (some ⟨b, 0, none⟩)) p q r RES.1 W1 (fun W => Below W1.heap.size W1 W) (fun W => Ip b bi bl w RES.2 W ∧ Cap W w.heap.size (.pointer (some ⟨b, 0, none⟩)) ∧ Cap W (w.heap.size + 1) (.string p) ∧ Cap W (w.heap.size + 1 + 1) (.string q)) ⟨k1, k2, k3⟩ (cm.mono (fun e w' he => ⟨he.1, (Below.refl _ W1).drew.trans he.2⟩)) (fun W hW => ⟨cap_below k1 hW, cap_below k2 hW, cap_below k3 hW⟩) ct (fun W hW => hW.2))
  rintro _ w9 ⟨rfl, h9⟩
  go_wp2_with fail
  go_ret
  exact ⟨rfl, h9.1⟩
set_option maxRecDepth 100000 in
set_option maxHeartbeats 2000000 in
theorem iSync_any (b bi bl : Nat) (l : Int) (s : St) (p : ByteArray) (w : World) (h : Ia b bi bl l w s) (hg : Good s) (ok : Ok s) (hp : p.size ≤ 8000000000000) :
    Calls Try.prog 19 #[.pointer (some ⟨b, 0, none⟩), .string p] w fun e w' => e = .returned (.int .i64 ((syncS s p).1 : Nat)) ∧ Ip b bi bl w (syncS s p).2 w' := by
  have hft := h.lt
  have hn := ok.fit.1
  have hst : (done s).2.stamps ≤ 1000000000000 := by rw [done_stamps]; exact ok.stamps
  have eL := done_L s
  rw [sync_step]
  obtain ⟨S', hS'⟩ : ∃ S', S' = { (done s).2 with L := ins (done s).2.L { old s.L p with kept := (old s.L p).data, loose := false, anew := false } } := ⟨_, rfl⟩
  rw [← hS']
  have hb1 := (Below.refl w.heap.size w).alloc (Nat.le_refl _) (.cells #[.pointer (some ⟨b, 0, none⟩)] 23)
  have k1 := cap_new w (.pointer (some ⟨b, 0, none⟩)) 23
  have k2 := cap_new (w.alloc (.cells #[.pointer (some ⟨b, 0, none⟩)] 23)) (.string p) 9
  have hs1 : (w.alloc (.cells #[.pointer (some ⟨b, 0, none⟩)] 23)).heap.size = w.heap.size + 1 := by simp
  rw [hs1] at k2
  have hb2 := hb1.alloc (by simp) (.cells #[.string p] 9)
  have k1 := cap_below k1 ((Below.refl _ _).alloc (Nat.le_refl _) (.cells #[.string p] 9))
  obtain ⟨W1, hW1⟩ : ∃ W1, W1 = ((w.alloc (.cells #[.pointer (some ⟨b, 0, none⟩)] 23)).alloc (.cells #[.string p] 9)) := ⟨_, rfl⟩
  rw [← hW1] at k1 k2 hb2
  have hb3 : Below w.heap.size w W1.drew := hb2.drew
  have cm := iMaySync_any b bi bl l s p W1.drew (h.below hb3) hp
  have hen : ∀ W, (callFunc 36 #[.pointer (some ⟨w.heap.size, 0, none⟩), .pointer (some ⟨w.heap.size + 1, 0, none⟩)]).run Try.prog W = .ok (.enter 36 #[.pointer (some ⟨w.heap.size, 0, none⟩), .pointer (some ⟨w.heap.size + 1, 0, none⟩)]) W :=
    fun W => Rg.enters Try.func36 (by kernel_rfl) (by kernel_rfl) _ W
  have ct : ∀ W, Below W1.heap.size W1 W → Calls Try.prog 28 #[.pointer (some ⟨b, 0, none⟩), .int .i64 (there s p : Nat), .func (.func 36) #[] #[.pointer (some ⟨w.heap.size, 0, none⟩), .pointer (some ⟨w.heap.size + 1, 0, none⟩)]] W fun e w' => e = .returned (.int .i64 ((stepR s (there s p) S').1 : Nat)) ∧
      (Ip b bi bl w (stepR s (there s p) S').2 w' ∧ Cap w' w.heap.size (.pointer (some ⟨b, 0, none⟩)) ∧ Cap w' (w.heap.size + 1) (.string p)) := by
    intro W hW
    have hbW := below_call hb2 hW
    have j1 := cap_below k1 hW
    have j2 := cap_below k2 hW
    have hnf : ∀ k, ¬ Ft b bi bl (w.heap.size + k) := fun k hk => by have := hft _ hk; omega
    refine (iStep_any b bi bl l s _ _ _ S' W (h.below hbW) (fun e => (there_kind e).1) ok.steps hen (fun l1 W2 hr _ hI hc => ?_)).mono ?_
    · have m1 := cap_chg j1 hc (fun e => by have := hft b (.inl rfl); omega)
      have m2 := cap_chg j2 hc (fun e => by have := hft b (.inl rfl); omega)
      rw [hS']
      have c9 := iSyncC_any b bi bl _ _ l1 _ p W2 hI m1 m2 hp (by rw [eL]; exact hn) (by rw [eL]; exact (there_kind hr).2)
      rw [eL] at c9 ⊢
      exact c9
    · rintro e w' ⟨rfl, l5, h5, hc5⟩
      exact ⟨rfl, ⟨l5, h5, (Chg.of_below hbW).then hc5⟩, cap_chg j1 hc5 (hnf 0), cap_chg j2 hc5 (hnf 1)⟩
  generalize stepR s (there s p) S' = RES at ct ⊢
  generalize there s p = r at cm ct
  have HW1 := Lib.hid hW1
  clear h hg ok hS' hst eL hn hft hb1 hb2 hb3 hen
  go_enter Try.func19, Try.ntmps19
  go_wp2_with fail
  rw [← HW1.out]
  refine Rg.wp_only ?_ (regSync _ (by kernel_rfl) _ w.heap.size (w.heap.size + 1) (.pointer (some ⟨b, 0, none⟩)) p r RES.1 W1 (fun W => Below W1.heap.size W1 W) (fun W => Ip b bi bl w RES.2 W ∧ Cap W w.heap.size (.pointer (some ⟨b, 0, none⟩)) ∧ Cap W (w.heap.size + 1) (.string p)) ⟨k1, k2⟩ (cm.mono (fun e w' he => ⟨he.1, (Below.refl _ W1).drew.trans he.2⟩)) (fun W hW => ⟨cap_below k1 hW, cap_below k2 hW⟩) ct (fun W hW => hW.2))
  rintro _ w9 ⟨rfl, h9⟩
  go_wp2_with fail
  go_ret
  exact ⟨rfl, h9.1⟩
set_option maxRecDepth 100000 in
set_option maxHeartbeats 2000000 in
theorem iRename_any (b bi bl : Nat) (l : Int) (s : St) (p q : ByteArray) (w : World) (h : Ia b bi bl l w s) (hg : Good s) (ok : Ok s) (hp : p.size ≤ 8000000000000) (hq : q.size ≤ 8000000000000) :
    Calls Try.prog 43 #[.pointer (some ⟨b, 0, none⟩), .string p, .string q] w fun e w' => e = .returned (.int .i64 ((renameS s p q).1 : Nat)) ∧ Ip b bi bl w (renameS s p q).2 w' := by
  have hft := h.lt
  have hn := ok.fit.1
  have hst : (done s).2.stamps ≤ 1000000000000 := by rw [done_stamps]; exact ok.stamps
  have eL := done_L s
  rw [rename_step hg]
  obtain ⟨S', hS'⟩ : ∃ S', S' = putS { (done s).2 with L := drop (done s).2.L p } { old s.L p with path := q } := ⟨_, rfl⟩
  rw [← hS']
  have hb1 := (Below.refl w.heap.size w).alloc (Nat.le_refl _) (.cells #[.pointer (some ⟨b, 0, none⟩)] 23)
  have k1 := cap_new w (.pointer (some ⟨b, 0, none⟩)) 23
  have k2 := cap_new (w.alloc (.cells #[.pointer (some ⟨b, 0, none⟩)] 23)) (.string p) 9
  have hs1 : (w.alloc (.cells #[.pointer (some ⟨b, 0, none⟩)] 23)).heap.size = w.heap.size + 1 := by simp
  rw [hs1] at k2
  have hb2 := hb1.alloc (by simp) (.cells #[.string p] 9)
  have k1 := cap_below k1 ((Below.refl _ _).alloc (Nat.le_refl _) (.cells #[.string p] 9))
  have k3 := cap_new ((w.alloc (.cells #[.pointer (some ⟨b, 0, none⟩)] 23)).alloc (.cells #[.string p] 9)) (.string q) 9
  have hs2 : ((w.alloc (.cells #[.pointer (some ⟨b, 0, none⟩)] 23)).alloc (.cells #[.string p] 9)).heap.size = w.heap.size + 1 + 1 := by simp
  rw [hs2] at k3
  have hb2 := hb2.alloc (by simp; omega) (.cells #[.string q] 9)
  have k1 := cap_below k1 ((Below.refl _ _).alloc (Nat.le_refl _) (.cells #[.string q] 9))
  have k2 := cap_below k2 ((Below.refl _ _).alloc (Nat.le_refl _) (.cells #[.string q] 9))
  obtain ⟨W1, hW1⟩ : ∃ W1, W1 = ((w.alloc (.cells #[.pointer (some ⟨b, 0, none⟩)] 23)).alloc (.cells #[.string p] 9)).alloc (.cells #[.string q] 9) := ⟨_, rfl⟩
  rw [← hW1] at k1 k2 k3 hb2
  have hb3 : Below w.heap.size w W1.drew := hb2.drew
  have cm := iMayRename_any b bi bl l s p q W1.drew (h.below hb3) hg.rises ok.fit hp hq
  have hen : ∀ W, (callFunc 56 #[.pointer (some ⟨w.heap.size, 0, none⟩), .pointer (some ⟨w.heap.size + 1, 0, none⟩), .pointer (some ⟨w.heap.size + 1 + 1, 0, none⟩)]).run Try.prog W = .ok (.enter 56 #[.pointer (some ⟨w.heap.size, 0, none⟩), .pointer (some ⟨w.heap.size + 1, 0, none⟩), .pointer (some ⟨w.heap.size + 1 + 1, 0, none⟩)]) W :=
    fun W => Rg.enters Try.func56 (by kernel_rfl) (by kernel_rfl) _ W
  have ct : ∀ W, Below W1.heap.size W1 W → Calls Try.prog 28 #[.pointer (some ⟨b, 0, none⟩), .int .i64 (mayRenS s p q : Nat), .func (.func 56) #[] #[.pointer (some ⟨w.heap.size, 0, none⟩), .pointer (some ⟨w.heap.size + 1, 0, none⟩), .pointer (some ⟨w.heap.size + 1 + 1, 0, none⟩)]] W fun e w' => e = .returned (.int .i64 ((stepR s (mayRenS s p q) S').1 : Nat)) ∧
      (Ip b bi bl w (stepR s (mayRenS s p q) S').2 w' ∧ Cap w' w.heap.size (.pointer (some ⟨b, 0, none⟩)) ∧ Cap w' (w.heap.size + 1) (.string p) ∧ Cap w' (w.heap.size + 1 + 1) (.string q)) := by
    intro W hW
    have hbW := below_call hb2 hW
    have j1 := cap_below k1 hW
    have j2 := cap_below k2 hW
    have j3 := cap_below k3 hW
    have hnf : ∀ k, ¬ Ft b bi bl (w.heap.size + k) := fun k hk => by have := hft _ hk; omega
    refine (iStep_any b bi bl l s _ _ _ S' W (h.below hbW) (fun e => (mayRen_ok e).1) ok.steps hen (fun l1 W2 hr _ hI hc => ?_)).mono ?_
    · have m1 := cap_chg j1 hc (fun e => by have := hft b (.inl rfl); omega)
      have m2 := cap_chg j2 hc (fun e => by have := hft b (.inl rfl); omega)
      have m3 := cap_chg j3 hc (fun e => by have := hft b (.inl rfl); omega)
      rw [hS']
      have c9 := iRenameC_any b bi bl _ _ _ l1 _ p q W2 hI (by rw [eL]; exact hg.rises) m1 m2 m3 hp hq (by rw [eL]; exact hn) hst (by rw [eL]; exact (mayRen_ok hr).2)
      rw [eL] at c9 ⊢
      exact c9
    · rintro e w' ⟨rfl, l5, h5, hc5⟩
      exact ⟨rfl, ⟨l5, h5, (Chg.of_below hbW).then hc5⟩, cap_chg j1 hc5 (hnf 0), cap_chg j2 hc5 (hnf 1), cap_chg j3 hc5 (hnf 2)⟩
  generalize stepR s (mayRenS s p q) S' = RES at ct ⊢
  generalize mayRenS s p q = r at cm ct
  have HW1 := Lib.hid hW1
  clear h hg ok hS' hst eL hn hft hb1 hb2 hb3 hen
  go_enter Try.func43, Try.ntmps43
  go_wp2_with fail
  rw [← HW1.out]
  refine Rg.wp_only ?_ (regRename _ (by kernel_rfl) _ w.heap.size (w.heap.size + 1) (w.heap.size + 1 + 1) (.pointer (some ⟨b, 0, none⟩)) p q r RES.1 W1 (fun W => Below W1.heap.size W1 W) (fun W => Ip b bi bl w RES.2 W ∧ Cap W w.heap.size (.pointer (some ⟨b, 0, none⟩)) ∧ Cap W (w.heap.size + 1) (.string p) ∧ Cap W (w.heap.size + 1 + 1) (.string q)) ⟨k1, k2, k3⟩ (cm.mono (fun e w' he => ⟨he.1, (Below.refl _ W1).drew.trans he.2⟩)) (fun W hW => ⟨cap_below k1 hW, cap_below k2 hW, cap_below k3 hW⟩) ct (fun W hW => hW.2))
  rintro _ w9 ⟨rfl, h9⟩
  go_wp2_with fail
  go_ret
  exact ⟨rfl, h9.1⟩
end Go.Proofs.Ytjdmbkkdnonkkaa.Dk

namespace Go.Proofs
open Go.Shelf
end Go.Proofs

namespace Go.Proofs.Ytjdmbkkdnonkkaa.Dk
open Go.RowKit Tx Pm Go.Sort Go.Lib Go.Shelf
set_option linter.unusedVariables false
end Go.Proofs.Ytjdmbkkdnonkkaa.Dk

namespace Go.Proofs.Ytjdmbkkdnonkkaa.Dk
open Go.RowKit Tx Pm Pl Pr
set_option linter.unusedVariables false
theorem own_base {w : World} {B C n size : Nat} {e : TypeId} {v : Value} {xs : List Value} (h : w.ownsRow C e size v n xs) (hB : B ≤ C) : w.ownsRow B e size v n xs := by
  refine ⟨h.1, ?_⟩
  rcases h.2 with h0 | ⟨g, cap, cur, hv, hg, hh, r⟩
  · exact .inl h0
  · exact .inr ⟨g, cap, cur, hv, Nat.le_trans hB hg, hh, r⟩
def held (φ : It → Bool) (l : List It) : List ByteArray := (l.filter φ).map (·.path)
end Go.Proofs.Ytjdmbkkdnonkkaa.Dk

namespace Go.Proofs.Ytjdmbkkdnonkkaa.Dk
open Go.RowKit Tx Pm Pl Pr
set_option linter.unusedVariables false
end Go.Proofs.Ytjdmbkkdnonkkaa.Dk

namespace Go.Proofs.Ytjdmbkkdnonkkaa.Dk
open Go.RowKit Tx Pm Pl Pr
set_option linter.unusedVariables false
end Go.Proofs.Ytjdmbkkdnonkkaa.Dk

namespace Go.Proofs.Ytjdmbkkdnonkkaa.Dk
open Go.RowKit Tx Pm Pl Pr
set_option linter.unusedVariables false
theorem read_old {s : St} (hg : Good s) (p : ByteArray) (hd : s.down = false) : readS s p = ((old s.L p).data, mbf s.L p) := by
  unfold readS mbf kind old
  rw [hd, if_neg (by decide)]
  cases hf : find s.L p with
  | none => rfl
  | some x =>
    unfold kindOf
    simp only [Option.getD_some]
    by_cases hx : x.dir = true
    · rw [(hg.dirs x (find_mem hf).1 hx).1]
      simp [hx]
    · simp [hx]
set_option maxRecDepth 100000 in
set_option maxHeartbeats 1000000 in
theorem iRead_any (b bi bl : Nat) (l : Int) (s : St) (p : ByteArray) (w : World) (h : Ia b bi bl l w s) (hg : Good s) (hp : p.size ≤ 8000000000000) :
    Calls Try.prog 32 #[.pointer (some ⟨b, 0, none⟩), .string p] w fun e w' => e = .returned (.tuple #[.string (readS s p).1, .int .i64 ((readS s p).2 : Nat)]) ∧ Below w.heap.size w w' := by
  have cm := fun n => iMbf_any b bi bl l s p (w.drewN n) (h.below (below_drewN _ _)) hp
  have hl := fun n => (h.below (below_drewN w n)).look (maxLen_of hp)
  obtain ⟨c0, c1, c2, c3, c4, c5⟩ := h.cell
  have hro := read_old hg p
  have hrd : s.down = true → readS s p = (⟨#[]⟩, 14) := fun e => by unfold readS; rw [if_pos e]
  have f1 := fld1
  generalize (old s.L p).data = X0 at hl hro
  generalize (old s.L p).kept = X1 at hl
  generalize stOf (old s.L p) = X2 at hl
  generalize ((old s.L p).stamp : Int) = X3 at hl
  generalize kind s.L p = K at hl
  generalize mbf s.L p = M at cm hro
  generalize readS s p = R at hro hrd ⊢
  generalize s.down = D at c5 hro hrd
  clear h hg c1 c2 c3 c4
  have HB := Lib.hid (fun n => below_drewN w n)
  cases D with
  | true =>
    rw [hrd rfl]
    clear hro hrd cm hl
    go_enter Try.func32, Try.ntmps32
    go_wp2
    go_ret2
    exact ⟨rfl, Below.refl _ _⟩
  | false =>
    rw [hro rfl]
    clear hro hrd
    go_enter Try.func32, Try.ntmps32
    go_wp2_with fail
    have hl0 := hl
    go_quiet ((go_at_call 41; exact (cm _).mono (fun _ _ ⟨he, hw⟩ => ⟨he, _, hw.symm⟩)))
    go_wp2
    go_ret2
    exact ⟨rfl, HB.out _⟩
set_option maxRecDepth 100000 in
theorem iNew_any (w : World) : Calls Try.prog 15 #[] w fun e w' => ∃ b bi bl, e = .returned (.pointer (some ⟨b, 0, none⟩)) ∧ Ia b bi bl (-1) w' newS ∧ (∀ i, Ft b bi bl i → w.heap.size ≤ i) ∧ Below w.heap.size w w' := by
  have hmm := @run_makeMap Try.prog
  have b1 := (Below.refl w.heap.size w).alloc (Nat.le_refl _) (.map #[] 0)
  have b2 := b1.alloc (by simp) (.map #[] 0)
  have b3 := b2.alloc (by simp; omega) (.cells #[.map (some w.heap.size), .map (some (w.heap.size + 1)), .int .i64 (-1), .int .i64 0, .int .i64 0, .bool false] 47)
  have hI : Ia (w.heap.size + 1 + 1) w.heap.size (w.heap.size + 1) (-1) (((w.alloc (.map #[] 0)).alloc (.map #[] 0)).alloc (.cells #[.map (some w.heap.size), .map (some (w.heap.size + 1)), .int .i64 (-1), .int .i64 0, .int .i64 0, .bool false] 47)) newS := by
    refine ⟨new_at _ _ (by simp), ?_, ?_, by omega, .inr rfl, by omega⟩
    · refine (mp_made w).kept ?_
      have := (((Below.refl _ (w.alloc (.map #[] 0))).alloc (Nat.le_refl _) (.map #[] 0)).alloc (by simp) (.cells #[.map (some w.heap.size), .map (some (w.heap.size + 1)), .int .i64 (-1), .int .i64 0, .int .i64 0, .bool false] 47)).block w.heap.size (by simp)
      exact this
    · have hl := lm_made (w.alloc (.map #[] 0))
      have e : (w.alloc (.map #[] 0)).heap.size = w.heap.size + 1 := by simp
      rw [e] at hl
      refine hl.kept ?_
      have := ((Below.refl _ ((w.alloc (.map #[] 0)).alloc (.map #[] 0))).alloc (Nat.le_refl _) (.cells #[.map (some w.heap.size), .map (some (w.heap.size + 1)), .int .i64 (-1), .int .i64 0, .int .i64 0, .bool false] 47)).block (w.heap.size + 1) (by simp)
      exact this
  have HE := Lib.hid (show ∃ b bi bl, (Ending.returned (.pointer (some ⟨w.heap.size + 1 + 1, 0, none⟩))) = .returned (.pointer (some ⟨b, 0, none⟩)) ∧ Ia b bi bl (-1) (((w.alloc (.map #[] 0)).alloc (.map #[] 0)).alloc (.cells #[.map (some w.heap.size), .map (some (w.heap.size + 1)), .int .i64 (-1), .int .i64 0, .int .i64 0, .bool false] 47)) newS ∧ (∀ i, Ft b bi bl i → w.heap.size ≤ i) ∧ Below w.heap.size w (((w.alloc (.map #[] 0)).alloc (.map #[] 0)).alloc (.cells #[.map (some w.heap.size), .map (some (w.heap.size + 1)), .int .i64 (-1), .int .i64 0, .int .i64 0, .bool false] 47)) from
    ⟨_, _, _, rfl, hI, fun i hi => by rcases hi with rfl | rfl | rfl <;> omega, b3⟩)
  clear hI b1 b2 b3
  go_enter Try.func15, Try.ntmps15
  go_wp2
  go_ret
  exact HE.out
end Go.Proofs.Ytjdmbkkdnonkkaa.Dk

namespace Go.Proofs.Ytjdmbkkdnonkkaa.Wl
open Go.RowKit Tx Pm Pl Pr Dk Fr
set_option linter.unusedVariables false
theorem does_of' {b bi bl : Nat} {w w' : World} {F : Nat → Prop} {r : Nat × St} {e : Ending} (hg : Dk.Good r.2) (hF : ∀ i, F i ↔ Ft b bi bl i) (h : e = .returned (.int .i64 (r.1 : Nat)) ∧ Ip b bi bl w r.2 w') : e = .returned (.int .i64 (r.1 : Nat)) ∧ Dk.Left (ImpAt b) w F r.2 w' := ⟨h.1, h.2.left hg hF⟩
section
variable {b : Nat} {F : Nat → Prop} {s : St} {w : World}
def Dos (O : World → (Nat → Prop) → St → Prop) (w : World) (F : Nat → Prop) (k : Nat) (s : St) (e : Ending) (w' : World) : Prop := e = .returned (.int .i64 (k : Nat)) ∧ Dk.Left O w F s w'
theorem iw_write {k : Nat} {s' : St} (P Q : ByteArray) (h : ImpAt b w F s) (ok : Ok s) (hP : P.size ≤ 8000000000000) (hQ : Q.size ≤ 1000000000000000000) (hk : writeS s P Q = (k, s')) : Calls Try.prog 42 #[.pointer (some ⟨b, 0, none⟩), .string P, .string Q] w (Dos (ImpAt b) w F k s') := by
  obtain ⟨bi, bl, l, hI, hg, hF⟩ := h
  have c := iWrite_any b bi bl l _ P Q _ hI hg ok hP hQ
  have hg' := good_write (p := P) (d := Q) hg
  rw [hk] at c hg'
  exact c.mono fun e w' ht => does_of' (r := (k, s')) hg' hF ht
theorem iw_append {k : Nat} {s' : St} (P Q : ByteArray) (h : ImpAt b w F s) (ok : Ok s) (hP : P.size ≤ 8000000000000) (hQ : Q.size ≤ 1000000000000000000) (hsz : (old s.L P).data.size + Q.size ≤ 1000000000000000000) (hk : appendS s P Q = (k, s')) : Calls Try.prog 18 #[.pointer (some ⟨b, 0, none⟩), .string P, .string Q] w (Dos (ImpAt b) w F k s') := by
  obtain ⟨bi, bl, l, hI, hg, hF⟩ := h
  have c := iAppend_any b bi bl l _ P Q _ hI hg ok hP hQ hsz
  have hg' := good_append (p := P) (d := Q) hg
  rw [hk] at c hg'
  exact c.mono fun e w' ht => does_of' (r := (k, s')) hg' hF ht
theorem iw_sync {k : Nat} {s' : St} (P : ByteArray) (h : ImpAt b w F s) (ok : Ok s) (hP : P.size ≤ 8000000000000) (hk : syncS s P = (k, s')) : Calls Try.prog 19 #[.pointer (some ⟨b, 0, none⟩), .string P] w (Dos (ImpAt b) w F k s') := by
  obtain ⟨bi, bl, l, hI, hg, hF⟩ := h
  have c := iSync_any b bi bl l _ P _ hI hg ok hP
  have hg' := good_sync (p := P) hg
  rw [hk] at c hg'
  exact c.mono fun e w' ht => does_of' (r := (k, s')) hg' hF ht
theorem iw_rename {k : Nat} {s' : St} (P Q : ByteArray) (h : ImpAt b w F s) (ok : Ok s) (hP : P.size ≤ 8000000000000) (hQ : Q.size ≤ 8000000000000) (hk : renameS s P Q = (k, s')) : Calls Try.prog 43 #[.pointer (some ⟨b, 0, none⟩), .string P, .string Q] w (Dos (ImpAt b) w F k s') := by
  obtain ⟨bi, bl, l, hI, hg, hF⟩ := h
  have c := iRename_any b bi bl l _ P Q _ hI hg ok hP hQ
  have hg' := good_rename (f := P) (t := Q) hg
  rw [hk] at c hg'
  exact c.mono fun e w' ht => does_of' (r := (k, s')) hg' hF ht
theorem iw_kind (P : ByteArray) (h : ImpAt b w F s) (hP : P.size ≤ 8000000000000) : Calls Try.prog 31 #[.pointer (some ⟨b, 0, none⟩), .string P] w fun e w' => e = .returned (.int .i64 (kind s.L P : Nat)) ∧ w = w' := by
  obtain ⟨bi, bl, l, hI, hg, hF⟩ := h
  exact iKind_any b bi bl l _ P _ hI hP
theorem iw_read (P : ByteArray) (h : ImpAt b w F s) (hP : P.size ≤ 8000000000000) : Calls Try.prog 32 #[.pointer (some ⟨b, 0, none⟩), .string P] w fun e w' => e = .returned (.tuple #[.string (readS s P).1, .int .i64 ((readS s P).2 : Nat)]) ∧ Below w.heap.size w w' := by
  obtain ⟨bi, bl, l, hI, hg, hF⟩ := h
  exact iRead_any b bi bl l _ P _ hI hg hP
end
theorem cat_size (p : ByteArray) : (p ++ tT).size = p.size + 2 := ByteArray.size_append
theorem fill_1 {s s1 : St} {p d : ByteArray} {k : Nat} (h1 : writeS s (p ++ tT) d = (k, s1)) (h : k ≠ 0) : fillS s p d = (k, s1) := by
  unfold fillS; rw [h1]; exact if_pos h
theorem fill_2 {s s1 s2 : St} {p d : ByteArray} {k : Nat} (h1 : writeS s (p ++ tT) d = (0, s1)) (h2 : syncS s1 (p ++ tT) = (k, s2)) (h : k ≠ 0) : fillS s p d = (k, s2) := by
  unfold fillS; rw [h1]; simp only [h2]; rw [if_neg (fun h => h rfl), if_pos h]
theorem fill_3 {s s1 s2 : St} {p d : ByteArray} (h1 : writeS s (p ++ tT) d = (0, s1)) (h2 : syncS s1 (p ++ tT) = (0, s2)) : fillS s p d = renameS s2 (p ++ tT) p := by
  unfold fillS; rw [h1]; simp only [h2]; rw [if_neg (fun h => h rfl), if_neg (fun h => h rfl)]
def FillOk (s : St) (p d : ByteArray) : Prop := Ok s ∧ Ok (writeS s (p ++ tT) d).2 ∧ Ok (syncS (writeS s (p ++ tT) d).2 (p ++ tT)).2
set_option maxRecDepth 100000 in
set_option maxHeartbeats 2000000 in
theorem iFill_any (b : Nat) {F : Nat → Prop} {s : St} (p d : ByteArray) (w : World) (h : ImpAt b w F s) (o : FillOk s p d) (hp : p.size ≤ 1000) (hd : d.size ≤ 1000000000000000000) :
    Calls Try.prog 27 #[.pointer (some ⟨b, 0, none⟩), .string p, .string d] w (Dos (ImpAt b) w F (fillS s p d).1 (fillS s p d).2) := by
  obtain ⟨o1, o2, o3⟩ := o
  have hcat := cat_size p
  obtain ⟨k1, s1, h1⟩ : ∃ k s1, writeS s (p ++ tT) d = (k, s1) := ⟨_, _, rfl⟩
  rw [h1] at o2 o3
  simp only at o2 o3
  obtain ⟨k2, s2, h2⟩ : ∃ k s2, syncS s1 (p ++ tT) = (k, s2) := ⟨_, _, rfl⟩
  rw [h2] at o3
  simp only at o3
  have c1 : Calls Try.prog 42 #[.pointer (some ⟨b, 0, none⟩), .string (p ++ ⟨#[95, 116]⟩), .string d] w (Dos (ImpAt b) w F k1 s1) := iw_write (p ++ tT) d h o1 (by omega) hd h1
  have c2 : ∀ {W F1}, ImpAt b W F1 s1 → Calls Try.prog 19 #[.pointer (some ⟨b, 0, none⟩), .string (p ++ ⟨#[95, 116]⟩)] W (Dos (ImpAt b) W F1 k2 s2) := fun {W F1} hW => iw_sync (p ++ tT) hW o2 (by omega) h2
  have c3 : ∀ {W F1}, ImpAt b W F1 s2 → Calls Try.prog 43 #[.pointer (some ⟨b, 0, none⟩), .string (p ++ ⟨#[95, 116]⟩), .string p] W (Dos (ImpAt b) W F1 (renameS s2 (p ++ tT) p).1 (renameS s2 (p ++ tT) p).2) := fun {W F1} hW => iw_rename (p ++ tT) p hW o3 (by omega) (by omega) rfl
  by_cases e1 : k1 ≠ 0
  · rw [fill_1 h1 e1]
    have n1 := Dk.ne_eq e1
    clear h o1 o2 o3 c2 c3 h1 h2 e1
    go_enter Try.func27, Try.ntmps27
    go_wp2_with fail
    go_at_call 42
    refine c1.mono ?_
    rintro e w1 ⟨rfl, hl1⟩
    go_wp2_with fail
    go_ret
    exact ⟨rfl, hl1⟩
  · obtain rfl : k1 = 0 := by omega
    by_cases e2 : k2 ≠ 0
    · rw [fill_2 h1 h2 e2]
      have n2 := Dk.ne_eq e2
      clear h o1 o2 o3 c3 h1 h2 e1 e2
      go_enter Try.func27, Try.ntmps27
      go_wp2_with fail
      go_at_call 42
      refine c1.mono ?_
      rintro e w1 ⟨rfl, F1, p1, q1, r1⟩
      go_wp2_with fail
      go_at_call 19
      refine (c2 p1).mono ?_
      rintro e w2 ⟨rfl, hl2⟩
      go_wp2_with fail
      go_ret
      exact ⟨rfl, left_trans q1 r1 hl2⟩
    · obtain rfl : k2 = 0 := by omega
      rw [fill_3 h1 h2]
      clear h o1 o2 o3 h1 h2 e1 e2
      go_enter Try.func27, Try.ntmps27
      go_wp2_with fail
      go_at_call 42
      refine c1.mono ?_
      rintro e w1 ⟨rfl, F1, p1, q1, r1⟩
      go_wp2_with fail
      go_at_call 19
      refine (c2 p1).mono ?_
      rintro e w2 ⟨rfl, hl2⟩
      obtain ⟨F2, p2, q2, r2⟩ := left_trans q1 r1 hl2
      go_wp2_with fail
      go_at_call 43
      refine (c3 p2).mono ?_
      rintro e w3 ⟨rfl, hl3⟩
      go_wp2_with fail
      go_ret
      exact ⟨rfl, left_trans q2 r2 hl3⟩
end Go.Proofs.Ytjdmbkkdnonkkaa.Wl

namespace Go.Proofs.Ytjdmbkkdnonkkaa.Wl
open Go.RowKit Tx Pm Dk Fr
set_option linter.unusedVariables false
def Two (j b : Nat) (p : ByteArray) (W : World) : Prop := W.cell? ⟨j, 0, none⟩ = some (.pointer (some ⟨b, 0, none⟩)) ∧ W.cell? ⟨j, 1, none⟩ = some (.string p)
theorem Two.below {j b : Nat} {p : ByteArray} {W W1 : World} (h : Two j b p W) (hb : Below W.heap.size W W1) : Two j b p W1 := by
  have hj := World.block_lt_of_cell? W _ h.1
  exact ⟨(hb.cell (p := ⟨j, 0, none⟩) hj).trans h.1, (hb.cell (p := ⟨j, 1, none⟩) hj).trans h.2⟩
set_option maxRecDepth 100000 in
set_option maxHeartbeats 2000000 in
theorem regIAdd (ops : Array Oper) (hops : ops = (Rg.opsOf Try.f8 3)) (id : Nat) (j b : Nat) (p r K : ByteArray) (k : Nat) {u2 u3 u4 u5 u6 u7 u8 u9 u10 u11 u12 u13 u14 u15 u16 u17 u18 u19 u20 u21 u22 u23 u24 u25 u26 u27 u28 u29 u30 u31 u32 u33 u34 u35 u36 u37 u38 u39 u40 u41 u42 u43 u44 : Value} (w : World) (B : World → Prop) (hS : Two j b p w.drew)
    (cp : ∀ W, Calls Try.prog 9 #[.string r] W fun e w' => e = .returned (.string K) ∧ Below W.heap.size W w')
    (ca : ∀ W, Below w.drew.heap.size w.drew W → Calls Try.prog 18 #[.pointer (some ⟨b, 0, none⟩), .string p, .string K] W fun e w' => e = .returned (.int .i64 (k : Nat)) ∧ B w') (hBS : ∀ W, B W → Two j b p W) :
    (Code.region id ops true).wp Try.prog (Rg.Only fun a' w' => a' = ⟨#[(.pointer (some ⟨j, 0, none⟩)), (.string r), u2, u3, u4, (.int .i64 (k : Nat)), u6, u7, u8, (.pointer (some ⟨j, 0, none⟩)), (.pointer (some ⟨j, 0, none⟩)), (.pointer (some ⟨j, 0, none⟩)), (.pointer (some ⟨b, 0, none⟩)), (.pointer (some ⟨j, 0, none⟩)), (.pointer (some ⟨j, 0, none⟩)), (.pointer (some ⟨j, 1, none⟩)), (.string p), (.string r), (.string K), (.int .i64 (k : Nat)), u20, u21, u22, u23, u24, u25, u26, u27, u28, u29, u30, u31, u32, u33, u34, u35, u36, u37, u38, u39, u40, u41, u42, u43, u44], []⟩ ∧ B w') ⟨#[(.pointer (some ⟨j, 0, none⟩)), (.string r), u2, u3, u4, u5, u6, u7, u8, u9, u10, u11, u12, u13, u14, u15, u16, u17, u18, u19, u20, u21, u22, u23, u24, u25, u26, u27, u28, u29, u30, u31, u32, u33, u34, u35, u36, u37, u38, u39, u40, u41, u42, u43, u44], []⟩ w := by
  subst hops
  have hNS : Region.noSelect (Rg.opsOf Try.f8 3) = true := by kernel_rfl
  refine wp_region_held_drew (S := Two j b p) (by kernel_rfl) hS (fun hHeld => ?_)
  rw [show (Rg.opsOf Try.f8 3).size = 12 by kernel_rfl]
  refine Rg.take (ops := (Rg.opsOf Try.f8 3)) 0 (some 9) ((.pointer (some ⟨j, 0, none⟩))) hNS (by kernel_rfl) (by kernel_rfl) (by kernel_rfl) (by kernel_rfl) (by kernel_rfl) hHeld (Rg.y_move (x := (Operand.tmp 0)) (Or.inl (by kernel_rfl)) (by kernel_rfl)) ?_
  refine Rg.take (ops := (Rg.opsOf Try.f8 3)) 1 (some 10) ((.pointer (some ⟨j, 0, none⟩))) hNS (by kernel_rfl) (by kernel_rfl) (by kernel_rfl) (by kernel_rfl) (by kernel_rfl) hHeld (Rg.y_nil (x := (Operand.tmp 9)) (by kernel_rfl) (by kernel_rfl)) ?_
  refine Rg.take (ops := (Rg.opsOf Try.f8 3)) 2 (some 11) ((.pointer (some ⟨j, 0, none⟩))) hNS (by kernel_rfl) (by kernel_rfl) (by kernel_rfl) (by kernel_rfl) (by kernel_rfl) hHeld (Rg.y_field (T := 39) (k := 0) (x := (Operand.tmp 10)) (vx := (.pointer (some ⟨j, 0, none⟩))) (by kernel_rfl) (by kernel_rfl) ?_) ?_
  · (intro w hSw; clear hSw; go_simp)
  refine Rg.take (ops := (Rg.opsOf Try.f8 3)) 3 (some 12) ((.pointer (some ⟨b, 0, none⟩))) hNS (by kernel_rfl) (by kernel_rfl) (by kernel_rfl) (by kernel_rfl) (by kernel_rfl) hHeld (Rg.y_load (T := 23) (x := (Operand.tmp 11)) (vx := (.pointer (some ⟨j, 0, none⟩))) (by kernel_rfl) (by kernel_rfl) ?_) ?_
  · (intro w hSw; obtain ⟨s0, s1⟩ := hSw; go_simp)
  refine Rg.take (ops := (Rg.opsOf Try.f8 3)) 4 (some 13) ((.pointer (some ⟨j, 0, none⟩))) hNS (by kernel_rfl) (by kernel_rfl) (by kernel_rfl) (by kernel_rfl) (by kernel_rfl) hHeld (Rg.y_move (x := (Operand.tmp 0)) (Or.inl (by kernel_rfl)) (by kernel_rfl)) ?_
  refine Rg.take (ops := (Rg.opsOf Try.f8 3)) 5 (some 14) ((.pointer (some ⟨j, 0, none⟩))) hNS (by kernel_rfl) (by kernel_rfl) (by kernel_rfl) (by kernel_rfl) (by kernel_rfl) hHeld (Rg.y_nil (x := (Operand.tmp 13)) (by kernel_rfl) (by kernel_rfl)) ?_
  refine Rg.take (ops := (Rg.opsOf Try.f8 3)) 6 (some 15) ((.pointer (some ⟨j, 1, none⟩))) hNS (by kernel_rfl) (by kernel_rfl) (by kernel_rfl) (by kernel_rfl) (by kernel_rfl) hHeld (Rg.y_field (T := 39) (k := 1) (x := (Operand.tmp 14)) (vx := (.pointer (some ⟨j, 0, none⟩))) (by kernel_rfl) (by kernel_rfl) ?_) ?_
  · (intro w hSw; clear hSw; go_simp)
  refine Rg.take (ops := (Rg.opsOf Try.f8 3)) 7 (some 16) ((.string p)) hNS (by kernel_rfl) (by kernel_rfl) (by kernel_rfl) (by kernel_rfl) (by kernel_rfl) hHeld (Rg.y_load (T := 9) (x := (Operand.tmp 15)) (vx := (.pointer (some ⟨j, 1, none⟩))) (by kernel_rfl) (by kernel_rfl) ?_) ?_
  · (intro w hSw; obtain ⟨s0, s1⟩ := hSw; go_simp)
  refine Rg.take (ops := (Rg.opsOf Try.f8 3)) 8 (some 17) ((.string r)) hNS (by kernel_rfl) (by kernel_rfl) (by kernel_rfl) (by kernel_rfl) (by kernel_rfl) hHeld (Rg.y_move (x := (Operand.tmp 1)) (Or.inl (by kernel_rfl)) (by kernel_rfl)) ?_
  refine Rg.call (ops := (Rg.opsOf Try.f8 3)) (fn := Try.f9) (xs := #[Operand.tmp 17]) (ats := #[9]) 9 (some 18) 9 #[(.string r)] (by kernel_rfl) (by kernel_rfl) (by kernel_rfl) (by kernel_rfl) (by kernel_rfl) Try.func9 (by kernel_rfl) (by kernel_rfl) (by kernel_rfl) ?_
  refine (cp _).mono ?_
  rintro e w5 ⟨rfl, hb5⟩
  refine ⟨_, rfl, hS.below hb5, fun hHeld => ?_⟩
  refine Rg.call (ops := (Rg.opsOf Try.f8 3)) (fn := Try.f18) (xs := #[Operand.tmp 12, Operand.tmp 16, Operand.tmp 18]) (ats := #[23, 9, 9]) 10 (some 19) 18 #[(.pointer (some ⟨b, 0, none⟩)), (.string p), (.string K)] (by kernel_rfl) (by kernel_rfl) (by kernel_rfl) (by kernel_rfl) (by kernel_rfl) Try.func18 (by kernel_rfl) (by kernel_rfl) (by kernel_rfl) ?_
  refine (ca _ hb5).mono ?_
  rintro e w6 ⟨rfl, hB6⟩
  refine ⟨_, rfl, hBS _ hB6, fun hHeld => ?_⟩
  refine Rg.take (ops := (Rg.opsOf Try.f8 3)) 11 (some 5) ((.int .i64 (k : Nat))) hNS (by kernel_rfl) (by kernel_rfl) (by kernel_rfl) (by kernel_rfl) (by kernel_rfl) hHeld (Rg.y_move (x := (Operand.tmp 19)) (Or.inr (by kernel_rfl)) (by kernel_rfl)) ?_
  refine Rg.done (ops := (Rg.opsOf Try.f8 3)) (by kernel_rfl) ?_
  exact ⟨by kernel_rfl, hB6⟩
end Go.Proofs.Ytjdmbkkdnonkkaa.Wl

namespace Go.Proofs.Ytjdmbkkdnonkkaa.Wl
open Go.RowKit Tx Pm Pl Pr Dk Fr
set_option linter.unusedVariables false
theorem add_1 {x : Jst} {p r : ByteArray} {k : Nat} {s1 : St} (h1 : appendS x.s p (Fm.pk r) = (k, s1)) (h : k ≠ 0) : addS x p r = (k, ⟨s1, x.R, x.dm⟩) := by
  unfold addS; rw [h1]; exact if_pos h
theorem add_2 {x : Jst} {p r : ByteArray} {k : Nat} {s1 s2 : St} (h1 : appendS x.s p (Fm.pk r) = (0, s1)) (h2 : syncS s1 p = (k, s2)) (h : k ≠ 0) : addS x p r = (k, ⟨s2, x.R, x.dm⟩) := by
  unfold addS; rw [h1]; simp only [h2]; rw [if_neg (fun h => h rfl), if_pos h]
theorem add_3 {x : Jst} {p r : ByteArray} {s1 s2 : St} (h1 : appendS x.s p (Fm.pk r) = (0, s1)) (h2 : syncS s1 p = (0, s2)) : addS x p r = (0, ⟨s2, x.R ++ [r], x.dm⟩) := by
  unfold addS; rw [h1]; simp only [h2]; rw [if_neg (fun h => h rfl), if_neg (fun h => h rfl)]
def AddOk (x : Jst) (p r : ByteArray) : Prop := Ok x.s ∧ Ok (appendS x.s p (Fm.pk r)).2 ∧ (old x.s.L p).data.size + (Fm.pk r).size ≤ 1000000000000000000 ∧ r.size ≤ 140737488355300 ∧ x.R.length ≤ 10000000000
theorem JAt.two {O : World → (Nat → Prop) → St → Prop} {T : TypeId} {b j : Nat} {p : ByteArray} {v : Value} {Fd : Nat → Prop} {w : World} {F : Nat → Prop} {x : Jst} (h : JAt O T b j p v Fd w F x) : Two j b p w := ⟨h.cell.1, h.cell.2.1⟩
theorem Mid.two {O : World → (Nat → Prop) → St → Prop} {T : TypeId} {b j : Nat} {p : ByteArray} {v : Value} {w W : World} {F : Nat → Prop} {x : Jst} (h : Mid O T b j p v w F x W) : Two j b p W := by
  obtain ⟨_, _, q, _⟩ := h
  exact q.two
theorem Mid.call {O : World → (Nat → Prop) → St → Prop} (k : Dk.Kind O) {T : TypeId} {b j : Nat} {p : ByteArray} {v : Value} {w W : World} {F : Nat → Prop} {x : Jst} {s' : St} {n : Nat} {f : FuncId} {args : Array Value} (h : Mid O T b j p v w F x W)
    (hc : ∀ {Fd}, O W Fd x.s → Calls Try.prog f args W (Dos O W Fd n s')) : Calls Try.prog f args W fun e w' => e = .returned (.int .i64 (n : Nat)) ∧ Mid O T b j p v w F ⟨s', x.R, x.dm⟩ w' := by
  obtain ⟨Fd, F', q, h1, h2⟩ := h
  refine (hc q.dsk).mono ?_
  rintro e w' ⟨rfl, hl⟩
  obtain ⟨Fd2, F2, q2, c2, n2⟩ := q.disk_left k hl
  exact ⟨rfl, Mid.trans h1 h2 ⟨Fd2, F2, q2, c2, n2⟩⟩
theorem own_form {w : World} {B size n : Nat} {e : TypeId} {v : Value} {xs : List Value} (h : w.ownsRow B e size v n xs) : ∃ a c, v = .slice a n c := by
  rcases h.2 with ⟨rfl, h0⟩ | ⟨g, cap, cur, rfl, _⟩
  · exact ⟨none, 0, by rw [h0]⟩
  · exact ⟨_, _, rfl⟩
theorem info9 : (Try.prog.info? 9).map (fun i => (i.zero, i.size, i.bytes)) = some (some (.string ⟨#[]⟩), 1, 16) := by kernel_rfl
theorem JAt.grown {O : World → (Nat → Prop) → St → Prop} (k : Dk.Kind O) {T : TypeId} {b j : Nat} {p r : ByteArray} {v v' : Value} {Fd : Nat → Prop} {w w0 w1 : World} {F : Nat → Prop} {x : Jst} (h : JAt O T b j p v Fd w F x) (hb : Below w.heap.size w w0)
    (hown : w1.ownsRow 0 9 1 v' (x.R.length + 1) (x.R.map Fr.sv ++ [Fr.sv r])) (hg : (v'.ownBlock = v.ownBlock ∧ w0.grownBy w1 v.ownBlock) ∨ (v'.ownBlock = some w0.heap.size ∧ w0.grownBy w1 none)) :
    (w1.cell? ⟨j, 2, none⟩ = some v ∧ w1.frozen? ⟨j, 2, none⟩ = false) ∧ LeftA (Jn O T b j p) w F ⟨x.s, x.R ++ [r], x.dm⟩ (w1.setCell ⟨j, 2, none⟩ v') := by
  have hj : j < w.heap.size := (Array.getElem?_eq_some_iff.1 h.blk).1
  have hj0 : j < w0.heap.size := Nat.lt_of_lt_of_le hj hb.size
  have hc : Chg (fun i => v.ownBlock = some i) w w1 := by
    rcases hg with ⟨_, g⟩ | ⟨_, g⟩
    · obtain ⟨g1, g2, g3, g4, g5⟩ := g
      exact ⟨g1.trans hb.os, g2.trans hb.tape, g3.trans hb.output, Nat.le_trans hb.size g4, fun i hi hn => (g5 i (Nat.lt_of_lt_of_le hi hb.size) (fun e => hn e.symm)).trans (hb.block i hi)⟩
    · obtain ⟨g1, g2, g3, g4, g5⟩ := g
      exact ⟨g1.trans hb.os, g2.trans hb.tape, g3.trans hb.output, Nat.le_trans hb.size g4, fun i hi hn => (g5 i (Nat.lt_of_lt_of_le hi hb.size) (by simp)).trans (hb.block i hi)⟩
  have hblk : w1.heap[j]? = _ := (hc.block j hj h.ne).trans h.blk
  have hvj : v'.ownBlock ≠ some j := by
    rcases hg with ⟨e, _⟩ | ⟨e, _⟩
    · rw [e]; exact h.ne
    · rw [e]; intro e2; injection e2 with e2; omega
  refine ⟨⟨by unfold World.cell?; rw [hblk]; rfl, by unfold World.frozen?; rw [hblk]; simp⟩, ?_⟩
  refine Mid.left (h.poke k (v' := v') (w1 := w1.setCell ⟨j, 2, none⟩ v') ((hc.mono (fun i hi => .inr hi)).trans ((chg_set (b := j) (k := 2) v').mono (fun i hi => Or.inl hi)) (fun i hi => .inl hi)) ?_ ?_ ?_)
  · rw [set_block hblk]
    rfl
  · have ht : Fr.Texts w1 0 v' (x.R ++ [r]) := by
      unfold Fr.Texts
      rw [List.length_append, List.map_append]
      exact hown
    exact own_kept ht (fun g hgb => set_other v' (fun e => hvj (e ▸ hgb)))
  · intro i hi
    rcases hg with ⟨e, _⟩ | ⟨e, _⟩
    · exact .inl (by rw [← e]; exact hi)
    · rw [e] at hi; injection hi with hi; exact .inr (by rw [← hi]; exact hb.size)
set_option maxRecDepth 100000 in
set_option maxHeartbeats 2000000 in
theorem iAdd_any (b j : Nat) {F Fd : Nat → Prop} {x : Jst} {v : Value} (p r : ByteArray) (w : World) (h : JAt (ImpAt b) 39 b j p v Fd w F x) (o : AddOk x p r) (hp : p.size ≤ 1000) :
    Calls Try.prog 8 #[.pointer (some ⟨j, 0, none⟩), .string r] w fun e w' => e = .returned (.int .i64 ((addS x p r).1 : Nat)) ∧ LeftA (Jn (ImpAt b) 39 b j p) w F (addS x p r).2 w' := by
  obtain ⟨o1, o2, o3, o4, o5⟩ := o
  obtain ⟨a0, c0, hform, _⟩ := h.row.form
  have kk := imp_kind b
  have hpk := Fm.pk_size r
  obtain ⟨k1, s1, h1⟩ : ∃ k s1, appendS x.s p (Fm.pk r) = (k, s1) := ⟨_, _, rfl⟩
  rw [h1] at o2
  simp only at o2
  obtain ⟨k2, s2, h2⟩ : ∃ k s2, syncS s1 p = (k, s2) := ⟨_, _, rfl⟩
  have cp := fun W => fPack_any r W o4
  have ca : ∀ W, Below w.drew.heap.size w.drew W → Calls Try.prog 18 #[.pointer (some ⟨b, 0, none⟩), .string p, .string (Fm.pk r)] W fun e w' => e = .returned (.int .i64 (k1 : Nat)) ∧ Mid (ImpAt b) 39 b j p v w F ⟨s1, x.R, x.dm⟩ w' := fun W hW =>
    (Mid.of kk h (below_call (Below.refl w.heap.size w).drew hW)).call kk (fun hd => iw_append p (Fm.pk r) hd o1 (by omega) (by omega) o3 h1)
  have cs : ∀ W, Mid (ImpAt b) 39 b j p v w F ⟨s1, x.R, x.dm⟩ W → Calls Try.prog 19 #[.pointer (some ⟨b, 0, none⟩), .string p] W.drew fun e w' => e = .returned (.int .i64 (k2 : Nat)) ∧ Mid (ImpAt b) 39 b j p v w F ⟨s2, x.R, x.dm⟩ w' := fun W hW => by
    obtain ⟨Fd', F', q, q2, q3⟩ := hW
    exact (Mid.trans q2 q3 (Mid.of kk q (Below.refl _ W).drew)).call (x := ⟨s1, x.R, x.dm⟩) kk (fun hd => iw_sync p hd o2 (by omega) h2)
  have hS := (h.below kk (Below.refl w.heap.size w).drew).two
  have hBS := fun W (hW : Mid (ImpAt b) 39 b j p v w F ⟨s1, x.R, x.dm⟩ W) => hW.two
  have HS := Lib.hid hS
  have HCA := Lib.hid ca
  have HCS := Lib.hid cs
  have HBS := Lib.hid hBS
  generalize hK : Fm.pk r = K at cp ca HCA h1
  by_cases e1 : k1 ≠ 0
  · rw [add_1 (by rw [hK]; exact h1) e1]
    have n1 := Dk.ne_eq e1
    clear h o1 o2 o3 h1 h2 e1 hS ca cs hBS hK hpk
    go_enter Try.func8, Try.ntmps8
    go_wp2_with fail
    refine Rg.wp_only ?_ (regIAdd _ (by kernel_rfl) _ j b p r K k1 _ _ HS.out cp HCA.out HBS.out)
    rintro _ w9 ⟨rfl, hB9⟩
    go_wp2_with fail
    go_ret
    exact ⟨rfl, hB9.left⟩
  · obtain rfl : k1 = 0 := by omega
    by_cases e2 : k2 ≠ 0
    · rw [add_2 (by rw [hK]; exact h1) h2 e2]
      have n2 := Dk.ne_eq e2
      clear h o1 o2 o3 h1 h2 e1 e2 hS ca cs hBS hK hpk
      go_enter Try.func8, Try.ntmps8
      go_wp2_with fail
      refine Rg.wp_only ?_ (regIAdd _ (by kernel_rfl) _ j b p r K 0 _ _ HS.out cp HCA.out HBS.out)
      rintro _ w9 ⟨rfl, hB9⟩
      obtain ⟨t0, t1⟩ := hB9.two
      have c9 := HCS.out _ hB9
      go_wp2_with fail
      go_still_tail 8, (by kernel_rfl)
      change wpList _ _ _ _ _ w9.drew
      go_wp2_with (go_at_call 19; refine c9.mono ?_; rintro e w5 ⟨rfl, h5⟩)
      go_ret
      exact ⟨rfl, h5.left⟩
    · obtain rfl : k2 = 0 := by omega
      rw [add_3 (by rw [hK]; exact h1) h2]
      clear h o1 o2 o3 h1 h2 e1 e2 hS ca cs hBS hK hpk
      obtain ⟨i0, hi, hz0, hz1, hz2⟩ := info_parts info9
      obtain ⟨n0, hn0⟩ : ∃ n0, n0 = x.R.length := ⟨_, rfl⟩
      rw [← hn0] at hform o5
      have HN0 := Lib.hid hn0
      subst hform
      clear hn0
      go_enter Try.func8, Try.ntmps8
      go_wp2_with fail
      refine Rg.wp_only ?_ (regIAdd _ (by kernel_rfl) _ j b p r K 0 _ _ HS.out cp HCA.out HBS.out)
      rintro _ w9 ⟨rfl, hB9⟩
      obtain ⟨t0, t1⟩ := hB9.two
      have c9 := HCS.out _ hB9
      go_wp2_with fail
      go_still_tail 8, (by kernel_rfl)
      change wpList _ _ _ _ _ w9.drew
      go_wp2_with fail
      go_at_call 19
      refine c9.mono ?_
      rintro e w5 ⟨rfl, Fd5, F5, q5, k5, n5⟩
      obtain ⟨t50, t51, t52, t53⟩ := q5.cell
      have hrow := q5.row
      unfold Fr.Texts at hrow
      have HQ := Lib.hid q5
      clear q5
      rw [← HN0.out] at hrow
      go_wp2_with (at_builtin; refine Ap.wpList_append_two _ rfl _ _ 22 rfl 0 9 i0 (.string ⟨#[]⟩) 1 16 Try.underlying22 hi hz0 hz1 hz2 rfl (by decide) (by decide) _ _ _ rfl (hrow.alloc _) ⟨w5.heap.size, 0, none⟩ 1 [Fr.sv r] rfl rfl ?c1 ?c2 ?c3 ?c4 ?c5 ?_)
      case c1 => exact cell_one_new _ _ _
      case c2 => exact Fr.sv_one [r]
      case c3 => omega
      case c4 => omega
      case c5 => exact Nat.zero_le _
      intro v' w6 hown hg
      obtain ⟨a6, c6, rfl⟩ := own_form hown
      obtain ⟨⟨g1, g2⟩, hfin⟩ := HQ.out.grown (r := r) kk ((Below.refl _ w5).alloc (Nat.le_refl _) (.cells #[.string r] 9)) (by rw [← HN0.out]; exact hown) (by rw [World.size_alloc]; exact hg)
      have HFIN := Lib.hid (hfin.trans k5 n5)
      clear hown hg hrow hfin
      go_wp2_with fail
      go_ret
      exact ⟨rfl, HFIN.out⟩
end Go.Proofs.Ytjdmbkkdnonkkaa.Wl

namespace Go.Proofs.Ytjdmbkkdnonkkaa.Wl
open Go.RowKit Tx Pm Pl Pr Dk Fr
set_option linter.unusedVariables false
theorem scf_le (s : ByteArray) : ∀ (f a : Nat), a ≤ s.size → (Fm.scf s f a).2.1 ≤ s.size
  | 0, a, h => h
  | f + 1, a, h => by
    by_cases hl : a < s.size
    · obtain ⟨t, n, e, h2⟩ := Fm.trip (Fm.fr (s.extract a s.size))
      by_cases he : e = 0
      · subst he
        have hn := (Fm.fr_ok h2).2.2.1
        have hs : (s.extract a s.size).size = s.size - a := by simp
        rw [Fm.scf_one f hl h2]
        exact scf_le s f (a + n) (by omega)
      · rw [Fm.scf_bad f hl h2 he]
        exact h
    · rw [Fm.scf_end _ hl]
      exact h
theorem sc_le (s : ByteArray) : (Fm.sc s 0).2.1 ≤ s.size := scf_le s _ 0 (Nat.zero_le _)
theorem own_zero {w : World} {B size n : Nat} {e : TypeId} {v : Value} {xs : List Value} (h : w.ownsRow B e size v n xs) : w.ownsRow 0 e size v n xs := by
  refine ⟨h.1, ?_⟩
  rcases h.2 with h0 | ⟨g, cap, cur, hv, hg, r⟩
  · exact .inl h0
  · exact .inr ⟨g, cap, cur, hv, Nat.zero_le _, r⟩
theorem own_base {w : World} {B size n i : Nat} {e : TypeId} {v : Value} {xs : List Value} (h : w.ownsRow B e size v n xs) (hi : v.ownBlock = some i) : B ≤ i := by
  rcases h.2 with ⟨rfl, h0⟩ | ⟨g, cap, cur, rfl, hg, r⟩
  · cases hi
  · have e : g = i := by simpa [Value.ownBlock] using hi
    omega
theorem same_belowW {w w' : World} (h : w = w') : Below w.heap.size w w' := by
  subst h
  exact Below.refl _ _
def OpenOk (s : St) (p : ByteArray) : Prop := (kind s.L p = 0 → FillOk s p ⟨#[]⟩) ∧ (kind s.L p ≠ 0 → (readS s p).1.size ≤ 1000000000000000000 ∧ (Fm.sc (readS s p).1 0).1.length ≤ 10000000000 ∧ ((Fm.sc (readS s p).1 0).2.2 ≠ 0 → FillOk s p ((readS s p).1.extract 0 (Fm.sc (readS s p).1 0).2.1)))
theorem open_0 {s s1 : St} {p : ByteArray} {k : Nat} (h : kind s.L p = 0) (h1 : fillS s p ⟨#[]⟩ = (k, s1)) : openS s p = (k, ⟨s1, [], false⟩) := by
  unfold openS; rw [if_pos h, h1]
theorem open_1 {s : St} {p t : ByteArray} {k : Nat} (h : kind s.L p ≠ 0) (h1 : readS s p = (t, k)) (hk : k ≠ 0) : openS s p = (k, ⟨s, [], false⟩) := by
  unfold openS; rw [if_neg h, h1]; exact if_pos hk
theorem open_2 {s : St} {p t : ByteArray} {R : List ByteArray} {g : Nat} (h : kind s.L p ≠ 0) (h1 : readS s p = (t, 0)) (h2 : Fm.sc t 0 = (R, g, 0)) : openS s p = (0, ⟨s, R, false⟩) := by
  unfold openS; rw [if_neg h, h1]; simp only [h2]; rfl
theorem open_3 {s s1 : St} {p t : ByteArray} {R : List ByteArray} {g e k : Nat} (h : kind s.L p ≠ 0) (h1 : readS s p = (t, 0)) (h2 : Fm.sc t 0 = (R, g, e)) (he : e ≠ 0) (h3 : fillS s p (t.extract 0 g) = (k, s1)) : openS s p = (k, ⟨s1, R, bad e⟩) := by
  unfold openS; rw [if_neg h, h1]; simp only [h2]; rw [if_neg (by show ¬ (0 ≠ 0); decide), if_neg he, h3]
theorem JAt.scanned {O : World → (Nat → Prop) → St → Prop} (k : Dk.Kind O) {T : TypeId} {b j : Nat} {p : ByteArray} {v : Value} {Fd : Nat → Prop} {w w2 : World} {F : Nat → Prop} {s : St} {dm : Bool} {R : List ByteArray} {B : Nat} (h : JAt O T b j p (.slice none 0 0) Fd w F ⟨s, [], false⟩) (hb : Below w.heap.size w w2) (hr : Fr.Texts w2 B v R) (hB : w.heap.size ≤ B) :
    (w2.cell? ⟨j, 2, none⟩ = some (.slice none 0 0) ∧ w2.frozen? ⟨j, 2, none⟩ = false) ∧ ((w2.setCell ⟨j, 2, none⟩ v).cell? ⟨j, 3, none⟩ = some (.bool false) ∧ (w2.setCell ⟨j, 2, none⟩ v).frozen? ⟨j, 3, none⟩ = false) ∧
    Mid O T b j p v w F ⟨s, R, dm⟩ ((w2.setCell ⟨j, 2, none⟩ v).setCell ⟨j, 3, none⟩ (.bool dm)) := by
  have hj : j < w.heap.size := (Array.getElem?_eq_some_iff.1 h.blk).1
  have hblk := (hb.block j hj).trans h.blk
  have hblk3 : (w2.setCell ⟨j, 2, none⟩ v).heap[j]? = some (.cells #[.pointer (some ⟨b, 0, none⟩), .string p, v, .bool false] T (0, 0)) := by
    rw [set_block hblk]
    rfl
  have hvj : v.ownBlock ≠ some j := fun e => by
    have := own_base hr e
    omega
  refine ⟨⟨by unfold World.cell?; rw [hblk]; rfl, by unfold World.frozen?; rw [hblk]; simp⟩, ⟨by unfold World.cell?; rw [hblk3]; rfl, by unfold World.frozen?; rw [hblk3]; simp⟩, ?_⟩
  refine h.poke k (v' := v) (((Chg.of_below hb).trans (F := fun i => i = j ∨ (Value.slice none 0 0).ownBlock = some i) ((chg_set (b := j) (k := 2) v).mono (fun i hi => Or.inl hi)) (fun i hi => .inl hi)).then ((chg_set (b := j) (k := 3) (.bool dm)).mono (fun i hi => Or.inl hi))) ?_ ?_ ?_
  · rw [set_block hblk3]
    rfl
  · exact own_kept (own_kept (own_zero hr) (fun g hg => set_other v (fun e => hvj (by rw [← e]; exact hg)))) (fun g hg => set_other _ (fun e => hvj (by rw [← e]; exact hg)))
  · intro i hi
    have := own_base hr hi
    exact .inr (by omega)
set_option maxRecDepth 100000 in
set_option maxHeartbeats 4000000 in
theorem iBegin_any (b j : Nat) {F Fd : Nat → Prop} {s : St} (p : ByteArray) (w : World) (h : JAt (ImpAt b) 39 b j p (.slice none 0 0) Fd w F ⟨s, [], false⟩) (o : OpenOk s p) (hp : p.size ≤ 1000) :
    Calls Try.prog 17 #[.pointer (some ⟨j, 0, none⟩)] w fun e w' => e = .returned (.int .i64 ((openS s p).1 : Nat)) ∧ LeftA (Jn (ImpAt b) 39 b j p) w F (openS s p).2 w' := by
  have kk := imp_kind b
  obtain ⟨o1, o2⟩ := o
  have hd1 := (Below.refl w.heap.size w).drew
  have ck := (iw_kind p (h.below kk hd1).dsk (by omega)).mono fun e w' (hh : _ ∧ w.drew = w') => (⟨hh.1, same_belowW hh.2⟩ : _ ∧ Below w.drew.heap.size w.drew w')
  obtain ⟨t0, t1, _, _⟩ := h.cell
  have hcl : ∀ W, Below w.drew.heap.size w.drew W → W.cell? ⟨j, 0, none⟩ = some (.pointer (some ⟨b, 0, none⟩)) ∧ W.cell? ⟨j, 1, none⟩ = some (.string p) := fun W hW => (h.below kk (below_call hd1 hW)).two
  have HCL := Lib.hid hcl
  clear hcl
  by_cases hk : kind s.L p = 0
  · obtain ⟨k1, s1, h1⟩ : ∃ k s1, fillS s p ⟨#[]⟩ = (k, s1) := ⟨_, _, rfl⟩
    rw [open_0 hk h1]
    have c1 : ∀ W, Below w.drew.heap.size w.drew W → Calls Try.prog 27 #[.pointer (some ⟨b, 0, none⟩), .string p, .string ⟨#[]⟩] W.drew fun e w' => e = .returned (.int .i64 (k1 : Nat)) ∧ Mid (ImpAt b) 39 b j p (.slice none 0 0) w F ⟨s1, [], false⟩ w' := fun W hW => (Mid.of kk h (below_call hd1 hW.drew)).call kk (fun hd => by
      have := iFill_any b p ⟨#[]⟩ W.drew hd (o1 hk) hp (by decide)
      rw [h1] at this
      exact this)
    rw [hk] at ck
    clear h o1 o2 hk h1 hd1
    go_enter Try.func17, Try.ntmps17
    go_wp2_with fail
    go_still_tail 8, (by kernel_rfl)
    change wpList _ _ _ _ _ w.drew
    go_wp2_with fail
    go_at_call 31
    refine ck.mono ?_
    rintro e w4 ⟨rfl, hb4⟩
    obtain ⟨u0, u1⟩ := HCL.out _ hb4
    go_wp2_with fail
    go_still_tail 8, (by kernel_rfl)
    change wpList _ _ _ _ _ w4.drew
    go_wp2_with fail
    go_at_call 27
    refine (c1 _ hb4).mono ?_
    rintro e w5 ⟨rfl, h5⟩
    go_wp2_with fail
    go_ret
    exact ⟨rfl, h5.left⟩
  · have nk := Dk.ne_eq hk
    obtain ⟨q1, q2, q3⟩ := o2 hk
    obtain ⟨t, k, hrd⟩ : ∃ t k, readS s p = (t, k) := ⟨_, _, rfl⟩
    have hd2 : ∀ W, Below w.drew.heap.size w.drew W → Below w.heap.size w W.drew := fun W hW => below_call hd1 hW.drew
    have cr := fun W hW => iw_read p (h.below kk (hd2 W hW)).dsk (by omega)
    rw [hrd] at q1 q2 q3 cr
    simp only at q1 q2 q3 cr
    by_cases hk0 : k ≠ 0
    · rw [open_1 hk hrd hk0]
      have n0 := Dk.ne_eq hk0
      have hfin : ∀ W4 W, Below w.drew.heap.size w.drew W4 → Below W4.drew.heap.size W4.drew W → LeftA (Jn (ImpAt b) 39 b j p) w F ⟨s, [], false⟩ W := fun W4 W h4 hW => (Mid.of kk h (below_call (hd2 _ h4) hW)).left
      have HF := Lib.hid hfin
      generalize kind s.L p = K at ck nk
      clear h o1 o2 hk hd1 hd2 hfin hrd hk0 q1 q2 q3
      go_enter Try.func17, Try.ntmps17
      go_wp2_with fail
      go_still_tail 8, (by kernel_rfl)
      change wpList _ _ _ _ _ w.drew
      go_wp2_with fail
      go_at_call 31
      refine ck.mono ?_
      rintro e w4 ⟨rfl, hb4⟩
      obtain ⟨u0, u1⟩ := HCL.out _ hb4
      go_wp2_with fail
      go_region_with (go_at_call 32; refine (cr _ hb4).mono ?_; rintro e w5 ⟨rfl, h5⟩)
      all_goals
        go_wp2_with fail
        go_ret
        exact ⟨rfl, HF.out _ _ hb4 h5⟩
    · obtain rfl : k = 0 := by omega
      obtain ⟨R, g, e, hsc⟩ := Fm.trip (Fm.sc t 0)
      have hgl := sc_le t
      have cs := fun W => Fr.fScan_w t W q1 q2
      unfold Fr.ScanTo at cs
      rw [hsc] at q2 q3 hgl cs
      simp only at q2 q3 hgl cs
      have hcell : ∀ W, Below w.heap.size w W → W.cell? ⟨j, 0, none⟩ = some (.pointer (some ⟨b, 0, none⟩)) ∧ W.cell? ⟨j, 1, none⟩ = some (.string p) := fun W hW => (h.below kk hW).two
      have HC := Lib.hid hcell
      have HD2 := Lib.hid hd2
      have HH := Lib.hid h
      have HN := Lib.hid (show R.length ≤ 10000000000 from q2)
      by_cases he : e = 0
      · subst he
        rw [open_2 hk hrd hsc]
        generalize kind s.L p = K at ck nk
        clear h o1 o2 hk hd1 hd2 hrd hk0 q1 q2 q3 hsc hcell
        go_enter Try.func17, Try.ntmps17
        go_wp2_with fail
        go_still_tail 8, (by kernel_rfl)
        change wpList _ _ _ _ _ w.drew
        go_wp2_with fail
        go_at_call 31
        refine ck.mono ?_
        rintro e w4 ⟨rfl, hb4⟩
        obtain ⟨u0, u1⟩ := HCL.out _ hb4
        go_wp2_with fail
        go_region_with (go_at_call 32; refine (cr _ hb4).mono ?_; rintro e w5 ⟨rfl, h5⟩)
        all_goals
          have hb5 := below_call (HD2.out _ hb4) h5
          go_wp2_with fail
          go_at_call 33
          refine (cs _).mono ?_
          rintro e w6 ⟨v, rfl, htx, hb6'⟩
          have hb6 := below_call hb5 hb6'
          obtain ⟨⟨g1, g2⟩, ⟨g3, g4⟩, hfin⟩ := HH.out.scanned kk (dm := false) hb6 htx hb5.size
          obtain ⟨a6, c6, hv⟩ := own_form htx
          obtain ⟨n6, hn6⟩ : ∃ n6, n6 = R.length := ⟨_, rfl⟩
          rw [← hn6] at hv
          have HFIN := Lib.hid hfin
          clear hn6 htx hfin hb6' h5
          subst hv
          go_wp2_with fail
          go_ret
          exact ⟨rfl, HFIN.out.left⟩
      · have hfk := q3 he
        obtain ⟨k1, s1, h1⟩ : ∃ k s1, fillS s p (t.extract 0 g) = (k, s1) := ⟨_, _, rfl⟩
        rw [open_3 hk hrd hsc he h1]
        have hxs : (t.extract 0 g).size ≤ 1000000000000000000 := by rw [ByteArray.size_extract]; omega
        have c1 : ∀ (v : Value) (dm : Bool) (W : World), Mid (ImpAt b) 39 b j p v w F ⟨s, R, dm⟩ W → Calls Try.prog 27 #[.pointer (some ⟨b, 0, none⟩), .string p, .string (t.extract 0 g)] W fun e w' => e = .returned (.int .i64 (k1 : Nat)) ∧ Mid (ImpAt b) 39 b j p v w F ⟨s1, R, dm⟩ w' := fun v dm W hW => hW.call (x := ⟨s, R, dm⟩) kk (fun hd => by
          have := iFill_any b p (t.extract 0 g) W hd hfk hp hxs
          rw [h1] at this
          exact this)
        have HC1 := Lib.hid c1
        have ne0 := Dk.ne_eq he
        have hgz : (g : Int) ≤ (t.size : Int) := by omega
        have hts : (t.size : Int) ≤ 1000000000000000000 := by omega
        have hbad : bad e = (decide (e = 6) || decide (e = 3)) := rfl
        generalize kind s.L p = K at ck nk
        clear h o1 o2 hk hd1 hd2 hrd hk0 q1 q2 q3 hsc hcell hfk h1 hxs c1
        have n6 : ((e : Int) == 6) = decide (e = 6) := by by_cases h : e = 6 <;> simp [h]; omega
        have n3 : ((e : Int) == 3) = decide (e = 3) := by by_cases h : e = 3 <;> simp [h]; omega
        rw [hbad]
        clear hbad he
        generalize decide (e = 6) = b6 at n6 ⊢
        generalize decide (e = 3) = b3 at n3 ⊢
        go_enter Try.func17, Try.ntmps17
        go_wp2_with fail
        go_still_tail 8, (by kernel_rfl)
        change wpList _ _ _ _ _ w.drew
        go_wp2_with fail
        go_at_call 31
        refine ck.mono ?_
        rintro e w4 ⟨rfl, hb4⟩
        obtain ⟨u0, u1⟩ := HCL.out _ hb4
        go_wp2_with fail
        go_region_with (go_at_call 32; refine (cr _ hb4).mono ?_; rintro e w5 ⟨rfl, h5⟩)
        all_goals
          have hb5 := below_call (HD2.out _ hb4) h5
          go_wp2_with fail
          go_at_call 33
          refine (cs _).mono ?_
          rintro e w6 ⟨v, rfl, htx, hb6'⟩
          have hb6 := below_call hb5 hb6'
          obtain ⟨⟨g1, g2⟩, ⟨g3, g4⟩, hfin⟩ := HH.out.scanned kk (dm := b6 || b3) hb6 htx hb5.size
          have htwo := hfin.two
          obtain ⟨t60, t61⟩ := htwo
          have hfd := hfin.below kk (Below.refl _ _).drew
          have c6 := HC1.out _ _ _ hfd
          obtain ⟨a6, cp6, hv⟩ := own_form htx
          obtain ⟨m6, hm6⟩ : ∃ m6, m6 = R.length := ⟨_, rfl⟩
          rw [← hm6] at hv
          clear hm6 htx hfin hb6' h5 hfd
          subst hv
          cases b6
          · cases b3
            · rw [show (false || false) = false from rfl] at t60 t61 c6
              go_wp2_with fail
              generalize (w6.setCell { block := j, off := 2 } (Value.slice a6 m6 cp6)).setCell { block := j, off := 3 } (Value.bool false) = W7 at t60 t61 c6 ⊢
              go_still_tail 11, (by kernel_rfl)
              change wpList _ _ _ _ _ W7.drew
              go_wp2_with fail
              go_at_call 27
              refine c6.mono ?_
              rintro e w7 ⟨rfl, h7⟩
              go_wp2_with fail
              go_ret
              exact ⟨rfl, h7.left⟩
            · rw [show (false || true) = true from rfl] at t60 t61 c6
              go_wp2_with fail
              generalize (w6.setCell { block := j, off := 2 } (Value.slice a6 m6 cp6)).setCell { block := j, off := 3 } (Value.bool true) = W7 at t60 t61 c6 ⊢
              go_still_tail 11, (by kernel_rfl)
              change wpList _ _ _ _ _ W7.drew
              go_wp2_with fail
              go_at_call 27
              refine c6.mono ?_
              rintro e w7 ⟨rfl, h7⟩
              go_wp2_with fail
              go_ret
              exact ⟨rfl, h7.left⟩
          · cases b3
            · rw [show (true || false) = true from rfl] at t60 t61 c6
              go_wp2_with fail
              generalize (w6.setCell { block := j, off := 2 } (Value.slice a6 m6 cp6)).setCell { block := j, off := 3 } (Value.bool true) = W7 at t60 t61 c6 ⊢
              go_still_tail 11, (by kernel_rfl)
              change wpList _ _ _ _ _ W7.drew
              go_wp2_with fail
              go_at_call 27
              refine c6.mono ?_
              rintro e w7 ⟨rfl, h7⟩
              go_wp2_with fail
              go_ret
              exact ⟨rfl, h7.left⟩
            · rw [show (true || true) = true from rfl] at t60 t61 c6
              go_wp2_with fail
              generalize (w6.setCell { block := j, off := 2 } (Value.slice a6 m6 cp6)).setCell { block := j, off := 3 } (Value.bool true) = W7 at t60 t61 c6 ⊢
              go_still_tail 11, (by kernel_rfl)
              change wpList _ _ _ _ _ W7.drew
              go_wp2_with fail
              go_at_call 27
              refine c6.mono ?_
              rintro e w7 ⟨rfl, h7⟩
              go_wp2_with fail
              go_ret
              exact ⟨rfl, h7.left⟩
end Go.Proofs.Ytjdmbkkdnonkkaa.Wl

namespace Go.Proofs.Ytjdmbkkdnonkkaa.Wl
open Go.RowKit Tx Pm Pl Pr Dk Fr
set_option linter.unusedVariables false
def OpenTo (O : World → (Nat → Prop) → St → Prop) (T : TypeId) (b : Nat) (p : ByteArray) (w : World) (F : Nat → Prop) (r : Nat × Jst) (e : Ending) (w' : World) : Prop :=
  (r.1 = 0 ∧ ∃ j, e = .returned (.tuple #[.pointer (some ⟨j, 0, none⟩), .int .i64 0]) ∧ LeftA (Jn O T b j p) w F r.2 w') ∨ (r.1 ≠ 0 ∧ e = .returned (.tuple #[.pointer none, .int .i64 (r.1 : Nat)]) ∧ Dk.Left O w F r.2.s w')
theorem jn_disk {O : World → (Nat → Prop) → St → Prop} {T : TypeId} {b j : Nat} {p : ByteArray} {w w' : World} {F : Nat → Prop} {x : Jst} (h : LeftA (Jn O T b j p) w F x w') : Dk.Left O w F x.s w' := by
  obtain ⟨F', ⟨v, Fd, h1⟩, h2, h3⟩ := h
  exact ⟨Fd, h1.dsk, h2, fun g hg => h3 g ((h1.foot g).2 (.inl hg))⟩
theorem jat_new {O : World → (Nat → Prop) → St → Prop} (k : Dk.Kind O) (T : TypeId) (b : Nat) (p : ByteArray) {w : World} {F : Nat → Prop} {s : St} (h : O w F s) :
    JAt O T b w.heap.size p (.slice none 0 0) F (w.alloc (.cells #[.pointer (some ⟨b, 0, none⟩), .string p, .slice none 0 0, .bool false] T)) (fun i => F i ∨ i = w.heap.size) ⟨s, [], false⟩ :=
  ⟨k.kept h (fun i hi => ((Below.refl w.heap.size w).alloc (Nat.le_refl _) _).block i (k.lt h i hi)), new_at w _ rfl, World.ownsRow_nil _ _ _ _, (fun e => by cases e), fun i hi => ⟨fun e => by have := k.lt h i hi; omega, fun e => by cases e⟩, fun i => ⟨fun hh => hh.imp id (fun e => .inl e), fun hh => by rcases hh with hh | hh | hh; exact .inl hh; exact .inr hh; cases hh⟩⟩
theorem left_new {O : World → (Nat → Prop) → St → Prop} {T : TypeId} {b : Nat} {p : ByteArray} {w W : World} {F : Nat → Prop} {x : Jst} {o : Obj} (h : LeftA (Jn O T b w.heap.size p) (w.alloc o) (fun i => F i ∨ i = w.heap.size) x W) : LeftA (Jn O T b w.heap.size p) w F x W :=
  h.trans (F := F) (Chg.of_below ((Below.refl w.heap.size w).alloc (Nat.le_refl _) o)) (fun g hg => hg.imp id (fun e => Nat.le_of_eq e.symm))
set_option maxRecDepth 100000 in
set_option maxHeartbeats 2000000 in
theorem iOpen_any (b : Nat) {F : Nat → Prop} {s : St} (p : ByteArray) (w : World) (h : ImpAt b w F s) (o : OpenOk s p) (hp : p.size ≤ 1000) :
    Calls Try.prog 7 #[.pointer (some ⟨b, 0, none⟩), .string p] w (OpenTo (ImpAt b) 39 b p w F (openS s p)) := by
  have hJ := jat_new (imp_kind b) 39 b p h
  have c := iBegin_any b w.heap.size p _ hJ o hp
  obtain ⟨k, x, hx⟩ : ∃ k x, openS s p = (k, x) := ⟨_, _, rfl⟩
  rw [hx] at c ⊢
  simp only at c
  have hl : ∀ W, LeftA (Jn (ImpAt b) 39 b w.heap.size p) (w.alloc (.cells #[.pointer (some ⟨b, 0, none⟩), .string p, .slice none 0 0, .bool false] 39)) (fun i => F i ∨ i = w.heap.size) x W → LeftA (Jn (ImpAt b) 39 b w.heap.size p) w F x W := fun W hh => left_new hh
  have HL := Lib.hid hl
  by_cases h0 : k ≠ 0
  · have n0 := Dk.ne_eq h0
    have H0 := Lib.hid h0
    clear h hJ o hx hl h0
    go_enter Try.func7, Try.ntmps7
    go_wp2_with fail
    go_at_call 17
    refine c.mono ?_
    rintro e w5 ⟨rfl, h5⟩
    go_wp2_with fail
    go_ret2
    unfold OpenTo
    exact .inr ⟨H0.out, rfl, jn_disk (HL.out _ h5)⟩
  · obtain rfl : k = 0 := by omega
    clear h hJ o hx hl h0
    go_enter Try.func7, Try.ntmps7
    go_wp2_with fail
    go_at_call 17
    refine c.mono ?_
    rintro e w5 ⟨rfl, h5⟩
    go_wp2_with fail
    go_ret2
    unfold OpenTo
    exact .inl ⟨rfl, _, rfl, HL.out _ h5⟩
theorem iOpen_nil (p : ByteArray) (w : World) : Calls Try.prog 7 #[.pointer none, .string p] w fun e w' => e = .returned (.tuple #[.pointer none, .int .i64 1]) ∧ w = w' := by
  go_enter Try.func7, Try.ntmps7
  go_wp2_with fail
  go_ret2
  exact ⟨rfl, rfl⟩
theorem iAdd_nil (r : ByteArray) (w : World) : Calls Try.prog 8 #[.pointer none, .string r] w fun e w' => e = .returned (.int .i64 1) ∧ w = w' := by
  go_enter Try.func8, Try.ntmps8
  go_wp2_with fail
  go_ret
  exact ⟨rfl, rfl⟩
theorem iReset_nil (w : World) : Calls Try.prog 14 #[.pointer none] w fun e w' => e = .returned (.int .i64 1) ∧ w = w' := by
  go_enter Try.func14, Try.ntmps14
  go_wp2_with fail
  go_ret
  exact ⟨rfl, rfl⟩
theorem iRecords_nil (w : World) : Calls Try.prog 13 #[.pointer none] w fun e w' => e = .returned (.slice none 0 0) ∧ w = w' := by
  go_enter Try.func13, Try.ntmps13
  go_wp2_with fail
  go_ret
  exact ⟨rfl, rfl⟩
theorem iDamaged_nil (w : World) : Calls Try.prog 11 #[.pointer none] w fun e w' => e = .returned (.bool false) ∧ w = w' := by
  go_enter Try.func11, Try.ntmps11
  go_wp2_with fail
  go_ret
  exact ⟨rfl, rfl⟩
theorem iDamaged_any (O : World → (Nat → Prop) → St → Prop) (b j : Nat) {F Fd : Nat → Prop} {x : Jst} {v : Value} (p : ByteArray) (w : World) (h : JAt O 39 b j p v Fd w F x) :
    Calls Try.prog 11 #[.pointer (some ⟨j, 0, none⟩)] w fun e w' => e = .returned (.bool x.dm) ∧ w = w' := by
  obtain ⟨_, _, _, t3⟩ := h.cell
  generalize x.dm = dm at t3 ⊢
  clear h
  go_enter Try.func11, Try.ntmps11
  go_wp2_with fail
  go_ret
  exact ⟨rfl, rfl⟩
set_option maxRecDepth 100000 in
set_option maxHeartbeats 2000000 in
theorem clone_any (a : Option Addr) (n c : Nat) (l : List ByteArray) (w : World) (h : Fr.Texts w 0 (.slice a n c) l) (hn : n = l.length) (hl : n ≤ 10000000000) :
    Calls Try.prog 26 #[.slice a n c] w fun e w' => ∃ v', e = .returned v' ∧ Fr.Texts w' w.heap.size v' l ∧ Below w.heap.size w w' := by
  subst hn
  rcases h.2 with ⟨he, h0⟩ | ⟨g, cap, cur, he, hg, hh, hnc, hcm, _⟩
  · injection he with e1 e2 e3
    subst e1 e3
    have hl0 : l = [] := List.eq_nil_of_length_eq_zero h0
    subst hl0
    clear h h0 e2 hl
    have q24 : ∀ (w : World) (a : Option Addr) (n c n' c' : Nat), (binOp .eql 22 (.slice a n c) (.slice none n' c')).run Try.prog w = .ok (.bool a.isNone) w := fun w a n c n' c' => Lib.run_eql_slice_nil w _ _ a n c n' c' Try.underlying22
    go_enter Try.func26, Try.ntmps26
    go_wp2_with fail
    go_ret
    exact ⟨_, rfl, World.ownsRow_nil _ _ _ _, Below.refl _ _⟩
  · injection he with e1 e2 e3
    subst e1 e3
    obtain ⟨i0, hi, hz0, hz1, hz2⟩ := info_parts info9
    have hcells := h.cells (g := g) rfl
    obtain ⟨n, hn⟩ : ∃ n, n = l.length := ⟨_, rfl⟩
    have HN := Lib.hid hn
    have HCC := Lib.hid hcells
    rw [← hn] at hl ⊢
    clear h hh e2 hcells hn hnc hcm
    have q24 : ∀ (w : World) (a : Option Addr) (n c n' c' : Nat), (binOp .eql 22 (.slice a n c) (.slice none n' c')).run Try.prog w = .ok (.bool a.isNone) w := fun w a n c n' c' => Lib.run_eql_slice_nil w _ _ a n c n' c' Try.underlying22
    go_enter Try.func26, Try.ntmps26
    go_wp2_with (at_builtin; refine wpList_append_own _ rfl _ _ 22 rfl w.heap.size 9 i0 (.string { data := #[] }) 1 16 Try.underlying22 hi hz0 hz1 hz2 rfl (by decide) _ _ _ rfl (World.ownsRow_made w #[] 0 (Nat.le_refl _) (Nat.zero_le _) rfl) ⟨g, 0, none⟩ n c (l.map Fr.sv) rfl ?qc1 ?qc2 ?qc3 ?qc4 ?qc5 ?qc6 ?_)
    case qc1 => rw [List.length_map, ← HN.out, Nat.mul_one]
    case qc2 =>
      intro k u hk
      refine Lib.cell?_alloc_some _ ?_
      exact HCC.out k u hk
    case qc3 => exact Fr.sv_one l
    case qc4 => unfold maxLen; omega
    case qc5 => omega
    case qc6 => simp
    intro v' w1 hown hgrow hnil
    obtain ⟨a1, c1, rfl⟩ := own_form hown
    have hfin : Fr.Texts w1 w.heap.size (.slice a1 n c1) l := by
      unfold Fr.Texts
      rw [← HN.out]
      exact hown
    have hbel : Below w.heap.size w w1 := ((Below.refl _ w).alloc (Nat.le_refl _) _).grown hgrow (by simp) (by intro k hk; simp [Value.ownBlock] at hk; omega)
    have HF := Lib.hid hfin
    have HB := Lib.hid hbel
    clear hown hgrow hnil hfin hbel
    go_wp2_with fail
    go_ret
    exact ⟨_, rfl, HF.out, HB.out⟩
set_option maxRecDepth 100000 in
theorem iRecords_any {O : World → (Nat → Prop) → St → Prop} (k : Dk.Kind O) (b j : Nat) {F Fd : Nat → Prop} {x : Jst} {v : Value} (p : ByteArray) (w : World) (h : JAt O 39 b j p v Fd w F x) (hl : x.R.length ≤ 10000000000) :
    Calls Try.prog 13 #[.pointer (some ⟨j, 0, none⟩)] w fun e w' => ∃ v', e = .returned v' ∧ Fr.Texts w' w.heap.size v' x.R ∧ Below w.heap.size w w' := by
  obtain ⟨_, _, t2, _⟩ := h.cell
  obtain ⟨a, c, hv, _⟩ := h.row.form
  obtain ⟨n, hn⟩ : ∃ n, n = x.R.length := ⟨_, rfl⟩
  rw [← hn] at hv hl
  have cc := fun W (hW : Fr.Texts W 0 v x.R) => by
    rw [hv] at hW
    exact clone_any a n c x.R W hW hn hl
  have hrow := h.row
  have ct := cc w hrow
  have HN := Lib.hid hn
  clear h hrow cc hn
  subst hv
  go_enter Try.func13, Try.ntmps13
  go_wp2_with fail
  go_at_call 26
  refine ct.mono ?_
  rintro e w5 ⟨v5, rfl, h5, hb5⟩
  obtain ⟨a5, c5, hv5, _⟩ := h5.form
  rw [← HN.out] at hv5
  have H5 := Lib.hid h5
  clear h5
  subst hv5
  go_wp2_with fail
  go_ret
  exact ⟨_, rfl, H5.out, hb5⟩
end Go.Proofs.Ytjdmbkkdnonkkaa.Wl

namespace Go.Proofs.Ytjdmbkkdnonkkaa.Dk
open Go.RowKit Tx Pm
set_option linter.unusedVariables false
structure Reads (O : World → (Nat → Prop) → St → Prop) (v : Value) (f : Fin 5 → FuncId) : Prop where
  read : ∀ {w F s i T} (P : ByteArray), O w F s → Far s i T → P.size ≤ 1048576 → Calls Try.prog (f 0) #[v, .string P] w fun e w' => e = .returned (.tuple #[.string (readS s P).1, .int .i64 ((readS s P).2 : Nat)]) ∧ Below w.heap.size w w'
  kind : ∀ {w F s i T} (P : ByteArray), O w F s → Far s i T → P.size ≤ 1048576 → Calls Try.prog (f 1) #[v, .string P] w fun e w' => e = .returned (.int .i64 (kind s.L P : Nat)) ∧ Below w.heap.size w w'
  stamp : ∀ {w F s i T} (P : ByteArray), O w F s → Far s i T → P.size ≤ 1048576 → Calls Try.prog (f 2) #[v, .string P] w fun e w' => e = .returned (.int .i64 (stampS s P : Nat)) ∧ Below w.heap.size w w'
  used : ∀ {w F s i T} (P : ByteArray), O w F s → Far s i T → P.size ≤ 1048576 → Calls Try.prog (f 3) #[v, .string P] w fun e w' => e = .returned (.int .i64 (used s.L P : Nat)) ∧ Below w.heap.size w w'
  list : ∀ {w F s i T} (P : ByteArray), O w F s → Far s i T → P.size ≤ 1048576 → Calls Try.prog (f 4) #[v, .string P] w (ListTo (list s.L P) w)
end Go.Proofs.Ytjdmbkkdnonkkaa.Dk



namespace Go.Proofs.Ytjdmbkkdnonkkaa.Tx
open Go.RowKit
set_option linter.unusedVariables false
theorem below_drewN {B : Nat} {a w : World} (h : Below B a w) (n : Nat) : Below B a (w.drewN n) := ⟨h.os, h.tape, h.output, h.size, h.block⟩
set_option maxRecDepth 100000 in
set_option maxHeartbeats 1000000 in
theorem same_true (a b : Option Addr) (n ca cb : Nat) (l : List ByteArray) (w : World) (hn : n ≤ 9223372036854775807) (ha : Strs w a n l) (hb : Strs w b n l) :
    Calls Try.prog 12 #[.slice a n ca, .slice b n cb] w fun e w' => e = .returned (.bool true) ∧ Below w.heap.size w w' := by
  by_cases h0 : n = 0
  · subst h0
    clear ha hb
    go_enter Try.func12, Try.ntmps12
    go_wp2_with fail
    go_loop [5] (fun i => i = .int .i64 0) (fun _ => 0)
    case atStart => exact rfl
    case round =>
      obtain rfl := hrel
      go_wp2_with fail
      go_ret
      exact ⟨rfl, Below.refl _ _⟩
  · obtain ⟨hl, ha⟩ := ha
    obtain ⟨ba, oa, rfl, hba, hca⟩ := ha.resolve_left h0
    obtain ⟨bb, ob, rfl, hbb, hcb⟩ := hb.2.resolve_left h0
    have HA := Lib.hid hca
    have HB := Lib.hid hcb
    clear hca hcb ha hb h0
    go_enter Try.func12, Try.ntmps12
    go_wp2_with fail
    go_loopw [5] (fun i wr => ∃ k : Nat, k ≤ n ∧ i = .int .i64 k ∧ Below w.heap.size w wr) (fun i _ => n - (intOf i).toNat)
    case atStart => exact ⟨0, Nat.zero_le _, rfl, Below.refl _ _⟩
    case round =>
      obtain ⟨k, hk, rfl, hB⟩ := hrel
      by_cases hlt : k < n
      · have c1 := (hB.cell (p := ⟨ba, oa + k, none⟩) hba).trans (HA.out k l[k] (List.getElem?_eq_getElem (by omega)))
        have c2 := (hB.cell (p := ⟨bb, ob + k, none⟩) hbb).trans (HB.out k l[k] (List.getElem?_eq_getElem (by omega)))
        obtain ⟨S, hS⟩ : ∃ S, S = l[k] := ⟨_, rfl⟩
        rw [← hS] at c1 c2
        clear hS hl
        have hlt1 : (k : Int) < (n : Int) := by omega
        go_wp2_with fail
        go_quiet (fail)
        go_wp2_with fail
        go_roundw
        case rel => exact ⟨k + 1, by omega, by go_num, below_drewN hB _⟩
        case measure => simp [intOf]; omega
      · go_wp2_with fail
        go_ret
        exact ⟨rfl, hB⟩
end Go.Proofs.Ytjdmbkkdnonkkaa.Tx

namespace Go.Proofs.Ytjdmbkkdnonkkaa.Aq
open Go.RowKit Tx
set_option linter.unusedVariables false
section
variable {P : Program}
theorem append_two (w : World) (base : Nat) (t ty e : TypeId) (i : TypeInfo) (z : Value) (bytes : Nat) (ht : P.underlying t = some (.slice e)) (hi : P.info? e = some i) (hz : i.zero = some z)
    (hsize : i.size = 1) (hby : i.bytes = bytes) (hzs : z.cells.size = 1)
    (v : Value) (n : Nat) (xs : List Value) (hown : w.ownsRow base e 1 v n xs)
    (a : Addr) (c : Nat) (u : Value) (hu : w.cell? a = some u) (h1 : u.oneCell' = true)
    (hn : n + 1 ≤ 1152921504606846976) (hbytes : (n + 1) * bytes ≤ 140737488355328) (hbase : base ≤ w.heap.size) :
    ∃ v' w', (Builtin.append_ #[t, t] ty #[v, .slice (some a) 1 c]).run P w = .ok v' w' ∧ w'.ownsRow base e 1 v' (n + 1) (xs ++ [u]) ∧
      ((v'.ownBlock = v.ownBlock ∧ w.grownBy w' v.ownBlock) ∨ (v'.ownBlock = some w.heap.size ∧ w.grownBy w' none)) := by
  have hnews : ∀ j x, [u][j]? = some x → w.cell? (a.add j) = some x := by
    intro j x hj
    match j, hj with
    | 0, hj =>
      simp at hj
      subst hj
      simpa [Addr.add] using hu
  have hone : ∀ x ∈ [u], x.oneCell' = true := by intro x hx; simp at hx; subst hx; exact h1
  have hlen : (xs ++ [u]).length = (n + 1) * 1 := by rw [List.length_append, hown.1]; simp
  have made : ∀ old, old < n + 1 → (w.drew.alloc (.cells (xs.toArray ++ [u].toArray ++ Builtin.zeroCells z.cells (grownCap w (n + 1) old e - (n + 1))) e)).ownsRow base e 1 (.slice (some ⟨w.heap.size, 0, none⟩) (n + 1) (grownCap w (n + 1) old e)) (n + 1) (xs ++ [u]) ∧
      w.grownBy (w.drew.alloc (.cells (xs.toArray ++ [u].toArray ++ Builtin.zeroCells z.cells (grownCap w (n + 1) old e - (n + 1))) e)) none := by
    intro old _
    have hge := grownCap_ge w (n + 1) old e
    have hcm := grownCap_le_maxLen w (n + 1) old e (by unfold maxLen; omega)
    refine ⟨⟨hlen, .inr ⟨w.heap.size, _, _, rfl, hbase, heap_alloc_new w.drew _, hge, hcm, ?_, ?_⟩⟩, ⟨rfl, rfl, rfl, by simp, fun k hk _ => Below.heap_alloc w.drew _ k hk⟩⟩
    · have h0 := hown.1
      simp only [Array.size_append, List.size_toArray, size_zeroCells, hzs, List.length_singleton]
      omega
    · simp only [Array.toList_append, List.append_assoc]
      rw [← List.append_assoc]
      exact List.take_left' hlen
  rcases hown.2 with ⟨rfl, rfl⟩ | ⟨g, cap, cur, rfl, hbg, hg, hnc, hcm, hcs, htake⟩
  · have hx : xs = [] := List.eq_nil_of_length_eq_zero (by simpa using hown.1)
    subst hx
    have hr := run_append_nil (P := P) w t ty e i z ht hi hz a 1 c [u] (by rw [hsize]; rfl) hnews (by omega) (by omega) (by rw [hby]; have h2 := hbytes; simp only [Nat.zero_add] at h2; omega)
    have hm := made 0 (by omega)
    simp only [Nat.zero_add, List.nil_append, Array.empty_append] at hm ⊢
    exact ⟨_, _, hr, hm.1, .inr ⟨rfl, hm.2⟩⟩
  · by_cases hroom : n + 1 ≤ cap
    · have hfit : n * i.size + [u].length ≤ cur.size := by rw [hsize, hcs]; simp; omega
      have hr := run_append_room (P := P) w t ty e i ht hi g n cap cur hg a 1 c [u] (by rw [hsize]; rfl) hnews hone hroom hfit
      refine ⟨_, _, hr, ⟨hlen, .inr ⟨g, cap, _, rfl, hbg, setRow_heap w g cur _ e _ hg, hroom, hcm, ?_, ?_⟩⟩, .inl ⟨rfl, ⟨rfl, rfl, rfl, by simp, fun k _ hk => setRow_other w g k _ (fun e => hk (by simp [Value.ownBlock, e]))⟩⟩⟩
      · simp only [List.size_toArray, List.length_append, List.length_take, List.length_drop, Array.length_toList, hsize, List.length_singleton]
        simp only [hsize, List.length_singleton] at hfit
        omega
      · rw [hsize, htake]
        exact List.take_left' hlen
    · have hr := run_append_grow (P := P) w t ty e i z ht hi hz ⟨g, 0, none⟩ n cap xs (by rw [hsize]; exact hown.1) (hown.cells (g := g) rfl) a 1 c [u] (by rw [hsize]; rfl) hnews (by omega) (by omega) (growslice_fits (by omega) (by rw [hby]; exact hbytes))
      have hm := made cap (by omega)
      exact ⟨_, _, hr, hm.1, .inr ⟨rfl, hm.2⟩⟩
end
theorem wpList_append_two {P : Program} (w : World) {ops : Array Oper} {rest : List Oper} {o : Oper} {a : Act} {Q : Exit → Act → World → Prop} (hgd : o.guard = none) (s x : Operand) (t : TypeId)
    (ho : o.op = .call { callee := .builtin .append, args := #[s, x], argTypes := #[t, t] })
    (base : Nat) (e : TypeId) (i : TypeInfo) (z : Value) (bytes : Nat) (ht : P.underlying t = some (.slice e)) (hi : P.info? e = some i) (hz : i.zero = some z)
    (hsize : i.size = 1) (hby : i.bytes = bytes) (hzs : z.cells.size = 1)
    (v : Value) (n : Nat) (xs : List Value) (hs : a.eval s = v) (hown : w.ownsRow base e 1 v n xs)
    (ad : Addr) (c : Nat) (u : Value) (hx : a.eval x = .slice (some ad) 1 c) (hu : w.cell? ad = some u) (h1 : u.oneCell' = true)
    (hn : n + 1 ≤ 1152921504606846976) (hbytes : (n + 1) * bytes ≤ 140737488355328) (hbase : base ≤ w.heap.size)
    (h : ∀ v' w', w'.ownsRow base e 1 v' (n + 1) (xs ++ [u]) → ((v'.ownBlock = v.ownBlock ∧ w.grownBy w' v.ownBlock) ∨ (v'.ownBlock = some w.heap.size ∧ w.grownBy w' none)) → wpList P ops Q rest (a.put o.dst v') w') :
    wpList P ops Q (o :: rest) a w := by
  refine wpList_plain hgd fun K hK => ?_
  obtain ⟨v', w', hr, h2, h3⟩ := append_two (P := P) w base t o.type e i z bytes ht hi hz hsize hby hzs v n xs hown ad c u hu h1 hn hbytes hbase
  unfold Oper.wp execOp
  simp only [ho, resolve, invoke, builtin, Sem.run_bind, Sem.run_pure, Result.andThen_ok, List.map_toArray, List.map_cons, List.map_nil, hs, hx, hr]
  exact hK _ _ (h v' w' h2 h3)
theorem own_kept {w w1 : World} {base n : Nat} {e : TypeId} {v : Value} {xs : List Value} {row : Option Nat} (h : w.ownsRow base e 1 v n xs) (hg : w.grownBy w1 row) (hne : v.ownBlock ≠ row ∨ row = none) : w1.ownsRow base e 1 v n xs := by
  rcases hne with hne | rfl
  · exact h.kept hg (.inr hne)
  · refine h.kept hg ?_
    cases hv : v.ownBlock
    · exact .inl rfl
    · exact .inr (by simp)
end Go.Proofs.Ytjdmbkkdnonkkaa.Aq

namespace Go.Proofs.Ytjdmbkkdnonkkaa.Aq
open Go.RowKit Tx
set_option linter.unusedVariables false
def MK : ByteArray := ⟨#[97, 98, 99, 100, 101, 102, 103, 104, 105, 106, 107, 108, 109, 110, 111, 112, 113, 114, 115, 116, 117, 118, 119, 120, 121, 122]⟩
def was (j : Nat) : ByteArray := ⟨#[119, 97, 115]⟩ ++ MK.extract (j % 26) (j % 26 + 1)
def new (j : Nat) : ByteArray := ⟨#[110, 101, 119]⟩ ++ MK.extract (j % 26) (j % 26 + 1)
structure Ls where
  m : Nat
  A : Nat → Option Addr
  N : Nat → Nat
  C : Nat → Nat
  bo : Nat
  B : Nat
namespace Ls
variable (L : Ls)
def cells (w : World) : Prop := ∀ j, j < L.m → w.cell? ⟨L.bo, j, none⟩ = some (.slice (L.A j) (L.N j) (L.C j))
end Ls
def sw (j : Nat) : Value := .string (was j)
def sn (j : Nat) : Value := .string (new j)
def row (L : Ls) (j k : Nat) : List Value := List.replicate (L.N j) (sw j) ++ List.replicate k (sn j)
structure Inv (L : Ls) (w0 : World) (H i r : Nat) (w : World) (v6 : Value) (vs : List Value) (b c : Nat → Nat) : Prop where
  cells : L.cells w
  held : ∀ j, j < L.m → ∀ l, l < L.N j → ∃ g, L.A j = some ⟨g, 0, none⟩ ∧ w.cell? ⟨g, l, none⟩ = some (sw j)
  rows : ∀ j, r ≤ j → j < L.m → w.ownsRow L.B 9 1 (.slice (L.A j) (L.N j) (L.C j)) (L.N j) (row L j 0)
  outer : w.ownsRow L.B 22 1 v6 i vs
  high : ∀ g, v6.ownBlock = some g → H ≤ g
  long : ∀ j, j < i → vs[j]? = some (.slice (some ⟨b j, 0, none⟩) (L.N j + 20) (c j)) ∧ w.ownsRow L.B 9 1 (.slice (some ⟨b j, 0, none⟩) (L.N j + 20) (c j)) (L.N j + 20) (row L j 20) ∧ (L.A j = some ⟨b j, 0, none⟩ ∨ H ≤ b j)
  apart : ∀ j k, j < i → k < i → j ≠ k → b j ≠ b k
  low : ∀ j, j < L.m → ∀ g, L.A j = some ⟨g, 0, none⟩ → g < H
  bo : L.bo < H
  size : H ≤ w.heap.size
  below : Below L.B w0 w
  base : L.B ≤ H
structure Cur (L : Ls) (H i k : Nat) (w : World) (v : Value) (b : Nat → Nat) : Prop where
  own : w.ownsRow L.B 9 1 v (L.N i + k) (row L i k)
  at_ : ∀ g, v.ownBlock = some g → (L.A i = some ⟨g, 0, none⟩ ∨ H ≤ g) ∧ ∀ j, j < i → b j ≠ g
end Go.Proofs.Ytjdmbkkdnonkkaa.Aq

namespace Go.Proofs.Ytjdmbkkdnonkkaa.Aq
open Go.RowKit Tx
set_option linter.unusedVariables false
end Go.Proofs.Ytjdmbkkdnonkkaa.Aq

namespace Go.Proofs.Ytjdmbkkdnonkkaa.Aq
open Go.RowKit Tx
set_option linter.unusedVariables false
def two (a b : Option Addr) (n ca cb bo B : Nat) : Ls := { m := 2, A := fun j => if j = 0 then a else b, N := fun _ => n, C := fun j => if j = 0 then ca else cb, bo := bo, B := B }
end Go.Proofs.Ytjdmbkkdnonkkaa.Aq

namespace Go.Proofs.Ytjdmbkkdnonkkaa.Dk
open Go.RowKit Tx Pm
set_option linter.unusedVariables false
end Go.Proofs.Ytjdmbkkdnonkkaa.Dk

namespace Go.Proofs.Ytjdmbkkdnonkkaa.Dk
open Go.ChangeMaps (open_string shut_string)
open Go.ChangeShapes Go.WideShapes Go.ChangeAt Go.RowKit Tx
set_option linter.unusedVariables false
structure Sp where
  k : Int
  p : ByteArray
  q : ByteArray
  n : Int
end Go.Proofs.Ytjdmbkkdnonkkaa.Dk

namespace Go.Proofs.Ytjdmbkkdnonkkaa.Dk
open Go.RowKit Tx Pm
set_option linter.unusedVariables false
def pV : ByteArray := ⟨#[118]⟩
def pVA : ByteArray := ⟨#[118, 47, 97]⟩
def pVB : ByteArray := ⟨#[118, 47, 98]⟩
def a1S : St := (mkdirS newS pV).2
theorem a1_ok : (mkdirS newS pV).1 = 0 := by decide +kernel
end Go.Proofs.Ytjdmbkkdnonkkaa.Dk

namespace Go.Proofs.Ytjdmbkkdnonkkaa.Dk
open Go.RowKit Tx Pm
set_option linter.unusedVariables false
theorem fits_none {s : St} (h : s.rooms = []) (p : ByteArray) (m : Int) : fits s p m = true := by
  unfold fits
  rw [h, List.all_nil, Bool.or_true]
def dirV : It := ⟨pV, true, ⟨#[]⟩, ⟨#[]⟩, false, false, 0⟩
def m1 (a : ByteArray) : St := ⟨[dirV, ⟨pVA, false, a, ⟨#[]⟩, true, true, 1⟩], [], 2, 1, -1, false⟩
def m2 (a : ByteArray) : St := ⟨[dirV, ⟨pVA, false, a, a, false, false, 1⟩], [], 3, 1, -1, false⟩
def m3 (a b : ByteArray) : St := ⟨[dirV, ⟨pVA, false, a, a, false, false, 1⟩, ⟨pVB, false, b, ⟨#[]⟩, true, true, 2⟩], [], 4, 2, -1, false⟩
def m4 (a b : ByteArray) : St := ⟨[dirV, ⟨pVA, false, a, a, false, false, 1⟩, ⟨pVB, false, b, b, false, false, 2⟩], [], 5, 2, -1, false⟩
def m6 (a b : ByteArray) : St := { m4 a b with down := true }
end Go.Proofs.Ytjdmbkkdnonkkaa.Dk

namespace Go.Proofs.Ytjdmbkkdnonkkaa.Dk
open Go.RowKit Tx Pm
set_option linter.unusedVariables false
def syn (p x : ByteArray) (n : Nat) : It := ⟨p, false, x, x, false, false, n⟩
def raw (p x : ByteArray) (n : Nat) : It := ⟨p, false, x, ⟨#[]⟩, true, true, n⟩
end Go.Proofs.Ytjdmbkkdnonkkaa.Dk

namespace Go.Proofs.Ytjdmbkkdnonkkaa.Fr
open Go.RowKit Wm Wr Fm
end Go.Proofs.Ytjdmbkkdnonkkaa.Fr

namespace Go.Proofs.Ytjdmbkkdnonkkaa.Fr
open Go.RowKit Wm Wr Fm
set_option linter.unusedVariables false
theorem trn_size (s : ByteArray) (B : Nat) (h : B / 8 < s.size) : (trn s B).size = s.size := by
  rw [← len_l, trn_list s B h, List.length_set, len_l]
theorem flip_lt (c i : Nat) (hc : c < 256) (hi : i < 8) : flip c i < 256 := (flip_all c hc i hi).2.1
theorem flip_ne (c i : Nat) (hc : c < 256) (hi : i < 8) : flip c i ≠ c := by
  intro h
  have := (flip_all c hc i hi).2.2.2.1
  rw [flip] at h
  rw [h] at this
  exact this rfl
theorem ofNat_toNat (n : Nat) (h : n < 256) : (UInt8.ofNat n).toNat = n := by simp; omega
theorem fsum_set (l : List UInt8) (j i : Nat) (hj : j < l.length) (hi : i < 8) : fsum (l.set j (UInt8.ofNat (flip (l.getD j 0).toNat i))) ≠ fsum l := by
  have hc := getD_lt l j
  have hx := flip_all (l.getD j 0).toNat hc i hi
  have e : l = l.take j ++ (l.getD j 0 :: l.drop (j + 1)) := by
    rw [List.getD_eq_getElem?_getD, List.getElem?_eq_getElem hj, Option.getD_some, ← List.drop_eq_getElem_cons hj, List.take_append_drop]
  have e2 : l.set j (UInt8.ofNat (flip (l.getD j 0).toNat i)) = l.take j ++ (UInt8.ofNat (flip (l.getD j 0).toNat i) :: l.drop (j + 1)) := by
    rw [List.set_eq_take_append_cons_drop, if_pos hj]
  have s1 : csum 4294967295 l = csum (cbits 8 (csum 4294967295 (l.take j)) (l.getD j 0).toNat) (l.drop (j + 1)) := by
    conv => lhs; rw [e]
    rw [csum_append]
    rfl
  have s2 : csum 4294967295 (l.set j (UInt8.ofNat (flip (l.getD j 0).toNat i))) = csum (cbits 8 (csum 4294967295 (l.take j)) (flip (l.getD j 0).toNat i)) (l.drop (j + 1)) := by
    rw [e2, csum_append]
    have : ∀ c (b : UInt8) (m : List UInt8), csum c (b :: m) = csum (cbits 8 c b.toNat) m := fun _ _ _ => rfl
    rw [this, ofNat_toNat _ (flip_lt _ _ hc hi)]
  have h0 := csum_lt (l.take j) (c := 4294967295) (by decide)
  have hne : cbits 8 (csum 4294967295 (l.take j)) (flip (l.getD j 0).toNat i) ≠ cbits 8 (csum 4294967295 (l.take j)) (l.getD j 0).toNat :=
    cbits_ne 8 i _ _ h0 hi (fun k hk hne => hx.2.2.1 k hk hne) hx.2.2.2.1
  intro h
  have b1 := csum_lt l (c := 4294967295) (by decide)
  have b2 := csum_lt (l.set j (UInt8.ofNat (flip (l.getD j 0).toNat i))) (c := 4294967295) (by decide)
  have h' : csum 4294967295 (l.set j (UInt8.ofNat (flip (l.getD j 0).toNat i))) = csum 4294967295 l := by unfold fsum at h; omega
  rw [s1, s2] at h'
  exact hne (csum_inj _ (cbits_lt 8 _ h0) (cbits_lt 8 _ h0) h')
theorem rdT_front (t : ByteArray) (m : List UInt8) (h : t.size ≤ 9223372036854775807) : rdT ⟨(vb t.size ++ (t.data.toList ++ m)).toArray⟩ = (t, (vb t.size).length + t.size, 0) := by
  have e : rdU (⟨(vb t.size ++ (t.data.toList ++ m)).toArray⟩ : ByteArray).data.toList = (t.size, (vb t.size).length, 0) := by
    show rdU (vb t.size ++ (t.data.toList ++ m)) = _
    rw [rdU, rd_vb t.size _ (by omega), if_neg]
    rintro ⟨_, h2⟩
    simp only at h2
    omega
  have hlen : (⟨(vb t.size ++ (t.data.toList ++ m)).toArray⟩ : ByteArray).size = (vb t.size).length + (t.size + m.length) := by
    rw [ByteArray.size, List.size_toArray, List.length_append, List.length_append, len_l]
  rw [rdT, e, if_neg (fun h => h rfl), if_neg (by rw [hlen]; show ¬ _ < (vb t.size).length + t.size; omega)]
  congr 1
  apply ByteArray.ext
  rw [ByteArray.data_extract]
  apply Array.toList_inj.1
  rw [← len_l t]
  simp
theorem fr_front (t : ByteArray) (m r : List UInt8) (h : t.size ≤ 9223372036854775807) (hm : m.length = 4) :
    fr ⟨(vb t.size ++ (t.data.toList ++ (m ++ r))).toArray⟩ = if m = le4 (fsum t.data.toList) then (t, (vb t.size).length + t.size + 4, 0) else (⟨#[]⟩, 0, 6) := by
  have e := rdT_front t (m ++ r) h
  have hlen : (⟨(vb t.size ++ (t.data.toList ++ (m ++ r))).toArray⟩ : ByteArray).size = (vb t.size).length + (t.size + (4 + r.length)) := by
    rw [ByteArray.size, List.size_toArray, List.length_append, List.length_append, List.length_append, len_l, hm]
  have hx : (⟨(vb t.size ++ (t.data.toList ++ (m ++ r))).toArray⟩ : ByteArray).extract 0 ((vb t.size).length + t.size + 4) = ⟨(vb t.size ++ (t.data.toList ++ m)).toArray⟩ := by
    apply ByteArray.ext
    rw [ByteArray.data_extract]
    apply Array.toList_inj.1
    rw [Array.toList_extract]
    simp only [List.extract_eq_take_drop, List.drop_zero, Nat.sub_zero]
    rw [show vb t.size ++ (t.data.toList ++ (m ++ r)) = (vb t.size ++ (t.data.toList ++ m)) ++ r by simp]
    exact List.take_left' (by rw [List.length_append, List.length_append, len_l, hm]; omega)
  rw [fr, e, if_neg (fun h => h rfl), if_neg (by rw [hlen]; show ¬ _ - ((vb t.size).length + t.size) < 4; omega)]
  simp only
  rw [hx]
  have hpk : (⟨(vb t.size ++ (t.data.toList ++ m)).toArray⟩ : ByteArray) = pk t ↔ m = le4 (fsum t.data.toList) := by
    constructor
    · intro hh
      have := congrArg (fun b : ByteArray => b.data.toList) hh
      simp only [pk_list] at this
      exact List.append_cancel_left (List.append_cancel_left this)
    · intro hh
      apply ByteArray.ext
      apply Array.toList_inj.1
      rw [pk_list, hh]
  by_cases hh : m = le4 (fsum t.data.toList)
  · rw [if_pos hh, if_neg (fun h => h (hpk.2 hh))]
  · rw [if_neg hh, if_pos (fun h => hh (hpk.1 h))]
theorem fr_turned (s : ByteArray) (r : List UInt8) (B : Nat) (hs : s.size ≤ 9223372036854775807) (h1 : 8 * (vb s.size).length ≤ B) (h2 : B < 8 * (pk s).size) :
    fr ⟨((trn (pk s) B).data.toList ++ r).toArray⟩ = (⟨#[]⟩, 0, 6) := by
  have hp := pk_size s
  have hB : B / 8 < (pk s).size := by omega
  rw [trn_list (pk s) B hB, pk_list]
  obtain ⟨j, hj⟩ : ∃ j, B / 8 = (vb s.size).length + j := ⟨B / 8 - (vb s.size).length, by omega⟩
  rw [hj]
  have hl := len_l s
  have hg : (vb s.size ++ (s.data.toList ++ le4 (fsum s.data.toList))).getD ((vb s.size).length + j) 0 = (s.data.toList ++ le4 (fsum s.data.toList)).getD j 0 := by
    rw [List.getD_eq_getElem?_getD, List.getElem?_append_right (by omega), Nat.add_sub_cancel_left, ← List.getD_eq_getElem?_getD]
  rw [hg, List.set_append_right _ _ (by omega), Nat.add_sub_cancel_left, List.append_assoc]
  by_cases hjs : j < s.size
  · have hg2 : (s.data.toList ++ le4 (fsum s.data.toList)).getD j 0 = s.data.toList.getD j 0 := by
      rw [List.getD_eq_getElem?_getD, List.getElem?_append_left (by omega), ← List.getD_eq_getElem?_getD]
    rw [hg2, List.set_append_left _ _ (by omega), List.append_assoc]
    obtain ⟨t, ht⟩ : ∃ t : ByteArray, t.data.toList = s.data.toList.set j (UInt8.ofNat (flip (s.data.toList.getD j 0).toNat (B % 8))) := ⟨⟨(s.data.toList.set j (UInt8.ofNat (flip (s.data.toList.getD j 0).toNat (B % 8)))).toArray⟩, rfl⟩
    have hts : t.size = s.size := by rw [← len_l, ht, List.length_set, len_l]
    rw [← ht, ← hts, fr_front t _ r (by omega) rfl, if_neg]
    intro h
    have := le4_inj (fsum_lt _) (fsum_lt _) h
    rw [ht] at this
    exact fsum_set s.data.toList j (B % 8) (by omega) (by omega) this.symm
  · have hg2 : (s.data.toList ++ le4 (fsum s.data.toList)).getD j 0 = (le4 (fsum s.data.toList)).getD (j - s.size) 0 := by
      rw [List.getD_eq_getElem?_getD, List.getElem?_append_right (by omega), hl, ← List.getD_eq_getElem?_getD]
    rw [hg2, List.set_append_right _ _ (by omega), hl, List.append_assoc]
    have h4 : (le4 (fsum s.data.toList)).length = 4 := rfl
    have hjl : j - s.size < (le4 (fsum s.data.toList)).length := by omega
    rw [fr_front s _ r hs (by rw [List.length_set]; rfl), if_neg]
    intro h
    have e2 := congrArg (fun l => (l.getD (j - s.size) 0).toNat) h
    rw [List.getD_eq_getElem?_getD (l := (le4 (fsum s.data.toList)).set _ _), List.getElem?_set_self hjl] at e2
    simp only [Option.getD_some] at e2
    rw [ofNat_toNat _ (flip_lt _ _ (getD_lt _ _) (by omega))] at e2
    exact flip_ne _ _ (getD_lt _ _) (by omega) e2
end Go.Proofs.Ytjdmbkkdnonkkaa.Fr

namespace Go.Proofs.Ytjdmbkkdnonkkaa.Fr
open Go.RowKit Wm Wr Fm
set_option linter.unusedVariables false
def PKl (l : List ByteArray) : List UInt8 := (l.map fun t => (pk t).data.toList).flatten
theorem PKl_cons (t : ByteArray) (l : List ByteArray) : PKl (t :: l) = (pk t).data.toList ++ PKl l := by simp [PKl]
theorem PKl_snoc (l : List ByteArray) (t : ByteArray) : PKl (l ++ [t]) = PKl l ++ (pk t).data.toList := by simp [PKl]
def cnt : List ByteArray → Nat → Nat
  | [], _ => 0
  | t :: l, b => if (pk t).size ≤ b then cnt l (b - (pk t).size) + 1 else 0
theorem cnt_all : ∀ (l : List ByteArray) (b : Nat), (PKl l).length ≤ b → cnt l b = l.length
  | [], _, _ => rfl
  | t :: l, b, h => by
    rw [PKl_cons, List.length_append, len_l] at h
    rw [cnt, if_pos (by omega), cnt_all l _ (by omega)]
    rfl
theorem lead_cut : ∀ (f x k : Nat), k < (vb x).length → k ≤ f → lead ((vb x).take k) f = k
  | f, x, 0, _, _ => by cases f <;> simp [lead]
  | 0, x, k + 1, _, h => absurd h (by omega)
  | f + 1, x, k + 1, h, hf => by
    by_cases hx : x < 128
    · rw [vb_lo hx] at h; simp at h
    · rw [vb_hi (by omega)] at h ⊢
      have e : (UInt8.ofNat (128 + x % 128)).toNat = 128 + x % 128 := by simp; omega
      rw [List.take_succ_cons, lead, if_pos (by omega), lead_cut f (x / 128) k (by simpa using h) (by omega)]
theorem rd_cut (x k : Nat) (h : k < (vb x).length) (hx : x < 18446744073709551616) : rd ((vb x).take k) = (0, 0, 2) := by
  have hl := vb_len hx
  have e := lead_cut 9 x k h (by omega)
  have e2 : ((vb x).take k).length = k := by rw [List.length_take]; omega
  unfold rd
  simp only [e, e2]
  exact if_pos trivial
theorem fr_cut (t : ByteArray) (k : Nat) (h : k < (pk t).size) (ht : t.size ≤ 9223372036854775807) : (fr ⟨((pk t).data.toList.take k).toArray⟩).2.2 = 2 := by
  have hp := pk_size t
  have hlen : (⟨((pk t).data.toList.take k).toArray⟩ : ByteArray).size = k := by
    rw [ByteArray.size, List.size_toArray, List.length_take, len_l]; omega
  rw [pk_list] at hlen ⊢
  by_cases h1 : k < (vb t.size).length
  · have e : (vb t.size ++ (t.data.toList ++ le4 (fsum t.data.toList))).take k = (vb t.size).take k := List.take_append_of_le_length (by omega)
    have r : rdU (⟨((vb t.size ++ (t.data.toList ++ le4 (fsum t.data.toList))).take k).toArray⟩ : ByteArray).data.toList = (0, 0, 2) := by
      show rdU ((vb t.size ++ (t.data.toList ++ le4 (fsum t.data.toList))).take k) = _
      rw [e, rdU, rd_cut t.size k h1 (by omega), if_neg (by simp)]
    rw [fr, rdT, r, if_pos (by simp), if_pos (by simp)]
  · obtain ⟨m, rfl⟩ : ∃ m, k = (vb t.size).length + m := ⟨k - (vb t.size).length, by omega⟩
    have e : (vb t.size ++ (t.data.toList ++ le4 (fsum t.data.toList))).take ((vb t.size).length + m) = vb t.size ++ (t.data.toList ++ le4 (fsum t.data.toList)).take m := by
      rw [List.take_append, List.take_of_length_le (by omega), Nat.add_sub_cancel_left]
    rw [e] at hlen ⊢
    by_cases h2 : m < t.size
    · have r : rdU (⟨(vb t.size ++ (t.data.toList ++ le4 (fsum t.data.toList)).take m).toArray⟩ : ByteArray).data.toList = (t.size, (vb t.size).length, 0) := by
        show rdU (vb t.size ++ _) = _
        rw [rdU, rd_vb t.size _ (by omega), if_neg]
        rintro ⟨_, h3⟩
        simp only at h3
        omega
      have r2 : rdT ⟨(vb t.size ++ (t.data.toList ++ le4 (fsum t.data.toList)).take m).toArray⟩ = (ByteArray.empty, 0, 2) := by
        rw [rdT, r, if_neg (fun h => h rfl), if_pos (by rw [hlen]; show (vb t.size).length + m < (vb t.size).length + t.size; omega)]
      rw [fr, r2, if_pos (by simp)]
    · have e2 : (t.data.toList ++ le4 (fsum t.data.toList)).take m = t.data.toList ++ (le4 (fsum t.data.toList)).take (m - t.size) := by
        rw [List.take_append, List.take_of_length_le (by rw [len_l]; omega), len_l]
      rw [e2] at hlen ⊢
      rw [fr, rdT_front t _ ht, if_neg (fun h => h rfl), if_pos (by rw [hlen]; show (vb t.size).length + m - ((vb t.size).length + t.size) < 4; omega)]
theorem fr_pk (t : ByteArray) (r : List UInt8) (ht : t.size ≤ 9223372036854775807) : fr ⟨((pk t).data.toList ++ r).toArray⟩ = (t, (pk t).size, 0) := by
  have e : (pk t).data.toList ++ r = vb t.size ++ (t.data.toList ++ (le4 (fsum t.data.toList) ++ r)) := by rw [pk_list]; simp
  rw [e, fr_front t _ r ht rfl, if_pos rfl, pk_size]
theorem mk_len (l : List UInt8) : (⟨l.toArray⟩ : ByteArray).size = l.length := by rw [ByteArray.size, List.size_toArray]
theorem from_at (p r : List UInt8) : (⟨(p ++ r).toArray⟩ : ByteArray).extract p.length (⟨(p ++ r).toArray⟩ : ByteArray).size = ⟨r.toArray⟩ := by
  apply ByteArray.ext
  rw [ByteArray.data_extract]
  apply Array.toList_inj.1
  rw [mk_len]
  simp
theorem scan_cut : ∀ (l : List ByteArray) (pre : List UInt8) (b : Nat), (∀ t ∈ l, t.size ≤ 9223372036854775807) →
    sc ⟨(pre ++ (PKl l).take b).toArray⟩ pre.length = (l.take (cnt l b), pre.length + (PKl (l.take (cnt l b))).length, if (PKl (l.take (cnt l b))).length = min b (PKl l).length then 0 else 2)
  | [], pre, b, _ => by
    have e : (PKl []).take b = [] := by simp [PKl]
    rw [e, List.append_nil, sc_end (by rw [mk_len]; omega)]
    simp [cnt, PKl]
  | t :: l, pre, b, ht => by
    have h0 := ht t (by simp)
    have hk : 0 < (pk t).size := by rw [pk_size]; omega
    rw [PKl_cons]
    by_cases hb : (pk t).size ≤ b
    · have e : ((pk t).data.toList ++ PKl l).take b = (pk t).data.toList ++ (PKl l).take (b - (pk t).size) := by
        rw [List.take_append, List.take_of_length_le (by rw [len_l]; omega), len_l]
      rw [e, sc_one (n := (pk t).size) (t := t) (by rw [mk_len, List.length_append, List.length_append, len_l]; omega) (by rw [from_at, fr_pk t _ h0])]
      have ih := scan_cut l (pre ++ (pk t).data.toList) (b - (pk t).size) (fun s hs => ht s (by simp [hs]))
      rw [List.append_assoc, List.length_append, len_l] at ih
      rw [ih, cnt, if_pos hb, List.take_succ_cons, PKl_cons, List.length_append, List.length_append, len_l]
      simp only [Prod.mk.injEq, true_and]
      refine ⟨by omega, ?_⟩
      by_cases hq : (PKl (l.take (cnt l (b - (pk t).size)))).length = min (b - (pk t).size) (PKl l).length
      · rw [if_pos hq, if_pos (by omega)]
      · rw [if_neg hq, if_neg (by omega)]
    · have e : ((pk t).data.toList ++ PKl l).take b = (pk t).data.toList.take b := List.take_append_of_le_length (by rw [len_l]; omega)
      have ez : PKl [] = [] := rfl
      rw [e, cnt, if_neg hb, List.take_zero, ez, List.length_nil, List.length_append, len_l]
      by_cases h1 : b = 0
      · subst h1
        rw [List.take_zero, List.append_nil, sc_end (by rw [mk_len]; omega)]
        simp
      · have hc := fr_cut t b (by omega) h0
        obtain ⟨x, n, e2, h2⟩ := trip (fr ⟨((pk t).data.toList.take b).toArray⟩)
        rw [h2] at hc
        have hc' : e2 = 2 := hc
        subst hc'
        rw [sc_bad (t := x) (n := n) (e := 2) (by rw [mk_len, List.length_append, List.length_take, len_l]; omega) (by rw [from_at, h2]) (by omega), if_neg (by omega)]
        rfl
end Go.Proofs.Ytjdmbkkdnonkkaa.Fr

namespace Go.Proofs.Ytjdmbkkdnonkkaa.Wl
open Go.RowKit Tx Pm Dk Fr
set_option linter.unusedVariables false
def pL : ByteArray := ⟨#[118, 47, 108, 111, 103]⟩
def pT : ByteArray := ⟨#[118, 47, 108, 111, 103, 95, 116]⟩
theorem pL_tT : pL ++ tT = pT := by decide +kernel
def PK (l : List ByteArray) : ByteArray := ⟨(PKl l).toArray⟩
theorem PK_size (l : List ByteArray) : (PK l).size = (PKl l).length := by rw [PK, ByteArray.size, List.size_toArray]
theorem PK_snoc (l : List ByteArray) (r : ByteArray) : PK (l ++ [r]) = PK l ++ Fm.pk r := by
  apply ByteArray.ext
  apply Array.toList_inj.1
  rw [ByteArray.data_append, Array.toList_append]
  show PKl (l ++ [r]) = _
  rw [PKl_snoc]
  rfl
theorem PK_ext (l : List ByteArray) (k : Nat) : (PK l).extract 0 k = ⟨((PKl l).take k).toArray⟩ := by
  apply ByteArray.ext
  apply Array.toList_inj.1
  rw [ByteArray.data_extract, Array.toList_extract]
  simp [PK, List.extract_eq_take_drop]
theorem pk_le {r : ByteArray} (h : r.size ≤ 140737488351232) : (Fm.pk r).size ≤ 140737488351246 := by
  have := Wm.vb_len (x := r.size) (by omega)
  rw [Fm.pk_size]
  omega
theorem PKl_leB {B : Nat} : ∀ {l : List ByteArray}, (∀ r ∈ l, (Fm.pk r).size ≤ B) → (PKl l).length ≤ l.length * B
  | [], _ => Nat.zero_le _
  | r :: l, h => by
    have h1 := h r (by simp)
    have h2 := PKl_leB (l := l) (fun q hq => h q (by simp [hq]))
    rw [PKl_cons, List.length_append, Wm.len_l, List.length_cons, Nat.succ_mul]
    omega
theorem PK_le {l : List ByteArray} {n : Nat} (h : ∀ r ∈ l, r.size ≤ 140737488351232) (hl : l.length ≤ n) (hn : n ≤ 100) : (PK l).size ≤ 14073748835124600 := by
  rw [PK_size]
  have h1 := PKl_leB (B := 140737488351246) (fun r hr => pk_le (h r hr))
  exact Nat.le_trans h1 (Nat.le_trans (Nat.mul_le_mul_right _ (Nat.le_trans hl hn)) (by decide))
def dec (a : Int) : Int := if a > 0 then a - 1 else a
theorem dec_in {a : Int} (h : -1 ≤ a ∧ a ≤ 9223372036854775807) : -1 ≤ dec a ∧ dec a ≤ 9223372036854775807 := by unfold dec; split <;> omega
def J (t : ByteArray) (sn st sm : Nat) (a : Int) : St := ⟨[dirV, syn pL t sn], [], st, sm, a, false⟩
def Jd (t : ByteArray) (sn st sm : Nat) : St := ⟨[dirV, syn pL t sn], [], st, sm, -1, true⟩
def L1 (u t : ByteArray) (sn st sm : Nat) (a : Int) : St := ⟨[dirV, ⟨pL, false, u, t, true, false, sn⟩], [], st, sm, a, false⟩
def W1 (t d : ByteArray) (sn tn st sm : Nat) (a : Int) (dn : Bool) : St := ⟨[dirV, syn pL t sn, raw pT d tn], [], st, sm, a, dn⟩
def W2 (t d : ByteArray) (sn tn st sm : Nat) (a : Int) (dn : Bool) : St := ⟨[dirV, syn pL t sn, syn pT d tn], [], st, sm, a, dn⟩
theorem done_open {l : List It} {R : List Rm} {st sm : Nat} {a : Int} {dn : Bool} (h : a ≠ 0) : done ⟨l, R, st, sm, a, dn⟩ = (0, ⟨l, R, st + 1, sm, dec a, dn⟩) := by
  unfold done
  rw [if_neg (by exact h)]
  rfl
theorem j_append {t y : ByteArray} {sn st sm : Nat} {a : Int} (ha : a ≠ 0) : appendS (J t sn st sm a) pL y = (0, L1 (t ++ y) t (sm + 1) (st + 1) (sm + 1) (dec a)) := by
  unfold appendS J
  have h1 : there ⟨[dirV, syn pL t sn], [], st, sm, a, false⟩ pL = 0 := by kernel_rfl
  rw [fits_none rfl, done_open ha, if_neg (by rw [h1]; decide), if_neg (by decide), if_neg (by show ¬ (0 ≠ 0); decide)]
  change (_ : Nat × St) = _
  kernel_rfl
theorem j_append0 {t y : ByteArray} {sn st sm : Nat} : appendS (J t sn st sm 0) pL y = (14, Jd t sn st sm) := by
  unfold appendS
  rw [fits_none rfl]
  kernel_rfl
theorem l_sync {u t : ByteArray} {sn st sm : Nat} {a : Int} (ha : a ≠ 0) : syncS (L1 u t sn st sm a) pL = (0, J u sn (st + 1) sm (dec a)) := by
  unfold syncS L1
  have h1 : there ⟨[dirV, ⟨pL, false, u, t, true, false, sn⟩], [], st, sm, a, false⟩ pL = 0 := by kernel_rfl
  rw [done_open ha, if_neg (by rw [h1]; decide), if_neg (by show ¬ (0 ≠ 0); decide)]
  change (_ : Nat × St) = _
  kernel_rfl
theorem j_write {t d : ByteArray} {sn st sm : Nat} {a : Int} (ha : a ≠ 0) : writeS (J t sn st sm a) pT d = (0, W1 t d sn (sm + 1) (st + 1) (sm + 1) (dec a) false) := by
  unfold writeS J
  have h1 : first ⟨[dirV, syn pL t sn], [], st, sm, a, false⟩ pT 1 = 0 := by kernel_rfl
  have h2 : home [dirV, syn pL t sn] pT = true := by kernel_rfl
  have h3 : kind [dirV, syn pL t sn] pT = 0 := by kernel_rfl
  rw [fits_none rfl, done_open ha]
  rw [if_neg (by rw [h1]; decide), if_neg (by rw [h2]; decide), if_neg (by rw [h3]; decide), if_neg (by decide), if_neg (by show ¬ (0 ≠ 0); decide)]
  change (_ : Nat × St) = _
  kernel_rfl
theorem j_write0 {t d : ByteArray} {sn st sm : Nat} : writeS (J t sn st sm 0) pT d = (14, Jd t sn st sm) := by
  unfold writeS
  rw [fits_none rfl]
  kernel_rfl
theorem w_sync {t d : ByteArray} {sn tn st sm : Nat} {a : Int} (ha : a ≠ 0) : syncS (W1 t d sn tn st sm a false) pT = (0, W2 t d sn tn (st + 1) sm (dec a) false) := by
  unfold syncS W1
  have h1 : there ⟨[dirV, syn pL t sn, raw pT d tn], [], st, sm, a, false⟩ pT = 0 := by kernel_rfl
  rw [done_open ha, if_neg (by rw [h1]; decide), if_neg (by show ¬ (0 ≠ 0); decide)]
  change (_ : Nat × St) = _
  kernel_rfl
theorem w_sync0 {t d : ByteArray} {sn tn st sm : Nat} : syncS (W1 t d sn tn st sm 0 false) pT = (14, W1 t d sn tn st sm (-1) true) := by
  unfold syncS
  kernel_rfl
theorem w_rename {t d : ByteArray} {sn tn st sm : Nat} {a : Int} (ha : a ≠ 0) : renameS (W2 t d sn tn st sm a false) pT pL = (0, J d (sm + 1) (st + 1) (sm + 1) (dec a)) := by
  unfold renameS W2
  rw [fits_none rfl, done_open ha]
  kernel_rfl
theorem j_kind (t : ByteArray) (sn st sm : Nat) (a : Int) : kind (J t sn st sm a).L pL = 2 := by kernel_rfl
theorem j_read (t : ByteArray) (sn st sm : Nat) (a : Int) : readS (J t sn st sm a) pL = (t, 0) := by kernel_rfl
theorem j_old (t : ByteArray) (sn st sm : Nat) (a : Int) : (old (J t sn st sm a).L pL).data = t := by kernel_rfl
theorem j_add {t r : ByteArray} {sn st sm : Nat} {a : Int} {R : List ByteArray} {dm : Bool} (h1 : a ≠ 0) (h2 : dec a ≠ 0) : addS ⟨J t sn st sm a, R, dm⟩ pL r = (0, ⟨J (t ++ Fm.pk r) (sm + 1) (st + 1 + 1) (sm + 1) (dec (dec a)), R ++ [r], dm⟩) := by
  unfold addS
  simp only [j_append h1, l_sync h2]
  rfl
theorem j_fill {t d : ByteArray} {sn st sm : Nat} {a : Int} (h1 : a ≠ 0) (h2 : dec a ≠ 0) (h3 : dec (dec a) ≠ 0) : fillS (J t sn st sm a) pL d = (0, J d (sm + 1 + 1) (st + 1 + 1 + 1) (sm + 1 + 1) (dec (dec (dec a)))) := by
  unfold fillS
  rw [pL_tT, j_write h1]
  simp only [w_sync h2, w_rename h3]
  rfl
theorem new_open : openS a1S pL = (0, ⟨J ⟨#[]⟩ 2 4 2 (-1), [], false⟩) := by
  have hk : kind a1S.L pL = 0 := by decide +kernel
  have hw : writeS a1S pT ⟨#[]⟩ = (0, ⟨[dirV, raw pT ⟨#[]⟩ 1], [], 2, 1, -1, false⟩) := by
    unfold writeS
    rw [fits_none (by decide +kernel)]
    kernel_rfl
  have hs : syncS ⟨[dirV, raw pT ⟨#[]⟩ 1], [], 2, 1, -1, false⟩ pT = (0, ⟨[dirV, syn pT ⟨#[]⟩ 1], [], 3, 1, -1, false⟩) := by kernel_rfl
  have hr : renameS ⟨[dirV, syn pT ⟨#[]⟩ 1], [], 3, 1, -1, false⟩ pT pL = (0, J ⟨#[]⟩ 2 4 2 (-1)) := by
    unfold renameS
    rw [fits_none rfl]
    kernel_rfl
  have hf : fillS a1S pL ⟨#[]⟩ = (0, J ⟨#[]⟩ 2 4 2 (-1)) := by
    unfold fillS
    rw [pL_tT, hw]
    simp only [hs, hr]
    rfl
  unfold openS
  rw [if_pos hk, hf]
theorem open_whole {t : ByteArray} {s : St} {R : List ByteArray} {g : Nat} (hk : kind s.L pL = 2) (hr : readS s pL = (t, 0)) (h : Fm.sc t 0 = (R, g, 0)) : openS s pL = (0, ⟨s, R, false⟩) := by
  unfold openS
  rw [if_neg (by rw [hk]; decide), hr]
  simp only [h]
  rfl
theorem open_cut {t : ByteArray} {sn st sm : Nat} {R : List ByteArray} {g e : Nat} (h : Fm.sc t 0 = (R, g, e)) (he : e ≠ 0) :
    openS (J t sn st sm (-1)) pL = (0, ⟨J (t.extract 0 g) (sm + 1 + 1) (st + 1 + 1 + 1) (sm + 1 + 1) (-1), R, bad e⟩) := by
  unfold openS
  rw [if_neg (by rw [j_kind]; decide), j_read]
  simp only [h]
  rw [if_neg (by show ¬ (0 ≠ 0); decide), if_neg he, j_fill (by decide) (by decide) (by decide)]
  rfl
theorem scan_PK (l : List ByteArray) (b : Nat) (h : ∀ r ∈ l, r.size ≤ 140737488351232) : Fm.sc ((PK l).extract 0 b) 0 = (l.take (cnt l b), (PKl (l.take (cnt l b))).length, if (PKl (l.take (cnt l b))).length = min b (PKl l).length then 0 else 2) := by
  have := scan_cut l [] b (fun t ht => by have := h t ht; omega)
  simp only [List.nil_append, List.length_nil, Nat.zero_add] at this
  rw [PK_ext]
  exact this
theorem scan_all (l : List ByteArray) (h : ∀ r ∈ l, r.size ≤ 140737488351232) : Fm.sc (PK l) 0 = (l, (PKl l).length, 0) := by
  have h1 := scan_PK l (PKl l).length h
  have e : (PK l).extract 0 (PKl l).length = PK l := by
    rw [PK_ext, List.take_length]
    rfl
  rw [e, cnt_all l _ (Nat.le_refl _), List.take_length, if_pos (by omega)] at h1
  exact h1
end Go.Proofs.Ytjdmbkkdnonkkaa.Wl

namespace Go.Proofs.Ytjdmbkkdnonkkaa.Dk
open Go.RowKit Tx Pm Pl Pr
set_option linter.unusedVariables false
set_option maxRecDepth 100000 in
set_option maxHeartbeats 2000000 in
theorem regRot (ops : Array Oper) (hops : ops = (Rg.opsOf Try.f10 5)) (id : Nat) (bx : Nat) (X Y TX TY : ByteArray) (K T M bit : Int) {u0 u1 u3 u4 u5 u6 u7 u9 u10 u11 u12 u13 u14 u15 u16 u17 u18 u19 u20 u21 u22 u23 u24 u25 u26 u27 u28 u29 u30 u31 u32 u33 u34 : Value} (w : World) (hbox : Box5 w bx K X Y T M) (hwarm : ∀ W, Below w.heap.size w W → ∀ k, W.frozen? ⟨bx, k, none⟩ = false)
    (ct1 : ∀ W, Calls Try.prog 24 #[.string X, .int .i64 bit] W fun e w' => e = .returned (.string TX) ∧ Below W.heap.size W w')
    (ct2 : ∀ W, Calls Try.prog 24 #[.string Y, .int .i64 bit] W fun e w' => e = .returned (.string TY) ∧ Below W.heap.size W w') :
    (Code.region id ops true).wp Try.prog (Rg.Only fun a' w' => a' = ⟨#[u0, u1, (.int .i64 bit), u3, u4, u5, u6, u7, (.pointer (some ⟨bx, 0, none⟩)), u9, u10, u11, u12, u13, u14, u15, u16, u17, u18, u19, u20, (.pointer (some ⟨bx, 1, none⟩)), (.string X), (.int .i64 bit), (.string TX), (.pointer (some ⟨bx, 2, none⟩)), (.string Y), (.int .i64 bit), (.string TY), (.pointer (some ⟨bx, 1, none⟩)), (.pointer (some ⟨bx, 2, none⟩)), u31, u32, u33, u34], []⟩ ∧ ∃ w4, Below w.heap.size w w4 ∧ w' = (w4.setCell ⟨bx, 1, none⟩ (.string TX)).setCell ⟨bx, 2, none⟩ (.string TY)) ⟨#[u0, u1, (.int .i64 bit), u3, u4, u5, u6, u7, (.pointer (some ⟨bx, 0, none⟩)), u9, u10, u11, u12, u13, u14, u15, u16, u17, u18, u19, u20, u21, u22, u23, u24, u25, u26, u27, u28, u29, u30, u31, u32, u33, u34], []⟩ w := by
  subst hops
  have hNS : Region.noSelect (Rg.opsOf Try.f10 5) = true := by kernel_rfl
  have hBd : Below w.heap.size w w.drew := (Below.refl _ _).drew
  obtain ⟨_, q0, q1, q2, q3, q4⟩ := hbox.below hBd
  refine wp_region_held_drew (S := fun _ => True) (by kernel_rfl) trivial (fun hHeld => ?_)
  rw [show (Rg.opsOf Try.f10 5).size = 12 by kernel_rfl]
  refine Rg.take (ops := (Rg.opsOf Try.f10 5)) 0 (some 21) ((.pointer (some ⟨bx, 1, none⟩))) hNS (by kernel_rfl) (by kernel_rfl) (by kernel_rfl) (by kernel_rfl) (by kernel_rfl) hHeld (Rg.y_field (T := 43) (k := 1) (x := (Operand.tmp 8)) (vx := (.pointer (some ⟨bx, 0, none⟩))) (by kernel_rfl) (by kernel_rfl) ?_) ?_
  · (intro w hSw; go_simp)
  refine Rg.take (ops := (Rg.opsOf Try.f10 5)) 2 (some 23) ((.int .i64 bit)) hNS (by kernel_rfl) (by kernel_rfl) (by kernel_rfl) (by kernel_rfl) (by kernel_rfl) hHeld (Rg.y_move (x := (Operand.tmp 2)) (Or.inl (by kernel_rfl)) (by kernel_rfl)) ?_
  refine Rg.take (ops := (Rg.opsOf Try.f10 5)) 4 (some 25) ((.pointer (some ⟨bx, 2, none⟩))) hNS (by kernel_rfl) (by kernel_rfl) (by kernel_rfl) (by kernel_rfl) (by kernel_rfl) hHeld (Rg.y_field (T := 43) (k := 2) (x := (Operand.tmp 8)) (vx := (.pointer (some ⟨bx, 0, none⟩))) (by kernel_rfl) (by kernel_rfl) ?_) ?_
  · (intro w hSw; go_simp)
  refine Rg.take (ops := (Rg.opsOf Try.f10 5)) 6 (some 27) ((.int .i64 bit)) hNS (by kernel_rfl) (by kernel_rfl) (by kernel_rfl) (by kernel_rfl) (by kernel_rfl) hHeld (Rg.y_move (x := (Operand.tmp 2)) (Or.inl (by kernel_rfl)) (by kernel_rfl)) ?_
  refine Rg.two (ops := (Rg.opsOf Try.f10 5)) (i := 1) (j := 5) (by kernel_rfl) ?_ ?_
  · refine Rg.op_load (ops := (Rg.opsOf Try.f10 5)) 1 (some 22) (T := 9) (x := (Operand.tmp 21)) (vx := (.pointer (some ⟨bx, 1, none⟩))) (v := (.string X)) (by kernel_rfl) (by kernel_rfl) (by kernel_rfl) (by kernel_rfl) (by kernel_rfl) ?_ hHeld ?_
    · go_simp
    refine Rg.two (ops := (Rg.opsOf Try.f10 5)) (i := 3) (j := 5) (by kernel_rfl) ?_ ?_
    · refine Rg.op_call (ops := (Rg.opsOf Try.f10 5)) (fn := Try.f24) (xs := #[Operand.tmp 22, Operand.tmp 23]) (ats := #[9, 3]) 3 (some 24) 24 #[(.string X), (.int .i64 bit)] (by kernel_rfl) (by kernel_rfl) (by kernel_rfl) (by kernel_rfl) Try.func24 (by kernel_rfl) (by kernel_rfl) (by kernel_rfl) ?_
      refine (ct1 _).mono ?_
      rintro e w3 ⟨rfl, hb3⟩
      obtain ⟨_, g0, g1, g2, g3, g4⟩ := hbox.below (below_call hBd hb3)
      refine ⟨_, rfl, trivial, fun hHeld => ?_⟩
      refine Rg.one (ops := (Rg.opsOf Try.f10 5)) (i := 5) (by kernel_rfl) ?_
      refine Rg.op_load (ops := (Rg.opsOf Try.f10 5)) 5 (some 26) (T := 9) (x := (Operand.tmp 25)) (vx := (.pointer (some ⟨bx, 2, none⟩))) (v := (.string Y)) (by kernel_rfl) (by kernel_rfl) (by kernel_rfl) (by kernel_rfl) (by kernel_rfl) ?_ hHeld ?_
      · go_simp
      refine Rg.take (ops := (Rg.opsOf Try.f10 5)) 8 (some 29) ((.pointer (some ⟨bx, 1, none⟩))) hNS (by kernel_rfl) (by kernel_rfl) (by kernel_rfl) (by kernel_rfl) (by kernel_rfl) hHeld (Rg.y_field (T := 43) (k := 1) (x := (Operand.tmp 8)) (vx := (.pointer (some ⟨bx, 0, none⟩))) (by kernel_rfl) (by kernel_rfl) ?_) ?_
      · (intro w hSw; go_simp)
      refine Rg.call (ops := (Rg.opsOf Try.f10 5)) (fn := Try.f24) (xs := #[Operand.tmp 26, Operand.tmp 27]) (ats := #[9, 3]) 7 (some 28) 24 #[(.string Y), (.int .i64 bit)] (by kernel_rfl) (by kernel_rfl) (by kernel_rfl) (by kernel_rfl) (by kernel_rfl) Try.func24 (by kernel_rfl) (by kernel_rfl) (by kernel_rfl) ?_
      refine (ct2 _).mono ?_
      rintro e w4 ⟨rfl, hb4⟩
      obtain ⟨_, m0, m1, m2, m3, m4⟩ := hbox.below (below_call (below_call hBd hb3) hb4)
      have hw4 := hwarm _ (below_call (below_call hBd hb3) hb4)
      refine ⟨_, rfl, trivial, fun hHeld => ?_⟩
      refine Rg.store (ops := (Rg.opsOf Try.f10 5)) 9 (T := 9) (x := (Operand.tmp 29)) (y := (Operand.tmp 24)) (vx := (.pointer (some ⟨bx, 1, none⟩))) (vy := (.string TX)) (w1 := w4.setCell ⟨bx, 1, none⟩ (.string TX)) (by kernel_rfl) (by kernel_rfl) (by kernel_rfl) (by kernel_rfl) (by kernel_rfl) (by kernel_rfl) (by kernel_rfl) ?_ (trivial) (fun hHeld => ?_)
      · go_simp
      refine Rg.take (ops := (Rg.opsOf Try.f10 5)) 10 (some 30) ((.pointer (some ⟨bx, 2, none⟩))) hNS (by kernel_rfl) (by kernel_rfl) (by kernel_rfl) (by kernel_rfl) (by kernel_rfl) hHeld (Rg.y_field (T := 43) (k := 2) (x := (Operand.tmp 8)) (vx := (.pointer (some ⟨bx, 0, none⟩))) (by kernel_rfl) (by kernel_rfl) ?_) ?_
      · (intro w hSw; go_simp)
      refine Rg.store (ops := (Rg.opsOf Try.f10 5)) 11 (T := 9) (x := (Operand.tmp 30)) (y := (Operand.tmp 28)) (vx := (.pointer (some ⟨bx, 2, none⟩))) (vy := (.string TY)) (w1 := (w4.setCell ⟨bx, 1, none⟩ (.string TX)).setCell ⟨bx, 2, none⟩ (.string TY)) (by kernel_rfl) (by kernel_rfl) (by kernel_rfl) (by kernel_rfl) (by kernel_rfl) (by kernel_rfl) (by kernel_rfl) ?_ (trivial) (fun hHeld => ?_)
      · go_simp
      refine Rg.done (ops := (Rg.opsOf Try.f10 5)) (by kernel_rfl) ?_
      exact ⟨by kernel_rfl, w4, below_call (below_call hBd hb3) hb4, rfl⟩
    · refine Rg.op_load (ops := (Rg.opsOf Try.f10 5)) 5 (some 26) (T := 9) (x := (Operand.tmp 25)) (vx := (.pointer (some ⟨bx, 2, none⟩))) (v := (.string Y)) (by kernel_rfl) (by kernel_rfl) (by kernel_rfl) (by kernel_rfl) (by kernel_rfl) ?_ hHeld ?_
      · go_simp
      refine Rg.call (ops := (Rg.opsOf Try.f10 5)) (fn := Try.f24) (xs := #[Operand.tmp 22, Operand.tmp 23]) (ats := #[9, 3]) 3 (some 24) 24 #[(.string X), (.int .i64 bit)] (by kernel_rfl) (by kernel_rfl) (by kernel_rfl) (by kernel_rfl) (by kernel_rfl) Try.func24 (by kernel_rfl) (by kernel_rfl) (by kernel_rfl) ?_
      refine (ct1 _).mono ?_
      rintro e w3 ⟨rfl, hb3⟩
      obtain ⟨_, g0, g1, g2, g3, g4⟩ := hbox.below (below_call hBd hb3)
      refine ⟨_, rfl, trivial, fun hHeld => ?_⟩
      refine Rg.take (ops := (Rg.opsOf Try.f10 5)) 8 (some 29) ((.pointer (some ⟨bx, 1, none⟩))) hNS (by kernel_rfl) (by kernel_rfl) (by kernel_rfl) (by kernel_rfl) (by kernel_rfl) hHeld (Rg.y_field (T := 43) (k := 1) (x := (Operand.tmp 8)) (vx := (.pointer (some ⟨bx, 0, none⟩))) (by kernel_rfl) (by kernel_rfl) ?_) ?_
      · (intro w hSw; go_simp)
      refine Rg.call (ops := (Rg.opsOf Try.f10 5)) (fn := Try.f24) (xs := #[Operand.tmp 26, Operand.tmp 27]) (ats := #[9, 3]) 7 (some 28) 24 #[(.string Y), (.int .i64 bit)] (by kernel_rfl) (by kernel_rfl) (by kernel_rfl) (by kernel_rfl) (by kernel_rfl) Try.func24 (by kernel_rfl) (by kernel_rfl) (by kernel_rfl) ?_
      refine (ct2 _).mono ?_
      rintro e w4 ⟨rfl, hb4⟩
      obtain ⟨_, m0, m1, m2, m3, m4⟩ := hbox.below (below_call (below_call hBd hb3) hb4)
      have hw4 := hwarm _ (below_call (below_call hBd hb3) hb4)
      refine ⟨_, rfl, trivial, fun hHeld => ?_⟩
      refine Rg.store (ops := (Rg.opsOf Try.f10 5)) 9 (T := 9) (x := (Operand.tmp 29)) (y := (Operand.tmp 24)) (vx := (.pointer (some ⟨bx, 1, none⟩))) (vy := (.string TX)) (w1 := w4.setCell ⟨bx, 1, none⟩ (.string TX)) (by kernel_rfl) (by kernel_rfl) (by kernel_rfl) (by kernel_rfl) (by kernel_rfl) (by kernel_rfl) (by kernel_rfl) ?_ (trivial) (fun hHeld => ?_)
      · go_simp
      refine Rg.take (ops := (Rg.opsOf Try.f10 5)) 10 (some 30) ((.pointer (some ⟨bx, 2, none⟩))) hNS (by kernel_rfl) (by kernel_rfl) (by kernel_rfl) (by kernel_rfl) (by kernel_rfl) hHeld (Rg.y_field (T := 43) (k := 2) (x := (Operand.tmp 8)) (vx := (.pointer (some ⟨bx, 0, none⟩))) (by kernel_rfl) (by kernel_rfl) ?_) ?_
      · (intro w hSw; go_simp)
      refine Rg.store (ops := (Rg.opsOf Try.f10 5)) 11 (T := 9) (x := (Operand.tmp 30)) (y := (Operand.tmp 28)) (vx := (.pointer (some ⟨bx, 2, none⟩))) (vy := (.string TY)) (w1 := (w4.setCell ⟨bx, 1, none⟩ (.string TX)).setCell ⟨bx, 2, none⟩ (.string TY)) (by kernel_rfl) (by kernel_rfl) (by kernel_rfl) (by kernel_rfl) (by kernel_rfl) (by kernel_rfl) (by kernel_rfl) ?_ (trivial) (fun hHeld => ?_)
      · go_simp
      refine Rg.done (ops := (Rg.opsOf Try.f10 5)) (by kernel_rfl) ?_
      exact ⟨by kernel_rfl, w4, below_call (below_call hBd hb3) hb4, rfl⟩
  · refine Rg.op_load (ops := (Rg.opsOf Try.f10 5)) 5 (some 26) (T := 9) (x := (Operand.tmp 25)) (vx := (.pointer (some ⟨bx, 2, none⟩))) (v := (.string Y)) (by kernel_rfl) (by kernel_rfl) (by kernel_rfl) (by kernel_rfl) (by kernel_rfl) ?_ hHeld ?_
    · go_simp
    refine Rg.one (ops := (Rg.opsOf Try.f10 5)) (i := 1) (by kernel_rfl) ?_
    refine Rg.op_load (ops := (Rg.opsOf Try.f10 5)) 1 (some 22) (T := 9) (x := (Operand.tmp 21)) (vx := (.pointer (some ⟨bx, 1, none⟩))) (v := (.string X)) (by kernel_rfl) (by kernel_rfl) (by kernel_rfl) (by kernel_rfl) (by kernel_rfl) ?_ hHeld ?_
    · go_simp
    refine Rg.call (ops := (Rg.opsOf Try.f10 5)) (fn := Try.f24) (xs := #[Operand.tmp 22, Operand.tmp 23]) (ats := #[9, 3]) 3 (some 24) 24 #[(.string X), (.int .i64 bit)] (by kernel_rfl) (by kernel_rfl) (by kernel_rfl) (by kernel_rfl) (by kernel_rfl) Try.func24 (by kernel_rfl) (by kernel_rfl) (by kernel_rfl) ?_
    refine (ct1 _).mono ?_
    rintro e w3 ⟨rfl, hb3⟩
    obtain ⟨_, g0, g1, g2, g3, g4⟩ := hbox.below (below_call hBd hb3)
    refine ⟨_, rfl, trivial, fun hHeld => ?_⟩
    refine Rg.take (ops := (Rg.opsOf Try.f10 5)) 8 (some 29) ((.pointer (some ⟨bx, 1, none⟩))) hNS (by kernel_rfl) (by kernel_rfl) (by kernel_rfl) (by kernel_rfl) (by kernel_rfl) hHeld (Rg.y_field (T := 43) (k := 1) (x := (Operand.tmp 8)) (vx := (.pointer (some ⟨bx, 0, none⟩))) (by kernel_rfl) (by kernel_rfl) ?_) ?_
    · (intro w hSw; go_simp)
    refine Rg.call (ops := (Rg.opsOf Try.f10 5)) (fn := Try.f24) (xs := #[Operand.tmp 26, Operand.tmp 27]) (ats := #[9, 3]) 7 (some 28) 24 #[(.string Y), (.int .i64 bit)] (by kernel_rfl) (by kernel_rfl) (by kernel_rfl) (by kernel_rfl) (by kernel_rfl) Try.func24 (by kernel_rfl) (by kernel_rfl) (by kernel_rfl) ?_
    refine (ct2 _).mono ?_
    rintro e w4 ⟨rfl, hb4⟩
    obtain ⟨_, m0, m1, m2, m3, m4⟩ := hbox.below (below_call (below_call hBd hb3) hb4)
    have hw4 := hwarm _ (below_call (below_call hBd hb3) hb4)
    refine ⟨_, rfl, trivial, fun hHeld => ?_⟩
    refine Rg.store (ops := (Rg.opsOf Try.f10 5)) 9 (T := 9) (x := (Operand.tmp 29)) (y := (Operand.tmp 24)) (vx := (.pointer (some ⟨bx, 1, none⟩))) (vy := (.string TX)) (w1 := w4.setCell ⟨bx, 1, none⟩ (.string TX)) (by kernel_rfl) (by kernel_rfl) (by kernel_rfl) (by kernel_rfl) (by kernel_rfl) (by kernel_rfl) (by kernel_rfl) ?_ (trivial) (fun hHeld => ?_)
    · go_simp
    refine Rg.take (ops := (Rg.opsOf Try.f10 5)) 10 (some 30) ((.pointer (some ⟨bx, 2, none⟩))) hNS (by kernel_rfl) (by kernel_rfl) (by kernel_rfl) (by kernel_rfl) (by kernel_rfl) hHeld (Rg.y_field (T := 43) (k := 2) (x := (Operand.tmp 8)) (vx := (.pointer (some ⟨bx, 0, none⟩))) (by kernel_rfl) (by kernel_rfl) ?_) ?_
    · (intro w hSw; go_simp)
    refine Rg.store (ops := (Rg.opsOf Try.f10 5)) 11 (T := 9) (x := (Operand.tmp 30)) (y := (Operand.tmp 28)) (vx := (.pointer (some ⟨bx, 2, none⟩))) (vy := (.string TY)) (w1 := (w4.setCell ⟨bx, 1, none⟩ (.string TX)).setCell ⟨bx, 2, none⟩ (.string TY)) (by kernel_rfl) (by kernel_rfl) (by kernel_rfl) (by kernel_rfl) (by kernel_rfl) (by kernel_rfl) (by kernel_rfl) ?_ (trivial) (fun hHeld => ?_)
    · go_simp
    refine Rg.done (ops := (Rg.opsOf Try.f10 5)) (by kernel_rfl) ?_
    exact ⟨by kernel_rfl, w4, below_call (below_call hBd hb3) hb4, rfl⟩
end Go.Proofs.Ytjdmbkkdnonkkaa.Dk

namespace Go.Proofs.Ytjdmbkkdnonkkaa.Dk
open Go.RowKit Tx Pm
set_option linter.unusedVariables false
end Go.Proofs.Ytjdmbkkdnonkkaa.Dk

namespace Go.Proofs.Ytjdmbkkdnonkkaa.Dk
open Go.RowKit Tx Pm Pl Pr
set_option linter.unusedVariables false
structure SoundW (s : St) : Prop where
  rises : Rises s.L
  kept : ∀ x ∈ s.L, x.anew = false → x.kept.size ≤ x.data.size
  size : ∀ x ∈ s.L, x.data.size ≤ 1000000000000000000 ∧ x.kept.size ≤ 1000000000000000000
  stamps : s.stamps + s.L.length ≤ 1000000000000
end Go.Proofs.Ytjdmbkkdnonkkaa.Dk

namespace Go.Proofs.Ytjdmbkkdnonkkaa.Dk
open Go.RowKit Tx Pm Pl Pr
set_option linter.unusedVariables false
end Go.Proofs.Ytjdmbkkdnonkkaa.Dk

namespace Go.Proofs.Ytjdmbkkdnonkkaa.Dk
open Go.RowKit Tx Pm Pl Pr
set_option linter.unusedVariables false
end Go.Proofs.Ytjdmbkkdnonkkaa.Dk

namespace Go.Proofs.Ytjdmbkkdnonkkaa.Dk
open Go.RowKit Tx Pm Pl Pr
set_option linter.unusedVariables false
def Own1 (w0 : World) (b bi bl : Nat) (s : St) (W : World) : Prop := ∃ l, Ia b bi bl l W s ∧ Good s ∧ (∀ i, Ft b bi bl i → w0.heap.size ≤ i) ∧ Below w0.heap.size w0 W
theorem Own1.bel {w0 W : World} {b bi bl : Nat} {s : St} (h : Own1 w0 b bi bl s W) : Below w0.heap.size w0 W := by
  obtain ⟨_, _, _, _, h⟩ := h
  exact h
theorem Own1.lt {w0 W : World} {b bi bl : Nat} {s : St} (h : Own1 w0 b bi bl s W) : ∀ i, Ft b bi bl i → i < W.heap.size := by
  obtain ⟨_, h, _⟩ := h
  exact h.lt
theorem Own1.below {w0 W W1 : World} {b bi bl : Nat} {s : St} (h : Own1 w0 b bi bl s W) (hb : Below W.heap.size W W1) : Own1 w0 b bi bl s W1 := by
  obtain ⟨l, h1, h2, h3, h4⟩ := h
  exact ⟨l, h1.below hb, h2, h3, below_call h4 hb⟩
section
variable {w0 W : World} {b bi bl k : Nat} {s s' : St}
end
theorem ok_small {s : St} (hl : s.L.length ≤ 1000) (hp : ∀ x ∈ s.L, x.path.size ≤ 1000) (hd : ∀ x ∈ s.L, x.data.size ≤ 1000000000000000) (hr : s.rooms.length ≤ 1000) (hst : s.steps ≤ 1000) (hsm : s.stamps ≤ 1000) (ha : -1 ≤ s.armed ∧ s.armed ≤ 9223372036854775807) : Ok s := by
  have hw := whole_le (B := 1000000000000000) hd
  have hm : s.L.length * 1000000000000000 ≤ 1000000000000000000 := Nat.le_trans (Nat.mul_le_mul_right _ hl) (by decide)
  exact ⟨⟨by omega, fun x hx => by have := hp x hx; omega, by omega⟩, by omega, by omega, by omega, by omega⟩
theorem a1_mk : mkdirS newS pV = (0, a1S) := Prod.ext a1_ok rfl
theorem a1_is : a1S = ⟨[dirV], [], 1, 0, -1, false⟩ := by kernel_rfl
end Go.Proofs.Ytjdmbkkdnonkkaa.Dk

namespace Go.Proofs.Ytjdmbkkdnonkkaa.Wl
open Go.RowKit Tx Pm Pl Pr Dk Fr
set_option linter.unusedVariables false
def Own {α : Type} (Obj : World → (Nat → Prop) → α → Prop) (w0 : World) (x : α) (W : World) : Prop := ∃ F, Obj W F x ∧ (∀ i, F i → w0.heap.size ≤ i) ∧ Below w0.heap.size w0 W
section
variable {α β : Type} {Obj : World → (Nat → Prop) → α → Prop} {Obj' : World → (Nat → Prop) → β → Prop} {w0 W : World} {x : α} {y : β}
theorem Own.bel (h : Own Obj w0 x W) : Below w0.heap.size w0 W := by
  obtain ⟨_, _, _, h⟩ := h
  exact h
theorem own_left {F : Nat → Prop} {w' : World} (h1 : ∀ i, F i → w0.heap.size ≤ i) (h2 : Below w0.heap.size w0 W) (h : LeftA Obj' W F y w') : Own Obj' w0 y w' := by
  obtain ⟨F', h3, h4, h5⟩ := h
  have hs := h2.size
  exact ⟨F', h3, fun i hi => (h5 i hi).elim (fun hh => h1 i hh) (fun hh => by omega), h2.trans ⟨h4.os, h4.tape, h4.output, h4.size, fun i hi => h4.block i (Nat.lt_of_lt_of_le hi hs) (fun hf => by have := h1 i hf; omega)⟩⟩
theorem Own.call {f : FuncId} {args : Array Value} {P : Ending → Prop} (h : Own Obj w0 x W) (hc : ∀ F, Obj W F x → Calls Try.prog f args W fun e w' => P e ∧ LeftA Obj' W F y w') : Calls Try.prog f args W fun e w' => P e ∧ Own Obj' w0 y w' := by
  obtain ⟨F, h1, h2, h3⟩ := h
  exact (hc F h1).mono fun e w' hh => ⟨hh.1, own_left h2 h3 hh.2⟩
theorem Own.kept (hk : ∀ {w w1 : World} {F : Nat → Prop} {x : α}, Obj w F x → Below w.heap.size w w1 → Obj w1 F x) {w' : World} (h : Own Obj w0 x W) (hb : Below W.heap.size W w') : Own Obj w0 x w' := by
  obtain ⟨F, h1, h2, h3⟩ := h
  exact ⟨F, hk h1 hb, h2, below_call h3 hb⟩
end
abbrev Jb (b j : Nat) : World → (Nat → Prop) → Jst → Prop := Jn (ImpAt b) 39 b j pL
section
variable {w0 W : World} {b j k : Nat} {s s' : St} {x y : Jst}
theorem imp_below {w w1 : World} {F : Nat → Prop} {s : St} (h : ImpAt b w F s) (hb : Below w.heap.size w w1) : ImpAt b w1 F s := (imp_kind b).kept h (fun i hi => hb.block i ((imp_kind b).lt h i hi))
theorem jb_below {w w1 : World} {F : Nat → Prop} {x : Jst} (h : Jb b j w F x) (hb : Below w.heap.size w w1) : Jb b j w1 F x := by
  obtain ⟨v, Fd, h⟩ := h
  exact ⟨v, Fd, h.below (imp_kind b) hb⟩
theorem Own.belowD {w' : World} (h : Own (ImpAt b) w0 s W) (hb : Below W.heap.size W w') : Own (ImpAt b) w0 s w' := Own.kept (Obj := ImpAt b) (fun h hb => imp_below h hb) h hb
theorem Own.belowJ {w' : World} (h : Own (Jb b j) w0 x W) (hb : Below W.heap.size W w') : Own (Jb b j) w0 x w' := Own.kept (Obj := Jb b j) (fun h hb => jb_below h hb) h hb
theorem Own.disk (h : Own (Jb b j) w0 x W) : Own (ImpAt b) w0 x.s W := by
  obtain ⟨F, ⟨v, Fd, h1⟩, h2, h3⟩ := h
  exact ⟨Fd, h1.dsk, fun i hi => h2 i ((h1.foot i).2 (.inl hi)), h3⟩
theorem w_add {r : ByteArray} (h : Own (Jb b j) w0 x W) (o : AddOk x pL r) (he : addS x pL r = (k, y)) : Calls Try.prog 8 #[.pointer (some ⟨j, 0, none⟩), .string r] W fun e w' => e = .returned (.int .i64 (k : Nat)) ∧ Own (Jb b j) w0 y w' :=
  h.call (fun F ⟨v, Fd, hh⟩ => by
    have c := iAdd_any b j pL r W hh o (by decide)
    rw [he] at c
    exact c)
theorem w_open (h : Own (ImpAt b) w0 s W) (o : OpenOk s pL) (he : openS s pL = (0, y)) : Calls Try.prog 7 #[.pointer (some ⟨b, 0, none⟩), .string pL] W fun e w' => ∃ j, e = .returned (.tuple #[.pointer (some ⟨j, 0, none⟩), .int .i64 0]) ∧ Own (Jb b j) w0 y w' := by
  obtain ⟨F, h1, h2, h3⟩ := h
  have c := iOpen_any b pL W h1 o (by decide)
  rw [he] at c
  refine c.mono fun e w' hh => ?_
  rcases hh with ⟨_, j, he, hl⟩ | ⟨h0, _⟩
  · exact ⟨j, he, own_left h2 h3 hl⟩
  · exact absurd rfl h0
theorem w_damaged (h : Own (Jb b j) w0 x W) : Calls Try.prog 11 #[.pointer (some ⟨j, 0, none⟩)] W fun e w' => e = .returned (.bool x.dm) ∧ w' = W := by
  obtain ⟨F, ⟨v, Fd, h1⟩, h2, h3⟩ := h
  exact (iDamaged_any _ b j pL W h1).mono fun e w' hh => ⟨hh.1, hh.2.symm⟩
theorem w_records (h : Own (Jb b j) w0 x W) (hl : x.R.length ≤ 10000000000) : Calls Try.prog 13 #[.pointer (some ⟨j, 0, none⟩)] W fun e w' => ∃ a c, e = .returned (.slice a x.R.length c) ∧ Tx.Strs w' a x.R.length x.R ∧ Below W.heap.size W w' := by
  obtain ⟨F, ⟨v, Fd, h1⟩, h2, h3⟩ := h
  refine (iRecords_any (imp_kind b) b j pL W h1 hl).mono fun e w' hh => ?_
  obtain ⟨v', he, ht, hb⟩ := hh
  obtain ⟨a, c, rfl, hs, _⟩ := ht.form
  exact ⟨a, c, he, hs, hb⟩
theorem w_new (w0 : World) {W : World} (hb : Below w0.heap.size w0 W) : Calls Try.prog 15 #[] W fun e w' => ∃ b, e = .returned (.pointer (some ⟨b, 0, none⟩)) ∧ Own (ImpAt b) w0 newS w' :=
  (iNew_any W).mono fun e w' ⟨b, bi, bl, he, hI, hF, hb1⟩ => ⟨b, he, Ft b bi bl, ⟨bi, bl, -1, hI, good_new, fun _ => Iff.rfl⟩, fun i hi => Nat.le_trans hb.size (hF i hi), below_call hb hb1⟩
theorem w_mkdir {p : ByteArray} (h : Own (ImpAt b) w0 s W) (ok : Ok s) (hp : p.size ≤ 8000000000000) (he : mkdirS s p = (k, s')) : Calls Try.prog 16 #[.pointer (some ⟨b, 0, none⟩), .string p] W fun e w' => e = .returned (.int .i64 (k : Nat)) ∧ Own (ImpAt b) w0 s' w' :=
  h.call (fun F hh => by
    obtain ⟨bi, bl, l, hI, hg, hF⟩ := hh
    have c := iMkdir_any b bi bl l s p W hI hg ok hp
    have hg' := good_mkdir (p := p) hg
    rw [he] at c hg'
    exact c.mono fun e w' ht => ⟨ht.1, ht.2.left hg' hF⟩)
end
theorem mem2 {x a b : It} (h : x ∈ [a, b]) : x = a ∨ x = b := by simpa using h
theorem mem3 {x a b c : It} (h : x ∈ [a, b, c]) : x = a ∨ x = b ∨ x = c := by simpa using h
theorem ok_two {A : It} {st sm : Nat} {a : Int} {dn : Bool} (hp : A.path.size ≤ 1000) (h : A.data.size ≤ 100000000000000000) (h1 : st ≤ 100000) (h2 : sm ≤ 100000) (ha : -1 ≤ a ∧ a ≤ 9223372036854775807) : Ok ⟨[dirV, A], [], st, sm, a, dn⟩ := by
  have hw : whole [dirV, A] = dirV.data.size + (A.data.size + 0) := rfl
  have h0 : dirV.data.size = 0 := rfl
  refine ⟨⟨by show 2 ≤ _; omega, fun z hz => ?_, by show whole [dirV, A] ≤ _; omega⟩, by show 0 ≤ _; omega, by show st ≤ _; omega, by show sm ≤ _; omega, by show _ ≤ a ∧ a ≤ _; omega⟩
  rcases mem2 hz with rfl | rfl
  · decide
  · omega
theorem ok_three {A B : It} {st sm : Nat} {a : Int} {dn : Bool} (hp : A.path.size ≤ 1000) (h : A.data.size ≤ 100000000000000000) (hp2 : B.path.size ≤ 1000) (h3 : B.data.size ≤ 100000000000000000) (h1 : st ≤ 100000) (h2 : sm ≤ 100000) (ha : -1 ≤ a ∧ a ≤ 9223372036854775807) : Ok ⟨[dirV, A, B], [], st, sm, a, dn⟩ := by
  have hw : whole [dirV, A, B] = dirV.data.size + (A.data.size + (B.data.size + 0)) := rfl
  have h0 : dirV.data.size = 0 := rfl
  refine ⟨⟨by show 3 ≤ _; omega, fun z hz => ?_, by show whole [dirV, A, B] ≤ _; omega⟩, by show 0 ≤ _; omega, by show st ≤ _; omega, by show sm ≤ _; omega, by show _ ≤ a ∧ a ≤ _; omega⟩
  rcases mem3 hz with rfl | rfl | rfl
  · decide
  · omega
  · omega
theorem pLs : pL.size ≤ 1000 := by decide
theorem pTs : pT.size ≤ 1000 := by decide
theorem ok_J {t : ByteArray} {sn st sm : Nat} {a : Int} (ht : t.size ≤ 100000000000000000) (h1 : st ≤ 100000) (h2 : sm ≤ 100000) (ha : -1 ≤ a ∧ a ≤ 9223372036854775807) : Ok (J t sn st sm a) := ok_two (A := syn pL t sn) pLs ht h1 h2 ha
theorem ok_Jd {t : ByteArray} {sn st sm : Nat} (ht : t.size ≤ 100000000000000000) (h1 : st ≤ 100000) (h2 : sm ≤ 100000) : Ok (Jd t sn st sm) := ok_two (A := syn pL t sn) pLs ht h1 h2 (by omega)
theorem ok_L1 {u t : ByteArray} {sn st sm : Nat} {a : Int} (ht : u.size ≤ 100000000000000000) (h1 : st ≤ 100000) (h2 : sm ≤ 100000) (ha : -1 ≤ a ∧ a ≤ 9223372036854775807) : Ok (L1 u t sn st sm a) := ok_two (A := ⟨pL, false, u, t, true, false, sn⟩) pLs ht h1 h2 ha
theorem ok_W1 {t d : ByteArray} {sn tn st sm : Nat} {a : Int} {dn : Bool} (ht : t.size ≤ 100000000000000000) (hd : d.size ≤ 100000000000000000) (h1 : st ≤ 100000) (h2 : sm ≤ 100000) (ha : -1 ≤ a ∧ a ≤ 9223372036854775807) : Ok (W1 t d sn tn st sm a dn) := ok_three (A := syn pL t sn) (B := raw pT d tn) pLs ht pTs hd h1 h2 ha
theorem ok_W2 {t d : ByteArray} {sn tn st sm : Nat} {a : Int} {dn : Bool} (ht : t.size ≤ 100000000000000000) (hd : d.size ≤ 100000000000000000) (h1 : st ≤ 100000) (h2 : sm ≤ 100000) (ha : -1 ≤ a ∧ a ≤ 9223372036854775807) : Ok (W2 t d sn tn st sm a dn) := ok_three (A := syn pL t sn) (B := syn pT d tn) pLs ht pTs hd h1 h2 ha
theorem addok_J {t r : ByteArray} {sn st sm : Nat} {a : Int} {R : List ByteArray} {dm : Bool} (ht : t.size ≤ 14073748835124600) (hr : r.size ≤ 140737488351232) (h1 : st ≤ 10000) (h2 : sm ≤ 10000) (ha : -1 ≤ a ∧ a ≤ 9223372036854775807) (hR : R.length ≤ 1000) : AddOk ⟨J t sn st sm a, R, dm⟩ pL r := by
  have hk := pk_le hr
  have hs : (t ++ Fm.pk r).size = t.size + (Fm.pk r).size := ByteArray.size_append
  refine ⟨ok_J (by omega) (by omega) (by omega) ha, ?_, by rw [show (⟨J t sn st sm a, R, dm⟩ : Jst).s = J t sn st sm a from rfl, j_old]; omega, by omega, by show R.length ≤ _; omega⟩
  show Ok (appendS (J t sn st sm a) pL (Fm.pk r)).2
  by_cases h0 : a = 0
  · subst h0
    rw [j_append0]
    exact ok_Jd (by omega) (by omega) (by omega)
  · rw [j_append h0]
    exact ok_L1 (by omega) (by omega) (by omega) (dec_in ha)
theorem fillok_J {t d : ByteArray} {sn st sm : Nat} {a : Int} (ht : t.size ≤ 14073748835124600) (hd : d.size ≤ 14073748835124600) (h1 : st ≤ 10000) (h2 : sm ≤ 10000) (ha : -1 ≤ a ∧ a ≤ 9223372036854775807) : FillOk (J t sn st sm a) pL d := by
  refine ⟨ok_J (by omega) (by omega) (by omega) ha, ?_, ?_⟩
  · rw [pL_tT]
    by_cases h0 : a = 0
    · subst h0
      rw [j_write0]
      exact ok_Jd (by omega) (by omega) (by omega)
    · rw [j_write h0]
      exact ok_W1 (by omega) (by omega) (by omega) (by omega) (dec_in ha)
  · rw [pL_tT]
    by_cases h0 : a = 0
    · subst h0
      rw [j_write0]
      have e : syncS (Jd t sn st sm) pT = (14, Jd t sn st sm) := by kernel_rfl
      show Ok (syncS (Jd t sn st sm) pT).2
      rw [e]
      exact ok_Jd (by omega) (by omega) (by omega)
    · rw [j_write h0]
      show Ok (syncS (W1 t d sn (sm + 1) (st + 1) (sm + 1) (dec a) false) pT).2
      by_cases h3 : dec a = 0
      · rw [h3, w_sync0]
        exact ok_W1 (by omega) (by omega) (by omega) (by omega) (by omega)
      · rw [w_sync h3]
        exact ok_W2 (by omega) (by omega) (by omega) (by omega) (dec_in (dec_in ha))
theorem openok_J {t : ByteArray} {sn st sm : Nat} {a : Int} (ht : t.size ≤ 14073748835124600) (h1 : st ≤ 10000) (h2 : sm ≤ 10000) (ha : -1 ≤ a ∧ a ≤ 9223372036854775807) (hl : (Fm.sc t 0).1.length ≤ 10000000000) : OpenOk (J t sn st sm a) pL := by
  refine ⟨fun h => by rw [j_kind] at h; exact absurd h (by decide), fun _ => ?_⟩
  rw [j_read]
  exact ⟨by show t.size ≤ _; omega, hl, fun _ => fillok_J ht (Nat.le_trans (ext_size _ _) ht) h1 h2 ha⟩
theorem ok_a1 : Ok a1S := by rw [a1_is]; exact ok_small (by decide) (by decide) (by decide) (by decide) (by decide) (by decide) (by decide)
theorem ok_new : Ok newS := ok_small (by decide) (by decide) (by decide) (by decide) (by decide) (by decide) (by decide)
theorem openok_new : OpenOk a1S pL := by
  have hk : kind a1S.L pL = 0 := by decide +kernel
  have hw : writeS a1S pT ⟨#[]⟩ = (0, ⟨[dirV, raw pT ⟨#[]⟩ 1], [], 2, 1, -1, false⟩) := by
    unfold writeS
    rw [fits_none (by decide +kernel)]
    kernel_rfl
  have hs : syncS ⟨[dirV, raw pT ⟨#[]⟩ 1], [], 2, 1, -1, false⟩ pT = (0, ⟨[dirV, syn pT ⟨#[]⟩ 1], [], 3, 1, -1, false⟩) := by kernel_rfl
  refine ⟨fun _ => ⟨ok_a1, ?_, ?_⟩, fun h => absurd hk h⟩
  · rw [pL_tT, hw]
    exact ok_two (A := raw pT ⟨#[]⟩ 1) pTs (by decide) (by decide) (by decide) (by decide)
  · rw [pL_tT, hw]
    show Ok (syncS ⟨[dirV, raw pT ⟨#[]⟩ 1], [], 2, 1, -1, false⟩ pT).2
    rw [hs]
    exact ok_two (A := syn pT ⟨#[]⟩ 1) pTs (by decide) (by decide) (by decide) (by decide)
end Go.Proofs.Ytjdmbkkdnonkkaa.Wl

namespace Go.Proofs.Ytjdmbkkdnonkkaa.Wl
open Go.RowKit Tx Pm Pl Pr Dk
set_option linter.unusedVariables false
theorem add_PK {l R : List ByteArray} {r : ByteArray} {sn st sm : Nat} {dm : Bool} : addS ⟨J (PK l) sn st sm (-1), R, dm⟩ pL r = (0, ⟨J (PK (l ++ [r])) (sm + 1) (st + 2) (sm + 1) (-1), R ++ [r], dm⟩) := by
  rw [j_add (by decide) (by decide), PK_snoc]
  rfl
theorem open_PK {l : List ByteArray} {sn st sm : Nat} {a : Int} (h : ∀ r ∈ l, r.size ≤ 140737488351232) : openS (J (PK l) sn st sm a) pL = (0, ⟨J (PK l) sn st sm a, l, false⟩) := open_whole (j_kind _ _ _ _ _) (j_read _ _ _ _ _) (scan_all l h)
theorem openok_PK {l : List ByteArray} {sn st sm : Nat} {a : Int} (h : ∀ r ∈ l, r.size ≤ 140737488351232) (hl : l.length ≤ 100) (h1 : st ≤ 10000) (h2 : sm ≤ 10000) (ha : -1 ≤ a ∧ a ≤ 9223372036854775807) : OpenOk (J (PK l) sn st sm a) pL :=
  openok_J (PK_le h hl (by omega)) h1 h2 ha (by rw [scan_all l h]; show l.length ≤ _; omega)
set_option maxRecDepth 100000 in
set_option maxHeartbeats 2000000 in
theorem made_any (w0 W : World) (hb : Below w0.heap.size w0 W) : Calls Try.prog 5 #[] W fun e w' => ∃ b, e = .returned (.pointer (some ⟨b, 0, none⟩)) ∧ Own (ImpAt b) w0 a1S w' := by
  have cn := w_new w0 hb
  go_enter Try.func5, Try.ntmps5
  go_wp2_with fail
  go_at_call 15
  refine cn.mono ?_
  rintro e w1 ⟨b, rfl, o1⟩
  go_wp2_with fail
  go_at_call 16
  refine (w_mkdir (p := pV) o1 ok_new (by decide) a1_mk).mono ?_
  rintro e w2 ⟨rfl, o2⟩
  go_wp2_with fail
  go_ret
  exact ⟨_, rfl, o2⟩
def tOne : ByteArray := ⟨#[111, 110, 101]⟩
theorem one_strs (W : World) (T : TypeId) : Strs (W.alloc (.cells #[.string tOne] T)) (some ⟨W.heap.size, 0, none⟩) 1 [tOne] := by
  refine ⟨rfl, .inr ⟨W.heap.size, 0, rfl, by simp, fun k x hx => ?_⟩⟩
  match k, hx with
  | 0, hx =>
    injection hx with hx
    subst hx
    simp
  | k + 1, hx => cases hx
set_option maxRecDepth 100000 in
set_option maxHeartbeats 4000000 in
theorem awake_any6 (w0 W : World) (hb : Below w0.heap.size w0 W) : Calls Try.prog 6 #[] W fun e w' => e = .returned (.bool true) ∧ Below w0.heap.size w0 w' := by
  have cm := made_any w0 W hb
  have hone : ∀ r ∈ [tOne], r.size ≤ 140737488351232 := fun r hr => by
    obtain rfl : r = tOne := by simpa using hr
    decide
  go_enter Try.func6, Try.ntmps6
  go_wp2_with fail
  go_at_call 5
  refine cm.mono ?_
  rintro e w1 ⟨b, rfl, o1⟩
  go_wp2_with fail
  go_at_call 7
  refine (w_open o1 openok_new new_open).mono ?_
  rintro e w2 ⟨j, rfl, o2⟩
  go_wp2_with fail
  go_at_call 8
  refine (w_add (r := tOne) o2 (addok_J (by decide) (by decide) (by decide) (by decide) (by decide) (by decide)) (add_PK (l := []))).mono ?_
  rintro e w3 ⟨rfl, o3⟩
  go_wp2_with fail
  go_at_call 7
  refine (w_open o3.disk (openok_PK (l := [] ++ [tOne]) hone (by decide) (by decide) (by decide) (by decide)) (open_PK hone)).mono ?_
  rintro e w4 ⟨j2, rfl, o4⟩
  have cr := w_records o4 (by decide)
  go_wp2_with fail
  go_at_call 13
  refine cr.mono ?_
  rintro e w5 ⟨a, c, rfl, hs, hb5⟩
  have o5 := o4.belowJ hb5
  have hs2 := one_strs w5 9
  have hb6 : Below w5.heap.size w5 (w5.alloc (.cells #[.string tOne] 9)) := (Below.refl _ _).alloc (Nat.le_refl _) _
  have cs := same_true a (some ⟨w5.heap.size, 0, none⟩) 1 c 1 [tOne] _ (by decide) (hs.below hb6) hs2
  go_wp2_with fail
  go_at_call 12
  refine cs.mono ?_
  rintro e w7 ⟨rfl, hb7⟩
  have o7 := (o5.belowJ hb6).belowJ hb7
  go_wp2_with fail
  go_at_call 11
  refine (w_damaged o7).mono ?_
  rintro e w8 ⟨rfl, rfl⟩
  go_wp2_with fail
  go_ret
  exact ⟨rfl, o7.bel⟩
end Go.Proofs.Ytjdmbkkdnonkkaa.Wl
