/- Texts of this seat, one behind the other. -/
import Derived.Test.YthejpojmmokinaaGreatDoorT3
import Derived.Lib.ItoaNum
import Derived.Shelf.Strconv.Itoa3
import Derived.Test.YthejpojmmokinaaGreatDoorProg
import Derived.Lib.AppendIntMem
import Derived.SliceStrings
import Derived.SizedLaws
import Derived.Test.YthejpojmmokinaaGreatDoorCards
import Derived.Test.YthejpojmmokinaaGreatDoorTie
import Derived.Lib.LaidTab
import Derived.Lib.LaidU8
import Derived.LaidMore
import Derived.Deep.DeepHandedRow
import Derived.Stop.Joined
import Derived.JoinedCond
import Derived.ChangeOld
import Derived.SevenTiedAt
namespace Go.Proofs.YthejpojmmokinaaGreatDoor.Tb
open Go.RowKit
set_option linter.unusedVariables false
set_option linter.unusedSimpArgs false
set_option linter.unnecessarySimpa false
def TwoT (t b : Nat) (p : ByteArray) (W : World) : Prop := W.cell? ⟨t, 0, none⟩ = some (.pointer (some ⟨b, 0, none⟩)) ∧ W.cell? ⟨t, 1, none⟩ = some (.string p)
def TwoC (t j u n c : Nat) (a : Option Addr) (W : World) : Prop := W.cell? ⟨t, 2, none⟩ = some (.pointer (some ⟨j, 0, none⟩)) ∧ W.cell? ⟨u, 1, none⟩ = some (.slice a n c)
set_option maxRecDepth 100000 in
set_option maxHeartbeats 4000000 in
theorem packReg (ops : Array Oper) (hops : ops = (Rg.opsOf Tryz.f51 3)) (id : Nat) (t b k : Nat) (p r f : ByteArray) {u1 u2 u3 u4 u5 u6 u7 u8 u9 u10 u11 u12 u13 u14 u15 u16 u17 u18 u19 u20 u21 u22 u23 u24 u25 u26 : Value} (w : World)
    (B1 : Option Addr → Nat → Nat → World → Prop) (B2 B3 B4 : World → Prop) (hS : TwoT t b p w)
    (hA : Calls Tryz.prog 76 #[.pointer (some ⟨t, 0, none⟩)] w.drew fun e w' => ∃ a n c, e = .returned (.slice a n c) ∧ B1 a n c w') (hAS : ∀ a n c W, B1 a n c W → TwoT t b p W)
    (hB : ∀ a n c W, B1 a n c W → Calls Tryz.prog 48 #[.slice a n c] W fun e w' => e = .returned (.string r) ∧ B2 w') (hBS : ∀ W, B2 W → TwoT t b p W)
    (hC : ∀ W, B2 W → Calls Tryz.prog 71 #[.string r] W fun e w' => e = .returned (.string f) ∧ B3 w') (hCS : ∀ W, B3 W → TwoT t b p W)
    (hD : ∀ W, B3 W → Calls Tryz.prog 75 #[.pointer (some ⟨b, 0, none⟩), .string p, .string f] W fun e w' => e = .returned (.int .i64 (k : Nat)) ∧ B4 w') (hDS : ∀ W, B4 W → TwoT t b p W) :
    (Code.region id ops true).wp Tryz.prog (Rg.Only fun a' w' => ∃ (a5 : Option Addr) (n5 c5 : Nat), a' = ⟨#[(.pointer (some ⟨t, 0, none⟩)), u1, u2, (.int .i64 (k : Nat)), u4, u5, (.pointer (some ⟨t, 0, none⟩)), (.pointer (some ⟨t, 0, none⟩)), (.pointer (some ⟨t, 0, none⟩)), (.pointer (some ⟨b, 0, none⟩)), (.pointer (some ⟨t, 0, none⟩)), (.pointer (some ⟨t, 0, none⟩)), (.pointer (some ⟨t, 1, none⟩)), (.string p), (.pointer (some ⟨t, 0, none⟩)), (.slice a5 n5 c5), (.string r), (.string f), (.int .i64 (k : Nat)), u19, u20, u21, u22, u23, u24, u25, u26], []⟩ ∧ B4 w') ⟨#[(.pointer (some ⟨t, 0, none⟩)), u1, u2, u3, u4, u5, u6, u7, u8, u9, u10, u11, u12, u13, u14, u15, u16, u17, u18, u19, u20, u21, u22, u23, u24, u25, u26], []⟩ w := by
  subst hops
  have hNS : Region.noSelect (Rg.opsOf Tryz.f51 3) = true := by kernel_rfl
  refine wp_region_held_drew (S := TwoT t b p) (by kernel_rfl) hS (fun hHeld => ?_)
  rw [show (Rg.opsOf Tryz.f51 3).size = 14 by kernel_rfl]
  refine Rg.take (ops := (Rg.opsOf Tryz.f51 3)) 0 (some 6) ((.pointer (some ⟨t, 0, none⟩))) hNS (by kernel_rfl) (by kernel_rfl) (by kernel_rfl) (by kernel_rfl) (by kernel_rfl) hHeld (Rg.y_move (x := (Operand.tmp 0)) (Or.inl (by kernel_rfl)) (by kernel_rfl)) ?_
  refine Rg.take (ops := (Rg.opsOf Tryz.f51 3)) 1 (some 7) ((.pointer (some ⟨t, 0, none⟩))) hNS (by kernel_rfl) (by kernel_rfl) (by kernel_rfl) (by kernel_rfl) (by kernel_rfl) hHeld (Rg.y_nil (x := (Operand.tmp 6)) (by kernel_rfl) (by kernel_rfl)) ?_
  refine Rg.take (ops := (Rg.opsOf Tryz.f51 3)) 2 (some 8) ((.pointer (some ⟨t, 0, none⟩))) hNS (by kernel_rfl) (by kernel_rfl) (by kernel_rfl) (by kernel_rfl) (by kernel_rfl) hHeld (Rg.y_field (T := 91) (k := 0) (x := (Operand.tmp 7)) (vx := (.pointer (some ⟨t, 0, none⟩))) (by kernel_rfl) (by kernel_rfl) ?_) ?_
  · (intro w hSw; clear hSw; go_simp)
  refine Rg.take (ops := (Rg.opsOf Tryz.f51 3)) 3 (some 9) ((.pointer (some ⟨b, 0, none⟩))) hNS (by kernel_rfl) (by kernel_rfl) (by kernel_rfl) (by kernel_rfl) (by kernel_rfl) hHeld (Rg.y_load (T := 53) (x := (Operand.tmp 8)) (vx := (.pointer (some ⟨t, 0, none⟩))) (by kernel_rfl) (by kernel_rfl) ?_) ?_
  · (intro w hSw; obtain ⟨s0, s1⟩ := hSw; go_simp)
  refine Rg.take (ops := (Rg.opsOf Tryz.f51 3)) 4 (some 10) ((.pointer (some ⟨t, 0, none⟩))) hNS (by kernel_rfl) (by kernel_rfl) (by kernel_rfl) (by kernel_rfl) (by kernel_rfl) hHeld (Rg.y_move (x := (Operand.tmp 0)) (Or.inl (by kernel_rfl)) (by kernel_rfl)) ?_
  refine Rg.take (ops := (Rg.opsOf Tryz.f51 3)) 5 (some 11) ((.pointer (some ⟨t, 0, none⟩))) hNS (by kernel_rfl) (by kernel_rfl) (by kernel_rfl) (by kernel_rfl) (by kernel_rfl) hHeld (Rg.y_nil (x := (Operand.tmp 10)) (by kernel_rfl) (by kernel_rfl)) ?_
  refine Rg.take (ops := (Rg.opsOf Tryz.f51 3)) 6 (some 12) ((.pointer (some ⟨t, 1, none⟩))) hNS (by kernel_rfl) (by kernel_rfl) (by kernel_rfl) (by kernel_rfl) (by kernel_rfl) hHeld (Rg.y_field (T := 91) (k := 1) (x := (Operand.tmp 11)) (vx := (.pointer (some ⟨t, 0, none⟩))) (by kernel_rfl) (by kernel_rfl) ?_) ?_
  · (intro w hSw; clear hSw; go_simp)
  refine Rg.take (ops := (Rg.opsOf Tryz.f51 3)) 7 (some 13) ((.string p)) hNS (by kernel_rfl) (by kernel_rfl) (by kernel_rfl) (by kernel_rfl) (by kernel_rfl) hHeld (Rg.y_load (T := 9) (x := (Operand.tmp 12)) (vx := (.pointer (some ⟨t, 1, none⟩))) (by kernel_rfl) (by kernel_rfl) ?_) ?_
  · (intro w hSw; obtain ⟨s0, s1⟩ := hSw; go_simp)
  refine Rg.take (ops := (Rg.opsOf Tryz.f51 3)) 8 (some 14) ((.pointer (some ⟨t, 0, none⟩))) hNS (by kernel_rfl) (by kernel_rfl) (by kernel_rfl) (by kernel_rfl) (by kernel_rfl) hHeld (Rg.y_move (x := (Operand.tmp 0)) (Or.inl (by kernel_rfl)) (by kernel_rfl)) ?_
  refine Rg.call (ops := (Rg.opsOf Tryz.f51 3)) (fn := Tryz.f76) (xs := #[Operand.tmp 14]) (ats := #[55]) 9 (some 15) 76 #[(.pointer (some ⟨t, 0, none⟩))] (by kernel_rfl) (by kernel_rfl) (by kernel_rfl) (by kernel_rfl) (by kernel_rfl) Tryz.func76 (by kernel_rfl) (by kernel_rfl) (by kernel_rfl) ?_
  refine hA.mono ?_
  rintro e w5 ⟨a5, n5, c5, rfl, h5⟩
  refine ⟨_, rfl, hAS _ _ _ _ h5, fun hHeld => ?_⟩
  refine Rg.call (ops := (Rg.opsOf Tryz.f51 3)) (fn := Tryz.f48) (xs := #[Operand.tmp 15]) (ats := #[76]) 10 (some 16) 48 #[(.slice a5 n5 c5)] (by kernel_rfl) (by kernel_rfl) (by kernel_rfl) (by kernel_rfl) (by kernel_rfl) Tryz.func48 (by kernel_rfl) (by kernel_rfl) (by kernel_rfl) ?_
  refine (hB _ _ _ _ h5).mono ?_
  rintro e w6 ⟨rfl, h6⟩
  refine ⟨_, rfl, hBS _ h6, fun hHeld => ?_⟩
  refine Rg.call (ops := (Rg.opsOf Tryz.f51 3)) (fn := Tryz.f71) (xs := #[Operand.tmp 16]) (ats := #[9]) 11 (some 17) 71 #[(.string r)] (by kernel_rfl) (by kernel_rfl) (by kernel_rfl) (by kernel_rfl) (by kernel_rfl) Tryz.func71 (by kernel_rfl) (by kernel_rfl) (by kernel_rfl) ?_
  refine (hC _ h6).mono ?_
  rintro e w7 ⟨rfl, h7⟩
  refine ⟨_, rfl, hCS _ h7, fun hHeld => ?_⟩
  refine Rg.call (ops := (Rg.opsOf Tryz.f51 3)) (fn := Tryz.f75) (xs := #[Operand.tmp 9, Operand.tmp 13, Operand.tmp 17]) (ats := #[53, 9, 9]) 12 (some 18) 75 #[(.pointer (some ⟨b, 0, none⟩)), (.string p), (.string f)] (by kernel_rfl) (by kernel_rfl) (by kernel_rfl) (by kernel_rfl) (by kernel_rfl) Tryz.func75 (by kernel_rfl) (by kernel_rfl) (by kernel_rfl) ?_
  refine (hD _ h7).mono ?_
  rintro e w8 ⟨rfl, h8⟩
  refine ⟨_, rfl, hDS _ h8, fun hHeld => ?_⟩
  refine Rg.take (ops := (Rg.opsOf Tryz.f51 3)) 13 (some 3) ((.int .i64 (k : Nat))) hNS (by kernel_rfl) (by kernel_rfl) (by kernel_rfl) (by kernel_rfl) (by kernel_rfl) hHeld (Rg.y_move (x := (Operand.tmp 18)) (Or.inr (by kernel_rfl)) (by kernel_rfl)) ?_
  refine Rg.done (ops := (Rg.opsOf Tryz.f51 3)) (by kernel_rfl) ?_
  exact ⟨a5, n5, c5, by kernel_rfl, h8⟩
set_option maxRecDepth 100000 in
set_option maxHeartbeats 4000000 in
theorem commitReg (ops : Array Oper) (hops : ops = (Rg.opsOf Tryz.f27 6)) (id : Nat) (t j u n c k : Nat) (a : Option Addr) (r : ByteArray) {u1 u2 u4 u5 u6 u7 u8 u9 u10 u11 u12 u13 u14 u15 u16 u17 u18 u19 u20 u21 u22 u23 u24 u25 u26 u27 u28 u29 u30 u31 u32 u33 u34 u35 u36 u37 u38 u39 u40 u41 u42 u43 u44 u45 u46 u47 u48 u49 u50 u51 u52 u53 u54 u55 u56 u57 u58 : Value} (w : World)
    (B1 B2 : World → Prop) (hS : TwoC t j u n c a w)
    (hA : Calls Tryz.prog 48 #[.slice a n c] w.drew fun e w' => e = .returned (.string r) ∧ B1 w') (hAS : ∀ W, B1 W → TwoC t j u n c a W)
    (hB : ∀ W, B1 W → Calls Tryz.prog 47 #[.pointer (some ⟨j, 0, none⟩), .string r] W fun e w' => e = .returned (.int .i64 (k : Nat)) ∧ B2 w') (hBS : ∀ W, B2 W → TwoC t j u n c a W) :
    (Code.region id ops true).wp Tryz.prog (Rg.Only fun a' w' => a' = ⟨#[(.pointer (some ⟨u, 0, none⟩)), u1, u2, (.pointer (some ⟨t, 0, none⟩)), (.int .i64 (k : Nat)), u5, u6, u7, u8, u9, u10, u11, u12, u13, u14, u15, u16, u17, u18, u19, u20, u21, u22, u23, (.pointer (some ⟨t, 0, none⟩)), (.pointer (some ⟨t, 0, none⟩)), (.pointer (some ⟨t, 2, none⟩)), (.pointer (some ⟨j, 0, none⟩)), (.pointer (some ⟨u, 0, none⟩)), (.pointer (some ⟨u, 0, none⟩)), (.pointer (some ⟨u, 1, none⟩)), (.slice a n c), (.string r), (.int .i64 (k : Nat)), u34, u35, u36, u37, u38, u39, u40, u41, u42, u43, u44, u45, u46, u47, u48, u49, u50, u51, u52, u53, u54, u55, u56, u57, u58], []⟩ ∧ B2 w') ⟨#[(.pointer (some ⟨u, 0, none⟩)), u1, u2, (.pointer (some ⟨t, 0, none⟩)), u4, u5, u6, u7, u8, u9, u10, u11, u12, u13, u14, u15, u16, u17, u18, u19, u20, u21, u22, u23, u24, u25, u26, u27, u28, u29, u30, u31, u32, u33, u34, u35, u36, u37, u38, u39, u40, u41, u42, u43, u44, u45, u46, u47, u48, u49, u50, u51, u52, u53, u54, u55, u56, u57, u58], []⟩ w := by
  subst hops
  have hNS : Region.noSelect (Rg.opsOf Tryz.f27 6) = true := by kernel_rfl
  refine wp_region_held_drew (S := TwoC t j u n c a) (by kernel_rfl) hS (fun hHeld => ?_)
  rw [show (Rg.opsOf Tryz.f27 6).size = 11 by kernel_rfl]
  refine Rg.take (ops := (Rg.opsOf Tryz.f27 6)) 0 (some 24) ((.pointer (some ⟨t, 0, none⟩))) hNS (by kernel_rfl) (by kernel_rfl) (by kernel_rfl) (by kernel_rfl) (by kernel_rfl) hHeld (Rg.y_move (x := (Operand.tmp 3)) (Or.inl (by kernel_rfl)) (by kernel_rfl)) ?_
  refine Rg.take (ops := (Rg.opsOf Tryz.f27 6)) 1 (some 25) ((.pointer (some ⟨t, 0, none⟩))) hNS (by kernel_rfl) (by kernel_rfl) (by kernel_rfl) (by kernel_rfl) (by kernel_rfl) hHeld (Rg.y_nil (x := (Operand.tmp 24)) (by kernel_rfl) (by kernel_rfl)) ?_
  refine Rg.take (ops := (Rg.opsOf Tryz.f27 6)) 2 (some 26) ((.pointer (some ⟨t, 2, none⟩))) hNS (by kernel_rfl) (by kernel_rfl) (by kernel_rfl) (by kernel_rfl) (by kernel_rfl) hHeld (Rg.y_field (T := 91) (k := 2) (x := (Operand.tmp 25)) (vx := (.pointer (some ⟨t, 0, none⟩))) (by kernel_rfl) (by kernel_rfl) ?_) ?_
  · (intro w hSw; clear hSw; go_simp)
  refine Rg.take (ops := (Rg.opsOf Tryz.f27 6)) 3 (some 27) ((.pointer (some ⟨j, 0, none⟩))) hNS (by kernel_rfl) (by kernel_rfl) (by kernel_rfl) (by kernel_rfl) (by kernel_rfl) hHeld (Rg.y_load (T := 89) (x := (Operand.tmp 26)) (vx := (.pointer (some ⟨t, 2, none⟩))) (by kernel_rfl) (by kernel_rfl) ?_) ?_
  · (intro w hSw; obtain ⟨s0, s1⟩ := hSw; go_simp)
  refine Rg.take (ops := (Rg.opsOf Tryz.f27 6)) 4 (some 28) ((.pointer (some ⟨u, 0, none⟩))) hNS (by kernel_rfl) (by kernel_rfl) (by kernel_rfl) (by kernel_rfl) (by kernel_rfl) hHeld (Rg.y_move (x := (Operand.tmp 0)) (Or.inl (by kernel_rfl)) (by kernel_rfl)) ?_
  refine Rg.take (ops := (Rg.opsOf Tryz.f27 6)) 5 (some 29) ((.pointer (some ⟨u, 0, none⟩))) hNS (by kernel_rfl) (by kernel_rfl) (by kernel_rfl) (by kernel_rfl) (by kernel_rfl) hHeld (Rg.y_nil (x := (Operand.tmp 28)) (by kernel_rfl) (by kernel_rfl)) ?_
  refine Rg.take (ops := (Rg.opsOf Tryz.f27 6)) 6 (some 30) ((.pointer (some ⟨u, 1, none⟩))) hNS (by kernel_rfl) (by kernel_rfl) (by kernel_rfl) (by kernel_rfl) (by kernel_rfl) hHeld (Rg.y_field (T := 78) (k := 1) (x := (Operand.tmp 29)) (vx := (.pointer (some ⟨u, 0, none⟩))) (by kernel_rfl) (by kernel_rfl) ?_) ?_
  · (intro w hSw; clear hSw; go_simp)
  refine Rg.take (ops := (Rg.opsOf Tryz.f27 6)) 7 (some 31) ((.slice a n c)) hNS (by kernel_rfl) (by kernel_rfl) (by kernel_rfl) (by kernel_rfl) (by kernel_rfl) hHeld (Rg.y_load (T := 76) (x := (Operand.tmp 30)) (vx := (.pointer (some ⟨u, 1, none⟩))) (by kernel_rfl) (by kernel_rfl) ?_) ?_
  · (intro w hSw; obtain ⟨s0, s1⟩ := hSw; go_simp)
  refine Rg.call (ops := (Rg.opsOf Tryz.f27 6)) (fn := Tryz.f48) (xs := #[Operand.tmp 31]) (ats := #[76]) 8 (some 32) 48 #[(.slice a n c)] (by kernel_rfl) (by kernel_rfl) (by kernel_rfl) (by kernel_rfl) (by kernel_rfl) Tryz.func48 (by kernel_rfl) (by kernel_rfl) (by kernel_rfl) ?_
  refine hA.mono ?_
  rintro e w6 ⟨rfl, h6⟩
  refine ⟨_, rfl, hAS _ h6, fun hHeld => ?_⟩
  refine Rg.call (ops := (Rg.opsOf Tryz.f27 6)) (fn := Tryz.f47) (xs := #[Operand.tmp 27, Operand.tmp 32]) (ats := #[89, 9]) 9 (some 33) 47 #[(.pointer (some ⟨j, 0, none⟩)), (.string r)] (by kernel_rfl) (by kernel_rfl) (by kernel_rfl) (by kernel_rfl) (by kernel_rfl) Tryz.func47 (by kernel_rfl) (by kernel_rfl) (by kernel_rfl) ?_
  refine (hB _ h6).mono ?_
  rintro e w8 ⟨rfl, h8⟩
  refine ⟨_, rfl, hBS _ h8, fun hHeld => ?_⟩
  refine Rg.take (ops := (Rg.opsOf Tryz.f27 6)) 10 (some 4) ((.int .i64 (k : Nat))) hNS (by kernel_rfl) (by kernel_rfl) (by kernel_rfl) (by kernel_rfl) (by kernel_rfl) hHeld (Rg.y_move (x := (Operand.tmp 33)) (Or.inr (by kernel_rfl)) (by kernel_rfl)) ?_
  refine Rg.done (ops := (Rg.opsOf Tryz.f27 6)) (by kernel_rfl) ?_
  exact ⟨by kernel_rfl, h8⟩
end Go.Proofs.YthejpojmmokinaaGreatDoor.Tb

namespace Go.Proofs.YthejpojmmokinaaGreatDoor.Tb
open Go.RowKit Tx Pm Dk Wm Wr Wl Pl
set_option linter.unusedVariables false
set_option linter.unusedSimpArgs false
set_option linter.unnecessarySimpa false
theorem wt_whole_len (L : List It) : L.length * 40 ≤ wt (whole7 L) := by
  have := wt_len (whole7 L)
  unfold whole7 at this ⊢
  rwa [List.length_map] at this
theorem wt_whole_mem {L : List It} {x : It} (h : x ∈ L) : x.path.size + x.data.size + 40 ≤ wt (whole7 L) := wt_mem (c := ⟨x.path, x.data, false⟩) (List.mem_map.2 ⟨x, h, rfl⟩)
def PackOk (x : Tst) (p q : ByteArray) : Prop := FillOk x.j.s p (Fm.pk (rec7 (whole7 x.L))) ∧ ((fillS x.j.s p (Fm.pk (rec7 (whole7 x.L)))).1 = 0 → FillOk (fillS x.j.s p (Fm.pk (rec7 (whole7 x.L)))).2 q ⟨#[]⟩) ∧ wt (whole7 x.L) ≤ 1000000000 ∧ p.size ≤ 1000 ∧ q.size ≤ 1000
theorem pack_1 {x : Tst} {p q : ByteArray} {k : Nat} {s1 : St} (h : fillS x.j.s p (Fm.pk (rec7 (whole7 x.L))) = (k, s1)) (hk : k ≠ 0) : packS x p q = (k, ⟨⟨s1, x.j.R, x.j.dm⟩, x.L⟩) := by
  unfold packS; rw [h]; exact if_pos hk
theorem pack_2 {x : Tst} {p q : ByteArray} {k : Nat} {s1 : St} {y : Jst} (h : fillS x.j.s p (Fm.pk (rec7 (whole7 x.L))) = (0, s1)) (h2 : resetS ⟨s1, x.j.R, x.j.dm⟩ q = (k, y)) : packS x p q = (k, ⟨y, x.L⟩) := by
  unfold packS; rw [h]; simp only [h2]; exact if_neg (fun hh => hh rfl)
theorem left_trans7 {α : Type} {Obj : World → (Nat → Prop) → α → Prop} {w w1 w2 : World} {F F1 : Nat → Prop} {y : α} (hc : Chg F w w1) (hn : ∀ g, F1 g → F g ∨ w.heap.size ≤ g) (h : LeftA Obj w1 F1 y w2) : LeftA Obj w F y w2 := LeftA.trans hc hn h
theorem TAt.disk {b j t m : Nat} {p q : ByteArray} {Fj F : Nat → Prop} {w W : World} {x : Tst} {s' : St} {k : Nat} {f : FuncId} {args : Array Value} (h : TAt b j t m p q Fj w F x) (hW : Below w.heap.size w W)
    (hc : ∀ {Fd}, ImpAt b W Fd x.j.s → Calls Tryz.prog f args W (Dos (ImpAt b) W Fd k s')) : Calls Tryz.prog f args W fun e w' => e = .returned (.int .i64 (k : Nat)) ∧ LeftA (Tn b j t m p q) w F ⟨⟨s', x.j.R, x.j.dm⟩, x.L⟩ w' := by
  have hw := h.below hW
  obtain ⟨v, Fd, hj⟩ := hw.jn
  refine (hc hj.dsk).mono ?_
  rintro e w' ⟨rfl, hl⟩
  obtain ⟨Fd', F', q1, c1, n1⟩ := hj.disk_left (imp_kind b) hl
  have h2 := hw.jleft (y := ⟨s', x.j.R, x.j.dm⟩) ⟨F', ⟨v, Fd', q1⟩, c1, n1⟩
  exact ⟨rfl, left_trans7 (Chg.of_below hW) (fun g hg => .inl hg) h2⟩
set_option maxRecDepth 100000 in
set_option maxHeartbeats 2000000 in
theorem pack_any (b j t m : Nat) {Fj F : Nat → Prop} {x : Tst} (p q : ByteArray) (w : World) (h : TAt b j t m p q Fj w F x) (o : PackOk x p q) :
    Calls Tryz.prog 51 #[.pointer (some ⟨t, 0, none⟩)] w fun e w' => e = .returned (.int .i64 ((packS x p q).1 : Nat)) ∧ LeftA (Tn b j t m p q) w F (packS x p q).2 w' := by
  obtain ⟨o1, o2, o3, o4, o5⟩ := o
  have hlen := wt_whole_len x.L
  have hsz : (rec7 (whole7 x.L)).size ≤ wt (whole7 x.L) + 10 := rec7_le (by omega)
  have hpk := Fm.pk_size (rec7 (whole7 x.L))
  have hvb := vb_len (x := (rec7 (whole7 x.L)).size) (by omega)
  obtain ⟨t0, t1, t2, t3⟩ := h.cell
  have hd1 := (Below.refl w.heap.size w).drew
  have h1 := h.below hd1
  have cw := whole_any t m x.L w.drew h1.cell.2.2.2 h1.rows h.rises (by omega) (fun y hy => by have := wt_whole_mem hy; omega)
  obtain ⟨k1, s1, hf⟩ : ∃ k s, fillS x.j.s p (Fm.pk (rec7 (whole7 x.L))) = (k, s) := ⟨_, _, rfl⟩
  have cf : ∀ W, Below w.heap.size w W → Calls Tryz.prog 75 #[.pointer (some ⟨b, 0, none⟩), .string p, .string (Fm.pk (rec7 (whole7 x.L)))] W fun e w' => e = .returned (.int .i64 (k1 : Nat)) ∧ LeftA (Tn b j t m p q) w F ⟨⟨s1, x.j.R, x.j.dm⟩, x.L⟩ w' := fun W hW =>
    h.disk hW (fun hd => by
      have := iFill_any b p (Fm.pk (rec7 (whole7 x.L))) W hd o1 o4 (by omega)
      rw [hf] at this
      exact this)
  have hS : ∀ W, Below w.heap.size w W → TwoT t b p W := fun W hW => ⟨(h.below hW).cell.1, (h.below hW).cell.2.1⟩
  have hDS : ∀ W, LeftA (Tn b j t m p q) w F ⟨⟨s1, x.j.R, x.j.dm⟩, x.L⟩ W → TwoT t b p W := fun W hW => by
    obtain ⟨F', ⟨Fj', hh⟩, _⟩ := hW
    exact ⟨hh.cell.1, hh.cell.2.1⟩
  have hrg := fun (ops : Array Oper) hops id => @packReg ops hops id t b k1 p (rec7 (whole7 x.L)) (Fm.pk (rec7 (whole7 x.L)))
  have hA : Calls Tryz.prog 76 #[.pointer (some ⟨t, 0, none⟩)] w.drew fun e w' => ∃ a n c, e = .returned (.slice a n c) ∧ (n ≤ c ∧ Opl w' a n (whole7 x.L) ∧ Below w.heap.size w w') := cw.mono fun e w' hh => by
    obtain ⟨v, rfl, hO, hb⟩ := hh
    obtain ⟨a, c, rfl, hl, hc, _⟩ := hO.form
    exact ⟨a, _, c, rfl, hc, hl, Tx.below_call hd1 hb⟩
  have hB : ∀ a n c W, (n ≤ c ∧ Opl W a n (whole7 x.L) ∧ Below w.heap.size w W) → Calls Tryz.prog 48 #[.slice a n c] W fun e w' => e = .returned (.string (rec7 (whole7 x.L))) ∧ Below w.heap.size w w' := fun a n c W hW =>
    (record_any a n c (whole7 x.L) W hW.2.1 (by omega) hW.1).mono fun e w' hh => ⟨hh.1, Tx.below_call hW.2.2 hh.2⟩
  have hC : ∀ W, Below w.heap.size w W → Calls Tryz.prog 71 #[.string (rec7 (whole7 x.L))] W fun e w' => e = .returned (.string (Fm.pk (rec7 (whole7 x.L)))) ∧ Below w.heap.size w w' := fun W hW =>
    (Fr.fPack_any (rec7 (whole7 x.L)) W (by omega)).mono fun e w' hh => ⟨hh.1, Tx.below_call hW hh.2⟩
  have HS := Lib.hid hS
  have HDS := Lib.hid hDS
  have HA := Lib.hid hA
  have HB := Lib.hid hB
  have HC := Lib.hid hC
  have HF := Lib.hid cf
  generalize hR7 : rec7 (whole7 x.L) = R7 at *
  generalize hPK : Fm.pk R7 = PK at *
  by_cases e1 : k1 ≠ 0
  · have hp : packS x p q = (k1, ⟨⟨s1, x.j.R, x.j.dm⟩, x.L⟩) := pack_1 (by rw [hR7, hPK]; exact hf) e1
    rw [hp]
    have n1 := neZ e1
    have h0 := Lib.hid (hS w (Below.refl _ _))
    clear h h1 o1 o2 o3 o4 o5 hlen hsz hpk hvb t0 t1 t2 t3 hd1 cw hf cf hS hDS hrg hA hB hC hp e1 hR7 hPK
    go_enter Tryz.func51, Tryz.ntmps51
    go_wp2_with fail
    refine Rg.wp_only ?_ (packReg _ (by kernel_rfl) _ t b k1 p R7 PK _ _ _ _ _ h0.out HA.out (fun a n c W hW => HS.out W hW.2.2) HB.out (fun W hW => HS.out W hW) HC.out (fun W hW => HS.out W hW) HF.out HDS.out)
    rintro _ w8 ⟨a5, n5, c5, rfl, h8⟩
    go_wp2_with fail
    go_ret
    exact ⟨rfl, h8⟩
  · obtain rfl : k1 = 0 := by omega
    have o2' := o2 (by rw [hf])
    rw [hf] at o2'
    simp only at o2'
    obtain ⟨k2, y, hrs⟩ : ∃ k y, resetS ⟨s1, x.j.R, x.j.dm⟩ q = (k, y) := ⟨_, _, rfl⟩
    have hp : packS x p q = (k2, ⟨y, x.L⟩) := pack_2 (by rw [hR7, hPK]; exact hf) hrs
    rw [hp]
    have h0 := Lib.hid (hS w (Below.refl _ _))
    have H2 := Lib.hid o2'
    have HRS := Lib.hid hrs
    have H5 := Lib.hid o5
    clear h h1 o1 o2 o3 o4 o5 hlen hsz hpk hvb t0 t1 t2 t3 hd1 cw hf cf hS hDS hrg hA hB hC hp e1 o2' hrs hR7 hPK
    go_enter Tryz.func51, Tryz.ntmps51
    go_wp2_with fail
    refine Rg.wp_only ?_ (packReg _ (by kernel_rfl) _ t b 0 p R7 PK _ _ _ _ _ h0.out HA.out (fun a n c W hW => HS.out W hW.2.2) HB.out (fun W hW => HS.out W hW) HC.out (fun W hW => HS.out W hW) HF.out HDS.out)
    rintro _ w8 ⟨a5, n5, c5, rfl, F8, ⟨Fj8, q8⟩, k8, n8⟩
    obtain ⟨_, _, t2, _⟩ := q8.cell
    obtain ⟨v8, Fd8, j8⟩ := q8.jn
    have cr := iReset_any b j q w8 j8 H2.out H5.out
    rw [HRS.out] at cr
    have HQ := Lib.hid (fun w' (hl : LeftA (JnT b j q) w8 Fj8 y w') => left_trans7 k8 n8 (q8.jleft (y := y) hl))
    clear q8 j8 k8 n8
    go_wp2_with fail
    go_at_call 77
    refine cr.mono ?_
    rintro e w9 ⟨rfl, h9⟩
    go_wp2_with fail
    go_ret
    exact ⟨rfl, HQ.out _ h9⟩
set_option maxRecDepth 100000 in
theorem begin_any (tp : Option Addr) (w : World) : Calls Tryz.prog 26 #[.pointer tp] w fun e w' => ∃ u, e = .returned (.pointer (some ⟨u, 0, none⟩)) ∧ ∃ G, Bn u tp w' G [] ∧ (∀ g, G g → w.heap.size ≤ g) ∧ Below w.heap.size w w' := by
  have HB := Lib.hid (((Below.refl w.heap.size w).alloc (Nat.le_refl _) (.map #[] 0)).alloc (by simp) (.cells #[.pointer tp, .slice none 0 0, .map (some w.heap.size)] 78))
  have hP : Pp ((w.alloc (.map #[] 0)).alloc (.cells #[.pointer tp, .slice none 0 0, .map (some w.heap.size)] 78)) w.heap.size [] := (pp_made w).kept (((Below.refl (w.alloc (.map #[] 0)).heap.size _).alloc (Nat.le_refl _) _).block _ (by simp))
  have hb := new_at (w.alloc (.map #[] 0)) (.cells #[.pointer tp, .slice none 0 0, .map (some w.heap.size)] 78) (g := w.heap.size + 1) (by simp)
  have hbn : BAt (w.heap.size + 1) w.heap.size tp (.slice none 0 0) ((w.alloc (.map #[] 0)).alloc (.cells #[.pointer tp, .slice none 0 0, .map (some w.heap.size)] 78)) (fun i => i = w.heap.size + 1 ∨ (Value.slice none 0 0).ownBlock = some i ∨ i = w.heap.size) [] :=
    ⟨hb, nil_OwnC _ _, hP, (fun e => by cases e), List.Pairwise.nil, fun i => Iff.rfl⟩
  have HN := Lib.hid hbn
  have hmm := @run_makeMap Tryz.prog
  clear hbn hP hb
  go_enter Tryz.func26, Tryz.ntmps26
  go_wp2_with fail
  go_ret
  refine ⟨w.heap.size + 1, rfl, _, ⟨_, _, HN.out⟩, ?_, HB.out⟩
  rintro g (rfl | hg | rfl)
  · omega
  · cases hg
  · omega
end Go.Proofs.YthejpojmmokinaaGreatDoor.Tb

namespace Go.Proofs.YthejpojmmokinaaGreatDoor.Tb
open Go.RowKit Tx Pm Dk Wm Wr Wl Pl
set_option linter.unusedVariables false
set_option linter.unusedSimpArgs false
set_option linter.unnecessarySimpa false
def TB (b j t m : Nat) (p q : ByteArray) (u : Nat) (w : World) (H : Nat → Prop) (z : Tst × List Ch) : Prop := ∃ F G, Tn b j t m p q w F z.1 ∧ Bn u (some ⟨t, 0, none⟩) w G z.2 ∧ (∀ i, F i → ¬ G i) ∧ ∀ i, H i ↔ F i ∨ G i
theorem bat_beside {b j t m u pm : Nat} {p q : ByteArray} {tp : Option Addr} {vO : Value} {w w1 : World} {F F1 G : Nat → Prop} {x y : Tst} {l : List Ch} (hB : BAt u pm tp vO w G l) (hd : ∀ i, F i → ¬ G i) (hc : Chg F w w1) (hn : ∀ g, F1 g → F g ∨ w.heap.size ≤ g) :
    BAt u pm tp vO w1 G l ∧ ∀ i, F1 i → ¬ G i :=
  ⟨hB.kept (fun i hi => hc.block i (hB.lt i hi) (fun hf => hd i hf hi)), fun i hi hg => by
    rcases hn i hi with hh | hh
    · exact hd i hh hg
    · have := hB.lt i hg; omega⟩
def CommitOk (x : Tst) (l : List Ch) (p q : ByteArray) : Prop := wt l ≤ 1000000000 ∧ AddOk x.j q (rec7 l) ∧ x.L.length + l.length ≤ 1000000000 ∧ q.size ≤ 1000 ∧ (addS x.j q (rec7 l)).2.R.length ≤ 10000000000 ∧ (16 ≤ (addS x.j q (rec7 l)).2.R.length → PackOk ⟨(addS x.j q (rec7 l)).2, all7 x.L l⟩ p q)
theorem commit_0 {x : Tst} {p q : ByteArray} : commitS x [] p q = (0, x) := rfl
theorem commit_1 {x : Tst} {l : List Ch} {p q : ByteArray} {k : Nat} {y : Jst} (hl : l ≠ []) (h : addS x.j q (rec7 l) = (k, y)) (hk : k ≠ 0) : commitS x l p q = (k, ⟨y, x.L⟩) := by
  unfold commitS; rw [if_neg hl, h]; exact if_pos hk
theorem commit_2 {x : Tst} {l : List Ch} {p q : ByteArray} {y : Jst} (hl : l ≠ []) (h : addS x.j q (rec7 l) = (0, y)) (h16 : ¬ 16 ≤ y.R.length) : commitS x l p q = (0, ⟨y, all7 x.L l⟩) := by
  unfold commitS; rw [if_neg hl, h]; simp only; rw [if_neg (fun hh => hh rfl), if_neg h16]
theorem commit_3 {x : Tst} {l : List Ch} {p q : ByteArray} {y : Jst} (hl : l ≠ []) (h : addS x.j q (rec7 l) = (0, y)) (h16 : 16 ≤ y.R.length) : commitS x l p q = packS ⟨y, all7 x.L l⟩ p q := by
  unfold commitS; rw [if_neg hl, h]; simp only; rw [if_neg (fun hh => hh rfl), if_pos h16]
theorem cleared {u pm : Nat} {tp : Option Addr} {vO : Value} {w : World} {G : Nat → Prop} {l : List Ch} (h : BAt u pm tp vO w G l) :
    ((w.alloc (.map #[] 0)).cell? ⟨u, 1, none⟩ = some vO ∧ (w.alloc (.map #[] 0)).frozen? ⟨u, 1, none⟩ = false) ∧
    (((w.alloc (.map #[] 0)).setCell ⟨u, 1, none⟩ (.slice none 0 0)).cell? ⟨u, 2, none⟩ = some (.map (some pm)) ∧ ((w.alloc (.map #[] 0)).setCell ⟨u, 1, none⟩ (.slice none 0 0)).frozen? ⟨u, 2, none⟩ = false) ∧
    BAt u w.heap.size tp (.slice none 0 0) (((w.alloc (.map #[] 0)).setCell ⟨u, 1, none⟩ (.slice none 0 0)).setCell ⟨u, 2, none⟩ (.map (some w.heap.size))) (fun i => i = u ∨ (Value.slice none 0 0).ownBlock = some i ∨ i = w.heap.size) [] ∧
    Chg (· = u) w (((w.alloc (.map #[] 0)).setCell ⟨u, 1, none⟩ (.slice none 0 0)).setCell ⟨u, 2, none⟩ (.map (some w.heap.size))) := by
  have hul : u < w.heap.size := h.lt u ((h.foot u).2 (.inl rfl))
  have hb0 : (w.alloc (.map #[] 0)).heap[u]? = some (.cells #[.pointer tp, vO, .map (some pm)] 78 (0, 0)) := (((Below.refl w.heap.size w).alloc (Nat.le_refl _) _).block u hul).trans h.blk
  have hb1 : ((w.alloc (.map #[] 0)).setCell ⟨u, 1, none⟩ (.slice none 0 0)).heap[u]? = some (.cells #[.pointer tp, .slice none 0 0, .map (some pm)] 78 (0, 0)) := by rw [set_block hb0]; rfl
  have hb2 : (((w.alloc (.map #[] 0)).setCell ⟨u, 1, none⟩ (.slice none 0 0)).setCell ⟨u, 2, none⟩ (.map (some w.heap.size))).heap[u]? = some (.cells #[.pointer tp, .slice none 0 0, .map (some w.heap.size)] 78 (0, 0)) := by rw [set_block hb1]; rfl
  refine ⟨⟨?_, ?_⟩, ⟨?_, ?_⟩, ⟨hb2, nil_OwnC _ _, ?_, (fun e => by cases e), List.Pairwise.nil, fun i => Iff.rfl⟩, ((Chg.of_below ((Below.refl w.heap.size w).alloc (Nat.le_refl _) _)).then (chg_set (b := u) (k := 1) _)).then (chg_set (b := u) (k := 2) _)⟩
  · unfold World.cell?; rw [hb0]; rfl
  · unfold World.frozen?; rw [hb0]; simp
  · unfold World.cell?; rw [hb1]; rfl
  · unfold World.frozen?; rw [hb1]; simp
  · exact ((pp_made w).kept (set_other _ (by omega))).kept (set_other _ (by omega))
def CommitTo (b j t m : Nat) (p q : ByteArray) (u : Nat) (w : World) (H : Nat → Prop) (r : Nat × Tst) (e : Ending) (w' : World) : Prop :=
  e = .returned (.int .i64 (r.1 : Nat)) ∧ LeftA (Tn b j t m p q) w H r.2 w' ∧ (r.1 = 0 → LeftA (TB b j t m p q u) w H (r.2, []) w')
theorem left_wide {α : Type} {Obj : World → (Nat → Prop) → α → Prop} {w w1 : World} {F H : Nat → Prop} {y : α} (hF : ∀ i, F i → H i) (h : LeftA Obj w F y w1) : LeftA Obj w H y w1 := by
  obtain ⟨F', h1, h2, h3⟩ := h
  exact ⟨F', h1, h2.mono hF, fun g hg => (h3 g hg).imp (fun hh => hF g hh) id⟩
theorem not_nil_len {l : List Ch} {n : Nat} (h : l ≠ []) (hn : n = l.length) : 0 < n := by
  cases l with
  | nil => exact absurd rfl h
  | cons x l => simp at hn; omega
set_option maxRecDepth 100000 in
set_option maxHeartbeats 4000000 in
theorem commit_any (b j t m u : Nat) {H : Nat → Prop} {x : Tst} {l : List Ch} (p q : ByteArray) (w : World) (h : TB b j t m p q u w H (x, l)) (o : CommitOk x l p q) :
    Calls Tryz.prog 27 #[.pointer (some ⟨u, 0, none⟩)] w (CommitTo b j t m p q u w H (commitS x l p q)) := by
  have h0 := h
  obtain ⟨F, G, ⟨Fj, hT⟩, ⟨pm, vO, hB⟩, hd, hH⟩ := h
  obtain ⟨o1, o2, o3, o4, o5, o6⟩ := o
  obtain ⟨c0, c1, c2⟩ := hB.cell
  obtain ⟨aO, cO, hvO, hO1, hO2, _⟩ := hB.ops.form
  obtain ⟨n, hn⟩ : ∃ n, n = l.length := ⟨_, rfl⟩
  rw [← hn] at hvO hO1 hO2
  by_cases hl : l = []
  · subst hl
    obtain rfl : n = 0 := hn
    rw [hvO] at c1
    have HE := Lib.hid (show CommitTo b j t m p q u w H (commitS x [] p q) (.returned (.int .i64 0)) w from ⟨rfl, ⟨F, ⟨Fj, hT⟩, Chg.refl _ _, fun g hg => .inl ((hH g).2 (.inl hg))⟩, fun _ => LeftA.of h0 (Chg.refl _ _)⟩)
    clear h0 hT hB hd hH o1 o2 o3 o4 o5 o6 hvO hO1
    go_enter Tryz.func27, Tryz.ntmps27
    go_wp2_with fail
    go_ret
    exact HE.out
  · have hpos := not_nil_len hl hn
    have hd1 := (Below.refl w.heap.size w).drew
    obtain ⟨k, y, hadd⟩ : ∃ k y, addS x.j q (rec7 l) = (k, y) := ⟨_, _, rfl⟩
    have hrec : ∀ W, Below w.heap.size w W → Calls Tryz.prog 48 #[.slice aO n cO] W fun e w' => e = .returned (.string (rec7 l)) ∧ Below w.heap.size w w' := fun W hW =>
      (record_any aO n cO l W (hO1.below hW) (by omega) hO2).mono fun e w' hh => ⟨hh.1, Tx.below_call hW hh.2⟩
    have hcall : ∀ W, Below w.heap.size w W → Calls Tryz.prog 47 #[.pointer (some ⟨j, 0, none⟩), .string (rec7 l)] W fun e w' => e = .returned (.int .i64 (k : Nat)) ∧ LeftA (Tn b j t m p q) w F ⟨y, x.L⟩ w' := fun W hW => by
      have hW2 := hT.below hW
      obtain ⟨v, Fd, hj⟩ := hW2.jn
      have c := iAdd_any b j q (rec7 l) W hj o2 o4
      rw [hadd] at c
      exact c.mono fun e w' hh => ⟨hh.1, left_trans7 (Chg.of_below hW) (fun g hg => .inl hg) (hW2.jleft (y := y) hh.2)⟩
    have hS : ∀ W, Below w.heap.size w W → TwoC t j u n cO aO W := fun W hW => ⟨(hT.below hW).cell.2.2.1, (hB.below hW).cell.2.1.trans (by rw [hvO])⟩
    have hS8 : ∀ W, LeftA (Tn b j t m p q) w F ⟨y, x.L⟩ W → TwoC t j u n cO aO W := fun W hW => by
      obtain ⟨F8, ⟨Fj8, h8⟩, k8, n8⟩ := hW
      exact ⟨h8.cell.2.2.1, (bat_beside (b := b) (j := j) (t := t) (m := m) (p := p) (q := q) (x := x) (y := x) hB hd k8 n8).1.cell.2.1.trans (by rw [hvO])⟩
    have HS := Lib.hid hS
    have HS8 := Lib.hid hS8
    have HREC := Lib.hid hrec
    have HCALL := Lib.hid hcall
    have hs0 := Lib.hid (hS w (Below.refl _ _))
    have hnz : ((n : Int) == 0) = false := by simp; omega
    have c1' := c1
    rw [hvO] at c1'
    by_cases hk : k ≠ 0
    · rw [commit_1 hl hadd hk]
      have nk := neZ hk
      have HK := Lib.hid hk
      have HH := Lib.hid hH
      clear h0 hT hB hd hH o1 o2 o3 o4 o5 o6 hvO hO1 hn hS hS8 hrec hcall hadd hk hl hd1 c1
      go_enter Tryz.func27, Tryz.ntmps27
      go_wp2_with fail
      refine Rg.wp_only ?_ (commitReg _ (by kernel_rfl) _ t j u n cO k aO (rec7 l) _ _ _ hs0.out (HREC.out _ (Below.refl w.heap.size w).drew) (fun W hW => HS.out W hW) HCALL.out HS8.out)
      rintro _ w8 ⟨rfl, h8⟩
      go_wp2_with fail
      go_ret
      exact ⟨rfl, left_wide (fun i hi => (HH.out i).2 (.inl hi)) h8, fun hh => absurd hh HK.out⟩
    · obtain rfl : k = 0 := by omega
      rw [hadd] at o5 o6
      simp only at o5 o6
      have hwl := wt_len l
      -- behind Add
      have hnext : ∀ w8, LeftA (Tn b j t m p q) w F ⟨y, x.L⟩ w8 → ∃ F8, (∃ Fj8, TAt b j t m p q Fj8 w8 F8 ⟨y, x.L⟩) ∧ BAt u pm (some ⟨t, 0, none⟩) vO w8 G l ∧ (∀ i, F8 i → ¬ G i) ∧ Chg F w w8 ∧ (∀ g, F8 g → F g ∨ w.heap.size ≤ g) := fun w8 hW => by
        obtain ⟨F8, h8, k8, n8⟩ := hW
        obtain ⟨a1, a2⟩ := bat_beside (b := b) (j := j) (t := t) (m := m) (p := p) (q := q) (x := x) (y := x) hB hd k8 n8
        exact ⟨F8, h8, a1, a2, k8, n8⟩
      have HNX := Lib.hid hnext
      have HH := Lib.hid hH
      have HN := Lib.hid hn
      have HV := Lib.hid hvO
      have HO3 := Lib.hid (show x.L.length + n ≤ 1000000000 by omega)
      have HKS := Lib.hid (show ∀ z ∈ l, z.key.size ≤ 1000000000000 from fun z hz => by have := wt_mem hz; omega)
      have HL := Lib.hid hl
      have HADD := Lib.hid hadd
      have H5 := Lib.hid o5
      have H6 := Lib.hid o6
      clear h0 hT hB hd hH o1 o2 o3 o4 o5 o6 hvO hO1 hn hS hS8 hrec hcall hadd hk hl hd1 c1 hnext hwl
      go_enter Tryz.func27, Tryz.ntmps27
      go_wp2_with fail
      refine Rg.wp_only ?_ (commitReg _ (by kernel_rfl) _ t j u n cO 0 aO (rec7 l) _ _ _ hs0.out (HREC.out _ (Below.refl w.heap.size w).drew) (fun W hW => HS.out W hW) HCALL.out HS8.out)
      rintro _ w8 ⟨rfl, h8⟩
      obtain ⟨F8, ⟨Fj8, hT8⟩, hB8, hd8, k8, n8⟩ := HNX.out _ h8
      obtain ⟨_, _, _, t83⟩ := hT8.cell
      obtain ⟨_, b81, _⟩ := hB8.cell
      obtain ⟨aP, cP, hvP, hOP, hcP, _⟩ := hB8.ops.form
      rw [HV.out, ← HN.out] at hvP
      injection hvP with e1 e2 e3
      subst e1 e3
      rw [← HN.out] at hOP
      have cd := do_any t m x.L aO n cO l w8 t83 hT8.rows hT8.rises hOP HO3.out HKS.out (by rw [HN.out]; exact hcP)
      rw [HV.out] at b81
      have HT8 := Lib.hid hT8
      have HB8 := Lib.hid hB8
      have HD8 := Lib.hid hd8
      have HK8 := Lib.hid k8
      have HN8 := Lib.hid n8
      clear hT8 hB8 hd8 k8 n8 hOP hcP h8 e2
      go_wp2_with fail
      go_at_call 49
      refine cd.mono ?_
      rintro e w9 ⟨rfl, hm9, hc9⟩
      have hT9 := HT8.out.turned hm9 hc9 (rises_all HT8.out.rises l) (plain_all HT8.out.plain l)
      have hm8 : F8 m := (HT8.out.foot m).2 (.inr (.inr rfl))
      have hB9 := HB8.out.kept (fun i hi => hc9.block i (HB8.out.lt i hi) (fun e => HD8.out m hm8 (e ▸ hi)))
      obtain ⟨⟨s1, s2⟩, ⟨s3, s4⟩, hBn, hcu⟩ := cleared hB9
      rw [HV.out] at s1
      have huG : G u := (HB8.out.foot u).2 (.inl rfl)
      have hT11 := hT9.kept (fun i hi => hcu.block i (hT9.lt i hi) (fun e => HD8.out i hi (e ▸ huG)))
      obtain ⟨_, _, t112, _⟩ := hT11.cell
      have hmm := @run_makeMap Tryz.prog
      have hz9 : w8.heap.size ≤ w9.heap.size := hc9.size
      have hz8 : w.heap.size ≤ w8.heap.size := HK8.out.size
      have hch9 : Chg H w w9 := (HK8.out.mono (fun i hi => (HH.out i).2 (.inl hi))).trans (hc9.mono (G := F8) (fun i hi => hi ▸ hm8)) (fun i hi => (HN8.out i hi).imp (fun hh => (HH.out i).2 (.inl hh)) id)
      have hch11 := hch9.then (hcu.mono (fun i hi => (HH.out i).2 (.inr (hi ▸ huG))))
      have hdis : ∀ i, F8 i → ¬ (i = u ∨ (Value.slice none 0 0).ownBlock = some i ∨ i = w9.heap.size) := fun i hi hh => by
        rcases hh with rfl | hh | rfl
        · exact HD8.out _ hi huG
        · cases hh
        · exact absurd (hT9.lt _ hi) (Nat.lt_irrefl _)
      obtain ⟨v11, Fd11, j11⟩ := hT11.jn
      have cr := iRecords_any (imp_kind b) b j q _ j11 H5.out
      have HT11 := Lib.hid hT11
      have HBn := Lib.hid hBn
      have HCH := Lib.hid hch11
      have HDIS := Lib.hid hdis
      have HSZ := Lib.hid (show w.heap.size ≤ w9.heap.size by omega)
      clear hT9 hB9 hBn hT11 hm9 hc9 hch9 hch11 hdis j11 hcu hz9 hz8 cd
      have HG8 := Lib.hid (show ∀ g, F8 g → H g ∨ w.heap.size ≤ g from fun g hg => (HN8.out g hg).imp (fun hh => (HH.out g).2 (.inl hh)) id)
      have HGB := Lib.hid (show ∀ g, (g = u ∨ (Value.slice none 0 0).ownBlock = some g ∨ g = w9.heap.size) → H g ∨ w.heap.size ≤ g from fun g hg => by
        rcases hg with rfl | hg | rfl
        · exact .inl ((HH.out _).2 (.inr huG))
        · cases hg
        · exact .inr HSZ.out)
      obtain ⟨N, hN⟩ : ∃ N, N = y.R.length := ⟨_, rfl⟩
      have HNN := Lib.hid hN
      clear hN
      go_wp2_with fail
      generalize ((w9.alloc (.map #[] 0)).setCell ⟨u, 1, none⟩ (.slice none 0 0)).setCell ⟨u, 2, none⟩ (.map (some w9.heap.size)) = W at HT11 HBn HCH cr t112 ⊢
      go_at_call 50
      refine cr.mono ?_
      rintro e w12 ⟨v12, rfl, h12, hb12⟩
      obtain ⟨a12, c12, hv12, _⟩ := h12.form
      rw [show (⟨y, all7 x.L l⟩ : Tst).j.R.length = N from HNN.out.symm] at hv12
      have hT12 := HT11.out.below hb12
      have hB12 := HBn.out.below hb12
      have hC12 : Chg H w w12 := HCH.out.then (Chg.of_below hb12)
      clear h12
      subst hv12
      by_cases h16 : 16 ≤ y.R.length
      · have hz16 : (16 : Int) ≤ (N : Int) := by rw [HNN.out]; omega
        have hcs : commitS x l p q = packS ⟨y, all7 x.L l⟩ p q := commit_3 HL.out HADD.out h16
        have cp := pack_any b j t m p q w12 hT12 (H6.out h16)
        have HCS := Lib.hid hcs
        have HP := Lib.hid (fun w' (hl : LeftA (Tn b j t m p q) w12 F8 (packS ⟨y, all7 x.L l⟩ p q).2 w') => (⟨left_trans7 hC12 HG8.out (left_wide (fun i hi => hi) hl), fun _ => by
          obtain ⟨F13, h13, k13, n13⟩ := hl
          obtain ⟨b1, b2⟩ := bat_beside (b := b) (j := j) (t := t) (m := m) (p := p) (q := q) (x := x) (y := x) hB12 HDIS.out k13 n13
          have hs12 := hC12.size
          refine ⟨fun i => F13 i ∨ (i = u ∨ (Value.slice none 0 0).ownBlock = some i ∨ i = w9.heap.size), ⟨F13, _, h13, ⟨_, _, b1⟩, b2, fun i => Iff.rfl⟩, hC12.trans k13 HG8.out, fun g hg => ?_⟩
          rcases hg with hg | hg
          · rcases n13 g hg with hh | hh
            · exact HG8.out g hh
            · exact .inr (by omega)
          · exact HGB.out g hg⟩ : LeftA (Tn b j t m p q) w H (packS ⟨y, all7 x.L l⟩ p q).2 w' ∧ ((packS ⟨y, all7 x.L l⟩ p q).1 = 0 → LeftA (TB b j t m p q u) w H ((packS ⟨y, all7 x.L l⟩ p q).2, []) w')))
        clear hT12 hB12 hC12 hcs h16
        go_wp2_with fail
        go_at_call 51
        refine cp.mono ?_
        rintro e w13 ⟨rfl, h13⟩
        obtain ⟨q1, q2⟩ := HP.out _ h13
        clear h13
        go_wp2_with fail
        go_ret
        rw [HCS.out]
        exact ⟨rfl, q1, q2⟩
      · have hz16 : ¬ (16 : Int) ≤ (N : Int) := by rw [HNN.out]; omega
        have hcs : commitS x l p q = (0, ⟨y, all7 x.L l⟩) := commit_2 HL.out HADD.out h16
        have HCS := Lib.hid hcs
        have HE := Lib.hid (show CommitTo b j t m p q u w H (0, ⟨y, all7 x.L l⟩) (.returned (.int .i64 0)) w12 from
          ⟨rfl, ⟨F8, ⟨_, hT12⟩, hC12, HG8.out⟩, fun _ => ⟨fun i => F8 i ∨ (i = u ∨ (Value.slice none 0 0).ownBlock = some i ∨ i = w9.heap.size), ⟨F8, _, ⟨_, hT12⟩, ⟨_, _, hB12⟩, HDIS.out, fun i => Iff.rfl⟩, hC12, fun g hg => hg.elim (HG8.out g) (HGB.out g)⟩⟩)
        clear hT12 hB12 hC12 hcs h16
        go_wp2_with fail
        go_ret
        rw [HCS.out]
        exact HE.out
end Go.Proofs.YthejpojmmokinaaGreatDoor.Tb

namespace Go.Proofs.YthejpojmmokinaaGreatDoor.Tb
open Go.RowKit Tx Pm Dk Wm Wr Wl Pl
set_option linter.unusedVariables false
set_option linter.unusedSimpArgs false
set_option linter.unnecessarySimpa false
def RecOk (L : List It) (R : List ByteArray) : Prop := (∀ r ∈ R, (opsS r).2 = 0 ∧ r.size ≤ 500000000) ∧ L.length + (R.map (·.size)).sum ≤ 500000000 ∧ R.length ≤ 10000000000
theorem sum_take (R : List ByteArray) (k : Nat) : ((R.take k).map (·.size)).sum ≤ (R.map (·.size)).sum := by
  conv => rhs; rw [← List.take_append_drop k R]
  rw [List.map_append, List.sum_append]
  omega
def LogTo (b t m : Nat) (p q : ByteArray) (w : World) (Fd : Nat → Prop) (L : List It) (r : Nat × Jst) (e : Ending) (w' : World) : Prop :=
  (r.1 = 0 ∧ e = .returned (.int .i64 0) ∧ ∃ j, LeftA (Tn b j t m p q) w (fun i => Fd i ∨ i = t ∨ i = m) ⟨r.2, rows7 L r.2.R⟩ w') ∨ (r.1 ≠ 0 ∧ e = .returned (.int .i64 (r.1 : Nat)) ∧ Dk.Left (ImpAt b) w Fd r.2.s w')
set_option maxRecDepth 100000 in
set_option maxHeartbeats 4000000 in
theorem takeLog_any (b t m : Nat) {Fd : Nat → Prop} {s : St} {L : List It} (p q : ByteArray) (w : World) (hblk : w.heap[t]? = some (.cells #[.pointer (some ⟨b, 0, none⟩), .string p, .pointer none, .map (some m)] 91 (0, 0)))
    (hm : Mo w m L) (hD : ImpAt b w Fd s) (hoff : ¬ Fd t ∧ ¬ Fd m) (hR : Rises L) (hP : Plain L) (o : OpenOk s q) (hq : q.size ≤ 1000) (hrec : (openS s q).1 = 0 → RecOk L (openS s q).2.R) :
    Calls Tryz.prog 46 #[.pointer (some ⟨t, 0, none⟩), .string q] w (LogTo b t m p q w Fd L (openS s q)) := by
  have co := iOpen_any b q w hD o hq
  have htl : t < w.heap.size := (Array.getElem?_eq_some_iff.1 hblk).1
  have t0 : w.cell? ⟨t, 0, none⟩ = some (.pointer (some ⟨b, 0, none⟩)) := by unfold World.cell?; rw [hblk]; rfl
  have htm : t ≠ m := fun e => hm.nb (e ▸ hblk)
  have hml := hm.lt
  obtain ⟨k, x, hx⟩ : ∃ k x, openS s q = (k, x) := ⟨_, _, rfl⟩
  unfold LogTo
  rw [hx] at co hrec ⊢
  simp only at hrec ⊢
  by_cases hk : k ≠ 0
  · have nk := neZ hk
    have HK := Lib.hid hk
    have c1 : Calls Tryz.prog 69 #[.pointer (some ⟨b, 0, none⟩), .string q] w fun e w' => e = .returned (.tuple #[.pointer none, .int .i64 (k : Nat)]) ∧ Dk.Left (ImpAt b) w Fd x.s w' := co.mono fun e w' hh => by
      rcases hh with ⟨h0, _⟩ | ⟨_, he, hl⟩
      · exact absurd h0 hk
      · exact ⟨he, hl⟩
    clear hblk hm hD hoff o hrec co htm hk hx
    go_enter Tryz.func46, Tryz.ntmps46
    go_wp2_with fail
    go_at_call 69
    refine c1.mono ?_
    rintro e w1 ⟨rfl, h1⟩
    go_wp2_with fail
    go_ret
    exact .inr ⟨HK.out, rfl, h1⟩
  · obtain rfl : k = 0 := by omega
    obtain ⟨hr1, hr2, hr3⟩ := hrec rfl
    have c1 : Calls Tryz.prog 69 #[.pointer (some ⟨b, 0, none⟩), .string q] w fun e w' => ∃ j, e = .returned (.tuple #[.pointer (some ⟨j, 0, none⟩), .int .i64 0]) ∧ LeftA (JnT b j q) w Fd x w' := co.mono fun e w' hh => by
      rcases hh with ⟨_, j, he, hl⟩ | ⟨h0, _⟩
      · exact ⟨j, he, hl⟩
      · exact absurd rfl h0
    have HBLK := Lib.hid hblk
    have HM := Lib.hid hm
    have HOFF := Lib.hid hoff
    have HR := Lib.hid hR
    have HP := Lib.hid hP
    have HR1 := Lib.hid hr1
    obtain ⟨n, hn⟩ : ∃ n, n = x.R.length := ⟨_, rfl⟩
    have HN := Lib.hid hn
    have HSUM := Lib.hid hr2
    clear hblk hm hD hoff o hrec co hx hR hP hr1 hn hr2 hk
    go_enter Tryz.func46, Tryz.ntmps46
    go_wp2_with fail
    go_at_call 69
    refine c1.mono ?_
    rintro e w1 ⟨j, rfl, Fj, hj, k1, n1⟩
    have hb1 : w1.heap[t]? = _ := (k1.block t htl HOFF.out.1).trans HBLK.out
    have hm1 := HM.out.kept (k1.block m hml HOFF.out.2)
    have hjt : ¬ Fj t := fun hh => by rcases n1 t hh with h | h; exact HOFF.out.1 h; omega
    have hjm : ¬ Fj m := fun hh => by rcases n1 m hh with h | h; exact HOFF.out.2 h; omega
    have s0 : w1.cell? ⟨t, 2, none⟩ = some (.pointer none) := by unfold World.cell?; rw [hb1]; rfl
    have s1 : w1.frozen? ⟨t, 2, none⟩ = false := by unfold World.frozen?; rw [hb1]; simp
    have hb2 : (w1.setCell ⟨t, 2, none⟩ (.pointer (some ⟨j, 0, none⟩))).heap[t]? = some (.cells #[.pointer (some ⟨b, 0, none⟩), .string p, .pointer (some ⟨j, 0, none⟩), .map (some m)] 91 (0, 0)) := by rw [set_block hb1]; rfl
    have kt2 : Chg (· = t) w1 (w1.setCell ⟨t, 2, none⟩ (.pointer (some ⟨j, 0, none⟩))) := chg_set (b := t) (k := 2) _
    have hjlt := (jn_kind (imp_kind b) 115 b j q).1 hj
    have hj2 : JnT b j q (w1.setCell ⟨t, 2, none⟩ (.pointer (some ⟨j, 0, none⟩))) Fj x := (jn_kind (imp_kind b) 115 b j q).2 hj (fun i hi => kt2.block i (hjlt i hi) (fun e => hjt (e ▸ hi)))
    have hm2 := hm1.kept (kt2.block m hm1.lt (fun e => htm e.symm))
    have hTA : TAt b j t m p q Fj (w1.setCell ⟨t, 2, none⟩ (.pointer (some ⟨j, 0, none⟩))) (fun i => Fj i ∨ i = t ∨ i = m) ⟨x, L⟩ := ⟨hj2, hb2, hm2, ⟨hjt, hjm⟩, fun i => Iff.rfl, HR.out, HP.out⟩
    have hch2 : Chg (fun i => Fd i ∨ i = t ∨ i = m) w (w1.setCell ⟨t, 2, none⟩ (.pointer (some ⟨j, 0, none⟩))) := (k1.mono (fun i hi => .inl hi)).then (kt2.mono (fun i hi => .inr (.inl hi)))
    have hnew : ∀ g, (Fj g ∨ g = t ∨ g = m) → (Fd g ∨ g = t ∨ g = m) ∨ w.heap.size ≤ g := fun g hg => by
      rcases hg with hg | hg
      · exact (n1 g hg).imp (fun hh => .inl hh) id
      · exact .inl (.inr hg)
    obtain ⟨v2, Fd2, jj⟩ := hj2
    have cr := iRecords_any (imp_kind b) b j q _ jj hr3
    have HTA := Lib.hid hTA
    have HCH := Lib.hid hch2
    have HNEW := Lib.hid hnew
    clear hj jj hm1 hm2 hb1 hb2 kt2 hTA hch2 hnew k1 n1 hjlt hjt hjm
    go_wp2_with fail
    generalize w1.setCell ⟨t, 2, none⟩ (.pointer (some ⟨j, 0, none⟩)) = W at HTA HCH cr ⊢
    go_at_call 50
    refine cr.mono ?_
    rintro e w3 ⟨vR, rfl, hK, hb3⟩
    obtain ⟨aK, cK, hv, hsK, hcK, _⟩ := hK.form
    rw [← HN.out] at hv hsK hcK
    have hT3 := HTA.out.below hb3
    have hgm : ∀ g off, aK = some ⟨g, off, none⟩ → g ≠ m := fun g off e => by
      have hgb := hK.lt g (by rw [hv, e]; rfl)
      have := HTA.out.rows.lt
      omega
    have HSK := Lib.hid hsK
    have HGM := Lib.hid hgm
    have HT3 := Lib.hid hT3
    have HB3 := Lib.hid hb3
    have hm3 := hT3.rows
    clear hK hsK hT3 hgm hb3 cr s0 s1
    subst hv
    go_wp2_with fail
    go_loopw [29] (fun iv wr => ∃ k : Nat, k ≤ n ∧ iv = .int .i64 k ∧ Mo wr m (rows7 L (x.R.take k)) ∧ Chg (· = m) w3 wr) (fun iv _ => n - (intOf iv).toNat)
    case atStart => exact ⟨0, Nat.zero_le _, rfl, hm3, Chg.refl _ _⟩
    case round =>
      obtain ⟨i, hik, rfl, hmo, hch⟩ := hrel
      by_cases hlt : i < n
      · obtain ⟨r, hr⟩ : ∃ r, x.R[i]? = some r := ⟨_, List.getElem?_eq_getElem (by rw [← HN.out]; exact hlt)⟩
        obtain ⟨_, hne⟩ := HSK.out
        obtain ⟨g, off, rfl, hg, hcc⟩ := hne.resolve_left (by omega)
        have g0' := hcc i r hr
        have hbg := hch.block g hg (HGM.out g off rfl)
        have g0 : wr.cell? ⟨g, off + i, none⟩ = some (.string r) := by unfold World.cell? at g0' ⊢; rw [hbg]; exact g0'
        have hiz : (i : Int) < (n : Int) := by omega
        obtain ⟨hre, hrs⟩ := HR1.out r (List.mem_of_getElem? hr)
        have htc := HT3.out.cell.2.2.2
        have htl3 := World.block_lt_of_cell? w3 _ htc
        have hbt := hch.block t htl3 HT3.out.tm
        have htr : wr.cell? ⟨t, 3, none⟩ = some (.map (some m)) := by unfold World.cell? at htc ⊢; rw [hbt]; exact htc
        have hln := len_rows L (x.R.take i)
        have hst := sum_take x.R i
        have hsum := HSUM.out
        have ct := take_any t m (rows7 L (x.R.take i)) r wr htr hmo (rises_rows HR.out _) hrs (by omega)
        unfold taken at ct
        rw [hre, if_pos rfl] at ct
        have htk : rows7 L (x.R.take (i + 1)) = all7 (rows7 L (x.R.take i)) (opsS r).1 := by
          have hkl := (List.getElem?_eq_some_iff.1 hr).1
          rw [List.take_succ_eq_append_getElem hkl, rows7_snoc]
          rw [List.getElem?_eq_getElem hkl] at hr
          injection hr with hr
          rw [hr]
        rw [← htk] at ct
        clear hmo hr hne hcc g0' hbg hbt hre hln hst hsum htk htc
        go_wp2_with fail
        go_at_call 68
        refine ct.mono ?_
        rintro e w5 ⟨rfl, hm5, hc5⟩
        have hch5 := hch.then hc5
        clear hch hc5
        go_wp2_with fail
        go_roundw
        case rel => exact ⟨i + 1, by omega, by go_num, hm5, hch5⟩
        case measure => simp [intOf]; omega
      · obtain rfl : i = n := by omega
        have e : x.R.take i = x.R := List.take_of_length_le (by rw [← HN.out]; exact Nat.le_refl _)
        rw [e] at hmo
        have hfin := HT3.out.turned hmo hch (rises_rows HR.out _) (plain_rows HP.out _)
        have hcf : Chg (fun i => Fd i ∨ i = t ∨ i = m) w wr := (HCH.out.then (Chg.of_below HB3.out)).then (hch.mono (fun i hi => .inr (.inr hi)))
        have HE := Lib.hid (show LeftA (Tn b j t m p q) w (fun i => Fd i ∨ i = t ∨ i = m) ⟨x, rows7 L x.R⟩ wr from ⟨_, ⟨_, hfin⟩, hcf, HNEW.out⟩)
        clear hfin hcf hmo hch
        go_wp2_with fail
        go_ret
        exact .inl ⟨trivial, rfl, j, HE.out⟩
end Go.Proofs.YthejpojmmokinaaGreatDoor.Tb

namespace Go.Proofs.YthejpojmmokinaaGreatDoor.Dk
open Go.RowKit Tx Pm Pl Pr
set_option linter.unusedVariables false
end Go.Proofs.YthejpojmmokinaaGreatDoor.Dk

namespace Go.Proofs.YthejpojmmokinaaGreatDoor.Dk
open Go.RowKit Tx Pm
set_option linter.unusedVariables false
end Go.Proofs.YthejpojmmokinaaGreatDoor.Dk

namespace Go.Proofs.YthejpojmmokinaaGreatDoor.Dk
open Go.RowKit Tx Pm Pl Pr
set_option linter.unusedVariables false
structure SoundW (s : St) : Prop where
  rises : Rises s.L
  kept : ∀ x ∈ s.L, x.anew = false → x.kept.size ≤ x.data.size
  size : ∀ x ∈ s.L, x.data.size ≤ 1000000000000000000 ∧ x.kept.size ≤ 1000000000000000000
  stamps : s.stamps + s.L.length ≤ 1000000000000
end Go.Proofs.YthejpojmmokinaaGreatDoor.Dk

namespace Go.Proofs.YthejpojmmokinaaGreatDoor.Dk
open Go.RowKit Tx Pm Pl Pr
set_option linter.unusedVariables false
end Go.Proofs.YthejpojmmokinaaGreatDoor.Dk

namespace Go.Proofs.YthejpojmmokinaaGreatDoor.Dk
open Go.RowKit Tx Pm Pl Pr
set_option linter.unusedVariables false
end Go.Proofs.YthejpojmmokinaaGreatDoor.Dk

namespace Go.Proofs.YthejpojmmokinaaGreatDoor.Dk
open Go.RowKit Tx Pm Pl Pr
set_option linter.unusedVariables false
def Own1 (w0 : World) (b bi bl : Nat) (s : St) (W : World) : Prop := ∃ l, Ia b bi bl l W s ∧ Good s ∧ (∀ i, Ft b bi bl i → w0.heap.size ≤ i) ∧ Below w0.heap.size w0 W
theorem Own1.bel {w0 W : World} {b bi bl : Nat} {s : St} (h : Own1 w0 b bi bl s W) : Below w0.heap.size w0 W := by
  obtain ⟨_, _, _, _, h⟩ := h
  exact h
theorem Own1.lt {w0 W : World} {b bi bl : Nat} {s : St} (h : Own1 w0 b bi bl s W) : ∀ i, Ft b bi bl i → i < W.heap.size := by
  obtain ⟨_, h, _⟩ := h
  exact h.lt
theorem Own1.good {w0 W : World} {b bi bl : Nat} {s : St} (h : Own1 w0 b bi bl s W) : Good s := by
  obtain ⟨_, _, h, _⟩ := h
  exact h
theorem Own1.below {w0 W W1 : World} {b bi bl : Nat} {s : St} (h : Own1 w0 b bi bl s W) (hb : Below W.heap.size W W1) : Own1 w0 b bi bl s W1 := by
  obtain ⟨l, h1, h2, h3, h4⟩ := h
  exact ⟨l, h1.below hb, h2, h3, below_call h4 hb⟩
theorem Own1.step {w0 W W1 : World} {b bi bl : Nat} {s' : St} (h3 : ∀ i, Ft b bi bl i → w0.heap.size ≤ i) (h4 : Below w0.heap.size w0 W) (hg : Good s') (h : Ip b bi bl W s' W1) : Own1 w0 b bi bl s' W1 ∧ Chg (Ft b bi bl) W W1 := by
  obtain ⟨l, h1, h2⟩ := h
  exact ⟨⟨l, h1, hg, h3, h4.trans (below_chg h2 h3 h4.size)⟩, h2⟩
section
variable {w0 W : World} {b bi bl k : Nat} {s s' : St}
end
theorem ok_small {s : St} (hl : s.L.length ≤ 1000) (hp : ∀ x ∈ s.L, x.path.size ≤ 1000) (hd : ∀ x ∈ s.L, x.data.size ≤ 1000000000000000) (hr : s.rooms.length ≤ 1000) (hst : s.steps ≤ 1000) (hsm : s.stamps ≤ 1000) (ha : -1 ≤ s.armed ∧ s.armed ≤ 9223372036854775807) : Ok s := by
  have hw := whole_le (B := 1000000000000000) hd
  have hm : s.L.length * 1000000000000000 ≤ 1000000000000000000 := Nat.le_trans (Nat.mul_le_mul_right _ hl) (by decide)
  exact ⟨⟨by omega, fun x hx => by have := hp x hx; omega, by omega⟩, by omega, by omega, by omega, by omega⟩
end Go.Proofs.YthejpojmmokinaaGreatDoor.Dk

namespace Go.Proofs.YthejpojmmokinaaGreatDoor.Tb
open Go.RowKit Tx Pm Dk Wm Wr Wl Pl Pr
set_option linter.unusedVariables false
set_option linter.unusedSimpArgs false
set_option linter.unnecessarySimpa false
def Open1Ok (s : St) (p q : ByteArray) : Prop := (readS s p).1.size ≤ 500000000 ∧ ((base0 s p).2 = 0 → OpenOk s q ∧ ((openS s q).1 = 0 → RecOk (base0 s p).1 (openS s q).2.R))
def Open7Ok (s : St) (f p q : ByteArray) : Prop := Ok s ∧ ((opened s f).1 = 0 → Open1Ok (opened s f).2 p q) ∧ f.size ≤ 500 ∧ p.size ≤ 1000 ∧ q.size ≤ 1000
def Open7To (b : Nat) (p q : ByteArray) (w : World) (F : Nat → Prop) (r : Nat × Tst) (e : Ending) (w' : World) : Prop :=
  (r.1 = 0 ∧ ∃ t j m, e = .returned (.tuple #[.pointer (some ⟨t, 0, none⟩), .int .i64 0]) ∧ LeftA (Tn b j t m p q) w F r.2 w') ∨ (r.1 ≠ 0 ∧ e = .returned (.tuple #[.pointer none, .int .i64 (r.1 : Nat)]) ∧ Dk.Left (ImpAt b) w F r.2.j.s w')
theorem open_m {s s1 : St} {f p q : ByteArray} {k : Nat} (h : opened s f = (k, s1)) (hk : k ≠ 0) : open7 s f p q = (k, ⟨⟨s1, [], false⟩, []⟩) := by
  unfold open7; rw [h]; exact if_pos hk
theorem open_n {s s1 : St} {f p q : ByteArray} (h : opened s f = (0, s1)) : open7 s f p q = open1 s1 p q := by
  unfold open7; rw [h]; exact if_neg (fun hh => hh rfl)
theorem open1_b {s : St} {p q : ByteArray} {L : List It} {k : Nat} (h : base0 s p = (L, k)) (hk : k ≠ 0) : open1 s p q = (k, ⟨⟨s, [], false⟩, []⟩) := by
  unfold open1; rw [h]; exact if_pos hk
theorem open1_l {s : St} {p q : ByteArray} {L : List It} {k : Nat} {y : Jst} (h : base0 s p = (L, 0)) (h2 : openS s q = (k, y)) (hk : k ≠ 0) : open1 s p q = (k, ⟨y, []⟩) := by
  unfold open1; rw [h]; simp only [h2]; rw [if_neg (fun hh => hh rfl)]; exact if_pos hk
theorem open1_o {s : St} {p q : ByteArray} {L : List It} {y : Jst} (h : base0 s p = (L, 0)) (h2 : openS s q = (0, y)) : open1 s p q = (0, ⟨y, rows7 L y.R⟩) := by
  unfold open1; rw [h]; simp only [h2]; rw [if_neg (fun hh => hh rfl)]; exact if_neg (fun hh => hh rfl)
theorem base_rises (s : St) (p : ByteArray) : Rises (base0 s p).1 ∧ Plain (base0 s p).1 := by
  have h0 : Rises ([] : List It) := List.Pairwise.nil
  have h1 : Plain ([] : List It) := fun x hx => by cases hx
  by_cases hk : kind s.L p = 0
  · rw [base_0 hk]; exact ⟨h0, h1⟩
  · obtain ⟨d, e1, hrd⟩ : ∃ d e, readS s p = (d, e) := ⟨_, _, rfl⟩
    by_cases he1 : e1 = 0
    · subst he1
      obtain ⟨r, n, e2, hfr⟩ := Fm.trip (Fm.fr d)
      by_cases he2 : e2 = 0
      · subst he2
        by_cases hn : n < d.size
        · rw [base_3 hk hrd hfr hn]; exact ⟨h0, h1⟩
        · obtain ⟨l, e3, h3⟩ : ∃ l e, opsS r = (l, e) := ⟨_, _, rfl⟩
          by_cases he3 : e3 = 0
          · subst he3
            rw [base_5 hk hrd hfr hn h3]
            exact ⟨rises_all h0 l, plain_all h1 l⟩
          · rw [base_4 hk hrd hfr hn h3 he3]; exact ⟨h0, h1⟩
      · rw [base_2 hk hrd hfr he2]; exact ⟨h0, h1⟩
    · rw [base_1 hk hrd he1]; exact ⟨h0, h1⟩
def New2 (W : World) (b : Nat) (p : ByteArray) : World := (W.alloc (.map #[] 0)).alloc (.cells #[.pointer (some ⟨b, 0, none⟩), .string p, .pointer none, .map (some W.heap.size)] 91)
theorem new2 (W : World) (b : Nat) (p : ByteArray) : Below W.heap.size W (New2 W b p) ∧ (New2 W b p).heap[W.heap.size + 1]? = some (.cells #[.pointer (some ⟨b, 0, none⟩), .string p, .pointer none, .map (some W.heap.size)] 91 (0, 0)) ∧ Mo (New2 W b p) W.heap.size [] := by
  refine ⟨((Below.refl _ W).alloc (Nat.le_refl _) _).alloc (by simp) _, new_at _ _ (by simp), (mo_made W).kept (((Below.refl (W.alloc (.map #[] 0)).heap.size _).alloc (Nat.le_refl _) _).block _ (by simp))⟩
theorem imp_mkdir {b : Nat} {F : Nat → Prop} {s s' : St} {w : World} {k : Nat} (P : ByteArray) (h : ImpAt b w F s) (ok : Ok s) (hP : P.size ≤ 8000000000000) (hk : mkdirS s P = (k, s')) : Calls Tryz.prog 43 #[.pointer (some ⟨b, 0, none⟩), .string P] w (Dos (ImpAt b) w F k s') := by
  obtain ⟨bi, bl, l, hI, hg, hF⟩ := h
  have c := iMkdir_any b bi bl l _ P _ hI hg ok hP
  have hg' := good_mkdir (p := P) hg
  rw [hk] at c hg'
  exact c.mono fun e w' ht => does_of' (r := (k, s')) hg' hF ht
def At1 (b : Nat) (w : World) (F : Nat → Prop) (s1 : St) (W : World) : Prop := ∃ F1, ImpAt b W F1 s1 ∧ Chg F w W ∧ ∀ g, F1 g → F g ∨ w.heap.size ≤ g
theorem At1.below {b : Nat} {w W W2 : World} {F : Nat → Prop} {s1 : St} (h : At1 b w F s1 W) (hb : Below W.heap.size W W2) : At1 b w F s1 W2 := by
  obtain ⟨F1, h1, h2, h3⟩ := h
  exact ⟨F1, (imp_kind b).kept h1 (fun i hi => hb.block i ((imp_kind b).lt h1 i hi)), h2.then (Chg.of_below hb), h3⟩
theorem At1.left {b : Nat} {w W : World} {F : Nat → Prop} {s1 : St} (h : At1 b w F s1 W) : Dk.Left (ImpAt b) w F s1 W := h
theorem At1.based {b t m : Nat} {p : ByteArray} {w W W2 : World} {F : Nat → Prop} {s1 : St} (h : At1 b w F s1 W) (hm : W.heap.size ≤ m) (hc : Chg (· = m) (New2 W b p) W2) : At1 b w F s1 W2 := by
  have hb := (new2 W b p).1
  obtain ⟨F1, h1, h2, h3⟩ := h
  have hlt := (imp_kind b).lt h1
  have hs := hb.size
  have hs2 := h2.size
  exact ⟨F1, (imp_kind b).kept h1 (fun i hi => (hc.block i (by have := hlt i hi; have := (Chg.of_below (F := F) hb).size; omega) (fun e => by have := hlt i hi; omega)).trans (hb.block i (hlt i hi))), (h2.then (Chg.of_below hb)).trans hc (fun i hi => .inr (by omega)), h3⟩
theorem base_call {b : Nat} {w W : World} {F : Nat → Prop} {s1 : St} {p : ByteArray} (h : At1 b w F s1 W) (hp : p.size ≤ 1000) (hs : (readS s1 p).1.size ≤ 500000000) :
    Calls Tryz.prog 45 #[.pointer (some ⟨W.heap.size + 1, 0, none⟩)] (New2 W b p) fun e w' => e = .returned (.int .i64 ((base0 s1 p).2 : Nat)) ∧ Mo w' W.heap.size (based s1 p) ∧ Chg (· = W.heap.size) (New2 W b p) w' := by
  obtain ⟨n1, n2, n3⟩ := new2 W b p
  obtain ⟨F1, h1, h2, h3⟩ := h.below n1
  refine takeBase_any b (W.heap.size + 1) W.heap.size p _ ?_ ?_ ?_ n3 h1 hp hs
  all_goals unfold World.cell?; rw [n2]; rfl
theorem log_call {b : Nat} {w W W2 W3 : World} {F : Nat → Prop} {s1 : St} {L : List It} {p q : ByteArray} (h : At1 b w F s1 W) (hm : Mo W2 W.heap.size L) (hc : Chg (· = W.heap.size) (New2 W b p) W2) (hb : Below W2.heap.size W2 W3) (hL : Rises L ∧ Plain L) (o : OpenOk s1 q) (hq : q.size ≤ 1000) (hrec : (openS s1 q).1 = 0 → RecOk L (openS s1 q).2.R) :
    Calls Tryz.prog 46 #[.pointer (some ⟨W.heap.size + 1, 0, none⟩), .string q] W3 fun e w' =>
      ((openS s1 q).1 = 0 ∧ e = .returned (.int .i64 0) ∧ ∃ j, LeftA (Tn b j (W.heap.size + 1) W.heap.size p q) w F ⟨(openS s1 q).2, rows7 L (openS s1 q).2.R⟩ w') ∨ ((openS s1 q).1 ≠ 0 ∧ e = .returned (.int .i64 ((openS s1 q).1 : Nat)) ∧ Dk.Left (ImpAt b) w F (openS s1 q).2.s w') := by
  obtain ⟨n1, n2, n3⟩ := new2 W b p
  obtain ⟨F1, h1, h2, h3⟩ := h
  have hlt := (imp_kind b).lt h1
  have hsN : (New2 W b p).heap.size = W.heap.size + 1 + 1 := by unfold New2; simp
  have hsz := hc.size
  have hs0 := h2.size
  have hA := (At1.based (t := W.heap.size + 1) (m := W.heap.size) (p := p) ⟨F1, h1, h2, h3⟩ (Nat.le_refl _) hc).below hb
  have h1' : ImpAt b W3 F1 s1 := (imp_kind b).kept h1 (fun i hi => (hb.block i (by have := hlt i hi; omega)).trans ((hc.block i (by have := hlt i hi; omega) (fun e => by have := hlt i hi; omega)).trans (n1.block i (hlt i hi))))
  have hblk : W3.heap[W.heap.size + 1]? = _ := (hb.block _ (by omega)).trans ((hc.block _ (by omega) (by omega)).trans n2)
  have hm3 := hm.below hb
  have hch : Chg F w W3 := ((h2.then (Chg.of_below n1)).trans hc (fun i hi => .inr (by omega))).then (Chg.of_below hb)
  refine (takeLog_any b (W.heap.size + 1) W.heap.size p q W3 hblk hm3 h1' ⟨fun hh => by have := hlt _ hh; omega, fun hh => by have := hlt _ hh; omega⟩ hL.1 hL.2 o hq hrec).mono ?_
  intro e w' hh
  rcases hh with ⟨e0, he, j, hl⟩ | ⟨e0, he, hl⟩
  · exact .inl ⟨e0, he, j, left_trans7 hch (F1 := fun i => F1 i ∨ i = W.heap.size + 1 ∨ i = W.heap.size) (fun g hg => by
      rcases hg with hg | rfl | rfl
      · exact h3 g hg
      · exact .inr (by omega)
      · exact .inr hs0) hl⟩
  · exact .inr ⟨e0, he, Wl.left_trans hch h3 hl⟩
set_option maxRecDepth 100000 in
set_option maxHeartbeats 4000000 in
theorem open_any (b : Nat) {F : Nat → Prop} {s : St} (f p q : ByteArray) (w : World) (h : ImpAt b w F s) (hp : tb (joi f.data.toList [98, 97, 115, 101]) = p) (hq : tb (joi f.data.toList [108, 111, 103]) = q) (o : Open7Ok s f p q) :
    Calls Tryz.prog 25 #[.pointer (some ⟨b, 0, none⟩), .string f] w (Open7To b p q w F (open7 s f p q)) := by
  obtain ⟨o1, o2, o3, o4, o5⟩ := o
  have ck := iw_kind f h (by omega)
  have cjp := fun W => pJoin_any f ⟨#[98, 97, 115, 101]⟩ W (by show f.size + 4 ≤ _; omega)
  have cjq := fun W => pJoin_any f ⟨#[108, 111, 103]⟩ W (by show f.size + 3 ≤ _; omega)
  have hmm := @run_makeMap Tryz.prog
  rw [show (⟨#[98, 97, 115, 101]⟩ : ByteArray).data.toList = [98, 97, 115, 101] from rfl, hp] at cjp
  rw [show (⟨#[108, 111, 103]⟩ : ByteArray).data.toList = [108, 111, 103] from rfl, hq] at cjq
  obtain ⟨k1, s1, hop⟩ : ∃ k s1, opened s f = (k, s1) := ⟨_, _, rfl⟩
  unfold Open7To
  by_cases hk : kind s.L f = 0
  · have hmk : mkdirS s f = (k1, s1) := by unfold opened at hop; rwa [if_pos hk] at hop
    have cm := fun W (hW : w = W) => imp_mkdir f (hW ▸ h) o1 (by omega) hmk
    rw [hk] at ck
    by_cases hk1 : k1 ≠ 0
    · rw [open_m hop hk1]
      have nk := neZ hk1
      have HK := Lib.hid hk1
      clear h hp hq o1 o2 o3 o4 o5 hk hk1 hop hmk cjp cjq hmm
      go_enter Tryz.func25, Tryz.ntmps25
      go_wp2_with fail
      go_at_call 42
      refine ck.mono ?_
      rintro e w1 ⟨rfl, rfl⟩
      go_wp2_with fail
      go_at_call 43
      refine (cm _ rfl).mono ?_
      rintro e w2 ⟨rfl, h2⟩
      go_wp2_with fail
      go_ret2
      exact .inr ⟨HK.out, rfl, h2⟩
    · obtain rfl : k1 = 0 := by omega
      rw [hop] at o2
      obtain ⟨q1, q2⟩ := o2 rfl
      simp only at q1 q2
      rw [open_n hop]
      clear h hp hq o1 o2 hk hk1 hop hmk
      obtain ⟨L, kb, hbase⟩ : ∃ L k, base0 s1 p = (L, k) := ⟨_, _, rfl⟩
      have hrp := base_rises s1 p
      rw [hbase] at q2 hrp
      simp only at q2 hrp
      by_cases hkb : kb = 0
      · subst hkb
        obtain ⟨q3, q4⟩ := q2 rfl
        have hbd : based s1 p = L := by unfold based; rw [hbase]; rfl
        have HBA := Lib.hid hbase
        have HBD := Lib.hid hbd
        have HRP := Lib.hid hrp
        have HQ3 := Lib.hid q3
        have HQ4 := Lib.hid q4
        clear hbase hbd hrp q2 q3 q4
        go_enter Tryz.func25, Tryz.ntmps25
        go_wp2_with fail
        go_at_call 42
        refine ck.mono ?_
        rintro e w1 ⟨rfl, rfl⟩
        go_wp2_with fail
        go_at_call 43
        refine (cm _ rfl).mono ?_
        rintro e w2 ⟨rfl, h2⟩
        have hA2 : At1 b w F s1 w2 := h2
        go_wp2_with fail
        go_at_call 44
        refine (cjp _).mono ?_
        rintro e w3 ⟨rfl, hb3⟩
        have hA3 := hA2.below hb3
        have cb := base_call hA3 o4 q1
        rw [HBA.out, HBD.out] at cb
        unfold New2 at cb
        go_wp2_with fail
        go_at_call 45
        refine cb.mono ?_
        rintro e w5 ⟨rfl, hm5, hc5⟩
        have HC5 := Lib.hid (show Chg (· = w3.heap.size) (New2 w3 b p) w5 from hc5)
        have HM5 := Lib.hid hm5
        have HA3 := Lib.hid hA3
        clear hm5 hc5 hA3 cb
        go_wp2_with fail
        go_at_call 44
        refine (cjq _).mono ?_
        rintro e w6 ⟨rfl, hb6⟩
        have cl := log_call HA3.out HM5.out HC5.out hb6 HRP.out HQ3.out o5 HQ4.out
        clear hb6
        obtain ⟨kl, y, hol⟩ : ∃ k y, openS s1 q = (k, y) := ⟨_, _, rfl⟩
        rw [hol] at cl
        simp only at cl
        by_cases hkl : kl = 0
        · subst hkl
          have cl2 := cl.mono (R' := fun e w' => e = .returned (.int .i64 0) ∧ ∃ j, LeftA (Tn b j (w3.heap.size + 1) w3.heap.size p q) w F ⟨y, rows7 L y.R⟩ w') (fun e w' hh => by
            rcases hh with ⟨_, he, hl⟩ | ⟨h0, _⟩
            · exact ⟨he, hl⟩
            · exact absurd rfl h0)
          have HO := Lib.hid (open1_o HBA.out hol)
          clear cl hol
          go_wp2_with fail
          go_at_call 46
          refine cl2.mono ?_
          rintro e w7 ⟨rfl, j, h7⟩
          go_wp2_with fail
          go_ret2
          rw [HO.out]
          exact .inl ⟨rfl, _, _, _, rfl, h7⟩
        · have cl2 := cl.mono (R' := fun e w' => e = .returned (.int .i64 (kl : Nat)) ∧ Dk.Left (ImpAt b) w F y.s w') (fun e w' hh => by
            rcases hh with ⟨h0, _⟩ | ⟨_, he, hl⟩
            · exact absurd h0 hkl
            · exact ⟨he, hl⟩)
          have HO := Lib.hid (open1_l HBA.out hol hkl)
          have nl := neZ hkl
          have HKL := Lib.hid hkl
          clear cl hol hkl
          go_wp2_with fail
          go_at_call 46
          refine cl2.mono ?_
          rintro e w7 ⟨rfl, h7⟩
          go_wp2_with fail
          go_ret2
          rw [HO.out]
          exact .inr ⟨HKL.out, rfl, h7⟩
      · have HO := Lib.hid (open1_b (q := q) hbase hkb)
        have nb := neZ hkb
        have HKB := Lib.hid hkb
        have HBA := Lib.hid hbase
        clear hbase hrp q2 hkb
        go_enter Tryz.func25, Tryz.ntmps25
        go_wp2_with fail
        go_at_call 42
        refine ck.mono ?_
        rintro e w1 ⟨rfl, rfl⟩
        go_wp2_with fail
        go_at_call 43
        refine (cm _ rfl).mono ?_
        rintro e w2 ⟨rfl, h2⟩
        have hA2 : At1 b w F s1 w2 := h2
        go_wp2_with fail
        go_at_call 44
        refine (cjp _).mono ?_
        rintro e w3 ⟨rfl, hb3⟩
        have hA3 := hA2.below hb3
        have cb := base_call hA3 o4 q1
        rw [HBA.out] at cb
        unfold New2 at cb
        go_wp2_with fail
        go_at_call 45
        refine cb.mono ?_
        rintro e w5 ⟨rfl, hm5, hc5⟩
        have HE := Lib.hid (At1.based (t := w3.heap.size + 1) hA3 (Nat.le_refl _) (show Chg (· = w3.heap.size) (New2 w3 b p) w5 from hc5))
        clear hm5 hc5 hA3 cb
        go_wp2_with fail
        go_ret2
        rw [HO.out]
        exact .inr ⟨HKB.out, rfl, HE.out⟩
  · have hk1 : k1 = 0 ∧ s1 = s := by
      unfold opened at hop
      rw [if_neg hk] at hop
      simp only [Prod.mk.injEq] at hop
      exact ⟨hop.1.symm, hop.2.symm⟩
    obtain ⟨rfl, rfl⟩ := hk1
    rw [hop] at o2
    obtain ⟨q1, q2⟩ := o2 rfl
    simp only at q1 q2
    rw [open_n hop]
    have nk := neZ hk
    have hA : At1 b w F s1 w := ⟨F, h, Chg.refl _ _, fun g hg => .inl hg⟩
    have HA := Lib.hid (fun W (hW : w = W) => (hW ▸ hA : At1 b w F s1 W))
    generalize kind s1.L f = K at ck nk
    clear h hp hq o1 o2 hk hop hA
    obtain ⟨L, kb, hbase⟩ : ∃ L k, base0 s1 p = (L, k) := ⟨_, _, rfl⟩
    have hrp := base_rises s1 p
    rw [hbase] at q2 hrp
    simp only at q2 hrp
    by_cases hkb : kb = 0
    · subst hkb
      obtain ⟨q3, q4⟩ := q2 rfl
      have hbd : based s1 p = L := by unfold based; rw [hbase]; rfl
      have HBA := Lib.hid hbase
      have HBD := Lib.hid hbd
      have HRP := Lib.hid hrp
      have HQ3 := Lib.hid q3
      have HQ4 := Lib.hid q4
      clear hbase hbd hrp q2 q3 q4
      go_enter Tryz.func25, Tryz.ntmps25
      go_wp2_with fail
      go_at_call 42
      refine ck.mono ?_
      rintro e w1 ⟨rfl, rfl⟩
      have hA2 := HA.out _ rfl
      go_wp2_with fail
      go_at_call 44
      refine (cjp _).mono ?_
      rintro e w3 ⟨rfl, hb3⟩
      have hA3 := hA2.below hb3
      have cb := base_call hA3 o4 q1
      rw [HBA.out, HBD.out] at cb
      unfold New2 at cb
      go_wp2_with fail
      go_at_call 45
      refine cb.mono ?_
      rintro e w5 ⟨rfl, hm5, hc5⟩
      have HC5 := Lib.hid (show Chg (· = w3.heap.size) (New2 w3 b p) w5 from hc5)
      have HM5 := Lib.hid hm5
      have HA3 := Lib.hid hA3
      clear hm5 hc5 hA3 cb
      go_wp2_with fail
      go_at_call 44
      refine (cjq _).mono ?_
      rintro e w6 ⟨rfl, hb6⟩
      have cl := log_call HA3.out HM5.out HC5.out hb6 HRP.out HQ3.out o5 HQ4.out
      clear hb6
      obtain ⟨kl, y, hol⟩ : ∃ k y, openS s1 q = (k, y) := ⟨_, _, rfl⟩
      rw [hol] at cl
      simp only at cl
      by_cases hkl : kl = 0
      · subst hkl
        have cl2 := cl.mono (R' := fun e w' => e = .returned (.int .i64 0) ∧ ∃ j, LeftA (Tn b j (w3.heap.size + 1) w3.heap.size p q) w F ⟨y, rows7 L y.R⟩ w') (fun e w' hh => by
          rcases hh with ⟨_, he, hl⟩ | ⟨h0, _⟩
          · exact ⟨he, hl⟩
          · exact absurd rfl h0)
        have HO := Lib.hid (open1_o HBA.out hol)
        clear cl hol
        go_wp2_with fail
        go_at_call 46
        refine cl2.mono ?_
        rintro e w7 ⟨rfl, j, h7⟩
        go_wp2_with fail
        go_ret2
        rw [HO.out]
        exact .inl ⟨rfl, _, _, _, rfl, h7⟩
      · have cl2 := cl.mono (R' := fun e w' => e = .returned (.int .i64 (kl : Nat)) ∧ Dk.Left (ImpAt b) w F y.s w') (fun e w' hh => by
          rcases hh with ⟨h0, _⟩ | ⟨_, he, hl⟩
          · exact absurd h0 hkl
          · exact ⟨he, hl⟩)
        have HO := Lib.hid (open1_l HBA.out hol hkl)
        have nl := neZ hkl
        have HKL := Lib.hid hkl
        clear cl hol hkl
        go_wp2_with fail
        go_at_call 46
        refine cl2.mono ?_
        rintro e w7 ⟨rfl, h7⟩
        go_wp2_with fail
        go_ret2
        rw [HO.out]
        exact .inr ⟨HKL.out, rfl, h7⟩
    · have HO := Lib.hid (open1_b (q := q) hbase hkb)
      have nb := neZ hkb
      have HKB := Lib.hid hkb
      have HBA := Lib.hid hbase
      clear hbase hrp q2 hkb
      go_enter Tryz.func25, Tryz.ntmps25
      go_wp2_with fail
      go_at_call 42
      refine ck.mono ?_
      rintro e w1 ⟨rfl, rfl⟩
      have hA2 := HA.out _ rfl
      go_wp2_with fail
      go_at_call 44
      refine (cjp _).mono ?_
      rintro e w3 ⟨rfl, hb3⟩
      have hA3 := hA2.below hb3
      have cb := base_call hA3 o4 q1
      rw [HBA.out] at cb
      unfold New2 at cb
      go_wp2_with fail
      go_at_call 45
      refine cb.mono ?_
      rintro e w5 ⟨rfl, hm5, hc5⟩
      have HE := Lib.hid (At1.based (t := w3.heap.size + 1) hA3 (Nat.le_refl _) (show Chg (· = w3.heap.size) (New2 w3 b p) w5 from hc5))
      clear hm5 hc5 hA3 cb
      go_wp2_with fail
      go_ret2
      rw [HO.out]
      exact .inr ⟨HKB.out, rfl, HE.out⟩
end Go.Proofs.YthejpojmmokinaaGreatDoor.Tb

namespace Go.Proofs.YthejpojmmokinaaGreatDoor.Wl
open Go.RowKit Tx Pm Pl Pr Dk Fr
set_option linter.unusedVariables false
def Own {α : Type} (Obj : World → (Nat → Prop) → α → Prop) (w0 : World) (x : α) (W : World) : Prop := ∃ F, Obj W F x ∧ (∀ i, F i → w0.heap.size ≤ i) ∧ Below w0.heap.size w0 W
section
variable {α β : Type} {Obj : World → (Nat → Prop) → α → Prop} {Obj' : World → (Nat → Prop) → β → Prop} {w0 W : World} {x : α} {y : β}
theorem Own.bel (h : Own Obj w0 x W) : Below w0.heap.size w0 W := by
  obtain ⟨_, _, _, h⟩ := h
  exact h
theorem own_left {F : Nat → Prop} {w' : World} (h1 : ∀ i, F i → w0.heap.size ≤ i) (h2 : Below w0.heap.size w0 W) (h : LeftA Obj' W F y w') : Own Obj' w0 y w' := by
  obtain ⟨F', h3, h4, h5⟩ := h
  have hs := h2.size
  exact ⟨F', h3, fun i hi => (h5 i hi).elim (fun hh => h1 i hh) (fun hh => by omega), h2.trans ⟨h4.os, h4.tape, h4.output, h4.size, fun i hi => h4.block i (Nat.lt_of_lt_of_le hi hs) (fun hf => by have := h1 i hf; omega)⟩⟩
theorem Own.call {f : FuncId} {args : Array Value} {P : Ending → Prop} (h : Own Obj w0 x W) (hc : ∀ F, Obj W F x → Calls Tryz.prog f args W fun e w' => P e ∧ LeftA Obj' W F y w') : Calls Tryz.prog f args W fun e w' => P e ∧ Own Obj' w0 y w' := by
  obtain ⟨F, h1, h2, h3⟩ := h
  exact (hc F h1).mono fun e w' hh => ⟨hh.1, own_left h2 h3 hh.2⟩
theorem Own.kept (hk : ∀ {w w1 : World} {F : Nat → Prop} {x : α}, Obj w F x → Below w.heap.size w w1 → Obj w1 F x) {w' : World} (h : Own Obj w0 x W) (hb : Below W.heap.size W w') : Own Obj w0 x w' := by
  obtain ⟨F, h1, h2, h3⟩ := h
  exact ⟨F, hk h1 hb, h2, below_call h3 hb⟩
end
abbrev Jb (b j : Nat) : World → (Nat → Prop) → Jst → Prop := Jn (ImpAt b) 115 b j pL
section
variable {w0 W : World} {b j k : Nat} {s s' : St} {x y : Jst}
theorem Own.disk (h : Own (Jb b j) w0 x W) : Own (ImpAt b) w0 x.s W := by
  obtain ⟨F, ⟨v, Fd, h1⟩, h2, h3⟩ := h
  exact ⟨Fd, h1.dsk, fun i hi => h2 i ((h1.foot i).2 (.inl hi)), h3⟩
theorem w_new (w0 : World) {W : World} (hb : Below w0.heap.size w0 W) : Calls Tryz.prog 24 #[] W fun e w' => ∃ b, e = .returned (.pointer (some ⟨b, 0, none⟩)) ∧ Own (ImpAt b) w0 newS w' :=
  (iNew_any W).mono fun e w' ⟨b, bi, bl, he, hI, hF, hb1⟩ => ⟨b, he, Ft b bi bl, ⟨bi, bl, -1, hI, good_new, fun _ => Iff.rfl⟩, fun i hi => Nat.le_trans hb.size (hF i hi), below_call hb hb1⟩
end
theorem ok_new : Ok newS := ok_small (by decide) (by decide) (by decide) (by decide) (by decide) (by decide) (by decide)
end Go.Proofs.YthejpojmmokinaaGreatDoor.Wl

namespace Go.Proofs.YthejpojmmokinaaGreatDoor.Wl
open Go.RowKit Tx Pm Pl Pr Dk
set_option linter.unusedVariables false
end Go.Proofs.YthejpojmmokinaaGreatDoor.Wl

namespace Go.Proofs.YthejpojmmokinaaGreatDoor.Wl
open Go.RowKit Tx Pm Pl Pr Dk Fr
set_option linter.unusedVariables false
structure Stop (l : List ByteArray) (n k : Nat) (loss : Int) (s : St) : Prop where
  sound : SoundW s
  fit : s.L.length ≤ 1000000000 ∧ ∀ x ∈ s.L, x.path.size ≤ 8000000000000
  back : ∃ (c : ByteArray) (sn st sm : Nat), restartS s loss = J c sn st sm (-1) ∧ OpenOk (J c sn st sm (-1)) pL ∧ ∃ (R : List ByteArray) (sn' st' sm' : Nat), (R = l.take k ∨ (k < n ∧ R = l.take (k + 1))) ∧ openS (J c sn st sm (-1)) pL = (0, ⟨J (PK R) sn' st' sm' (-1), R, false⟩) ∧ st' ≤ 1000 ∧ sm' ≤ 1000
end Go.Proofs.YthejpojmmokinaaGreatDoor.Wl

namespace Go.Proofs.YthejpojmmokinaaGreatDoor.Tb
open Go.RowKit Tx Pm Dk Wm Wr Wl
set_option linter.unusedVariables false
set_option linter.unusedSimpArgs false
set_option linter.unnecessarySimpa false
def pS : ByteArray := ⟨#[115, 121, 115]⟩
def pB : ByteArray := ⟨#[115, 121, 115, 47, 98, 97, 115, 101]⟩
def pBT : ByteArray := ⟨#[115, 121, 115, 47, 98, 97, 115, 101, 95, 116]⟩
def pG : ByteArray := ⟨#[115, 121, 115, 47, 108, 111, 103]⟩
def pGT : ByteArray := ⟨#[115, 121, 115, 47, 108, 111, 103, 95, 116]⟩
theorem pG_tT : pG ++ tT = pGT := by decide +kernel
def dirS : It := ⟨pS, true, ⟨#[]⟩, ⟨#[]⟩, false, false, 0⟩
structure Fi where
  data : ByteArray
  kept : ByteArray
  loose : Bool
  anew : Bool
  stamp : Nat
def sy (d : ByteArray) (n : Nat) : Fi := ⟨d, d, false, false, n⟩
def oit (p : ByteArray) : Option Fi → List It
  | none => []
  | some f => [⟨p, false, f.data, f.kept, f.loose, f.anew, f.stamp⟩]
def keptOf : Option Fi → ByteArray
  | none => ⟨#[]⟩
  | some f => f.kept
def T7 (B BT G GT : Option Fi) (st sm : Nat) (a : Int) (dn : Bool) : St := ⟨dirS :: (oit pB B ++ (oit pBT BT ++ (oit pG G ++ oit pGT GT))), [], st, sm, a, dn⟩
section
variable {B BT G GT : Option Fi} {g f : Fi} {d : ByteArray} {st sm : Nat} {a : Int} {dn : Bool}
theorem k_sys : kind (T7 B BT G GT st sm a dn).L pS = 1 := by cases B <;> cases BT <;> cases G <;> cases GT <;> kernel_rfl
theorem k_base0 : kind (T7 none BT G GT st sm a dn).L pB = 0 := by cases BT <;> cases G <;> cases GT <;> kernel_rfl
theorem k_base : kind (T7 (some f) BT G GT st sm a dn).L pB = 2 := by cases BT <;> cases G <;> cases GT <;> kernel_rfl
theorem k_log0 : kind (T7 B BT none GT st sm a dn).L pG = 0 := by cases B <;> cases BT <;> cases GT <;> kernel_rfl
theorem k_log : kind (T7 B BT (some g) GT st sm a dn).L pG = 2 := by cases B <;> cases BT <;> cases GT <;> kernel_rfl
theorem r_base : readS (T7 (some f) BT G GT st sm a false) pB = (f.data, 0) := by cases BT <;> cases G <;> cases GT <;> kernel_rfl
theorem r_base0 : readS (T7 none BT G GT st sm a false) pB = (⟨#[]⟩, 11) := by cases BT <;> cases G <;> cases GT <;> kernel_rfl
theorem r_log : readS (T7 B BT (some g) GT st sm a false) pG = (g.data, 0) := by cases B <;> cases BT <;> cases GT <;> kernel_rfl
theorem o_log : (old (T7 B BT (some g) GT st sm a dn).L pG).data = g.data := by cases B <;> cases BT <;> cases GT <;> kernel_rfl
theorem t_append (ha : a ≠ 0) : appendS (T7 B BT (some g) GT st sm a false) pG d = (0, T7 B BT (some ⟨g.data ++ d, g.kept, true, g.anew, sm + 1⟩) GT (st + 1) (sm + 1) (dec a) false) := by
  unfold appendS
  rw [fits_none rfl]
  unfold T7
  rw [done_open ha]
  cases B <;> cases BT <;> cases GT <;> kernel_rfl
theorem t_append0 : appendS (T7 B BT (some g) GT st sm 0 false) pG d = (14, T7 B BT (some g) GT st sm (-1) true) := by
  unfold appendS
  rw [fits_none rfl]
  cases B <;> cases BT <;> cases GT <;> kernel_rfl
theorem t_sync (ha : a ≠ 0) : syncS (T7 B BT (some g) GT st sm a false) pG = (0, T7 B BT (some ⟨g.data, g.data, false, false, g.stamp⟩) GT (st + 1) sm (dec a) false) := by
  unfold syncS T7
  rw [done_open ha]
  cases B <;> cases BT <;> cases GT <;> kernel_rfl
theorem t_sync0 : syncS (T7 B BT (some g) GT st sm 0 false) pG = (14, T7 B BT (some g) GT st sm (-1) true) := by
  unfold syncS
  cases B <;> cases BT <;> cases GT <;> kernel_rfl
theorem g_write (ha : a ≠ 0) : writeS (T7 B BT G GT st sm a false) pGT d = (0, T7 B BT G (some ⟨d, keptOf GT, true, true, sm + 1⟩) (st + 1) (sm + 1) (dec a) false) := by
  unfold writeS
  rw [fits_none rfl]
  unfold T7
  rw [done_open ha]
  cases B <;> cases BT <;> cases G <;> cases GT <;> kernel_rfl
theorem g_write0 : writeS (T7 B BT G GT st sm 0 false) pGT d = (14, T7 B BT G GT st sm (-1) true) := by
  unfold writeS
  rw [fits_none rfl]
  cases B <;> cases BT <;> cases G <;> cases GT <;> kernel_rfl
theorem g_sync (ha : a ≠ 0) : syncS (T7 B BT G (some f) st sm a false) pGT = (0, T7 B BT G (some ⟨f.data, f.data, false, false, f.stamp⟩) (st + 1) sm (dec a) false) := by
  unfold syncS T7
  rw [done_open ha]
  cases B <;> cases BT <;> cases G <;> kernel_rfl
theorem g_sync0 : syncS (T7 B BT G (some f) st sm 0 false) pGT = (14, T7 B BT G (some f) st sm (-1) true) := by
  unfold syncS
  cases B <;> cases BT <;> cases G <;> kernel_rfl
theorem g_rename (ha : a ≠ 0) : renameS (T7 B BT G (some f) st sm a false) pGT pG = (0, T7 B BT (some ⟨f.data, f.kept, f.loose, f.anew, sm + 1⟩) none (st + 1) (sm + 1) (dec a) false) := by
  unfold renameS
  rw [fits_none rfl]
  unfold T7
  rw [done_open ha]
  cases B <;> cases BT <;> cases G <;> kernel_rfl
theorem n_mkdir : mkdirS newS pS = (0, T7 none none none none 1 0 (-1) false) := by kernel_rfl
end
end Go.Proofs.YthejpojmmokinaaGreatDoor.Tb

namespace Go.Proofs.YthejpojmmokinaaGreatDoor.Tb
open Go.RowKit Tx Pm Dk Wm Wr Wl
set_option linter.unusedVariables false
set_option linter.unusedSimpArgs false
set_option linter.unnecessarySimpa false
def Fok (f : Fi) : Prop := f.data.size ≤ 20000000000 ∧ f.kept.size ≤ 20000000000 ∧ (f.anew = false → f.kept.size ≤ f.data.size) ∧ (f.loose = false → f.kept = f.data ∧ f.anew = false)
def Ook (o : Option Fi) : Prop := ∀ f, o = some f → Fok f
theorem ook_none : Ook none := fun f h => by cases h
theorem ook_sy {d : ByteArray} {n : Nat} (h : d.size ≤ 20000000000) : Ook (some (sy d n)) := fun f hf => by
  injection hf with hf
  subst hf
  exact ⟨h, h, fun _ => Nat.le_refl _, fun _ => ⟨rfl, rfl⟩⟩
theorem ook_raw {d k : ByteArray} {n : Nat} (h : d.size ≤ 20000000000) (hk : k.size ≤ 20000000000) : Ook (some ⟨d, k, true, true, n⟩) := fun f hf => by
  injection hf with hf
  subst hf
  exact ⟨h, hk, fun e => (by cases e), fun e => (by cases e)⟩
theorem ook_app {d k : ByteArray} {n : Nat} (h : d.size ≤ 20000000000) (hk : k.size ≤ d.size) : Ook (some ⟨d, k, true, false, n⟩) := fun f hf => by
  injection hf with hf
  subst hf
  exact ⟨h, by show k.size ≤ _; omega, fun _ => hk, fun e => (by cases e)⟩
theorem kept_ook {o : Option Fi} (h : Ook o) : (keptOf o).size ≤ 20000000000 := by
  cases o with
  | none => exact Nat.zero_le _
  | some f => exact (h f rfl).2.1
def Rng (a : Int) : Prop := -1 ≤ a ∧ a ≤ 9223372036854775807
theorem rng_dec {a : Int} (h : Rng a) : Rng (dec a) := dec_in h
theorem rng_m1 : Rng (-1) := ⟨by decide, by decide⟩
structure Sz (B BT G GT : Option Fi) (st sm : Nat) : Prop where
  b : Ook B
  bt : Ook BT
  g : Ook G
  gt : Ook GT
  st : st ≤ 1000000
  sm : sm ≤ 1000000
theorem oit_len (p : ByteArray) (o : Option Fi) : (oit p o).length ≤ 1 := by cases o <;> simp [oit]
theorem oit_mem {p : ByteArray} {o : Option Fi} {x : It} (h : x ∈ oit p o) : x.path = p ∧ ∃ f, o = some f ∧ x = ⟨p, false, f.data, f.kept, f.loose, f.anew, f.stamp⟩ := by
  cases o with
  | none => cases h
  | some f =>
    have h := List.mem_singleton.1 h
    exact ⟨by rw [h], f, rfl, h⟩
section
variable {B BT G GT : Option Fi} {g f : Fi} {d : ByteArray} {st sm : Nat} {a : Int} {dn : Bool}
theorem t7_mem {x : It} (h : Sz B BT G GT st sm) (hx : x ∈ (T7 B BT G GT st sm a dn).L) : x.path.size ≤ 1000 ∧ x.data.size ≤ 20000000000 ∧ x.kept.size ≤ 20000000000 ∧ (x.anew = false → x.kept.size ≤ x.data.size) := by
  unfold T7 at hx
  rcases List.mem_cons.1 hx with rfl | hx
  · exact ⟨by decide, by decide, by decide, fun _ => Nat.le_refl _⟩
  · have one : ∀ {p : ByteArray} {o : Option Fi}, p.size ≤ 1000 → Ook o → x ∈ oit p o → x.path.size ≤ 1000 ∧ x.data.size ≤ 20000000000 ∧ x.kept.size ≤ 20000000000 ∧ (x.anew = false → x.kept.size ≤ x.data.size) := fun hp ho hx => by
      obtain ⟨_, f, hf, rfl⟩ := oit_mem hx
      obtain ⟨a1, a2, a3, _⟩ := ho f hf
      exact ⟨hp, a1, a2, a3⟩
    rcases List.mem_append.1 hx with hx | hx
    · exact one (by decide) h.b hx
    · rcases List.mem_append.1 hx with hx | hx
      · exact one (by decide) h.bt hx
      · rcases List.mem_append.1 hx with hx | hx
        · exact one (by decide) h.g hx
        · exact one (by decide) h.gt hx
theorem t7_len : (T7 B BT G GT st sm a dn).L.length ≤ 5 := by
  unfold T7
  have h1 := oit_len pB B
  have h2 := oit_len pBT BT
  have h3 := oit_len pG G
  have h4 := oit_len pGT GT
  simp only [List.length_cons, List.length_append]
  omega
theorem whole_le : ∀ {l : List It} {N : Nat}, (∀ x ∈ l, x.data.size ≤ N) → whole l ≤ l.length * N
  | [], _, _ => Nat.zero_le _
  | x :: l, N, h => by
    have h1 := h x List.mem_cons_self
    have h2 := whole_le (l := l) (fun y hy => h y (List.mem_cons_of_mem _ hy))
    unfold whole at h2 ⊢
    rw [List.map_cons, List.sum_cons, List.length_cons, Nat.succ_mul]
    omega
theorem t7_ok (h : Sz B BT G GT st sm) (ha : Rng a) : Ok (T7 B BT G GT st sm a dn) := by
  have hl := t7_len (B := B) (BT := BT) (G := G) (GT := GT) (st := st) (sm := sm) (a := a) (dn := dn)
  have hw := whole_le (l := (T7 B BT G GT st sm a dn).L) (N := 20000000000) (fun x hx => (t7_mem h hx).2.1)
  have hst := h.st
  have hsm := h.sm
  obtain ⟨a1, a2⟩ := ha
  refine ⟨⟨by omega, fun x hx => by have := (t7_mem h hx).1; omega, ?_⟩, by show 0 ≤ _; omega, by show st ≤ _; omega, by show sm ≤ _; omega, by show _ ≤ a ∧ a ≤ _; omega⟩
  have := Nat.mul_le_mul_right 20000000000 hl
  omega
end
section
variable {B BT G GT : Option Fi} {d : ByteArray} {st sm : Nat} {a : Int}
theorem dec_m1 {a : Int} (h : a = -1) : dec a = -1 := by subst h; rfl
theorem fillokG (h : Sz B BT G GT st sm) (hd : d.size ≤ 20000000000) (ha : Rng a) (hst : st ≤ 900000) (hsm : sm ≤ 900000) : FillOk (T7 B BT G GT st sm a false) pG d := by
  have hk := kept_ook h.gt
  refine ⟨t7_ok h ha, ?_, ?_⟩
  · rw [pG_tT]
    by_cases h1 : a = 0
    · subst h1; rw [g_write0]; exact t7_ok h rng_m1
    · rw [g_write h1]; exact t7_ok ⟨h.b, h.bt, h.g, ook_raw hd hk, by omega, by omega⟩ (rng_dec ha)
  · rw [pG_tT]
    by_cases h1 : a = 0
    · subst h1
      rw [g_write0]
      have e : syncS (T7 B BT G GT st sm (-1) true) pGT = (14, T7 B BT G GT st sm (-1) true) := by
        unfold syncS
        cases B <;> cases BT <;> cases G <;> cases GT <;> kernel_rfl
      show Ok (syncS (T7 B BT G GT st sm (-1) true) pGT).2
      rw [e]
      exact t7_ok h rng_m1
    · rw [g_write h1]
      show Ok (syncS (T7 B BT G (some ⟨d, keptOf GT, true, true, sm + 1⟩) (st + 1) (sm + 1) (dec a) false) pGT).2
      by_cases h2 : dec a = 0
      · rw [h2, g_sync0]; exact t7_ok ⟨h.b, h.bt, h.g, ook_raw hd hk, by omega, by omega⟩ rng_m1
      · rw [g_sync h2]; exact t7_ok ⟨h.b, h.bt, h.g, ook_sy (n := sm + 1) hd, by omega, by omega⟩ (rng_dec (rng_dec ha))
end
theorem add7 {B BT GT : Option Fi} {c r : ByteArray} {n st sm : Nat} {a : Int} {R : List ByteArray} {dm : Bool} (ha : Rng a) : ∃ k x', addS ⟨T7 B BT (some (sy c n)) GT st sm a false, R, dm⟩ pG r = (k, x') ∧
    ((k = 0 ∧ ∃ a', x' = ⟨T7 B BT (some (sy (c ++ Fm.pk r) (sm + 1))) GT (st + 2) (sm + 1) a' false, R ++ [r], dm⟩ ∧ Rng a' ∧ (a = -1 → a' = -1)) ∨
     (k = 14 ∧ a ≠ -1 ∧ ∃ G' st' sm', x' = ⟨T7 B BT G' GT st' sm' (-1) true, R, dm⟩ ∧ (G' = some (sy c n) ∨ G' = some ⟨c ++ Fm.pk r, c, true, false, sm + 1⟩) ∧ st' ≤ st + 2 ∧ sm' ≤ sm + 1)) := by
  unfold addS
  by_cases h1 : a = 0
  · subst h1
    simp only [t_append0]
    exact ⟨14, _, rfl, .inr ⟨rfl, by decide, _, st, sm, rfl, .inl rfl, by omega, by omega⟩⟩
  · simp only [t_append h1]
    by_cases h2 : dec a = 0
    · simp only [h2, t_sync0]
      exact ⟨14, _, rfl, .inr ⟨rfl, fun e => (by rw [dec_m1 e] at h2; cases h2), _, st + 1, sm + 1, rfl, .inr rfl, by omega, by omega⟩⟩
    · simp only [t_sync h2]
      exact ⟨0, _, rfl, .inl ⟨rfl, _, rfl, rng_dec (rng_dec ha), fun e => dec_m1 (dec_m1 e)⟩⟩
theorem addok7 {B BT GT : Option Fi} {c r : ByteArray} {n st sm : Nat} {a : Int} {R : List ByteArray} {dm : Bool} (h : Sz B BT (some (sy c n)) GT st sm) (ha : Rng a) (hr : r.size ≤ 1000000000) (hc : c.size + (Fm.pk r).size ≤ 20000000000) (hR : R.length ≤ 1000) (hst : st ≤ 900000) (hsm : sm ≤ 900000) :
    AddOk ⟨T7 B BT (some (sy c n)) GT st sm a false, R, dm⟩ pG r := by
  have hs : (c ++ Fm.pk r).size = c.size + (Fm.pk r).size := ByteArray.size_append
  refine ⟨t7_ok h ha, ?_, ?_, by omega, by show R.length ≤ _; omega⟩
  · show Ok (appendS (T7 B BT (some (sy c n)) GT st sm a false) pG (Fm.pk r)).2
    by_cases h1 : a = 0
    · subst h1; rw [t_append0]; exact t7_ok h rng_m1
    · rw [t_append h1]; exact t7_ok ⟨h.b, h.bt, ook_app (by show (c ++ Fm.pk r).size ≤ _; omega) (by show c.size ≤ (c ++ Fm.pk r).size; omega), h.gt, by omega, by omega⟩ (rng_dec ha)
  · show (old (T7 B BT (some (sy c n)) GT st sm a false).L pG).data.size + _ ≤ _
    rw [o_log]
    show c.size + _ ≤ _
    omega
theorem fr_whole (r : ByteArray) (h : r.size ≤ 9223372036854775807) : Fm.fr (Fm.pk r) = (r, (Fm.pk r).size, 0) := by
  have := Fr.fr_pk r [] h
  rwa [List.append_nil] at this
end Go.Proofs.YthejpojmmokinaaGreatDoor.Tb

namespace Go.Proofs.YthejpojmmokinaaGreatDoor.Tb
open Go.RowKit Tx Pm Dk Wm Wr Wl Pl
set_option linter.unusedVariables false
set_option linter.unusedSimpArgs false
set_option linter.unnecessarySimpa false
abbrev Tt (b j t m : Nat) := Tn b j t m pB pG
abbrev Tu (b j t m u : Nat) := TB b j t m pB pG u
section
variable {w0 W : World} {b j t m u k : Nat} {s s' : St} {x y : Tst} {l : List Ch}
theorem tn_below {w w1 : World} {F : Nat → Prop} {x : Tst} (h : Tt b j t m w F x) (hb : Below w.heap.size w w1) : Tt b j t m w1 F x := by
  obtain ⟨Fj, h⟩ := h
  exact ⟨Fj, h.below hb⟩
theorem tb_below {w w1 : World} {F : Nat → Prop} {z : Tst × List Ch} (h : Tu b j t m u w F z) (hb : Below w.heap.size w w1) : Tu b j t m u w1 F z := by
  obtain ⟨F1, G, ⟨Fj, h1⟩, ⟨pm, vO, h2⟩, hd, hH⟩ := h
  exact ⟨F1, G, ⟨Fj, h1.below hb⟩, ⟨pm, vO, h2.below hb⟩, hd, hH⟩
theorem ownT_below {w' : World} (h : Own (Tt b j t m) w0 x W) (hb : Below W.heap.size W w') : Own (Tt b j t m) w0 x w' := Own.kept (Obj := Tt b j t m) (fun h hb => tn_below h hb) h hb
theorem sys_base : tb (joi pS.data.toList [98, 97, 115, 101]) = pB := by decide +kernel
theorem sys_log : tb (joi pS.data.toList [108, 111, 103]) = pG := by decide +kernel
theorem a_open (h : Own (ImpAt b) w0 s W) (o : Open7Ok s pS pB pG) (he : open7 s pS pB pG = (0, x)) : Calls Tryz.prog 25 #[.pointer (some ⟨b, 0, none⟩), .string pS] W fun e w' => ∃ t j m, e = .returned (.tuple #[.pointer (some ⟨t, 0, none⟩), .int .i64 0]) ∧ Own (Tt b j t m) w0 x w' := by
  obtain ⟨F, h1, h2, h3⟩ := h
  have c := open_any b pS pB pG W h1 sys_base sys_log o
  rw [he] at c
  refine c.mono fun e w' hh => ?_
  rcases hh with ⟨_, t, j, m, he, hl⟩ | ⟨h0, _⟩
  · exact ⟨t, j, m, he, own_left h2 h3 hl⟩
  · exact absurd rfl h0
theorem a_begin (h : Own (Tt b j t m) w0 x W) : Calls Tryz.prog 26 #[.pointer (some ⟨t, 0, none⟩)] W fun e w' => ∃ u, e = .returned (.pointer (some ⟨u, 0, none⟩)) ∧ Own (Tu b j t m u) w0 (x, []) w' := by
  obtain ⟨F, ⟨Fj, h1⟩, h2, h3⟩ := h
  refine (begin_any (some ⟨t, 0, none⟩) W).mono fun e w' hh => ?_
  obtain ⟨u, he, G, hB, hG, hb⟩ := hh
  have hs := h3.size
  exact ⟨u, he, fun i => F i ∨ G i, ⟨F, G, ⟨Fj, h1.below hb⟩, hB, fun i hi hg => by have := h1.lt i hi; have := hG i hg; omega, fun i => Iff.rfl⟩, fun i hi => hi.elim (h2 i) (fun hh => by have := hG i hh; omega), Tx.below_call h3 hb⟩
end
end Go.Proofs.YthejpojmmokinaaGreatDoor.Tb

namespace Go.Proofs.YthejpojmmokinaaGreatDoor.Tb
open Go.RowKit Tx Pm Dk Wm Wr Wl Pl
set_option linter.unusedVariables false
set_option linter.unusedSimpArgs false
set_option linter.unnecessarySimpa false
def Based (B : Option Fi) (L0 : List It) : Prop := (B = none ∧ L0 = []) ∨ ∃ r n ops, B = some (sy (Fm.pk r) n) ∧ opsS r = (ops, 0) ∧ r.size ≤ 100000000 ∧ L0 = all7 [] ops
theorem base_T {B BT G GT : Option Fi} {L0 : List It} {st sm : Nat} {a : Int} (hb : Based B L0) : base0 (T7 B BT G GT st sm a false) pB = (L0, 0) ∧ (readS (T7 B BT G GT st sm a false) pB).1.size ≤ 500000000 := by
  rcases hb with ⟨rfl, rfl⟩ | ⟨r, n, ops, rfl, ho, hr, rfl⟩
  · have hk : kind (T7 none BT G GT st sm a false).L pB = 0 := k_base0
    refine ⟨base_0 hk, ?_⟩
    rw [r_base0]
    decide
  · have hk : kind (T7 (some (sy (Fm.pk r) n)) BT G GT st sm a false).L pB ≠ 0 := by rw [k_base]; decide
    have hrd : readS (T7 (some (sy (Fm.pk r) n)) BT G GT st sm a false) pB = (Fm.pk r, 0) := r_base
    refine ⟨base_5 hk hrd (fr_whole r (by omega)) (Nat.lt_irrefl _) ho, ?_⟩
    rw [hrd]
    show (Fm.pk r).size ≤ _
    rw [Fm.pk_size]
    have := vb_len (x := r.size) (by omega)
    omega
theorem recok_wide {L : List It} {l : List ByteArray} (h : RecOk L l) : ∀ x ∈ l, x.size ≤ 140737488351232 := fun x hx => by have := (h.1 x hx).2; omega
section
variable {B BT GT : Option Fi} {L0 : List It} {l : List ByteArray} {r c : ByteArray} {n st sm : Nat} {a : Int}
end
theorem open_W {B BT GT : Option Fi} {L0 : List It} {l : List ByteArray} {n st sm : Nat} {a : Int} (hb : Based B L0) (h : Sz B BT (some (sy (PK l) n)) GT st sm) (ha : Rng a) (hrec : RecOk L0 l) (hll : l.length ≤ 1000) (hst : st ≤ 900000) (hsm : sm ≤ 900000) :
    Open7Ok (T7 B BT (some (sy (PK l) n)) GT st sm a false) pS pB pG ∧ open7 (T7 B BT (some (sy (PK l) n)) GT st sm a false) pS pB pG = (0, ⟨⟨T7 B BT (some (sy (PK l) n)) GT st sm a false, l, false⟩, rows7 L0 l⟩) := by
  obtain ⟨hb1, hb2⟩ := base_T (BT := BT) (G := some (sy (PK l) n)) (GT := GT) (st := st) (sm := sm) (a := a) hb
  have hop : opened (T7 B BT (some (sy (PK l) n)) GT st sm a false) pS = (0, T7 B BT (some (sy (PK l) n)) GT st sm a false) := by
    unfold opened
    rw [if_neg (by rw [k_sys]; decide)]
  have hw := recok_wide hrec
  have hs := scan_all l hw
  have hk : kind (T7 B BT (some (sy (PK l) n)) GT st sm a false).L pG ≠ 0 := by rw [k_log]; decide
  have hr : readS (T7 B BT (some (sy (PK l) n)) GT st sm a false) pG = (PK l, 0) := r_log
  have hcs : (PK l).size ≤ 20000000000 := (h.g _ rfl).1
  have ho := open_2 hk hr hs
  refine ⟨⟨t7_ok h ha, fun _ => ?_, by decide, by decide, by decide⟩, (open_n hop).trans (open1_o hb1 ho)⟩
  rw [hop]
  refine ⟨hb2, fun _ => ⟨⟨fun h0 => absurd h0 hk, fun _ => ?_⟩, fun _ => ?_⟩⟩
  · rw [hr]
    refine ⟨by show (PK l).size ≤ _; omega, by rw [hs]; show l.length ≤ _; omega, fun h0 => ?_⟩
    rw [hs] at h0
    exact absurd rfl h0
  · rw [hb1, ho]
    exact hrec
def s0T : St := T7 none none (some (sy ⟨#[]⟩ 2)) none 4 2 (-1) false
theorem sz0 : Sz none none none none 1 0 := ⟨ook_none, ook_none, ook_none, ook_none, by omega, by omega⟩
theorem new_open7 : open7 newS pS pB pG = (0, ⟨⟨s0T, [], false⟩, []⟩) := by
  have hop : opened newS pS = (0, T7 none none none none 1 0 (-1) false) := by
    unfold opened
    rw [if_pos (by decide +kernel), n_mkdir]
  have hb := (base_T (B := none) (BT := none) (G := none) (GT := none) (L0 := []) (st := 1) (sm := 0) (a := -1) (.inl ⟨rfl, rfl⟩)).1
  have hf : fillS (T7 none none none none 1 0 (-1) false) pG ⟨#[]⟩ = (0, s0T) := by
    unfold fillS
    rw [pG_tT, g_write (by decide)]
    simp only [dec_neg, g_sync (a := -1) (by decide), g_rename (a := -1) (by decide)]
    rfl
  exact (open_n hop).trans (open1_o hb (open_0 k_log0 hf))
theorem new_ok7 : Open7Ok newS pS pB pG := by
  have hop : opened newS pS = (0, T7 none none none none 1 0 (-1) false) := by
    unfold opened
    rw [if_pos (by decide +kernel), n_mkdir]
  obtain ⟨hb, hb2⟩ := base_T (B := none) (BT := none) (G := none) (GT := none) (L0 := []) (st := 1) (sm := 0) (a := -1) (.inl ⟨rfl, rfl⟩)
  refine ⟨ok_new, fun _ => ?_, by decide, by decide, by decide⟩
  rw [hop]
  refine ⟨hb2, fun _ => ⟨⟨fun _ => fillokG sz0 (by decide) rng_m1 (by decide) (by decide), fun h => absurd k_log0 h⟩, fun h0 => ?_⟩⟩
  have hf : fillS (T7 none none none none 1 0 (-1) false) pG ⟨#[]⟩ = (0, s0T) := by
    unfold fillS
    rw [pG_tT, g_write (by decide)]
    simp only [dec_neg, g_sync (a := -1) (by decide), g_rename (a := -1) (by decide)]
    rfl
  rw [hb, open_0 k_log0 hf]
  exact ⟨fun x hx => (by cases hx), by show 0 + 0 ≤ 500000000; omega, by show 0 ≤ 10000000000; omega⟩
section
variable {B BT GT : Option Fi} {c : ByteArray} {n st sm : Nat} {a : Int} {R : List ByteArray} {dm : Bool} {L : List It} {l : List Ch}
theorem pk_bound {r : ByteArray} (h : r.size ≤ 1000000000) : (Fm.pk r).size ≤ r.size + 14 := by
  have := vb_len (x := r.size) (by omega)
  rw [Fm.pk_size]
  omega
theorem commit_T (h : Sz B BT (some (sy c n)) GT st sm) (ha : Rng a) (hl : l ≠ []) (hw : wt l ≤ 900000000) (hc : c.size ≤ 10000000000) (hL : L.length + l.length ≤ 1000000000) (hR : R.length + 1 < 16) (hst : st ≤ 900000) (hsm : sm ≤ 900000) :
    CommitOk ⟨⟨T7 B BT (some (sy c n)) GT st sm a false, R, dm⟩, L⟩ l pB pG ∧ ∃ k y, commitS ⟨⟨T7 B BT (some (sy c n)) GT st sm a false, R, dm⟩, L⟩ l pB pG = (k, y) ∧
    ((k = 0 ∧ ∃ a', y = ⟨⟨T7 B BT (some (sy (c ++ Fm.pk (rec7 l)) (sm + 1))) GT (st + 2) (sm + 1) a' false, R ++ [rec7 l], dm⟩, all7 L l⟩ ∧ Rng a' ∧ (a = -1 → a' = -1)) ∨
     (k = 14 ∧ a ≠ -1 ∧ ∃ G' st' sm', y.j.s = T7 B BT G' GT st' sm' (-1) true ∧ (G' = some (sy c n) ∨ G' = some ⟨c ++ Fm.pk (rec7 l), c, true, false, sm + 1⟩) ∧ st' ≤ st + 2 ∧ sm' ≤ sm + 1)) := by
  have hr := rec7_le (l := l) (by omega)
  have hp := pk_bound (r := rec7 l) (by omega)
  obtain ⟨k, x', hadd, hcases⟩ := add7 (B := B) (BT := BT) (GT := GT) (c := c) (r := rec7 l) (n := n) (st := st) (sm := sm) (R := R) (dm := dm) ha
  have hlen : x'.R.length ≤ R.length + 1 := by
    rcases hcases with ⟨_, a', rfl, _⟩ | ⟨_, _, G', st', sm', rfl, _⟩
    · show (R ++ [rec7 l]).length ≤ _; rw [List.length_append]; exact Nat.le_refl _
    · show R.length ≤ _; omega
  refine ⟨⟨by omega, addok7 h ha (by omega) (by omega) (by omega) hst hsm, hL, by decide, ?_, fun h16 => ?_⟩, ?_⟩
  · rw [hadd]; show x'.R.length ≤ _; omega
  · rw [hadd] at h16; have h16 : 16 ≤ x'.R.length := h16; omega
  · rcases hcases with ⟨rfl, a', rfl, ra, rm⟩ | ⟨rfl, hne, G', st', sm', rfl, hG, b1, b2⟩
    · exact ⟨0, _, commit_2 hl hadd (by omega), .inl ⟨rfl, a', rfl, ra, rm⟩⟩
    · exact ⟨14, _, commit_1 hl hadd (by decide), .inr ⟨rfl, hne, G', st', sm', rfl, hG, b1, b2⟩⟩
end
end Go.Proofs.YthejpojmmokinaaGreatDoor.Tb

namespace Go.Proofs.YthejpojmmokinaaGreatDoor.Tb
open Go.RowKit Tx Pm Dk Wm Wr Wl Pl
set_option linter.unusedVariables false
set_option linter.unusedSimpArgs false
set_option linter.unnecessarySimpa false
end Go.Proofs.YthejpojmmokinaaGreatDoor.Tb

namespace Go.Proofs.YthejpojmmokinaaGreatDoor.Dk
open Go.RowKit Tx Pm Pl Pr
set_option linter.unusedVariables false
end Go.Proofs.YthejpojmmokinaaGreatDoor.Dk

namespace Go.Proofs.YthejpojmmokinaaGreatDoor.Wl
open Go.RowKit Tx Pm Pl Pr Dk Fr
set_option linter.unusedVariables false
end Go.Proofs.YthejpojmmokinaaGreatDoor.Wl

namespace Go.Proofs.YthejpojmmokinaaGreatDoor.Tb
open Go.RowKit Tx Pm Dk Wm Wr Wl Pl
set_option linter.unusedVariables false
set_option linter.unusedSimpArgs false
set_option linter.unnecessarySimpa false
theorem wt_set (l : List Ch) (i : Nat) (c : Ch) : wt (l.set i c) ≤ wt l + (c.key.size + c.val.size + 40) := by
  induction l generalizing i with
  | nil => exact Nat.zero_le _
  | cons x l ih =>
    cases i with
    | zero => rw [List.set_cons_zero, wt_cons, wt_cons]; omega
    | succ i => rw [List.set_cons_succ, wt_cons, wt_cons]; have := ih i; omega
theorem wt_bat {l : List Ch} (h : Once l) (c : Ch) : wt (bat l c) ≤ wt l + (c.key.size + c.val.size + 40) := by
  cases hi : at7 l c.key with
  | none =>
    rw [bat_new hi, wt_append, wt_cons]
    show wt l + (_ + 0) ≤ _
    omega
  | some i => rw [bat_set h hi]; exact wt_set l i c
theorem snoc7 {α : Type} {P : List α → Prop} (h0 : P []) (h1 : ∀ l x, P l → P (l ++ [x])) (l : List α) : P l := by
  rw [← List.reverse_reverse l]
  induction l.reverse with
  | nil => exact h0
  | cons x r ih => rw [List.reverse_cons]; exact h1 _ _ ih
section
variable {B BT GT : Option Fi} {c : ByteArray} {n st sm : Nat} {a : Int} {R : List ByteArray} {dm : Bool} {L : List It} {l : List Ch}
theorem commit_U (h : Sz B BT (some (sy c n)) GT st sm) (hw : wt l ≤ 900000000) (hc : c.size ≤ 10000000000) (hL : L.length + l.length ≤ 1000000000) (hR : R.length + 1 < 16) (hst : st ≤ 900000) (hsm : sm ≤ 900000) :
    CommitOk ⟨⟨T7 B BT (some (sy c n)) GT st sm (-1) false, R, dm⟩, L⟩ l pB pG ∧ ∃ c' n' st' sm' R', commitS ⟨⟨T7 B BT (some (sy c n)) GT st sm (-1) false, R, dm⟩, L⟩ l pB pG = (0, ⟨⟨T7 B BT (some (sy c' n')) GT st' sm' (-1) false, R', dm⟩, all7 L l⟩) ∧
    ((l = [] ∧ c' = c ∧ R' = R) ∨ (l ≠ [] ∧ c' = c ++ Fm.pk (rec7 l) ∧ R' = R ++ [rec7 l])) ∧ c'.size ≤ c.size + wt l + 24 ∧ st' ≤ st + 2 ∧ sm' ≤ sm + 1 := by
  have hr := rec7_le (l := l) (by omega)
  have hp := pk_bound (r := rec7 l) (by omega)
  by_cases hl : l = []
  · subst hl
    obtain ⟨k, x', hadd, hcases⟩ := add7 (B := B) (BT := BT) (GT := GT) (c := c) (r := rec7 []) (n := n) (st := st) (sm := sm) (R := R) (dm := dm) rng_m1
    have hlen : x'.R.length ≤ R.length + 1 := by
      rcases hcases with ⟨_, a', rfl, _⟩ | ⟨_, _, G', st', sm', rfl, _⟩
      · show (R ++ [rec7 []]).length ≤ _; rw [List.length_append]; exact Nat.le_refl _
      · show R.length ≤ _; omega
    refine ⟨⟨by omega, addok7 h rng_m1 (by omega) (by omega) (by omega) hst hsm, hL, by decide, ?_, fun h16 => ?_⟩, c, n, st, sm, R, commit_0, .inl ⟨rfl, rfl, rfl⟩, by omega, by omega, by omega⟩
    · rw [hadd]; show x'.R.length ≤ _; omega
    · rw [hadd] at h16; have h16 : 16 ≤ x'.R.length := h16; omega
  · obtain ⟨h1, k, y, h2, hcs⟩ := commit_T (B := B) (BT := BT) (GT := GT) (c := c) (n := n) (st := st) (sm := sm) (a := -1) (R := R) (dm := dm) (L := L) (l := l) h rng_m1 hl hw hc hL hR hst hsm
    refine ⟨h1, ?_⟩
    rcases hcs with ⟨rfl, a', rfl, _, ha⟩ | ⟨_, hne, _⟩
    · rw [ha rfl] at h2
      exact ⟨_, _, _, _, _, h2, .inr ⟨hl, rfl, rfl⟩, by rw [ByteArray.size_append]; omega, by omega, by omega⟩
    · exact absurd rfl hne
end
section
variable {BT G GT : Option Fi} {f : Fi} {st sm : Nat} {bit : Int}
end
end Go.Proofs.YthejpojmmokinaaGreatDoor.Tb

namespace Go.Proofs.YthejpojmmokinaaGreatDoor.Tb
open Go.RowKit Tx Pm Dk Wm Wr Wl Pl
set_option linter.unusedVariables false
set_option linter.unusedSimpArgs false
set_option linter.unnecessarySimpa false
def overV (L : List It) (l : List Ch) (p : ByteArray) : ByteArray := match lastOf l p with
  | some c => c.val
  | none => (lookC L p).val
def overB (L : List It) (l : List Ch) (p : ByteArray) : Bool := match lastOf l p with
  | some c => !c.gone
  | none => (find L p).isSome
theorem last_at {l : List Ch} (h : Once l) {p : ByteArray} {i : Nat} {c : Ch} (hi : at7 l p = some i) (hc : l[i]? = some c) : lastOf l p = some c := by
  obtain ⟨d, hd, hk, hlt⟩ := at7_lt hi
  rw [hc] at hd
  injection hd with hd
  subst hd
  have hm := List.mem_of_getElem? hc
  unfold lastOf
  have : ∀ (l : List Ch), Once l → c ∈ l → l.find? (fun x => decide (x.key = p)) = some c := by
    intro l
    induction l with
    | nil => intro _ h; cases h
    | cons x l ih =>
      intro ho h
      rcases List.mem_cons.1 h with rfl | h
      · exact List.find?_cons_of_pos (by simpa using hk)
      · have hne : x.key ≠ c.key := (List.pairwise_cons.1 ho).1 c h
        rw [List.find?_cons_of_neg (by rw [← hk]; simpa using hne)]
        exact ih (List.pairwise_cons.1 ho).2 h
  refine this _ ?_ (List.mem_reverse.2 hm)
  exact List.pairwise_reverse.2 (h.imp (fun hab => fun e => hab e.symm))
theorem last_none {l : List Ch} {p : ByteArray} (h : at7 l p = none) : lastOf l p = none := by
  unfold lastOf
  refine List.find?_eq_none.2 (fun x hx he => ?_)
  have := at7_none h
  exact absurd (List.any_eq_true.2 ⟨x, List.mem_reverse.1 hx, he⟩) (by rw [this]; decide)
set_option maxRecDepth 100000 in
set_option maxHeartbeats 4000000 in
theorem bGet_any (u t m pm : Nat) (vO : Value) (L : List It) (l : List Ch) (key : ByteArray) (w : World) {G : Nat → Prop} (hB : BAt u pm (some ⟨t, 0, none⟩) vO w G l) (ht : w.cell? ⟨t, 3, none⟩ = some (.map (some m))) (hm : Mo w m L) (hk : key.size ≤ 1000000000000000) :
    Calls Tryz.prog 38 #[.pointer (some ⟨u, 0, none⟩), .string key] w fun e w' => e = .returned (.tuple #[.string (overV L l key), .bool (overB L l key)]) ∧ Below w.heap.size w w' := by
  obtain ⟨c0, c1, c2⟩ := hB.cell
  have hl := hB.plc.look (p := key) (by unfold maxLen; omega)
  unfold placeV at hl
  have HBl := Lib.hid (fun o => (Below.refl w.heap.size w).alloc (Nat.le_refl _) o)
  cases ha : at7 l key with
  | none =>
    rw [ha] at hl
    have e1 : overV L l key = (lookC L key).val := by unfold overV; rw [last_none ha]
    have e2 : overB L l key = (find L key).isSome := by unfold overB; rw [last_none ha]
    have cg := tGet_any t m L key w ht hm (by unfold maxLen; omega)
    rw [← e1, ← e2] at cg
    generalize overV L l key = V at cg ⊢
    generalize overB L l key = O at cg ⊢
    clear ha hB hm ht e1 e2
    go_enter Tryz.func38, Tryz.ntmps38
    go_wp2_with fail
    go_at_call 59
    refine cg.mono ?_
    rintro e w1 ⟨rfl, hb1⟩
    go_wp2_with fail
    go_ret2
    exact ⟨rfl, hb1⟩
  | some i =>
    obtain ⟨c, hc, hck, hlt⟩ := at7_lt ha
    rw [ha] at hl
    have e1 : overV L l key = c.val := by unfold overV; rw [last_at hB.once ha hc]
    have e2 : overB L l key = !c.gone := by unfold overB; rw [last_at hB.once ha hc]
    rw [e1, e2]
    obtain ⟨a, cp, rfl, hopl, hcp, _⟩ := hB.ops.form
    obtain ⟨g, off, rfl, hg, g0, g1, g2⟩ := hopl.nth hc
    obtain ⟨key1, val1, gone1⟩ := c
    simp only at g0 g1 g2 ⊢
    obtain ⟨N, hN⟩ : ∃ N, N = l.length := ⟨_, rfl⟩
    rw [← hN] at c1 hlt hcp
    have hiz : (i : Int) < (N : Int) := by omega
    clear ha hB hm ht e1 e2 hc hck hopl hN
    go_enter Tryz.func38, Tryz.ntmps38
    go_wp2_with fail
    go_region
    all_goals
      go_wp2_with fail
      go_ret2
      exact ⟨rfl, (HBl.out _).drew⟩
end Go.Proofs.YthejpojmmokinaaGreatDoor.Tb

namespace Go.Proofs.YthejpojmmokinaaGreatDoor.Tb
open Go.RowKit Tx Pm Dk Wm Wr Wl Pl
set_option linter.unusedVariables false
set_option linter.unusedSimpArgs false
set_option linter.unnecessarySimpa false
def beg (p a : ByteArray) : Bool := Lib.hasPrefix a.data.toList p.data.toList
theorem last_mem {l : List Ch} (h : Once l) {p : ByteArray} {c : Ch} : lastOf l p = some c ↔ c ∈ l ∧ c.key = p := by
  constructor
  · intro hl
    have h1 := List.mem_of_find?_eq_some hl
    have h2 := List.find?_some hl
    exact ⟨List.mem_reverse.1 h1, of_decide_eq_true h2⟩
  · rintro ⟨hm, rfl⟩
    obtain ⟨i, hi⟩ := List.getElem?_of_mem hm
    exact last_at h (once_at h hi) hi
theorem last_at7 {l : List Ch} {p : ByteArray} (h : Once l) : (at7 l p).isNone = (lastOf l p).isNone := by
  cases ha : at7 l p with
  | none => rw [last_none ha]; rfl
  | some i =>
    obtain ⟨c, hc, hk, _⟩ := at7_lt ha
    rw [last_at h ha hc]
    rfl
theorem find_has {L : List It} (hR : Rises L) {a : ByteArray} : (∃ x ∈ L, x.path = a) ↔ (find L a).isSome = true := by
  unfold find
  rw [List.find?_isSome]
  constructor
  · rintro ⟨x, hx, h⟩; exact ⟨x, hx, by simpa using h⟩
  · rintro ⟨x, hx, h⟩; exact ⟨x, hx, by simpa using h⟩
theorem mem_held {L : List It} (hR : Rises L) {p a : ByteArray} : a ∈ held (pre7 p) L ↔ (find L a).isSome = true ∧ beg p a = true := by
  unfold held
  rw [List.mem_map, ← find_has hR]
  constructor
  · rintro ⟨x, hx, rfl⟩
    obtain ⟨h1, h2⟩ := List.mem_filter.1 hx
    exact ⟨⟨x, h1, rfl⟩, h2⟩
  · rintro ⟨⟨x, hx, rfl⟩, h⟩
    exact ⟨x, List.mem_filter.2 ⟨hx, h⟩, rfl⟩
theorem nodup_held {L : List It} (hR : Rises L) (p : ByteArray) : (held (pre7 p) L).Nodup := by
  refine (held_rises hR).imp (fun {a b} h e => ?_)
  subst e
  rw [less_irrefl] at h
  cases h
def oldK (l : List Ch) (K : List ByteArray) : List ByteArray := K.filter (fun k => (at7 l k).isNone)
def newK (p : ByteArray) (l : List Ch) : List ByteArray := (l.filter (fun c => !c.gone && beg p c.key)).map (·.key)
theorem newK_snoc (p : ByteArray) (l : List Ch) (c : Ch) : newK p (l ++ [c]) = newK p l ++ (if (!c.gone && beg p c.key) = true then [c.key] else []) := by
  unfold newK
  rw [List.filter_append, List.map_append]
  congr 1
  cases h : (!c.gone && beg p c.key) <;> simp [List.filter_cons, h]
theorem oldK_snoc (l : List Ch) (K : List ByteArray) (k : ByteArray) : oldK l (K ++ [k]) = oldK l K ++ (if (at7 l k).isNone = true then [k] else []) := by
  unfold oldK
  rw [List.filter_append]
  congr 1
  cases h : (at7 l k).isNone <;> simp [List.filter_cons, h]
theorem perm_keys {L : List It} (hR : Rises L) {l : List Ch} (hO : Once l) (p : ByteArray) : (oldK l (held (pre7 p) L) ++ newK p l).Perm (held (pre7 p) (all7 L l)) := by
  have hnew : ∀ a, a ∈ newK p l ↔ ∃ c, lastOf l a = some c ∧ c.gone = false ∧ beg p a = true := by
    intro a
    unfold newK
    rw [List.mem_map]
    constructor
    · rintro ⟨c, hc, rfl⟩
      obtain ⟨h1, h2⟩ := List.mem_filter.1 hc
      rw [Bool.and_eq_true, Bool.not_eq_true'] at h2
      exact ⟨c, (last_mem hO).2 ⟨h1, rfl⟩, h2.1, h2.2⟩
    · rintro ⟨c, hc, h1, h2⟩
      obtain ⟨h3, rfl⟩ := (last_mem hO).1 hc
      exact ⟨c, List.mem_filter.2 ⟨h3, by rw [h1, h2]; rfl⟩, rfl⟩
  refine (List.perm_ext_iff_of_nodup ?_ (nodup_held (rises_all hR l) p)).2 (fun a => ?_)
  · refine List.nodup_append.2 ⟨(nodup_held hR p).filter _, ?_, fun a ha b hb e => ?_⟩
    · unfold newK
      rw [List.Nodup, List.pairwise_map]
      exact List.Pairwise.filter _ hO
    · subst e
      obtain ⟨c, hc, _⟩ := (hnew _).1 hb
      have h1 := (List.mem_filter.1 ha).2
      rw [last_at7 hO, hc] at h1
      cases h1
  · rw [List.mem_append, hnew, mem_held (rises_all hR l), find_all]
    unfold oldK
    rw [List.mem_filter, mem_held hR, last_at7 hO]
    cases hc : lastOf l a with
    | none => simp [after]
    | some c => cases hg : c.gone <;> simp [after, hg]
end Go.Proofs.YthejpojmmokinaaGreatDoor.Tb

namespace Go.Proofs.YthejpojmmokinaaGreatDoor.Bl
open Go.RowKit Tx Pm Dk Wm Wr Wl Pl Tb
set_option linter.unusedVariables false
set_option linter.unusedSimpArgs false
set_option linter.unnecessarySimpa false
structure On where
  low : Nat
  n : Nat
  refs : Nat
  data : ByteArray
def hexd (k : Nat) : UInt8 := if k < 10 then UInt8.ofNat (48 + k) else UInt8.ofNat (87 + k)
def grp (low : Nat) : ByteArray := ⟨#[98, 47, hexd (low / 16), hexd (low % 16), 47]⟩
def decB (n : Nat) : ByteArray := ⟨(Lib.decDigits n).toArray⟩
def keyN (low n : Nat) : ByteArray := grp low ++ decB n
def keyO (x : On) : ByteArray := keyN x.low x.n
def lowO (d : ByteArray) : Nat := Fm.fsum d.data.toList % 256
def pB2 : ByteArray := ⟨#[98, 47]⟩
def enc (h : Nat) (d : ByteArray) : ByteArray := cat [vs h, ts d]
theorem app_l (a b : ByteArray) : (a ++ b).data.toList = a.data.toList ++ b.data.toList := by rw [ByteArray.data_append, Array.toList_append]
theorem ba_ext {a b : ByteArray} (h : a.data.toList = b.data.toList) : a = b := by
  obtain ⟨a⟩ := a
  obtain ⟨b⟩ := b
  congr 1
  exact Array.toList_inj.1 h
theorem keyN_list (low n : Nat) : (keyN low n).data.toList = [98, 47, hexd (low / 16), hexd (low % 16), 47] ++ Lib.decDigits n := by
  unfold keyN
  rw [app_l]
  rfl
theorem hexd_inj : ∀ a b : Fin 16, hexd a.val = hexd b.val → a = b := by decide +kernel
def valD (l : List UInt8) : Nat := l.foldl (fun a b => a * 10 + (b.toNat - 48)) 0
theorem valD_snoc (l : List UInt8) (b : UInt8) : valD (l ++ [b]) = valD l * 10 + (b.toNat - 48) := by unfold valD; rw [List.foldl_append]; rfl
theorem dig_val {k : Nat} (h : k < 10) : (UInt8.ofNat (48 + k)).toNat - 48 = k := by
  rw [UInt8.toNat_ofNat']
  omega
theorem valD_dec (n : Nat) : valD (Lib.decDigits n) = n := by
  induction n using Nat.strongRecOn with
  | _ n ih =>
    by_cases h : n < 10
    · rw [Lib.decDigits_one h]
      show 0 * 10 + ((UInt8.ofNat (48 + n)).toNat - 48) = n
      rw [dig_val h]
      omega
    · rw [Lib.decDigits, dif_neg h, valD_snoc, ih (n / 10) (by omega), dig_val (by omega)]
      omega
theorem dec_inj {a b : Nat} (h : Lib.decDigits a = Lib.decDigits b) : a = b := by rw [← valD_dec a, h, valD_dec]
theorem keyN_inj {a b m n : Nat} (ha : a < 256) (hb : b < 256) (h : keyN a m = keyN b n) : a = b ∧ m = n := by
  have h1 := congrArg (·.data.toList) h
  simp only [keyN_list, List.cons_append, List.nil_append, List.cons.injEq, true_and] at h1
  obtain ⟨h2, h3, h4⟩ := h1
  have e2 := hexd_inj ⟨a / 16, by omega⟩ ⟨b / 16, by omega⟩ h2
  have e3 := hexd_inj ⟨a % 16, by omega⟩ ⟨b % 16, by omega⟩ h3
  injection e2 with e2
  injection e3 with e3
  exact ⟨by omega, dec_inj h4⟩
theorem lowO_lt (d : ByteArray) : lowO d < 256 := Nat.mod_lt _ (by decide)
theorem nDigits_le : ∀ k n : Nat, n < 10 ^ k → 1 ≤ k → Lib.nDigits n ≤ k := by
  intro k
  induction k with
  | zero => intro n _ h; omega
  | succ k ih =>
    intro n h _
    by_cases h1 : n < 10
    · rw [Lib.nDigits_small h1]; omega
    · rw [Lib.nDigits_big h1]
      by_cases hk : k = 0
      · subst hk; simp at h; omega
      · have := ih (n / 10) (by rw [Nat.pow_succ] at h; omega) (by omega)
        omega
theorem decB_size {n : Nat} (h : n < 1000000000) : (decB n).size ≤ 9 := by
  have e : (decB n).size = (Lib.decDigits n).length := by simp [decB, ByteArray.size]
  rw [e, Lib.decDigits_length]
  exact nDigits_le 9 n (by omega) (by omega)
theorem keyN_size (low : Nat) {n : Nat} (h : n < 1000000000) : (keyN low n).size ≤ 14 := by
  have := decB_size h
  unfold keyN
  rw [ByteArray.size_append]
  have e : (grp low).size = 5 := rfl
  omega
theorem beg_iff (p a : ByteArray) : beg p a = true ↔ ∃ r, a.data.toList = p.data.toList ++ r := by
  unfold beg Lib.hasPrefix
  rw [List.isPrefixOf_iff_prefix]
  exact ⟨fun ⟨r, h⟩ => ⟨r, h.symm⟩, fun ⟨r, h⟩ => ⟨r, h.symm⟩⟩
theorem beg_grp (low n : Nat) : beg (grp low) (keyN low n) = true := (beg_iff _ _).2 ⟨Lib.decDigits n, keyN_list low n⟩
theorem beg_two {low : Nat} {a : ByteArray} (h : beg (grp low) a = true) : beg pB2 a = true := by
  obtain ⟨r, hr⟩ := (beg_iff _ _).1 h
  exact (beg_iff _ _).2 ⟨[hexd (low / 16), hexd (low % 16), 47] ++ r, hr⟩
theorem beg_key (low n : Nat) : beg pB2 (keyN low n) = true := beg_two (beg_grp low n)
theorem enc_list (h : Nat) (d : ByteArray) : (enc h d).data.toList = vb h ++ tl d := by
  have e : (enc h d).data.toList = (vs h).data.toList ++ ((ts d).data.toList ++ []) := rfl
  rw [e, List.append_nil, ts_tl, vs_list]
theorem enc_is (h : Nat) (d : ByteArray) : enc h d = ⟨(vb h ++ tl d).toArray⟩ := ba_ext (by rw [enc_list])
theorem enc_rdU {h : Nat} (d : ByteArray) (hh : h ≤ 9223372036854775807) : rdU (enc h d).data.toList = (h, (vb h).length, 0) := by rw [enc_list]; exact rdU_back h (tl d) hh
theorem enc_rest (h : Nat) (d : ByteArray) : (enc h d).extract (vb h).length (enc h d).size = ⟨(tl d).toArray⟩ := by rw [enc_is]; exact ext_at (vb h) (tl d)
theorem enc_rdT {d : ByteArray} (hd : d.size ≤ 9223372036854775807) : rdT ⟨(tl d).toArray⟩ = (d, (tl d).length, 0) := by
  have := rdT_back d [] hd
  rwa [List.append_nil] at this
theorem tl_size {d : ByteArray} (hd : d.size ≤ 9223372036854775807) : (⟨(tl d).toArray⟩ : ByteArray).size ≤ d.size + 10 := by
  have := tl_len hd
  have e : (⟨(tl d).toArray⟩ : ByteArray).size = (tl d).length := List.size_toArray
  omega
theorem enc_size {h : Nat} {d : ByteArray} (hh : h ≤ 9223372036854775807) (hd : d.size ≤ 9223372036854775807) : (enc h d).size ≤ d.size + 20 := by
  have e : (enc h d).size = (vb h ++ tl d).length := by rw [← enc_list, Wm.len_l]
  have h1 := vb_len (x := h) (by omega)
  have h2 := tl_len hd
  rw [e, List.length_append]
  omega
def at8 (C : List On) (p : ByteArray) : Option On := C.find? (fun x => decide (keyO x = p))
def of8 (C : List On) (d : ByteArray) : Option On := C.find? (fun x => decide (x.data = d))
def setR (C : List On) (p : ByteArray) (k : Nat) : List On := C.map (fun y => if keyO y = p then { y with refs := k } else y)
def delR (C : List On) (p : ByteArray) : List On := C.filter (fun y => !decide (keyO y = p))
theorem at8_some {C : List On} {p : ByteArray} {x : On} (h : at8 C p = some x) : x ∈ C ∧ keyO x = p := ⟨List.mem_of_find?_eq_some h, of_decide_eq_true (List.find?_some (p := fun x => decide (keyO x = p)) h)⟩
theorem of8_some {C : List On} {d : ByteArray} {x : On} (h : of8 C d = some x) : x ∈ C ∧ x.data = d := ⟨List.mem_of_find?_eq_some h, of_decide_eq_true (List.find?_some (p := fun x : On => decide (x.data = d)) h)⟩
theorem of8_none {C : List On} {d : ByteArray} (h : of8 C d = none) : ∀ x ∈ C, x.data ≠ d := fun x hx he => by
  have := List.find?_eq_none.1 h x hx
  simp [he] at this
theorem find_uniq {α : Type} {f : α → ByteArray} {C : List α} (h : C.Pairwise (fun x y => f x ≠ f y)) {x : α} (hx : x ∈ C) : C.find? (fun y => decide (f y = f x)) = some x := by
  induction C with
  | nil => cases hx
  | cons y C ih =>
    obtain ⟨h1, h2⟩ := List.pairwise_cons.1 h
    rcases List.mem_cons.1 hx with rfl | hx
    · exact List.find?_cons_of_pos (by simp)
    · rw [List.find?_cons_of_neg (by simpa using h1 x hx)]
      exact ih h2 hx
structure Good8 (C : List On) (M : Nat) : Prop where
  keys : C.Pairwise (fun x y => keyO x ≠ keyO y)
  datas : C.Pairwise (fun x y => x.data ≠ y.data)
  each : ∀ x ∈ C, x.low = lowO x.data ∧ 1 ≤ x.refs ∧ x.refs ≤ M ∧ x.n ≤ M ∧ x.data.size ≤ 140737488351232
  len : C.length ≤ M
structure Rep (R : List It) (C : List On) : Prop where
  rises : Rises R
  look : ∀ p, beg pB2 p = true → find R p = (at8 C p).map (fun x => rw7 (keyO x) (enc x.refs x.data))
section
variable {R : List It} {C : List On} {M k : Nat} {p : ByteArray} {x : On}
theorem Good8.at (h : Good8 C M) (hx : x ∈ C) : at8 C (keyO x) = some x := find_uniq h.keys hx
theorem Good8.of (h : Good8 C M) (hx : x ∈ C) : of8 C x.data = some x := find_uniq h.datas hx
theorem Good8.mono {M' : Nat} (h : Good8 C M) (hM : M ≤ M') : Good8 C M' := ⟨h.keys, h.datas, fun x hx => by obtain ⟨h1, h2, h3, h4, h5⟩ := h.each x hx; exact ⟨h1, h2, by omega, by omega, h5⟩, by have := h.len; omega⟩
theorem setR_keys (C : List On) (p : ByteArray) (k : Nat) : (setR C p k).map keyO = C.map keyO := by
  unfold setR
  rw [List.map_map]
  refine List.map_congr_left (fun y _ => ?_)
  show keyO (if keyO y = p then { y with refs := k } else y) = _
  split <;> rfl
theorem setR_datas (C : List On) (p : ByteArray) (k : Nat) : (setR C p k).map On.data = C.map On.data := by
  unfold setR
  rw [List.map_map]
  refine List.map_congr_left (fun y _ => ?_)
  show On.data (if keyO y = p then { y with refs := k } else y) = _
  split <;> rfl
theorem setR_len (C : List On) (p : ByteArray) (k : Nat) : (setR C p k).length = C.length := by unfold setR; rw [List.length_map]
theorem pair_map {f : On → ByteArray} {C C' : List On} (h : C'.map f = C.map f) (hp : C.Pairwise (fun x y => f x ≠ f y)) : C'.Pairwise (fun x y => f x ≠ f y) := by
  have h1 : (C.map f).Pairwise (· ≠ ·) := List.pairwise_map.2 hp
  rw [← h] at h1
  exact List.pairwise_map.1 h1
theorem good_set (h : Good8 C M) (h1 : 1 ≤ k) (hk : k ≤ M) : Good8 (setR C p k) M := by
  refine ⟨pair_map (setR_keys C p k) h.keys, pair_map (setR_datas C p k) h.datas, fun x hx => ?_, by rw [setR_len]; exact h.len⟩
  obtain ⟨y, hy, rfl⟩ := List.mem_map.1 hx
  obtain ⟨e1, e2, e3, e4, e5⟩ := h.each y hy
  split
  · exact ⟨e1, h1, hk, e4, e5⟩
  · exact ⟨e1, e2, e3, e4, e5⟩
theorem good_del (h : Good8 C M) : Good8 (delR C p) M := by
  unfold delR
  refine ⟨h.keys.filter _, h.datas.filter _, fun x hx => h.each x (List.mem_filter.1 hx).1, ?_⟩
  have := List.length_filter_le (fun y => !decide (keyO y = p)) C
  have := h.len
  omega
theorem at8_set (C : List On) (p q : ByteArray) (k : Nat) : at8 (setR C p k) q = if p = q then (at8 C q).map (fun y => { y with refs := k }) else at8 C q := by
  unfold at8 setR
  rw [List.find?_map]
  have e : ((fun x => decide (keyO x = q)) ∘ fun y => if keyO y = p then { y with refs := k } else y) = (fun y : On => decide (keyO y = q)) := by
    funext y
    show decide (keyO (if keyO y = p then { y with refs := k } else y) = q) = _
    split <;> rfl
  rw [e]
  cases hf : C.find? (fun y : On => decide (keyO y = q)) with
  | none => split <;> rfl
  | some y =>
    have hy : keyO y = q := of_decide_eq_true (List.find?_some (p := fun y : On => decide (keyO y = q)) hf)
    by_cases hp : p = q
    · rw [if_pos hp]
      show some (if keyO y = p then { y with refs := k } else y) = _
      rw [if_pos (hy.trans hp.symm)]
      rfl
    · rw [if_neg hp]
      show some (if keyO y = p then { y with refs := k } else y) = _
      rw [if_neg (fun e => hp (e.symm.trans hy))]
theorem at8_del (C : List On) (p q : ByteArray) : at8 (delR C p) q = if p = q then none else at8 C q := by
  unfold at8 delR
  induction C with
  | nil => split <;> rfl
  | cons y C ih =>
    by_cases hy : keyO y = p
    · rw [List.filter_cons_of_neg (by simp [hy]), ih]
      by_cases hp : p = q
      · rw [if_pos hp, if_pos hp]
      · rw [if_neg hp, if_neg hp, List.find?_cons_of_neg (by simp [hy, hp])]
    · rw [List.filter_cons_of_pos (by simp [hy])]
      by_cases hyq : keyO y = q
      · rw [List.find?_cons_of_pos (by simp [hyq]), List.find?_cons_of_pos (by simp [hyq]), if_neg (fun e => hy (hyq.trans e.symm))]
      · rw [List.find?_cons_of_neg (by simp [hyq]), List.find?_cons_of_neg (by simp [hyq])]
        exact ih
theorem rep_set (h : Rep R C) (hx : x ∈ C) (hg : Good8 C M) : Rep (app R ⟨keyO x, enc k x.data, false⟩) (setR C (keyO x) k) := by
  refine ⟨rises_app h.rises _, fun q hq => ?_⟩
  rw [find_app7, at8_set]
  by_cases hp : keyO x = q
  · subst hp
    rw [if_pos rfl, if_pos rfl, hg.at hx]
    rfl
  · rw [if_neg hp, if_neg hp]
    exact h.look q hq
theorem rep_del (h : Rep R C) : Rep (app R ⟨p, ⟨#[]⟩, true⟩) (delR C p) := by
  refine ⟨rises_app h.rises _, fun q hq => ?_⟩
  rw [find_app7, at8_del]
  by_cases hp : p = q
  · subst hp
    rw [if_pos rfl, if_pos rfl, if_pos rfl]
    rfl
  · rw [if_neg hp, if_neg hp]
    exact h.look q hq
def takenB (C : List On) (low n : Nat) : Bool := C.any (fun x => decide (keyO x = keyN low n))
def freeN (C : List On) (low : Nat) : Nat := (List.range (C.length + 1)).findIdx (fun n => !takenB C low n)
theorem taken_at (C : List On) (low n : Nat) : takenB C low n = (at8 C (keyN low n)).isSome := by
  unfold takenB at8
  rw [Bool.eq_iff_iff, List.any_eq_true, List.find?_isSome]
theorem length_le_of_sub {α : Type} [DecidableEq α] : ∀ {l m : List α}, l.Nodup → (∀ x ∈ l, x ∈ m) → l.length ≤ m.length
  | [], m, _, _ => Nat.zero_le _
  | x :: l, m, hn, hs => by
    obtain ⟨h1, h2⟩ := List.nodup_cons.1 hn
    have hm := hs x (List.mem_cons_self ..)
    have ih := length_le_of_sub (l := l) (m := m.erase x) h2 (fun y hy => by
      refine (List.mem_erase_of_ne (fun e => ?_)).2 (hs y (List.mem_cons_of_mem _ hy))
      subst e
      exact h1 hy)
    have := List.length_erase_of_mem hm
    have := List.length_pos_of_mem hm
    simp only [List.length_cons]
    omega
theorem taken_num (h : Good8 C M) {low n : Nat} (hl : low < 256) (ht : takenB C low n = true) : n ∈ C.map On.n := by
  obtain ⟨x, hx, he⟩ := List.any_eq_true.1 ht
  have hxl : x.low < 256 := by rw [(h.each x hx).1]; exact lowO_lt _
  have := keyN_inj hxl hl (of_decide_eq_true he)
  exact List.mem_map.2 ⟨x, hx, this.2⟩
theorem free_lt (h : Good8 C M) {low : Nat} (hl : low < 256) : freeN C low < C.length + 1 := by
  have hlen : (List.range (C.length + 1)).length = C.length + 1 := List.length_range
  have : freeN C low < (List.range (C.length + 1)).length := by
    refine List.findIdx_lt_length_of_exists ?_
    refine Classical.byContradiction (fun hno => ?_)
    have hall : ∀ n ∈ List.range (C.length + 1), takenB C low n = true := fun n hn => by
      cases ht : takenB C low n with
      | true => rfl
      | false => exact absurd ⟨n, hn, by rw [ht]; rfl⟩ hno
    have := length_le_of_sub (l := List.range (C.length + 1)) (m := C.map On.n) List.nodup_range (fun n hn => taken_num h hl (hall n hn))
    rw [List.length_map, hlen] at this
    omega
  rwa [hlen] at this
theorem free_not (h : Good8 C M) {low : Nat} (hl : low < 256) : takenB C low (freeN C low) = false := by
  have hlt := free_lt h hl
  have hlen : (List.range (C.length + 1)).length = C.length + 1 := List.length_range
  have := List.findIdx_getElem (xs := List.range (C.length + 1)) (p := fun n => !takenB C low n) (w := by rw [hlen]; exact hlt)
  rw [List.getElem_range] at this
  exact (Bool.not_eq_true' _).mp this
theorem free_below {low n : Nat} (h : n < freeN C low) : takenB C low n = true := by
  have hlen : (List.range (C.length + 1)).length = C.length + 1 := List.length_range
  have hle : freeN C low ≤ (List.range (C.length + 1)).length := List.findIdx_le_length
  have := List.not_of_lt_findIdx (xs := List.range (C.length + 1)) (p := fun n => !takenB C low n) h
  rw [List.getElem_range] at this
  cases ht : takenB C low n with
  | true => rfl
  | false => rw [ht] at this; cases this
theorem free_is (h : Good8 C M) {low n : Nat} (hl : low < 256) (hn : takenB C low n = false) (hb : ∀ m, m < n → takenB C low m = true) : freeN C low = n := by
  rcases Nat.lt_trichotomy (freeN C low) n with hh | hh | hh
  · have := free_not h hl
    rw [hb _ hh] at this
    cases this
  · exact hh
  · rw [free_below hh] at hn
    cases hn
def newO (C : List On) (d : ByteArray) : On := ⟨lowO d, freeN C (lowO d), 1, d⟩
theorem good_new (h : Good8 C M) {d : ByteArray} (hd : of8 C d = none) (hs : d.size ≤ 140737488351232) : Good8 (C ++ [newO C d]) (M + 1) := by
  have hlen := h.len
  have hfl := free_lt h (lowO_lt d)
  have hfn := free_not h (lowO_lt d)
  refine ⟨?_, ?_, ?_, ?_⟩
  · refine List.pairwise_append.2 ⟨h.keys, List.pairwise_singleton _ _, fun x hx y hy e => ?_⟩
    rw [List.mem_singleton] at hy
    subst hy
    have : takenB C (lowO d) (freeN C (lowO d)) = true := List.any_eq_true.2 ⟨x, hx, decide_eq_true e⟩
    rw [hfn] at this
    cases this
  · refine List.pairwise_append.2 ⟨h.datas, List.pairwise_singleton _ _, fun x hx y hy e => ?_⟩
    rw [List.mem_singleton] at hy
    subst hy
    exact of8_none hd x hx e
  · intro x hx
    rcases List.mem_append.1 hx with hx | hx
    · obtain ⟨h1, h2, h3, h4, h5⟩ := h.each x hx
      exact ⟨h1, h2, by omega, by omega, h5⟩
    · rw [List.mem_singleton] at hx
      subst hx
      exact ⟨rfl, Nat.le_refl _, by show 1 ≤ M + 1; omega, by show freeN C (lowO d) ≤ M + 1; omega, hs⟩
  · rw [List.length_append, List.length_singleton]
    omega
theorem rep_new (h : Rep R C) (hg : Good8 C M) {d : ByteArray} : Rep (app R ⟨keyO (newO C d), enc 1 d, false⟩) (C ++ [newO C d]) := by
  refine ⟨rises_app h.rises _, fun q hq => ?_⟩
  have hfn := free_not hg (lowO_lt d)
  rw [taken_at] at hfn
  have hno : at8 C (keyO (newO C d)) = none := Option.isSome_eq_false_iff.1 hfn |> Option.isNone_iff_eq_none.1
  rw [find_app7]
  have e : at8 (C ++ [newO C d]) q = (at8 C q).or (if keyO (newO C d) = q then some (newO C d) else none) := by
    unfold at8
    rw [List.find?_append]
    congr 1
    by_cases hp : keyO (newO C d) = q <;> simp [List.find?_cons, hp]
  rw [e]
  by_cases hp : keyO (newO C d) = q
  · rw [if_pos hp, if_pos hp, ← hp, hno]
    rfl
  · rw [if_neg hp, if_neg hp, Option.or_none]
    exact h.look q hq
def putC (C : List On) (d : ByteArray) : List On × ByteArray := match of8 C d with
  | some x => (setR C (keyO x) (x.refs + 1), keyO x)
  | none => (C ++ [newO C d], keyO (newO C d))
def relC (C : List On) (p : ByteArray) : List On × Bool := match at8 C p with
  | some x => (if x.refs = 1 then delR C p else setR C p (x.refs - 1), true)
  | none => (C, false)
theorem rep_key (h : Rep R C) (hb : beg pB2 p = true) (hf : (find R p).isSome = true) : ∃ x ∈ C, keyO x = p ∧ find R p = some (rw7 (keyO x) (enc x.refs x.data)) := by
  have := h.look p hb
  cases ha : at8 C p with
  | none => rw [this, ha] at hf; cases hf
  | some x =>
    rw [ha] at this
    obtain ⟨h1, h2⟩ := at8_some ha
    exact ⟨x, h1, h2, this⟩
theorem rep_mem (h : Rep R C) (hg : Good8 C M) (hx : x ∈ C) : find R (keyO x) = some (rw7 (keyO x) (enc x.refs x.data)) := by
  rw [h.look (keyO x) (beg_key x.low x.n), hg.at hx]
  rfl
theorem good_put (h : Good8 C M) {d : ByteArray} (hs : d.size ≤ 140737488351232) : Good8 (putC C d).1 (M + 1) := by
  unfold putC
  cases hd : of8 C d with
  | none => exact good_new h hd hs
  | some x =>
    obtain ⟨hx, _⟩ := of8_some hd
    have := (h.each x hx).2.2.1
    exact good_set (h.mono (Nat.le_succ M)) (by omega) (by omega)
end
end Go.Proofs.YthejpojmmokinaaGreatDoor.Bl

namespace Go.Proofs.YthejpojmmokinaaGreatDoor.Tb
open Go.RowKit Tx Pm Dk Wm Wr Wl Pl
set_option linter.unusedVariables false
set_option linter.unusedSimpArgs false
set_option linter.unnecessarySimpa false
theorem oldK_len (l : List Ch) (K : List ByteArray) : (oldK l K).length ≤ K.length := List.length_filter_le _ _
theorem newK_len (p : ByteArray) (l : List Ch) : (newK p l).length ≤ l.length := by unfold newK; rw [List.length_map]; exact List.length_filter_le _ _
theorem take_snoc {α : Type} {l : List α} {k : Nat} {x : α} (h : l[k]? = some x) : l.take (k + 1) = l.take k ++ [x] := by
  have hk := (List.getElem?_eq_some_iff.1 h).1
  rw [List.take_succ_eq_append_getElem hk]
  rw [List.getElem?_eq_getElem hk] at h
  injection h with h
  rw [h]
set_option maxRecDepth 100000 in
set_option maxHeartbeats 4000000 in
theorem bKeys_any (u t m pm : Nat) (vO : Value) (L : List It) (l : List Ch) (p : ByteArray) (w : World) {G : Nat → Prop} (hB : BAt u pm (some ⟨t, 0, none⟩) vO w G l) (ht : w.cell? ⟨t, 3, none⟩ = some (.map (some m))) (hm : Mo w m L) (hR : Rises L) (hn : L.length ≤ 100000000) (hln : l.length ≤ 100000000) (hps : ∀ x ∈ L, x.path.size ≤ 1000000000000) (hks : ∀ c ∈ l, c.key.size ≤ 1000000000000) (hp : p.size ≤ 1000000000000) :
    Calls Tryz.prog 22 #[.pointer (some ⟨u, 0, none⟩), .string p] w (ListTo (held (pre7 p) (all7 L l)) w) := by
  obtain ⟨i0, hi, hz0, hz1, hz2⟩ := info_parts Tx.info9
  obtain ⟨c0, c1, c2⟩ := hB.cell
  have ck := tKeys_any t m L p w ht hm hR (by omega) hps hp
  have HPERM := Lib.hid (perm_keys hR hB.once p)
  have HRS := Lib.hid (held_rises (φ := pre7 p) (rises_all hR l))
  have HKL := Lib.hid (held_len (pre7 p) L)
  have HKS : Hid (∀ k ∈ held (pre7 p) L, k.size ≤ 1000000000000) := Lib.hid (fun k hk => by
    obtain ⟨x, hx, rfl⟩ := List.mem_map.1 hk
    exact hps x (List.mem_filter.1 hx).1)
  have HCS := Lib.hid hks
  have HB := Lib.hid hB
  obtain ⟨aO, cO, hvO, hO1, hO2, hO3⟩ := hB.ops.form
  obtain ⟨nO, hnO⟩ : ∃ n, n = l.length := ⟨_, rfl⟩
  rw [← hnO] at hvO hO1 hO2 hln
  have HOP := Lib.hid hO1
  have HNO := Lib.hid hnO
  have hul : u < w.heap.size := World.block_lt_of_cell? w _ c0
  generalize held (pre7 p) L = K at ck HPERM HKL HKS
  obtain ⟨n, hnK⟩ : ∃ n, n = K.length := ⟨_, rfl⟩
  have HNK := Lib.hid hnK
  have hnb : n ≤ 100000000 := by have := HKL.out; omega
  subst hvO
  clear hB hm ht hR hps hks hO1 hnO hn hnK HKL
  go_enter Tryz.func22, Tryz.ntmps22
  go_wp2_with fail
  go_at_call 39
  refine ck.mono ?_
  rintro e w1 ⟨vK, rfl, hK, hb1⟩
  obtain ⟨aK, cK, hv, hsK, hcK, _⟩ := hK.form
  rw [← HNK.out] at hv hsK hcK
  have HSK := Lib.hid (fun W (hW : Below w1.heap.size w1 W) => hsK.below hW)
  have HB1 := Lib.hid (HB.out.below hb1)
  have HOP1 := Lib.hid (HOP.out.below hb1)
  have d1 := (hb1.cell (p := ⟨u, 1, none⟩) hul).trans c1
  have d2 := (hb1.cell (p := ⟨u, 2, none⟩) hul).trans c2
  have hul1 : u < w1.heap.size := Nat.lt_of_lt_of_le hul hb1.size
  clear hK hsK ck c0 c1 c2
  subst hv
  go_wp2_with fail
  go_loopw [5, 21] (fun v iv wr => ∃ k T : Nat, k ≤ n ∧ iv = .int .i64 k ∧ Hid ((oldK l (K.take k)).length = T) ∧ T ≤ 100000000 ∧ wr.ownsRow w1.heap.size 9 1 v T ((oldK l (K.take k)).map sv) ∧ Below w1.heap.size w1 wr) (fun _ iv _ => n - (intOf iv).toNat)
  case atStart => exact ⟨0, 0, Nat.zero_le _, rfl, rfl, by omega, World.ownsRow_nil _ _ _ _, Below.refl _ _⟩
  case round =>
    obtain ⟨k, T, hk, rfl, hT, hTm, hown, hB⟩ := hrel
    have e1 := (hB.cell (p := ⟨u, 1, none⟩) hul1).trans d1
    have e2 := (hB.cell (p := ⟨u, 2, none⟩) hul1).trans d2
    by_cases hlt : k < n
    · obtain ⟨x, hx⟩ : ∃ x, K[k]? = some x := ⟨_, List.getElem?_eq_getElem (by rw [← HNK.out]; exact hlt)⟩
      obtain ⟨_, hne⟩ := HSK.out _ hB
      obtain ⟨bk, off, rfl, hbk, hcc⟩ := hne.resolve_left (by omega)
      have g0 := hcc k x hx
      have hkz : (k : Int) < (n : Int) := by omega
      have hl := (HB1.out.plc.kept (hB.block pm HB1.out.plc.lt)).look (p := x) (by have := HKS.out x (List.mem_of_getElem? hx); unfold maxLen; omega)
      unfold placeV at hl
      have htk := oldK_snoc l (K.take k) x
      rw [← take_snoc hx] at htk
      have hle := oldK_len l (K.take (k + 1))
      have hle2 : (K.take (k + 1)).length ≤ n := by rw [List.length_take, HNK.out]; omega
      cases ha : at7 l x with
      | none =>
        rw [ha] at hl
        rw [ha, Option.isNone_none, if_pos rfl] at htk
        have HTK := Lib.hid htk
        have hT2 : T + 1 ≤ 100000000 := by
          have := congrArg List.length htk
          rw [List.length_append, List.length_singleton, hT.out] at this
          omega
        have HLN := Lib.hid (show (oldK l (K.take (k + 1))).length = T + 1 by rw [htk, List.length_append, hT.out]; rfl)
        clear hx hcc hne htk ha hle hle2
        go_wp2_with (at_builtin; refine wpList_append_own _ rfl _ _ 38 rfl w1.heap.size 9 i0 (.string ⟨#[]⟩) 1 16 Tryz.underlying38 hi hz0 hz1 hz2 rfl (by decide) _ _ _ rfl (hown.alloc _) ⟨wr.heap.size, 0, none⟩ 1 1 [sv x] rfl rfl ?c1_2 ?c2_2 ?c3_2 ?c4_2 ?c5_2 ?_)
        case c1_2 => first | exact cell_one_new _ _ _ | exact fun _ _ h => h
        case c2_2 => first | exact sv_one [x] | rfl
        case c3_2 => unfold maxLen; omega
        case c4_2 => omega
        case c5_2 => first | (have := hB.size; simp; omega) | (have := hB.size; omega)
        intro v' w6 hown6 hgrow6 _
        have hB6 : Below w1.heap.size w1 w6 := (hB.alloc hB.size _).grown hgrow6 (by simp; have := hB.size; omega) (fun g hg => (hown.lt g hg).1)
        have hO6 : w6.ownsRow w1.heap.size 9 1 v' (T + 1) ((oldK l (K.take (k + 1))).map sv) := by
          rw [HTK.out, List.map_append]
          exact hown6
        clear hown6 hgrow6 hown hB e1 e2
        go_wp2_with fail
        go_roundw
        case rel => exact ⟨k + 1, T + 1, by omega, by go_num, HLN, hT2, hO6, hB6⟩
        case measure => simp [intOf]; omega
      | some i =>
        rw [ha] at hl
        rw [ha, Option.isNone_some, if_neg (by decide), List.append_nil] at htk
        have HLN := Lib.hid (show (oldK l (K.take (k + 1))).length = T by rw [htk]; exact hT.out)
        have HO := Lib.hid (show wr.ownsRow w1.heap.size 9 1 u5 T ((oldK l (K.take (k + 1))).map sv) by rw [htk]; exact hown)
        clear hx hcc hne htk ha hle hle2 hown
        go_wp2_with fail
        go_roundw
        case rel => exact ⟨k + 1, T, by omega, by go_num, HLN, hTm, HO.out, hB⟩
        case measure => simp [intOf]; omega
    · obtain rfl : k = n := by omega
      have eK : K.take k = K := List.take_of_length_le (by rw [HNK.out]; exact Nat.le_refl _)
      rw [eK] at hT hown
      have HOP2 := Lib.hid (fun W (hW : Below w1.heap.size w1 W) => HOP1.out.below hW)
      clear HSK HKS hlt eK
      go_wp2_with fail
      go_loopw [5, 46] (fun v iv wr2 => ∃ q T2 : Nat, q ≤ nO ∧ iv = .int .i64 q ∧ Hid ((oldK l K ++ newK p (l.take q)).length = T2) ∧ T2 ≤ 1000000000 ∧ wr2.ownsRow w1.heap.size 9 1 v T2 ((oldK l K ++ newK p (l.take q)).map sv) ∧ Below w1.heap.size w1 wr2) (fun _ iv _ => nO - (intOf iv).toNat)
      case atStart => exact ⟨0, T, Nat.zero_le _, rfl, by rw [List.take_zero]; show (oldK l K ++ []).length = T; rw [List.append_nil]; exact hT.out, by omega, by rw [List.take_zero]; show wr.ownsRow w1.heap.size 9 1 _ T ((oldK l K ++ []).map sv); rw [List.append_nil]; exact hown, hB⟩
      case round =>
        clear hown hB e1 e2
        obtain ⟨q, T2, hq, rfl, hT2, hTm2, hown, hB⟩ := hrel
        by_cases hltq : q < nO
        · obtain ⟨x, hx⟩ : ∃ x, l[q]? = some x := ⟨_, List.getElem?_eq_getElem (by rw [← HNO.out]; exact hltq)⟩
          obtain ⟨g, off, rfl, hg, g0, g1, g2⟩ := (HOP2.out _ hB).nth hx
          have hqz : (q : Int) < (nO : Int) := by omega
          have htk := newK_snoc p (l.take q) x
          rw [← take_snoc hx] at htk
          have hxk := HCS.out x (List.mem_of_getElem? hx)
          have hle := newK_len p (l.take (q + 1))
          have hle1 : (l.take (q + 1)).length ≤ nO := by rw [List.length_take, HNO.out]; omega
          have hle2 : (oldK l K).length ≤ 100000000 := by rw [hT.out]; exact hTm
          obtain ⟨key, val, gone⟩ := x
          simp only at g0 g1 g2 htk hxk
          have hB2 := hB.alloc hB.size (.cells #[.string key, .string val, .bool gone] 64)
          have hO2 := hown.alloc (.cells #[.string key, .string val, .bool gone] 64)
          have hC3 : Cells3 wr.heap.size key val gone (wr.alloc (.cells #[.string key, .string val, .bool gone] 64)) := cells3_new wr ⟨key, val, gone⟩ _
          have hlt2 : wr.heap.size < (wr.alloc (.cells #[.string key, .string val, .bool gone] 64)).heap.size := by simp
          have hsz2 : w1.heap.size ≤ (wr.alloc (.cells #[.string key, .string val, .bool gone] 64)).heap.size := hB2.size
          clear hx
          cases gone
          · cases hbg : beg p key
            · rw [hbg] at htk
              rw [if_neg (by decide), List.append_nil] at htk
              have HLN := Lib.hid (show (oldK l K ++ newK p (l.take (q + 1))).length = T2 by rw [htk]; exact hT2.out)
              have HO := Lib.hid (show (wr.alloc (.cells #[.string key, .string val, .bool false] 64)).ownsRow w1.heap.size 9 1 u5 T2 ((oldK l K ++ newK p (l.take (q + 1))).map sv) by rw [htk]; exact hO2)
              have cx := fun W => hasPrefix_any key p W (by omega) (by omega)
              unfold beg at hbg
              rw [hbg] at cx
              clear htk hO2 hown hB hbg hle hle1 hle2
              obtain ⟨f0, f1, f2⟩ := hC3
              go_wp2_with fail
              go_at_call 40
              refine (cx _).mono ?_
              rintro e w5 ⟨rfl, rfl⟩
              go_wp2_with fail
              go_roundw
              case rel => exact ⟨q + 1, T2, by omega, by go_num, HLN, hTm2, HO.out, hB2⟩
              case measure => simp [intOf]; omega
            · rw [hbg] at htk
              rw [if_pos (by decide)] at htk
              have HTK := Lib.hid htk
              have hT3 : T2 + 1 ≤ 1000000000 := by
                have := congrArg List.length htk
                rw [List.length_append, List.length_singleton] at this
                have h3 := hT2.out
                rw [List.length_append] at h3
                omega
              have HLN := Lib.hid (show (oldK l K ++ newK p (l.take (q + 1))).length = T2 + 1 by rw [htk, ← List.append_assoc, List.length_append, hT2.out]; rfl)
              have cx := fun W => hasPrefix_any key p W (by omega) (by omega)
              unfold beg at hbg
              rw [hbg] at cx
              clear htk hown hB hbg hle hle1 hle2
              obtain ⟨f0, f1, f2⟩ := hC3
              go_wp2_with fail
              go_at_call 40
              refine (cx _).mono ?_
              rintro e w5 ⟨rfl, rfl⟩
              go_wp2_with (at_builtin; refine wpList_append_own _ rfl _ _ 38 rfl w1.heap.size 9 i0 (.string ⟨#[]⟩) 1 16 Tryz.underlying38 hi hz0 hz1 hz2 rfl (by decide) _ _ _ rfl (hO2.alloc _) ⟨wr.heap.size + 1, 0, none⟩ 1 1 [sv key] rfl rfl ?c1_2 ?c2_2 ?c3_2 ?c4_2 ?c5_2 ?_)
              case c1_2 => exact (World.size_alloc wr (.cells #[.string key, .string val, .bool false] 64)) ▸ cell_one_new (wr.alloc (.cells #[.string key, .string val, .bool false] 64)) (sv key) 9
              case c2_2 => first | exact sv_one [key] | rfl
              case c3_2 => unfold maxLen; omega
              case c4_2 => omega
              case c5_2 => exact Nat.le_trans hB2.size (((Below.refl _ _).alloc (Nat.le_refl _) _).size)
              intro v' w6 hown6 hgrow6 _
              have hB6 : Below w1.heap.size w1 w6 := (hB2.alloc hB2.size _).grown hgrow6 (Nat.le_trans hB2.size (((Below.refl _ _).alloc (Nat.le_refl _) _).size)) (fun g hg => (hO2.lt g hg).1)
              have hO6 : w6.ownsRow w1.heap.size 9 1 v' (T2 + 1) ((oldK l K ++ newK p (l.take (q + 1))).map sv) := by
                rw [HTK.out]
                simp only [List.map_append, List.map_cons, List.map_nil, List.append_assoc] at hown6 ⊢
                exact hown6
              clear hown6 hgrow6 hO2 hB2
              go_wp2_with fail
              go_roundw
              case rel => exact ⟨q + 1, T2 + 1, by omega, by go_num, HLN, hT3, hO6, hB6⟩
              case measure => simp [intOf]; omega
          · rw [Bool.not_true, Bool.false_and, if_neg (by decide), List.append_nil] at htk
            have HLN := Lib.hid (show (oldK l K ++ newK p (l.take (q + 1))).length = T2 by rw [htk]; exact hT2.out)
            have HO := Lib.hid (show (wr.alloc (.cells #[.string key, .string val, .bool true] 64)).ownsRow w1.heap.size 9 1 u5 T2 ((oldK l K ++ newK p (l.take (q + 1))).map sv) by rw [htk]; exact hO2)
            clear htk hO2 hown hB hle hle1 hle2
            go_wp2_with fail
            go_roundw
            case rel => exact ⟨q + 1, T2, by omega, by go_num, HLN, hTm2, HO.out, hB2⟩
            case measure => simp [intOf]; omega
        · obtain rfl : q = nO := by omega
          have el : l.take q = l := List.take_of_length_le (by rw [HNO.out]; exact Nat.le_refl _)
          rw [el] at hT2 hown
          have hO : Texts wr w.heap.size _ (oldK l K ++ newK p l) := own_toT (Dk.own_base hown hb1.size) hT2.out
          have hol : (oldK l K ++ newK p l).length ≤ 4000000000 := by rw [hT2.out]; omega
          have hBw := Tx.below_call hb1 hB
          have cs := sortS_any _ (oldK l K ++ newK p l) wr w.heap.size hO hBw.size hol
          clear hO hown hT2 hB hol
          go_wp2_with (go_at_call 41; refine cs.mono ?_; rintro e w5 ⟨rfl, ts, hts, hso, htx, hb5⟩)
          go_ret
          obtain rfl : ts = held (pre7 p) (all7 L l) := rising_perm (hts.trans HPERM.out) hso HRS.out
          exact ⟨_, rfl, htx, hBw.trans hb5⟩
end Go.Proofs.YthejpojmmokinaaGreatDoor.Tb

namespace Go.Proofs.YthejpojmmokinaaGreatDoor.Bl
open Go.RowKit Tx Pm Dk Wm Wr Wl Pl Tb
set_option linter.unusedVariables false
set_option linter.unusedSimpArgs false
set_option linter.unnecessarySimpa false
def OwF {α : Type} (Obj : World → (Nat → Prop) → α → Prop) (z : World × (Nat → Prop)) (x : α) (W : World) : Prop := LeftA Obj z.1 z.2 x W
section
variable {α β : Type} {Obj : World → (Nat → Prop) → α → Prop} {Obj' : World → (Nat → Prop) → β → Prop} {z : World × (Nat → Prop)} {x : α} {y : β} {W : World}
theorem OwF.chg (h : OwF Obj z x W) : Chg z.2 z.1 W := by
  obtain ⟨F, _, h2, _⟩ := h
  exact h2
theorem OwF.call {f : FuncId} {args : Array Value} {P : Ending → Prop} (h : OwF Obj z x W) (hc : ∀ F, Obj W F x → Calls Tryz.prog f args W fun e w' => P e ∧ LeftA Obj' W F y w') : Calls Tryz.prog f args W fun e w' => P e ∧ OwF Obj' z y w' := by
  obtain ⟨F, h1, h2, h3⟩ := h
  refine (hc F h1).mono fun e w' ⟨hp, F', q1, q2, q3⟩ => ⟨hp, F', q1, h2.trans q2 h3, fun g hg => ?_⟩
  rcases q3 g hg with hh | hh
  · exact h3 g hh
  · exact .inr (Nat.le_trans h2.size hh)
theorem OwF.kept (hk : ∀ {w w1 : World} {F : Nat → Prop} {x : α}, Obj w F x → Below w.heap.size w w1 → Obj w1 F x) {w' : World} (h : OwF Obj z x W) (hb : Below W.heap.size W w') : OwF Obj z x w' := by
  obtain ⟨F, h1, h2, h3⟩ := h
  exact ⟨F, hk h1 hb, h2.then (Chg.of_below hb), h3⟩
end
section
variable {w0 : World × (Nat → Prop)} {W : World} {b j t m u k : Nat} {x y : Tst} {l : List Ch}
theorem owf_below {w' : World} (h : OwF (Tu b j t m u) w0 (x, l) W) (hb : Below W.heap.size W w') : OwF (Tu b j t m u) w0 (x, l) w' := OwF.kept (Obj := Tu b j t m u) (fun h hb => tb_below h hb) h hb
theorem f_batch {f : FuncId} {args : Array Value} {l' : List Ch} {P : Ending → Prop} (h : OwF (Tu b j t m u) w0 (x, l) W) (hc : ∀ pm vO G, BAt u pm (some ⟨t, 0, none⟩) vO W G l → Calls Tryz.prog f args W fun e w' => P e ∧ LeftA (Bn u (some ⟨t, 0, none⟩)) W G l' w') :
    Calls Tryz.prog f args W fun e w' => P e ∧ OwF (Tu b j t m u) w0 (x, l') w' :=
  h.call (fun H ⟨F, G, ⟨Fj, h1⟩, ⟨pm, vO, h2⟩, hd, hH⟩ => (hc pm vO G h2).mono fun e w' hh => ⟨hh.1, by
    obtain ⟨G', q, c, n⟩ := hh.2
    refine ⟨fun i => F i ∨ G' i, ⟨F, G', ⟨Fj, h1.kept (fun i hi => c.block i (h1.lt i hi) (hd i hi))⟩, q, fun i hi hg => ?_, fun i => Iff.rfl⟩, c.mono (fun i hi => (hH i).2 (.inr hi)), fun g hg => ?_⟩
    · rcases n i hg with hh | hh
      · exact hd i hi hh
      · have := h1.lt i hi; omega
    · rcases hg with hg | hg
      · exact .inl ((hH g).2 (.inl hg))
      · exact (n g hg).imp (fun hh => (hH g).2 (.inr hh)) id⟩)
theorem f_put {key val : ByteArray} (h : OwF (Tu b j t m u) w0 (x, l) W) (hk : key.size ≤ 1000000000000) (hl : l.length < 1000000000) : Calls Tryz.prog 10 #[.pointer (some ⟨u, 0, none⟩), .string key, .string val] W fun e w' => e = .returned (.tuple #[]) ∧ OwF (Tu b j t m u) w0 (x, bat l ⟨key, val, false⟩) w' :=
  f_batch h (fun pm vO G hB => bPut_any u pm _ vO key val W hB hk hl)
theorem f_drop {key : ByteArray} (h : OwF (Tu b j t m u) w0 (x, l) W) (hk : key.size ≤ 1000000000000) (hl : l.length < 1000000000) : Calls Tryz.prog 37 #[.pointer (some ⟨u, 0, none⟩), .string key] W fun e w' => e = .returned (.tuple #[]) ∧ OwF (Tu b j t m u) w0 (x, bat l ⟨key, ⟨#[]⟩, true⟩) w' :=
  f_batch h (fun pm vO G hB => bDrop_any u pm _ vO key W hB hk hl)
theorem f_bget {key : ByteArray} (h : OwF (Tu b j t m u) w0 (x, l) W) (hk : key.size ≤ 1000000000000000) : Calls Tryz.prog 38 #[.pointer (some ⟨u, 0, none⟩), .string key] W fun e w' => e = .returned (.tuple #[.string (overV x.L l key), .bool (overB x.L l key)]) ∧ Below W.heap.size W w' := by
  obtain ⟨H, ⟨F, G, ⟨Fj, h1⟩, ⟨pm, vO, h2⟩, hd, hH⟩, _, _⟩ := h
  exact bGet_any u t m pm vO x.L l key W h2 h1.cell.2.2.2 h1.rows hk
def Xk (x : Tst) : Prop := x.L.length ≤ 100000000 ∧ ∀ z ∈ x.L, z.path.size ≤ 1000
theorem f_facts (h : OwF (Tu b j t m u) w0 (x, l) W) : Rises x.L ∧ Once l := by
  obtain ⟨H, ⟨F, G, ⟨Fj, h1⟩, ⟨pm, vO, h2⟩, hd, hH⟩, _, _⟩ := h
  exact ⟨h1.rises, h2.once⟩
theorem f_bkeys {p : ByteArray} (h : OwF (Tu b j t m u) w0 (x, l) W) (hx : Xk x) (hl : l.length ≤ 100000000) (hks : ∀ c ∈ l, c.key.size ≤ 1000) (hp : p.size ≤ 1000) : Calls Tryz.prog 22 #[.pointer (some ⟨u, 0, none⟩), .string p] W (ListTo (held (pre7 p) (all7 x.L l)) W) := by
  obtain ⟨H, ⟨F, G, ⟨Fj, h1⟩, ⟨pm, vO, h2⟩, hd, hH⟩, _, _⟩ := h
  exact bKeys_any u t m pm vO x.L l p W h2 h1.cell.2.2.2 h1.rows h1.rises hx.1 hl (fun z hz => by have := hx.2 z hz; omega) (fun c hc => by have := hks c hc; omega) (by omega)
theorem own_owf {α : Type} {Obj : World → (Nat → Prop) → α → Prop} {w : World} {x : α} (h : Own Obj w x W) : ∃ F : Nat → Prop, (∀ i, F i → w.heap.size ≤ i) ∧ OwF Obj (W, F) x W := by
  obtain ⟨F, h1, h2, h3⟩ := h
  exact ⟨F, h2, F, h1, Chg.refl F W, fun g hg => .inl hg⟩
end
end Go.Proofs.YthejpojmmokinaaGreatDoor.Bl

namespace Go.Proofs
open Go.Shelf
def Tryz.itoa_ren : Go.Shelf.Ren := ⟨fun | 171 => 58 | 243 => 81 | 246 => 111 | 283 => 132 | 284 => 133 | 285 => 134 | 286 => 135 | 129 => 92 | 317 => 144 | 318 => 145 | 319 => 146 | 320 => 147 | 337 => 154 | 338 => 155 | n => n, fun | 3 => 3 | 9 => 9 | 2 => 2 | 4 => 4 | 171 => 169 | 0 => 0 | 53 => 125 | 37 => 96 | 5 => 5 | 173 => 171 | 212 => 184 | 51 => 59 | 20 => 20 | 213 => 185 | 46 => 95 | 232 => 189 | 233 => 190 | n => n, fun | 17 => 0 | 18 => 2 | 19 => 3 | n => n⟩
theorem Tryz.itoa : Go.Proofs.LaysM.n171 Tryz.prog Tryz.itoa_ren := {
  mixed := by kernel_rfl
  f129 := Tryz.func92.trans (congrArg some (by kernel_rfl))
  f171 := Tryz.func58.trans (congrArg some (by kernel_rfl))
  f243 := Tryz.func81.trans (congrArg some (by kernel_rfl))
  f246 := Tryz.func111.trans (congrArg some (by kernel_rfl))
  f283 := Tryz.func132.trans (congrArg some (by kernel_rfl))
  f284 := Tryz.func133.trans (congrArg some (by kernel_rfl))
  f285 := Tryz.func134.trans (congrArg some (by kernel_rfl))
  f286 := Tryz.func135.trans (congrArg some (by kernel_rfl))
  f317 := Tryz.func144.trans (congrArg some (by kernel_rfl))
  f318 := Tryz.func145.trans (congrArg some (by kernel_rfl))
  f319 := Tryz.func146.trans (congrArg some (by kernel_rfl))
  f320 := Tryz.func147.trans (congrArg some (by kernel_rfl))
  f337 := Tryz.func154.trans (congrArg some (by kernel_rfl))
  f338 := Tryz.func155.trans (congrArg some (by kernel_rfl))
  t0 := Tryz.underlying0
  a0 := Tryz.isAgg0
  z0 := Tryz.sizeOf0
  v0 := Tryz.zeroValue0
  t2 := Tryz.underlying2
  a2 := Tryz.isAgg2
  z2 := Tryz.sizeOf2
  v2 := Tryz.zeroValue2
  t3 := Tryz.underlying3
  a3 := Tryz.isAgg3
  z3 := Tryz.sizeOf3
  v3 := Tryz.zeroValue3
  t4 := Tryz.underlying4
  a4 := Tryz.isAgg4
  z4 := Tryz.sizeOf4
  v4 := Tryz.zeroValue4
  t5 := Tryz.underlying5
  a5 := Tryz.isAgg5
  z5 := Tryz.sizeOf5
  v5 := Tryz.zeroValue5
  t9 := Tryz.underlying9
  a9 := Tryz.isAgg9
  z9 := Tryz.sizeOf9
  v9 := Tryz.zeroValue9
  t20 := Tryz.underlying20
  a20 := Tryz.isAgg20
  z20 := Tryz.sizeOf20
  v20 := Tryz.zeroValue20
  t37 := Tryz.underlying96
  a37 := Tryz.isAgg96
  z37 := Tryz.sizeOf96
  v37 := Tryz.zeroValue96
  t46 := Tryz.underlying95
  a46 := Tryz.isAgg95
  z46 := Tryz.sizeOf95
  v46 := Tryz.zeroValue95
  t51 := Tryz.underlying59
  a51 := Tryz.isAgg59
  z51 := Tryz.sizeOf59
  v51 := Tryz.zeroValue59
  t53 := Tryz.underlying125
  a53 := Tryz.isAgg125
  z53 := Tryz.sizeOf125
  v53 := Tryz.zeroValue125
  t171 := Tryz.underlying169
  a171 := Tryz.isAgg169
  z171 := Tryz.sizeOf169
  v171 := Tryz.zeroValue169
  t173 := Tryz.underlying171
  a173 := Tryz.isAgg171
  z173 := Tryz.sizeOf171
  v173 := Tryz.zeroValue171
  t212 := Tryz.underlying184
  a212 := Tryz.isAgg184
  z212 := Tryz.sizeOf184
  v212 := Tryz.zeroValue184
  t213 := Tryz.underlying185
  a213 := Tryz.isAgg185
  z213 := Tryz.sizeOf185
  t232 := Tryz.underlying189
  a232 := Tryz.isAgg189
  z232 := Tryz.sizeOf189
  v232 := Tryz.zeroValue189
  t233 := Tryz.underlying190
  a233 := Tryz.isAgg190
  z233 := Tryz.sizeOf190
  v233 := Tryz.zeroValue190
  g17 := by kernel_rfl
  g18 := by kernel_rfl
  g19 := by kernel_rfl
  i0 := by kernel_rfl
  i2 := by kernel_rfl
  i3 := by kernel_rfl
  i4 := by kernel_rfl
  i5 := by kernel_rfl
  i9 := by kernel_rfl
  i20 := by kernel_rfl
  i37 := by kernel_rfl
  i46 := by kernel_rfl
  i51 := by kernel_rfl
  i53 := by kernel_rfl
  i171 := by kernel_rfl
  i173 := by kernel_rfl
  i212 := by kernel_rfl
  i232 := by kernel_rfl
  i233 := by kernel_rfl
  m17 := by kernel_rfl
  m18 := by kernel_rfl
  m19 := by kernel_rfl }
end Go.Proofs

namespace Go.Proofs.YthejpojmmokinaaGreatDoor.Bl
open Go.RowKit Tx Pm Dk Wm Wr Wl Pl Tb
set_option linter.unusedVariables false
set_option linter.unusedSimpArgs false
set_option linter.unnecessarySimpa false
theorem over_find {L : List It} {l : List Ch} {p : ByteArray} : overB L l p = (find (all7 L l) p).isSome := by
  rw [find_all]
  unfold overB after
  cases lastOf l p with
  | none => rfl
  | some c => cases hg : c.gone <;> simp [hg]
theorem over_val {L : List It} {l : List Ch} {p : ByteArray} {x : It} (h : find (all7 L l) p = some x) : overV L l p = x.data := by
  rw [find_all] at h
  unfold overV
  unfold after at h
  cases hl : lastOf l p with
  | none =>
    rw [hl] at h
    show (lookC L p).val = _
    unfold lookC
    rw [show find L p = some x from h]
    rfl
  | some c =>
    rw [hl] at h
    cases hg : c.gone
    · simp only [hg] at h
      injection h with h
      rw [← h]
      rfl
    · simp [hg] at h
def Tab (w : World) : Prop := Lib.TabIs Tryz.prog w "internal/strconv.uint64pow10" .u64 Lib.pow10Tab
theorem Tab.below {w w1 : World} (h : Tab w) (hb : Below w.heap.size w w1) : Tab w1 := Lib.tabBelow_of_tabIs h _ hb
def hexB : ByteArray := ⟨#[48, 49, 50, 51, 52, 53, 54, 55, 56, 57, 97, 98, 99, 100, 101, 102]⟩
theorem hexAt : ∀ i : Fin 16, hexB[i.val]'(by have := i.isLt; have : hexB.size = 16 := rfl; omega) = hexd i.val := by decide +kernel
theorem grp_cat (a b : UInt8) : (⟨#[98, 47]⟩ ++ ⟨#[a, b]⟩ ++ ⟨#[47]⟩ : ByteArray) = ⟨#[98, 47, a, b, 47]⟩ := ba_ext (by rw [app_l, app_l]; rfl)
theorem conv_two (a b : UInt8) (W : World) (g : Nat) (h : W.cell? ⟨g, 0, none⟩ = some (.int .u8 (a.toNat : Int))) (h2 : W.cell? ⟨g, 1, none⟩ = some (.int .u8 (b.toNat : Int))) : (convert 96 9 (.slice (some ⟨g, 0, none⟩) 2 2)).run Tryz.prog W = .ok (.string ⟨#[a, b]⟩) W := by
  exact run_convert_bytes_back W 96 9 5 ⟨g, 0, none⟩ 2 [a, b] Tryz.underlying96 Tryz.underlying5 Tryz.underlying9 (fun j hj => by
    match j, hj with
    | 0, _ => exact h
    | 1, _ => exact h2)
set_option maxRecDepth 100000 in
set_option maxHeartbeats 1000000 in
theorem group_any (s : ByteArray) (w : World) (hs : s.size ≤ 1000000000000000000) :
    Calls Tryz.prog 33 #[.string s] w fun e w' => e = .returned (.string (grp (lowO s))) ∧ Below w.heap.size w w' := by
  have c := Fr.fSum_w s w hs
  have hl := lowO_lt s
  have hlt := Fm.fsum_lt s.data.toList
  unfold lowO at hl ⊢
  generalize Fm.fsum s.data.toList = X at c hl hlt ⊢
  obtain ⟨l, hlX⟩ : ∃ l, l = X % 256 := ⟨_, rfl⟩
  rw [← hlX] at hl ⊢
  go_enter Tryz.func33, Tryz.ntmps33
  go_wp2_with (go_at_call 28; refine c.mono ?_; rintro e w1 ⟨rfl, rfl⟩)
  have e : (X : Int) % 256 = (l : Nat) := by omega
  rw [e]
  have hi1 : 0 ≤ (l : Int) / 16 ∧ (l : Int) / 16 < 16 := by omega
  have hi2 : 0 ≤ (l : Int) % 16 ∧ (l : Int) % 16 < 16 := by omega
  have hz1 : l / 16 < hexB.size := by have : hexB.size = 16 := rfl; omega
  have hz2 : l % 16 < hexB.size := by have : hexB.size = 16 := rfl; omega
  have hc := conv_two (hexB[l / 16]'hz1) (hexB[l % 16]'hz2) (w.alloc (.cells #[.int .u8 ((hexB[l / 16]'hz1).toNat : Int), .int .u8 ((hexB[l % 16]'hz2).toNat : Int)] 5)).drew w.heap.size (by go_simp) (by go_simp)
  have HX1 := Lib.hid (hexAt ⟨l / 16, by omega⟩)
  have HX2 := Lib.hid (hexAt ⟨l % 16, by omega⟩)
  have HB := Lib.hid (fun o => ((Below.refl w.heap.size w).alloc (Nat.le_refl _) o).drew)
  unfold hexB at hc hz1 hz2
  clear e c hlX hlt
  go_region
  all_goals
    go_wp2_with fail
    go_ret
    have e1 := HX1.out
    have e2 := HX2.out
    refine ⟨?_, HB.out _⟩
    unfold grp
    rw [← e1, ← e2]
    exact congrArg (fun x => Ending.returned (.string x)) (grp_cat _ _)
theorem store2 {w1 : World} {B : Nat} {T : TypeId} {v0 v1 : Value} (h : w1.heap[B]? = some (.cells #[v0, v1] T (0, 0))) (x0 x1 : Value) :
    (w1.cell? ⟨B, 0, none⟩ = some v0 ∧ w1.frozen? ⟨B, 0, none⟩ = false) ∧ ((w1.setCell ⟨B, 0, none⟩ x0).cell? ⟨B, 1, none⟩ = some v1 ∧ (w1.setCell ⟨B, 0, none⟩ x0).frozen? ⟨B, 1, none⟩ = false) ∧
    ((w1.setCell ⟨B, 0, none⟩ x0).setCell ⟨B, 1, none⟩ x1).heap[B]? = some (.cells #[x0, x1] T (0, 0)) ∧ Chg (· = B) w1 ((w1.setCell ⟨B, 0, none⟩ x0).setCell ⟨B, 1, none⟩ x1) := by
  have h1 : (w1.setCell ⟨B, 0, none⟩ x0).heap[B]? = some (.cells #[x0, v1] T (0, 0)) := by rw [set_block h]; rfl
  have h2 : ((w1.setCell ⟨B, 0, none⟩ x0).setCell ⟨B, 1, none⟩ x1).heap[B]? = some (.cells #[x0, x1] T (0, 0)) := by rw [set_block h1]; rfl
  refine ⟨⟨?_, ?_⟩, ⟨?_, ?_⟩, h2, (chg_set (b := B) (k := 0) x0).then (chg_set (b := B) (k := 1) x1)⟩
  · unfold World.cell?; rw [h]; rfl
  · unfold World.frozen?; rw [h]; simp
  · unfold World.cell?; rw [h1]; rfl
  · unfold World.frozen?; rw [h1]; simp
theorem infoCt : (Tryz.prog.info? 68).map (·.size) = some 2 := by kernel_rfl
section
variable {w0 : World × (Nat → Prop)} {W : World} {b j t m u M : Nat} {x : Tst} {l : List Ch} {C : List On} {key : ByteArray}
def onV (h : Nat) (d : ByteArray) : Value := .agg #[.int .i64 (h : Nat), .string d]
abbrev nC : Obj := .cells #[.int .i64 0, .string ⟨#[]⟩] 68
set_option maxRecDepth 100000 in
set_option maxHeartbeats 2000000 in
theorem find_not (h : OwF (Tu b j t m u) w0 (x, l) W) (hk : key.size ≤ 500000000000000) (hf : beg pB2 key = true → find (all7 x.L l) key = none) :
    Calls Tryz.prog 34 #[.pointer (some ⟨u, 0, none⟩), .string key] W fun e w' => e = .returned (.tuple #[onV 0 ⟨#[]⟩, .bool false]) ∧ Below W.heap.size W w' := by
  have cx := fun V => hasPrefix_any key pB2 V (by omega) (by decide)
  have hB0 : Below W.heap.size W (W.alloc nC) := (Below.refl _ W).alloc (Nat.le_refl _) _
  have hnew : (W.alloc nC).heap[W.heap.size]? = some nC := heap_alloc_new _ _
  have HB := Lib.hid hB0
  cases hb : beg pB2 key
  · unfold beg at hb
    rw [hb] at cx
    unfold pB2 at cx
    have HN := Lib.hid hnew
    clear hf h hb hB0 hnew
    go_enter Tryz.func34, Tryz.ntmps34
    go_wp2_with (go_at_call 40; refine (cx _).mono ?_; rintro e w1 ⟨rfl, rfl⟩)
    (try simp only [Exit.inBlock, Exit.then])
    refine bodyPost_ret (results_cell_row_tmp rfl _ _ _ _ _ _ _ rfl HN.out Tryz.underlying68 rfl infoCt) rfl ?_
    exact ⟨rfl, HB.out⟩
  · have ho := owf_below h hB0
    have cg := f_bget (key := key) ho (by omega)
    have e1 : overB x.L l key = false := by rw [over_find, hf hb]; rfl
    rw [e1] at cg
    generalize overV x.L l key = V at cg
    unfold beg at hb
    rw [hb] at cx
    unfold pB2 at cx
    have HN := Lib.hid hnew
    clear hf h hb hB0 hnew e1 ho
    go_enter Tryz.func34, Tryz.ntmps34
    go_wp2_with (go_at_call 40; refine (cx _).mono ?_; rintro e w1 ⟨rfl, rfl⟩)
    go_at_call 38
    refine cg.mono ?_
    rintro e w2 ⟨rfl, hb2⟩
    have hn2 : w2.heap[W.heap.size]? = some nC := (hb2.block _ (by simp)).trans HN.out
    obtain ⟨⟨a0, b0⟩, ⟨a1, b1⟩, hb3, hc3⟩ := store2 hn2 (.int .i64 0) (.string ⟨#[]⟩)
    have HC := Lib.hid hc3
    have HB2 := Lib.hid hb2
    clear hc3 hb2 cg cx
    go_wp2_with fail
    (try simp only [Exit.inBlock, Exit.then])
    refine bodyPost_ret (results_cell_row_tmp rfl _ _ _ _ _ _ _ rfl hb3 Tryz.underlying68 rfl infoCt) rfl ?_
    exact ⟨rfl, below_chgB (Tx.below_call HB.out HB2.out) HC.out (Nat.le_refl _)⟩
set_option maxRecDepth 100000 in
set_option maxHeartbeats 4000000 in
theorem find_val {h : Nat} {d : ByteArray} (ho : OwF (Tu b j t m u) w0 (x, l) W) (hk : key.size ≤ 500000000000000) (hbg : beg pB2 key = true) (hf : find (all7 x.L l) key = some (rw7 key (enc h d))) (hh : h ≤ 1000000000000) (hd : d.size ≤ 140737488351232) :
    Calls Tryz.prog 34 #[.pointer (some ⟨u, 0, none⟩), .string key] W fun e w' => e = .returned (.tuple #[onV h d, .bool true]) ∧ Below W.heap.size W w' := by
  have cx := fun V => hasPrefix_any key pB2 V (by omega) (by decide)
  have hB0 : Below W.heap.size W (W.alloc nC) := (Below.refl _ W).alloc (Nat.le_refl _) _
  have hnew : (W.alloc nC).heap[W.heap.size]? = some nC := heap_alloc_new _ _
  have HB := Lib.hid hB0
  have ho1 := owf_below ho hB0
  have cg := f_bget (key := key) ho1 (by omega)
  have e1 : overB x.L l key = true := by rw [over_find, hf]; rfl
  have e2 : overV x.L l key = enc h d := over_val hf
  rw [e1, e2] at cg
  have hes := enc_size (h := h) (d := d) (by omega) (by omega)
  have hesm : (enc h d).size ≤ maxLen := by unfold maxLen; omega
  have hts := tl_size (d := d) (by omega)
  have htm : (⟨(tl d).toArray⟩ : ByteArray).size ≤ maxLen := by unfold maxLen; omega
  have H1 := Lib.hid (enc_rdU (h := h) d (by omega))
  have H2 := Lib.hid (enc_rest h d)
  have H3 := Lib.hid (enc_rdT (d := d) (by omega))
  have HES := Lib.hid hesm
  have HTM := Lib.hid htm
  generalize enc h d = E at cg H1 H2 HES
  unfold beg at hbg
  rw [hbg] at cx
  unfold pB2 at cx
  have HN := Lib.hid hnew
  clear hf ho ho1 hbg hB0 hnew e1 e2 hes hts hesm htm
  go_enter Tryz.func34, Tryz.ntmps34
  go_wp2_with (go_at_call 40; refine (cx _).mono ?_; rintro e w1 ⟨rfl, rfl⟩)
  go_at_call 38
  refine cg.mono ?_
  rintro e w2 ⟨rfl, hb2⟩
  have cn := new_any E w2
  go_wp2_with fail
  go_at_call 52
  refine cn.mono ?_
  rintro e w3 ⟨rfl, rfl⟩
  have cu := uint_any w2.heap.size E _ (rat_new w2 E) HES.out
  rw [H1.out, H2.out] at cu
  have HB2 := Lib.hid hb2
  clear cg cx cn
  go_wp2_with fail
  go_at_call 53
  refine cu.mono ?_
  rintro e w4 ⟨rfl, hR4, hg4⟩
  have ct := text_any w2.heap.size _ w4 hR4 HTM.out
  rw [H3.out] at ct
  have HG4 := Lib.hid hg4
  clear cu hg4
  go_wp2_with fail
  go_at_call 54
  refine ct.mono ?_
  rintro e w5 ⟨rfl, hR5, hg5⟩
  have hB2w : Below W.heap.size W w2 := Tx.below_call HB.out HB2.out
  have hs2 : W.heap.size < w2.heap.size := Nat.lt_of_lt_of_le (by simp) HB2.out.size
  have hB3 : Below W.heap.size W (w2.alloc (.cells #[.string E] 121)) := hB2w.alloc hB2w.size _
  have hB4 := below_chgB hB3 (chg_grown HG4.out) (by omega)
  have hB5 := below_chgB hB4 (chg_grown hg5) (by omega)
  have hne : ∀ i, i = W.heap.size → ¬ i = w2.heap.size := fun i hi => by omega
  have hn2 : w2.heap[W.heap.size]? = some nC := (HB2.out.block _ (by simp)).trans HN.out
  have hn3 : (w2.alloc (.cells #[.string E] 121)).heap[W.heap.size]? = some nC := (((Below.refl w2.heap.size w2).alloc (Nat.le_refl _) _).block _ hs2).trans hn2
  have hn4 := ((chg_grown HG4.out).block W.heap.size (by simp; omega) (by omega)).trans hn3
  have hn5 := ((chg_grown hg5).block W.heap.size (by have := HG4.out.size; simp at this; omega) (by omega)).trans hn4
  obtain ⟨⟨a0, b0⟩, ⟨a1, b1⟩, hb3, hc3⟩ := store2 hn5 (.int .i64 (h : Nat)) (.string d)
  have HC := Lib.hid hc3
  have HB5 := Lib.hid hB5
  clear ct hR4 hR5 hg5 hB2w hB3 hB4 hB5 hn2 hn3 hn4 hn5 hc3
  go_wp2_with fail
  (try simp only [Exit.inBlock, Exit.then])
  refine bodyPost_ret (results_cell_row_tmp rfl _ _ _ _ _ _ _ rfl hb3 Tryz.underlying68 rfl infoCt) rfl ?_
  exact ⟨rfl, below_chgB HB5.out HC.out (Nat.le_refl _)⟩
end
end Go.Proofs.YthejpojmmokinaaGreatDoor.Bl

namespace Go.Proofs.YthejpojmmokinaaGreatDoor.Bl
open Go.RowKit Tx Pm Dk Wm Wr Wl Pl Tb
set_option linter.unusedVariables false
set_option linter.unusedSimpArgs false
set_option linter.unnecessarySimpa false
section
variable {w0 : World × (Nat → Prop)} {W : World} {b j t m u M : Nat} {x : Tst} {l : List Ch} {C : List On} {key : ByteArray}
theorem two_cells {W : World} {a c : ByteArray} {T : TypeId} : ∀ (j : Nat) z, [a, c][j]? = some z → (W.alloc (.cells #[.string a, .string c] T)).cell? ⟨W.heap.size, 0 + j, none⟩ = some (.string z) := by
  intro j z hz
  rw [World.cell?_alloc_at _ _ _ _ rfl]
  match j, hz with
  | 0, hz => simpa using hz
  | 1, hz => simpa using hz
  | j + 2, hz => simp at hz
set_option maxRecDepth 100000 in
set_option maxHeartbeats 2000000 in
theorem keep_any {h : Nat} {d : ByteArray} (ho : OwF (Tu b j t m u) w0 (x, l) W) (hk : key.size ≤ 1000000000000) (hl : l.length < 1000000000) (hh : h ≤ 1000000000000) (hd : d.size ≤ 140737488351232) :
    Calls Tryz.prog 35 #[.pointer (some ⟨u, 0, none⟩), .string key, onV h d] W fun e w' => e = .returned (.tuple #[]) ∧ OwF (Tu b j t m u) w0 (x, bat l ⟨key, enc h d, false⟩) w' := by
  have hB1 : Below W.heap.size W (W.alloc (.cells #[.int .i64 (h : Nat), .string d] 68)) := (Below.refl _ W).alloc (Nat.le_refl _) _
  have cu := fun V => putUint_any (h : Nat) V (by omega) (by omega)
  have eus : us (h : Nat) = vs h := by unfold us; rw [if_neg (by omega)]; rfl
  rw [eus] at cu
  have ct := fun V => putText_any d V (by omega)
  have hes := enc_size (h := h) (d := d) (by omega) (by omega)
  have cj := fun V : World => join_any V.heap.size 0 2 [vs h, ts d] (V.alloc (.cells #[.string (vs h), .string (ts d)] 9)) two_cells (by simp) (by show 2 ≤ _; omega) (Nat.le_refl _) (by show (enc h d).size ≤ _; omega)
  have HO := Lib.hid ho
  have HB1 := Lib.hid hB1
  have hc1 : (W.alloc (.cells #[.int .i64 (h : Nat), .string d] 68)).cell? ⟨W.heap.size, 1, none⟩ = some (.string d) := by go_simp
  have hs1 : W.heap.size < (W.alloc (.cells #[.int .i64 (h : Nat), .string d] 68)).heap.size := by simp
  have HC1 := Lib.hid hc1
  have HS1 := Lib.hid hs1
  clear ho hes eus hB1 hc1 hs1
  unfold onV
  go_enter Tryz.func35, Tryz.ntmps35
  go_wp2_with fail
  go_at_call 55
  refine (cu _).mono ?_
  rintro e w2 ⟨rfl, hb2⟩
  have hc2 := (hb2.cell (p := ⟨W.heap.size, 1, none⟩) HS1.out).trans HC1.out
  have hl2 : W.heap.size < w2.heap.size := Nat.lt_of_lt_of_le HS1.out hb2.size
  have HB2 := Lib.hid (Tx.below_call HB1.out hb2)
  clear hb2 cu
  go_wp2_with fail
  go_at_call 57
  refine (ct _).mono ?_
  rintro e w3 ⟨rfl, hb3⟩
  have HB3 := Lib.hid (Tx.below_call HB2.out hb3)
  have cj3 := cj w3
  clear hb3 ct cj hc2
  go_wp2_with fail
  go_at_call 56
  refine cj3.mono ?_
  rintro e w4 ⟨rfl, hb4⟩
  have hB4 : Below W.heap.size W w4 := Tx.below_call (HB3.out.alloc HB3.out.size _) hb4
  have cp := f_put (key := key) (val := enc h d) (owf_below HO.out hB4) hk hl
  clear cj3 hb4 hB4
  go_wp2_with fail
  go_at_call 10
  refine cp.mono ?_
  rintro e w5 ⟨rfl, ho5⟩
  go_wp2_with fail
  go_end0
  exact ⟨rfl, ho5⟩
theorem grow_below {w : World} (k : Nat) (os : Array Obj) : Below w.heap.size w (Sort.grow (w.drewN k) os) := Lib.below_grow w.heap.size w (Nat.le_refl _) k os
theorem itoa_any (n : Nat) (w : World) (hn : n ≤ 1000000000) (ht : Tab w) : Calls Tryz.prog 58 #[.int .i64 n] w fun e w' => e = .returned (.string (decB n)) ∧ Below w.heap.size w w' := by
  refine (Any.strconv_Itoa Tryz.itoa (n : Int) (by omega) (by omega) w ht).mono ?_
  rintro e w' ⟨rfl, k, os, rfl⟩
  have e1 : Lib.itoa (n : Int) = Lib.decDigits n := by unfold Lib.itoa; rw [if_neg (by omega)]; rfl
  rw [e1]
  exact ⟨rfl, grow_below k os⟩
set_option maxRecDepth 100000 in
set_option maxHeartbeats 2000000 in
theorem free_any {low : Nat} (ho : OwF (Tu b j t m u) w0 (x, l) W) (hR : Rep (all7 x.L l) C) (hg : Good8 C M) (hM : M ≤ 100000000) (hlow : low < 256) (ht : Tab W) :
    Calls Tryz.prog 36 #[.pointer (some ⟨u, 0, none⟩), .string (grp low)] W fun e w' => e = .returned (.string (keyN low (freeN C low))) ∧ Below W.heap.size W w' := by
  have HO := Lib.hid ho
  have HT := Lib.hid ht
  have HF := Lib.hid (show ∀ n, (find (all7 x.L l) (keyN low n)).isSome = takenB C low n from fun n => by
    rw [taken_at, hR.look _ (beg_key low n)]
    cases at8 C (keyN low n) <;> rfl)
  have HN := Lib.hid (free_not hg hlow)
  have hfl := free_lt hg hlow
  have hlen := hg.len
  obtain ⟨N, hN⟩ : ∃ N, N = freeN C low := ⟨_, rfl⟩
  have HFN := Lib.hid hN
  rw [← hN] at hfl
  have hNb : N ≤ 100000000 := by omega
  have hsz : (grp low).size = 5 := rfl
  clear ho hR hg ht hfl hlen hN
  go_enter Tryz.func36, Tryz.ntmps36
  go_wp2_with fail
  go_loopw [5] (fun v wr => ∃ n : Nat, n ≤ N ∧ v = .int .i64 n ∧ Below W.heap.size W wr) (fun v _ => N + 1 - (intOf v).toNat)
  case atStart => exact ⟨0, Nat.zero_le _, rfl, Below.refl _ _⟩
  case round =>
    obtain ⟨n, hn, rfl, hB⟩ := hrel
    have ci := itoa_any n wr (by omega) (HT.out.below hB)
    have hdn := decB_size (n := n) (by omega)
    have hsum : (grp low).size + (decB n).size ≤ 9223372036854775807 := by omega
    go_wp2_with fail
    go_at_call 58
    refine ci.mono ?_
    rintro e w1 ⟨rfl, hb1⟩
    have hB1 := Tx.below_call hB hb1
    have hks := keyN_size low (n := n) (by omega)
    have cg := f_bget (key := keyN low n) (owf_below HO.out hB1) (by omega)
    rw [over_find, HF.out n] at cg
    generalize overV x.L l (keyN low n) = V at cg
    clear ci hb1 hdn hB
    cases htk : takenB C low n with
    | false =>
      rw [htk] at cg
      have hnN : n = N := by
        rcases Nat.lt_or_ge n N with hh | hh
        · rw [HFN.out] at hh
          rw [free_below hh] at htk
          cases htk
        · omega
      have HE := Lib.hid (show keyN low n = keyN low (freeN C low) by rw [hnN, HFN.out])
      clear htk hnN
      go_wp2_with fail
      go_at_call 38
      refine cg.mono ?_
      rintro e w2 ⟨rfl, hb2⟩
      go_wp2_with fail
      go_ret
      rw [← HE.out]
      exact ⟨rfl, Tx.below_call hB1 hb2⟩
    | true =>
      rw [htk] at cg
      have hnN : n < N := by
        rcases Nat.lt_or_ge n N with hh | hh
        · exact hh
        · have e1 : n = freeN C low := by rw [← HFN.out]; omega
          rw [e1, HN.out] at htk
          cases htk
      clear htk
      go_wp2_with fail
      go_at_call 38
      refine cg.mono ?_
      rintro e w2 ⟨rfl, hb2⟩
      have hB2 := Tx.below_call hB1 hb2
      clear hB1 hb2
      go_wp2_with fail
      go_roundw
      case rel => exact ⟨n + 1, by omega, by go_num, hB2⟩
      case measure => simp [intOf]; omega
end
end Go.Proofs.YthejpojmmokinaaGreatDoor.Bl

namespace Go.Proofs.YthejpojmmokinaaGreatDoor.Bl
open Go.RowKit Tx Pm Dk Wm Wr Wl Pl Tb
set_option linter.unusedVariables false
set_option linter.unusedSimpArgs false
set_option linter.unnecessarySimpa false
def cnt (l : List ByteArray) (d : ByteArray) : Nat := l.countP (fun x => decide (x = d))
theorem cnt_snoc (l : List ByteArray) (t d : ByteArray) : cnt (l ++ [t]) d = cnt l d + if t = d then 1 else 0 := by
  unfold cnt
  rw [List.countP_append, List.countP_singleton]
  congr 1
  by_cases he : t = d <;> simp [he]
def puts (l : List ByteArray) : List On := l.foldl (fun C t => (putC C t).1) []
theorem puts_snoc (l : List ByteArray) (t : ByteArray) : puts (l ++ [t]) = (putC (puts l) t).1 := by unfold puts; rw [List.foldl_append]; rfl
theorem good_nil : Good8 [] 0 := ⟨List.Pairwise.nil, List.Pairwise.nil, (fun _ h => by cases h), Nat.le_refl _⟩
theorem good_puts (l : List ByteArray) (h : ∀ x ∈ l, x.size ≤ 140737488351232) : Good8 (puts l) l.length := by
  refine snoc7 (P := fun l => (∀ x ∈ l, x.size ≤ 140737488351232) → Good8 (puts l) l.length) (fun _ => good_nil) (fun l t ih h => ?_) l h
  rw [puts_snoc, List.length_append, List.length_singleton]
  exact good_put (ih (fun x hx => h x (List.mem_append_left _ hx))) (h t (List.mem_append_right _ (List.mem_singleton.2 rfl)))
def keyD (C : List On) (d : ByteArray) : ByteArray := match of8 C d with
  | some x => keyO x
  | none => ⟨#[]⟩
def refD (C : List On) (d : ByteArray) : Nat := match of8 C d with
  | some x => x.refs
  | none => 0
theorem of8_set (C : List On) (p d : ByteArray) (k : Nat) : of8 (setR C p k) d = (of8 C d).map (fun y => if keyO y = p then { y with refs := k } else y) := by
  unfold of8 setR
  rw [List.find?_map]
  have e : ((fun x : On => decide (x.data = d)) ∘ fun y => if keyO y = p then { y with refs := k } else y) = (fun y : On => decide (y.data = d)) := by
    funext y
    show decide ((if keyO y = p then { y with refs := k } else y).data = d) = _
    split <;> rfl
  rw [e]
section
variable {C : List On} {M : Nat}
theorem put_of (hg : Good8 C M) (t d : ByteArray) : of8 (putC C t).1 d = if t = d then some (match of8 C t with | some x => { x with refs := x.refs + 1 } | none => newO C t) else of8 C d := by
  unfold putC
  cases ht : of8 C t with
  | some x =>
    obtain ⟨hx, hd⟩ := of8_some ht
    show of8 (setR C (keyO x) (x.refs + 1)) d = _
    rw [of8_set]
    by_cases he : t = d
    · subst he
      rw [if_pos rfl, ht]
      show some (if keyO x = keyO x then _ else x) = _
      rw [if_pos rfl]
    · rw [if_neg he]
      cases hf : of8 C d with
      | none => rfl
      | some y =>
        obtain ⟨hy, hyd⟩ := of8_some hf
        show some (if keyO y = keyO x then _ else y) = _
        rw [if_neg (fun e => ?_)]
        have h1 := hg.at hx
        have h2 := hg.at hy
        rw [e, h1] at h2
        injection h2 with h2
        exact he (by rw [← hd, ← hyd, h2])
  | none =>
    show of8 (C ++ [newO C t]) d = _
    unfold of8 at ht ⊢
    rw [List.find?_append]
    by_cases he : t = d
    · subst he
      rw [if_pos rfl, ht, List.find?_cons_of_pos (by simp [newO])]
      rfl
    · rw [if_neg he, List.find?_cons_of_neg (by simp [newO, he])]
      show (List.find? _ C).or none = _
      rw [Option.or_none]
theorem put_key (hg : Good8 C M) (t : ByteArray) : (putC C t).2 = keyD (putC C t).1 t := by
  unfold keyD
  rw [put_of hg, if_pos rfl]
  unfold putC
  cases of8 C t <;> rfl
theorem put_keyD (hg : Good8 C M) (t : ByteArray) {d : ByteArray} (hd : (of8 C d).isSome = true) : keyD (putC C t).1 d = keyD C d := by
  unfold keyD
  rw [put_of hg]
  by_cases he : t = d
  · subst he
    rw [if_pos rfl]
    cases h : of8 C t with
    | none => rw [h] at hd; cases hd
    | some x => rfl
  · rw [if_neg he]
theorem put_refD (hg : Good8 C M) (t d : ByteArray) : refD (putC C t).1 d = refD C d + if t = d then 1 else 0 := by
  unfold refD
  rw [put_of hg]
  by_cases he : t = d
  · subst he
    rw [if_pos rfl, if_pos rfl]
    cases of8 C t <;> rfl
  · rw [if_neg he, if_neg he]
    rfl
theorem put_has (hg : Good8 C M) (t d : ByteArray) : (of8 (putC C t).1 d).isSome = (decide (t = d) || (of8 C d).isSome) := by
  rw [put_of hg]
  by_cases he : t = d <;> simp [he]
end
theorem puts_has (l : List ByteArray) (h : ∀ x ∈ l, x.size ≤ 140737488351232) (d : ByteArray) : (of8 (puts l) d).isSome = true ↔ d ∈ l := by
  refine snoc7 (P := fun l => (∀ x ∈ l, x.size ≤ 140737488351232) → ((of8 (puts l) d).isSome = true ↔ d ∈ l)) (fun _ => ⟨(fun h => by cases h), (fun h => by cases h)⟩) (fun l t ih h => ?_) l h
  have h1 : ∀ x ∈ l, x.size ≤ 140737488351232 := fun x hx => h x (List.mem_append_left _ hx)
  rw [puts_snoc, put_has (good_puts l h1), Bool.or_eq_true, ih h1, decide_eq_true_iff, List.mem_append, List.mem_singleton]
  constructor
  · rintro (rfl | h)
    · exact .inr rfl
    · exact .inl h
  · rintro (h | rfl)
    · exact .inr h
    · exact .inl rfl
theorem puts_ref (l : List ByteArray) (h : ∀ x ∈ l, x.size ≤ 140737488351232) (d : ByteArray) : refD (puts l) d = cnt l d := by
  refine snoc7 (P := fun l => (∀ x ∈ l, x.size ≤ 140737488351232) → refD (puts l) d = cnt l d) (fun _ => rfl) (fun l t ih h => ?_) l h
  have h1 : ∀ x ∈ l, x.size ≤ 140737488351232 := fun x hx => h x (List.mem_append_left _ hx)
  rw [puts_snoc, put_refD (good_puts l h1), ih h1, cnt_snoc]
def keysD (l : List ByteArray) : List ByteArray := l.map (keyD (puts l))
theorem keysD_snoc (l : List ByteArray) (t : ByteArray) (h : ∀ x ∈ l, x.size ≤ 140737488351232) : keysD (l ++ [t]) = keysD l ++ [(putC (puts l) t).2] := by
  have hg := good_puts l h
  unfold keysD
  rw [List.map_append, puts_snoc, List.map_singleton, put_key hg]
  congr 1
  exact List.map_congr_left (fun d hd => put_keyD hg t ((puts_has l h d).2 hd))
theorem keysD_len (l : List ByteArray) : (keysD l).length = l.length := List.length_map _
theorem of8_mem {C : List On} {d : ByteArray} (h : (of8 C d).isSome = true) : ∃ x ∈ C, x.data = d ∧ keyD C d = keyO x ∧ refD C d = x.refs := by
  cases hf : of8 C d with
  | none => rw [hf] at h; cases h
  | some x =>
    obtain ⟨h1, h2⟩ := of8_some hf
    exact ⟨x, h1, h2, by unfold keyD; rw [hf], by unfold refD; rw [hf]⟩
theorem keyD_inj {C : List On} {M : Nat} (hg : Good8 C M) {d e : ByteArray} (hd : (of8 C d).isSome = true) (he : (of8 C e).isSome = true) : keyD C d = keyD C e ↔ d = e := by
  constructor
  · intro h
    obtain ⟨x, hx, h1, h2, _⟩ := of8_mem hd
    obtain ⟨y, hy, h3, h4, _⟩ := of8_mem he
    rw [h2, h4] at h
    have e1 := hg.at hx
    rw [h, hg.at hy] at e1
    injection e1 with e1
    rw [← h1, ← h3, e1]
  · intro h; rw [h]
theorem keysD_at {l : List ByteArray} {i : Nat} {d : ByteArray} (h : l[i]? = some d) : (keysD l)[i]? = some (keyD (puts l) d) := by
  unfold keysD
  rw [List.getElem?_map, h]
  rfl
theorem at8_data {C : List On} {M : Nat} (hg : Good8 C M) {d : ByteArray} (hd : (of8 C d).isSome = true) : ∃ x, at8 C (keyD C d) = some x ∧ of8 C d = some x ∧ x.data = d := by
  obtain ⟨x, hx, h1, h2, _⟩ := of8_mem hd
  refine ⟨x, by rw [h2]; exact hg.at hx, ?_, h1⟩
  rw [← h1]
  exact hg.of hx
theorem of8_del {C : List On} {M : Nat} (hg : Good8 C M) {x : On} (hx : x ∈ C) (d : ByteArray) : of8 (delR C (keyO x)) d = if x.data = d then none else of8 C d := by
  by_cases he : x.data = d
  · rw [if_pos he]
    cases hf : of8 (delR C (keyO x)) d with
    | none => rfl
    | some y =>
      obtain ⟨hy, hyd⟩ := of8_some hf
      unfold delR at hy
      obtain ⟨hy1, hy2⟩ := List.mem_filter.1 hy
      have e1 := hg.of hx
      rw [he, ← hyd, hg.of hy1] at e1
      injection e1 with e1
      rw [e1] at hy2
      simp at hy2
  · rw [if_neg he]
    cases hf : of8 C d with
    | none =>
      cases hf2 : of8 (delR C (keyO x)) d with
      | none => rfl
      | some y =>
        obtain ⟨hy, hyd⟩ := of8_some hf2
        unfold delR at hy
        exact absurd hyd (of8_none hf y (List.mem_filter.1 hy).1)
    | some y =>
      obtain ⟨hy, hyd⟩ := of8_some hf
      have hyx : keyO y ≠ keyO x := fun e => by
        have e1 := hg.at hx
        rw [← e, hg.at hy] at e1
        injection e1 with e1
        exact he (by rw [← e1]; exact hyd)
      have hm : y ∈ delR C (keyO x) := by unfold delR; exact List.mem_filter.2 ⟨hy, by simpa using hyx⟩
      have := (good_del (p := keyO x) hg).of hm
      rw [hyd] at this
      exact this
theorem rel_of {C : List On} {M : Nat} (hg : Good8 C M) {t : ByteArray} (ht : (of8 C t).isSome = true) : (relC C (keyD C t)).2 = true ∧
    (∀ d, refD (relC C (keyD C t)).1 d = refD C d - if t = d then 1 else 0) ∧ (∀ d, (of8 (relC C (keyD C t)).1 d).isSome = true → keyD (relC C (keyD C t)).1 d = keyD C d) ∧ (∀ d, (of8 (relC C (keyD C t)).1 d).isSome = ((of8 C d).isSome && (!decide (t = d) || decide (1 < refD C d)))) := by
  obtain ⟨x, h1, h2, h3⟩ := at8_data hg ht
  obtain ⟨hx, hk⟩ := at8_some h1
  obtain ⟨_, hr1, _⟩ := hg.each x hx
  have hrel : relC C (keyD C t) = (if x.refs = 1 then delR C (keyO x) else setR C (keyO x) (x.refs - 1), true) := by unfold relC; rw [h1, hk]
  rw [hrel]
  refine ⟨rfl, ?_⟩
  by_cases hone : x.refs = 1
  · simp only [if_pos hone]
    have hd := of8_del hg hx
    refine ⟨fun d => ?_, fun d hs => ?_, fun d => ?_⟩
    · unfold refD
      rw [hd, h3]
      by_cases he : t = d
      · subst he
        rw [if_pos rfl, if_pos rfl, h2]
        show 0 = x.refs - 1
        omega
      · rw [if_neg he, if_neg he]
        rfl
    · unfold keyD
      rw [hd, h3] at hs ⊢
      by_cases he : t = d
      · rw [if_pos he] at hs
        cases hs
      · rw [if_neg he]
    · rw [hd, h3]
      by_cases he : t = d
      · subst he
        have : refD C t = 1 := by unfold refD; rw [h2]; exact hone
        rw [this]
        simp
      · simp [he]
  · simp only [if_neg hone]
    have hs := of8_set C (keyO x)
    have hy : ∀ d, t ≠ d → of8 (setR C (keyO x) (x.refs - 1)) d = of8 C d := fun d he => by
      rw [hs]
      cases hf : of8 C d with
      | none => rfl
      | some y =>
        obtain ⟨hy, hyd⟩ := of8_some hf
        show some (if keyO y = keyO x then _ else y) = _
        rw [if_neg (fun e => ?_)]
        have e1 := hg.at hx
        rw [← e, hg.at hy] at e1
        injection e1 with e1
        exact he (by rw [← h3, ← hyd, e1])
    have hy2 : of8 (setR C (keyO x) (x.refs - 1)) t = some { x with refs := x.refs - 1 } := by
      rw [hs, h2]
      show some (if keyO x = keyO x then _ else x) = _
      rw [if_pos rfl]
    refine ⟨fun d => ?_, fun d _ => ?_, fun d => ?_⟩
    · unfold refD
      by_cases he : t = d
      · subst he
        rw [hy2, if_pos rfl, h2]
      · rw [hy d he, if_neg he]
        rfl
    · unfold keyD
      by_cases he : t = d
      · subst he
        rw [hy2, h2]
        rfl
      · rw [hy d he]
    · by_cases he : t = d
      · subst he
        have : refD C t = x.refs := by unfold refD; rw [h2]
        rw [hy2, h2, this]
        have : 1 < x.refs := by omega
        simp [this]
      · rw [hy d he]
        simp [he]
end Go.Proofs.YthejpojmmokinaaGreatDoor.Bl

namespace Go.Proofs.YthejpojmmokinaaGreatDoor.Bl
open Go.RowKit Tx Pm Dk Wm Wr Wl Pl Tb
set_option linter.unusedVariables false
set_option linter.unusedSimpArgs false
set_option linter.unnecessarySimpa false
def Bo (b j t m u : Nat) (x : Tst) (Z : List It) (w0 : World × (Nat → Prop)) (C : List On) (M N V : Nat) (W : World) : Prop :=
  ∃ l, OwF (Tu b j t m u) w0 (x, l) W ∧ Rep (all7 x.L l) C ∧ Good8 C M ∧ (∀ p, beg pB2 p = false → find (all7 x.L l) p = find Z p) ∧ l.length ≤ N ∧ (∀ c ∈ l, c.key.size ≤ 1000) ∧ wt l ≤ V
section
variable {w0 : World × (Nat → Prop)} {W : World} {b j t m u M N V : Nat} {x : Tst} {l : List Ch} {C : List On} {Z : List It} {key : ByteArray}
theorem Bo.chg (h : Bo b j t m u x Z w0 C M N V W) : Chg w0.2 w0.1 W := by
  obtain ⟨l, h1, _⟩ := h
  exact h1.chg
def TabZ (w0 : World × (Nat → Prop)) : Prop := ∀ V, Chg w0.2 w0.1 V → Tab V
theorem Bo.good (h : Bo b j t m u x Z w0 C M N V W) : Good8 C M := by
  obtain ⟨l, _, _, h1, _⟩ := h
  exact h1
theorem Bo.below {W1 : World} (h : Bo b j t m u x Z w0 C M N V W) (hb : Below W.heap.size W W1) : Bo b j t m u x Z w0 C M N V W1 := by
  obtain ⟨l, h1, h2⟩ := h
  exact ⟨l, owf_below h1 hb, h2⟩
theorem keyO_beg (y : On) : beg pB2 (keyO y) = true := beg_key _ _
theorem keyO_size (h : Good8 C M) (hM : M ≤ 100000000) {y : On} (hy : y ∈ C) : (keyO y).size ≤ 14 := keyN_size _ (by have := (h.each y hy).2.2.2.1; omega)
theorem bo_keep {W1 : World} {C' : List On} {M' : Nat} {k : Nat} {d : ByteArray} (h1 : OwF (Tu b j t m u) w0 (x, bat l ⟨key, enc k d, false⟩) W1) (hf : Rises x.L ∧ Once l) (hR : Rep (app (all7 x.L l) ⟨key, enc k d, false⟩) C') (hg : Good8 C' M') (hZ : ∀ p, beg pB2 p = false → find (all7 x.L l) p = find Z p)
    (hl : l.length ≤ N) (hks : ∀ c ∈ l, c.key.size ≤ 1000) (hV : wt l ≤ V) (hkb : beg pB2 key = true) (hk : key.size ≤ 14) (hkk : k ≤ 9223372036854775807) (hd : d.size ≤ 140737488351232) : Bo b j t m u x Z w0 C' M' (N + 1) (V + d.size + 100) W1 := by
  refine ⟨_, h1, ?_, hg, fun p hp => ?_, ?_, fun c hc => ?_, ?_⟩
  · rw [all_bat hf.1 hf.2]; exact hR
  · rw [all_bat hf.1 hf.2, find_app7, if_neg (fun e => by rw [show key = p from e] at hkb; rw [hkb] at hp; cases hp)]
    exact hZ p hp
  · have := bat_len l ⟨key, enc k d, false⟩; omega
  · rcases bat_mem hc with rfl | hc
    · show key.size ≤ 1000; omega
    · exact hks c hc
  · have h2 := wt_bat hf.2 ⟨key, enc k d, false⟩
    have h3 := enc_size (h := k) (d := d) hkk (by omega)
    simp only at h2
    omega
theorem bo_drop {W1 : World} {C' : List On} {M' : Nat} (h1 : OwF (Tu b j t m u) w0 (x, bat l ⟨key, ⟨#[]⟩, true⟩) W1) (hf : Rises x.L ∧ Once l) (hR : Rep (app (all7 x.L l) ⟨key, ⟨#[]⟩, true⟩) C') (hg : Good8 C' M') (hZ : ∀ p, beg pB2 p = false → find (all7 x.L l) p = find Z p)
    (hl : l.length ≤ N) (hks : ∀ c ∈ l, c.key.size ≤ 1000) (hV : wt l ≤ V) (hkb : beg pB2 key = true) (hk : key.size ≤ 14) : Bo b j t m u x Z w0 C' M' (N + 1) (V + 100) W1 := by
  refine ⟨_, h1, ?_, hg, fun p hp => ?_, ?_, fun c hc => ?_, ?_⟩
  · rw [all_bat hf.1 hf.2]; exact hR
  · rw [all_bat hf.1 hf.2, find_app7, if_neg (fun e => by rw [show key = p from e] at hkb; rw [hkb] at hp; cases hp)]
    exact hZ p hp
  · have := bat_len l ⟨key, ⟨#[]⟩, true⟩; omega
  · rcases bat_mem hc with rfl | hc
    · show key.size ≤ 1000; omega
    · exact hks c hc
  · have h2 := wt_bat hf.2 ⟨key, ⟨#[]⟩, true⟩
    simp only at h2
    have : (⟨#[]⟩ : ByteArray).size = 0 := rfl
    omega
theorem bo_find (h : Bo b j t m u x Z w0 C M N V W) (hM : M ≤ 100000000) (hk : key.size ≤ 500000000000000) :
    Calls Tryz.prog 34 #[.pointer (some ⟨u, 0, none⟩), .string key] W fun e w' => e = .returned (match at8 C key with | some y => .tuple #[onV y.refs y.data, .bool true] | none => .tuple #[onV 0 ⟨#[]⟩, .bool false]) ∧ Below W.heap.size W w' := by
  obtain ⟨l, h1, h2, h3, h4, h5⟩ := h
  cases ha : at8 C key with
  | none => exact find_not h1 hk (fun hb => by rw [h2.look _ hb, ha]; rfl)
  | some y =>
    obtain ⟨hy, rfl⟩ := at8_some ha
    obtain ⟨_, _, e3, _, e5⟩ := h3.each y hy
    exact find_val h1 hk (keyO_beg y) (rep_mem h2 h3 hy) (by omega) e5
set_option maxRecDepth 100000 in
set_option maxHeartbeats 1000000 in
theorem get_any (h : Bo b j t m u x Z w0 C M N V W) (hM : M ≤ 100000000) (hk : key.size ≤ 500000000000000) :
    Calls Tryz.prog 19 #[.pointer (some ⟨u, 0, none⟩), .string key] W fun e w' => e = .returned (match at8 C key with | some y => .tuple #[.string y.data, .int .i64 0] | none => .tuple #[.string ⟨#[]⟩, .int .i64 11]) ∧ Below W.heap.size W w' := by
  have cf := bo_find h hM hk
  clear h
  generalize at8 C key = oy at cf ⊢
  cases oy with
  | none =>
    simp only at cf ⊢
    unfold onV at cf
    go_enter Tryz.func19, Tryz.ntmps19
    go_wp2_with fail
    go_at_call 34
    refine cf.mono ?_
    rintro e w1 ⟨rfl, hb1⟩
    have HB := Lib.hid hb1
    clear hb1 cf
    go_wp2_with fail
    go_ret2
    exact ⟨rfl, HB.out.alloc HB.out.size _⟩
  | some y =>
    simp only at cf ⊢
    unfold onV at cf
    go_enter Tryz.func19, Tryz.ntmps19
    go_wp2_with fail
    go_at_call 34
    refine cf.mono ?_
    rintro e w1 ⟨rfl, hb1⟩
    have HB := Lib.hid hb1
    clear hb1 cf
    go_wp2_with fail
    go_ret2
    exact ⟨rfl, HB.out.alloc HB.out.size _⟩
set_option maxRecDepth 100000 in
set_option maxHeartbeats 1000000 in
theorem refs_any (h : Bo b j t m u x Z w0 C M N V W) (hM : M ≤ 100000000) (hk : key.size ≤ 500000000000000) :
    Calls Tryz.prog 20 #[.pointer (some ⟨u, 0, none⟩), .string key] W fun e w' => e = .returned (.int .i64 ((match at8 C key with | some y => y.refs | none => 0 : Nat) : Nat)) ∧ Below W.heap.size W w' := by
  have cf := bo_find h hM hk
  clear h
  generalize at8 C key = oy at cf ⊢
  cases oy with
  | none =>
    simp only at cf ⊢
    unfold onV at cf
    go_enter Tryz.func20, Tryz.ntmps20
    go_wp2_with fail
    go_at_call 34
    refine cf.mono ?_
    rintro e w1 ⟨rfl, hb1⟩
    have HB := Lib.hid hb1
    clear hb1 cf
    go_wp2_with fail
    go_ret
    exact ⟨rfl, HB.out.alloc HB.out.size _⟩
  | some y =>
    simp only at cf ⊢
    unfold onV at cf
    go_enter Tryz.func20, Tryz.ntmps20
    go_wp2_with fail
    go_at_call 34
    refine cf.mono ?_
    rintro e w1 ⟨rfl, hb1⟩
    have HB := Lib.hid hb1
    clear hb1 cf
    go_wp2_with fail
    go_ret
    exact ⟨rfl, HB.out.alloc HB.out.size _⟩
set_option maxRecDepth 100000 in
set_option maxHeartbeats 4000000 in
theorem put_any {d : ByteArray} (h : Bo b j t m u x Z w0 C M N V W) (hx : Xk x) (hM : M ≤ 10000000) (hN : N ≤ 10000000) (hd : d.size ≤ 140737488351232) (ht : TabZ w0) :
    Calls Tryz.prog 13 #[.pointer (some ⟨u, 0, none⟩), .string d] W fun e w' => e = .returned (.string (putC C d).2) ∧ Bo b j t m u x Z w0 (putC C d).1 (M + 1) (N + 1) (V + d.size + 100) w' := by
  have cg := group_any d W (by omega)
  have HBO := Lib.hid h
  have HG := Lib.hid h.good
  obtain ⟨l, h1, h2, h3, h4, h5, h6, h7⟩ := h
  have hlow := lowO_lt d
  have HF := Lib.hid (f_facts h1)
  have HK : Hid (∀ key ∈ held (pre7 (grp (lowO d))) (all7 x.L l), ∃ y ∈ C, keyO y = key) := Lib.hid (fun key hk => by
    obtain ⟨e1, e2⟩ := (mem_held h2.rises).1 hk
    obtain ⟨y, hy, e, _⟩ := rep_key h2 (beg_two e2) e1
    exact ⟨y, hy, e⟩)
  have HK2 : Hid (∀ y ∈ C, y.data = d → keyO y ∈ held (pre7 (grp (lowO d))) (all7 x.L l)) := Lib.hid (fun y hy e => by
    refine (mem_held h2.rises).2 ⟨by rw [rep_mem h2 h3 hy]; rfl, ?_⟩
    have := (h3.each y hy).1
    unfold keyO
    rw [this, e]
    exact beg_grp _ _)
  have HO := Lib.hid h1
  have HR := Lib.hid h2
  have HZ := Lib.hid h4
  have HL := Lib.hid h5
  have HKS := Lib.hid h6
  have HW := Lib.hid h7
  have HT := Lib.hid ht
  have HX := Lib.hid hx
  have ck := fun V hV => f_bkeys (p := grp (lowO d)) (owf_below h1 (w' := V) hV) hx (by omega) h6 (by show 5 ≤ 1000; omega)
  have hKL : (held (pre7 (grp (lowO d))) (all7 x.L l)).length ≤ 200000000 := by
    have e1 := held_len (pre7 (grp (lowO d))) (all7 x.L l)
    have e2 := len_all x.L l
    have e3 := hx.1
    omega
  generalize held (pre7 (grp (lowO d))) (all7 x.L l) = K at ck HK HK2 hKL
  obtain ⟨n, hn⟩ : ∃ n, n = K.length := ⟨_, rfl⟩
  rw [← hn] at hKL
  have HNK := Lib.hid hn
  clear h1 h2 h3 h4 h5 h6 h7 ht hx hn
  go_enter Tryz.func13, Tryz.ntmps13
  go_wp2_with fail
  go_at_call 33
  refine cg.mono ?_
  rintro e w1 ⟨rfl, hb1⟩
  have ck1 := ck w1 hb1
  have HB1 := Lib.hid hb1
  clear cg ck hb1
  go_wp2_with fail
  go_at_call 22
  refine ck1.mono ?_
  rintro e w2 ⟨vK, rfl, hK, hb2⟩
  obtain ⟨aK, cK, hv, hsK, hcK, _⟩ := hK.form
  rw [← HNK.out] at hv hsK hcK
  have HSK := Lib.hid (fun V (hV : Below w2.heap.size w2 V) => hsK.below hV)
  have HB2 := Lib.hid (Tx.below_call HB1.out hb2)
  clear hK hsK ck1 hb2
  subst hv
  go_wp2_with fail
  go_loopw [17] (fun iv wr => ∃ k : Nat, k ≤ n ∧ iv = .int .i64 k ∧ Hid (∀ i key, i < k → K[i]? = some key → ∀ y ∈ C, keyO y = key → y.data ≠ d) ∧ Below w2.heap.size w2 wr) (fun iv _ => n - (intOf iv).toNat)
  case atStart => exact ⟨0, Nat.zero_le _, rfl, (fun i key hi => by omega), Below.refl _ _⟩
  case round =>
    obtain ⟨k, hk, rfl, hno, hB⟩ := hrel
    by_cases hlt : k < n
    · obtain ⟨key, hx⟩ : ∃ key, K[k]? = some key := ⟨_, List.getElem?_eq_getElem (by rw [← HNK.out]; exact hlt)⟩
      obtain ⟨_, hne⟩ := HSK.out _ hB
      obtain ⟨bk, off, rfl, hbk, hcc⟩ := hne.resolve_left (by omega)
      have g0 := hcc k key hx
      have hkz : (k : Int) < (n : Int) := by omega
      obtain ⟨y, hy, hye⟩ := HK.out key (List.mem_of_getElem? hx)
      have hyE := HG.out.each y hy
      have hBW := Tx.below_call HB2.out hB
      have cf := bo_find (key := key) (HBO.out.below hBW) (by omega) (by rw [← hye]; have := keyO_size HG.out (by omega) hy; omega)
      rw [← hye, HG.out.at hy] at cf
      simp only at cf
      rw [hye] at cf
      have HX := Lib.hid hx
      clear hcc hne hx
      go_wp2_with fail
      go_at_call 34
      refine cf.mono ?_
      rintro e w3 ⟨rfl, hb3⟩
      unfold onV
      have hs3 : w3.heap.size < (w3.alloc (.cells #[.int .i64 (y.refs : Nat), .string y.data] 68)).heap.size := by simp
      have hB3 : Below W.heap.size W w3 := Tx.below_call hBW hb3
      have hB3r := Tx.below_call hB hb3
      by_cases hyd : y.data = d
      · subst hyd
        have hb : (y.data.toList == y.data.toList) = true := beq_self_eq_true _
        have hput : putC C y.data = (setR C key (y.refs + 1), key) := by unfold putC; rw [HG.out.of hy, ← hye]
        have cp := keep_any (h := y.refs + 1) (d := y.data) (key := key) (owf_below HO.out (hB3.alloc hB3.size (.cells #[.int .i64 ((y.refs : Int) + 1), .string y.data] 68))) (by rw [← hye]; have := keyO_size HG.out (by omega) hy; omega) (by have := HL.out; omega) (by omega) hd
        have e1 : ((y.refs + 1 : Nat) : Int) = (y.refs : Int) + 1 := by omega
        unfold onV at cp
        rw [e1] at cp
        have hnum1 : -9223372036854775808 ≤ (y.refs : Int) + 1 := by omega
        have hnum2 : (y.refs : Int) + 1 ≤ 9223372036854775807 := by omega
        have HPUT := Lib.hid hput
        have HY := Lib.hid hy
        have HYE := Lib.hid hye
        have HYA := Lib.hid hyE
        clear hput hy hye hyE hno e1 hB3 hB3r hBW hb3 cf
        go_wp2_with fail
        go_at_call 35
        refine cp.mono ?_
        rintro e w4 ⟨rfl, ho4⟩
        go_wp2_with fail
        go_ret
        rw [HPUT.out]
        have hrs := rep_set (k := y.refs + 1) HR.out HY.out HG.out
        rw [HYE.out] at hrs
        exact ⟨rfl, bo_keep ho4 HF.out hrs (good_set (HG.out.mono (Nat.le_succ M)) (by omega) (by have := HYA.out.2.2.1; omega)) HZ.out HL.out HKS.out HW.out (by rw [← HYE.out]; exact keyO_beg y) (by rw [← HYE.out]; exact keyO_size HG.out (by omega) HY.out) (by have := HYA.out.2.2.1; omega) hd⟩
      · have hb : (y.data.toList == d.toList) = false := bytes_ne hyd
        have hno2 : Hid (∀ i key, i < k + 1 → K[i]? = some key → ∀ y ∈ C, keyO y = key → y.data ≠ d) := Lib.hid (fun i key' hi hk' y' hy' he' => by
          by_cases hik : i < k
          · exact hno.out i key' hik hk' y' hy' he'
          · have hik : i = k := by omega
            subst hik
            rw [HX.out] at hk'
            injection hk' with hk'
            have e1 := HG.out.at hy
            rw [hye, hk', ← he', HG.out.at hy'] at e1
            injection e1 with e1
            rw [e1]
            exact hyd)
        have hB4 := hB3r.alloc hB3r.size (.cells #[.int .i64 (y.refs : Nat), .string y.data] 68)
        clear hno hyd hye hyE hB3 hB3r hBW hb3 cf
        go_wp2_with fail
        go_roundw
        case rel => exact ⟨k + 1, by omega, by go_num, hno2, hB4⟩
        case measure => simp [intOf]; omega
    · obtain rfl : k = n := by omega
      have hof : of8 C d = none := by
        cases ho : of8 C d with
        | none => rfl
        | some y =>
          obtain ⟨hy, hyd⟩ := of8_some ho
          obtain ⟨i, hi⟩ := List.getElem?_of_mem (HK2.out y hy hyd)
          exact absurd hyd (hno.out i _ (by have := (List.getElem?_eq_some_iff.1 hi).1; have := HNK.out; omega) hi y hy rfl)
      have hBW := Tx.below_call HB2.out hB
      have hown := owf_below HO.out hBW
      have cf := free_any hown HR.out HG.out (by omega) hlow (HT.out _ hown.chg)
      have hfl := free_lt HG.out hlow
      have hlen := HG.out.len
      have hput : putC C d = (C ++ [newO C d], keyO (newO C d)) := by unfold putC; rw [hof]
      have HPUT := Lib.hid hput
      have HOF := Lib.hid hof
      have ek : keyN (lowO d) (freeN C (lowO d)) = keyO (newO C d) := rfl
      rw [ek] at cf
      have hks : (keyO (newO C d)).size ≤ 14 := keyN_size _ (by show freeN C (lowO d) < _; omega)
      have cp := fun V hV => keep_any (W := V) (h := 1) (d := d) (key := keyO (newO C d)) (owf_below hown (w' := V) hV) (by omega) (by have := HL.out; omega) (by omega) hd
      unfold onV at cp
      have e1 : ((1 : Nat) : Int) = 1 := rfl
      rw [e1] at cp
      have HKZ := Lib.hid hks
      clear hno hof hput hfl hlen ek e1 hB hBW hown hks
      go_wp2_with fail
      go_at_call 36
      refine cf.mono ?_
      rintro e w3 ⟨rfl, hb3⟩
      have cp3 := cp w3 hb3
      clear cp cf hb3
      go_wp2_with fail
      go_at_call 35
      refine cp3.mono ?_
      rintro e w4 ⟨rfl, ho4⟩
      go_wp2_with fail
      go_ret
      rw [HPUT.out]
      exact ⟨rfl, bo_keep ho4 HF.out (rep_new HR.out HG.out) (good_new HG.out HOF.out hd) HZ.out HL.out HKS.out HW.out (beg_key _ _) HKZ.out (by omega) hd⟩
end
end Go.Proofs.YthejpojmmokinaaGreatDoor.Bl

namespace Go.Proofs.YthejpojmmokinaaGreatDoor.Bl
open Go.RowKit Tx Pm Dk Wm Wr Wl Pl Tb
set_option linter.unusedVariables false
set_option linter.unusedSimpArgs false
set_option linter.unnecessarySimpa false
section
variable {w0 : World × (Nat → Prop)} {W : World} {b j t m u M N V : Nat} {x : Tst} {l : List Ch} {C : List On} {Z : List It} {key : ByteArray}
def relE (r : Bool) : Int := if r then 0 else 11
theorem Bo.mono {M' N' V' : Nat} (h : Bo b j t m u x Z w0 C M N V W) (hM : M ≤ M') (hN : N ≤ N') (hV : V ≤ V') : Bo b j t m u x Z w0 C M' N' V' W := by
  obtain ⟨l, h1, h2, h3, h4, h5, h6, h7⟩ := h
  exact ⟨l, h1, h2, h3.mono hM, h4, Nat.le_trans h5 hN, h6, Nat.le_trans h7 hV⟩
set_option maxRecDepth 100000 in
set_option maxHeartbeats 2000000 in
theorem release_any (h : Bo b j t m u x Z w0 C M N V W) (hM : M ≤ 10000000) (hN : N ≤ 100000000) (hk : key.size ≤ 500000000000000) :
    Calls Tryz.prog 15 #[.pointer (some ⟨u, 0, none⟩), .string key] W fun e w' => e = .returned (.int .i64 (relE (relC C key).2)) ∧ Bo b j t m u x Z w0 (relC C key).1 M (N + 1) (V + 140737488361232) w' := by
  have cf := bo_find h (by omega) hk
  have HBO := Lib.hid h
  unfold relC
  cases ha : at8 C key with
  | none =>
    rw [ha] at cf
    simp only at cf
    unfold onV at cf
    clear h ha
    go_enter Tryz.func15, Tryz.ntmps15
    go_wp2_with fail
    go_at_call 34
    refine cf.mono ?_
    rintro e w1 ⟨rfl, hb1⟩
    have HB := Lib.hid hb1
    clear hb1 cf
    go_wp2_with fail
    go_ret
    exact ⟨rfl, (HBO.out.below (HB.out.alloc HB.out.size _)).mono (Nat.le_refl _) (by omega) (by omega)⟩
  | some y =>
    obtain ⟨hy, hye⟩ := at8_some ha
    obtain ⟨l, h1, h2, h3, h4, h5, h6, h7⟩ := h
    obtain ⟨y1, y2, y3, y4, y5⟩ := h3.each y hy
    have hks := keyO_size h3 (by omega) hy
    have hkb := keyO_beg y
    rw [hye] at hks hkb
    have HF := Lib.hid (f_facts h1)
    have HO := Lib.hid h1
    have HR := Lib.hid h2
    have HG := Lib.hid h3
    have HZ := Lib.hid h4
    have HL := Lib.hid h5
    have HKS := Lib.hid h6
    have HW := Lib.hid h7
    have HY := Lib.hid hy
    have HYE := Lib.hid hye
    have HKB := Lib.hid hkb
    rw [ha] at cf
    simp only at cf
    unfold onV at cf
    clear h1 h2 h3 h4 h5 h6 h7 ha hy hye hkb y1
    by_cases hone : y.refs = 1
    · simp only [if_pos hone]
      have e9 : ((1 : Nat) : Int) = 1 := rfl
      rw [hone, e9] at cf
      clear e9 hone
      go_enter Tryz.func15, Tryz.ntmps15
      go_wp2_with fail
      go_at_call 34
      refine cf.mono ?_
      rintro e w1 ⟨rfl, hb1⟩
      have cd := f_drop (key := key) (owf_below HO.out (hb1.alloc hb1.size (.cells #[.int .i64 1, .string y.data] 68))) (by omega) (by have := HL.out; omega)
      clear hb1 cf
      go_wp2_with fail
      go_at_call 37
      refine cd.mono ?_
      rintro e w2 ⟨rfl, ho2⟩
      go_wp2_with fail
      go_ret
      exact ⟨rfl, (bo_drop ho2 HF.out (rep_del HR.out) (good_del HG.out) HZ.out HL.out HKS.out HW.out HKB.out hks).mono (Nat.le_refl _) (Nat.le_refl _) (by omega)⟩
    · simp only [if_neg hone]
      have hb : ((y.refs : Int) == 1) = false := by simp; omega
      have e1 : ((y.refs - 1 : Nat) : Int) = (y.refs : Int) - 1 := by omega
      have hnum1 : -9223372036854775808 ≤ (y.refs : Int) - 1 := by omega
      have hnum2 : (y.refs : Int) - 1 ≤ 9223372036854775807 := by omega
      have cp := fun V hV => keep_any (W := V) (h := y.refs - 1) (d := y.data) (key := key) (owf_below HO.out (w' := V) hV) (by omega) (by have := HL.out; omega) (by omega) y5
      unfold onV at cp
      rw [e1] at cp
      clear e1
      go_enter Tryz.func15, Tryz.ntmps15
      go_wp2_with fail
      go_at_call 34
      refine cf.mono ?_
      rintro e w1 ⟨rfl, hb1⟩
      have cp1 := cp _ (hb1.alloc hb1.size (.cells #[.int .i64 ((y.refs : Int) - 1), .string y.data] 68))
      clear hb1 cf cp
      go_wp2_with fail
      go_at_call 35
      refine cp1.mono ?_
      rintro e w2 ⟨rfl, ho2⟩
      go_wp2_with fail
      go_ret
      have hrs := rep_set (k := y.refs - 1) HR.out HY.out HG.out
      rw [HYE.out] at hrs
      exact ⟨rfl, (bo_keep ho2 HF.out hrs (good_set HG.out (by omega) (by omega)) HZ.out HL.out HKS.out HW.out HKB.out hks (by omega) y5).mono (Nat.le_refl _) (Nat.le_refl _) (by omega)⟩
end
def x0 : Tst := ⟨⟨s0T, [], false⟩, []⟩
theorem xk0 : Xk x0 := ⟨Nat.zero_le _, fun _ h => by cases h⟩
theorem bo_new {b j t m u : Nat} {w0 W : World} (h : Own (Tu b j t m u) w0 (x0, []) W) : ∃ F : Nat → Prop, (∀ i, F i → w0.heap.size ≤ i) ∧ Bo b j t m u x0 [] (W, F) [] 0 0 0 W := by
  obtain ⟨F, h1, h2⟩ := own_owf h
  exact ⟨F, h1, [], h2, ⟨List.Pairwise.nil, fun p _ => rfl⟩, good_nil, fun p _ => rfl, Nat.le_refl _, (fun _ h => by cases h), Nat.le_refl _⟩
set_option maxRecDepth 100000 in
theorem made_any8 (w0 W : World) (hb : Below w0.heap.size w0 W) : Calls Tryz.prog 8 #[] W fun e w' => ∃ b j t m u F, e = .returned (.pointer (some ⟨u, 0, none⟩)) ∧ Below w0.heap.size w0 w' ∧ (∀ i, F i → w0.heap.size ≤ i) ∧ Bo b j t m u x0 [] (w', F) [] 0 0 0 w' := by
  go_enter Tryz.func8, Tryz.ntmps8
  go_wp2_with fail
  go_at_call 24
  refine (w_new w0 hb).mono ?_
  rintro e w1 ⟨b, rfl, o1⟩
  go_wp2_with fail
  go_at_call 25
  refine (a_open o1 new_ok7 new_open7).mono ?_
  rintro e w2 ⟨t, j, m, rfl, o2⟩
  clear o1
  go_wp2_with fail
  go_at_call 26
  refine (a_begin o2).mono ?_
  rintro e w3 ⟨u, rfl, o3⟩
  clear o2
  have hbel := o3.bel
  obtain ⟨F, h1, h2⟩ := bo_new o3
  clear o3
  go_wp2_with fail
  go_ret
  exact ⟨b, j, t, m, u, F, rfl, hbel, h1, h2⟩
theorem tabz {w W : World} {F : Nat → Prop} (hT : Tab w) (hb : Below w.heap.size w W) (hF : ∀ i, F i → w.heap.size ≤ i) : TabZ (W, F) := fun V hc => hT.below (hb.trans (hc.below hb.size hF))
theorem tu_lt {b j t m u : Nat} {w : World} {F : Nat → Prop} {y : Tst × List Ch} (h : Tu b j t m u w F y) : ∀ i, F i → i < w.heap.size := by
  obtain ⟨F1, G, ⟨Fj, h1⟩, ⟨pm, vO, h2⟩, hd, hH⟩ := h
  exact fun i hi => ((hH i).1 hi).elim (h1.lt i) (h2.lt i)
theorem Bo.rebase {b j t m u M N V : Nat} {x : Tst} {Z : List It} {w0 : World × (Nat → Prop)} {C : List On} {W : World} (h : Bo b j t m u x Z w0 C M N V W) : ∃ F : Nat → Prop, (∀ i, F i → w0.2 i ∨ w0.1.heap.size ≤ i) ∧ (∀ i, F i → i < W.heap.size) ∧ Chg w0.2 w0.1 W ∧ Bo b j t m u x Z (W, F) C M N V W := by
  obtain ⟨l, ⟨F, h1, h2, h3⟩, hh⟩ := h
  exact ⟨F, h3, tu_lt h1, h2, l, ⟨F, h1, Chg.refl F W, fun g hg => .inl hg⟩, hh⟩
def Bw (b j t m u : Nat) (x : Tst) (Z : List It) (w : World) (C : List On) (M N V : Nat) (v : Value) (n : Nat) (xs : List ByteArray) (W : World) : Prop :=
  ∃ F : Nat → Prop, Bo b j t m u x Z (W, F) C M N V W ∧ (∀ i, F i → w.heap.size ≤ i) ∧ (∀ i, F i → i < W.heap.size) ∧ Below w.heap.size w W ∧ W.ownsRow w.heap.size 9 1 v n (xs.map sv) ∧ ∀ g, v.ownBlock = some g → ¬ F g
section
variable {w W : World} {b j t m u M N V M' N' V' n : Nat} {x : Tst} {C C' : List On} {Z : List It} {v : Value} {xs : List ByteArray}
theorem Bw.bel (h : Bw b j t m u x Z w C M N V v n xs W) : Below w.heap.size w W := by
  obtain ⟨F, _, _, _, h4, _⟩ := h
  exact h4
theorem Bw.good (h : Bw b j t m u x Z w C M N V v n xs W) : Good8 C M := by
  obtain ⟨F, h1, _⟩ := h
  exact h1.good
theorem Bw.call {f : FuncId} {args : Array Value} {P : Ending → Prop} (h : Bw b j t m u x Z w C M N V v n xs W) (ht : Tab w) (hc : ∀ F, TabZ (W, F) → Bo b j t m u x Z (W, F) C M N V W → Calls Tryz.prog f args W fun e w' => P e ∧ Bo b j t m u x Z (W, F) C' M' N' V' w') :
    Calls Tryz.prog f args W fun e w' => P e ∧ Bw b j t m u x Z w C' M' N' V' v n xs w' := by
  obtain ⟨F, h1, h2, h3, h4, h5, h6⟩ := h
  refine (hc F (tabz ht h4 h2) h1).mono fun e w' ⟨hp, hB⟩ => ⟨hp, ?_⟩
  obtain ⟨F', q1, q2, q3, q4⟩ := hB.rebase
  have hs := h4.size
  refine ⟨F', q4, fun i hi => (q1 i hi).elim (h2 i) (fun hh => Nat.le_trans hs hh), q2, h4.trans (q3.below hs h2), own_chg h5 q3 h6, fun g hg hF => ?_⟩
  rcases q1 g hF with hh | hh
  · exact h6 g hg hh
  · have := (h5.lt g hg).2
    have hh : W.heap.size ≤ g := hh
    omega
theorem Bw.below {W' : World} (h : Bw b j t m u x Z w C M N V v n xs W) (hb : Below W.heap.size W W') : Bw b j t m u x Z w C M N V v n xs W' := by
  obtain ⟨F, h1, h2, h3, h4, h5, h6⟩ := h
  obtain ⟨l, ⟨F1, g1, g2, g3⟩, hh⟩ := h1
  refine ⟨F1, ⟨l, ⟨F1, tb_below g1 hb, Chg.refl F1 W', fun g hg => .inl hg⟩, hh⟩, fun i hi => (g3 i hi).elim (h2 i) (fun hh => Nat.le_trans h4.size hh), fun i hi => Nat.lt_of_lt_of_le (tu_lt g1 i hi) hb.size, Tx.below_call h4 hb, own_belowT h5 hb, fun g hg hF => ?_⟩
  rcases g3 g hF with hh | hh
  · exact h6 g hg hh
  · have := (h5.lt g hg).2
    have hh : W.heap.size ≤ g := hh
    omega
theorem Bw.app {W1 W' : World} {v' : Value} {y : ByteArray} (h : Bw b j t m u x Z w C M N V v n xs W) (hb : Below W.heap.size W W1) (ho : W'.ownsRow w.heap.size 9 1 v' (n + 1) ((xs ++ [y]).map sv))
    (hg : (v'.ownBlock = v.ownBlock ∧ W1.grownBy W' v.ownBlock) ∨ (v'.ownBlock = some W1.heap.size ∧ W1.grownBy W' none)) : Bw b j t m u x Z w C M N V v' (n + 1) (xs ++ [y]) W' := by
  obtain ⟨F, h1, h2, h3, h4, h5, h6⟩ := h.below hb
  obtain ⟨l, ⟨F1, g1, g2, g3⟩, hh⟩ := h1
  have hF1 : ∀ i, F1 i → i < W1.heap.size := tu_lt g1
  have hsub : ∀ i, F1 i → F i := fun i hi => (g3 i hi).elim id (fun hh => by have := hF1 i hi; have hh : W1.heap.size ≤ i := hh; omega)
  have hkeep : ∀ i, F1 i → W'.heap[i]? = W1.heap[i]? := fun i hi => by
    rcases hg with ⟨_, g⟩ | ⟨_, g⟩
    · exact g.block i (hF1 i hi) (fun e => h6 i e.symm (hsub i hi))
    · exact g.block i (hF1 i hi) (by simp)
  have hsz : W1.heap.size ≤ W'.heap.size := by
    rcases hg with ⟨_, g⟩ | ⟨_, g⟩
    · exact g.size
    · exact g.size
  have hbel : Below w.heap.size w W' := by
    rcases hg with ⟨_, g⟩ | ⟨_, g⟩
    · exact h4.grown g h4.size (fun k hk => (h5.lt k hk).1)
    · exact h4.grown g h4.size (fun k hk => by cases hk)
  have hT : Tu b j t m u W' F1 (x, l) := by
    obtain ⟨Fa, G, ⟨Fj, a1⟩, ⟨pm, vO, a2⟩, hd, hH⟩ := g1
    exact ⟨Fa, G, ⟨Fj, a1.kept (fun i hi => hkeep i ((hH i).2 (.inl hi)))⟩, ⟨pm, vO, a2.kept (fun i hi => hkeep i ((hH i).2 (.inr hi)))⟩, hd, hH⟩
  refine ⟨F1, ⟨l, ⟨F1, hT, Chg.refl F1 W', fun g hg => .inl hg⟩, hh⟩, fun i hi => h2 i (hsub i hi), fun i hi => Nat.lt_of_lt_of_le (hF1 i hi) hsz, hbel, ho, fun g hg2 hF => ?_⟩
  rcases hg with ⟨e, _⟩ | ⟨e, _⟩
  · rw [e] at hg2
    exact h6 g hg2 (hsub g hF)
  · rw [e] at hg2
    injection hg2 with hg2
    have := hF1 g hF
    omega
theorem Bw.first {w0 : World × (Nat → Prop)} (hB : Bo b j t m u x Z w0 C M N V W) (hF : ∀ i, w0.2 i → w.heap.size ≤ i) (hs : w.heap.size ≤ w0.1.heap.size) (hb : Below w.heap.size w W) : Bw b j t m u x Z w C M N V (.slice none 0 0) 0 [] W := by
  obtain ⟨F', q1, q2, q3, q4⟩ := hB.rebase
  exact ⟨F', q4, fun i hi => (q1 i hi).elim (hF i) (fun hh => Nat.le_trans hs hh), q2, hb, World.ownsRow_nil _ _ _ _, fun g hg => by cases hg⟩
theorem Bw.strs (h : Bw b j t m u x Z w C M N V v n xs W) (hl : xs.length = n) : ∃ a c, v = .slice a n c ∧ Strs W a n xs ∧ n ≤ c ∧ c ≤ maxLen := by
  obtain ⟨F, h1, h2, h3, h4, h5, h6⟩ := h
  have hT : Texts W w.heap.size v xs := own_toT h5 hl
  obtain ⟨a, c, e1, e2, e3, e4⟩ := hT.form
  rw [hl] at e1 e2 e3
  exact ⟨a, c, e1, e2, e3, e4⟩
theorem Bw.mono (h : Bw b j t m u x Z w C M N V v n xs W) (hM : M ≤ M') (hN : N ≤ N') (hV : V ≤ V') : Bw b j t m u x Z w C M' N' V' v n xs W := by
  obtain ⟨F, h1, h2⟩ := h
  exact ⟨F, h1.mono hM hN hV, h2⟩
end
end Go.Proofs.YthejpojmmokinaaGreatDoor.Bl

namespace Go.Proofs.YthejpojmmokinaaGreatDoor.Bl
open Go.RowKit Tx Pm Dk Wm Wr Wl Pl Tb
set_option linter.unusedVariables false
set_option linter.unusedSimpArgs false
set_option linter.unnecessarySimpa false
section
variable {w0 : World × (Nat → Prop)} {W : World} {b j t m u M N V : Nat} {x : Tst} {C : List On} {Z : List It} {d : ByteArray}
theorem keyD_size (hg : Good8 C M) (hM : M ≤ 100000000) (hd : (of8 C d).isSome = true) : (keyD C d).size ≤ 14 := by
  obtain ⟨y, hy, _, h, _⟩ := of8_mem hd
  rw [h]
  exact keyO_size hg hM hy
theorem get_put (h : Bo b j t m u x Z w0 C M N V W) (hM : M ≤ 10000000) (hd : (of8 C d).isSome = true) :
    Calls Tryz.prog 19 #[.pointer (some ⟨u, 0, none⟩), .string (keyD C d)] W fun e w' => e = .returned (.tuple #[.string d, .int .i64 0]) ∧ Bo b j t m u x Z w0 C M N V w' := by
  have c := get_any (key := keyD C d) h (by omega) (by have := keyD_size h.good (by omega) hd; omega)
  obtain ⟨y, h1, _, h2⟩ := at8_data h.good hd
  rw [h1] at c
  simp only [h2] at c
  exact c.mono fun e w' hh => ⟨hh.1, h.below hh.2⟩
theorem refs_put (h : Bo b j t m u x Z w0 C M N V W) (hM : M ≤ 10000000) (hd : (of8 C d).isSome = true) :
    Calls Tryz.prog 20 #[.pointer (some ⟨u, 0, none⟩), .string (keyD C d)] W fun e w' => e = .returned (.int .i64 (refD C d : Nat)) ∧ Bo b j t m u x Z w0 C M N V w' := by
  have c := refs_any (key := keyD C d) h (by omega) (by have := keyD_size h.good (by omega) hd; omega)
  obtain ⟨y, h1, h2, _⟩ := at8_data h.good hd
  rw [h1] at c
  have e : refD C d = y.refs := by unfold refD; rw [h2]
  rw [e]
  exact c.mono fun e w' hh => ⟨hh.1, h.below hh.2⟩
theorem rel_put (h : Bo b j t m u x Z w0 C M N V W) (hM : M ≤ 10000000) (hN : N ≤ 10000000) (hd : (of8 C d).isSome = true) :
    Calls Tryz.prog 15 #[.pointer (some ⟨u, 0, none⟩), .string (keyD C d)] W fun e w' => e = .returned (.int .i64 0) ∧ Bo b j t m u x Z w0 (relC C (keyD C d)).1 M (N + 1) (V + 140737488361232) w' := by
  have c := release_any (key := keyD C d) h hM (by omega) (by have := keyD_size h.good (by omega) hd; omega)
  rw [(rel_of h.good hd).1] at c
  exact c
theorem put_put {l : List ByteArray} (h : Bo b j t m u x Z w0 (puts l) M N V W) (hx : Xk x) (hM : M ≤ 1000000) (hN : N ≤ 1000000) (hd : d.size ≤ 140737488351232) (ht : TabZ w0) :
    Calls Tryz.prog 13 #[.pointer (some ⟨u, 0, none⟩), .string d] W fun e w' => e = .returned (.string (keyD (puts (l ++ [d])) d)) ∧ Bo b j t m u x Z w0 (puts (l ++ [d])) (M + 1) (N + 1) (V + d.size + 100) w' := by
  have c := put_any (d := d) h hx (by omega) (by omega) hd ht
  rw [put_key h.good] at c
  rw [puts_snoc]
  exact c
end
def aA : ByteArray := ⟨#[97]⟩
theorem aA_low : lowO aA = 67 := by decide +kernel
theorem aA_key : keyD (puts [aA]) aA = ⟨#[98, 47, 52, 51, 47, 48]⟩ := by
  have e1 : puts [aA] = [newO [] aA] := rfl
  have e2 : freeN [] (lowO aA) = 0 := free_is good_nil (lowO_lt _) rfl (fun m hm => by omega)
  have e3 : keyD (puts [aA]) aA = keyO (newO [] aA) := by
    unfold keyD
    rw [e1]
    have : of8 [newO [] aA] aA = some (newO [] aA) := List.find?_cons_of_pos (by simp [newO])
    rw [this]
  rw [e3]
  unfold keyO newO
  rw [e2, aA_low]
  refine ba_ext ?_
  show (keyN 67 0).data.toList = _
  rw [keyN_list, Lib.decDigits_one (by omega)]
  decide
theorem aA_two : keyD (puts [aA, aA]) aA = ⟨#[98, 47, 52, 51, 47, 48]⟩ := by
  have hg := good_puts [aA] (fun x hx => by rw [List.mem_singleton.1 hx]; decide)
  have h := put_keyD hg aA (d := aA) ((puts_has [aA] (fun x hx => by rw [List.mem_singleton.1 hx]; decide) aA).2 (List.mem_singleton.2 rfl))
  rw [← aA_key, ← h]
  rfl
theorem aA_has : (of8 (puts [aA, aA]) aA).isSome = true := (puts_has [aA, aA] (fun x hx => by
  have : x = aA := by simpa using hx
  rw [this]; decide) aA).2 (List.mem_cons_self ..)
theorem aA_ref : refD (puts [aA, aA]) aA = 2 := by
  rw [puts_ref [aA, aA] (fun x hx => by
    have : x = aA := by simpa using hx
    rw [this]; decide)]
  rfl
set_option maxRecDepth 100000 in
set_option maxHeartbeats 1000000 in
theorem awake_any8 (w0 W : World) (hb : Below w0.heap.size w0 W) (ht : Tab w0) : Calls Tryz.prog 9 #[] W fun e w' => e = .returned (.bool true) ∧ Below w0.heap.size w0 w' := by
  go_enter Tryz.func9, Tryz.ntmps9
  go_wp2_with fail
  go_at_call 8
  refine (made_any8 w0 W hb).mono ?_
  rintro e w1 ⟨b, j, t, m, u, F, rfl, hb1, hF, o1⟩
  have HZ := Lib.hid (tabz ht hb1 hF)
  have c1 := put_put (l := []) (d := aA) o1 xk0 (by omega) (by omega) (by decide) HZ.out
  have e1 : puts ([] ++ [aA]) = puts [aA] := rfl
  rw [e1, aA_key] at c1
  unfold aA at c1
  clear o1 e1
  go_wp2_with fail
  go_at_call 13
  refine c1.mono ?_
  rintro e w2 ⟨rfl, o2⟩
  have c2 := put_put (l := [aA]) (d := aA) o2 xk0 (by omega) (by omega) (by decide) HZ.out
  have e1 : puts ([aA] ++ [aA]) = puts [aA, aA] := rfl
  rw [e1, aA_two] at c2
  unfold aA at c2
  clear c1 o2 e1
  go_wp2_with fail
  go_at_call 13
  refine c2.mono ?_
  rintro e w3 ⟨rfl, o3⟩
  have c3 := get_put (d := aA) o3 (by omega) aA_has
  have e2 := aA_two
  unfold aA at e2
  unfold aA at c3
  rw [e2] at c3
  clear c2 o3
  go_wp2_with fail
  go_at_call 19
  refine c3.mono ?_
  rintro e w4 ⟨rfl, o4⟩
  have c4 := refs_put (d := aA) o4 (by omega) aA_has
  have e3 := aA_ref
  unfold aA at c4 e3
  rw [e2, e3] at c4
  clear c3 e2 e3
  go_wp2_with fail
  go_at_call 20
  refine c4.mono ?_
  rintro e w5 ⟨rfl, o5⟩
  go_wp2_with fail
  go_ret
  exact ⟨rfl, hb1.trans (o5.chg.below hb1.size hF)⟩
end Go.Proofs.YthejpojmmokinaaGreatDoor.Bl

namespace Go.Proofs.YthejpojmmokinaaGreatDoor.Dk
open Go.ChangeShapes Go.WideShapes Go.ChangeAt Go.RowKit Tx
set_option linter.unusedVariables false
theorem bulk_strs {H : Type} (l : List ByteArray) : Rows.uptoBulkAll (strs (H := H) l) = (l.map (·.size)).sum + l.length := by
  induction l with
  | nil => rfl
  | cons s l ih =>
    have e : Rows.uptoBulkAll (strs (H := H) (s :: l)) = (s.data.toList.length + 1) + Rows.uptoBulkAll (strs (H := H) l) := rfl
    rw [e, ih, len_l, List.map_cons, List.sum_cons, List.length_cons]
    omega
theorem str_weights {H : Type} (s : ByteArray) : DataW.weights Tryz.prog 9 (.lit (.string s.data.toList) : DataW H) = [s.data.toList.length] := by
  rw [DataW.weights]
theorem strs_weights {H : Type} {x : ByteArray} {n : Nat} : ∀ {l : List ByteArray}, x ∈ l → n ∈ DataW.weights Tryz.prog 9 (.lit (.string x.data.toList) : DataW H) → n ∈ DataW.weightsAll Tryz.prog 9 (strs (H := H) l)
  | y :: l, hx, hn => by
    have e : strs (H := H) (y :: l) = .lit (.string y.data.toList) :: strs l := rfl
    rw [e, DataW.weightsAll, List.mem_append]
    rcases List.mem_cons.1 hx with rfl | hx
    · exact .inl hn
    · exact .inr (strs_weights hx hn)
def Wide1 (l : List ByteArray) : Prop := ∀ x ∈ l, x.size ≤ 140737488351232
theorem wide_strs {H : Type} {ts : List TypeId} {ds : List (DataW H)} (h : (DataW.weightsEach Tryz.prog ts ds).all (· ≤ reachBytes) = true) {j : Nat} {l : List ByteArray} {rest : List (DataW H)} (ht : ts[j]? = some 38) (hd : ds[j]? = some (.slice (strs l) rest)) : Wide1 l := by
  intro x hx
  have hall := List.all_eq_true.1 h
  have hm := DataW.weights_mem_each (P := Tryz.prog) ht hd x.data.toList.length (by
    rw [DataW.weights, Tryz.underlying38]
    exact List.mem_cons_of_mem _ (List.mem_append_left _ (strs_weights hx (by rw [str_weights]; simp))))
  have := of_decide_eq_true (hall _ hm)
  rw [len_l] at this
  exact this
theorem arg_texts {H : Type} {enc : TypeId × Value → H} {w : World} {base : Nat} {spare : Nat → Bool} {held : Bool} {a : Option Addr} {n c : Nat} {d : DataW H} {p : List MemPlace} (h : DataW.Trod enc Tryz.prog w base spare held 38 (.slice a n c) d p) :
    ∃ l : List ByteArray, Strs w a n l ∧ (l.map (·.size)).sum ≤ Rows.uptoBulk d ∧ l.length ≤ Rows.uptoBulk d ∧ n ≤ c ∧ c ≤ 9223372036854775807 ∧ ∀ {ts : List TypeId} {ds : List (DataW H)} {j : Nat}, (DataW.weightsEach Tryz.prog ts ds).all (· ≤ reachBytes) = true → ts[j]? = some 38 → ds[j]? = some d → Wide1 l := by
  obtain ⟨fuel, hf⟩ := h
  rcases open_strings Tryz.underlying38 Tryz.underlying9 (by kernel_rfl) hf with ⟨hcs, _⟩ | ⟨x, len, cap, ss, hcs, _, hl, hm, hz, hx, hcell, _⟩
  · simp [Value.cells] at hcs
    obtain ⟨rfl, rfl, rfl⟩ := hcs
    exact ⟨[], ⟨rfl, .inl rfl⟩, Nat.zero_le _, Nat.zero_le _, by omega, by omega, fun _ _ _ x hx => by cases hx⟩
  · simp [Value.cells] at hcs
    obtain ⟨rfl, rfl, rfl⟩ := hcs
    unfold maxLen at hm
    have hz' : n ≤ ss.length := by rw [hz]; split <;> omega
    have hd : d = .slice (strs (ss.take n)) (strs (ss.drop n)) := congrArg Prod.fst hx
    have e : Rows.uptoBulk d = Rows.uptoBulkAll (strs (H := H) (ss.take n)) + Rows.uptoBulkAll (strs (H := H) (ss.drop n)) + 1 := by rw [hd]; rfl
    rw [bulk_strs] at e
    have hlen : (ss.take n).length = n := by rw [List.length_take]; omega
    refine ⟨ss.take n, ⟨hlen, ?_⟩, by omega, by omega, hl, by omega, fun h1 h2 h3 => wide_strs h1 h2 (by rw [h3, hd])⟩
    by_cases h0 : n = 0
    · exact .inl h0
    · right
      obtain ⟨b, off, spot⟩ := x
      have hc0 := hcell 0 (by omega)
      have hspot : spot = none := by simpa [Addr.add] using World.cell?_spot hc0
      subst hspot
      refine ⟨b, off, rfl, ?_, fun k y hk => ?_⟩
      · have := World.block_lt_of_cell? w _ hc0
        rwa [WideShapes.add_plain] at this
      · have hk2 := (List.getElem?_eq_some_iff.1 hk).1
        rw [hlen] at hk2
        have hk3 := hcell k (by omega)
        rw [WideShapes.add_plain] at hk3
        rw [hk3]
        rw [List.getElem?_take_of_lt hk2] at hk
        rw [List.getD_eq_getElem?_getD, hk]
        rfl
end Go.Proofs.YthejpojmmokinaaGreatDoor.Dk

namespace Go.Proofs.YthejpojmmokinaaGreatDoor.Bl
open Go.ChangeMaps (open_string shut_string)
open Go.ChangeShapes Go.WideShapes Go.ChangeAt Go.RowKit Tx Pm Dk Wm Wr Wl Pl Tb
set_option linter.unusedVariables false
set_option linter.unusedSimpArgs false
set_option linter.unnecessarySimpa false
theorem gTab : Tryz.prog.globalNamed "internal/strconv.uint64pow10" = some 0 := by kernel_rfl
theorem gTabT : (Tryz.prog.globals[0]?).map (·.type) = some 184 := by kernel_rfl
theorem tab_laid {W : World} (h : laidMetH Tryz.prog [("math/bits.deBruijn32tab", Rows.laid_math_bits_deBruijn32tab), ("math/bits.deBruijn64tab", Rows.laid_math_bits_deBruijn64tab), ("internal/strconv.uint64pow10", Rows.laid_internal_strconv_uint64pow10)] W) : Tab W := by
  rw [MakeChecks.laidMetH_plain _ _ _ (by kernel_rfl)] at h
  obtain ⟨g, t, cs, fuel, p, h1, h2, h3, h4⟩ := Lib.laidMet.reads h (n := "internal/strconv.uint64pow10") (d := Rows.laid_internal_strconv_uint64pow10) (List.mem_cons_of_mem _ (List.mem_cons_of_mem _ (List.mem_cons_self ..)))
  obtain rfl := Option.some.inj (gTab.symm.trans h1)
  obtain rfl := Option.some.inj (gTabT.symm.trans h2)
  have e := Lib.cells_of_tab (k := .u64) (zs := Lib.pow10Tab) (n := 20) Tryz.underlying184 Tryz.underlying125 (by kernel_rfl) (by kernel_rfl) h4
  unfold Tab Lib.TabIs
  rw [h3, ← e]
theorem Strs.at1 {W : World} {b o n : Nat} {l : List ByteArray} (h : Strs W (some ⟨b, o, none⟩) n l) {k : Nat} {x : ByteArray} (hx : l[k]? = some x) : W.cell? ⟨b, o + k, none⟩ = some (.string x) := by
  have hk := (List.getElem?_eq_some_iff.1 hx).1
  rcases h.2 with h0 | ⟨b', o', e, _, hc⟩
  · rw [h.1] at hk; omega
  · injection e with e
    injection e with e1 e2
    subst e1 e2
    exact hc k x hx
theorem Strs.at2 {W : World} {a : Option Addr} {n : Nat} {l : List ByteArray} (h : Strs W a n l) {k : Nat} {x : ByteArray} (hx : l[k]? = some x) (hk : k < n) : ∃ b o, a = some ⟨b, o, none⟩ ∧ b < W.heap.size ∧ W.cell? ⟨b, o + k, none⟩ = some (.string x) := by
  rcases h.2 with h0 | ⟨b, o, e, hb, hc⟩
  · omega
  · exact ⟨b, o, e, hb, hc k x hx⟩
theorem keysD_snoc2 (l : List ByteArray) (t : ByteArray) (h : ∀ x ∈ l, x.size ≤ 140737488351232) : keysD (l ++ [t]) = keysD l ++ [keyD (puts (l ++ [t])) t] := by
  rw [keysD_snoc l t h, puts_snoc, put_key (good_puts l h)]
section
variable {w W : World} {b j t m u M N V n : Nat} {x : Tst} {C : List On} {Z : List It} {v : Value} {xs : List ByteArray} {w0 : World × (Nat → Prop)}
theorem Bw.row (h : Bw b j t m u x Z w C M N V v n xs W) : W.ownsRow w.heap.size 9 1 v n (xs.map sv) := by
  obtain ⟨F, _, _, _, _, h5, _⟩ := h
  exact h5
theorem Bw.keys {a : Option Addr} {c : Nat} (h : Bw b j t m u x Z w C M N V (.slice a n c) n xs W) : Strs W a n xs := by
  have hl : xs.length = n := by
    have := h.row.1
    simpa using this
  obtain ⟨a', c', e, hs, _⟩ := h.strs hl
  injection e with e1 _ e2
  subst e1
  exact hs
theorem strs_row {W : World} {B n : Nat} {a : Option Addr} {c : Nat} {xs : List ByteArray} (h : W.ownsRow B 9 1 (.slice a n c) n (xs.map sv)) : Strs W a n xs := by
  have hl : xs.length = n := by
    have := h.1
    simpa using this
  have hT : Texts W B (.slice a n c) xs := own_toT h hl
  obtain ⟨a', c', e, hs, _⟩ := hT.form
  rw [hl] at e hs
  injection e with e1 _ e2
  subst e1
  exact hs
theorem mem_le_sum : ∀ {l : List Nat} {x : Nat}, x ∈ l → x ≤ l.sum
  | y :: l, x, h => by
    rw [List.sum_cons]
    rcases List.mem_cons.1 h with rfl | h
    · omega
    · have := mem_le_sum h; omega
theorem keys_perm {R : List It} (hR : Rep R C) (hg : Good8 C M) : (held (pre7 pB2) R).Perm (C.map keyO) := by
  refine (List.perm_ext_iff_of_nodup (nodup_held hR.rises _) (List.pairwise_map.2 hg.keys)).2 (fun a => ?_)
  rw [mem_held hR.rises, List.mem_map]
  constructor
  · rintro ⟨h1, h2⟩
    obtain ⟨y, hy, e, _⟩ := rep_key hR h2 h1
    exact ⟨y, hy, e⟩
  · rintro ⟨y, hy, rfl⟩
    exact ⟨by rw [rep_mem hR hg hy]; rfl, keyO_beg y⟩
theorem bkeys_len (h : Bo b j t m u x Z w0 C M N V W) (hx : Xk x) (hN : N ≤ 100000000) : Calls Tryz.prog 22 #[.pointer (some ⟨u, 0, none⟩), .string ⟨#[98, 47]⟩] W fun e w' => (∃ a c, e = .returned (.slice a C.length c)) ∧ Bo b j t m u x Z w0 C M N V w' := by
  have hh := h
  obtain ⟨l, h1, h2, h3, h4, h5, h6, h7⟩ := h
  refine (f_bkeys (p := pB2) h1 hx (by omega) h6 (by decide)).mono ?_
  rintro e w' ⟨v, rfl, ht, hb⟩
  obtain ⟨a, c, e, _⟩ := ht.form
  have hl : (held (pre7 pB2) (all7 x.L l)).length = C.length := by rw [(keys_perm h2 h3).length_eq, List.length_map]
  rw [hl] at e
  subst e
  exact ⟨⟨a, c, rfl⟩, hh.below hb⟩
end
section
variable {w W : World} {b j t m u M N V n : Nat} {x y : Tst} {C : List On} {Z : List It}
theorem get_below {w0 : World × (Nat → Prop)} {d : ByteArray} (h : Bo b j t m u x Z w0 C M N V W) (hM : M ≤ 10000000) (hd : (of8 C d).isSome = true) :
    Calls Tryz.prog 19 #[.pointer (some ⟨u, 0, none⟩), .string (keyD C d)] W fun e w' => e = .returned (.tuple #[.string d, .int .i64 0]) ∧ Below W.heap.size W w' := by
  have c := get_any (key := keyD C d) h (by omega) (by have := keyD_size h.good (by omega) hd; omega)
  obtain ⟨y, h1, _, h2⟩ := at8_data h.good hd
  rw [h1] at c
  simp only [h2] at c
  exact c
end
theorem cnt_pos {l : List ByteArray} {d : ByteArray} : 0 < cnt l d ↔ d ∈ l := by
  unfold cnt
  rw [List.countP_pos_iff]
  constructor
  · rintro ⟨y, hy, e⟩
    rw [decide_eq_true_iff] at e
    exact e ▸ hy
  · intro h
    exact ⟨d, h, by simp⟩
theorem cnt_cons (t : ByteArray) (l : List ByteArray) (d : ByteArray) : cnt (t :: l) d = cnt l d + if t = d then 1 else 0 := by
  unfold cnt
  rw [List.countP_cons]
  congr 1
  by_cases he : t = d <;> simp [he]
structure RelInv (l : List ByteArray) (i : Nat) (C : List On) : Prop where
  refs : ∀ d, refD C d = cnt (l.drop i) d
  has : ∀ d, (of8 C d).isSome = decide (0 < cnt (l.drop i) d)
  key : ∀ d, (of8 C d).isSome = true → keyD C d = keyD (puts l) d
theorem relinv_0 (l : List ByteArray) (h : ∀ x ∈ l, x.size ≤ 140737488351232) : RelInv l 0 (puts l) := by
  refine ⟨fun d => by rw [List.drop_zero, puts_ref l h], fun d => ?_, fun d _ => rfl⟩
  rw [List.drop_zero, Bool.eq_iff_iff, puts_has l h, decide_eq_true_iff, cnt_pos]
theorem drop_cons {α : Type} {l : List α} {i : Nat} {t : α} (h : l[i]? = some t) : l.drop i = t :: l.drop (i + 1) := by
  have hi := (List.getElem?_eq_some_iff.1 h).1
  rw [List.drop_eq_getElem_cons hi]
  rw [List.getElem?_eq_getElem hi] at h
  injection h with h
  rw [h]
theorem relinv_succ {l : List ByteArray} {i : Nat} {C : List On} {M : Nat} {t : ByteArray} (hg : Good8 C M) (h : RelInv l i C) (ht : l[i]? = some t) : (of8 C t).isSome = true ∧ keyD C t = keyD (puts l) t ∧ RelInv l (i + 1) (relC C (keyD C t)).1 := by
  have hd := drop_cons ht
  have hc : ∀ d, cnt (l.drop i) d = cnt (l.drop (i + 1)) d + if t = d then 1 else 0 := fun d => by rw [hd, cnt_cons]
  have hs : (of8 C t).isSome = true := by
    rw [h.has, hc, if_pos rfl]
    simp
  obtain ⟨_, r1, r2, r3⟩ := rel_of hg hs
  refine ⟨hs, h.key t hs, fun d => ?_, fun d => ?_, fun d hh => ?_⟩
  · rw [r1, h.refs, hc]
    omega
  · rw [r3, h.has, h.refs, hc]
    by_cases he : t = d
    · simp [he]
    · simp [he]
  · rw [r2 d hh]
    refine h.key d ?_
    rw [r3, Bool.and_eq_true] at hh
    exact hh.1
theorem relinv_end {l : List ByteArray} {C : List On} {M : Nat} (hg : Good8 C M) (h : RelInv l l.length C) : C = [] := by
  cases C with
  | nil => rfl
  | cons y C =>
    have h1 := hg.of (List.mem_cons_self (a := y) (l := C))
    have h2 := h.has y.data
    rw [h1, List.drop_length] at h2
    simp [cnt] at h2
end Go.Proofs.YthejpojmmokinaaGreatDoor.Bl
