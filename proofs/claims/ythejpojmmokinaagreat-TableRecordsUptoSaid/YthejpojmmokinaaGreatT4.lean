/- Texts of this seat, one behind the other. -/
import Derived.Test.YthejpojmmokinaaGreatT3
import Derived.ProofKit
import Derived.OpenShut
import Derived.ShutString
import Derived.Deep.Slices
import Derived.Deep.Fields
import Derived.ChangeSame
import Derived.Test.YthejpojmmokinaaGreatRows
namespace Go.Proofs.YthejpojmmokinaaGreat.Tb
open Go.RowKit
set_option linter.unusedVariables false
set_option linter.unusedSimpArgs false
set_option linter.unnecessarySimpa false
def TwoT (t b : Nat) (p : ByteArray) (W : World) : Prop := W.cell? ⟨t, 0, none⟩ = some (.pointer (some ⟨b, 0, none⟩)) ∧ W.cell? ⟨t, 1, none⟩ = some (.string p)
def TwoC (t j u n c : Nat) (a : Option Addr) (W : World) : Prop := W.cell? ⟨t, 2, none⟩ = some (.pointer (some ⟨j, 0, none⟩)) ∧ W.cell? ⟨u, 1, none⟩ = some (.slice a n c)
set_option maxRecDepth 100000 in
set_option maxHeartbeats 4000000 in
theorem packReg (ops : Array Oper) (hops : ops = (Rg.opsOf Tryz.f21 3)) (id : Nat) (t b k : Nat) (p r f : ByteArray) {u1 u2 u3 u4 u5 u6 u7 u8 u9 u10 u11 u12 u13 u14 u15 u16 u17 u18 u19 u20 u21 u22 u23 u24 u25 u26 : Value} (w : World)
    (B1 : Option Addr → Nat → Nat → World → Prop) (B2 B3 B4 : World → Prop) (hS : TwoT t b p w)
    (hA : Calls Tryz.prog 59 #[.pointer (some ⟨t, 0, none⟩)] w.drew fun e w' => ∃ a n c, e = .returned (.slice a n c) ∧ B1 a n c w') (hAS : ∀ a n c W, B1 a n c W → TwoT t b p W)
    (hB : ∀ a n c W, B1 a n c W → Calls Tryz.prog 7 #[.slice a n c] W fun e w' => e = .returned (.string r) ∧ B2 w') (hBS : ∀ W, B2 W → TwoT t b p W)
    (hC : ∀ W, B2 W → Calls Tryz.prog 58 #[.string r] W fun e w' => e = .returned (.string f) ∧ B3 w') (hCS : ∀ W, B3 W → TwoT t b p W)
    (hD : ∀ W, B3 W → Calls Tryz.prog 57 #[.pointer (some ⟨b, 0, none⟩), .string p, .string f] W fun e w' => e = .returned (.int .i64 (k : Nat)) ∧ B4 w') (hDS : ∀ W, B4 W → TwoT t b p W) :
    (Code.region id ops true).wp Tryz.prog (Rg.Only fun a' w' => ∃ (a5 : Option Addr) (n5 c5 : Nat), a' = ⟨#[(.pointer (some ⟨t, 0, none⟩)), u1, u2, (.int .i64 (k : Nat)), u4, u5, (.pointer (some ⟨t, 0, none⟩)), (.pointer (some ⟨t, 0, none⟩)), (.pointer (some ⟨t, 0, none⟩)), (.pointer (some ⟨b, 0, none⟩)), (.pointer (some ⟨t, 0, none⟩)), (.pointer (some ⟨t, 0, none⟩)), (.pointer (some ⟨t, 1, none⟩)), (.string p), (.pointer (some ⟨t, 0, none⟩)), (.slice a5 n5 c5), (.string r), (.string f), (.int .i64 (k : Nat)), u19, u20, u21, u22, u23, u24, u25, u26], []⟩ ∧ B4 w') ⟨#[(.pointer (some ⟨t, 0, none⟩)), u1, u2, u3, u4, u5, u6, u7, u8, u9, u10, u11, u12, u13, u14, u15, u16, u17, u18, u19, u20, u21, u22, u23, u24, u25, u26], []⟩ w := by
  subst hops
  have hNS : Region.noSelect (Rg.opsOf Tryz.f21 3) = true := by kernel_rfl
  refine wp_region_held_drew (S := TwoT t b p) (by kernel_rfl) hS (fun hHeld => ?_)
  rw [show (Rg.opsOf Tryz.f21 3).size = 14 by kernel_rfl]
  refine Rg.take (ops := (Rg.opsOf Tryz.f21 3)) 0 (some 6) ((.pointer (some ⟨t, 0, none⟩))) hNS (by kernel_rfl) (by kernel_rfl) (by kernel_rfl) (by kernel_rfl) (by kernel_rfl) hHeld (Rg.y_move (x := (Operand.tmp 0)) (Or.inl (by kernel_rfl)) (by kernel_rfl)) ?_
  refine Rg.take (ops := (Rg.opsOf Tryz.f21 3)) 1 (some 7) ((.pointer (some ⟨t, 0, none⟩))) hNS (by kernel_rfl) (by kernel_rfl) (by kernel_rfl) (by kernel_rfl) (by kernel_rfl) hHeld (Rg.y_nil (x := (Operand.tmp 6)) (by kernel_rfl) (by kernel_rfl)) ?_
  refine Rg.take (ops := (Rg.opsOf Tryz.f21 3)) 2 (some 8) ((.pointer (some ⟨t, 0, none⟩))) hNS (by kernel_rfl) (by kernel_rfl) (by kernel_rfl) (by kernel_rfl) (by kernel_rfl) hHeld (Rg.y_field (T := 90) (k := 0) (x := (Operand.tmp 7)) (vx := (.pointer (some ⟨t, 0, none⟩))) (by kernel_rfl) (by kernel_rfl) ?_) ?_
  · (intro w hSw; clear hSw; go_simp)
  refine Rg.take (ops := (Rg.opsOf Tryz.f21 3)) 3 (some 9) ((.pointer (some ⟨b, 0, none⟩))) hNS (by kernel_rfl) (by kernel_rfl) (by kernel_rfl) (by kernel_rfl) (by kernel_rfl) hHeld (Rg.y_load (T := 35) (x := (Operand.tmp 8)) (vx := (.pointer (some ⟨t, 0, none⟩))) (by kernel_rfl) (by kernel_rfl) ?_) ?_
  · (intro w hSw; obtain ⟨s0, s1⟩ := hSw; go_simp)
  refine Rg.take (ops := (Rg.opsOf Tryz.f21 3)) 4 (some 10) ((.pointer (some ⟨t, 0, none⟩))) hNS (by kernel_rfl) (by kernel_rfl) (by kernel_rfl) (by kernel_rfl) (by kernel_rfl) hHeld (Rg.y_move (x := (Operand.tmp 0)) (Or.inl (by kernel_rfl)) (by kernel_rfl)) ?_
  refine Rg.take (ops := (Rg.opsOf Tryz.f21 3)) 5 (some 11) ((.pointer (some ⟨t, 0, none⟩))) hNS (by kernel_rfl) (by kernel_rfl) (by kernel_rfl) (by kernel_rfl) (by kernel_rfl) hHeld (Rg.y_nil (x := (Operand.tmp 10)) (by kernel_rfl) (by kernel_rfl)) ?_
  refine Rg.take (ops := (Rg.opsOf Tryz.f21 3)) 6 (some 12) ((.pointer (some ⟨t, 1, none⟩))) hNS (by kernel_rfl) (by kernel_rfl) (by kernel_rfl) (by kernel_rfl) (by kernel_rfl) hHeld (Rg.y_field (T := 90) (k := 1) (x := (Operand.tmp 11)) (vx := (.pointer (some ⟨t, 0, none⟩))) (by kernel_rfl) (by kernel_rfl) ?_) ?_
  · (intro w hSw; clear hSw; go_simp)
  refine Rg.take (ops := (Rg.opsOf Tryz.f21 3)) 7 (some 13) ((.string p)) hNS (by kernel_rfl) (by kernel_rfl) (by kernel_rfl) (by kernel_rfl) (by kernel_rfl) hHeld (Rg.y_load (T := 9) (x := (Operand.tmp 12)) (vx := (.pointer (some ⟨t, 1, none⟩))) (by kernel_rfl) (by kernel_rfl) ?_) ?_
  · (intro w hSw; obtain ⟨s0, s1⟩ := hSw; go_simp)
  refine Rg.take (ops := (Rg.opsOf Tryz.f21 3)) 8 (some 14) ((.pointer (some ⟨t, 0, none⟩))) hNS (by kernel_rfl) (by kernel_rfl) (by kernel_rfl) (by kernel_rfl) (by kernel_rfl) hHeld (Rg.y_move (x := (Operand.tmp 0)) (Or.inl (by kernel_rfl)) (by kernel_rfl)) ?_
  refine Rg.call (ops := (Rg.opsOf Tryz.f21 3)) (fn := Tryz.f59) (xs := #[Operand.tmp 14]) (ats := #[39]) 9 (some 15) 59 #[(.pointer (some ⟨t, 0, none⟩))] (by kernel_rfl) (by kernel_rfl) (by kernel_rfl) (by kernel_rfl) (by kernel_rfl) Tryz.func59 (by kernel_rfl) (by kernel_rfl) (by kernel_rfl) ?_
  refine hA.mono ?_
  rintro e w5 ⟨a5, n5, c5, rfl, h5⟩
  refine ⟨_, rfl, hAS _ _ _ _ h5, fun hHeld => ?_⟩
  refine Rg.call (ops := (Rg.opsOf Tryz.f21 3)) (fn := Tryz.f7) (xs := #[Operand.tmp 15]) (ats := #[22]) 10 (some 16) 7 #[(.slice a5 n5 c5)] (by kernel_rfl) (by kernel_rfl) (by kernel_rfl) (by kernel_rfl) (by kernel_rfl) Tryz.func7 (by kernel_rfl) (by kernel_rfl) (by kernel_rfl) ?_
  refine (hB _ _ _ _ h5).mono ?_
  rintro e w6 ⟨rfl, h6⟩
  refine ⟨_, rfl, hBS _ h6, fun hHeld => ?_⟩
  refine Rg.call (ops := (Rg.opsOf Tryz.f21 3)) (fn := Tryz.f58) (xs := #[Operand.tmp 16]) (ats := #[9]) 11 (some 17) 58 #[(.string r)] (by kernel_rfl) (by kernel_rfl) (by kernel_rfl) (by kernel_rfl) (by kernel_rfl) Tryz.func58 (by kernel_rfl) (by kernel_rfl) (by kernel_rfl) ?_
  refine (hC _ h6).mono ?_
  rintro e w7 ⟨rfl, h7⟩
  refine ⟨_, rfl, hCS _ h7, fun hHeld => ?_⟩
  refine Rg.call (ops := (Rg.opsOf Tryz.f21 3)) (fn := Tryz.f57) (xs := #[Operand.tmp 9, Operand.tmp 13, Operand.tmp 17]) (ats := #[35, 9, 9]) 12 (some 18) 57 #[(.pointer (some ⟨b, 0, none⟩)), (.string p), (.string f)] (by kernel_rfl) (by kernel_rfl) (by kernel_rfl) (by kernel_rfl) (by kernel_rfl) Tryz.func57 (by kernel_rfl) (by kernel_rfl) (by kernel_rfl) ?_
  refine (hD _ h7).mono ?_
  rintro e w8 ⟨rfl, h8⟩
  refine ⟨_, rfl, hDS _ h8, fun hHeld => ?_⟩
  refine Rg.take (ops := (Rg.opsOf Tryz.f21 3)) 13 (some 3) ((.int .i64 (k : Nat))) hNS (by kernel_rfl) (by kernel_rfl) (by kernel_rfl) (by kernel_rfl) (by kernel_rfl) hHeld (Rg.y_move (x := (Operand.tmp 18)) (Or.inr (by kernel_rfl)) (by kernel_rfl)) ?_
  refine Rg.done (ops := (Rg.opsOf Tryz.f21 3)) (by kernel_rfl) ?_
  exact ⟨a5, n5, c5, by kernel_rfl, h8⟩
set_option maxRecDepth 100000 in
set_option maxHeartbeats 4000000 in
theorem commitReg (ops : Array Oper) (hops : ops = (Rg.opsOf Tryz.f19 6)) (id : Nat) (t j u n c k : Nat) (a : Option Addr) (r : ByteArray) {u1 u2 u4 u5 u6 u7 u8 u9 u10 u11 u12 u13 u14 u15 u16 u17 u18 u19 u20 u21 u22 u23 u24 u25 u26 u27 u28 u29 u30 u31 u32 u33 u34 u35 u36 u37 u38 u39 u40 u41 u42 u43 u44 u45 u46 u47 u48 u49 u50 u51 u52 u53 u54 u55 u56 u57 u58 : Value} (w : World)
    (B1 B2 : World → Prop) (hS : TwoC t j u n c a w)
    (hA : Calls Tryz.prog 7 #[.slice a n c] w.drew fun e w' => e = .returned (.string r) ∧ B1 w') (hAS : ∀ W, B1 W → TwoC t j u n c a W)
    (hB : ∀ W, B1 W → Calls Tryz.prog 53 #[.pointer (some ⟨j, 0, none⟩), .string r] W fun e w' => e = .returned (.int .i64 (k : Nat)) ∧ B2 w') (hBS : ∀ W, B2 W → TwoC t j u n c a W) :
    (Code.region id ops true).wp Tryz.prog (Rg.Only fun a' w' => a' = ⟨#[(.pointer (some ⟨u, 0, none⟩)), u1, u2, (.pointer (some ⟨t, 0, none⟩)), (.int .i64 (k : Nat)), u5, u6, u7, u8, u9, u10, u11, u12, u13, u14, u15, u16, u17, u18, u19, u20, u21, u22, u23, (.pointer (some ⟨t, 0, none⟩)), (.pointer (some ⟨t, 0, none⟩)), (.pointer (some ⟨t, 2, none⟩)), (.pointer (some ⟨j, 0, none⟩)), (.pointer (some ⟨u, 0, none⟩)), (.pointer (some ⟨u, 0, none⟩)), (.pointer (some ⟨u, 1, none⟩)), (.slice a n c), (.string r), (.int .i64 (k : Nat)), u34, u35, u36, u37, u38, u39, u40, u41, u42, u43, u44, u45, u46, u47, u48, u49, u50, u51, u52, u53, u54, u55, u56, u57, u58], []⟩ ∧ B2 w') ⟨#[(.pointer (some ⟨u, 0, none⟩)), u1, u2, (.pointer (some ⟨t, 0, none⟩)), u4, u5, u6, u7, u8, u9, u10, u11, u12, u13, u14, u15, u16, u17, u18, u19, u20, u21, u22, u23, u24, u25, u26, u27, u28, u29, u30, u31, u32, u33, u34, u35, u36, u37, u38, u39, u40, u41, u42, u43, u44, u45, u46, u47, u48, u49, u50, u51, u52, u53, u54, u55, u56, u57, u58], []⟩ w := by
  subst hops
  have hNS : Region.noSelect (Rg.opsOf Tryz.f19 6) = true := by kernel_rfl
  refine wp_region_held_drew (S := TwoC t j u n c a) (by kernel_rfl) hS (fun hHeld => ?_)
  rw [show (Rg.opsOf Tryz.f19 6).size = 11 by kernel_rfl]
  refine Rg.take (ops := (Rg.opsOf Tryz.f19 6)) 0 (some 24) ((.pointer (some ⟨t, 0, none⟩))) hNS (by kernel_rfl) (by kernel_rfl) (by kernel_rfl) (by kernel_rfl) (by kernel_rfl) hHeld (Rg.y_move (x := (Operand.tmp 3)) (Or.inl (by kernel_rfl)) (by kernel_rfl)) ?_
  refine Rg.take (ops := (Rg.opsOf Tryz.f19 6)) 1 (some 25) ((.pointer (some ⟨t, 0, none⟩))) hNS (by kernel_rfl) (by kernel_rfl) (by kernel_rfl) (by kernel_rfl) (by kernel_rfl) hHeld (Rg.y_nil (x := (Operand.tmp 24)) (by kernel_rfl) (by kernel_rfl)) ?_
  refine Rg.take (ops := (Rg.opsOf Tryz.f19 6)) 2 (some 26) ((.pointer (some ⟨t, 2, none⟩))) hNS (by kernel_rfl) (by kernel_rfl) (by kernel_rfl) (by kernel_rfl) (by kernel_rfl) hHeld (Rg.y_field (T := 90) (k := 2) (x := (Operand.tmp 25)) (vx := (.pointer (some ⟨t, 0, none⟩))) (by kernel_rfl) (by kernel_rfl) ?_) ?_
  · (intro w hSw; clear hSw; go_simp)
  refine Rg.take (ops := (Rg.opsOf Tryz.f19 6)) 3 (some 27) ((.pointer (some ⟨j, 0, none⟩))) hNS (by kernel_rfl) (by kernel_rfl) (by kernel_rfl) (by kernel_rfl) (by kernel_rfl) hHeld (Rg.y_load (T := 88) (x := (Operand.tmp 26)) (vx := (.pointer (some ⟨t, 2, none⟩))) (by kernel_rfl) (by kernel_rfl) ?_) ?_
  · (intro w hSw; obtain ⟨s0, s1⟩ := hSw; go_simp)
  refine Rg.take (ops := (Rg.opsOf Tryz.f19 6)) 4 (some 28) ((.pointer (some ⟨u, 0, none⟩))) hNS (by kernel_rfl) (by kernel_rfl) (by kernel_rfl) (by kernel_rfl) (by kernel_rfl) hHeld (Rg.y_move (x := (Operand.tmp 0)) (Or.inl (by kernel_rfl)) (by kernel_rfl)) ?_
  refine Rg.take (ops := (Rg.opsOf Tryz.f19 6)) 5 (some 29) ((.pointer (some ⟨u, 0, none⟩))) hNS (by kernel_rfl) (by kernel_rfl) (by kernel_rfl) (by kernel_rfl) (by kernel_rfl) hHeld (Rg.y_nil (x := (Operand.tmp 28)) (by kernel_rfl) (by kernel_rfl)) ?_
  refine Rg.take (ops := (Rg.opsOf Tryz.f19 6)) 6 (some 30) ((.pointer (some ⟨u, 1, none⟩))) hNS (by kernel_rfl) (by kernel_rfl) (by kernel_rfl) (by kernel_rfl) (by kernel_rfl) hHeld (Rg.y_field (T := 103) (k := 1) (x := (Operand.tmp 29)) (vx := (.pointer (some ⟨u, 0, none⟩))) (by kernel_rfl) (by kernel_rfl) ?_) ?_
  · (intro w hSw; clear hSw; go_simp)
  refine Rg.take (ops := (Rg.opsOf Tryz.f19 6)) 7 (some 31) ((.slice a n c)) hNS (by kernel_rfl) (by kernel_rfl) (by kernel_rfl) (by kernel_rfl) (by kernel_rfl) hHeld (Rg.y_load (T := 22) (x := (Operand.tmp 30)) (vx := (.pointer (some ⟨u, 1, none⟩))) (by kernel_rfl) (by kernel_rfl) ?_) ?_
  · (intro w hSw; obtain ⟨s0, s1⟩ := hSw; go_simp)
  refine Rg.call (ops := (Rg.opsOf Tryz.f19 6)) (fn := Tryz.f7) (xs := #[Operand.tmp 31]) (ats := #[22]) 8 (some 32) 7 #[(.slice a n c)] (by kernel_rfl) (by kernel_rfl) (by kernel_rfl) (by kernel_rfl) (by kernel_rfl) Tryz.func7 (by kernel_rfl) (by kernel_rfl) (by kernel_rfl) ?_
  refine hA.mono ?_
  rintro e w6 ⟨rfl, h6⟩
  refine ⟨_, rfl, hAS _ h6, fun hHeld => ?_⟩
  refine Rg.call (ops := (Rg.opsOf Tryz.f19 6)) (fn := Tryz.f53) (xs := #[Operand.tmp 27, Operand.tmp 32]) (ats := #[88, 9]) 9 (some 33) 53 #[(.pointer (some ⟨j, 0, none⟩)), (.string r)] (by kernel_rfl) (by kernel_rfl) (by kernel_rfl) (by kernel_rfl) (by kernel_rfl) Tryz.func53 (by kernel_rfl) (by kernel_rfl) (by kernel_rfl) ?_
  refine (hB _ h6).mono ?_
  rintro e w8 ⟨rfl, h8⟩
  refine ⟨_, rfl, hBS _ h8, fun hHeld => ?_⟩
  refine Rg.take (ops := (Rg.opsOf Tryz.f19 6)) 10 (some 4) ((.int .i64 (k : Nat))) hNS (by kernel_rfl) (by kernel_rfl) (by kernel_rfl) (by kernel_rfl) (by kernel_rfl) hHeld (Rg.y_move (x := (Operand.tmp 33)) (Or.inr (by kernel_rfl)) (by kernel_rfl)) ?_
  refine Rg.done (ops := (Rg.opsOf Tryz.f19 6)) (by kernel_rfl) ?_
  exact ⟨by kernel_rfl, h8⟩
end Go.Proofs.YthejpojmmokinaaGreat.Tb

namespace Go.Proofs.YthejpojmmokinaaGreat.Tb
open Go.RowKit Tx Pm Dk Wm Wr Wl Pl
set_option linter.unusedVariables false
set_option linter.unusedSimpArgs false
set_option linter.unnecessarySimpa false
theorem wt_whole_len (L : List It) : L.length * 40 ≤ wt (whole7 L) := by
  have := wt_len (whole7 L)
  unfold whole7 at this ⊢
  rwa [List.length_map] at this
theorem wt_whole_mem {L : List It} {x : It} (h : x ∈ L) : x.path.size + x.data.size + 40 ≤ wt (whole7 L) := wt_mem (c := ⟨x.path, x.data, false⟩) (List.mem_map.2 ⟨x, h, rfl⟩)
def PackOk (x : Tst) (p q : ByteArray) : Prop := FillOk x.j.s p (Fm.pk (rec7 (whole7 x.L))) ∧ ((fillS x.j.s p (Fm.pk (rec7 (whole7 x.L)))).1 = 0 → FillOk (fillS x.j.s p (Fm.pk (rec7 (whole7 x.L)))).2 q ⟨#[]⟩) ∧ wt (whole7 x.L) ≤ 1000000000 ∧ p.size ≤ 1000 ∧ q.size ≤ 1000
theorem pack_1 {x : Tst} {p q : ByteArray} {k : Nat} {s1 : St} (h : fillS x.j.s p (Fm.pk (rec7 (whole7 x.L))) = (k, s1)) (hk : k ≠ 0) : packS x p q = (k, ⟨⟨s1, x.j.R, x.j.dm⟩, x.L⟩) := by
  unfold packS; rw [h]; exact if_pos hk
theorem pack_2 {x : Tst} {p q : ByteArray} {k : Nat} {s1 : St} {y : Jst} (h : fillS x.j.s p (Fm.pk (rec7 (whole7 x.L))) = (0, s1)) (h2 : resetS ⟨s1, x.j.R, x.j.dm⟩ q = (k, y)) : packS x p q = (k, ⟨y, x.L⟩) := by
  unfold packS; rw [h]; simp only [h2]; exact if_neg (fun hh => hh rfl)
theorem left_trans7 {α : Type} {Obj : World → (Nat → Prop) → α → Prop} {w w1 w2 : World} {F F1 : Nat → Prop} {y : α} (hc : Chg F w w1) (hn : ∀ g, F1 g → F g ∨ w.heap.size ≤ g) (h : LeftA Obj w1 F1 y w2) : LeftA Obj w F y w2 := LeftA.trans hc hn h
theorem TAt.disk {b j t m : Nat} {p q : ByteArray} {Fj F : Nat → Prop} {w W : World} {x : Tst} {s' : St} {k : Nat} {f : FuncId} {args : Array Value} (h : TAt b j t m p q Fj w F x) (hW : Below w.heap.size w W)
    (hc : ∀ {Fd}, ImpAt b W Fd x.j.s → Calls Tryz.prog f args W (Dos (ImpAt b) W Fd k s')) : Calls Tryz.prog f args W fun e w' => e = .returned (.int .i64 (k : Nat)) ∧ LeftA (Tn b j t m p q) w F ⟨⟨s', x.j.R, x.j.dm⟩, x.L⟩ w' := by
  have hw := h.below hW
  obtain ⟨v, Fd, hj⟩ := hw.jn
  refine (hc hj.dsk).mono ?_
  rintro e w' ⟨rfl, hl⟩
  obtain ⟨Fd', F', q1, c1, n1⟩ := hj.disk_left (imp_kind b) hl
  have h2 := hw.jleft (y := ⟨s', x.j.R, x.j.dm⟩) ⟨F', ⟨v, Fd', q1⟩, c1, n1⟩
  exact ⟨rfl, left_trans7 (Chg.of_below hW) (fun g hg => .inl hg) h2⟩
set_option maxRecDepth 100000 in
set_option maxHeartbeats 2000000 in
theorem pack_any (b j t m : Nat) {Fj F : Nat → Prop} {x : Tst} (p q : ByteArray) (w : World) (h : TAt b j t m p q Fj w F x) (o : PackOk x p q) :
    Calls Tryz.prog 21 #[.pointer (some ⟨t, 0, none⟩)] w fun e w' => e = .returned (.int .i64 ((packS x p q).1 : Nat)) ∧ LeftA (Tn b j t m p q) w F (packS x p q).2 w' := by
  obtain ⟨o1, o2, o3, o4, o5⟩ := o
  have hlen := wt_whole_len x.L
  have hsz : (rec7 (whole7 x.L)).size ≤ wt (whole7 x.L) + 10 := rec7_le (by omega)
  have hpk := Fm.pk_size (rec7 (whole7 x.L))
  have hvb := vb_len (x := (rec7 (whole7 x.L)).size) (by omega)
  obtain ⟨t0, t1, t2, t3⟩ := h.cell
  have hd1 := (Below.refl w.heap.size w).drew
  have h1 := h.below hd1
  have cw := whole_any t m x.L w.drew h1.cell.2.2.2 h1.rows h.rises (by omega) (fun y hy => by have := wt_whole_mem hy; omega)
  obtain ⟨k1, s1, hf⟩ : ∃ k s, fillS x.j.s p (Fm.pk (rec7 (whole7 x.L))) = (k, s) := ⟨_, _, rfl⟩
  have cf : ∀ W, Below w.heap.size w W → Calls Tryz.prog 57 #[.pointer (some ⟨b, 0, none⟩), .string p, .string (Fm.pk (rec7 (whole7 x.L)))] W fun e w' => e = .returned (.int .i64 (k1 : Nat)) ∧ LeftA (Tn b j t m p q) w F ⟨⟨s1, x.j.R, x.j.dm⟩, x.L⟩ w' := fun W hW =>
    h.disk hW (fun hd => by
      have := iFill_any b p (Fm.pk (rec7 (whole7 x.L))) W hd o1 o4 (by omega)
      rw [hf] at this
      exact this)
  have hS : ∀ W, Below w.heap.size w W → TwoT t b p W := fun W hW => ⟨(h.below hW).cell.1, (h.below hW).cell.2.1⟩
  have hDS : ∀ W, LeftA (Tn b j t m p q) w F ⟨⟨s1, x.j.R, x.j.dm⟩, x.L⟩ W → TwoT t b p W := fun W hW => by
    obtain ⟨F', ⟨Fj', hh⟩, _⟩ := hW
    exact ⟨hh.cell.1, hh.cell.2.1⟩
  have hrg := fun (ops : Array Oper) hops id => @packReg ops hops id t b k1 p (rec7 (whole7 x.L)) (Fm.pk (rec7 (whole7 x.L)))
  have hA : Calls Tryz.prog 59 #[.pointer (some ⟨t, 0, none⟩)] w.drew fun e w' => ∃ a n c, e = .returned (.slice a n c) ∧ (n ≤ c ∧ Opl w' a n (whole7 x.L) ∧ Below w.heap.size w w') := cw.mono fun e w' hh => by
    obtain ⟨v, rfl, hO, hb⟩ := hh
    obtain ⟨a, c, rfl, hl, hc, _⟩ := hO.form
    exact ⟨a, _, c, rfl, hc, hl, Tx.below_call hd1 hb⟩
  have hB : ∀ a n c W, (n ≤ c ∧ Opl W a n (whole7 x.L) ∧ Below w.heap.size w W) → Calls Tryz.prog 7 #[.slice a n c] W fun e w' => e = .returned (.string (rec7 (whole7 x.L))) ∧ Below w.heap.size w w' := fun a n c W hW =>
    (record_any a n c (whole7 x.L) W hW.2.1 (by omega) hW.1).mono fun e w' hh => ⟨hh.1, Tx.below_call hW.2.2 hh.2⟩
  have hC : ∀ W, Below w.heap.size w W → Calls Tryz.prog 58 #[.string (rec7 (whole7 x.L))] W fun e w' => e = .returned (.string (Fm.pk (rec7 (whole7 x.L)))) ∧ Below w.heap.size w w' := fun W hW =>
    (Fr.fPack_any (rec7 (whole7 x.L)) W (by omega)).mono fun e w' hh => ⟨hh.1, Tx.below_call hW hh.2⟩
  have HS := Lib.hid hS
  have HDS := Lib.hid hDS
  have HA := Lib.hid hA
  have HB := Lib.hid hB
  have HC := Lib.hid hC
  have HF := Lib.hid cf
  generalize hR7 : rec7 (whole7 x.L) = R7 at *
  generalize hPK : Fm.pk R7 = PK at *
  by_cases e1 : k1 ≠ 0
  · have hp : packS x p q = (k1, ⟨⟨s1, x.j.R, x.j.dm⟩, x.L⟩) := pack_1 (by rw [hR7, hPK]; exact hf) e1
    rw [hp]
    have n1 := neZ e1
    have h0 := Lib.hid (hS w (Below.refl _ _))
    clear h h1 o1 o2 o3 o4 o5 hlen hsz hpk hvb t0 t1 t2 t3 hd1 cw hf cf hS hDS hrg hA hB hC hp e1 hR7 hPK
    go_enter Tryz.func21, Tryz.ntmps21
    go_wp2_with fail
    refine Rg.wp_only ?_ (packReg _ (by kernel_rfl) _ t b k1 p R7 PK _ _ _ _ _ h0.out HA.out (fun a n c W hW => HS.out W hW.2.2) HB.out (fun W hW => HS.out W hW) HC.out (fun W hW => HS.out W hW) HF.out HDS.out)
    rintro _ w8 ⟨a5, n5, c5, rfl, h8⟩
    go_wp2_with fail
    go_ret
    exact ⟨rfl, h8⟩
  · obtain rfl : k1 = 0 := by omega
    have o2' := o2 (by rw [hf])
    rw [hf] at o2'
    simp only at o2'
    obtain ⟨k2, y, hrs⟩ : ∃ k y, resetS ⟨s1, x.j.R, x.j.dm⟩ q = (k, y) := ⟨_, _, rfl⟩
    have hp : packS x p q = (k2, ⟨y, x.L⟩) := pack_2 (by rw [hR7, hPK]; exact hf) hrs
    rw [hp]
    have h0 := Lib.hid (hS w (Below.refl _ _))
    have H2 := Lib.hid o2'
    have HRS := Lib.hid hrs
    have H5 := Lib.hid o5
    clear h h1 o1 o2 o3 o4 o5 hlen hsz hpk hvb t0 t1 t2 t3 hd1 cw hf cf hS hDS hrg hA hB hC hp e1 o2' hrs hR7 hPK
    go_enter Tryz.func21, Tryz.ntmps21
    go_wp2_with fail
    refine Rg.wp_only ?_ (packReg _ (by kernel_rfl) _ t b 0 p R7 PK _ _ _ _ _ h0.out HA.out (fun a n c W hW => HS.out W hW.2.2) HB.out (fun W hW => HS.out W hW) HC.out (fun W hW => HS.out W hW) HF.out HDS.out)
    rintro _ w8 ⟨a5, n5, c5, rfl, F8, ⟨Fj8, q8⟩, k8, n8⟩
    obtain ⟨_, _, t2, _⟩ := q8.cell
    obtain ⟨v8, Fd8, j8⟩ := q8.jn
    have cr := iReset_any b j q w8 j8 H2.out H5.out
    rw [HRS.out] at cr
    have HQ := Lib.hid (fun w' (hl : LeftA (JnT b j q) w8 Fj8 y w') => left_trans7 k8 n8 (q8.jleft (y := y) hl))
    clear q8 j8 k8 n8
    go_wp2_with fail
    go_at_call 60
    refine cr.mono ?_
    rintro e w9 ⟨rfl, h9⟩
    go_wp2_with fail
    go_ret
    exact ⟨rfl, HQ.out _ h9⟩
set_option maxRecDepth 100000 in
theorem begin_any (tp : Option Addr) (w : World) : Calls Tryz.prog 15 #[.pointer tp] w fun e w' => ∃ u, e = .returned (.pointer (some ⟨u, 0, none⟩)) ∧ ∃ G, Bn u tp w' G [] ∧ (∀ g, G g → w.heap.size ≤ g) ∧ Below w.heap.size w w' := by
  have HB := Lib.hid (((Below.refl w.heap.size w).alloc (Nat.le_refl _) (.map #[] 0)).alloc (by simp) (.cells #[.pointer tp, .slice none 0 0, .map (some w.heap.size)] 103))
  have hP : Pp ((w.alloc (.map #[] 0)).alloc (.cells #[.pointer tp, .slice none 0 0, .map (some w.heap.size)] 103)) w.heap.size [] := (pp_made w).kept (((Below.refl (w.alloc (.map #[] 0)).heap.size _).alloc (Nat.le_refl _) _).block _ (by simp))
  have hb := new_at (w.alloc (.map #[] 0)) (.cells #[.pointer tp, .slice none 0 0, .map (some w.heap.size)] 103) (g := w.heap.size + 1) (by simp)
  have hbn : BAt (w.heap.size + 1) w.heap.size tp (.slice none 0 0) ((w.alloc (.map #[] 0)).alloc (.cells #[.pointer tp, .slice none 0 0, .map (some w.heap.size)] 103)) (fun i => i = w.heap.size + 1 ∨ (Value.slice none 0 0).ownBlock = some i ∨ i = w.heap.size) [] :=
    ⟨hb, nil_OwnC _ _, hP, (fun e => by cases e), List.Pairwise.nil, fun i => Iff.rfl⟩
  have HN := Lib.hid hbn
  have hmm := @run_makeMap Tryz.prog
  clear hbn hP hb
  go_enter Tryz.func15, Tryz.ntmps15
  go_wp2_with fail
  go_ret
  refine ⟨w.heap.size + 1, rfl, _, ⟨_, _, HN.out⟩, ?_, HB.out⟩
  rintro g (rfl | hg | rfl)
  · omega
  · cases hg
  · omega
end Go.Proofs.YthejpojmmokinaaGreat.Tb

namespace Go.Proofs.YthejpojmmokinaaGreat.Tb
open Go.RowKit Tx Pm Dk Wm Wr Wl Pl
set_option linter.unusedVariables false
set_option linter.unusedSimpArgs false
set_option linter.unnecessarySimpa false
def TB (b j t m : Nat) (p q : ByteArray) (u : Nat) (w : World) (H : Nat → Prop) (z : Tst × List Ch) : Prop := ∃ F G, Tn b j t m p q w F z.1 ∧ Bn u (some ⟨t, 0, none⟩) w G z.2 ∧ (∀ i, F i → ¬ G i) ∧ ∀ i, H i ↔ F i ∨ G i
theorem bat_beside {b j t m u pm : Nat} {p q : ByteArray} {tp : Option Addr} {vO : Value} {w w1 : World} {F F1 G : Nat → Prop} {x y : Tst} {l : List Ch} (hB : BAt u pm tp vO w G l) (hd : ∀ i, F i → ¬ G i) (hc : Chg F w w1) (hn : ∀ g, F1 g → F g ∨ w.heap.size ≤ g) :
    BAt u pm tp vO w1 G l ∧ ∀ i, F1 i → ¬ G i :=
  ⟨hB.kept (fun i hi => hc.block i (hB.lt i hi) (fun hf => hd i hf hi)), fun i hi hg => by
    rcases hn i hi with hh | hh
    · exact hd i hh hg
    · have := hB.lt i hg; omega⟩
def CommitOk (x : Tst) (l : List Ch) (p q : ByteArray) : Prop := wt l ≤ 1000000000 ∧ AddOk x.j q (rec7 l) ∧ x.L.length + l.length ≤ 1000000000 ∧ q.size ≤ 1000 ∧ (addS x.j q (rec7 l)).2.R.length ≤ 10000000000 ∧ (16 ≤ (addS x.j q (rec7 l)).2.R.length → PackOk ⟨(addS x.j q (rec7 l)).2, all7 x.L l⟩ p q)
theorem commit_1 {x : Tst} {l : List Ch} {p q : ByteArray} {k : Nat} {y : Jst} (hl : l ≠ []) (h : addS x.j q (rec7 l) = (k, y)) (hk : k ≠ 0) : commitS x l p q = (k, ⟨y, x.L⟩) := by
  unfold commitS; rw [if_neg hl, h]; exact if_pos hk
theorem commit_2 {x : Tst} {l : List Ch} {p q : ByteArray} {y : Jst} (hl : l ≠ []) (h : addS x.j q (rec7 l) = (0, y)) (h16 : ¬ 16 ≤ y.R.length) : commitS x l p q = (0, ⟨y, all7 x.L l⟩) := by
  unfold commitS; rw [if_neg hl, h]; simp only; rw [if_neg (fun hh => hh rfl), if_neg h16]
theorem commit_3 {x : Tst} {l : List Ch} {p q : ByteArray} {y : Jst} (hl : l ≠ []) (h : addS x.j q (rec7 l) = (0, y)) (h16 : 16 ≤ y.R.length) : commitS x l p q = packS ⟨y, all7 x.L l⟩ p q := by
  unfold commitS; rw [if_neg hl, h]; simp only; rw [if_neg (fun hh => hh rfl), if_pos h16]
theorem cleared {u pm : Nat} {tp : Option Addr} {vO : Value} {w : World} {G : Nat → Prop} {l : List Ch} (h : BAt u pm tp vO w G l) :
    ((w.alloc (.map #[] 0)).cell? ⟨u, 1, none⟩ = some vO ∧ (w.alloc (.map #[] 0)).frozen? ⟨u, 1, none⟩ = false) ∧
    (((w.alloc (.map #[] 0)).setCell ⟨u, 1, none⟩ (.slice none 0 0)).cell? ⟨u, 2, none⟩ = some (.map (some pm)) ∧ ((w.alloc (.map #[] 0)).setCell ⟨u, 1, none⟩ (.slice none 0 0)).frozen? ⟨u, 2, none⟩ = false) ∧
    BAt u w.heap.size tp (.slice none 0 0) (((w.alloc (.map #[] 0)).setCell ⟨u, 1, none⟩ (.slice none 0 0)).setCell ⟨u, 2, none⟩ (.map (some w.heap.size))) (fun i => i = u ∨ (Value.slice none 0 0).ownBlock = some i ∨ i = w.heap.size) [] ∧
    Chg (· = u) w (((w.alloc (.map #[] 0)).setCell ⟨u, 1, none⟩ (.slice none 0 0)).setCell ⟨u, 2, none⟩ (.map (some w.heap.size))) := by
  have hul : u < w.heap.size := h.lt u ((h.foot u).2 (.inl rfl))
  have hb0 : (w.alloc (.map #[] 0)).heap[u]? = some (.cells #[.pointer tp, vO, .map (some pm)] 103 (0, 0)) := (((Below.refl w.heap.size w).alloc (Nat.le_refl _) _).block u hul).trans h.blk
  have hb1 : ((w.alloc (.map #[] 0)).setCell ⟨u, 1, none⟩ (.slice none 0 0)).heap[u]? = some (.cells #[.pointer tp, .slice none 0 0, .map (some pm)] 103 (0, 0)) := by rw [set_block hb0]; rfl
  have hb2 : (((w.alloc (.map #[] 0)).setCell ⟨u, 1, none⟩ (.slice none 0 0)).setCell ⟨u, 2, none⟩ (.map (some w.heap.size))).heap[u]? = some (.cells #[.pointer tp, .slice none 0 0, .map (some w.heap.size)] 103 (0, 0)) := by rw [set_block hb1]; rfl
  refine ⟨⟨?_, ?_⟩, ⟨?_, ?_⟩, ⟨hb2, nil_OwnC _ _, ?_, (fun e => by cases e), List.Pairwise.nil, fun i => Iff.rfl⟩, ((Chg.of_below ((Below.refl w.heap.size w).alloc (Nat.le_refl _) _)).then (chg_set (b := u) (k := 1) _)).then (chg_set (b := u) (k := 2) _)⟩
  · unfold World.cell?; rw [hb0]; rfl
  · unfold World.frozen?; rw [hb0]; simp
  · unfold World.cell?; rw [hb1]; rfl
  · unfold World.frozen?; rw [hb1]; simp
  · exact ((pp_made w).kept (set_other _ (by omega))).kept (set_other _ (by omega))
def CommitTo (b j t m : Nat) (p q : ByteArray) (u : Nat) (w : World) (H : Nat → Prop) (r : Nat × Tst) (e : Ending) (w' : World) : Prop :=
  e = .returned (.int .i64 (r.1 : Nat)) ∧ LeftA (Tn b j t m p q) w H r.2 w' ∧ (r.1 = 0 → LeftA (TB b j t m p q u) w H (r.2, []) w')
theorem left_wide {α : Type} {Obj : World → (Nat → Prop) → α → Prop} {w w1 : World} {F H : Nat → Prop} {y : α} (hF : ∀ i, F i → H i) (h : LeftA Obj w F y w1) : LeftA Obj w H y w1 := by
  obtain ⟨F', h1, h2, h3⟩ := h
  exact ⟨F', h1, h2.mono hF, fun g hg => (h3 g hg).imp (fun hh => hF g hh) id⟩
theorem not_nil_len {l : List Ch} {n : Nat} (h : l ≠ []) (hn : n = l.length) : 0 < n := by
  cases l with
  | nil => exact absurd rfl h
  | cons x l => simp at hn; omega
set_option maxRecDepth 100000 in
set_option maxHeartbeats 4000000 in
theorem commit_any (b j t m u : Nat) {H : Nat → Prop} {x : Tst} {l : List Ch} (p q : ByteArray) (w : World) (h : TB b j t m p q u w H (x, l)) (o : CommitOk x l p q) :
    Calls Tryz.prog 19 #[.pointer (some ⟨u, 0, none⟩)] w (CommitTo b j t m p q u w H (commitS x l p q)) := by
  have h0 := h
  obtain ⟨F, G, ⟨Fj, hT⟩, ⟨pm, vO, hB⟩, hd, hH⟩ := h
  obtain ⟨o1, o2, o3, o4, o5, o6⟩ := o
  obtain ⟨c0, c1, c2⟩ := hB.cell
  obtain ⟨aO, cO, hvO, hO1, hO2, _⟩ := hB.ops.form
  obtain ⟨n, hn⟩ : ∃ n, n = l.length := ⟨_, rfl⟩
  rw [← hn] at hvO hO1 hO2
  by_cases hl : l = []
  · subst hl
    obtain rfl : n = 0 := hn
    rw [hvO] at c1
    have HE := Lib.hid (show CommitTo b j t m p q u w H (commitS x [] p q) (.returned (.int .i64 0)) w from ⟨rfl, ⟨F, ⟨Fj, hT⟩, Chg.refl _ _, fun g hg => .inl ((hH g).2 (.inl hg))⟩, fun _ => LeftA.of h0 (Chg.refl _ _)⟩)
    clear h0 hT hB hd hH o1 o2 o3 o4 o5 o6 hvO hO1
    go_enter Tryz.func19, Tryz.ntmps19
    go_wp2_with fail
    go_ret
    exact HE.out
  · have hpos := not_nil_len hl hn
    have hd1 := (Below.refl w.heap.size w).drew
    obtain ⟨k, y, hadd⟩ : ∃ k y, addS x.j q (rec7 l) = (k, y) := ⟨_, _, rfl⟩
    have hrec : ∀ W, Below w.heap.size w W → Calls Tryz.prog 7 #[.slice aO n cO] W fun e w' => e = .returned (.string (rec7 l)) ∧ Below w.heap.size w w' := fun W hW =>
      (record_any aO n cO l W (hO1.below hW) (by omega) hO2).mono fun e w' hh => ⟨hh.1, Tx.below_call hW hh.2⟩
    have hcall : ∀ W, Below w.heap.size w W → Calls Tryz.prog 53 #[.pointer (some ⟨j, 0, none⟩), .string (rec7 l)] W fun e w' => e = .returned (.int .i64 (k : Nat)) ∧ LeftA (Tn b j t m p q) w F ⟨y, x.L⟩ w' := fun W hW => by
      have hW2 := hT.below hW
      obtain ⟨v, Fd, hj⟩ := hW2.jn
      have c := iAdd_any b j q (rec7 l) W hj o2 o4
      rw [hadd] at c
      exact c.mono fun e w' hh => ⟨hh.1, left_trans7 (Chg.of_below hW) (fun g hg => .inl hg) (hW2.jleft (y := y) hh.2)⟩
    have hS : ∀ W, Below w.heap.size w W → TwoC t j u n cO aO W := fun W hW => ⟨(hT.below hW).cell.2.2.1, (hB.below hW).cell.2.1.trans (by rw [hvO])⟩
    have hS8 : ∀ W, LeftA (Tn b j t m p q) w F ⟨y, x.L⟩ W → TwoC t j u n cO aO W := fun W hW => by
      obtain ⟨F8, ⟨Fj8, h8⟩, k8, n8⟩ := hW
      exact ⟨h8.cell.2.2.1, (bat_beside (b := b) (j := j) (t := t) (m := m) (p := p) (q := q) (x := x) (y := x) hB hd k8 n8).1.cell.2.1.trans (by rw [hvO])⟩
    have HS := Lib.hid hS
    have HS8 := Lib.hid hS8
    have HREC := Lib.hid hrec
    have HCALL := Lib.hid hcall
    have hs0 := Lib.hid (hS w (Below.refl _ _))
    have hnz : ((n : Int) == 0) = false := by simp; omega
    have c1' := c1
    rw [hvO] at c1'
    by_cases hk : k ≠ 0
    · rw [commit_1 hl hadd hk]
      have nk := neZ hk
      have HK := Lib.hid hk
      have HH := Lib.hid hH
      clear h0 hT hB hd hH o1 o2 o3 o4 o5 o6 hvO hO1 hn hS hS8 hrec hcall hadd hk hl hd1 c1
      go_enter Tryz.func19, Tryz.ntmps19
      go_wp2_with fail
      refine Rg.wp_only ?_ (commitReg _ (by kernel_rfl) _ t j u n cO k aO (rec7 l) _ _ _ hs0.out (HREC.out _ (Below.refl w.heap.size w).drew) (fun W hW => HS.out W hW) HCALL.out HS8.out)
      rintro _ w8 ⟨rfl, h8⟩
      go_wp2_with fail
      go_ret
      exact ⟨rfl, left_wide (fun i hi => (HH.out i).2 (.inl hi)) h8, fun hh => absurd hh HK.out⟩
    · obtain rfl : k = 0 := by omega
      rw [hadd] at o5 o6
      simp only at o5 o6
      have hwl := wt_len l
      -- behind Add
      have hnext : ∀ w8, LeftA (Tn b j t m p q) w F ⟨y, x.L⟩ w8 → ∃ F8, (∃ Fj8, TAt b j t m p q Fj8 w8 F8 ⟨y, x.L⟩) ∧ BAt u pm (some ⟨t, 0, none⟩) vO w8 G l ∧ (∀ i, F8 i → ¬ G i) ∧ Chg F w w8 ∧ (∀ g, F8 g → F g ∨ w.heap.size ≤ g) := fun w8 hW => by
        obtain ⟨F8, h8, k8, n8⟩ := hW
        obtain ⟨a1, a2⟩ := bat_beside (b := b) (j := j) (t := t) (m := m) (p := p) (q := q) (x := x) (y := x) hB hd k8 n8
        exact ⟨F8, h8, a1, a2, k8, n8⟩
      have HNX := Lib.hid hnext
      have HH := Lib.hid hH
      have HN := Lib.hid hn
      have HV := Lib.hid hvO
      have HO3 := Lib.hid (show x.L.length + n ≤ 1000000000 by omega)
      have HKS := Lib.hid (show ∀ z ∈ l, z.key.size ≤ 1000000000000 from fun z hz => by have := wt_mem hz; omega)
      have HL := Lib.hid hl
      have HADD := Lib.hid hadd
      have H5 := Lib.hid o5
      have H6 := Lib.hid o6
      clear h0 hT hB hd hH o1 o2 o3 o4 o5 o6 hvO hO1 hn hS hS8 hrec hcall hadd hk hl hd1 c1 hnext hwl
      go_enter Tryz.func19, Tryz.ntmps19
      go_wp2_with fail
      refine Rg.wp_only ?_ (commitReg _ (by kernel_rfl) _ t j u n cO 0 aO (rec7 l) _ _ _ hs0.out (HREC.out _ (Below.refl w.heap.size w).drew) (fun W hW => HS.out W hW) HCALL.out HS8.out)
      rintro _ w8 ⟨rfl, h8⟩
      obtain ⟨F8, ⟨Fj8, hT8⟩, hB8, hd8, k8, n8⟩ := HNX.out _ h8
      obtain ⟨_, _, _, t83⟩ := hT8.cell
      obtain ⟨_, b81, _⟩ := hB8.cell
      obtain ⟨aP, cP, hvP, hOP, hcP, _⟩ := hB8.ops.form
      rw [HV.out, ← HN.out] at hvP
      injection hvP with e1 e2 e3
      subst e1 e3
      rw [← HN.out] at hOP
      have cd := do_any t m x.L aO n cO l w8 t83 hT8.rows hT8.rises hOP HO3.out HKS.out (by rw [HN.out]; exact hcP)
      rw [HV.out] at b81
      have HT8 := Lib.hid hT8
      have HB8 := Lib.hid hB8
      have HD8 := Lib.hid hd8
      have HK8 := Lib.hid k8
      have HN8 := Lib.hid n8
      clear hT8 hB8 hd8 k8 n8 hOP hcP h8 e2
      go_wp2_with fail
      go_at_call 54
      refine cd.mono ?_
      rintro e w9 ⟨rfl, hm9, hc9⟩
      have hT9 := HT8.out.turned hm9 hc9 (rises_all HT8.out.rises l) (plain_all HT8.out.plain l)
      have hm8 : F8 m := (HT8.out.foot m).2 (.inr (.inr rfl))
      have hB9 := HB8.out.kept (fun i hi => hc9.block i (HB8.out.lt i hi) (fun e => HD8.out m hm8 (e ▸ hi)))
      obtain ⟨⟨s1, s2⟩, ⟨s3, s4⟩, hBn, hcu⟩ := cleared hB9
      rw [HV.out] at s1
      have huG : G u := (HB8.out.foot u).2 (.inl rfl)
      have hT11 := hT9.kept (fun i hi => hcu.block i (hT9.lt i hi) (fun e => HD8.out i hi (e ▸ huG)))
      obtain ⟨_, _, t112, _⟩ := hT11.cell
      have hmm := @run_makeMap Tryz.prog
      have hz9 : w8.heap.size ≤ w9.heap.size := hc9.size
      have hz8 : w.heap.size ≤ w8.heap.size := HK8.out.size
      have hch9 : Chg H w w9 := (HK8.out.mono (fun i hi => (HH.out i).2 (.inl hi))).trans (hc9.mono (G := F8) (fun i hi => hi ▸ hm8)) (fun i hi => (HN8.out i hi).imp (fun hh => (HH.out i).2 (.inl hh)) id)
      have hch11 := hch9.then (hcu.mono (fun i hi => (HH.out i).2 (.inr (hi ▸ huG))))
      have hdis : ∀ i, F8 i → ¬ (i = u ∨ (Value.slice none 0 0).ownBlock = some i ∨ i = w9.heap.size) := fun i hi hh => by
        rcases hh with rfl | hh | rfl
        · exact HD8.out _ hi huG
        · cases hh
        · exact absurd (hT9.lt _ hi) (Nat.lt_irrefl _)
      obtain ⟨v11, Fd11, j11⟩ := hT11.jn
      have cr := iRecords_any (imp_kind b) b j q _ j11 H5.out
      have HT11 := Lib.hid hT11
      have HBn := Lib.hid hBn
      have HCH := Lib.hid hch11
      have HDIS := Lib.hid hdis
      have HSZ := Lib.hid (show w.heap.size ≤ w9.heap.size by omega)
      clear hT9 hB9 hBn hT11 hm9 hc9 hch9 hch11 hdis j11 hcu hz9 hz8 cd
      have HG8 := Lib.hid (show ∀ g, F8 g → H g ∨ w.heap.size ≤ g from fun g hg => (HN8.out g hg).imp (fun hh => (HH.out g).2 (.inl hh)) id)
      have HGB := Lib.hid (show ∀ g, (g = u ∨ (Value.slice none 0 0).ownBlock = some g ∨ g = w9.heap.size) → H g ∨ w.heap.size ≤ g from fun g hg => by
        rcases hg with rfl | hg | rfl
        · exact .inl ((HH.out _).2 (.inr huG))
        · cases hg
        · exact .inr HSZ.out)
      obtain ⟨N, hN⟩ : ∃ N, N = y.R.length := ⟨_, rfl⟩
      have HNN := Lib.hid hN
      clear hN
      go_wp2_with fail
      generalize ((w9.alloc (.map #[] 0)).setCell ⟨u, 1, none⟩ (.slice none 0 0)).setCell ⟨u, 2, none⟩ (.map (some w9.heap.size)) = W at HT11 HBn HCH cr t112 ⊢
      go_at_call 55
      refine cr.mono ?_
      rintro e w12 ⟨v12, rfl, h12, hb12⟩
      obtain ⟨a12, c12, hv12, _⟩ := h12.form
      rw [show (⟨y, all7 x.L l⟩ : Tst).j.R.length = N from HNN.out.symm] at hv12
      have hT12 := HT11.out.below hb12
      have hB12 := HBn.out.below hb12
      have hC12 : Chg H w w12 := HCH.out.then (Chg.of_below hb12)
      clear h12
      subst hv12
      by_cases h16 : 16 ≤ y.R.length
      · have hz16 : (16 : Int) ≤ (N : Int) := by rw [HNN.out]; omega
        have hcs : commitS x l p q = packS ⟨y, all7 x.L l⟩ p q := commit_3 HL.out HADD.out h16
        have cp := pack_any b j t m p q w12 hT12 (H6.out h16)
        have HCS := Lib.hid hcs
        have HP := Lib.hid (fun w' (hl : LeftA (Tn b j t m p q) w12 F8 (packS ⟨y, all7 x.L l⟩ p q).2 w') => (⟨left_trans7 hC12 HG8.out (left_wide (fun i hi => hi) hl), fun _ => by
          obtain ⟨F13, h13, k13, n13⟩ := hl
          obtain ⟨b1, b2⟩ := bat_beside (b := b) (j := j) (t := t) (m := m) (p := p) (q := q) (x := x) (y := x) hB12 HDIS.out k13 n13
          have hs12 := hC12.size
          refine ⟨fun i => F13 i ∨ (i = u ∨ (Value.slice none 0 0).ownBlock = some i ∨ i = w9.heap.size), ⟨F13, _, h13, ⟨_, _, b1⟩, b2, fun i => Iff.rfl⟩, hC12.trans k13 HG8.out, fun g hg => ?_⟩
          rcases hg with hg | hg
          · rcases n13 g hg with hh | hh
            · exact HG8.out g hh
            · exact .inr (by omega)
          · exact HGB.out g hg⟩ : LeftA (Tn b j t m p q) w H (packS ⟨y, all7 x.L l⟩ p q).2 w' ∧ ((packS ⟨y, all7 x.L l⟩ p q).1 = 0 → LeftA (TB b j t m p q u) w H ((packS ⟨y, all7 x.L l⟩ p q).2, []) w')))
        clear hT12 hB12 hC12 hcs h16
        go_wp2_with fail
        go_at_call 21
        refine cp.mono ?_
        rintro e w13 ⟨rfl, h13⟩
        obtain ⟨q1, q2⟩ := HP.out _ h13
        clear h13
        go_wp2_with fail
        go_ret
        rw [HCS.out]
        exact ⟨rfl, q1, q2⟩
      · have hz16 : ¬ (16 : Int) ≤ (N : Int) := by rw [HNN.out]; omega
        have hcs : commitS x l p q = (0, ⟨y, all7 x.L l⟩) := commit_2 HL.out HADD.out h16
        have HCS := Lib.hid hcs
        have HE := Lib.hid (show CommitTo b j t m p q u w H (0, ⟨y, all7 x.L l⟩) (.returned (.int .i64 0)) w12 from
          ⟨rfl, ⟨F8, ⟨_, hT12⟩, hC12, HG8.out⟩, fun _ => ⟨fun i => F8 i ∨ (i = u ∨ (Value.slice none 0 0).ownBlock = some i ∨ i = w9.heap.size), ⟨F8, _, ⟨_, hT12⟩, ⟨_, _, hB12⟩, HDIS.out, fun i => Iff.rfl⟩, hC12, fun g hg => hg.elim (HG8.out g) (HGB.out g)⟩⟩)
        clear hT12 hB12 hC12 hcs h16
        go_wp2_with fail
        go_ret
        rw [HCS.out]
        exact HE.out
end Go.Proofs.YthejpojmmokinaaGreat.Tb

namespace Go.Proofs.YthejpojmmokinaaGreat.Tb
open Go.RowKit Tx Pm Dk Wm Wr Wl Pl
set_option linter.unusedVariables false
set_option linter.unusedSimpArgs false
set_option linter.unnecessarySimpa false
def RecOk (L : List It) (R : List ByteArray) : Prop := (∀ r ∈ R, (opsS r).2 = 0 ∧ r.size ≤ 500000000) ∧ L.length + (R.map (·.size)).sum ≤ 500000000 ∧ R.length ≤ 10000000000
theorem sum_take (R : List ByteArray) (k : Nat) : ((R.take k).map (·.size)).sum ≤ (R.map (·.size)).sum := by
  conv => rhs; rw [← List.take_append_drop k R]
  rw [List.map_append, List.sum_append]
  omega
def LogTo (b t m : Nat) (p q : ByteArray) (w : World) (Fd : Nat → Prop) (L : List It) (r : Nat × Jst) (e : Ending) (w' : World) : Prop :=
  (r.1 = 0 ∧ e = .returned (.int .i64 0) ∧ ∃ j, LeftA (Tn b j t m p q) w (fun i => Fd i ∨ i = t ∨ i = m) ⟨r.2, rows7 L r.2.R⟩ w') ∨ (r.1 ≠ 0 ∧ e = .returned (.int .i64 (r.1 : Nat)) ∧ Dk.Left (ImpAt b) w Fd r.2.s w')
set_option maxRecDepth 100000 in
set_option maxHeartbeats 4000000 in
theorem takeLog_any (b t m : Nat) {Fd : Nat → Prop} {s : St} {L : List It} (p q : ByteArray) (w : World) (hblk : w.heap[t]? = some (.cells #[.pointer (some ⟨b, 0, none⟩), .string p, .pointer none, .map (some m)] 90 (0, 0)))
    (hm : Mo w m L) (hD : ImpAt b w Fd s) (hoff : ¬ Fd t ∧ ¬ Fd m) (hR : Rises L) (hP : Plain L) (o : OpenOk s q) (hq : q.size ≤ 1000) (hrec : (openS s q).1 = 0 → RecOk L (openS s q).2.R) :
    Calls Tryz.prog 45 #[.pointer (some ⟨t, 0, none⟩), .string q] w (LogTo b t m p q w Fd L (openS s q)) := by
  have co := iOpen_any b q w hD o hq
  have htl : t < w.heap.size := (Array.getElem?_eq_some_iff.1 hblk).1
  have t0 : w.cell? ⟨t, 0, none⟩ = some (.pointer (some ⟨b, 0, none⟩)) := by unfold World.cell?; rw [hblk]; rfl
  have htm : t ≠ m := fun e => hm.nb (e ▸ hblk)
  have hml := hm.lt
  obtain ⟨k, x, hx⟩ : ∃ k x, openS s q = (k, x) := ⟨_, _, rfl⟩
  unfold LogTo
  rw [hx] at co hrec ⊢
  simp only at hrec ⊢
  by_cases hk : k ≠ 0
  · have nk := neZ hk
    have HK := Lib.hid hk
    have c1 : Calls Tryz.prog 93 #[.pointer (some ⟨b, 0, none⟩), .string q] w fun e w' => e = .returned (.tuple #[.pointer none, .int .i64 (k : Nat)]) ∧ Dk.Left (ImpAt b) w Fd x.s w' := co.mono fun e w' hh => by
      rcases hh with ⟨h0, _⟩ | ⟨_, he, hl⟩
      · exact absurd h0 hk
      · exact ⟨he, hl⟩
    clear hblk hm hD hoff o hrec co htm hk hx
    go_enter Tryz.func45, Tryz.ntmps45
    go_wp2_with fail
    go_at_call 93
    refine c1.mono ?_
    rintro e w1 ⟨rfl, h1⟩
    go_wp2_with fail
    go_ret
    exact .inr ⟨HK.out, rfl, h1⟩
  · obtain rfl : k = 0 := by omega
    obtain ⟨hr1, hr2, hr3⟩ := hrec rfl
    have c1 : Calls Tryz.prog 93 #[.pointer (some ⟨b, 0, none⟩), .string q] w fun e w' => ∃ j, e = .returned (.tuple #[.pointer (some ⟨j, 0, none⟩), .int .i64 0]) ∧ LeftA (JnT b j q) w Fd x w' := co.mono fun e w' hh => by
      rcases hh with ⟨_, j, he, hl⟩ | ⟨h0, _⟩
      · exact ⟨j, he, hl⟩
      · exact absurd rfl h0
    have HBLK := Lib.hid hblk
    have HM := Lib.hid hm
    have HOFF := Lib.hid hoff
    have HR := Lib.hid hR
    have HP := Lib.hid hP
    have HR1 := Lib.hid hr1
    obtain ⟨n, hn⟩ : ∃ n, n = x.R.length := ⟨_, rfl⟩
    have HN := Lib.hid hn
    have HSUM := Lib.hid hr2
    clear hblk hm hD hoff o hrec co hx hR hP hr1 hn hr2 hk
    go_enter Tryz.func45, Tryz.ntmps45
    go_wp2_with fail
    go_at_call 93
    refine c1.mono ?_
    rintro e w1 ⟨j, rfl, Fj, hj, k1, n1⟩
    have hb1 : w1.heap[t]? = _ := (k1.block t htl HOFF.out.1).trans HBLK.out
    have hm1 := HM.out.kept (k1.block m hml HOFF.out.2)
    have hjt : ¬ Fj t := fun hh => by rcases n1 t hh with h | h; exact HOFF.out.1 h; omega
    have hjm : ¬ Fj m := fun hh => by rcases n1 m hh with h | h; exact HOFF.out.2 h; omega
    have s0 : w1.cell? ⟨t, 2, none⟩ = some (.pointer none) := by unfold World.cell?; rw [hb1]; rfl
    have s1 : w1.frozen? ⟨t, 2, none⟩ = false := by unfold World.frozen?; rw [hb1]; simp
    have hb2 : (w1.setCell ⟨t, 2, none⟩ (.pointer (some ⟨j, 0, none⟩))).heap[t]? = some (.cells #[.pointer (some ⟨b, 0, none⟩), .string p, .pointer (some ⟨j, 0, none⟩), .map (some m)] 90 (0, 0)) := by rw [set_block hb1]; rfl
    have kt2 : Chg (· = t) w1 (w1.setCell ⟨t, 2, none⟩ (.pointer (some ⟨j, 0, none⟩))) := chg_set (b := t) (k := 2) _
    have hjlt := (jn_kind (imp_kind b) 157 b j q).1 hj
    have hj2 : JnT b j q (w1.setCell ⟨t, 2, none⟩ (.pointer (some ⟨j, 0, none⟩))) Fj x := (jn_kind (imp_kind b) 157 b j q).2 hj (fun i hi => kt2.block i (hjlt i hi) (fun e => hjt (e ▸ hi)))
    have hm2 := hm1.kept (kt2.block m hm1.lt (fun e => htm e.symm))
    have hTA : TAt b j t m p q Fj (w1.setCell ⟨t, 2, none⟩ (.pointer (some ⟨j, 0, none⟩))) (fun i => Fj i ∨ i = t ∨ i = m) ⟨x, L⟩ := ⟨hj2, hb2, hm2, ⟨hjt, hjm⟩, fun i => Iff.rfl, HR.out, HP.out⟩
    have hch2 : Chg (fun i => Fd i ∨ i = t ∨ i = m) w (w1.setCell ⟨t, 2, none⟩ (.pointer (some ⟨j, 0, none⟩))) := (k1.mono (fun i hi => .inl hi)).then (kt2.mono (fun i hi => .inr (.inl hi)))
    have hnew : ∀ g, (Fj g ∨ g = t ∨ g = m) → (Fd g ∨ g = t ∨ g = m) ∨ w.heap.size ≤ g := fun g hg => by
      rcases hg with hg | hg
      · exact (n1 g hg).imp (fun hh => .inl hh) id
      · exact .inl (.inr hg)
    obtain ⟨v2, Fd2, jj⟩ := hj2
    have cr := iRecords_any (imp_kind b) b j q _ jj hr3
    have HTA := Lib.hid hTA
    have HCH := Lib.hid hch2
    have HNEW := Lib.hid hnew
    clear hj jj hm1 hm2 hb1 hb2 kt2 hTA hch2 hnew k1 n1 hjlt hjt hjm
    go_wp2_with fail
    generalize w1.setCell ⟨t, 2, none⟩ (.pointer (some ⟨j, 0, none⟩)) = W at HTA HCH cr ⊢
    go_at_call 55
    refine cr.mono ?_
    rintro e w3 ⟨vR, rfl, hK, hb3⟩
    obtain ⟨aK, cK, hv, hsK, hcK, _⟩ := hK.form
    rw [← HN.out] at hv hsK hcK
    have hT3 := HTA.out.below hb3
    have hgm : ∀ g off, aK = some ⟨g, off, none⟩ → g ≠ m := fun g off e => by
      have hgb := hK.lt g (by rw [hv, e]; rfl)
      have := HTA.out.rows.lt
      omega
    have HSK := Lib.hid hsK
    have HGM := Lib.hid hgm
    have HT3 := Lib.hid hT3
    have HB3 := Lib.hid hb3
    have hm3 := hT3.rows
    clear hK hsK hT3 hgm hb3 cr s0 s1
    subst hv
    go_wp2_with fail
    go_loopw [29] (fun iv wr => ∃ k : Nat, k ≤ n ∧ iv = .int .i64 k ∧ Mo wr m (rows7 L (x.R.take k)) ∧ Chg (· = m) w3 wr) (fun iv _ => n - (intOf iv).toNat)
    case atStart => exact ⟨0, Nat.zero_le _, rfl, hm3, Chg.refl _ _⟩
    case round =>
      obtain ⟨i, hik, rfl, hmo, hch⟩ := hrel
      by_cases hlt : i < n
      · obtain ⟨r, hr⟩ : ∃ r, x.R[i]? = some r := ⟨_, List.getElem?_eq_getElem (by rw [← HN.out]; exact hlt)⟩
        obtain ⟨_, hne⟩ := HSK.out
        obtain ⟨g, off, rfl, hg, hcc⟩ := hne.resolve_left (by omega)
        have g0' := hcc i r hr
        have hbg := hch.block g hg (HGM.out g off rfl)
        have g0 : wr.cell? ⟨g, off + i, none⟩ = some (.string r) := by unfold World.cell? at g0' ⊢; rw [hbg]; exact g0'
        have hiz : (i : Int) < (n : Int) := by omega
        obtain ⟨hre, hrs⟩ := HR1.out r (List.mem_of_getElem? hr)
        have htc := HT3.out.cell.2.2.2
        have htl3 := World.block_lt_of_cell? w3 _ htc
        have hbt := hch.block t htl3 HT3.out.tm
        have htr : wr.cell? ⟨t, 3, none⟩ = some (.map (some m)) := by unfold World.cell? at htc ⊢; rw [hbt]; exact htc
        have hln := len_rows L (x.R.take i)
        have hst := sum_take x.R i
        have hsum := HSUM.out
        have ct := take_any t m (rows7 L (x.R.take i)) r wr htr hmo (rises_rows HR.out _) hrs (by omega)
        unfold taken at ct
        rw [hre, if_pos rfl] at ct
        have htk : rows7 L (x.R.take (i + 1)) = all7 (rows7 L (x.R.take i)) (opsS r).1 := by
          have hkl := (List.getElem?_eq_some_iff.1 hr).1
          rw [List.take_succ_eq_append_getElem hkl, rows7_snoc]
          rw [List.getElem?_eq_getElem hkl] at hr
          injection hr with hr
          rw [hr]
        rw [← htk] at ct
        clear hmo hr hne hcc g0' hbg hbt hre hln hst hsum htk htc
        go_wp2_with fail
        go_at_call 92
        refine ct.mono ?_
        rintro e w5 ⟨rfl, hm5, hc5⟩
        have hch5 := hch.then hc5
        clear hch hc5
        go_wp2_with fail
        go_roundw
        case rel => exact ⟨i + 1, by omega, by go_num, hm5, hch5⟩
        case measure => simp [intOf]; omega
      · obtain rfl : i = n := by omega
        have e : x.R.take i = x.R := List.take_of_length_le (by rw [← HN.out]; exact Nat.le_refl _)
        rw [e] at hmo
        have hfin := HT3.out.turned hmo hch (rises_rows HR.out _) (plain_rows HP.out _)
        have hcf : Chg (fun i => Fd i ∨ i = t ∨ i = m) w wr := (HCH.out.then (Chg.of_below HB3.out)).then (hch.mono (fun i hi => .inr (.inr hi)))
        have HE := Lib.hid (show LeftA (Tn b j t m p q) w (fun i => Fd i ∨ i = t ∨ i = m) ⟨x, rows7 L x.R⟩ wr from ⟨_, ⟨_, hfin⟩, hcf, HNEW.out⟩)
        clear hfin hcf hmo hch
        go_wp2_with fail
        go_ret
        exact .inl ⟨trivial, rfl, j, HE.out⟩
end Go.Proofs.YthejpojmmokinaaGreat.Tb

namespace Go.Proofs.YthejpojmmokinaaGreat.Dk
open Go.RowKit Tx Pm Pl Pr
set_option linter.unusedVariables false
end Go.Proofs.YthejpojmmokinaaGreat.Dk

namespace Go.Proofs.YthejpojmmokinaaGreat.Dk
open Go.RowKit Tx Pm
set_option linter.unusedVariables false
end Go.Proofs.YthejpojmmokinaaGreat.Dk

namespace Go.Proofs.YthejpojmmokinaaGreat.Dk
open Go.RowKit Tx Pm Pl Pr
set_option linter.unusedVariables false
structure SoundW (s : St) : Prop where
  rises : Rises s.L
  kept : ∀ x ∈ s.L, x.anew = false → x.kept.size ≤ x.data.size
  size : ∀ x ∈ s.L, x.data.size ≤ 1000000000000000000 ∧ x.kept.size ≤ 1000000000000000000
  stamps : s.stamps + s.L.length ≤ 1000000000000
end Go.Proofs.YthejpojmmokinaaGreat.Dk

namespace Go.Proofs.YthejpojmmokinaaGreat.Dk
open Go.RowKit Tx Pm Pl Pr
set_option linter.unusedVariables false
end Go.Proofs.YthejpojmmokinaaGreat.Dk

namespace Go.Proofs.YthejpojmmokinaaGreat.Dk
open Go.RowKit Tx Pm Pl Pr
set_option linter.unusedVariables false
end Go.Proofs.YthejpojmmokinaaGreat.Dk

namespace Go.Proofs.YthejpojmmokinaaGreat.Dk
open Go.RowKit Tx Pm Pl Pr
set_option linter.unusedVariables false
def Own1 (w0 : World) (b bi bl : Nat) (s : St) (W : World) : Prop := ∃ l, Ia b bi bl l W s ∧ Good s ∧ (∀ i, Ft b bi bl i → w0.heap.size ≤ i) ∧ Below w0.heap.size w0 W
theorem Own1.bel {w0 W : World} {b bi bl : Nat} {s : St} (h : Own1 w0 b bi bl s W) : Below w0.heap.size w0 W := by
  obtain ⟨_, _, _, _, h⟩ := h
  exact h
theorem Own1.lt {w0 W : World} {b bi bl : Nat} {s : St} (h : Own1 w0 b bi bl s W) : ∀ i, Ft b bi bl i → i < W.heap.size := by
  obtain ⟨_, h, _⟩ := h
  exact h.lt
theorem Own1.below {w0 W W1 : World} {b bi bl : Nat} {s : St} (h : Own1 w0 b bi bl s W) (hb : Below W.heap.size W W1) : Own1 w0 b bi bl s W1 := by
  obtain ⟨l, h1, h2, h3, h4⟩ := h
  exact ⟨l, h1.below hb, h2, h3, below_call h4 hb⟩
section
variable {w0 W : World} {b bi bl k : Nat} {s s' : St}
end
theorem ok_small {s : St} (hl : s.L.length ≤ 1000) (hp : ∀ x ∈ s.L, x.path.size ≤ 1000) (hd : ∀ x ∈ s.L, x.data.size ≤ 1000000000000000) (hr : s.rooms.length ≤ 1000) (hst : s.steps ≤ 1000) (hsm : s.stamps ≤ 1000) (ha : -1 ≤ s.armed ∧ s.armed ≤ 9223372036854775807) : Ok s := by
  have hw := whole_le (B := 1000000000000000) hd
  have hm : s.L.length * 1000000000000000 ≤ 1000000000000000000 := Nat.le_trans (Nat.mul_le_mul_right _ hl) (by decide)
  exact ⟨⟨by omega, fun x hx => by have := hp x hx; omega, by omega⟩, by omega, by omega, by omega, by omega⟩
end Go.Proofs.YthejpojmmokinaaGreat.Dk

namespace Go.Proofs.YthejpojmmokinaaGreat.Tb
open Go.RowKit Tx Pm Dk Wm Wr Wl Pl Pr
set_option linter.unusedVariables false
set_option linter.unusedSimpArgs false
set_option linter.unnecessarySimpa false
def Open1Ok (s : St) (p q : ByteArray) : Prop := (readS s p).1.size ≤ 500000000 ∧ ((base0 s p).2 = 0 → OpenOk s q ∧ ((openS s q).1 = 0 → RecOk (base0 s p).1 (openS s q).2.R))
def Open7Ok (s : St) (f p q : ByteArray) : Prop := Ok s ∧ ((opened s f).1 = 0 → Open1Ok (opened s f).2 p q) ∧ f.size ≤ 500 ∧ p.size ≤ 1000 ∧ q.size ≤ 1000
def Open7To (b : Nat) (p q : ByteArray) (w : World) (F : Nat → Prop) (r : Nat × Tst) (e : Ending) (w' : World) : Prop :=
  (r.1 = 0 ∧ ∃ t j m, e = .returned (.tuple #[.pointer (some ⟨t, 0, none⟩), .int .i64 0]) ∧ LeftA (Tn b j t m p q) w F r.2 w') ∨ (r.1 ≠ 0 ∧ e = .returned (.tuple #[.pointer none, .int .i64 (r.1 : Nat)]) ∧ Dk.Left (ImpAt b) w F r.2.j.s w')
theorem open_m {s s1 : St} {f p q : ByteArray} {k : Nat} (h : opened s f = (k, s1)) (hk : k ≠ 0) : open7 s f p q = (k, ⟨⟨s1, [], false⟩, []⟩) := by
  unfold open7; rw [h]; exact if_pos hk
theorem open_n {s s1 : St} {f p q : ByteArray} (h : opened s f = (0, s1)) : open7 s f p q = open1 s1 p q := by
  unfold open7; rw [h]; exact if_neg (fun hh => hh rfl)
theorem open1_b {s : St} {p q : ByteArray} {L : List It} {k : Nat} (h : base0 s p = (L, k)) (hk : k ≠ 0) : open1 s p q = (k, ⟨⟨s, [], false⟩, []⟩) := by
  unfold open1; rw [h]; exact if_pos hk
theorem open1_l {s : St} {p q : ByteArray} {L : List It} {k : Nat} {y : Jst} (h : base0 s p = (L, 0)) (h2 : openS s q = (k, y)) (hk : k ≠ 0) : open1 s p q = (k, ⟨y, []⟩) := by
  unfold open1; rw [h]; simp only [h2]; rw [if_neg (fun hh => hh rfl)]; exact if_pos hk
theorem open1_o {s : St} {p q : ByteArray} {L : List It} {y : Jst} (h : base0 s p = (L, 0)) (h2 : openS s q = (0, y)) : open1 s p q = (0, ⟨y, rows7 L y.R⟩) := by
  unfold open1; rw [h]; simp only [h2]; rw [if_neg (fun hh => hh rfl)]; exact if_neg (fun hh => hh rfl)
theorem base_rises (s : St) (p : ByteArray) : Rises (base0 s p).1 ∧ Plain (base0 s p).1 := by
  have h0 : Rises ([] : List It) := List.Pairwise.nil
  have h1 : Plain ([] : List It) := fun x hx => by cases hx
  by_cases hk : kind s.L p = 0
  · rw [base_0 hk]; exact ⟨h0, h1⟩
  · obtain ⟨d, e1, hrd⟩ : ∃ d e, readS s p = (d, e) := ⟨_, _, rfl⟩
    by_cases he1 : e1 = 0
    · subst he1
      obtain ⟨r, n, e2, hfr⟩ := Fm.trip (Fm.fr d)
      by_cases he2 : e2 = 0
      · subst he2
        by_cases hn : n < d.size
        · rw [base_3 hk hrd hfr hn]; exact ⟨h0, h1⟩
        · obtain ⟨l, e3, h3⟩ : ∃ l e, opsS r = (l, e) := ⟨_, _, rfl⟩
          by_cases he3 : e3 = 0
          · subst he3
            rw [base_5 hk hrd hfr hn h3]
            exact ⟨rises_all h0 l, plain_all h1 l⟩
          · rw [base_4 hk hrd hfr hn h3 he3]; exact ⟨h0, h1⟩
      · rw [base_2 hk hrd hfr he2]; exact ⟨h0, h1⟩
    · rw [base_1 hk hrd he1]; exact ⟨h0, h1⟩
def New2 (W : World) (b : Nat) (p : ByteArray) : World := (W.alloc (.map #[] 0)).alloc (.cells #[.pointer (some ⟨b, 0, none⟩), .string p, .pointer none, .map (some W.heap.size)] 90)
theorem new2 (W : World) (b : Nat) (p : ByteArray) : Below W.heap.size W (New2 W b p) ∧ (New2 W b p).heap[W.heap.size + 1]? = some (.cells #[.pointer (some ⟨b, 0, none⟩), .string p, .pointer none, .map (some W.heap.size)] 90 (0, 0)) ∧ Mo (New2 W b p) W.heap.size [] := by
  refine ⟨((Below.refl _ W).alloc (Nat.le_refl _) _).alloc (by simp) _, new_at _ _ (by simp), (mo_made W).kept (((Below.refl (W.alloc (.map #[] 0)).heap.size _).alloc (Nat.le_refl _) _).block _ (by simp))⟩
theorem imp_mkdir {b : Nat} {F : Nat → Prop} {s s' : St} {w : World} {k : Nat} (P : ByteArray) (h : ImpAt b w F s) (ok : Ok s) (hP : P.size ≤ 8000000000000) (hk : mkdirS s P = (k, s')) : Calls Tryz.prog 42 #[.pointer (some ⟨b, 0, none⟩), .string P] w (Dos (ImpAt b) w F k s') := by
  obtain ⟨bi, bl, l, hI, hg, hF⟩ := h
  have c := iMkdir_any b bi bl l _ P _ hI hg ok hP
  have hg' := good_mkdir (p := P) hg
  rw [hk] at c hg'
  exact c.mono fun e w' ht => does_of' (r := (k, s')) hg' hF ht
def At1 (b : Nat) (w : World) (F : Nat → Prop) (s1 : St) (W : World) : Prop := ∃ F1, ImpAt b W F1 s1 ∧ Chg F w W ∧ ∀ g, F1 g → F g ∨ w.heap.size ≤ g
theorem At1.below {b : Nat} {w W W2 : World} {F : Nat → Prop} {s1 : St} (h : At1 b w F s1 W) (hb : Below W.heap.size W W2) : At1 b w F s1 W2 := by
  obtain ⟨F1, h1, h2, h3⟩ := h
  exact ⟨F1, (imp_kind b).kept h1 (fun i hi => hb.block i ((imp_kind b).lt h1 i hi)), h2.then (Chg.of_below hb), h3⟩
theorem At1.left {b : Nat} {w W : World} {F : Nat → Prop} {s1 : St} (h : At1 b w F s1 W) : Dk.Left (ImpAt b) w F s1 W := h
theorem At1.based {b t m : Nat} {p : ByteArray} {w W W2 : World} {F : Nat → Prop} {s1 : St} (h : At1 b w F s1 W) (hm : W.heap.size ≤ m) (hc : Chg (· = m) (New2 W b p) W2) : At1 b w F s1 W2 := by
  have hb := (new2 W b p).1
  obtain ⟨F1, h1, h2, h3⟩ := h
  have hlt := (imp_kind b).lt h1
  have hs := hb.size
  have hs2 := h2.size
  exact ⟨F1, (imp_kind b).kept h1 (fun i hi => (hc.block i (by have := hlt i hi; have := (Chg.of_below (F := F) hb).size; omega) (fun e => by have := hlt i hi; omega)).trans (hb.block i (hlt i hi))), (h2.then (Chg.of_below hb)).trans hc (fun i hi => .inr (by omega)), h3⟩
theorem base_call {b : Nat} {w W : World} {F : Nat → Prop} {s1 : St} {p : ByteArray} (h : At1 b w F s1 W) (hp : p.size ≤ 1000) (hs : (readS s1 p).1.size ≤ 500000000) :
    Calls Tryz.prog 44 #[.pointer (some ⟨W.heap.size + 1, 0, none⟩)] (New2 W b p) fun e w' => e = .returned (.int .i64 ((base0 s1 p).2 : Nat)) ∧ Mo w' W.heap.size (based s1 p) ∧ Chg (· = W.heap.size) (New2 W b p) w' := by
  obtain ⟨n1, n2, n3⟩ := new2 W b p
  obtain ⟨F1, h1, h2, h3⟩ := h.below n1
  refine takeBase_any b (W.heap.size + 1) W.heap.size p _ ?_ ?_ ?_ n3 h1 hp hs
  all_goals unfold World.cell?; rw [n2]; rfl
theorem log_call {b : Nat} {w W W2 W3 : World} {F : Nat → Prop} {s1 : St} {L : List It} {p q : ByteArray} (h : At1 b w F s1 W) (hm : Mo W2 W.heap.size L) (hc : Chg (· = W.heap.size) (New2 W b p) W2) (hb : Below W2.heap.size W2 W3) (hL : Rises L ∧ Plain L) (o : OpenOk s1 q) (hq : q.size ≤ 1000) (hrec : (openS s1 q).1 = 0 → RecOk L (openS s1 q).2.R) :
    Calls Tryz.prog 45 #[.pointer (some ⟨W.heap.size + 1, 0, none⟩), .string q] W3 fun e w' =>
      ((openS s1 q).1 = 0 ∧ e = .returned (.int .i64 0) ∧ ∃ j, LeftA (Tn b j (W.heap.size + 1) W.heap.size p q) w F ⟨(openS s1 q).2, rows7 L (openS s1 q).2.R⟩ w') ∨ ((openS s1 q).1 ≠ 0 ∧ e = .returned (.int .i64 ((openS s1 q).1 : Nat)) ∧ Dk.Left (ImpAt b) w F (openS s1 q).2.s w') := by
  obtain ⟨n1, n2, n3⟩ := new2 W b p
  obtain ⟨F1, h1, h2, h3⟩ := h
  have hlt := (imp_kind b).lt h1
  have hsN : (New2 W b p).heap.size = W.heap.size + 1 + 1 := by unfold New2; simp
  have hsz := hc.size
  have hs0 := h2.size
  have hA := (At1.based (t := W.heap.size + 1) (m := W.heap.size) (p := p) ⟨F1, h1, h2, h3⟩ (Nat.le_refl _) hc).below hb
  have h1' : ImpAt b W3 F1 s1 := (imp_kind b).kept h1 (fun i hi => (hb.block i (by have := hlt i hi; omega)).trans ((hc.block i (by have := hlt i hi; omega) (fun e => by have := hlt i hi; omega)).trans (n1.block i (hlt i hi))))
  have hblk : W3.heap[W.heap.size + 1]? = _ := (hb.block _ (by omega)).trans ((hc.block _ (by omega) (by omega)).trans n2)
  have hm3 := hm.below hb
  have hch : Chg F w W3 := ((h2.then (Chg.of_below n1)).trans hc (fun i hi => .inr (by omega))).then (Chg.of_below hb)
  refine (takeLog_any b (W.heap.size + 1) W.heap.size p q W3 hblk hm3 h1' ⟨fun hh => by have := hlt _ hh; omega, fun hh => by have := hlt _ hh; omega⟩ hL.1 hL.2 o hq hrec).mono ?_
  intro e w' hh
  rcases hh with ⟨e0, he, j, hl⟩ | ⟨e0, he, hl⟩
  · exact .inl ⟨e0, he, j, left_trans7 hch (F1 := fun i => F1 i ∨ i = W.heap.size + 1 ∨ i = W.heap.size) (fun g hg => by
      rcases hg with hg | rfl | rfl
      · exact h3 g hg
      · exact .inr (by omega)
      · exact .inr hs0) hl⟩
  · exact .inr ⟨e0, he, Wl.left_trans hch h3 hl⟩
set_option maxRecDepth 100000 in
set_option maxHeartbeats 4000000 in
theorem open_any (b : Nat) {F : Nat → Prop} {s : St} (f p q : ByteArray) (w : World) (h : ImpAt b w F s) (hp : tb (joi f.data.toList [98, 97, 115, 101]) = p) (hq : tb (joi f.data.toList [108, 111, 103]) = q) (o : Open7Ok s f p q) :
    Calls Tryz.prog 13 #[.pointer (some ⟨b, 0, none⟩), .string f] w (Open7To b p q w F (open7 s f p q)) := by
  obtain ⟨o1, o2, o3, o4, o5⟩ := o
  have ck := iw_kind f h (by omega)
  have cjp := fun W => pJoin_any f ⟨#[98, 97, 115, 101]⟩ W (by show f.size + 4 ≤ _; omega)
  have cjq := fun W => pJoin_any f ⟨#[108, 111, 103]⟩ W (by show f.size + 3 ≤ _; omega)
  have hmm := @run_makeMap Tryz.prog
  rw [show (⟨#[98, 97, 115, 101]⟩ : ByteArray).data.toList = [98, 97, 115, 101] from rfl, hp] at cjp
  rw [show (⟨#[108, 111, 103]⟩ : ByteArray).data.toList = [108, 111, 103] from rfl, hq] at cjq
  obtain ⟨k1, s1, hop⟩ : ∃ k s1, opened s f = (k, s1) := ⟨_, _, rfl⟩
  unfold Open7To
  by_cases hk : kind s.L f = 0
  · have hmk : mkdirS s f = (k1, s1) := by unfold opened at hop; rwa [if_pos hk] at hop
    have cm := fun W (hW : w = W) => imp_mkdir f (hW ▸ h) o1 (by omega) hmk
    rw [hk] at ck
    by_cases hk1 : k1 ≠ 0
    · rw [open_m hop hk1]
      have nk := neZ hk1
      have HK := Lib.hid hk1
      clear h hp hq o1 o2 o3 o4 o5 hk hk1 hop hmk cjp cjq hmm
      go_enter Tryz.func13, Tryz.ntmps13
      go_wp2_with fail
      go_at_call 41
      refine ck.mono ?_
      rintro e w1 ⟨rfl, rfl⟩
      go_wp2_with fail
      go_at_call 42
      refine (cm _ rfl).mono ?_
      rintro e w2 ⟨rfl, h2⟩
      go_wp2_with fail
      go_ret2
      exact .inr ⟨HK.out, rfl, h2⟩
    · obtain rfl : k1 = 0 := by omega
      rw [hop] at o2
      obtain ⟨q1, q2⟩ := o2 rfl
      simp only at q1 q2
      rw [open_n hop]
      clear h hp hq o1 o2 hk hk1 hop hmk
      obtain ⟨L, kb, hbase⟩ : ∃ L k, base0 s1 p = (L, k) := ⟨_, _, rfl⟩
      have hrp := base_rises s1 p
      rw [hbase] at q2 hrp
      simp only at q2 hrp
      by_cases hkb : kb = 0
      · subst hkb
        obtain ⟨q3, q4⟩ := q2 rfl
        have hbd : based s1 p = L := by unfold based; rw [hbase]; rfl
        have HBA := Lib.hid hbase
        have HBD := Lib.hid hbd
        have HRP := Lib.hid hrp
        have HQ3 := Lib.hid q3
        have HQ4 := Lib.hid q4
        clear hbase hbd hrp q2 q3 q4
        go_enter Tryz.func13, Tryz.ntmps13
        go_wp2_with fail
        go_at_call 41
        refine ck.mono ?_
        rintro e w1 ⟨rfl, rfl⟩
        go_wp2_with fail
        go_at_call 42
        refine (cm _ rfl).mono ?_
        rintro e w2 ⟨rfl, h2⟩
        have hA2 : At1 b w F s1 w2 := h2
        go_wp2_with fail
        go_at_call 43
        refine (cjp _).mono ?_
        rintro e w3 ⟨rfl, hb3⟩
        have hA3 := hA2.below hb3
        have cb := base_call hA3 o4 q1
        rw [HBA.out, HBD.out] at cb
        unfold New2 at cb
        go_wp2_with fail
        go_at_call 44
        refine cb.mono ?_
        rintro e w5 ⟨rfl, hm5, hc5⟩
        have HC5 := Lib.hid (show Chg (· = w3.heap.size) (New2 w3 b p) w5 from hc5)
        have HM5 := Lib.hid hm5
        have HA3 := Lib.hid hA3
        clear hm5 hc5 hA3 cb
        go_wp2_with fail
        go_at_call 43
        refine (cjq _).mono ?_
        rintro e w6 ⟨rfl, hb6⟩
        have cl := log_call HA3.out HM5.out HC5.out hb6 HRP.out HQ3.out o5 HQ4.out
        clear hb6
        obtain ⟨kl, y, hol⟩ : ∃ k y, openS s1 q = (k, y) := ⟨_, _, rfl⟩
        rw [hol] at cl
        simp only at cl
        by_cases hkl : kl = 0
        · subst hkl
          have cl2 := cl.mono (R' := fun e w' => e = .returned (.int .i64 0) ∧ ∃ j, LeftA (Tn b j (w3.heap.size + 1) w3.heap.size p q) w F ⟨y, rows7 L y.R⟩ w') (fun e w' hh => by
            rcases hh with ⟨_, he, hl⟩ | ⟨h0, _⟩
            · exact ⟨he, hl⟩
            · exact absurd rfl h0)
          have HO := Lib.hid (open1_o HBA.out hol)
          clear cl hol
          go_wp2_with fail
          go_at_call 45
          refine cl2.mono ?_
          rintro e w7 ⟨rfl, j, h7⟩
          go_wp2_with fail
          go_ret2
          rw [HO.out]
          exact .inl ⟨rfl, _, _, _, rfl, h7⟩
        · have cl2 := cl.mono (R' := fun e w' => e = .returned (.int .i64 (kl : Nat)) ∧ Dk.Left (ImpAt b) w F y.s w') (fun e w' hh => by
            rcases hh with ⟨h0, _⟩ | ⟨_, he, hl⟩
            · exact absurd h0 hkl
            · exact ⟨he, hl⟩)
          have HO := Lib.hid (open1_l HBA.out hol hkl)
          have nl := neZ hkl
          have HKL := Lib.hid hkl
          clear cl hol hkl
          go_wp2_with fail
          go_at_call 45
          refine cl2.mono ?_
          rintro e w7 ⟨rfl, h7⟩
          go_wp2_with fail
          go_ret2
          rw [HO.out]
          exact .inr ⟨HKL.out, rfl, h7⟩
      · have HO := Lib.hid (open1_b (q := q) hbase hkb)
        have nb := neZ hkb
        have HKB := Lib.hid hkb
        have HBA := Lib.hid hbase
        clear hbase hrp q2 hkb
        go_enter Tryz.func13, Tryz.ntmps13
        go_wp2_with fail
        go_at_call 41
        refine ck.mono ?_
        rintro e w1 ⟨rfl, rfl⟩
        go_wp2_with fail
        go_at_call 42
        refine (cm _ rfl).mono ?_
        rintro e w2 ⟨rfl, h2⟩
        have hA2 : At1 b w F s1 w2 := h2
        go_wp2_with fail
        go_at_call 43
        refine (cjp _).mono ?_
        rintro e w3 ⟨rfl, hb3⟩
        have hA3 := hA2.below hb3
        have cb := base_call hA3 o4 q1
        rw [HBA.out] at cb
        unfold New2 at cb
        go_wp2_with fail
        go_at_call 44
        refine cb.mono ?_
        rintro e w5 ⟨rfl, hm5, hc5⟩
        have HE := Lib.hid (At1.based (t := w3.heap.size + 1) hA3 (Nat.le_refl _) (show Chg (· = w3.heap.size) (New2 w3 b p) w5 from hc5))
        clear hm5 hc5 hA3 cb
        go_wp2_with fail
        go_ret2
        rw [HO.out]
        exact .inr ⟨HKB.out, rfl, HE.out⟩
  · have hk1 : k1 = 0 ∧ s1 = s := by
      unfold opened at hop
      rw [if_neg hk] at hop
      simp only [Prod.mk.injEq] at hop
      exact ⟨hop.1.symm, hop.2.symm⟩
    obtain ⟨rfl, rfl⟩ := hk1
    rw [hop] at o2
    obtain ⟨q1, q2⟩ := o2 rfl
    simp only at q1 q2
    rw [open_n hop]
    have nk := neZ hk
    have hA : At1 b w F s1 w := ⟨F, h, Chg.refl _ _, fun g hg => .inl hg⟩
    have HA := Lib.hid (fun W (hW : w = W) => (hW ▸ hA : At1 b w F s1 W))
    generalize kind s1.L f = K at ck nk
    clear h hp hq o1 o2 hk hop hA
    obtain ⟨L, kb, hbase⟩ : ∃ L k, base0 s1 p = (L, k) := ⟨_, _, rfl⟩
    have hrp := base_rises s1 p
    rw [hbase] at q2 hrp
    simp only at q2 hrp
    by_cases hkb : kb = 0
    · subst hkb
      obtain ⟨q3, q4⟩ := q2 rfl
      have hbd : based s1 p = L := by unfold based; rw [hbase]; rfl
      have HBA := Lib.hid hbase
      have HBD := Lib.hid hbd
      have HRP := Lib.hid hrp
      have HQ3 := Lib.hid q3
      have HQ4 := Lib.hid q4
      clear hbase hbd hrp q2 q3 q4
      go_enter Tryz.func13, Tryz.ntmps13
      go_wp2_with fail
      go_at_call 41
      refine ck.mono ?_
      rintro e w1 ⟨rfl, rfl⟩
      have hA2 := HA.out _ rfl
      go_wp2_with fail
      go_at_call 43
      refine (cjp _).mono ?_
      rintro e w3 ⟨rfl, hb3⟩
      have hA3 := hA2.below hb3
      have cb := base_call hA3 o4 q1
      rw [HBA.out, HBD.out] at cb
      unfold New2 at cb
      go_wp2_with fail
      go_at_call 44
      refine cb.mono ?_
      rintro e w5 ⟨rfl, hm5, hc5⟩
      have HC5 := Lib.hid (show Chg (· = w3.heap.size) (New2 w3 b p) w5 from hc5)
      have HM5 := Lib.hid hm5
      have HA3 := Lib.hid hA3
      clear hm5 hc5 hA3 cb
      go_wp2_with fail
      go_at_call 43
      refine (cjq _).mono ?_
      rintro e w6 ⟨rfl, hb6⟩
      have cl := log_call HA3.out HM5.out HC5.out hb6 HRP.out HQ3.out o5 HQ4.out
      clear hb6
      obtain ⟨kl, y, hol⟩ : ∃ k y, openS s1 q = (k, y) := ⟨_, _, rfl⟩
      rw [hol] at cl
      simp only at cl
      by_cases hkl : kl = 0
      · subst hkl
        have cl2 := cl.mono (R' := fun e w' => e = .returned (.int .i64 0) ∧ ∃ j, LeftA (Tn b j (w3.heap.size + 1) w3.heap.size p q) w F ⟨y, rows7 L y.R⟩ w') (fun e w' hh => by
          rcases hh with ⟨_, he, hl⟩ | ⟨h0, _⟩
          · exact ⟨he, hl⟩
          · exact absurd rfl h0)
        have HO := Lib.hid (open1_o HBA.out hol)
        clear cl hol
        go_wp2_with fail
        go_at_call 45
        refine cl2.mono ?_
        rintro e w7 ⟨rfl, j, h7⟩
        go_wp2_with fail
        go_ret2
        rw [HO.out]
        exact .inl ⟨rfl, _, _, _, rfl, h7⟩
      · have cl2 := cl.mono (R' := fun e w' => e = .returned (.int .i64 (kl : Nat)) ∧ Dk.Left (ImpAt b) w F y.s w') (fun e w' hh => by
          rcases hh with ⟨h0, _⟩ | ⟨_, he, hl⟩
          · exact absurd h0 hkl
          · exact ⟨he, hl⟩)
        have HO := Lib.hid (open1_l HBA.out hol hkl)
        have nl := neZ hkl
        have HKL := Lib.hid hkl
        clear cl hol hkl
        go_wp2_with fail
        go_at_call 45
        refine cl2.mono ?_
        rintro e w7 ⟨rfl, h7⟩
        go_wp2_with fail
        go_ret2
        rw [HO.out]
        exact .inr ⟨HKL.out, rfl, h7⟩
    · have HO := Lib.hid (open1_b (q := q) hbase hkb)
      have nb := neZ hkb
      have HKB := Lib.hid hkb
      have HBA := Lib.hid hbase
      clear hbase hrp q2 hkb
      go_enter Tryz.func13, Tryz.ntmps13
      go_wp2_with fail
      go_at_call 41
      refine ck.mono ?_
      rintro e w1 ⟨rfl, rfl⟩
      have hA2 := HA.out _ rfl
      go_wp2_with fail
      go_at_call 43
      refine (cjp _).mono ?_
      rintro e w3 ⟨rfl, hb3⟩
      have hA3 := hA2.below hb3
      have cb := base_call hA3 o4 q1
      rw [HBA.out] at cb
      unfold New2 at cb
      go_wp2_with fail
      go_at_call 44
      refine cb.mono ?_
      rintro e w5 ⟨rfl, hm5, hc5⟩
      have HE := Lib.hid (At1.based (t := w3.heap.size + 1) hA3 (Nat.le_refl _) (show Chg (· = w3.heap.size) (New2 w3 b p) w5 from hc5))
      clear hm5 hc5 hA3 cb
      go_wp2_with fail
      go_ret2
      rw [HO.out]
      exact .inr ⟨HKB.out, rfl, HE.out⟩
end Go.Proofs.YthejpojmmokinaaGreat.Tb

namespace Go.Proofs.YthejpojmmokinaaGreat.Wl
open Go.RowKit Tx Pm Pl Pr Dk Fr
set_option linter.unusedVariables false
def Own {α : Type} (Obj : World → (Nat → Prop) → α → Prop) (w0 : World) (x : α) (W : World) : Prop := ∃ F, Obj W F x ∧ (∀ i, F i → w0.heap.size ≤ i) ∧ Below w0.heap.size w0 W
section
variable {α β : Type} {Obj : World → (Nat → Prop) → α → Prop} {Obj' : World → (Nat → Prop) → β → Prop} {w0 W : World} {x : α} {y : β}
theorem Own.bel (h : Own Obj w0 x W) : Below w0.heap.size w0 W := by
  obtain ⟨_, _, _, h⟩ := h
  exact h
theorem own_left {F : Nat → Prop} {w' : World} (h1 : ∀ i, F i → w0.heap.size ≤ i) (h2 : Below w0.heap.size w0 W) (h : LeftA Obj' W F y w') : Own Obj' w0 y w' := by
  obtain ⟨F', h3, h4, h5⟩ := h
  have hs := h2.size
  exact ⟨F', h3, fun i hi => (h5 i hi).elim (fun hh => h1 i hh) (fun hh => by omega), h2.trans ⟨h4.os, h4.tape, h4.output, h4.size, fun i hi => h4.block i (Nat.lt_of_lt_of_le hi hs) (fun hf => by have := h1 i hf; omega)⟩⟩
theorem Own.call {f : FuncId} {args : Array Value} {P : Ending → Prop} (h : Own Obj w0 x W) (hc : ∀ F, Obj W F x → Calls Tryz.prog f args W fun e w' => P e ∧ LeftA Obj' W F y w') : Calls Tryz.prog f args W fun e w' => P e ∧ Own Obj' w0 y w' := by
  obtain ⟨F, h1, h2, h3⟩ := h
  exact (hc F h1).mono fun e w' hh => ⟨hh.1, own_left h2 h3 hh.2⟩
theorem Own.kept (hk : ∀ {w w1 : World} {F : Nat → Prop} {x : α}, Obj w F x → Below w.heap.size w w1 → Obj w1 F x) {w' : World} (h : Own Obj w0 x W) (hb : Below W.heap.size W w') : Own Obj w0 x w' := by
  obtain ⟨F, h1, h2, h3⟩ := h
  exact ⟨F, hk h1 hb, h2, below_call h3 hb⟩
end
abbrev Jb (b j : Nat) : World → (Nat → Prop) → Jst → Prop := Jn (ImpAt b) 157 b j pL
section
variable {w0 W : World} {b j k : Nat} {s s' : St} {x y : Jst}
theorem Own.disk (h : Own (Jb b j) w0 x W) : Own (ImpAt b) w0 x.s W := by
  obtain ⟨F, ⟨v, Fd, h1⟩, h2, h3⟩ := h
  exact ⟨Fd, h1.dsk, fun i hi => h2 i ((h1.foot i).2 (.inl hi)), h3⟩
theorem w_new (w0 : World) {W : World} (hb : Below w0.heap.size w0 W) : Calls Tryz.prog 11 #[] W fun e w' => ∃ b, e = .returned (.pointer (some ⟨b, 0, none⟩)) ∧ Own (ImpAt b) w0 newS w' :=
  (iNew_any W).mono fun e w' ⟨b, bi, bl, he, hI, hF, hb1⟩ => ⟨b, he, Ft b bi bl, ⟨bi, bl, -1, hI, good_new, fun _ => Iff.rfl⟩, fun i hi => Nat.le_trans hb.size (hF i hi), below_call hb hb1⟩
end
theorem ok_new : Ok newS := ok_small (by decide) (by decide) (by decide) (by decide) (by decide) (by decide) (by decide)
end Go.Proofs.YthejpojmmokinaaGreat.Wl

namespace Go.Proofs.YthejpojmmokinaaGreat.Wl
open Go.RowKit Tx Pm Pl Pr Dk
set_option linter.unusedVariables false
end Go.Proofs.YthejpojmmokinaaGreat.Wl

namespace Go.Proofs.YthejpojmmokinaaGreat.Wl
open Go.RowKit Tx Pm Pl Pr Dk Fr
set_option linter.unusedVariables false
structure Stop (l : List ByteArray) (n k : Nat) (loss : Int) (s : St) : Prop where
  sound : SoundW s
  fit : s.L.length ≤ 1000000000 ∧ ∀ x ∈ s.L, x.path.size ≤ 8000000000000
  back : ∃ (c : ByteArray) (sn st sm : Nat), restartS s loss = J c sn st sm (-1) ∧ OpenOk (J c sn st sm (-1)) pL ∧ ∃ (R : List ByteArray) (sn' st' sm' : Nat), (R = l.take k ∨ (k < n ∧ R = l.take (k + 1))) ∧ openS (J c sn st sm (-1)) pL = (0, ⟨J (PK R) sn' st' sm' (-1), R, false⟩) ∧ st' ≤ 1000 ∧ sm' ≤ 1000
end Go.Proofs.YthejpojmmokinaaGreat.Wl

namespace Go.Proofs.YthejpojmmokinaaGreat.Tb
open Go.RowKit Tx Pm Dk Wm Wr Wl
set_option linter.unusedVariables false
set_option linter.unusedSimpArgs false
set_option linter.unnecessarySimpa false
def pS : ByteArray := ⟨#[115, 121, 115]⟩
def pB : ByteArray := ⟨#[115, 121, 115, 47, 98, 97, 115, 101]⟩
def pBT : ByteArray := ⟨#[115, 121, 115, 47, 98, 97, 115, 101, 95, 116]⟩
def pG : ByteArray := ⟨#[115, 121, 115, 47, 108, 111, 103]⟩
def pGT : ByteArray := ⟨#[115, 121, 115, 47, 108, 111, 103, 95, 116]⟩
theorem pG_tT : pG ++ tT = pGT := by decide +kernel
def dirS : It := ⟨pS, true, ⟨#[]⟩, ⟨#[]⟩, false, false, 0⟩
structure Fi where
  data : ByteArray
  kept : ByteArray
  loose : Bool
  anew : Bool
  stamp : Nat
def sy (d : ByteArray) (n : Nat) : Fi := ⟨d, d, false, false, n⟩
def oit (p : ByteArray) : Option Fi → List It
  | none => []
  | some f => [⟨p, false, f.data, f.kept, f.loose, f.anew, f.stamp⟩]
def keptOf : Option Fi → ByteArray
  | none => ⟨#[]⟩
  | some f => f.kept
def T7 (B BT G GT : Option Fi) (st sm : Nat) (a : Int) (dn : Bool) : St := ⟨dirS :: (oit pB B ++ (oit pBT BT ++ (oit pG G ++ oit pGT GT))), [], st, sm, a, dn⟩
section
variable {B BT G GT : Option Fi} {g f : Fi} {d : ByteArray} {st sm : Nat} {a : Int} {dn : Bool}
theorem k_sys : kind (T7 B BT G GT st sm a dn).L pS = 1 := by cases B <;> cases BT <;> cases G <;> cases GT <;> kernel_rfl
theorem k_base0 : kind (T7 none BT G GT st sm a dn).L pB = 0 := by cases BT <;> cases G <;> cases GT <;> kernel_rfl
theorem k_base : kind (T7 (some f) BT G GT st sm a dn).L pB = 2 := by cases BT <;> cases G <;> cases GT <;> kernel_rfl
theorem k_log0 : kind (T7 B BT none GT st sm a dn).L pG = 0 := by cases B <;> cases BT <;> cases GT <;> kernel_rfl
theorem k_log : kind (T7 B BT (some g) GT st sm a dn).L pG = 2 := by cases B <;> cases BT <;> cases GT <;> kernel_rfl
theorem r_base : readS (T7 (some f) BT G GT st sm a false) pB = (f.data, 0) := by cases BT <;> cases G <;> cases GT <;> kernel_rfl
theorem r_base0 : readS (T7 none BT G GT st sm a false) pB = (⟨#[]⟩, 11) := by cases BT <;> cases G <;> cases GT <;> kernel_rfl
theorem r_log : readS (T7 B BT (some g) GT st sm a false) pG = (g.data, 0) := by cases B <;> cases BT <;> cases GT <;> kernel_rfl
theorem o_log : (old (T7 B BT (some g) GT st sm a dn).L pG).data = g.data := by cases B <;> cases BT <;> cases GT <;> kernel_rfl
theorem t_append (ha : a ≠ 0) : appendS (T7 B BT (some g) GT st sm a false) pG d = (0, T7 B BT (some ⟨g.data ++ d, g.kept, true, g.anew, sm + 1⟩) GT (st + 1) (sm + 1) (dec a) false) := by
  unfold appendS
  rw [fits_none rfl]
  unfold T7
  rw [done_open ha]
  cases B <;> cases BT <;> cases GT <;> kernel_rfl
theorem t_append0 : appendS (T7 B BT (some g) GT st sm 0 false) pG d = (14, T7 B BT (some g) GT st sm (-1) true) := by
  unfold appendS
  rw [fits_none rfl]
  cases B <;> cases BT <;> cases GT <;> kernel_rfl
theorem t_sync (ha : a ≠ 0) : syncS (T7 B BT (some g) GT st sm a false) pG = (0, T7 B BT (some ⟨g.data, g.data, false, false, g.stamp⟩) GT (st + 1) sm (dec a) false) := by
  unfold syncS T7
  rw [done_open ha]
  cases B <;> cases BT <;> cases GT <;> kernel_rfl
theorem t_sync0 : syncS (T7 B BT (some g) GT st sm 0 false) pG = (14, T7 B BT (some g) GT st sm (-1) true) := by
  unfold syncS
  cases B <;> cases BT <;> cases GT <;> kernel_rfl
theorem g_write (ha : a ≠ 0) : writeS (T7 B BT G GT st sm a false) pGT d = (0, T7 B BT G (some ⟨d, keptOf GT, true, true, sm + 1⟩) (st + 1) (sm + 1) (dec a) false) := by
  unfold writeS
  rw [fits_none rfl]
  unfold T7
  rw [done_open ha]
  cases B <;> cases BT <;> cases G <;> cases GT <;> kernel_rfl
theorem g_write0 : writeS (T7 B BT G GT st sm 0 false) pGT d = (14, T7 B BT G GT st sm (-1) true) := by
  unfold writeS
  rw [fits_none rfl]
  cases B <;> cases BT <;> cases G <;> cases GT <;> kernel_rfl
theorem g_sync (ha : a ≠ 0) : syncS (T7 B BT G (some f) st sm a false) pGT = (0, T7 B BT G (some ⟨f.data, f.data, false, false, f.stamp⟩) (st + 1) sm (dec a) false) := by
  unfold syncS T7
  rw [done_open ha]
  cases B <;> cases BT <;> cases G <;> kernel_rfl
theorem g_sync0 : syncS (T7 B BT G (some f) st sm 0 false) pGT = (14, T7 B BT G (some f) st sm (-1) true) := by
  unfold syncS
  cases B <;> cases BT <;> cases G <;> kernel_rfl
theorem g_rename (ha : a ≠ 0) : renameS (T7 B BT G (some f) st sm a false) pGT pG = (0, T7 B BT (some ⟨f.data, f.kept, f.loose, f.anew, sm + 1⟩) none (st + 1) (sm + 1) (dec a) false) := by
  unfold renameS
  rw [fits_none rfl]
  unfold T7
  rw [done_open ha]
  cases B <;> cases BT <;> cases G <;> kernel_rfl
theorem n_mkdir : mkdirS newS pS = (0, T7 none none none none 1 0 (-1) false) := by kernel_rfl
end
end Go.Proofs.YthejpojmmokinaaGreat.Tb

namespace Go.Proofs.YthejpojmmokinaaGreat.Tb
open Go.RowKit Tx Pm Dk Wm Wr Wl
set_option linter.unusedVariables false
set_option linter.unusedSimpArgs false
set_option linter.unnecessarySimpa false
def Fok (f : Fi) : Prop := f.data.size ≤ 20000000000 ∧ f.kept.size ≤ 20000000000 ∧ (f.anew = false → f.kept.size ≤ f.data.size) ∧ (f.loose = false → f.kept = f.data ∧ f.anew = false)
def Ook (o : Option Fi) : Prop := ∀ f, o = some f → Fok f
theorem ook_none : Ook none := fun f h => by cases h
theorem ook_sy {d : ByteArray} {n : Nat} (h : d.size ≤ 20000000000) : Ook (some (sy d n)) := fun f hf => by
  injection hf with hf
  subst hf
  exact ⟨h, h, fun _ => Nat.le_refl _, fun _ => ⟨rfl, rfl⟩⟩
theorem ook_raw {d k : ByteArray} {n : Nat} (h : d.size ≤ 20000000000) (hk : k.size ≤ 20000000000) : Ook (some ⟨d, k, true, true, n⟩) := fun f hf => by
  injection hf with hf
  subst hf
  exact ⟨h, hk, fun e => (by cases e), fun e => (by cases e)⟩
theorem ook_app {d k : ByteArray} {n : Nat} (h : d.size ≤ 20000000000) (hk : k.size ≤ d.size) : Ook (some ⟨d, k, true, false, n⟩) := fun f hf => by
  injection hf with hf
  subst hf
  exact ⟨h, by show k.size ≤ _; omega, fun _ => hk, fun e => (by cases e)⟩
theorem kept_ook {o : Option Fi} (h : Ook o) : (keptOf o).size ≤ 20000000000 := by
  cases o with
  | none => exact Nat.zero_le _
  | some f => exact (h f rfl).2.1
def Rng (a : Int) : Prop := -1 ≤ a ∧ a ≤ 9223372036854775807
theorem rng_dec {a : Int} (h : Rng a) : Rng (dec a) := dec_in h
theorem rng_m1 : Rng (-1) := ⟨by decide, by decide⟩
structure Sz (B BT G GT : Option Fi) (st sm : Nat) : Prop where
  b : Ook B
  bt : Ook BT
  g : Ook G
  gt : Ook GT
  st : st ≤ 1000000
  sm : sm ≤ 1000000
theorem oit_len (p : ByteArray) (o : Option Fi) : (oit p o).length ≤ 1 := by cases o <;> simp [oit]
theorem oit_mem {p : ByteArray} {o : Option Fi} {x : It} (h : x ∈ oit p o) : x.path = p ∧ ∃ f, o = some f ∧ x = ⟨p, false, f.data, f.kept, f.loose, f.anew, f.stamp⟩ := by
  cases o with
  | none => cases h
  | some f =>
    have h := List.mem_singleton.1 h
    exact ⟨by rw [h], f, rfl, h⟩
section
variable {B BT G GT : Option Fi} {g f : Fi} {d : ByteArray} {st sm : Nat} {a : Int} {dn : Bool}
theorem t7_mem {x : It} (h : Sz B BT G GT st sm) (hx : x ∈ (T7 B BT G GT st sm a dn).L) : x.path.size ≤ 1000 ∧ x.data.size ≤ 20000000000 ∧ x.kept.size ≤ 20000000000 ∧ (x.anew = false → x.kept.size ≤ x.data.size) := by
  unfold T7 at hx
  rcases List.mem_cons.1 hx with rfl | hx
  · exact ⟨by decide, by decide, by decide, fun _ => Nat.le_refl _⟩
  · have one : ∀ {p : ByteArray} {o : Option Fi}, p.size ≤ 1000 → Ook o → x ∈ oit p o → x.path.size ≤ 1000 ∧ x.data.size ≤ 20000000000 ∧ x.kept.size ≤ 20000000000 ∧ (x.anew = false → x.kept.size ≤ x.data.size) := fun hp ho hx => by
      obtain ⟨_, f, hf, rfl⟩ := oit_mem hx
      obtain ⟨a1, a2, a3, _⟩ := ho f hf
      exact ⟨hp, a1, a2, a3⟩
    rcases List.mem_append.1 hx with hx | hx
    · exact one (by decide) h.b hx
    · rcases List.mem_append.1 hx with hx | hx
      · exact one (by decide) h.bt hx
      · rcases List.mem_append.1 hx with hx | hx
        · exact one (by decide) h.g hx
        · exact one (by decide) h.gt hx
theorem t7_len : (T7 B BT G GT st sm a dn).L.length ≤ 5 := by
  unfold T7
  have h1 := oit_len pB B
  have h2 := oit_len pBT BT
  have h3 := oit_len pG G
  have h4 := oit_len pGT GT
  simp only [List.length_cons, List.length_append]
  omega
theorem whole_le : ∀ {l : List It} {N : Nat}, (∀ x ∈ l, x.data.size ≤ N) → whole l ≤ l.length * N
  | [], _, _ => Nat.zero_le _
  | x :: l, N, h => by
    have h1 := h x List.mem_cons_self
    have h2 := whole_le (l := l) (fun y hy => h y (List.mem_cons_of_mem _ hy))
    unfold whole at h2 ⊢
    rw [List.map_cons, List.sum_cons, List.length_cons, Nat.succ_mul]
    omega
theorem t7_ok (h : Sz B BT G GT st sm) (ha : Rng a) : Ok (T7 B BT G GT st sm a dn) := by
  have hl := t7_len (B := B) (BT := BT) (G := G) (GT := GT) (st := st) (sm := sm) (a := a) (dn := dn)
  have hw := whole_le (l := (T7 B BT G GT st sm a dn).L) (N := 20000000000) (fun x hx => (t7_mem h hx).2.1)
  have hst := h.st
  have hsm := h.sm
  obtain ⟨a1, a2⟩ := ha
  refine ⟨⟨by omega, fun x hx => by have := (t7_mem h hx).1; omega, ?_⟩, by show 0 ≤ _; omega, by show st ≤ _; omega, by show sm ≤ _; omega, by show _ ≤ a ∧ a ≤ _; omega⟩
  have := Nat.mul_le_mul_right 20000000000 hl
  omega
end
section
variable {B BT G GT : Option Fi} {d : ByteArray} {st sm : Nat} {a : Int}
theorem dec_m1 {a : Int} (h : a = -1) : dec a = -1 := by subst h; rfl
theorem fillokG (h : Sz B BT G GT st sm) (hd : d.size ≤ 20000000000) (ha : Rng a) (hst : st ≤ 900000) (hsm : sm ≤ 900000) : FillOk (T7 B BT G GT st sm a false) pG d := by
  have hk := kept_ook h.gt
  refine ⟨t7_ok h ha, ?_, ?_⟩
  · rw [pG_tT]
    by_cases h1 : a = 0
    · subst h1; rw [g_write0]; exact t7_ok h rng_m1
    · rw [g_write h1]; exact t7_ok ⟨h.b, h.bt, h.g, ook_raw hd hk, by omega, by omega⟩ (rng_dec ha)
  · rw [pG_tT]
    by_cases h1 : a = 0
    · subst h1
      rw [g_write0]
      have e : syncS (T7 B BT G GT st sm (-1) true) pGT = (14, T7 B BT G GT st sm (-1) true) := by
        unfold syncS
        cases B <;> cases BT <;> cases G <;> cases GT <;> kernel_rfl
      show Ok (syncS (T7 B BT G GT st sm (-1) true) pGT).2
      rw [e]
      exact t7_ok h rng_m1
    · rw [g_write h1]
      show Ok (syncS (T7 B BT G (some ⟨d, keptOf GT, true, true, sm + 1⟩) (st + 1) (sm + 1) (dec a) false) pGT).2
      by_cases h2 : dec a = 0
      · rw [h2, g_sync0]; exact t7_ok ⟨h.b, h.bt, h.g, ook_raw hd hk, by omega, by omega⟩ rng_m1
      · rw [g_sync h2]; exact t7_ok ⟨h.b, h.bt, h.g, ook_sy (n := sm + 1) hd, by omega, by omega⟩ (rng_dec (rng_dec ha))
end
theorem add7 {B BT GT : Option Fi} {c r : ByteArray} {n st sm : Nat} {a : Int} {R : List ByteArray} {dm : Bool} (ha : Rng a) : ∃ k x', addS ⟨T7 B BT (some (sy c n)) GT st sm a false, R, dm⟩ pG r = (k, x') ∧
    ((k = 0 ∧ ∃ a', x' = ⟨T7 B BT (some (sy (c ++ Fm.pk r) (sm + 1))) GT (st + 2) (sm + 1) a' false, R ++ [r], dm⟩ ∧ Rng a' ∧ (a = -1 → a' = -1)) ∨
     (k = 14 ∧ a ≠ -1 ∧ ∃ G' st' sm', x' = ⟨T7 B BT G' GT st' sm' (-1) true, R, dm⟩ ∧ (G' = some (sy c n) ∨ G' = some ⟨c ++ Fm.pk r, c, true, false, sm + 1⟩) ∧ st' ≤ st + 2 ∧ sm' ≤ sm + 1)) := by
  unfold addS
  by_cases h1 : a = 0
  · subst h1
    simp only [t_append0]
    exact ⟨14, _, rfl, .inr ⟨rfl, by decide, _, st, sm, rfl, .inl rfl, by omega, by omega⟩⟩
  · simp only [t_append h1]
    by_cases h2 : dec a = 0
    · simp only [h2, t_sync0]
      exact ⟨14, _, rfl, .inr ⟨rfl, fun e => (by rw [dec_m1 e] at h2; cases h2), _, st + 1, sm + 1, rfl, .inr rfl, by omega, by omega⟩⟩
    · simp only [t_sync h2]
      exact ⟨0, _, rfl, .inl ⟨rfl, _, rfl, rng_dec (rng_dec ha), fun e => dec_m1 (dec_m1 e)⟩⟩
theorem addok7 {B BT GT : Option Fi} {c r : ByteArray} {n st sm : Nat} {a : Int} {R : List ByteArray} {dm : Bool} (h : Sz B BT (some (sy c n)) GT st sm) (ha : Rng a) (hr : r.size ≤ 1000000000) (hc : c.size + (Fm.pk r).size ≤ 20000000000) (hR : R.length ≤ 1000) (hst : st ≤ 900000) (hsm : sm ≤ 900000) :
    AddOk ⟨T7 B BT (some (sy c n)) GT st sm a false, R, dm⟩ pG r := by
  have hs : (c ++ Fm.pk r).size = c.size + (Fm.pk r).size := ByteArray.size_append
  refine ⟨t7_ok h ha, ?_, ?_, by omega, by show R.length ≤ _; omega⟩
  · show Ok (appendS (T7 B BT (some (sy c n)) GT st sm a false) pG (Fm.pk r)).2
    by_cases h1 : a = 0
    · subst h1; rw [t_append0]; exact t7_ok h rng_m1
    · rw [t_append h1]; exact t7_ok ⟨h.b, h.bt, ook_app (by show (c ++ Fm.pk r).size ≤ _; omega) (by show c.size ≤ (c ++ Fm.pk r).size; omega), h.gt, by omega, by omega⟩ (rng_dec ha)
  · show (old (T7 B BT (some (sy c n)) GT st sm a false).L pG).data.size + _ ≤ _
    rw [o_log]
    show c.size + _ ≤ _
    omega
theorem fr_whole (r : ByteArray) (h : r.size ≤ 9223372036854775807) : Fm.fr (Fm.pk r) = (r, (Fm.pk r).size, 0) := by
  have := Fr.fr_pk r [] h
  rwa [List.append_nil] at this
end Go.Proofs.YthejpojmmokinaaGreat.Tb

namespace Go.Proofs.YthejpojmmokinaaGreat.Tb
open Go.RowKit Tx Pm Dk Wm Wr Wl Pl
set_option linter.unusedVariables false
set_option linter.unusedSimpArgs false
set_option linter.unnecessarySimpa false
abbrev Tt (b j t m : Nat) := Tn b j t m pB pG
abbrev Tu (b j t m u : Nat) := TB b j t m pB pG u
section
variable {w0 W : World} {b j t m u k : Nat} {s s' : St} {x y : Tst} {l : List Ch}
theorem tn_below {w w1 : World} {F : Nat → Prop} {x : Tst} (h : Tt b j t m w F x) (hb : Below w.heap.size w w1) : Tt b j t m w1 F x := by
  obtain ⟨Fj, h⟩ := h
  exact ⟨Fj, h.below hb⟩
theorem ownT_below {w' : World} (h : Own (Tt b j t m) w0 x W) (hb : Below W.heap.size W w') : Own (Tt b j t m) w0 x w' := Own.kept (Obj := Tt b j t m) (fun h hb => tn_below h hb) h hb
theorem own_tab (h : Own (Tu b j t m u) w0 (x, l) W) : Own (Tt b j t m) w0 x W := by
  obtain ⟨H, ⟨F, G, h1, _, _, hH⟩, h2, h3⟩ := h
  exact ⟨F, h1, fun i hi => h2 i ((hH i).2 (.inl hi)), h3⟩
theorem own_disk (h : Own (Tt b j t m) w0 x W) : Own (ImpAt b) w0 x.j.s W := by
  obtain ⟨F, ⟨Fj, h1⟩, h2, h3⟩ := h
  obtain ⟨v, Fd, hj⟩ := h1.jn
  exact ⟨Fd, hj.dsk, fun i hi => h2 i ((h1.foot i).2 (.inl ((hj.foot i).2 (.inl hi)))), h3⟩
theorem sys_base : tb (joi pS.data.toList [98, 97, 115, 101]) = pB := by decide +kernel
theorem sys_log : tb (joi pS.data.toList [108, 111, 103]) = pG := by decide +kernel
theorem a_open (h : Own (ImpAt b) w0 s W) (o : Open7Ok s pS pB pG) (he : open7 s pS pB pG = (0, x)) : Calls Tryz.prog 13 #[.pointer (some ⟨b, 0, none⟩), .string pS] W fun e w' => ∃ t j m, e = .returned (.tuple #[.pointer (some ⟨t, 0, none⟩), .int .i64 0]) ∧ Own (Tt b j t m) w0 x w' := by
  obtain ⟨F, h1, h2, h3⟩ := h
  have c := open_any b pS pB pG W h1 sys_base sys_log o
  rw [he] at c
  refine c.mono fun e w' hh => ?_
  rcases hh with ⟨_, t, j, m, he, hl⟩ | ⟨h0, _⟩
  · exact ⟨t, j, m, he, own_left h2 h3 hl⟩
  · exact absurd rfl h0
theorem a_begin (h : Own (Tt b j t m) w0 x W) : Calls Tryz.prog 15 #[.pointer (some ⟨t, 0, none⟩)] W fun e w' => ∃ u, e = .returned (.pointer (some ⟨u, 0, none⟩)) ∧ Own (Tu b j t m u) w0 (x, []) w' := by
  obtain ⟨F, ⟨Fj, h1⟩, h2, h3⟩ := h
  refine (begin_any (some ⟨t, 0, none⟩) W).mono fun e w' hh => ?_
  obtain ⟨u, he, G, hB, hG, hb⟩ := hh
  have hs := h3.size
  exact ⟨u, he, fun i => F i ∨ G i, ⟨F, G, ⟨Fj, h1.below hb⟩, hB, fun i hi hg => by have := h1.lt i hi; have := hG i hg; omega, fun i => Iff.rfl⟩, fun i hi => hi.elim (h2 i) (fun hh => by have := hG i hh; omega), Tx.below_call h3 hb⟩
theorem a_batch {f : FuncId} {args : Array Value} {l' : List Ch} {P : Ending → Prop} (h : Own (Tu b j t m u) w0 (x, l) W) (hc : ∀ pm vO G, BAt u pm (some ⟨t, 0, none⟩) vO W G l → Calls Tryz.prog f args W fun e w' => P e ∧ LeftA (Bn u (some ⟨t, 0, none⟩)) W G l' w') :
    Calls Tryz.prog f args W fun e w' => P e ∧ Own (Tu b j t m u) w0 (x, l') w' :=
  h.call (fun H ⟨F, G, ⟨Fj, h1⟩, ⟨pm, vO, h2⟩, hd, hH⟩ => (hc pm vO G h2).mono fun e w' hh => ⟨hh.1, by
    obtain ⟨G', q, c, n⟩ := hh.2
    refine ⟨fun i => F i ∨ G' i, ⟨F, G', ⟨Fj, h1.kept (fun i hi => c.block i (h1.lt i hi) (hd i hi))⟩, q, fun i hi hg => ?_, fun i => Iff.rfl⟩, c.mono (fun i hi => (hH i).2 (.inr hi)), fun g hg => ?_⟩
    · rcases n i hg with hh | hh
      · exact hd i hi hh
      · have := h1.lt i hi; omega
    · rcases hg with hg | hg
      · exact .inl ((hH g).2 (.inl hg))
      · exact (n g hg).imp (fun hh => (hH g).2 (.inr hh)) id⟩)
theorem a_put {key val : ByteArray} (h : Own (Tu b j t m u) w0 (x, l) W) (hk : key.size ≤ 1000000000000) (hl : l.length < 1000000000) : Calls Tryz.prog 16 #[.pointer (some ⟨u, 0, none⟩), .string key, .string val] W fun e w' => e = .returned (.tuple #[]) ∧ Own (Tu b j t m u) w0 (x, bat l ⟨key, val, false⟩) w' :=
  a_batch h (fun pm vO G hB => bPut_any u pm _ vO key val W hB hk hl)
theorem a_commit (h : Own (Tu b j t m u) w0 (x, l) W) (o : CommitOk x l pB pG) (he : commitS x l pB pG = (0, y)) : Calls Tryz.prog 19 #[.pointer (some ⟨u, 0, none⟩)] W fun e w' => e = .returned (.int .i64 0) ∧ Own (Tu b j t m u) w0 (y, []) w' :=
  h.call (fun H hh => by
    have c := commit_any b j t m u pB pG W hh o
    rw [he] at c
    exact c.mono fun e w' q => ⟨q.1, q.2.2 rfl⟩)
theorem a_get {key : ByteArray} (h : Own (Tt b j t m) w0 x W) (hk : key.size ≤ 1000000000000) : Calls Tryz.prog 38 #[.pointer (some ⟨t, 0, none⟩), .string key] W fun e w' => e = .returned (.tuple #[.string (lookC x.L key).val, .bool (find x.L key).isSome]) ∧ Below W.heap.size W w' := by
  obtain ⟨F, ⟨Fj, h1⟩, h2, h3⟩ := h
  exact tGet_any t m x.L key W h1.cell.2.2.2 h1.rows (by unfold maxLen; omega)
end
end Go.Proofs.YthejpojmmokinaaGreat.Tb

namespace Go.Proofs.YthejpojmmokinaaGreat.Tb
open Go.RowKit Tx Pm Dk Wm Wr Wl Pl
set_option linter.unusedVariables false
set_option linter.unusedSimpArgs false
set_option linter.unnecessarySimpa false
def Based (B : Option Fi) (L0 : List It) : Prop := (B = none ∧ L0 = []) ∨ ∃ r n ops, B = some (sy (Fm.pk r) n) ∧ opsS r = (ops, 0) ∧ r.size ≤ 100000000 ∧ L0 = all7 [] ops
theorem base_T {B BT G GT : Option Fi} {L0 : List It} {st sm : Nat} {a : Int} (hb : Based B L0) : base0 (T7 B BT G GT st sm a false) pB = (L0, 0) ∧ (readS (T7 B BT G GT st sm a false) pB).1.size ≤ 500000000 := by
  rcases hb with ⟨rfl, rfl⟩ | ⟨r, n, ops, rfl, ho, hr, rfl⟩
  · have hk : kind (T7 none BT G GT st sm a false).L pB = 0 := k_base0
    refine ⟨base_0 hk, ?_⟩
    rw [r_base0]
    decide
  · have hk : kind (T7 (some (sy (Fm.pk r) n)) BT G GT st sm a false).L pB ≠ 0 := by rw [k_base]; decide
    have hrd : readS (T7 (some (sy (Fm.pk r) n)) BT G GT st sm a false) pB = (Fm.pk r, 0) := r_base
    refine ⟨base_5 hk hrd (fr_whole r (by omega)) (Nat.lt_irrefl _) ho, ?_⟩
    rw [hrd]
    show (Fm.pk r).size ≤ _
    rw [Fm.pk_size]
    have := vb_len (x := r.size) (by omega)
    omega
theorem recok_wide {L : List It} {l : List ByteArray} (h : RecOk L l) : ∀ x ∈ l, x.size ≤ 140737488351232 := fun x hx => by have := (h.1 x hx).2; omega
section
variable {B BT GT : Option Fi} {L0 : List It} {l : List ByteArray} {r c : ByteArray} {n st sm : Nat} {a : Int}
end
theorem open_W {B BT GT : Option Fi} {L0 : List It} {l : List ByteArray} {n st sm : Nat} {a : Int} (hb : Based B L0) (h : Sz B BT (some (sy (PK l) n)) GT st sm) (ha : Rng a) (hrec : RecOk L0 l) (hll : l.length ≤ 1000) (hst : st ≤ 900000) (hsm : sm ≤ 900000) :
    Open7Ok (T7 B BT (some (sy (PK l) n)) GT st sm a false) pS pB pG ∧ open7 (T7 B BT (some (sy (PK l) n)) GT st sm a false) pS pB pG = (0, ⟨⟨T7 B BT (some (sy (PK l) n)) GT st sm a false, l, false⟩, rows7 L0 l⟩) := by
  obtain ⟨hb1, hb2⟩ := base_T (BT := BT) (G := some (sy (PK l) n)) (GT := GT) (st := st) (sm := sm) (a := a) hb
  have hop : opened (T7 B BT (some (sy (PK l) n)) GT st sm a false) pS = (0, T7 B BT (some (sy (PK l) n)) GT st sm a false) := by
    unfold opened
    rw [if_neg (by rw [k_sys]; decide)]
  have hw := recok_wide hrec
  have hs := scan_all l hw
  have hk : kind (T7 B BT (some (sy (PK l) n)) GT st sm a false).L pG ≠ 0 := by rw [k_log]; decide
  have hr : readS (T7 B BT (some (sy (PK l) n)) GT st sm a false) pG = (PK l, 0) := r_log
  have hcs : (PK l).size ≤ 20000000000 := (h.g _ rfl).1
  have ho := open_2 hk hr hs
  refine ⟨⟨t7_ok h ha, fun _ => ?_, by decide, by decide, by decide⟩, (open_n hop).trans (open1_o hb1 ho)⟩
  rw [hop]
  refine ⟨hb2, fun _ => ⟨⟨fun h0 => absurd h0 hk, fun _ => ?_⟩, fun _ => ?_⟩⟩
  · rw [hr]
    refine ⟨by show (PK l).size ≤ _; omega, by rw [hs]; show l.length ≤ _; omega, fun h0 => ?_⟩
    rw [hs] at h0
    exact absurd rfl h0
  · rw [hb1, ho]
    exact hrec
def s0T : St := T7 none none (some (sy ⟨#[]⟩ 2)) none 4 2 (-1) false
theorem sz0 : Sz none none none none 1 0 := ⟨ook_none, ook_none, ook_none, ook_none, by omega, by omega⟩
theorem new_open7 : open7 newS pS pB pG = (0, ⟨⟨s0T, [], false⟩, []⟩) := by
  have hop : opened newS pS = (0, T7 none none none none 1 0 (-1) false) := by
    unfold opened
    rw [if_pos (by decide +kernel), n_mkdir]
  have hb := (base_T (B := none) (BT := none) (G := none) (GT := none) (L0 := []) (st := 1) (sm := 0) (a := -1) (.inl ⟨rfl, rfl⟩)).1
  have hf : fillS (T7 none none none none 1 0 (-1) false) pG ⟨#[]⟩ = (0, s0T) := by
    unfold fillS
    rw [pG_tT, g_write (by decide)]
    simp only [dec_neg, g_sync (a := -1) (by decide), g_rename (a := -1) (by decide)]
    rfl
  exact (open_n hop).trans (open1_o hb (open_0 k_log0 hf))
theorem new_ok7 : Open7Ok newS pS pB pG := by
  have hop : opened newS pS = (0, T7 none none none none 1 0 (-1) false) := by
    unfold opened
    rw [if_pos (by decide +kernel), n_mkdir]
  obtain ⟨hb, hb2⟩ := base_T (B := none) (BT := none) (G := none) (GT := none) (L0 := []) (st := 1) (sm := 0) (a := -1) (.inl ⟨rfl, rfl⟩)
  refine ⟨ok_new, fun _ => ?_, by decide, by decide, by decide⟩
  rw [hop]
  refine ⟨hb2, fun _ => ⟨⟨fun _ => fillokG sz0 (by decide) rng_m1 (by decide) (by decide), fun h => absurd k_log0 h⟩, fun h0 => ?_⟩⟩
  have hf : fillS (T7 none none none none 1 0 (-1) false) pG ⟨#[]⟩ = (0, s0T) := by
    unfold fillS
    rw [pG_tT, g_write (by decide)]
    simp only [dec_neg, g_sync (a := -1) (by decide), g_rename (a := -1) (by decide)]
    rfl
  rw [hb, open_0 k_log0 hf]
  exact ⟨fun x hx => (by cases hx), by show 0 + 0 ≤ 500000000; omega, by show 0 ≤ 10000000000; omega⟩
section
variable {B BT GT : Option Fi} {c : ByteArray} {n st sm : Nat} {a : Int} {R : List ByteArray} {dm : Bool} {L : List It} {l : List Ch}
theorem pk_bound {r : ByteArray} (h : r.size ≤ 1000000000) : (Fm.pk r).size ≤ r.size + 14 := by
  have := vb_len (x := r.size) (by omega)
  rw [Fm.pk_size]
  omega
theorem commit_T (h : Sz B BT (some (sy c n)) GT st sm) (ha : Rng a) (hl : l ≠ []) (hw : wt l ≤ 900000000) (hc : c.size ≤ 10000000000) (hL : L.length + l.length ≤ 1000000000) (hR : R.length + 1 < 16) (hst : st ≤ 900000) (hsm : sm ≤ 900000) :
    CommitOk ⟨⟨T7 B BT (some (sy c n)) GT st sm a false, R, dm⟩, L⟩ l pB pG ∧ ∃ k y, commitS ⟨⟨T7 B BT (some (sy c n)) GT st sm a false, R, dm⟩, L⟩ l pB pG = (k, y) ∧
    ((k = 0 ∧ ∃ a', y = ⟨⟨T7 B BT (some (sy (c ++ Fm.pk (rec7 l)) (sm + 1))) GT (st + 2) (sm + 1) a' false, R ++ [rec7 l], dm⟩, all7 L l⟩ ∧ Rng a' ∧ (a = -1 → a' = -1)) ∨
     (k = 14 ∧ a ≠ -1 ∧ ∃ G' st' sm', y.j.s = T7 B BT G' GT st' sm' (-1) true ∧ (G' = some (sy c n) ∨ G' = some ⟨c ++ Fm.pk (rec7 l), c, true, false, sm + 1⟩) ∧ st' ≤ st + 2 ∧ sm' ≤ sm + 1)) := by
  have hr := rec7_le (l := l) (by omega)
  have hp := pk_bound (r := rec7 l) (by omega)
  obtain ⟨k, x', hadd, hcases⟩ := add7 (B := B) (BT := BT) (GT := GT) (c := c) (r := rec7 l) (n := n) (st := st) (sm := sm) (R := R) (dm := dm) ha
  have hlen : x'.R.length ≤ R.length + 1 := by
    rcases hcases with ⟨_, a', rfl, _⟩ | ⟨_, _, G', st', sm', rfl, _⟩
    · show (R ++ [rec7 l]).length ≤ _; rw [List.length_append]; exact Nat.le_refl _
    · show R.length ≤ _; omega
  refine ⟨⟨by omega, addok7 h ha (by omega) (by omega) (by omega) hst hsm, hL, by decide, ?_, fun h16 => ?_⟩, ?_⟩
  · rw [hadd]; show x'.R.length ≤ _; omega
  · rw [hadd] at h16; have h16 : 16 ≤ x'.R.length := h16; omega
  · rcases hcases with ⟨rfl, a', rfl, ra, rm⟩ | ⟨rfl, hne, G', st', sm', rfl, hG, b1, b2⟩
    · exact ⟨0, _, commit_2 hl hadd (by omega), .inl ⟨rfl, a', rfl, ra, rm⟩⟩
    · exact ⟨14, _, commit_1 hl hadd (by decide), .inr ⟨rfl, hne, G', st', sm', rfl, hG, b1, b2⟩⟩
end
end Go.Proofs.YthejpojmmokinaaGreat.Tb

namespace Go.Proofs.YthejpojmmokinaaGreat.Tb
open Go.RowKit Tx Pm Dk Wm Wr Wl Pl
set_option linter.unusedVariables false
set_option linter.unusedSimpArgs false
set_option linter.unnecessarySimpa false
def kK : ByteArray := ⟨#[107]⟩
def vV : ByteArray := ⟨#[118]⟩
def opK : List Ch := [⟨kK, vV, false⟩]
def recK7 : ByteArray := rec7 opK
theorem sz_0T : Sz none none (some (sy ⟨#[]⟩ 2)) none 4 2 := ⟨ook_none, ook_none, ook_sy (by decide), ook_none, by omega, by omega⟩
theorem lit3 (W : World) (c : Ch) : Opl (W.alloc (.cells #[.string c.key, .string c.val, .bool c.gone] 24)) (some ⟨W.heap.size, 0, none⟩) 1 [c] := by
  refine ⟨rfl, .inr ⟨W.heap.size, 0, rfl, by simp, fun k x hx => ?_⟩⟩
  match k, hx with
  | 0, hx =>
    injection hx with hx
    subst hx
    obtain ⟨h1, h2, h3⟩ := cells3_new W c 24
    exact ⟨h1, h2, h3⟩
  | k + 1, hx => cases hx
theorem awake_commit : CommitOk ⟨⟨s0T, [], false⟩, []⟩ opK pB pG ∧ commitS ⟨⟨s0T, [], false⟩, []⟩ opK pB pG = (0, ⟨⟨T7 none none (some (sy (PK [recK7]) 3)) none 6 3 (-1) false, [recK7], false⟩, [rw7 kK vV]⟩) := by
  obtain ⟨h1, k, y, h2, hc⟩ := commit_T (B := none) (BT := none) (GT := none) (c := ⟨#[]⟩) (n := 2) (st := 4) (sm := 2) (a := -1) (R := []) (dm := false) (L := []) (l := opK) sz_0T rng_m1 (by decide) (by decide) (by decide) (by decide) (by decide) (by decide) (by decide)
  refine ⟨h1, ?_⟩
  have h2' : commitS ⟨⟨s0T, [], false⟩, []⟩ opK pB pG = (k, y) := h2
  rw [h2']
  rcases hc with ⟨rfl, a', rfl, _, ha⟩ | ⟨_, hne, _⟩
  · rw [ha rfl]
    have e : (⟨#[]⟩ : ByteArray) ++ Fm.pk (rec7 opK) = PK [recK7] := by
      have := PK_snoc [] recK7
      rw [List.nil_append, PK_nil] at this
      exact this.symm
    rw [e]
    have e2 : all7 [] opK = [rw7 kK vV] := by kernel_rfl
    rw [e2]
    rfl
  · exact absurd rfl hne
theorem opK_back : opsS recK7 = (opK, 0) := by
  have := ops_back (l := opK) (by decide)
  rw [show opK.map norm = opK from rfl] at this
  exact this
theorem awake_open : Open7Ok (T7 none none (some (sy (PK [recK7]) 3)) none 6 3 (-1) false) pS pB pG ∧ ∃ y, open7 (T7 none none (some (sy (PK [recK7]) 3)) none 6 3 (-1) false) pS pB pG = (0, ⟨y, [rw7 kK vV]⟩) := by
  have hsz : recK7.size ≤ 100 := by
    have := rec7_le (l := opK) (by decide)
    have h2 : wt opK = 42 := by decide
    unfold recK7
    omega
  have hp := pk_bound (r := recK7) (by omega)
  have hPK : (PK [recK7]).size ≤ 1000 := by
    have := PK_snoc [] recK7
    rw [List.nil_append] at this
    rw [this, ByteArray.size_append]
    have h0 : (PK []).size = 0 := rfl
    omega
  have hrec : RecOk [] ([] ++ [recK7]) := ⟨fun x hx => by rw [List.mem_singleton.1 hx, opK_back]; exact ⟨rfl, by omega⟩, by show 0 + (recK7.size + 0) ≤ _; omega, by decide⟩
  obtain ⟨h1, h2⟩ := open_W (B := none) (BT := none) (GT := none) (L0 := []) (l := [recK7]) (n := 3) (st := 6) (sm := 3) (a := -1) (.inl ⟨rfl, rfl⟩) ⟨ook_none, ook_none, ook_sy (by omega), ook_none, by omega, by omega⟩ rng_m1 hrec (by decide) (by decide) (by decide)
  have e : rows7 [] [recK7] = [rw7 kK vV] := by
    rw [rows7_cons, opK_back]
    kernel_rfl
  rw [e] at h2
  exact ⟨h1, _, h2⟩
set_option maxRecDepth 100000 in
set_option maxHeartbeats 4000000 in
theorem awake_any7 (w0 W : World) (hb : Below w0.heap.size w0 W) : Calls Tryz.prog 8 #[] W fun e w' => e = .returned (.bool true) ∧ Below w0.heap.size w0 w' := by
  have cn := w_new w0 hb
  obtain ⟨co1, co2⟩ := awake_commit
  obtain ⟨ao1, y, ao2⟩ := awake_open
  go_enter Tryz.func8, Tryz.ntmps8
  go_wp2_with fail
  go_at_call 11
  refine cn.mono ?_
  rintro e w1 ⟨b, rfl, o1⟩
  go_wp2_with fail
  go_at_call 13
  refine (a_open o1 new_ok7 new_open7).mono ?_
  rintro e w2 ⟨t, j, m, rfl, o2⟩
  go_wp2_with fail
  go_at_call 15
  refine (a_begin o2).mono ?_
  rintro e w3 ⟨u, rfl, o3⟩
  have o3 := own_tab o3
  go_wp2_with fail
  go_at_call 15
  refine (a_begin o3).mono ?_
  rintro e w4 ⟨u4, rfl, o4⟩
  go_wp2_with fail
  go_at_call 16
  refine (a_put (key := kK) (val := vV) o4 (by decide) (by decide)).mono ?_
  rintro e w5 ⟨rfl, o5⟩
  go_wp2_with fail
  go_at_call 19
  refine (a_commit (l := opK) o5 co1 co2).mono ?_
  rintro e w6 ⟨rfl, o6⟩
  go_wp2_with fail
  go_at_call 13
  refine (a_open (own_disk (own_tab o6)) ao1 ao2).mono ?_
  rintro e w7 ⟨t7, j7, m7, rfl, o7⟩
  have cg := a_get (key := kK) o7 (by decide)
  rw [show (lookC [rw7 kK vV] kK).val = vV from by kernel_rfl, show (find [rw7 kK vV] kK).isSome = true from by kernel_rfl] at cg
  go_wp2_with fail
  go_at_call 38
  refine cg.mono ?_
  rintro e w8 ⟨rfl, hb8⟩
  have o8 := ownT_below o7 hb8
  have hv : (vV.toList == [118]) = true := by decide +kernel
  have hr : ((rec7 [⟨⟨#[97]⟩, ⟨#[98]⟩, false⟩]).toList == [1, 1, 1, 97, 1, 98]) = true := by decide +kernel
  have cr := record_any (some ⟨w8.heap.size, 0, none⟩) 1 1 [⟨⟨#[97]⟩, ⟨#[98]⟩, false⟩] _ (lit3 w8 ⟨⟨#[97]⟩, ⟨#[98]⟩, false⟩) (by decide) (by decide)
  have hb9 : Below w0.heap.size w0 (w8.alloc (.cells #[.string ⟨#[97]⟩, .string ⟨#[98]⟩, .bool false] 24)) := o8.bel.alloc o8.bel.size _
  simp only at cr
  go_wp2_with fail
  go_at_call 7
  refine cr.mono ?_
  rintro e w9 ⟨rfl, hb10⟩
  go_wp2_with fail
  go_ret
  exact ⟨rfl, Tx.below_call hb9 hb10⟩
end Go.Proofs.YthejpojmmokinaaGreat.Tb

namespace Go.Proofs.YthejpojmmokinaaGreat.Tb
open Go.RowKit Tx Pm Dk Wm Wr
set_option linter.unusedVariables false
set_option linter.unusedSimpArgs false
set_option linter.unnecessarySimpa false
set_option maxRecDepth 100000 in
set_option maxHeartbeats 2000000 in
theorem same7 (a1 a2 : Option Addr) (n c1 c2 : Nat) (l : List Ch) (w : World) (h1 : Opl w a1 n l) (h2 : Opl w a2 n l) (hn : n ≤ 1000000000000) :
    Calls Tryz.prog 10 #[.slice a1 n c1, .slice a2 n c2] w fun e w' => e = .returned (.bool true) ∧ Below w.heap.size w w' := by
  have H1 := Lib.hid (fun W (hW : Below w.heap.size w W) => h1.below hW)
  have H2 := Lib.hid (fun W (hW : Below w.heap.size w W) => h2.below hW)
  have HL := Lib.hid h1.1
  clear h1 h2
  go_enter Tryz.func10, Tryz.ntmps10
  go_wp2_with fail
  go_loopw [5] (fun iv wr => ∃ k : Nat, k ≤ n ∧ iv = .int .i64 k ∧ Below w.heap.size w wr) (fun iv _ => n - (intOf iv).toNat)
  case atStart => exact ⟨0, Nat.zero_le _, rfl, Below.refl _ _⟩
  case round =>
    obtain ⟨k, hk, rfl, hB⟩ := hrel
    by_cases hlt : k < n
    · obtain ⟨x, hx⟩ : ∃ x, l[k]? = some x := ⟨_, List.getElem?_eq_getElem (by rw [HL.out]; exact hlt)⟩
      obtain ⟨g, off, rfl, hg, g0, g1, g2⟩ := (H1.out _ hB).nth hx
      obtain ⟨g', off', rfl, hg', k0, k1, k2⟩ := (H2.out _ hB).nth hx
      have hkz : (k : Int) < (n : Int) := by omega
      clear hx
      have hBd := hB.drew
      go_wp2_with fail
      go_region
      all_goals
        go_wp2_with fail
        go_roundw
        case rel => exact ⟨k + 1, by omega, by go_num, hBd⟩
        case measure => simp [intOf]; omega
    · obtain rfl : k = n := by omega
      go_wp2_with fail
      go_ret
      exact ⟨rfl, hB⟩
end Go.Proofs.YthejpojmmokinaaGreat.Tb

namespace Go.Proofs.YthejpojmmokinaaGreat.Tb
open Go.RowKit Tx Pm Dk Wm Wr
set_option linter.unusedVariables false
set_option linter.unusedSimpArgs false
set_option linter.unnecessarySimpa false
set_option maxRecDepth 100000 in
theorem refNum_any (n : Nat) (w : World) (h : n ≤ 9223372036854775807) : Calls Tryz.prog 39 #[.int .i64 n] w fun e w' => e = .returned (.string (vs n)) ∧ Below w.heap.size w w' := by
  have c := fun W => refvarint_any 9 n W (by omega) (by omega)
  go_enter Tryz.func39, Tryz.ntmps39
  go_wp2_with (go_at_call 86; refine (c _).mono ?_; rintro e w1 ⟨rfl, hb⟩)
  go_ret
  exact ⟨rfl, hb⟩
def rk (l : List Ch) (k : Nat) : ByteArray := ⟨(vb l.length ++ (l.take k).flatMap pl).toArray⟩
theorem rk_0 (l : List Ch) : rk l 0 = vs l.length := by unfold rk vs; rw [List.take_zero]; simp
theorem rk_all (l : List Ch) : rk l l.length = rec7 l := by unfold rk; rw [List.take_length, rec7_is]; rfl
theorem rk_next {l : List Ch} {k : Nat} {x : Ch} (hx : l[k]? = some x) : rk l (k + 1) = (if x.gone then rk l k ++ vs 0 ++ ts x.key else rk l k ++ vs 1 ++ ts x.key ++ ts x.val) := by
  have hk := (List.getElem?_eq_some_iff.1 hx).1
  rw [List.getElem?_eq_getElem hk] at hx
  injection hx with hx
  have e : (l.take (k + 1)).flatMap pl = (l.take k).flatMap pl ++ pl x := by
    rw [List.take_succ_eq_append_getElem hk, List.flatMap_append, hx]
    simp
  apply ByteArray.ext
  apply Array.toList_inj.1
  unfold rk
  rw [e]
  unfold pl
  split
  · simp only [ByteArray.data_append, Array.toList_append, ts_tl, vs_list]
    simp
  · simp only [ByteArray.data_append, Array.toList_append, ts_tl, vs_list]
    simp
theorem rk_size (l : List Ch) (k : Nat) (h : wt l ≤ 100000000) : (rk l k).size ≤ wt l + 10 := by
  have h1 := wt_len l
  have h2 := vb_len (x := l.length) (by omega)
  have h3 : ∀ m : List Ch, wt m ≤ 100000000 → (m.flatMap pl).length ≤ wt m := fun m hm => all_len (by omega)
  have h4 : wt (l.take k) ≤ wt l := by
    conv => rhs; rw [← List.take_append_drop k l, wt_append]
    omega
  have := h3 (l.take k) (by omega)
  unfold rk
  rw [← Wm.len_l]
  show (vb l.length ++ (l.take k).flatMap pl).length ≤ _
  rw [List.length_append]
  omega
end Go.Proofs.YthejpojmmokinaaGreat.Tb

namespace Go.Proofs.YthejpojmmokinaaGreat.Tb
open Go.RowKit Tx
set_option linter.unusedVariables false
set_option maxRecDepth 100000 in
set_option maxHeartbeats 4000000 in
theorem regGone (ops : Array Oper) (hops : ops = (Rg.opsOf Tryz.f9 6)) (id : Nat) (g off n c k : Nat) (S0 Z TK TV key val : ByteArray) {u1 u2 u5 u6 u7 u8 u9 u10 u11 u12 u13 u14 u15 u16 u17 u18 u19 u20 u21 u22 u23 u24 u25 u26 u27 u28 u29 u30 u31 u32 u33 u34 u35 u36 u37 u38 u39 u40 u41 u42 u43 u44 u45 u46 : Value} (w : World) (hin : (k : Int) < (n : Int)) (hg : g < w.heap.size)
    (g0 : w.cell? ⟨g, off + k * 3, none⟩ = some (.string key)) (g1 : w.cell? ⟨g, off + k * 3 + 1, none⟩ = some (.string val))
    (z1 : S0.size + Z.size ≤ 9223372036854775807) (z2 : S0.size + Z.size + TK.size ≤ 9223372036854775807) (z3 : S0.size + Z.size + TK.size + TV.size ≤ 9223372036854775807)
    (cz : ∀ V, Below w.heap.size w V → Calls Tryz.prog 39 #[.int .i64 0] V fun e w' => e = .returned (.string Z) ∧ Below V.heap.size V w') (ck : ∀ V, Below w.heap.size w V → Calls Tryz.prog 40 #[.string key] V fun e w' => e = .returned (.string TK) ∧ Below V.heap.size V w') (cv : ∀ V, Below w.heap.size w V → Calls Tryz.prog 40 #[.string val] V fun e w' => e = .returned (.string TV) ∧ Below V.heap.size V w') :
    (Code.region id ops true).wp Tryz.prog (Rg.Only fun a' w' => a' = ⟨#[(.slice (some ⟨g, off, none⟩) n c), u1, u2, (.string (S0 ++ Z ++ TK)), (.int .i64 (k : Nat)), u5, u6, u7, u8, u9, u10, u11, u12, u13, u14, u15, u16, u17, u18, (.string S0), (.string Z), (.string (S0 ++ Z)), (.slice (some ⟨g, off, none⟩) n c), (.int .i64 (k : Nat)), (.pointer (some ⟨g, off + k * 3, none⟩)), (.pointer (some ⟨g, off + k * 3, none⟩)), (.string key), (.string TK), (.string (S0 ++ Z ++ TK)), u29, u30, u31, u32, u33, u34, u35, u36, u37, u38, u39, u40, u41, u42, u43, u44, u45, u46], []⟩ ∧ Below w.heap.size w w') ⟨#[(.slice (some ⟨g, off, none⟩) n c), u1, u2, (.string S0), (.int .i64 (k : Nat)), u5, u6, u7, u8, u9, u10, u11, u12, u13, u14, u15, u16, u17, u18, u19, u20, u21, u22, u23, u24, u25, u26, u27, u28, u29, u30, u31, u32, u33, u34, u35, u36, u37, u38, u39, u40, u41, u42, u43, u44, u45, u46], []⟩ w := by
  subst hops
  have hNS : Region.noSelect (Rg.opsOf Tryz.f9 6) = true := by kernel_rfl
  refine wp_region_held_drew (S := fun V => Below w.heap.size w V) (by kernel_rfl) ((Below.refl _ w).drew) (fun hHeld => ?_)
  rw [show (Rg.opsOf Tryz.f9 6).size = 11 by kernel_rfl]
  refine Rg.take (ops := (Rg.opsOf Tryz.f9 6)) 0 (some 19) ((.string S0)) hNS (by kernel_rfl) (by kernel_rfl) (by kernel_rfl) (by kernel_rfl) (by kernel_rfl) hHeld (Rg.y_move (x := (Operand.tmp 3)) (Or.inl (by kernel_rfl)) (by kernel_rfl)) ?_
  refine Rg.take (ops := (Rg.opsOf Tryz.f9 6)) 3 (some 22) ((.slice (some ⟨g, off, none⟩) n c)) hNS (by kernel_rfl) (by kernel_rfl) (by kernel_rfl) (by kernel_rfl) (by kernel_rfl) hHeld (Rg.y_move (x := (Operand.tmp 0)) (Or.inl (by kernel_rfl)) (by kernel_rfl)) ?_
  refine Rg.take (ops := (Rg.opsOf Tryz.f9 6)) 4 (some 23) ((.int .i64 (k : Nat))) hNS (by kernel_rfl) (by kernel_rfl) (by kernel_rfl) (by kernel_rfl) (by kernel_rfl) hHeld (Rg.y_move (x := (Operand.tmp 4)) (Or.inl (by kernel_rfl)) (by kernel_rfl)) ?_
  refine Rg.take (ops := (Rg.opsOf Tryz.f9 6)) 5 (some 24) ((.pointer (some ⟨g, off + k * 3, none⟩))) hNS (by kernel_rfl) (by kernel_rfl) (by kernel_rfl) (by kernel_rfl) (by kernel_rfl) hHeld (Rg.y_at (T := 22) (x := (Operand.tmp 22)) (y := (Operand.tmp 23)) (vx := (.slice (some ⟨g, off, none⟩) n c)) (vy := (.int .i64 (k : Nat))) (by kernel_rfl) (by kernel_rfl) (by kernel_rfl) ?_) ?_
  · (intro w hSw; have h1 := hin; go_simp)
  refine Rg.take (ops := (Rg.opsOf Tryz.f9 6)) 6 (some 25) ((.pointer (some ⟨g, off + k * 3, none⟩))) hNS (by kernel_rfl) (by kernel_rfl) (by kernel_rfl) (by kernel_rfl) (by kernel_rfl) hHeld (Rg.y_field (T := 24) (k := 0) (x := (Operand.tmp 24)) (vx := (.pointer (some ⟨g, off + k * 3, none⟩))) (by kernel_rfl) (by kernel_rfl) ?_) ?_
  · (intro w hSw; go_simp)
  refine Rg.take (ops := (Rg.opsOf Tryz.f9 6)) 7 (some 26) ((.string key)) hNS (by kernel_rfl) (by kernel_rfl) (by kernel_rfl) (by kernel_rfl) (by kernel_rfl) hHeld (Rg.y_load (T := 9) (x := (Operand.tmp 25)) (vx := (.pointer (some ⟨g, off + k * 3, none⟩))) (by kernel_rfl) (by kernel_rfl) ?_) ?_
  · (intro w hSw; have h1 := (hSw.cell (p := ⟨g, off + k * 3, none⟩) hg).trans g0; go_simp)
  refine Rg.call (ops := (Rg.opsOf Tryz.f9 6)) (fn := Tryz.f39) (xs := #[Operand.const (Value.int IntKind.i64 0)]) (ats := #[3]) 1 (some 20) 39 #[(Value.int IntKind.i64 0)] (by kernel_rfl) (by kernel_rfl) (by kernel_rfl) (by kernel_rfl) (by kernel_rfl) Tryz.func39 (by kernel_rfl) (by kernel_rfl) (by kernel_rfl) ?_
  refine (cz _ hHeld).mono ?_
  rintro e w9 ⟨rfl, hb9⟩
  refine ⟨_, rfl, Tx.below_call hHeld hb9, fun hHeld => ?_⟩
  refine Rg.take (ops := (Rg.opsOf Tryz.f9 6)) 2 (some 21) ((.string (S0 ++ Z))) hNS (by kernel_rfl) (by kernel_rfl) (by kernel_rfl) (by kernel_rfl) (by kernel_rfl) hHeld (Rg.y_bin (b := BinOp.add) (T := 9) (R' := 9) (x := (Operand.tmp 19)) (y := (Operand.tmp 20)) (vx := (.string S0)) (vy := (.string Z)) (by kernel_rfl) (by kernel_rfl) (by kernel_rfl) ?_) ?_
  · (intro w hSw; have h1 := z1; go_simp)
  refine Rg.call (ops := (Rg.opsOf Tryz.f9 6)) (fn := Tryz.f40) (xs := #[Operand.tmp 26]) (ats := #[9]) 8 (some 27) 40 #[(.string key)] (by kernel_rfl) (by kernel_rfl) (by kernel_rfl) (by kernel_rfl) (by kernel_rfl) Tryz.func40 (by kernel_rfl) (by kernel_rfl) (by kernel_rfl) ?_
  refine (ck _ hHeld).mono ?_
  rintro e w9 ⟨rfl, hb9⟩
  refine ⟨_, rfl, Tx.below_call hHeld hb9, fun hHeld => ?_⟩
  refine Rg.take (ops := (Rg.opsOf Tryz.f9 6)) 9 (some 28) ((.string (S0 ++ Z ++ TK))) hNS (by kernel_rfl) (by kernel_rfl) (by kernel_rfl) (by kernel_rfl) (by kernel_rfl) hHeld (Rg.y_bin (b := BinOp.add) (T := 9) (R' := 9) (x := (Operand.tmp 21)) (y := (Operand.tmp 27)) (vx := (.string (S0 ++ Z))) (vy := (.string TK)) (by kernel_rfl) (by kernel_rfl) (by kernel_rfl) ?_) ?_
  · (intro w hSw; have h1 := z2; go_simp)
  refine Rg.take (ops := (Rg.opsOf Tryz.f9 6)) 10 (some 3) ((.string (S0 ++ Z ++ TK))) hNS (by kernel_rfl) (by kernel_rfl) (by kernel_rfl) (by kernel_rfl) (by kernel_rfl) hHeld (Rg.y_move (x := (Operand.tmp 28)) (Or.inr (by kernel_rfl)) (by kernel_rfl)) ?_
  refine Rg.done (ops := (Rg.opsOf Tryz.f9 6)) (by kernel_rfl) ?_
  exact ⟨by kernel_rfl, hHeld⟩
set_option maxRecDepth 100000 in
set_option maxHeartbeats 4000000 in
theorem regFull (ops : Array Oper) (hops : ops = (Rg.opsOf Tryz.f9 7)) (id : Nat) (g off n c k : Nat) (S0 Z TK TV key val : ByteArray) {u1 u2 u5 u6 u7 u8 u9 u10 u11 u12 u13 u14 u15 u16 u17 u18 u19 u20 u21 u22 u23 u24 u25 u26 u27 u28 u29 u30 u31 u32 u33 u34 u35 u36 u37 u38 u39 u40 u41 u42 u43 u44 u45 u46 : Value} (w : World) (hin : (k : Int) < (n : Int)) (hg : g < w.heap.size)
    (g0 : w.cell? ⟨g, off + k * 3, none⟩ = some (.string key)) (g1 : w.cell? ⟨g, off + k * 3 + 1, none⟩ = some (.string val))
    (z1 : S0.size + Z.size ≤ 9223372036854775807) (z2 : S0.size + Z.size + TK.size ≤ 9223372036854775807) (z3 : S0.size + Z.size + TK.size + TV.size ≤ 9223372036854775807)
    (cz : ∀ V, Below w.heap.size w V → Calls Tryz.prog 39 #[.int .i64 1] V fun e w' => e = .returned (.string Z) ∧ Below V.heap.size V w') (ck : ∀ V, Below w.heap.size w V → Calls Tryz.prog 40 #[.string key] V fun e w' => e = .returned (.string TK) ∧ Below V.heap.size V w') (cv : ∀ V, Below w.heap.size w V → Calls Tryz.prog 40 #[.string val] V fun e w' => e = .returned (.string TV) ∧ Below V.heap.size V w') :
    (Code.region id ops true).wp Tryz.prog (Rg.Only fun a' w' => a' = ⟨#[(.slice (some ⟨g, off, none⟩) n c), u1, u2, (.string (S0 ++ Z ++ TK ++ TV)), (.int .i64 (k : Nat)), u5, u6, u7, u8, u9, u10, u11, u12, u13, u14, u15, u16, u17, u18, u19, u20, u21, u22, u23, u24, u25, u26, u27, u28, (.string S0), (.string Z), (.string (S0 ++ Z)), (.slice (some ⟨g, off, none⟩) n c), (.int .i64 (k : Nat)), (.pointer (some ⟨g, off + k * 3, none⟩)), (.pointer (some ⟨g, off + k * 3, none⟩)), (.string key), (.string TK), (.string (S0 ++ Z ++ TK)), (.slice (some ⟨g, off, none⟩) n c), (.int .i64 (k : Nat)), (.pointer (some ⟨g, off + k * 3, none⟩)), (.pointer (some ⟨g, off + k * 3 + 1, none⟩)), (.string val), (.string TV), (.string (S0 ++ Z ++ TK ++ TV)), u46], []⟩ ∧ Below w.heap.size w w') ⟨#[(.slice (some ⟨g, off, none⟩) n c), u1, u2, (.string S0), (.int .i64 (k : Nat)), u5, u6, u7, u8, u9, u10, u11, u12, u13, u14, u15, u16, u17, u18, u19, u20, u21, u22, u23, u24, u25, u26, u27, u28, u29, u30, u31, u32, u33, u34, u35, u36, u37, u38, u39, u40, u41, u42, u43, u44, u45, u46], []⟩ w := by
  subst hops
  have hNS : Region.noSelect (Rg.opsOf Tryz.f9 7) = true := by kernel_rfl
  refine wp_region_held_drew (S := fun V => Below w.heap.size w V) (by kernel_rfl) ((Below.refl _ w).drew) (fun hHeld => ?_)
  rw [show (Rg.opsOf Tryz.f9 7).size = 18 by kernel_rfl]
  refine Rg.take (ops := (Rg.opsOf Tryz.f9 7)) 0 (some 29) ((.string S0)) hNS (by kernel_rfl) (by kernel_rfl) (by kernel_rfl) (by kernel_rfl) (by kernel_rfl) hHeld (Rg.y_move (x := (Operand.tmp 3)) (Or.inl (by kernel_rfl)) (by kernel_rfl)) ?_
  refine Rg.take (ops := (Rg.opsOf Tryz.f9 7)) 3 (some 32) ((.slice (some ⟨g, off, none⟩) n c)) hNS (by kernel_rfl) (by kernel_rfl) (by kernel_rfl) (by kernel_rfl) (by kernel_rfl) hHeld (Rg.y_move (x := (Operand.tmp 0)) (Or.inl (by kernel_rfl)) (by kernel_rfl)) ?_
  refine Rg.take (ops := (Rg.opsOf Tryz.f9 7)) 4 (some 33) ((.int .i64 (k : Nat))) hNS (by kernel_rfl) (by kernel_rfl) (by kernel_rfl) (by kernel_rfl) (by kernel_rfl) hHeld (Rg.y_move (x := (Operand.tmp 4)) (Or.inl (by kernel_rfl)) (by kernel_rfl)) ?_
  refine Rg.take (ops := (Rg.opsOf Tryz.f9 7)) 5 (some 34) ((.pointer (some ⟨g, off + k * 3, none⟩))) hNS (by kernel_rfl) (by kernel_rfl) (by kernel_rfl) (by kernel_rfl) (by kernel_rfl) hHeld (Rg.y_at (T := 22) (x := (Operand.tmp 32)) (y := (Operand.tmp 33)) (vx := (.slice (some ⟨g, off, none⟩) n c)) (vy := (.int .i64 (k : Nat))) (by kernel_rfl) (by kernel_rfl) (by kernel_rfl) ?_) ?_
  · (intro w hSw; have h1 := hin; go_simp)
  refine Rg.take (ops := (Rg.opsOf Tryz.f9 7)) 6 (some 35) ((.pointer (some ⟨g, off + k * 3, none⟩))) hNS (by kernel_rfl) (by kernel_rfl) (by kernel_rfl) (by kernel_rfl) (by kernel_rfl) hHeld (Rg.y_field (T := 24) (k := 0) (x := (Operand.tmp 34)) (vx := (.pointer (some ⟨g, off + k * 3, none⟩))) (by kernel_rfl) (by kernel_rfl) ?_) ?_
  · (intro w hSw; go_simp)
  refine Rg.take (ops := (Rg.opsOf Tryz.f9 7)) 7 (some 36) ((.string key)) hNS (by kernel_rfl) (by kernel_rfl) (by kernel_rfl) (by kernel_rfl) (by kernel_rfl) hHeld (Rg.y_load (T := 9) (x := (Operand.tmp 35)) (vx := (.pointer (some ⟨g, off + k * 3, none⟩))) (by kernel_rfl) (by kernel_rfl) ?_) ?_
  · (intro w hSw; have h1 := (hSw.cell (p := ⟨g, off + k * 3, none⟩) hg).trans g0; go_simp)
  refine Rg.take (ops := (Rg.opsOf Tryz.f9 7)) 10 (some 39) ((.slice (some ⟨g, off, none⟩) n c)) hNS (by kernel_rfl) (by kernel_rfl) (by kernel_rfl) (by kernel_rfl) (by kernel_rfl) hHeld (Rg.y_move (x := (Operand.tmp 0)) (Or.inl (by kernel_rfl)) (by kernel_rfl)) ?_
  refine Rg.take (ops := (Rg.opsOf Tryz.f9 7)) 11 (some 40) ((.int .i64 (k : Nat))) hNS (by kernel_rfl) (by kernel_rfl) (by kernel_rfl) (by kernel_rfl) (by kernel_rfl) hHeld (Rg.y_move (x := (Operand.tmp 4)) (Or.inl (by kernel_rfl)) (by kernel_rfl)) ?_
  refine Rg.take (ops := (Rg.opsOf Tryz.f9 7)) 12 (some 41) ((.pointer (some ⟨g, off + k * 3, none⟩))) hNS (by kernel_rfl) (by kernel_rfl) (by kernel_rfl) (by kernel_rfl) (by kernel_rfl) hHeld (Rg.y_at (T := 22) (x := (Operand.tmp 39)) (y := (Operand.tmp 40)) (vx := (.slice (some ⟨g, off, none⟩) n c)) (vy := (.int .i64 (k : Nat))) (by kernel_rfl) (by kernel_rfl) (by kernel_rfl) ?_) ?_
  · (intro w hSw; have h1 := hin; go_simp)
  refine Rg.take (ops := (Rg.opsOf Tryz.f9 7)) 13 (some 42) ((.pointer (some ⟨g, off + k * 3 + 1, none⟩))) hNS (by kernel_rfl) (by kernel_rfl) (by kernel_rfl) (by kernel_rfl) (by kernel_rfl) hHeld (Rg.y_field (T := 24) (k := 1) (x := (Operand.tmp 41)) (vx := (.pointer (some ⟨g, off + k * 3, none⟩))) (by kernel_rfl) (by kernel_rfl) ?_) ?_
  · (intro w hSw; go_simp)
  refine Rg.take (ops := (Rg.opsOf Tryz.f9 7)) 14 (some 43) ((.string val)) hNS (by kernel_rfl) (by kernel_rfl) (by kernel_rfl) (by kernel_rfl) (by kernel_rfl) hHeld (Rg.y_load (T := 9) (x := (Operand.tmp 42)) (vx := (.pointer (some ⟨g, off + k * 3 + 1, none⟩))) (by kernel_rfl) (by kernel_rfl) ?_) ?_
  · (intro w hSw; have h1 := (hSw.cell (p := ⟨g, off + k * 3 + 1, none⟩) hg).trans g1; go_simp)
  refine Rg.call (ops := (Rg.opsOf Tryz.f9 7)) (fn := Tryz.f39) (xs := #[Operand.const (Value.int IntKind.i64 1)]) (ats := #[3]) 1 (some 30) 39 #[(Value.int IntKind.i64 1)] (by kernel_rfl) (by kernel_rfl) (by kernel_rfl) (by kernel_rfl) (by kernel_rfl) Tryz.func39 (by kernel_rfl) (by kernel_rfl) (by kernel_rfl) ?_
  refine (cz _ hHeld).mono ?_
  rintro e w9 ⟨rfl, hb9⟩
  refine ⟨_, rfl, Tx.below_call hHeld hb9, fun hHeld => ?_⟩
  refine Rg.take (ops := (Rg.opsOf Tryz.f9 7)) 2 (some 31) ((.string (S0 ++ Z))) hNS (by kernel_rfl) (by kernel_rfl) (by kernel_rfl) (by kernel_rfl) (by kernel_rfl) hHeld (Rg.y_bin (b := BinOp.add) (T := 9) (R' := 9) (x := (Operand.tmp 29)) (y := (Operand.tmp 30)) (vx := (.string S0)) (vy := (.string Z)) (by kernel_rfl) (by kernel_rfl) (by kernel_rfl) ?_) ?_
  · (intro w hSw; have h1 := z1; go_simp)
  refine Rg.call (ops := (Rg.opsOf Tryz.f9 7)) (fn := Tryz.f40) (xs := #[Operand.tmp 36]) (ats := #[9]) 8 (some 37) 40 #[(.string key)] (by kernel_rfl) (by kernel_rfl) (by kernel_rfl) (by kernel_rfl) (by kernel_rfl) Tryz.func40 (by kernel_rfl) (by kernel_rfl) (by kernel_rfl) ?_
  refine (ck _ hHeld).mono ?_
  rintro e w9 ⟨rfl, hb9⟩
  refine ⟨_, rfl, Tx.below_call hHeld hb9, fun hHeld => ?_⟩
  refine Rg.take (ops := (Rg.opsOf Tryz.f9 7)) 9 (some 38) ((.string (S0 ++ Z ++ TK))) hNS (by kernel_rfl) (by kernel_rfl) (by kernel_rfl) (by kernel_rfl) (by kernel_rfl) hHeld (Rg.y_bin (b := BinOp.add) (T := 9) (R' := 9) (x := (Operand.tmp 31)) (y := (Operand.tmp 37)) (vx := (.string (S0 ++ Z))) (vy := (.string TK)) (by kernel_rfl) (by kernel_rfl) (by kernel_rfl) ?_) ?_
  · (intro w hSw; have h1 := z2; go_simp)
  refine Rg.call (ops := (Rg.opsOf Tryz.f9 7)) (fn := Tryz.f40) (xs := #[Operand.tmp 43]) (ats := #[9]) 15 (some 44) 40 #[(.string val)] (by kernel_rfl) (by kernel_rfl) (by kernel_rfl) (by kernel_rfl) (by kernel_rfl) Tryz.func40 (by kernel_rfl) (by kernel_rfl) (by kernel_rfl) ?_
  refine (cv _ hHeld).mono ?_
  rintro e w9 ⟨rfl, hb9⟩
  refine ⟨_, rfl, Tx.below_call hHeld hb9, fun hHeld => ?_⟩
  refine Rg.take (ops := (Rg.opsOf Tryz.f9 7)) 16 (some 45) ((.string (S0 ++ Z ++ TK ++ TV))) hNS (by kernel_rfl) (by kernel_rfl) (by kernel_rfl) (by kernel_rfl) (by kernel_rfl) hHeld (Rg.y_bin (b := BinOp.add) (T := 9) (R' := 9) (x := (Operand.tmp 38)) (y := (Operand.tmp 44)) (vx := (.string (S0 ++ Z ++ TK))) (vy := (.string TV)) (by kernel_rfl) (by kernel_rfl) (by kernel_rfl) ?_) ?_
  · (intro w hSw; have h1 := z3; go_simp)
  refine Rg.take (ops := (Rg.opsOf Tryz.f9 7)) 17 (some 3) ((.string (S0 ++ Z ++ TK ++ TV))) hNS (by kernel_rfl) (by kernel_rfl) (by kernel_rfl) (by kernel_rfl) (by kernel_rfl) hHeld (Rg.y_move (x := (Operand.tmp 45)) (Or.inr (by kernel_rfl)) (by kernel_rfl)) ?_
  refine Rg.done (ops := (Rg.opsOf Tryz.f9 7)) (by kernel_rfl) ?_
  exact ⟨by kernel_rfl, hHeld⟩
end Go.Proofs.YthejpojmmokinaaGreat.Tb

namespace Go.Proofs.YthejpojmmokinaaGreat.Tb
open Go.RowKit Tx Pm Dk Wm Wr
set_option linter.unusedVariables false
set_option linter.unusedSimpArgs false
set_option linter.unnecessarySimpa false
set_option maxRecDepth 100000 in
set_option maxHeartbeats 4000000 in
theorem refRecord_any (A : Option Addr) (n c : Nat) (l : List Ch) (w : World) (hO : Opl w A n l) (hw : wt l ≤ 100000000) (hc : n ≤ c) : Calls Tryz.prog 9 #[.slice A n c] w fun e w' => e = .returned (.string (rec7 l)) ∧ Below w.heap.size w w' := by
  have HO := Lib.hid (fun V (hV : Below w.heap.size w V) => hO.below hV)
  have HL := Lib.hid hO.1
  have HW := Lib.hid hw
  have hn : n ≤ 2500000 := by have := wt_len l; have := HL.out; omega
  have cn := refNum_any n w (by omega)
  have c0 := fun W => refNum_any 0 W (by decide)
  have c1 := fun W => refNum_any 1 W (by decide)
  have z0 : (vs 0).size ≤ 10 := by rw [vs_size]; exact vb_len (by decide)
  have z1 : (vs 1).size ≤ 10 := by rw [vs_size]; exact vb_len (by decide)
  generalize hZ0 : vs 0 = Z0 at c0 z0
  generalize hZ1 : vs 1 = Z1 at c1 z1
  have HZ0 := Lib.hid hZ0
  have HZ1 := Lib.hid hZ1
  have hr0 : vs n = rk l 0 := by rw [rk_0, HL.out]
  rw [hr0] at cn
  clear hO hw hr0 hZ0 hZ1
  go_enter Tryz.func9, Tryz.ntmps9
  go_wp2_with fail
  go_at_call 39
  refine cn.mono ?_
  rintro e w1 ⟨rfl, hb1⟩
  go_wp2_with fail
  go_loopw [3, 4] (fun sv' iv wr => ∃ k : Nat, k ≤ n ∧ sv' = .string (rk l k) ∧ iv = .int .i64 k ∧ Below w.heap.size w wr) (fun _ i _ => n - (intOf i).toNat)
  case atStart => exact ⟨0, Nat.zero_le _, rfl, rfl, hb1⟩
  case round =>
    clear hb1 cn
    obtain ⟨k, hkn, rfl, rfl, hB⟩ := hrel
    by_cases hlt : k < n
    · obtain ⟨r, hx⟩ : ∃ r, l[k]? = some r := ⟨_, List.getElem?_eq_getElem (by rw [HL.out]; exact hlt)⟩
      have hr : r.key.size ≤ 100000000 ∧ r.val.size ≤ 100000000 := by
        have := wt_mem (List.mem_of_getElem? hx)
        have := HW.out
        omega
      obtain ⟨g, off, rfl, hg, g0, g1, g2⟩ := (HO.out _ hB).nth hx
      have HG := Lib.hid (fun V (hV : Below wr.heap.size wr V) => by
        obtain ⟨g', off', e', _, h0, h1, h2⟩ := (HO.out _ (Tx.below_call hB hV)).nth hx
        cases e'
        exact (⟨h0, h1, h2⟩ : V.cell? ⟨g, off + k * 3, none⟩ = some (.string r.key) ∧ V.cell? ⟨g, off + k * 3 + 1, none⟩ = some (.string r.val) ∧ V.cell? ⟨g, off + k * 3 + 1 + 1, none⟩ = some (.bool r.gone)))
      have hzk : (k : Int) < (n : Int) := by omega
      have hnx := rk_next hx
      rw [HZ0.out, HZ1.out] at hnx
      have hsz := rk_size l k HW.out
      have hwl := HW.out
      obtain ⟨key, val, gone⟩ := r
      simp only at g0 g1 g2 hr hnx HG
      have ck := fun W => refText_any key W (by omega)
      have cv := fun W => refText_any val W (by omega)
      have hzk1 : (ts key).size ≤ 100000010 := by
        have := vb_len (x := key.size) (by omega)
        rw [ts, ByteArray.size_append, vs_size]; omega
      have hzv1 : (ts val).size ≤ 100000010 := by
        have := vb_len (x := val.size) (by omega)
        rw [ts, ByteArray.size_append, vs_size]; omega
      have HNX := Lib.hid hnx
      clear hx hnx
      generalize hrk : rk l k = S at hsz HNX ⊢
      generalize ts key = TK at ck hzk1 HNX
      generalize ts val = TV at cv hzv1 HNX
      clear hrk
      cases gone
      · have e := HNX.out
        simp only [Bool.false_eq_true, if_false] at e
        have HE := Lib.hid e
        clear e HNX
        have h1 : S.size + Z1.size ≤ 9223372036854775807 := by omega
        have h2 : S.size + Z1.size + TK.size ≤ 9223372036854775807 := by omega
        have h3 : S.size + Z1.size + TK.size + TV.size ≤ 9223372036854775807 := by omega
        go_wp2_with fail
        refine Rg.wp_only ?_ (regFull _ (by kernel_rfl) _ g off n c k S Z1 TK TV key val wr hzk hg g0 g1 h1 h2 h3 (fun V _ => c1 V) (fun V _ => ck V) (fun V _ => cv V))
        rintro _ w9 ⟨rfl, hb9⟩
        have hB9 := Tx.below_call hB hb9
        go_wp2_with fail
        go_roundw
        case rel => exact ⟨k + 1, by omega, by rw [HE.out], by go_num, hB9⟩
        case measure => simp [intOf]; omega
      · have e := HNX.out
        simp only [if_true] at e
        have HE := Lib.hid e
        clear e HNX
        have h1 : S.size + Z0.size ≤ 9223372036854775807 := by omega
        have h2 : S.size + Z0.size + TK.size ≤ 9223372036854775807 := by omega
        have h3 : S.size + Z0.size + TK.size + TV.size ≤ 9223372036854775807 := by omega
        go_wp2_with fail
        refine Rg.wp_only ?_ (regGone _ (by kernel_rfl) _ g off n c k S Z0 TK TV key val wr hzk hg g0 g1 h1 h2 h3 (fun V _ => c0 V) (fun V _ => ck V) (fun V _ => cv V))
        rintro _ w9 ⟨rfl, hb9⟩
        have hB9 := Tx.below_call hB hb9
        go_wp2_with fail
        go_roundw
        case rel => exact ⟨k + 1, by omega, by rw [HE.out], by go_num, hB9⟩
        case measure => simp [intOf]; omega
    · obtain rfl : k = n := by omega
      have hall : rk l k = rec7 l := by rw [← HL.out, rk_all]
      rw [hall]
      go_wp2_with fail
      go_ret
      exact ⟨rfl, hB⟩
end Go.Proofs.YthejpojmmokinaaGreat.Tb

namespace Go.Proofs.YthejpojmmokinaaGreat.Tb
open Go.RowKit Tx Pm Dk Wm Wr
set_option linter.unusedVariables false
set_option linter.unusedSimpArgs false
set_option linter.unnecessarySimpa false
set_option maxRecDepth 100000 in
set_option maxHeartbeats 16000000 in
theorem refOps_any (s : ByteArray) (w : World) (hs : s.size ≤ 1000000000000) : Calls Tryz.prog 6 #[.string s] w (OpsTo s w) := by
  have cu := readUint_any s w (by unfold maxLen; omega)
  unfold OpsTo
  obtain ⟨k, m, e0, h0⟩ := Fm.trip (rdU s.data.toList)
  rw [h0] at cu
  simp only at cu
  by_cases he : e0 = 0
  · subst he
    obtain ⟨hm, _, _, hk63, hk⟩ := rdU_ok h0
    rw [Wm.len_l] at hm
    have H0 := Lib.hid h0
    obtain ⟨i0, hi, hz0, hz1, hz2⟩ := info_parts infoC
    clear h0
    go_enter Tryz.func6, Tryz.ntmps6
    go_wp2_with fail
    go_at_call 33
    refine (cu).mono ?_
    rintro e w1 ⟨rfl, rfl⟩
    go_wp2_with fail
    go_loopw [5, 7, 8] (fun av v iv wr => ∃ (i a T : Nat) (out : List Ch), i ≤ k ∧ iv = .int .i64 i ∧ av = .int .i64 a ∧ Hid (rdN s k m = (out ++ (rdN s (k - i) a).1, (rdN s (k - i) a).2.1, (rdN s (k - i) a).2.2)) ∧ Hid (out.length = T) ∧ 2 * T ≤ a ∧ a ≤ s.size ∧ wr.ownsRow w.heap.size 24 3 v T (out.flatMap cellsC) ∧ Below w.heap.size w wr) (fun _ _ iv _ => k - (intOf iv).toNat)
    case atStart => exact ⟨0, m, 0, [], Nat.zero_le _, rfl, rfl, by show rdN s k m = _; rw [Nat.sub_zero]; rfl, rfl, by omega, hm, World.ownsRow_nil _ _ _ _, Below.refl _ _⟩
    case round =>
      obtain ⟨i, a, T, out, hik, rfl, rfl, hrd, hT, hTa, has, hown, hB⟩ := hrel
      by_cases hlt : i < k
      · have hki : k - i = (k - i - 1) + 1 := by omega
        have hikz : (i : Int) < (k : Int) := by omega
        have cuA := fun W => readUint_any (s.extract a s.size) W (by rw [ByteArray.size_extract]; unfold maxLen; omega)
        rcases rdOp_cases (s.extract a s.size) with ⟨k2, m2, e, hu, he, hop⟩ | ⟨k2, m2, hu, hk2, hop⟩ | ⟨k2, m2, t, n1, e, hu, hk2, ht, he, hop⟩ | ⟨m2, t, n1, hu, ht, hop⟩ | ⟨m2, t, n1, t2, n2, e, hu, ht, ht2, he, hop⟩ | ⟨m2, t, n1, t2, n2, hu, ht, ht2, hop⟩
        all_goals
          rw [hu] at cuA
          simp only at cuA
        · have hrd2 := hrd.out
          rw [hki, rdN_bad hop he] at hrd2
          have hops : opsS s = ([], e) := opsS_2 H0.out hrd2 he
          have HOPS := Lib.hid hops
          have ne := neZ he
          clear hrd hrd2 hops hop he hu
          go_wp2_with fail
          go_at_call 33
          refine (cuA _).mono ?_
          rintro e w5 ⟨rfl, rfl⟩
          go_wp2_with fail
          go_ret2
          rw [HOPS.out]
          exact ⟨_, rfl, nil_OwnC _ _, hB⟩
        · have hrd2 := hrd.out
          rw [hki, rdN_bad hop (by decide)] at hrd2
          have hops : opsS s = ([], 3) := opsS_2 H0.out hrd2 (by decide)
          have HOPS := Lib.hid hops
          have hkz2 : (1 : Int) < (k2 : Int) := by omega
          clear hrd hrd2 hops hop hu
          go_wp2_with fail
          go_at_call 33
          refine (cuA _).mono ?_
          rintro e w5 ⟨rfl, rfl⟩
          go_wp2_with fail
          go_ret2
          rw [HOPS.out]
          exact ⟨_, rfl, nil_OwnC _ _, hB⟩
        · obtain ⟨hm1, _, _, _, _⟩ := rdU_ok hu
          rw [Wm.len_l, ByteArray.size_extract, Nat.min_self] at hm1
          have hrd2 := hrd.out
          rw [hki, rdN_bad hop he] at hrd2
          have hops : opsS s = ([], e) := opsS_2 H0.out hrd2 he
          have HOPS := Lib.hid hops
          have ne := neZ he
          rw [ext_ext s a m2 has] at ht
          have ct := fun W => readText_any (s.extract (a + m2) s.size) W (by rw [ByteArray.size_extract]; unfold maxLen; omega)
          rw [ht] at ct
          simp only at ct
          clear hrd hrd2 hops hop he hu ht
          rcases (show k2 = 0 ∨ k2 = 1 by omega) with rfl | rfl
          · go_wp2_with fail
            go_at_call 33
            refine (cuA _).mono ?_
            rintro e w5 ⟨rfl, rfl⟩
            go_wp2_with fail
            go_at_call 34
            refine (ct _).mono ?_
            rintro e w6 ⟨rfl, rfl⟩
            go_wp2_with fail
            go_ret2
            rw [HOPS.out]
            exact ⟨_, rfl, nil_OwnC _ _, hB.alloc hB.size _⟩
          · go_wp2_with fail
            go_at_call 33
            refine (cuA _).mono ?_
            rintro e w5 ⟨rfl, rfl⟩
            go_wp2_with fail
            go_at_call 34
            refine (ct _).mono ?_
            rintro e w6 ⟨rfl, rfl⟩
            go_wp2_with fail
            go_ret2
            rw [HOPS.out]
            exact ⟨_, rfl, nil_OwnC _ _, hB.alloc hB.size _⟩
        · obtain ⟨hm1, _, _, _, _⟩ := rdU_ok hu
          rw [Wm.len_l, ByteArray.size_extract, Nat.min_self] at hm1
          obtain ⟨hn1, _, hn2, _⟩ := rdOp_ok hop
          rw [ByteArray.size_extract, Nat.min_self] at hn1
          have hrd2 := hrd.out
          rw [hki, rdN_one hop] at hrd2
          have hrd3 := hrd2
          rw [show k - i - 1 = k - (i + 1) by omega] at hrd3
          have HRD0 := Lib.hid hrd3
          rw [ext_ext s a m2 has] at ht
          have ct := fun W => readText_any (s.extract (a + m2) s.size) W (by rw [ByteArray.size_extract]; unfold maxLen; omega)
          rw [ht] at ct
          simp only at ct
          have HRD : Hid (rdN s k m = ((out ++ [(⟨t, ⟨#[]⟩, true⟩ : Ch)]) ++ (rdN s (k - (i + 1)) (a + (m2 + n1))).1, (rdN s (k - (i + 1)) (a + (m2 + n1))).2.1, (rdN s (k - (i + 1)) (a + (m2 + n1))).2.2)) := Lib.hid (by rw [HRD0.out, List.append_assoc]; rfl)
          clear hrd hrd2 hrd3 HRD0 hop hu ht
          go_wp2_with fail
          go_at_call 33
          refine (cuA _).mono ?_
          rintro e w5 ⟨rfl, rfl⟩
          go_wp2_with fail
          go_at_call 34
          refine (ct _).mono ?_
          rintro e w6 ⟨rfl, rfl⟩
          have hO5 := hown
          have k1 := new3 (wr.alloc (.cells #[.string t, .string ⟨#[]⟩, .bool true] 24)) ⟨t, ⟨#[]⟩, true⟩ (z := wr.heap.size + 1) (by simp)
          have k2 := cells_one ⟨t, ⟨#[]⟩, true⟩
          have hTs : T + 1 ≤ 1000000000000 := by omega
          have k3 : T + 1 ≤ maxLen := by unfold maxLen; omega
          have k4 : (T + 1) * 40 ≤ 140737488355328 := by omega
          have k5 : w.heap.size ≤ ((wr.alloc (.cells #[.string t, .string ⟨#[]⟩, .bool true] 24)).alloc (.cells #[.string t, .string ⟨#[]⟩, .bool true] 24)).heap.size := by have := hB.size; simp; omega
          go_wp2_with (at_builtin; refine wpList_append_own _ rfl _ _ 22 rfl w.heap.size 24 i0 (ov ch0) 3 40 Tryz.underlying22 hi hz0 hz1 hz2 rfl (by decide) _ _ _ rfl ((hO5.alloc (.cells #[.string t, .string ⟨#[]⟩, .bool true] 24)).alloc (.cells #[.string t, .string ⟨#[]⟩, .bool true] 24)) ⟨wr.heap.size + 1, 0, none⟩ 1 1 (cellsC ⟨t, ⟨#[]⟩, true⟩) rfl rfl k1 k2 k3 k4 k5 ?_)
          intro v' w6 hown6 hgrow6 _
          have hB6 : Below w.heap.size w w6 := ((hB.alloc hB.size _).alloc (by simp; have := hB.size; omega) _).grown hgrow6 (by simp; have := hB.size; omega) (fun g hg => (hO5.lt g hg).1)
          have hO6 : w6.ownsRow w.heap.size 24 3 v' (T + 1) ((out ++ [(⟨t, ⟨#[]⟩, true⟩ : Ch)]).flatMap cellsC) := by
            rw [List.flatMap_append]
            exact hown6
          clear hown6 hgrow6 hO5 hown hB
          go_wp2_with fail
          go_roundw
          case rel => exact ⟨i + 1, a + (m2 + n1), T + 1, out ++ [(⟨t, ⟨#[]⟩, true⟩ : Ch)], by omega, by go_num, by go_num, HRD.out, by rw [List.length_append, hT.out]; rfl, by omega, by omega, hO6, hB6⟩
          case measure => first | omega | (simp [intOf]; omega)
        · obtain ⟨hm1, _, _, _, _⟩ := rdU_ok hu
          rw [Wm.len_l, ByteArray.size_extract, Nat.min_self] at hm1
          have hrd2 := hrd.out
          rw [hki, rdN_bad hop he] at hrd2
          have hops : opsS s = ([], e) := opsS_2 H0.out hrd2 he
          have HOPS := Lib.hid hops
          have ne := neZ he
          rw [ext_ext s a m2 has] at ht
          rw [ext_ext s a (m2 + n1) has] at ht2
          have hn1 := (rdT_ok ht).1
          rw [ByteArray.size_extract, Nat.min_self] at hn1
          have ct := fun W => readText_any (s.extract (a + m2) s.size) W (by rw [ByteArray.size_extract]; unfold maxLen; omega)
          rw [ht] at ct
          simp only at ct
          have ht3 : rdT (s.extract (a + m2 + n1) s.size) = (t2, n2, e) := by rw [Nat.add_assoc]; exact ht2
          have ct2 := fun W => readText_any (s.extract (a + m2 + n1) s.size) W (by rw [ByteArray.size_extract]; unfold maxLen; omega)
          rw [ht3] at ct2
          simp only at ct2
          clear hrd hrd2 hops hop he hu ht ht2 ht3
          go_wp2_with fail
          go_at_call 33
          refine (cuA _).mono ?_
          rintro e w5 ⟨rfl, rfl⟩
          go_wp2_with fail
          go_at_call 34
          refine (ct _).mono ?_
          rintro e w6 ⟨rfl, rfl⟩
          go_wp2_with fail
          go_at_call 34
          refine (ct2 _).mono ?_
          rintro e w7 ⟨rfl, rfl⟩
          go_wp2_with fail
          go_ret2
          rw [HOPS.out]
          exact ⟨_, rfl, nil_OwnC _ _, hB.alloc hB.size _⟩
        · obtain ⟨hm1, _, _, _, _⟩ := rdU_ok hu
          rw [Wm.len_l, ByteArray.size_extract, Nat.min_self] at hm1
          obtain ⟨hn1, _, hn2, _⟩ := rdOp_ok hop
          rw [ByteArray.size_extract, Nat.min_self] at hn1
          have hrd2 := hrd.out
          rw [hki, rdN_one hop] at hrd2
          have hrd3 := hrd2
          rw [show k - i - 1 = k - (i + 1) by omega] at hrd3
          have HRD0 := Lib.hid hrd3
          rw [ext_ext s a m2 has] at ht
          rw [ext_ext s a (m2 + n1) has] at ht2
          have hn3 := (rdT_ok ht).1
          rw [ByteArray.size_extract, Nat.min_self] at hn3
          have ct := fun W => readText_any (s.extract (a + m2) s.size) W (by rw [ByteArray.size_extract]; unfold maxLen; omega)
          rw [ht] at ct
          simp only at ct
          have ht3 : rdT (s.extract (a + m2 + n1) s.size) = (t2, n2, 0) := by rw [Nat.add_assoc]; exact ht2
          have ct2 := fun W => readText_any (s.extract (a + m2 + n1) s.size) W (by rw [ByteArray.size_extract]; unfold maxLen; omega)
          rw [ht3] at ct2
          simp only at ct2
          have HRD : Hid (rdN s k m = ((out ++ [(⟨t, t2, false⟩ : Ch)]) ++ (rdN s (k - (i + 1)) (a + (m2 + n1 + n2))).1, (rdN s (k - (i + 1)) (a + (m2 + n1 + n2))).2.1, (rdN s (k - (i + 1)) (a + (m2 + n1 + n2))).2.2)) := Lib.hid (by rw [HRD0.out, List.append_assoc]; rfl)
          clear hrd hrd2 hrd3 HRD0 hop hu ht ht2 ht3
          go_wp2_with fail
          go_at_call 33
          refine (cuA _).mono ?_
          rintro e w5 ⟨rfl, rfl⟩
          go_wp2_with fail
          go_at_call 34
          refine (ct _).mono ?_
          rintro e w6 ⟨rfl, rfl⟩
          go_wp2_with fail
          go_at_call 34
          refine (ct2 _).mono ?_
          rintro e w7 ⟨rfl, rfl⟩
          have hO5 := hown
          have k1 := new3 (wr.alloc (.cells #[.string t, .string t2, .bool false] 24)) ⟨t, t2, false⟩ (z := wr.heap.size + 1) (by simp)
          have k2 := cells_one ⟨t, t2, false⟩
          have hTs : T + 1 ≤ 1000000000000 := by omega
          have k3 : T + 1 ≤ maxLen := by unfold maxLen; omega
          have k4 : (T + 1) * 40 ≤ 140737488355328 := by omega
          have k5 : w.heap.size ≤ ((wr.alloc (.cells #[.string t, .string t2, .bool false] 24)).alloc (.cells #[.string t, .string t2, .bool false] 24)).heap.size := by have := hB.size; simp; omega
          go_wp2_with (at_builtin; refine wpList_append_own _ rfl _ _ 22 rfl w.heap.size 24 i0 (ov ch0) 3 40 Tryz.underlying22 hi hz0 hz1 hz2 rfl (by decide) _ _ _ rfl ((hO5.alloc (.cells #[.string t, .string t2, .bool false] 24)).alloc (.cells #[.string t, .string t2, .bool false] 24)) ⟨wr.heap.size + 1, 0, none⟩ 1 1 (cellsC ⟨t, t2, false⟩) rfl rfl k1 k2 k3 k4 k5 ?_)
          intro v' w6 hown6 hgrow6 _
          have hB6 : Below w.heap.size w w6 := ((hB.alloc hB.size _).alloc (by simp; have := hB.size; omega) _).grown hgrow6 (by simp; have := hB.size; omega) (fun g hg => (hO5.lt g hg).1)
          have hO6 : w6.ownsRow w.heap.size 24 3 v' (T + 1) ((out ++ [(⟨t, t2, false⟩ : Ch)]).flatMap cellsC) := by
            rw [List.flatMap_append]
            exact hown6
          clear hown6 hgrow6 hO5 hown hB
          go_wp2_with fail
          go_roundw
          case rel => exact ⟨i + 1, a + (m2 + n1 + n2), T + 1, out ++ [(⟨t, t2, false⟩ : Ch)], by omega, by go_num, by go_num, HRD.out, by rw [List.length_append, hT.out]; rfl, by omega, by omega, hO6, hB6⟩
          case measure => first | omega | (simp [intOf]; omega)
      · obtain rfl : i = k := by omega
        have hrd2 := hrd.out
        rw [Nat.sub_self] at hrd2
        simp only [rdN, List.append_nil] at hrd2
        obtain ⟨av, cv, hv⟩ : ∃ av cv, u7 = .slice av T cv := by
          rcases hown.2 with ⟨hv, h0⟩ | ⟨g, cap, cur, hv, _⟩
          · exact ⟨none, 0, by rw [hv, h0]⟩
          · exact ⟨_, _, hv⟩
        have hO : OwnC wr w.heap.size u7 out := by unfold OwnC; rw [hT.out]; exact hown
        have HO := Lib.hid hO
        clear hO hv
        by_cases ha : a < s.size
        · have hops : opsS s = ([], 5) := opsS_3 H0.out hrd2 ha
          have HOPS := Lib.hid hops
          have haz : (a : Int) < (s.size : Int) := by omega
          clear hrd hrd2 hops
          go_wp2_with fail
          go_ret2
          rw [HOPS.out]
          exact ⟨_, rfl, nil_OwnC _ _, hB⟩
        · have hops : opsS s = (out, 0) := opsS_4 H0.out hrd2 ha
          have HOPS := Lib.hid hops
          have haz : ¬ (a : Int) < (s.size : Int) := by omega
          clear hrd hrd2 hops
          go_wp2_with fail
          go_ret2
          rw [HOPS.out]
          exact ⟨_, rfl, HO.out, hB⟩
  · have hops : opsS s = ([], e0) := opsS_1 h0 he
    have HOPS := Lib.hid hops
    have ne := neZ he
    clear hops he h0
    go_enter Tryz.func6, Tryz.ntmps6
    go_wp2_with fail
    go_at_call 33
    refine (cu).mono ?_
    rintro e w1 ⟨rfl, rfl⟩
    go_wp2_with fail
    go_ret2
    rw [HOPS.out]
    exact ⟨_, rfl, nil_OwnC _ _, Below.refl _ _⟩
end Go.Proofs.YthejpojmmokinaaGreat.Tb

namespace Go.Proofs.YthejpojmmokinaaGreat.Tb
open Go.ChangeMaps (open_string shut_string)
open Go.ChangeShapes Go.WideShapes Go.ChangeAt Go.RowKit Tx
set_option linter.unusedVariables false
set_option linter.unusedSimpArgs false
set_option linter.unnecessarySimpa false
def dC {H : Type} (x : Ch) : DataW H := .agg [.lit (.string x.key.data.toList), .lit (.string x.val.data.toList), .lit (.bool x.gone)]
theorem cells9 : Tryz.prog.cellsOf 9 = 1 := by kernel_rfl
theorem cells4 : Tryz.prog.cellsOf 4 = 1 := by kernel_rfl
theorem cellsO : Tryz.prog.cellsOf 24 = 3 := by kernel_rfl
theorem op_open {H : Type} {enc : TypeId × Value → H} {w : World} {base : Nat} {spare : Nat → Bool} {held : Bool} {m : Nat} {c0 c1 c2 : Value} {y : DataW H × List MemPlace} (h : DataW.trod enc Tryz.prog w base spare held m 24 [c0, c1, c2] = some y) :
    ∃ x : Ch, c0 = .string x.key ∧ c1 = .string x.val ∧ c2 = .bool x.gone ∧ y = (dC x, []) := by
  obtain ⟨ys, m2, _, hy, _, hyl, hf⟩ := DataW.trod_struct Tryz.underlying24 h
  have h0 := hf 0 _ rfl
  have h1 := hf 1 _ rfl
  have h2 := hf 2 _ rfl
  match ys, hyl with
  | [y0, y1, y2], _ =>
    have h0 : DataW.trod enc Tryz.prog w base spare held m2 9 (([c0, c1, c2].drop 0).take (Tryz.prog.cellsOf 9)) = some y0 := h0
    have h1 : DataW.trod enc Tryz.prog w base spare held m2 9 (([c0, c1, c2].drop 1).take (Tryz.prog.cellsOf 9)) = some y1 := h1
    have h2 : DataW.trod enc Tryz.prog w base spare held m2 4 (([c0, c1, c2].drop 2).take (Tryz.prog.cellsOf 4)) = some y2 := h2
    rw [cells9] at h0 h1
    rw [cells4] at h2
    obtain ⟨k, hk, hx0, hl0⟩ := DataW.trod_string Tryz.underlying9 h0
    obtain ⟨p, hp, hx1, hl1⟩ := DataW.trod_string Tryz.underlying9 h1
    obtain ⟨n, hn, hx2⟩ := DataW.trod_bool Tryz.underlying4 h2
    simp at hk hp hn
    refine ⟨⟨k, p, n⟩, hk, hp, hn, ?_⟩
    rw [hy, hx0, hx1, hx2]
    rfl
theorem op_at {H : Type} {enc : TypeId × Value → H} {w : World} {base : Nat} {spare : Nat → Bool} {held : Bool} {m : Nat} {a : Addr} {cs' : List Value} {y : DataW H × List MemPlace} (hc : w.cells? base a 3 = some cs') (h : DataW.trod enc Tryz.prog w base spare held m 24 cs' = some y) :
    ∃ x : Ch, w.cell? a = some (.string x.key) ∧ w.cell? (a.add 1) = some (.string x.val) ∧ w.cell? (a.add 2) = some (.bool x.gone) ∧ y = (dC x, []) := by
  obtain ⟨_, hcl, hat⟩ := World.cells?_some hc
  match cs', hcl with
  | [c0, c1, c2], _ =>
    obtain ⟨x, h0, h1, h2, hy⟩ := op_open h
    have a0 := hat 0 (by omega)
    have a1 := hat 1 (by omega)
    have a2 := hat 2 (by omega)
    refine ⟨x, ?_, ?_, ?_, hy⟩
    · have e : a.add 0 = a := by simp [Addr.add]
      rw [e] at a0
      rw [a0, h0]
      rfl
    · rw [a1, h1]; rfl
    · rw [a2, h2]; rfl
theorem open_ops {H : Type} {enc : TypeId × Value → H} {w : World} {base : Nat} {spare : Nat → Bool} {held : Bool} {fuel : Nat} {cs : List Value} {x : DataW H × List MemPlace} (h : DataW.trod enc Tryz.prog w base spare held fuel 22 cs = some x) :
    (cs = [.slice none 0 0] ∧ x = (.nil, [])) ∨ ∃ (a : Addr) (len cap : Nat) (l : List Ch) (rest : List (DataW H)) (pl : List MemPlace), cs = [.slice (some a) len cap] ∧ len ≤ cap ∧ cap ≤ maxLen ∧ x = (.slice (l.map dC) rest, pl) ∧ Opl w (some a) len l := by
  rcases Go.Deep.open_slice Tryz.underlying22 h with h0 | ⟨a, len, cap, m, n, D, Pl, rfl, hb, hl, hm, hmm, hx, hi⟩
  · exact .inl h0
  · right
    have hlm : len ≤ m := by
      rw [hmm]
      split
      · exact hl
      · exact Nat.le_refl _
    have hex : ∀ i, i < len → ∃ e : Ch, w.cell? (a.add (i * 3)) = some (.string e.key) ∧ w.cell? ((a.add (i * 3)).add 1) = some (.string e.val) ∧ w.cell? ((a.add (i * 3)).add 2) = some (.bool e.gone) ∧ D i = dC e := by
      intro i him
      obtain ⟨cs', hc, ht⟩ := hi i (by omega)
      rw [cellsO] at hc
      obtain ⟨e, h1, h2, h3, h5⟩ := op_at hc ht
      exact ⟨e, h1, h2, h3, congrArg Prod.fst h5⟩
    have : Inhabited Ch := ⟨ch0⟩
    obtain ⟨X, hX⟩ := Go.Deep.choose_lt hex
    have hget : ∀ k y, ((List.range len).map X)[k]? = some y → k < len ∧ y = X k := by
      intro k y hk
      have hk2 := (List.getElem?_eq_some_iff.1 hk).1
      simp at hk2
      rw [List.getElem?_map, List.getElem?_range hk2] at hk
      injection hk with hk
      exact ⟨hk2, hk.symm⟩
    refine ⟨a, len, cap, (List.range len).map X, (List.range (m - len)).map fun j => D (len + j), x.2, rfl, hl, hm, ?_, ⟨by simp, ?_⟩⟩
    · rw [hx]
      refine Prod.ext ?_ rfl
      show DataW.slice _ _ = DataW.slice _ _
      congr 1
      rw [List.map_map]
      refine List.map_congr_left (fun i hi' => ?_)
      exact (hX i (List.mem_range.1 hi')).2.2.2
    · by_cases h0 : len = 0
      · exact .inl h0
      · right
        obtain ⟨b, off, spot⟩ := a
        have hc0 := (hX 0 (by omega)).1
        rw [Nat.zero_mul] at hc0
        have hspot : spot = none := by simpa [Addr.add] using World.cell?_spot hc0
        subst hspot
        refine ⟨b, off, rfl, ?_, fun k y hk => ?_⟩
        · have := World.block_lt_of_cell? w _ hc0
          simpa [Addr.add] using this
        · obtain ⟨hk2, rfl⟩ := hget k y hk
          obtain ⟨h1, h2, h3, _⟩ := hX k hk2
          rw [add_plain] at h1 h2 h3
          rw [add_plain] at h2 h3
          exact ⟨h1, h2, h3⟩
theorem bulk_op {H : Type} (x : Ch) : Rows.uptoBulk (dC (H := H) x) = x.key.size + x.val.size + 4 := by
  have e : Rows.uptoBulk (dC (H := H) x) = (x.key.data.toList.length + 1) + ((x.val.data.toList.length + 1) + (1 + 0)) + 1 := rfl
  rw [e, Wm.len_l, Wm.len_l]
  omega
theorem bulk_ops {H : Type} : ∀ l : List Ch, wt l ≤ 10 * Rows.uptoBulkAll (l.map (dC (H := H)))
  | [] => Nat.zero_le _
  | y :: l => by
    have h1 := bulk_ops (H := H) l
    have e : Rows.uptoBulkAll ((y :: l).map (dC (H := H))) = Rows.uptoBulk (dC (H := H) y) + Rows.uptoBulkAll (l.map (dC (H := H))) := rfl
    rw [e, bulk_op, wt_cons]
    omega
theorem arg_ops {H : Type} {enc : TypeId × Value → H} {w : World} {base : Nat} {spare : Nat → Bool} {held : Bool} {a : Option Addr} {n c : Nat} {d : DataW H} {p : List MemPlace} (h : DataW.Trod enc Tryz.prog w base spare held 22 (.slice a n c) d p) :
    ∃ l : List Ch, Opl w a n l ∧ wt l ≤ 10 * Rows.uptoBulk d ∧ n ≤ c ∧ c ≤ 9223372036854775807 := by
  obtain ⟨fuel, hf⟩ := h
  rcases open_ops hf with ⟨hcs, _⟩ | ⟨x, len, cap, l, rest, pl, hcs, hlc, hcm, hx, he⟩
  · simp [Value.cells] at hcs
    obtain ⟨rfl, rfl, rfl⟩ := hcs
    exact ⟨[], ⟨rfl, .inl rfl⟩, Nat.zero_le _, by omega, by omega⟩
  · simp [Value.cells] at hcs
    obtain ⟨rfl, rfl, rfl⟩ := hcs
    have hd : d = .slice (l.map dC) rest := congrArg Prod.fst hx
    have e : Rows.uptoBulk d = Rows.uptoBulkAll (l.map (dC (H := H))) + Rows.uptoBulkAll rest + 1 := by rw [hd]; rfl
    have h1 := bulk_ops (H := H) l
    unfold maxLen at hcm
    exact ⟨l, he, by omega, hlc, by omega⟩
end Go.Proofs.YthejpojmmokinaaGreat.Tb
