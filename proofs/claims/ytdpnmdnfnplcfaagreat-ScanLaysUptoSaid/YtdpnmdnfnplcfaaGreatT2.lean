/- Texts of this seat, one behind the other. -/
import Derived.Test.YtdpnmdnfnplcfaaGreatT1
import Derived.Maps.AppendAt
import Derived.WalkKit
import Derived.Laws.BytesArg
import Derived.Test.YtdpnmdnfnplcfaaGreatRows
import Derived.WalkLawsBesides
import Derived.WalkSpells
import Derived.LoopTactic
import Derived.Lib.Hide
import Derived.Laws.IdiomStrings
import Derived.RegionTactic
import Derived.ChangeAlike
import Derived.Deep.RegionWith
namespace Go.Proofs.YtdpnmdnfnplcfaaGreat.Dk
open Go.RowKit Tx Pm
set_option linter.unusedVariables false
structure Box (w : World) (bx : Nat) (x : It) : Prop where
  blk : w.heap[bx]? = some (.cells #[.string x.path, .bool x.dir, .string x.data, .string x.kept, .bool x.loose, .bool x.anew, .int .i64 x.stamp] 76 (0, 0))
theorem Box.cell {w : World} {bx : Nat} {x : It} (h : Box w bx x) : w.cell? ⟨bx, 0, none⟩ = some (.string x.path) ∧ w.cell? ⟨bx, 1, none⟩ = some (.bool x.dir) ∧ w.cell? ⟨bx, 2, none⟩ = some (.string x.data) ∧ w.cell? ⟨bx, 3, none⟩ = some (.string x.kept) ∧
    w.cell? ⟨bx, 4, none⟩ = some (.bool x.loose) ∧ w.cell? ⟨bx, 5, none⟩ = some (.bool x.anew) ∧ w.cell? ⟨bx, 6, none⟩ = some (.int .i64 x.stamp) := by
  have hb := h.blk
  refine ⟨?_, ?_, ?_, ?_, ?_, ?_, ?_⟩ <;> · unfold World.cell?; rw [hb]; rfl
theorem Box.warm {w : World} {bx : Nat} {x : It} (h : Box w bx x) (k : Nat) : w.frozen? ⟨bx, k, none⟩ = false := by
  unfold World.frozen?
  rw [h.blk]
  simp
theorem Box.below {w w1 : World} {bx : Nat} {x : It} (h : Box w bx x) (hb : Below w.heap.size w w1) : Box w1 bx x := ⟨(hb.block bx (Array.getElem?_eq_some_iff.1 h.blk).1).trans h.blk⟩
def Shows (b : Nat) (s : St) (g n c k : Nat) (vR : Value) (x : It) : Prop := ∀ W, At W b s (.slice (some ⟨g, 0, none⟩) n c) vR → W.cell? ⟨b, 0, none⟩ = some (.slice (some ⟨g, 0, none⟩) n c) ∧
  W.cell? ⟨g, k * 7, none⟩ = some (.string x.path) ∧ W.cell? ⟨g, k * 7 + 1, none⟩ = some (.bool x.dir) ∧ W.cell? ⟨g, k * 7 + 2, none⟩ = some (.string x.data) ∧ W.cell? ⟨g, k * 7 + 3, none⟩ = some (.string x.kept) ∧
  W.cell? ⟨g, k * 7 + 4, none⟩ = some (.bool x.loose) ∧ W.cell? ⟨g, k * 7 + 5, none⟩ = some (.bool x.anew) ∧ W.cell? ⟨g, k * 7 + 6, none⟩ = some (.int .i64 x.stamp)
set_option maxRecDepth 100000 in
set_option maxHeartbeats 2000000 in
theorem getAppend (ops : Array Oper) (hops : ops = (Rg.opsOf Tryz.f36 8)) (id : Nat) (b : Nat) (s : St) (g n c k : Nat) (vR : Value) (p XP XX XK : ByteArray) (XD XL XA : Bool) (XS : Nat) {u2 u3 u4 u5 u6 u7 u8 u9 u10 u11 u12 u13 u14 u15 u16 u17 u18 u19 u20 u21 u22 u23 u24 u25 u26 u27 u28 u29 u30 u31 u32 u33 u34 u35 u36 u37 u38 u39 u40 u41 u42 u43 u44 u45 : Value} (w : World)
    (h : At w b s (.slice (some ⟨g, 0, none⟩) n c) vR) (hsh : Shows b s g n c k vR ⟨XP, XD, XX, XK, XL, XA, XS⟩) (hlt : k < n) (hnm : n ≤ 1000000000000)
    (cp : ∀ W, At W b s (.slice (some ⟨g, 0, none⟩) n c) vR → Calls Tryz.prog 73 #[.pointer (some ⟨b, 0, none⟩), .string p] W fun e w' => e = .returned (.int .i64 (k : Int)) ∧ W = w') :
    (Code.region id ops true).wp Tryz.prog (Rg.Only fun a' w' => a' = ⟨#[(.pointer (some ⟨b, 0, none⟩)), (.string p), u2, u3, u4, u5, u6, u7, (.pointer (some ⟨w.drew.heap.size, 0, none⟩)), u9, u10, u11, u12, u13, u14, u15, u16, u17, u18, u19, u20, u21, u22, u23, u24, (.pointer (some ⟨b, 0, none⟩)), (.pointer (some ⟨b, 0, none⟩)), (.pointer (some ⟨b, 0, none⟩)), (.slice (some ⟨g, 0, none⟩) n c), (.pointer (some ⟨b, 0, none⟩)), (.string p), (.int .i64 (k : Int)), (.pointer (some ⟨g, k * 7, none⟩)), (.agg #[.string XP, .bool XD, .string XX, .string XK, .bool XL, .bool XA, .int .i64 XS]), u34, u35, u36, u37, u38, u39, u40, u41, u42, u43, u44, u45], []⟩ ∧ w' = w.drew.alloc (.cells #[.string XP, .bool XD, .string XX, .string XK, .bool XL, .bool XA, .int .i64 XS] 76)) ⟨#[(.pointer (some ⟨b, 0, none⟩)), (.string p), u2, u3, u4, u5, u6, u7, u8, u9, u10, u11, u12, u13, u14, u15, u16, u17, u18, u19, u20, u21, u22, u23, u24, u25, u26, u27, u28, u29, u30, u31, u32, u33, u34, u35, u36, u37, u38, u39, u40, u41, u42, u43, u44, u45], []⟩ w := by
  subst hops
  have hNS : Region.noSelect (Rg.opsOf Tryz.f36 8) = true := by kernel_rfl
  have h0 := h.below (Below.refl _ _).drew
  refine wp_region_held_drew (S := fun W => At W b s (.slice (some ⟨g, 0, none⟩) n c) vR) (by kernel_rfl) h0 (fun hHeld => ?_)
  rw [show (Rg.opsOf Tryz.f36 8).size = 11 by kernel_rfl]
  refine Rg.take (ops := (Rg.opsOf Tryz.f36 8)) 0 (some 25) ((.pointer (some ⟨b, 0, none⟩))) hNS (by kernel_rfl) (by kernel_rfl) (by kernel_rfl) (by kernel_rfl) (by kernel_rfl) hHeld (Rg.y_move (x := (Operand.tmp 0)) (Or.inl (by kernel_rfl)) (by kernel_rfl)) ?_
  refine Rg.take (ops := (Rg.opsOf Tryz.f36 8)) 1 (some 26) ((.pointer (some ⟨b, 0, none⟩))) hNS (by kernel_rfl) (by kernel_rfl) (by kernel_rfl) (by kernel_rfl) (by kernel_rfl) hHeld (Rg.y_nil (x := (Operand.tmp 25)) (by kernel_rfl) (by kernel_rfl)) ?_
  refine Rg.take (ops := (Rg.opsOf Tryz.f36 8)) 2 (some 27) ((.pointer (some ⟨b, 0, none⟩))) hNS (by kernel_rfl) (by kernel_rfl) (by kernel_rfl) (by kernel_rfl) (by kernel_rfl) hHeld (Rg.y_field (T := 68) (k := 0) (x := (Operand.tmp 26)) (vx := (.pointer (some ⟨b, 0, none⟩))) (by kernel_rfl) (by kernel_rfl) ?_) ?_
  · (intro w hSw; go_simp)
  refine Rg.take (ops := (Rg.opsOf Tryz.f36 8)) 3 (some 28) ((.slice (some ⟨g, 0, none⟩) n c)) hNS (by kernel_rfl) (by kernel_rfl) (by kernel_rfl) (by kernel_rfl) (by kernel_rfl) hHeld (Rg.y_load (T := 65) (x := (Operand.tmp 27)) (vx := (.pointer (some ⟨b, 0, none⟩))) (by kernel_rfl) (by kernel_rfl) ?_) ?_
  · (intro w hSw; obtain ⟨e0, d0, d1, d2, d3, d4, d5, d6⟩ := hsh _ hSw; simp only at d0 d1 d2 d3 d4 d5 d6; clear hSw; go_simp)
  refine Rg.take (ops := (Rg.opsOf Tryz.f36 8)) 4 (some 29) ((.pointer (some ⟨b, 0, none⟩))) hNS (by kernel_rfl) (by kernel_rfl) (by kernel_rfl) (by kernel_rfl) (by kernel_rfl) hHeld (Rg.y_move (x := (Operand.tmp 0)) (Or.inl (by kernel_rfl)) (by kernel_rfl)) ?_
  refine Rg.take (ops := (Rg.opsOf Tryz.f36 8)) 5 (some 30) ((.string p)) hNS (by kernel_rfl) (by kernel_rfl) (by kernel_rfl) (by kernel_rfl) (by kernel_rfl) hHeld (Rg.y_move (x := (Operand.tmp 1)) (Or.inl (by kernel_rfl)) (by kernel_rfl)) ?_
  refine Rg.two (ops := (Rg.opsOf Tryz.f36 8)) (i := 6) (j := 9) (by kernel_rfl) ?_ ?_
  · refine Rg.op_call (ops := (Rg.opsOf Tryz.f36 8)) (fn := Tryz.f73) (xs := #[Operand.tmp 29, Operand.tmp 30]) (ats := #[25, 9]) 6 (some 31) 73 #[(.pointer (some ⟨b, 0, none⟩)), (.string p)] (by kernel_rfl) (by kernel_rfl) (by kernel_rfl) (by kernel_rfl) Tryz.func73 (by kernel_rfl) (by kernel_rfl) (by kernel_rfl) ?_
    refine (cp _ hHeld).mono ?_
    rintro e w5 ⟨rfl, rfl⟩
    refine ⟨_, rfl, hHeld, fun hHeld => ?_⟩
    refine Rg.take (ops := (Rg.opsOf Tryz.f36 8)) 7 (some 32) ((.pointer (some ⟨g, k * 7, none⟩))) hNS (by kernel_rfl) (by kernel_rfl) (by kernel_rfl) (by kernel_rfl) (by kernel_rfl) hHeld (Rg.y_at (T := 65) (x := (Operand.tmp 28)) (y := (Operand.tmp 31)) (vx := (.slice (some ⟨g, 0, none⟩) n c)) (vy := (.int .i64 (k : Int))) (by kernel_rfl) (by kernel_rfl) (by kernel_rfl) ?_) ?_
    · (intro w hSw; clear hSw; go_simp <;> (intros; exfalso; omega))
    refine Rg.take (ops := (Rg.opsOf Tryz.f36 8)) 8 (some 33) ((.agg #[.string XP, .bool XD, .string XX, .string XK, .bool XL, .bool XA, .int .i64 XS])) hNS (by kernel_rfl) (by kernel_rfl) (by kernel_rfl) (by kernel_rfl) (by kernel_rfl) hHeld (Rg.y_load (T := 76) (x := (Operand.tmp 32)) (vx := (.pointer (some ⟨g, k * 7, none⟩))) (by kernel_rfl) (by kernel_rfl) ?_) ?_
    · (intro w hSw; obtain ⟨e0, d0, d1, d2, d3, d4, d5, d6⟩ := hsh _ hSw; simp only at d0 d1 d2 d3 d4 d5 d6; clear hSw; go_simp)
    refine Rg.one (ops := (Rg.opsOf Tryz.f36 8)) (i := 9) (by kernel_rfl) ?_
    refine Rg.op_alloc (ops := (Rg.opsOf Tryz.f36 8)) 9 (some 8) (T := 76) (v := (.pointer (some ⟨w.drew.heap.size, 0, none⟩))) (w1 := w.drew.alloc (.cells #[.string ByteArray.empty, .bool false, .string ByteArray.empty, .string ByteArray.empty, .bool false, .bool false, .int .i64 0] 76)) (by kernel_rfl) (by kernel_rfl) (by kernel_rfl) (by kernel_rfl) ?_ (hHeld.below ((Below.refl _ _).alloc (Nat.le_refl _) _)) (fun hHeld => ?_)
    · (go_simp <;> rfl)
    refine Rg.store (ops := (Rg.opsOf Tryz.f36 8)) 10 (T := 76) (x := (Operand.tmp 8)) (y := (Operand.tmp 33)) (vx := (.pointer (some ⟨w.drew.heap.size, 0, none⟩))) (vy := (.agg #[.string XP, .bool XD, .string XX, .string XK, .bool XL, .bool XA, .int .i64 XS])) (w1 := w.drew.alloc (.cells #[.string XP, .bool XD, .string XX, .string XK, .bool XL, .bool XA, .int .i64 XS] 76)) (by kernel_rfl) (by kernel_rfl) (by kernel_rfl) (by kernel_rfl) (by kernel_rfl) (by kernel_rfl) (by kernel_rfl) ?_ (h0.below ((Below.refl _ _).alloc (Nat.le_refl _) _)) (fun hHeld => ?_)
    · go_simp
    refine Rg.done (ops := (Rg.opsOf Tryz.f36 8)) (by kernel_rfl) ?_
    exact ⟨by kernel_rfl, rfl⟩
  · refine Rg.op_alloc (ops := (Rg.opsOf Tryz.f36 8)) 9 (some 8) (T := 76) (v := (.pointer (some ⟨w.drew.heap.size, 0, none⟩))) (w1 := w.drew.alloc (.cells #[.string ByteArray.empty, .bool false, .string ByteArray.empty, .string ByteArray.empty, .bool false, .bool false, .int .i64 0] 76)) (by kernel_rfl) (by kernel_rfl) (by kernel_rfl) (by kernel_rfl) ?_ (hHeld.below ((Below.refl _ _).alloc (Nat.le_refl _) _)) (fun hHeld => ?_)
    · (go_simp <;> rfl)
    refine Rg.call (ops := (Rg.opsOf Tryz.f36 8)) (fn := Tryz.f73) (xs := #[Operand.tmp 29, Operand.tmp 30]) (ats := #[25, 9]) 6 (some 31) 73 #[(.pointer (some ⟨b, 0, none⟩)), (.string p)] (by kernel_rfl) (by kernel_rfl) (by kernel_rfl) (by kernel_rfl) (by kernel_rfl) Tryz.func73 (by kernel_rfl) (by kernel_rfl) (by kernel_rfl) ?_
    refine (cp _ hHeld).mono ?_
    rintro e w5 ⟨rfl, rfl⟩
    refine ⟨_, rfl, hHeld, fun hHeld => ?_⟩
    refine Rg.take (ops := (Rg.opsOf Tryz.f36 8)) 7 (some 32) ((.pointer (some ⟨g, k * 7, none⟩))) hNS (by kernel_rfl) (by kernel_rfl) (by kernel_rfl) (by kernel_rfl) (by kernel_rfl) hHeld (Rg.y_at (T := 65) (x := (Operand.tmp 28)) (y := (Operand.tmp 31)) (vx := (.slice (some ⟨g, 0, none⟩) n c)) (vy := (.int .i64 (k : Int))) (by kernel_rfl) (by kernel_rfl) (by kernel_rfl) ?_) ?_
    · (intro w hSw; clear hSw; go_simp <;> (intros; exfalso; omega))
    refine Rg.take (ops := (Rg.opsOf Tryz.f36 8)) 8 (some 33) ((.agg #[.string XP, .bool XD, .string XX, .string XK, .bool XL, .bool XA, .int .i64 XS])) hNS (by kernel_rfl) (by kernel_rfl) (by kernel_rfl) (by kernel_rfl) (by kernel_rfl) hHeld (Rg.y_load (T := 76) (x := (Operand.tmp 32)) (vx := (.pointer (some ⟨g, k * 7, none⟩))) (by kernel_rfl) (by kernel_rfl) ?_) ?_
    · (intro w hSw; obtain ⟨e0, d0, d1, d2, d3, d4, d5, d6⟩ := hsh _ hSw; simp only at d0 d1 d2 d3 d4 d5 d6; clear hSw; go_simp)
    refine Rg.store (ops := (Rg.opsOf Tryz.f36 8)) 10 (T := 76) (x := (Operand.tmp 8)) (y := (Operand.tmp 33)) (vx := (.pointer (some ⟨w.drew.heap.size, 0, none⟩))) (vy := (.agg #[.string XP, .bool XD, .string XX, .string XK, .bool XL, .bool XA, .int .i64 XS])) (w1 := w.drew.alloc (.cells #[.string XP, .bool XD, .string XX, .string XK, .bool XL, .bool XA, .int .i64 XS] 76)) (by kernel_rfl) (by kernel_rfl) (by kernel_rfl) (by kernel_rfl) (by kernel_rfl) (by kernel_rfl) (by kernel_rfl) ?_ (h0.below ((Below.refl _ _).alloc (Nat.le_refl _) _)) (fun hHeld => ?_)
    · go_simp
    refine Rg.done (ops := (Rg.opsOf Tryz.f36 8)) (by kernel_rfl) ?_
    exact ⟨by kernel_rfl, rfl⟩
set_option maxRecDepth 100000 in
set_option maxHeartbeats 2000000 in
theorem getRename (ops : Array Oper) (hops : ops = (Rg.opsOf Tryz.f34 11)) (id : Nat) (b : Nat) (s : St) (g n c k : Nat) (vR : Value) (p XP XX XK : ByteArray) (XD XL XA : Bool) (XS : Nat) {u2 u3 u4 u5 u6 u7 u8 u9 u10 u11 u12 u13 u14 u15 u16 u17 u18 u19 u20 u21 u22 u23 u24 u25 u26 u27 u28 u29 u30 u31 u32 u33 u34 u35 u36 u37 u38 u39 u40 u41 u42 u43 u44 u45 u46 u47 u48 u49 u50 u51 u52 u53 u54 u55 u56 u57 u58 u59 u60 u61 u62 u63 u64 u65 u66 u67 u68 u69 u70 u71 u72 u73 u74 u75 u76 u77 u78 u79 u80 u81 u82 u83 u84 u85 u86 u87 u88 u89 u90 u91 u92 u93 u94 u95 u96 u97 u98 u99 u100 : Value} (w : World)
    (h : At w b s (.slice (some ⟨g, 0, none⟩) n c) vR) (hsh : Shows b s g n c k vR ⟨XP, XD, XX, XK, XL, XA, XS⟩) (hlt : k < n) (hnm : n ≤ 1000000000000)
    (cp : ∀ W, At W b s (.slice (some ⟨g, 0, none⟩) n c) vR → Calls Tryz.prog 73 #[.pointer (some ⟨b, 0, none⟩), .string p] W fun e w' => e = .returned (.int .i64 (k : Int)) ∧ W = w') :
    (Code.region id ops true).wp Tryz.prog (Rg.Only fun a' w' => a' = ⟨#[(.pointer (some ⟨b, 0, none⟩)), (.string p), u2, u3, u4, u5, u6, u7, (.pointer (some ⟨w.drew.heap.size, 0, none⟩)), u9, u10, u11, u12, u13, u14, u15, u16, u17, u18, u19, u20, u21, u22, u23, u24, u25, u26, u27, u28, u29, u30, u31, u32, u33, u34, u35, u36, u37, u38, u39, u40, u41, (.pointer (some ⟨b, 0, none⟩)), (.pointer (some ⟨b, 0, none⟩)), (.pointer (some ⟨b, 0, none⟩)), (.slice (some ⟨g, 0, none⟩) n c), (.pointer (some ⟨b, 0, none⟩)), (.string p), (.int .i64 (k : Int)), (.pointer (some ⟨g, k * 7, none⟩)), (.agg #[.string XP, .bool XD, .string XX, .string XK, .bool XL, .bool XA, .int .i64 XS]), u51, u52, u53, u54, u55, u56, u57, u58, u59, u60, u61, u62, u63, u64, u65, u66, u67, u68, u69, u70, u71, u72, u73, u74, u75, u76, u77, u78, u79, u80, u81, u82, u83, u84, u85, u86, u87, u88, u89, u90, u91, u92, u93, u94, u95, u96, u97, u98, u99, u100], []⟩ ∧ w' = w.drew.alloc (.cells #[.string XP, .bool XD, .string XX, .string XK, .bool XL, .bool XA, .int .i64 XS] 76)) ⟨#[(.pointer (some ⟨b, 0, none⟩)), (.string p), u2, u3, u4, u5, u6, u7, u8, u9, u10, u11, u12, u13, u14, u15, u16, u17, u18, u19, u20, u21, u22, u23, u24, u25, u26, u27, u28, u29, u30, u31, u32, u33, u34, u35, u36, u37, u38, u39, u40, u41, u42, u43, u44, u45, u46, u47, u48, u49, u50, u51, u52, u53, u54, u55, u56, u57, u58, u59, u60, u61, u62, u63, u64, u65, u66, u67, u68, u69, u70, u71, u72, u73, u74, u75, u76, u77, u78, u79, u80, u81, u82, u83, u84, u85, u86, u87, u88, u89, u90, u91, u92, u93, u94, u95, u96, u97, u98, u99, u100], []⟩ w := by
  subst hops
  have hNS : Region.noSelect (Rg.opsOf Tryz.f34 11) = true := by kernel_rfl
  have h0 := h.below (Below.refl _ _).drew
  refine wp_region_held_drew (S := fun W => At W b s (.slice (some ⟨g, 0, none⟩) n c) vR) (by kernel_rfl) h0 (fun hHeld => ?_)
  rw [show (Rg.opsOf Tryz.f34 11).size = 11 by kernel_rfl]
  refine Rg.take (ops := (Rg.opsOf Tryz.f34 11)) 0 (some 42) ((.pointer (some ⟨b, 0, none⟩))) hNS (by kernel_rfl) (by kernel_rfl) (by kernel_rfl) (by kernel_rfl) (by kernel_rfl) hHeld (Rg.y_move (x := (Operand.tmp 0)) (Or.inl (by kernel_rfl)) (by kernel_rfl)) ?_
  refine Rg.take (ops := (Rg.opsOf Tryz.f34 11)) 1 (some 43) ((.pointer (some ⟨b, 0, none⟩))) hNS (by kernel_rfl) (by kernel_rfl) (by kernel_rfl) (by kernel_rfl) (by kernel_rfl) hHeld (Rg.y_nil (x := (Operand.tmp 42)) (by kernel_rfl) (by kernel_rfl)) ?_
  refine Rg.take (ops := (Rg.opsOf Tryz.f34 11)) 2 (some 44) ((.pointer (some ⟨b, 0, none⟩))) hNS (by kernel_rfl) (by kernel_rfl) (by kernel_rfl) (by kernel_rfl) (by kernel_rfl) hHeld (Rg.y_field (T := 68) (k := 0) (x := (Operand.tmp 43)) (vx := (.pointer (some ⟨b, 0, none⟩))) (by kernel_rfl) (by kernel_rfl) ?_) ?_
  · (intro w hSw; go_simp)
  refine Rg.take (ops := (Rg.opsOf Tryz.f34 11)) 3 (some 45) ((.slice (some ⟨g, 0, none⟩) n c)) hNS (by kernel_rfl) (by kernel_rfl) (by kernel_rfl) (by kernel_rfl) (by kernel_rfl) hHeld (Rg.y_load (T := 65) (x := (Operand.tmp 44)) (vx := (.pointer (some ⟨b, 0, none⟩))) (by kernel_rfl) (by kernel_rfl) ?_) ?_
  · (intro w hSw; obtain ⟨e0, d0, d1, d2, d3, d4, d5, d6⟩ := hsh _ hSw; simp only at d0 d1 d2 d3 d4 d5 d6; clear hSw; go_simp)
  refine Rg.take (ops := (Rg.opsOf Tryz.f34 11)) 4 (some 46) ((.pointer (some ⟨b, 0, none⟩))) hNS (by kernel_rfl) (by kernel_rfl) (by kernel_rfl) (by kernel_rfl) (by kernel_rfl) hHeld (Rg.y_move (x := (Operand.tmp 0)) (Or.inl (by kernel_rfl)) (by kernel_rfl)) ?_
  refine Rg.take (ops := (Rg.opsOf Tryz.f34 11)) 5 (some 47) ((.string p)) hNS (by kernel_rfl) (by kernel_rfl) (by kernel_rfl) (by kernel_rfl) (by kernel_rfl) hHeld (Rg.y_move (x := (Operand.tmp 1)) (Or.inl (by kernel_rfl)) (by kernel_rfl)) ?_
  refine Rg.two (ops := (Rg.opsOf Tryz.f34 11)) (i := 6) (j := 9) (by kernel_rfl) ?_ ?_
  · refine Rg.op_call (ops := (Rg.opsOf Tryz.f34 11)) (fn := Tryz.f73) (xs := #[Operand.tmp 46, Operand.tmp 47]) (ats := #[25, 9]) 6 (some 48) 73 #[(.pointer (some ⟨b, 0, none⟩)), (.string p)] (by kernel_rfl) (by kernel_rfl) (by kernel_rfl) (by kernel_rfl) Tryz.func73 (by kernel_rfl) (by kernel_rfl) (by kernel_rfl) ?_
    refine (cp _ hHeld).mono ?_
    rintro e w5 ⟨rfl, rfl⟩
    refine ⟨_, rfl, hHeld, fun hHeld => ?_⟩
    refine Rg.take (ops := (Rg.opsOf Tryz.f34 11)) 7 (some 49) ((.pointer (some ⟨g, k * 7, none⟩))) hNS (by kernel_rfl) (by kernel_rfl) (by kernel_rfl) (by kernel_rfl) (by kernel_rfl) hHeld (Rg.y_at (T := 65) (x := (Operand.tmp 45)) (y := (Operand.tmp 48)) (vx := (.slice (some ⟨g, 0, none⟩) n c)) (vy := (.int .i64 (k : Int))) (by kernel_rfl) (by kernel_rfl) (by kernel_rfl) ?_) ?_
    · (intro w hSw; clear hSw; go_simp <;> (intros; exfalso; omega))
    refine Rg.take (ops := (Rg.opsOf Tryz.f34 11)) 8 (some 50) ((.agg #[.string XP, .bool XD, .string XX, .string XK, .bool XL, .bool XA, .int .i64 XS])) hNS (by kernel_rfl) (by kernel_rfl) (by kernel_rfl) (by kernel_rfl) (by kernel_rfl) hHeld (Rg.y_load (T := 76) (x := (Operand.tmp 49)) (vx := (.pointer (some ⟨g, k * 7, none⟩))) (by kernel_rfl) (by kernel_rfl) ?_) ?_
    · (intro w hSw; obtain ⟨e0, d0, d1, d2, d3, d4, d5, d6⟩ := hsh _ hSw; simp only at d0 d1 d2 d3 d4 d5 d6; clear hSw; go_simp)
    refine Rg.one (ops := (Rg.opsOf Tryz.f34 11)) (i := 9) (by kernel_rfl) ?_
    refine Rg.op_alloc (ops := (Rg.opsOf Tryz.f34 11)) 9 (some 8) (T := 76) (v := (.pointer (some ⟨w.drew.heap.size, 0, none⟩))) (w1 := w.drew.alloc (.cells #[.string ByteArray.empty, .bool false, .string ByteArray.empty, .string ByteArray.empty, .bool false, .bool false, .int .i64 0] 76)) (by kernel_rfl) (by kernel_rfl) (by kernel_rfl) (by kernel_rfl) ?_ (hHeld.below ((Below.refl _ _).alloc (Nat.le_refl _) _)) (fun hHeld => ?_)
    · (go_simp <;> rfl)
    refine Rg.store (ops := (Rg.opsOf Tryz.f34 11)) 10 (T := 76) (x := (Operand.tmp 8)) (y := (Operand.tmp 50)) (vx := (.pointer (some ⟨w.drew.heap.size, 0, none⟩))) (vy := (.agg #[.string XP, .bool XD, .string XX, .string XK, .bool XL, .bool XA, .int .i64 XS])) (w1 := w.drew.alloc (.cells #[.string XP, .bool XD, .string XX, .string XK, .bool XL, .bool XA, .int .i64 XS] 76)) (by kernel_rfl) (by kernel_rfl) (by kernel_rfl) (by kernel_rfl) (by kernel_rfl) (by kernel_rfl) (by kernel_rfl) ?_ (h0.below ((Below.refl _ _).alloc (Nat.le_refl _) _)) (fun hHeld => ?_)
    · go_simp
    refine Rg.done (ops := (Rg.opsOf Tryz.f34 11)) (by kernel_rfl) ?_
    exact ⟨by kernel_rfl, rfl⟩
  · refine Rg.op_alloc (ops := (Rg.opsOf Tryz.f34 11)) 9 (some 8) (T := 76) (v := (.pointer (some ⟨w.drew.heap.size, 0, none⟩))) (w1 := w.drew.alloc (.cells #[.string ByteArray.empty, .bool false, .string ByteArray.empty, .string ByteArray.empty, .bool false, .bool false, .int .i64 0] 76)) (by kernel_rfl) (by kernel_rfl) (by kernel_rfl) (by kernel_rfl) ?_ (hHeld.below ((Below.refl _ _).alloc (Nat.le_refl _) _)) (fun hHeld => ?_)
    · (go_simp <;> rfl)
    refine Rg.call (ops := (Rg.opsOf Tryz.f34 11)) (fn := Tryz.f73) (xs := #[Operand.tmp 46, Operand.tmp 47]) (ats := #[25, 9]) 6 (some 48) 73 #[(.pointer (some ⟨b, 0, none⟩)), (.string p)] (by kernel_rfl) (by kernel_rfl) (by kernel_rfl) (by kernel_rfl) (by kernel_rfl) Tryz.func73 (by kernel_rfl) (by kernel_rfl) (by kernel_rfl) ?_
    refine (cp _ hHeld).mono ?_
    rintro e w5 ⟨rfl, rfl⟩
    refine ⟨_, rfl, hHeld, fun hHeld => ?_⟩
    refine Rg.take (ops := (Rg.opsOf Tryz.f34 11)) 7 (some 49) ((.pointer (some ⟨g, k * 7, none⟩))) hNS (by kernel_rfl) (by kernel_rfl) (by kernel_rfl) (by kernel_rfl) (by kernel_rfl) hHeld (Rg.y_at (T := 65) (x := (Operand.tmp 45)) (y := (Operand.tmp 48)) (vx := (.slice (some ⟨g, 0, none⟩) n c)) (vy := (.int .i64 (k : Int))) (by kernel_rfl) (by kernel_rfl) (by kernel_rfl) ?_) ?_
    · (intro w hSw; clear hSw; go_simp <;> (intros; exfalso; omega))
    refine Rg.take (ops := (Rg.opsOf Tryz.f34 11)) 8 (some 50) ((.agg #[.string XP, .bool XD, .string XX, .string XK, .bool XL, .bool XA, .int .i64 XS])) hNS (by kernel_rfl) (by kernel_rfl) (by kernel_rfl) (by kernel_rfl) (by kernel_rfl) hHeld (Rg.y_load (T := 76) (x := (Operand.tmp 49)) (vx := (.pointer (some ⟨g, k * 7, none⟩))) (by kernel_rfl) (by kernel_rfl) ?_) ?_
    · (intro w hSw; obtain ⟨e0, d0, d1, d2, d3, d4, d5, d6⟩ := hsh _ hSw; simp only at d0 d1 d2 d3 d4 d5 d6; clear hSw; go_simp)
    refine Rg.store (ops := (Rg.opsOf Tryz.f34 11)) 10 (T := 76) (x := (Operand.tmp 8)) (y := (Operand.tmp 50)) (vx := (.pointer (some ⟨w.drew.heap.size, 0, none⟩))) (vy := (.agg #[.string XP, .bool XD, .string XX, .string XK, .bool XL, .bool XA, .int .i64 XS])) (w1 := w.drew.alloc (.cells #[.string XP, .bool XD, .string XX, .string XK, .bool XL, .bool XA, .int .i64 XS] 76)) (by kernel_rfl) (by kernel_rfl) (by kernel_rfl) (by kernel_rfl) (by kernel_rfl) (by kernel_rfl) (by kernel_rfl) ?_ (h0.below ((Below.refl _ _).alloc (Nat.le_refl _) _)) (fun hHeld => ?_)
    · go_simp
    refine Rg.done (ops := (Rg.opsOf Tryz.f34 11)) (by kernel_rfl) ?_
    exact ⟨by kernel_rfl, rfl⟩
set_option maxRecDepth 100000 in
set_option maxHeartbeats 2000000 in
theorem getRot (ops : Array Oper) (hops : ops = (Rg.opsOf Tryz.f39 4)) (id : Nat) (b : Nat) (s : St) (g n c k : Nat) (vR : Value) (p XP XX XK : ByteArray) (XD XL XA : Bool) (XS : Nat) {u2 u3 u4 u5 u6 u7 u8 u9 u10 u11 u12 u13 u14 u15 u16 u17 u18 u19 u20 u21 u22 u23 u24 u25 u26 u27 u28 u29 u30 u31 u32 u33 u34 u35 u36 u37 u38 : Value} (w : World)
    (h : At w b s (.slice (some ⟨g, 0, none⟩) n c) vR) (hsh : Shows b s g n c k vR ⟨XP, XD, XX, XK, XL, XA, XS⟩) (hlt : k < n) (hnm : n ≤ 1000000000000)
    (cp : ∀ W, At W b s (.slice (some ⟨g, 0, none⟩) n c) vR → Calls Tryz.prog 73 #[.pointer (some ⟨b, 0, none⟩), .string p] W fun e w' => e = .returned (.int .i64 (k : Int)) ∧ W = w') :
    (Code.region id ops true).wp Tryz.prog (Rg.Only fun a' w' => a' = ⟨#[(.pointer (some ⟨b, 0, none⟩)), (.string p), u2, u3, u4, u5, u6, u7, (.pointer (some ⟨w.drew.heap.size, 0, none⟩)), u9, u10, u11, u12, u13, u14, (.pointer (some ⟨b, 0, none⟩)), (.pointer (some ⟨b, 0, none⟩)), (.pointer (some ⟨b, 0, none⟩)), (.slice (some ⟨g, 0, none⟩) n c), (.pointer (some ⟨b, 0, none⟩)), (.string p), (.int .i64 (k : Int)), (.pointer (some ⟨g, k * 7, none⟩)), (.agg #[.string XP, .bool XD, .string XX, .string XK, .bool XL, .bool XA, .int .i64 XS]), u24, u25, u26, u27, u28, u29, u30, u31, u32, u33, u34, u35, u36, u37, u38], []⟩ ∧ w' = w.drew.alloc (.cells #[.string XP, .bool XD, .string XX, .string XK, .bool XL, .bool XA, .int .i64 XS] 76)) ⟨#[(.pointer (some ⟨b, 0, none⟩)), (.string p), u2, u3, u4, u5, u6, u7, u8, u9, u10, u11, u12, u13, u14, u15, u16, u17, u18, u19, u20, u21, u22, u23, u24, u25, u26, u27, u28, u29, u30, u31, u32, u33, u34, u35, u36, u37, u38], []⟩ w := by
  subst hops
  have hNS : Region.noSelect (Rg.opsOf Tryz.f39 4) = true := by kernel_rfl
  have h0 := h.below (Below.refl _ _).drew
  refine wp_region_held_drew (S := fun W => At W b s (.slice (some ⟨g, 0, none⟩) n c) vR) (by kernel_rfl) h0 (fun hHeld => ?_)
  rw [show (Rg.opsOf Tryz.f39 4).size = 11 by kernel_rfl]
  refine Rg.take (ops := (Rg.opsOf Tryz.f39 4)) 0 (some 15) ((.pointer (some ⟨b, 0, none⟩))) hNS (by kernel_rfl) (by kernel_rfl) (by kernel_rfl) (by kernel_rfl) (by kernel_rfl) hHeld (Rg.y_move (x := (Operand.tmp 0)) (Or.inl (by kernel_rfl)) (by kernel_rfl)) ?_
  refine Rg.take (ops := (Rg.opsOf Tryz.f39 4)) 1 (some 16) ((.pointer (some ⟨b, 0, none⟩))) hNS (by kernel_rfl) (by kernel_rfl) (by kernel_rfl) (by kernel_rfl) (by kernel_rfl) hHeld (Rg.y_nil (x := (Operand.tmp 15)) (by kernel_rfl) (by kernel_rfl)) ?_
  refine Rg.take (ops := (Rg.opsOf Tryz.f39 4)) 2 (some 17) ((.pointer (some ⟨b, 0, none⟩))) hNS (by kernel_rfl) (by kernel_rfl) (by kernel_rfl) (by kernel_rfl) (by kernel_rfl) hHeld (Rg.y_field (T := 68) (k := 0) (x := (Operand.tmp 16)) (vx := (.pointer (some ⟨b, 0, none⟩))) (by kernel_rfl) (by kernel_rfl) ?_) ?_
  · (intro w hSw; go_simp)
  refine Rg.take (ops := (Rg.opsOf Tryz.f39 4)) 3 (some 18) ((.slice (some ⟨g, 0, none⟩) n c)) hNS (by kernel_rfl) (by kernel_rfl) (by kernel_rfl) (by kernel_rfl) (by kernel_rfl) hHeld (Rg.y_load (T := 65) (x := (Operand.tmp 17)) (vx := (.pointer (some ⟨b, 0, none⟩))) (by kernel_rfl) (by kernel_rfl) ?_) ?_
  · (intro w hSw; obtain ⟨e0, d0, d1, d2, d3, d4, d5, d6⟩ := hsh _ hSw; simp only at d0 d1 d2 d3 d4 d5 d6; clear hSw; go_simp)
  refine Rg.take (ops := (Rg.opsOf Tryz.f39 4)) 4 (some 19) ((.pointer (some ⟨b, 0, none⟩))) hNS (by kernel_rfl) (by kernel_rfl) (by kernel_rfl) (by kernel_rfl) (by kernel_rfl) hHeld (Rg.y_move (x := (Operand.tmp 0)) (Or.inl (by kernel_rfl)) (by kernel_rfl)) ?_
  refine Rg.take (ops := (Rg.opsOf Tryz.f39 4)) 5 (some 20) ((.string p)) hNS (by kernel_rfl) (by kernel_rfl) (by kernel_rfl) (by kernel_rfl) (by kernel_rfl) hHeld (Rg.y_move (x := (Operand.tmp 1)) (Or.inl (by kernel_rfl)) (by kernel_rfl)) ?_
  refine Rg.two (ops := (Rg.opsOf Tryz.f39 4)) (i := 6) (j := 9) (by kernel_rfl) ?_ ?_
  · refine Rg.op_call (ops := (Rg.opsOf Tryz.f39 4)) (fn := Tryz.f73) (xs := #[Operand.tmp 19, Operand.tmp 20]) (ats := #[25, 9]) 6 (some 21) 73 #[(.pointer (some ⟨b, 0, none⟩)), (.string p)] (by kernel_rfl) (by kernel_rfl) (by kernel_rfl) (by kernel_rfl) Tryz.func73 (by kernel_rfl) (by kernel_rfl) (by kernel_rfl) ?_
    refine (cp _ hHeld).mono ?_
    rintro e w5 ⟨rfl, rfl⟩
    refine ⟨_, rfl, hHeld, fun hHeld => ?_⟩
    refine Rg.take (ops := (Rg.opsOf Tryz.f39 4)) 7 (some 22) ((.pointer (some ⟨g, k * 7, none⟩))) hNS (by kernel_rfl) (by kernel_rfl) (by kernel_rfl) (by kernel_rfl) (by kernel_rfl) hHeld (Rg.y_at (T := 65) (x := (Operand.tmp 18)) (y := (Operand.tmp 21)) (vx := (.slice (some ⟨g, 0, none⟩) n c)) (vy := (.int .i64 (k : Int))) (by kernel_rfl) (by kernel_rfl) (by kernel_rfl) ?_) ?_
    · (intro w hSw; clear hSw; go_simp <;> (intros; exfalso; omega))
    refine Rg.take (ops := (Rg.opsOf Tryz.f39 4)) 8 (some 23) ((.agg #[.string XP, .bool XD, .string XX, .string XK, .bool XL, .bool XA, .int .i64 XS])) hNS (by kernel_rfl) (by kernel_rfl) (by kernel_rfl) (by kernel_rfl) (by kernel_rfl) hHeld (Rg.y_load (T := 76) (x := (Operand.tmp 22)) (vx := (.pointer (some ⟨g, k * 7, none⟩))) (by kernel_rfl) (by kernel_rfl) ?_) ?_
    · (intro w hSw; obtain ⟨e0, d0, d1, d2, d3, d4, d5, d6⟩ := hsh _ hSw; simp only at d0 d1 d2 d3 d4 d5 d6; clear hSw; go_simp)
    refine Rg.one (ops := (Rg.opsOf Tryz.f39 4)) (i := 9) (by kernel_rfl) ?_
    refine Rg.op_alloc (ops := (Rg.opsOf Tryz.f39 4)) 9 (some 8) (T := 76) (v := (.pointer (some ⟨w.drew.heap.size, 0, none⟩))) (w1 := w.drew.alloc (.cells #[.string ByteArray.empty, .bool false, .string ByteArray.empty, .string ByteArray.empty, .bool false, .bool false, .int .i64 0] 76)) (by kernel_rfl) (by kernel_rfl) (by kernel_rfl) (by kernel_rfl) ?_ (hHeld.below ((Below.refl _ _).alloc (Nat.le_refl _) _)) (fun hHeld => ?_)
    · (go_simp <;> rfl)
    refine Rg.store (ops := (Rg.opsOf Tryz.f39 4)) 10 (T := 76) (x := (Operand.tmp 8)) (y := (Operand.tmp 23)) (vx := (.pointer (some ⟨w.drew.heap.size, 0, none⟩))) (vy := (.agg #[.string XP, .bool XD, .string XX, .string XK, .bool XL, .bool XA, .int .i64 XS])) (w1 := w.drew.alloc (.cells #[.string XP, .bool XD, .string XX, .string XK, .bool XL, .bool XA, .int .i64 XS] 76)) (by kernel_rfl) (by kernel_rfl) (by kernel_rfl) (by kernel_rfl) (by kernel_rfl) (by kernel_rfl) (by kernel_rfl) ?_ (h0.below ((Below.refl _ _).alloc (Nat.le_refl _) _)) (fun hHeld => ?_)
    · go_simp
    refine Rg.done (ops := (Rg.opsOf Tryz.f39 4)) (by kernel_rfl) ?_
    exact ⟨by kernel_rfl, rfl⟩
  · refine Rg.op_alloc (ops := (Rg.opsOf Tryz.f39 4)) 9 (some 8) (T := 76) (v := (.pointer (some ⟨w.drew.heap.size, 0, none⟩))) (w1 := w.drew.alloc (.cells #[.string ByteArray.empty, .bool false, .string ByteArray.empty, .string ByteArray.empty, .bool false, .bool false, .int .i64 0] 76)) (by kernel_rfl) (by kernel_rfl) (by kernel_rfl) (by kernel_rfl) ?_ (hHeld.below ((Below.refl _ _).alloc (Nat.le_refl _) _)) (fun hHeld => ?_)
    · (go_simp <;> rfl)
    refine Rg.call (ops := (Rg.opsOf Tryz.f39 4)) (fn := Tryz.f73) (xs := #[Operand.tmp 19, Operand.tmp 20]) (ats := #[25, 9]) 6 (some 21) 73 #[(.pointer (some ⟨b, 0, none⟩)), (.string p)] (by kernel_rfl) (by kernel_rfl) (by kernel_rfl) (by kernel_rfl) (by kernel_rfl) Tryz.func73 (by kernel_rfl) (by kernel_rfl) (by kernel_rfl) ?_
    refine (cp _ hHeld).mono ?_
    rintro e w5 ⟨rfl, rfl⟩
    refine ⟨_, rfl, hHeld, fun hHeld => ?_⟩
    refine Rg.take (ops := (Rg.opsOf Tryz.f39 4)) 7 (some 22) ((.pointer (some ⟨g, k * 7, none⟩))) hNS (by kernel_rfl) (by kernel_rfl) (by kernel_rfl) (by kernel_rfl) (by kernel_rfl) hHeld (Rg.y_at (T := 65) (x := (Operand.tmp 18)) (y := (Operand.tmp 21)) (vx := (.slice (some ⟨g, 0, none⟩) n c)) (vy := (.int .i64 (k : Int))) (by kernel_rfl) (by kernel_rfl) (by kernel_rfl) ?_) ?_
    · (intro w hSw; clear hSw; go_simp <;> (intros; exfalso; omega))
    refine Rg.take (ops := (Rg.opsOf Tryz.f39 4)) 8 (some 23) ((.agg #[.string XP, .bool XD, .string XX, .string XK, .bool XL, .bool XA, .int .i64 XS])) hNS (by kernel_rfl) (by kernel_rfl) (by kernel_rfl) (by kernel_rfl) (by kernel_rfl) hHeld (Rg.y_load (T := 76) (x := (Operand.tmp 22)) (vx := (.pointer (some ⟨g, k * 7, none⟩))) (by kernel_rfl) (by kernel_rfl) ?_) ?_
    · (intro w hSw; obtain ⟨e0, d0, d1, d2, d3, d4, d5, d6⟩ := hsh _ hSw; simp only at d0 d1 d2 d3 d4 d5 d6; clear hSw; go_simp)
    refine Rg.store (ops := (Rg.opsOf Tryz.f39 4)) 10 (T := 76) (x := (Operand.tmp 8)) (y := (Operand.tmp 23)) (vx := (.pointer (some ⟨w.drew.heap.size, 0, none⟩))) (vy := (.agg #[.string XP, .bool XD, .string XX, .string XK, .bool XL, .bool XA, .int .i64 XS])) (w1 := w.drew.alloc (.cells #[.string XP, .bool XD, .string XX, .string XK, .bool XL, .bool XA, .int .i64 XS] 76)) (by kernel_rfl) (by kernel_rfl) (by kernel_rfl) (by kernel_rfl) (by kernel_rfl) (by kernel_rfl) (by kernel_rfl) ?_ (h0.below ((Below.refl _ _).alloc (Nat.le_refl _) _)) (fun hHeld => ?_)
    · go_simp
    refine Rg.done (ops := (Rg.opsOf Tryz.f39 4)) (by kernel_rfl) ?_
    exact ⟨by kernel_rfl, rfl⟩
set_option maxRecDepth 100000 in
set_option maxHeartbeats 2000000 in
theorem getWrite (ops : Array Oper) (hops : ops = (Rg.opsOf Tryz.f30 10)) (id : Nat) (b : Nat) (s : St) (g n c k : Nat) (vR : Value) (p XP XX XK : ByteArray) (XD XL XA : Bool) (XS : Nat) (I0 I2 I3 : ByteArray) (I1 I4 I5 : Bool) (I6 : Int) {u2 u3 u4 u5 u6 u7 u9 u10 u11 u12 u13 u14 u15 u16 u17 u18 u19 u20 u21 u22 u23 u24 u25 u26 u27 u28 u29 u30 u31 u32 u33 u34 u35 u36 u37 u38 u39 u40 u41 u42 u43 u44 u45 u46 u47 u48 u49 u50 u51 u52 u53 u54 u55 u56 u57 u58 u59 u60 u61 : Value} (w : World)
    (h : At w b s (.slice (some ⟨g, 0, none⟩) n c) vR) (hsh : Shows b s g n c k vR ⟨XP, XD, XX, XK, XL, XA, XS⟩) (hlt : k < n) (hnm : n ≤ 1000000000000)
    (cp : ∀ W, At W b s (.slice (some ⟨g, 0, none⟩) n c) vR → Calls Tryz.prog 73 #[.pointer (some ⟨b, 0, none⟩), .string p] W fun e w' => e = .returned (.int .i64 (k : Int)) ∧ W = w') :
    (Code.region id ops true).wp Tryz.prog (Rg.Only fun a' w' => a' = ⟨#[(.pointer (some ⟨b, 0, none⟩)), (.string p), u2, u3, u4, u5, u6, u7, (.pointer (some ⟨w.heap.size, 0, none⟩)), u9, u10, u11, u12, u13, u14, u15, u16, u17, u18, u19, u20, u21, u22, u23, u24, u25, u26, u27, u28, (.pointer (some ⟨b, 0, none⟩)), (.pointer (some ⟨b, 0, none⟩)), (.pointer (some ⟨b, 0, none⟩)), (.slice (some ⟨g, 0, none⟩) n c), (.pointer (some ⟨b, 0, none⟩)), (.string p), (.int .i64 (k : Int)), (.pointer (some ⟨g, k * 7, none⟩)), (.agg #[.string XP, .bool XD, .string XX, .string XK, .bool XL, .bool XA, .int .i64 XS]), u38, u39, u40, u41, u42, u43, u44, u45, u46, u47, u48, u49, u50, u51, u52, u53, u54, u55, u56, u57, u58, u59, u60, u61], []⟩ ∧ w' = (w.alloc (.cells #[.string XP, .bool XD, .string XX, .string XK, .bool XL, .bool XA, .int .i64 XS] 76)).drew) ⟨#[(.pointer (some ⟨b, 0, none⟩)), (.string p), u2, u3, u4, u5, u6, u7, (.pointer (some ⟨w.heap.size, 0, none⟩)), u9, u10, u11, u12, u13, u14, u15, u16, u17, u18, u19, u20, u21, u22, u23, u24, u25, u26, u27, u28, u29, u30, u31, u32, u33, u34, u35, u36, u37, u38, u39, u40, u41, u42, u43, u44, u45, u46, u47, u48, u49, u50, u51, u52, u53, u54, u55, u56, u57, u58, u59, u60, u61], []⟩ (w.alloc (.cells #[.string I0, .bool I1, .string I2, .string I3, .bool I4, .bool I5, .int .i64 I6] 76)) := by
  subst hops
  have hNS : Region.noSelect (Rg.opsOf Tryz.f30 10) = true := by kernel_rfl
  have h0 := (h.below ((Below.refl _ _).alloc (Nat.le_refl _) (.cells #[.string I0, .bool I1, .string I2, .string I3, .bool I4, .bool I5, .int .i64 I6] 76))).below (Below.refl _ _).drew
  have h0' := (h.below ((Below.refl _ _).alloc (Nat.le_refl _) (.cells #[.string XP, .bool XD, .string XX, .string XK, .bool XL, .bool XA, .int .i64 XS] 76))).below (Below.refl _ _).drew
  refine wp_region_held_drew (S := fun W => At W b s (.slice (some ⟨g, 0, none⟩) n c) vR) (by kernel_rfl) h0 (fun hHeld => ?_)
  rw [show (Rg.opsOf Tryz.f30 10).size = 10 by kernel_rfl]
  refine Rg.take (ops := (Rg.opsOf Tryz.f30 10)) 0 (some 29) ((.pointer (some ⟨b, 0, none⟩))) hNS (by kernel_rfl) (by kernel_rfl) (by kernel_rfl) (by kernel_rfl) (by kernel_rfl) hHeld (Rg.y_move (x := (Operand.tmp 0)) (Or.inl (by kernel_rfl)) (by kernel_rfl)) ?_
  refine Rg.take (ops := (Rg.opsOf Tryz.f30 10)) 1 (some 30) ((.pointer (some ⟨b, 0, none⟩))) hNS (by kernel_rfl) (by kernel_rfl) (by kernel_rfl) (by kernel_rfl) (by kernel_rfl) hHeld (Rg.y_nil (x := (Operand.tmp 29)) (by kernel_rfl) (by kernel_rfl)) ?_
  refine Rg.take (ops := (Rg.opsOf Tryz.f30 10)) 2 (some 31) ((.pointer (some ⟨b, 0, none⟩))) hNS (by kernel_rfl) (by kernel_rfl) (by kernel_rfl) (by kernel_rfl) (by kernel_rfl) hHeld (Rg.y_field (T := 68) (k := 0) (x := (Operand.tmp 30)) (vx := (.pointer (some ⟨b, 0, none⟩))) (by kernel_rfl) (by kernel_rfl) ?_) ?_
  · (intro w hSw; go_simp)
  refine Rg.take (ops := (Rg.opsOf Tryz.f30 10)) 3 (some 32) ((.slice (some ⟨g, 0, none⟩) n c)) hNS (by kernel_rfl) (by kernel_rfl) (by kernel_rfl) (by kernel_rfl) (by kernel_rfl) hHeld (Rg.y_load (T := 65) (x := (Operand.tmp 31)) (vx := (.pointer (some ⟨b, 0, none⟩))) (by kernel_rfl) (by kernel_rfl) ?_) ?_
  · (intro w hSw; obtain ⟨e0, d0, d1, d2, d3, d4, d5, d6⟩ := hsh _ hSw; simp only at d0 d1 d2 d3 d4 d5 d6; clear hSw; go_simp)
  refine Rg.take (ops := (Rg.opsOf Tryz.f30 10)) 4 (some 33) ((.pointer (some ⟨b, 0, none⟩))) hNS (by kernel_rfl) (by kernel_rfl) (by kernel_rfl) (by kernel_rfl) (by kernel_rfl) hHeld (Rg.y_move (x := (Operand.tmp 0)) (Or.inl (by kernel_rfl)) (by kernel_rfl)) ?_
  refine Rg.take (ops := (Rg.opsOf Tryz.f30 10)) 5 (some 34) ((.string p)) hNS (by kernel_rfl) (by kernel_rfl) (by kernel_rfl) (by kernel_rfl) (by kernel_rfl) hHeld (Rg.y_move (x := (Operand.tmp 1)) (Or.inl (by kernel_rfl)) (by kernel_rfl)) ?_
  refine Rg.call (ops := (Rg.opsOf Tryz.f30 10)) (fn := Tryz.f73) (xs := #[Operand.tmp 33, Operand.tmp 34]) (ats := #[25, 9]) 6 (some 35) 73 #[(.pointer (some ⟨b, 0, none⟩)), (.string p)] (by kernel_rfl) (by kernel_rfl) (by kernel_rfl) (by kernel_rfl) (by kernel_rfl) Tryz.func73 (by kernel_rfl) (by kernel_rfl) (by kernel_rfl) ?_
  refine (cp _ hHeld).mono ?_
  rintro e w5 ⟨rfl, rfl⟩
  refine ⟨_, rfl, hHeld, fun hHeld => ?_⟩
  refine Rg.take (ops := (Rg.opsOf Tryz.f30 10)) 7 (some 36) ((.pointer (some ⟨g, k * 7, none⟩))) hNS (by kernel_rfl) (by kernel_rfl) (by kernel_rfl) (by kernel_rfl) (by kernel_rfl) hHeld (Rg.y_at (T := 65) (x := (Operand.tmp 32)) (y := (Operand.tmp 35)) (vx := (.slice (some ⟨g, 0, none⟩) n c)) (vy := (.int .i64 (k : Int))) (by kernel_rfl) (by kernel_rfl) (by kernel_rfl) ?_) ?_
  · (intro w hSw; clear hSw; go_simp <;> (intros; exfalso; omega))
  refine Rg.take (ops := (Rg.opsOf Tryz.f30 10)) 8 (some 37) ((.agg #[.string XP, .bool XD, .string XX, .string XK, .bool XL, .bool XA, .int .i64 XS])) hNS (by kernel_rfl) (by kernel_rfl) (by kernel_rfl) (by kernel_rfl) (by kernel_rfl) hHeld (Rg.y_load (T := 76) (x := (Operand.tmp 36)) (vx := (.pointer (some ⟨g, k * 7, none⟩))) (by kernel_rfl) (by kernel_rfl) ?_) ?_
  · (intro w hSw; obtain ⟨e0, d0, d1, d2, d3, d4, d5, d6⟩ := hsh _ hSw; simp only at d0 d1 d2 d3 d4 d5 d6; clear hSw; go_simp)
  refine Rg.store (ops := (Rg.opsOf Tryz.f30 10)) 9 (T := 76) (x := (Operand.tmp 8)) (y := (Operand.tmp 37)) (vx := (.pointer (some ⟨w.heap.size, 0, none⟩))) (vy := (.agg #[.string XP, .bool XD, .string XX, .string XK, .bool XL, .bool XA, .int .i64 XS])) (w1 := (w.alloc (.cells #[.string XP, .bool XD, .string XX, .string XK, .bool XL, .bool XA, .int .i64 XS] 76)).drew) (by kernel_rfl) (by kernel_rfl) (by kernel_rfl) (by kernel_rfl) (by kernel_rfl) (by kernel_rfl) (by kernel_rfl) ?_ (h0') (fun hHeld => ?_)
  · (go_simp <;> rfl)
  refine Rg.done (ops := (Rg.opsOf Tryz.f30 10)) (by kernel_rfl) ?_
  exact ⟨by kernel_rfl, rfl⟩
set_option maxRecDepth 100000 in
set_option maxHeartbeats 2000000 in
theorem lessRename (ops : Array Oper) (hops : ops = (Rg.opsOf Tryz.f34 16)) (id : Nat) (b : Nat) (s : St) (g n c k : Nat) (vR : Value) (p XP XX XK : ByteArray) (XD XL XA : Bool) (XS : Nat) (M : Int) {u1 u3 u4 u5 u6 u7 u8 u10 u11 u12 u13 u14 u15 u16 u17 u18 u19 u20 u21 u22 u23 u24 u25 u26 u27 u28 u29 u30 u31 u32 u33 u34 u35 u36 u37 u38 u39 u40 u41 u42 u43 u44 u45 u46 u47 u48 u49 u50 u51 u52 u53 u54 u55 u56 u57 u58 u59 u60 u61 u62 u63 u64 u65 u66 u67 u68 u69 u70 u71 u72 u73 u74 u75 u76 u77 u78 u79 u80 u81 u82 u83 u84 u85 u86 u87 u88 u89 u90 u91 u92 u93 u94 u95 u96 u97 u98 u99 u100 : Value} (w : World)
    (h : At w b s (.slice (some ⟨g, 0, none⟩) n c) vR) (hsh : Shows b s g n c k vR ⟨XP, XD, XX, XK, XL, XA, XS⟩) (hlt : k < n) (hnm : n ≤ 1000000000000)
    (hsub : IntKind.i64.wrap (M - (XX.size : Int)) = M - (XX.size : Int))
    (cp : ∀ W, At W b s (.slice (some ⟨g, 0, none⟩) n c) vR → Calls Tryz.prog 73 #[.pointer (some ⟨b, 0, none⟩), .string p] W fun e w' => e = .returned (.int .i64 (k : Int)) ∧ W = w') :
    (Code.region id ops true).wp Tryz.prog (Rg.Only fun a' w' => a' = ⟨#[(.pointer (some ⟨b, 0, none⟩)), u1, (.string p), u3, u4, u5, u6, u7, u8, (.int .i64 (M - (XX.size : Int))), u10, u11, u12, u13, u14, u15, u16, u17, u18, u19, u20, u21, u22, u23, u24, u25, u26, u27, u28, u29, u30, u31, u32, u33, u34, u35, u36, u37, u38, u39, u40, u41, u42, u43, u44, u45, u46, u47, u48, u49, u50, u51, u52, u53, u54, u55, u56, u57, u58, u59, u60, u61, u62, (.int .i64 M), (.pointer (some ⟨b, 0, none⟩)), (.pointer (some ⟨b, 0, none⟩)), (.pointer (some ⟨b, 0, none⟩)), (.slice (some ⟨g, 0, none⟩) n c), (.pointer (some ⟨b, 0, none⟩)), (.string p), (.int .i64 (k : Int)), (.pointer (some ⟨g, k * 7, none⟩)), (.pointer (some ⟨g, k * 7 + 2, none⟩)), (.string XX), (.int .i64 (XX.size : Int)), (.int .i64 (M - (XX.size : Int))), u76, u77, u78, u79, u80, u81, u82, u83, u84, u85, u86, u87, u88, u89, u90, u91, u92, u93, u94, u95, u96, u97, u98, u99, u100], []⟩ ∧ w' = w.drew) ⟨#[(.pointer (some ⟨b, 0, none⟩)), u1, (.string p), u3, u4, u5, u6, u7, u8, (.int .i64 M), u10, u11, u12, u13, u14, u15, u16, u17, u18, u19, u20, u21, u22, u23, u24, u25, u26, u27, u28, u29, u30, u31, u32, u33, u34, u35, u36, u37, u38, u39, u40, u41, u42, u43, u44, u45, u46, u47, u48, u49, u50, u51, u52, u53, u54, u55, u56, u57, u58, u59, u60, u61, u62, u63, u64, u65, u66, u67, u68, u69, u70, u71, u72, u73, u74, u75, u76, u77, u78, u79, u80, u81, u82, u83, u84, u85, u86, u87, u88, u89, u90, u91, u92, u93, u94, u95, u96, u97, u98, u99, u100], []⟩ w := by
  subst hops
  have hNS : Region.noSelect (Rg.opsOf Tryz.f34 16) = true := by kernel_rfl
  have h0 := h.below (Below.refl _ _).drew
  refine wp_region_held_drew (S := fun W => At W b s (.slice (some ⟨g, 0, none⟩) n c) vR) (by kernel_rfl) h0 (fun hHeld => ?_)
  rw [show (Rg.opsOf Tryz.f34 16).size = 14 by kernel_rfl]
  refine Rg.take (ops := (Rg.opsOf Tryz.f34 16)) 0 (some 63) ((.int .i64 M)) hNS (by kernel_rfl) (by kernel_rfl) (by kernel_rfl) (by kernel_rfl) (by kernel_rfl) hHeld (Rg.y_move (x := (Operand.tmp 9)) (Or.inl (by kernel_rfl)) (by kernel_rfl)) ?_
  refine Rg.take (ops := (Rg.opsOf Tryz.f34 16)) 1 (some 64) ((.pointer (some ⟨b, 0, none⟩))) hNS (by kernel_rfl) (by kernel_rfl) (by kernel_rfl) (by kernel_rfl) (by kernel_rfl) hHeld (Rg.y_move (x := (Operand.tmp 0)) (Or.inl (by kernel_rfl)) (by kernel_rfl)) ?_
  refine Rg.take (ops := (Rg.opsOf Tryz.f34 16)) 2 (some 65) ((.pointer (some ⟨b, 0, none⟩))) hNS (by kernel_rfl) (by kernel_rfl) (by kernel_rfl) (by kernel_rfl) (by kernel_rfl) hHeld (Rg.y_nil (x := (Operand.tmp 64)) (by kernel_rfl) (by kernel_rfl)) ?_
  refine Rg.take (ops := (Rg.opsOf Tryz.f34 16)) 3 (some 66) ((.pointer (some ⟨b, 0, none⟩))) hNS (by kernel_rfl) (by kernel_rfl) (by kernel_rfl) (by kernel_rfl) (by kernel_rfl) hHeld (Rg.y_field (T := 68) (k := 0) (x := (Operand.tmp 65)) (vx := (.pointer (some ⟨b, 0, none⟩))) (by kernel_rfl) (by kernel_rfl) ?_) ?_
  · (intro w hSw; go_simp)
  refine Rg.take (ops := (Rg.opsOf Tryz.f34 16)) 4 (some 67) ((.slice (some ⟨g, 0, none⟩) n c)) hNS (by kernel_rfl) (by kernel_rfl) (by kernel_rfl) (by kernel_rfl) (by kernel_rfl) hHeld (Rg.y_load (T := 65) (x := (Operand.tmp 66)) (vx := (.pointer (some ⟨b, 0, none⟩))) (by kernel_rfl) (by kernel_rfl) ?_) ?_
  · (intro w hSw; obtain ⟨e0, d0, d1, d2, d3, d4, d5, d6⟩ := hsh _ hSw; simp only at d0 d1 d2 d3 d4 d5 d6; clear hSw; go_simp)
  refine Rg.take (ops := (Rg.opsOf Tryz.f34 16)) 5 (some 68) ((.pointer (some ⟨b, 0, none⟩))) hNS (by kernel_rfl) (by kernel_rfl) (by kernel_rfl) (by kernel_rfl) (by kernel_rfl) hHeld (Rg.y_move (x := (Operand.tmp 0)) (Or.inl (by kernel_rfl)) (by kernel_rfl)) ?_
  refine Rg.take (ops := (Rg.opsOf Tryz.f34 16)) 6 (some 69) ((.string p)) hNS (by kernel_rfl) (by kernel_rfl) (by kernel_rfl) (by kernel_rfl) (by kernel_rfl) hHeld (Rg.y_move (x := (Operand.tmp 2)) (Or.inl (by kernel_rfl)) (by kernel_rfl)) ?_
  refine Rg.call (ops := (Rg.opsOf Tryz.f34 16)) (fn := Tryz.f73) (xs := #[Operand.tmp 68, Operand.tmp 69]) (ats := #[25, 9]) 7 (some 70) 73 #[(.pointer (some ⟨b, 0, none⟩)), (.string p)] (by kernel_rfl) (by kernel_rfl) (by kernel_rfl) (by kernel_rfl) (by kernel_rfl) Tryz.func73 (by kernel_rfl) (by kernel_rfl) (by kernel_rfl) ?_
  refine (cp _ hHeld).mono ?_
  rintro e w5 ⟨rfl, rfl⟩
  refine ⟨_, rfl, hHeld, fun hHeld => ?_⟩
  refine Rg.take (ops := (Rg.opsOf Tryz.f34 16)) 8 (some 71) ((.pointer (some ⟨g, k * 7, none⟩))) hNS (by kernel_rfl) (by kernel_rfl) (by kernel_rfl) (by kernel_rfl) (by kernel_rfl) hHeld (Rg.y_at (T := 65) (x := (Operand.tmp 67)) (y := (Operand.tmp 70)) (vx := (.slice (some ⟨g, 0, none⟩) n c)) (vy := (.int .i64 (k : Int))) (by kernel_rfl) (by kernel_rfl) (by kernel_rfl) ?_) ?_
  · (intro w hSw; clear hSw; go_simp <;> (intros; exfalso; omega))
  refine Rg.take (ops := (Rg.opsOf Tryz.f34 16)) 9 (some 72) ((.pointer (some ⟨g, k * 7 + 2, none⟩))) hNS (by kernel_rfl) (by kernel_rfl) (by kernel_rfl) (by kernel_rfl) (by kernel_rfl) hHeld (Rg.y_field (T := 76) (k := 2) (x := (Operand.tmp 71)) (vx := (.pointer (some ⟨g, k * 7, none⟩))) (by kernel_rfl) (by kernel_rfl) ?_) ?_
  · (intro w hSw; go_simp)
  refine Rg.take (ops := (Rg.opsOf Tryz.f34 16)) 10 (some 73) ((.string XX)) hNS (by kernel_rfl) (by kernel_rfl) (by kernel_rfl) (by kernel_rfl) (by kernel_rfl) hHeld (Rg.y_load (T := 9) (x := (Operand.tmp 72)) (vx := (.pointer (some ⟨g, k * 7 + 2, none⟩))) (by kernel_rfl) (by kernel_rfl) ?_) ?_
  · (intro w hSw; obtain ⟨e0, d0, d1, d2, d3, d4, d5, d6⟩ := hsh _ hSw; simp only at d0 d1 d2 d3 d4 d5 d6; clear hSw; go_simp)
  refine Rg.take (ops := (Rg.opsOf Tryz.f34 16)) 11 (some 74) ((.int .i64 (XX.size : Int))) hNS (by kernel_rfl) (by kernel_rfl) (by kernel_rfl) (by kernel_rfl) (by kernel_rfl) hHeld (Rg.y_len (x := (Operand.tmp 73)) (ats := #[9]) (vx := (.string XX)) (n := XX.size) (by kernel_rfl) (by kernel_rfl) ?_) ?_
  · (intro ty w hSw; go_simp)
  refine Rg.take (ops := (Rg.opsOf Tryz.f34 16)) 12 (some 75) ((.int .i64 (M - (XX.size : Int)))) hNS (by kernel_rfl) (by kernel_rfl) (by kernel_rfl) (by kernel_rfl) (by kernel_rfl) hHeld (Rg.y_bin (b := BinOp.sub) (T := 3) (R' := 3) (x := (Operand.tmp 63)) (y := (Operand.tmp 74)) (vx := (.int .i64 M)) (vy := (.int .i64 (XX.size : Int))) (by kernel_rfl) (by kernel_rfl) (by kernel_rfl) ?_) ?_
  · (intro w hSw; clear hSw; go_simp <;> exact hsub)
  refine Rg.take (ops := (Rg.opsOf Tryz.f34 16)) 13 (some 9) ((.int .i64 (M - (XX.size : Int)))) hNS (by kernel_rfl) (by kernel_rfl) (by kernel_rfl) (by kernel_rfl) (by kernel_rfl) hHeld (Rg.y_move (x := (Operand.tmp 75)) (Or.inr (by kernel_rfl)) (by kernel_rfl)) ?_
  refine Rg.done (ops := (Rg.opsOf Tryz.f34 16)) (by kernel_rfl) ?_
  exact ⟨by kernel_rfl, rfl⟩
set_option maxRecDepth 100000 in
set_option maxHeartbeats 2000000 in
theorem turnRot (ops : Array Oper) (hops : ops = (Rg.opsOf Tryz.f39 5)) (id : Nat) (bx : Nat) (x : It) (XX XK TX TK : ByteArray) (bit : Int) {u0 u1 u3 u4 u5 u6 u7 u9 u10 u11 u12 u13 u14 u15 u16 u17 u18 u19 u20 u21 u22 u23 u24 u25 u26 u27 u28 u29 u30 u31 u32 u33 u34 u35 u36 u37 u38 : Value} (w : World) (hbox : Box w bx x) (hX : x.data = XX) (hK : x.kept = XK)
    (ct1 : ∀ W, Calls Tryz.prog 89 #[.string XX, .int .i64 bit] W fun e w' => e = .returned (.string TX) ∧ Below W.heap.size W w')
    (ct2 : ∀ W, Calls Tryz.prog 89 #[.string XK, .int .i64 bit] W fun e w' => e = .returned (.string TK) ∧ Below W.heap.size W w') :
    (Code.region id ops true).wp Tryz.prog (Rg.Only fun a' w' => a' = ⟨#[u0, u1, (.int .i64 bit), u3, u4, u5, u6, u7, (.pointer (some ⟨bx, 0, none⟩)), u9, u10, u11, u12, u13, u14, u15, u16, u17, u18, u19, u20, u21, u22, u23, (.pointer (some ⟨bx, 2, none⟩)), (.string XX), (.int .i64 bit), (.string TX), (.pointer (some ⟨bx, 3, none⟩)), (.string XK), (.int .i64 bit), (.string TK), (.pointer (some ⟨bx, 2, none⟩)), (.pointer (some ⟨bx, 3, none⟩)), u34, u35, u36, u37, u38], []⟩ ∧ ∃ w4, Below w.heap.size w w4 ∧ w' = (w4.setCell ⟨bx, 2, none⟩ (.string TX)).setCell ⟨bx, 3, none⟩ (.string TK)) ⟨#[u0, u1, (.int .i64 bit), u3, u4, u5, u6, u7, (.pointer (some ⟨bx, 0, none⟩)), u9, u10, u11, u12, u13, u14, u15, u16, u17, u18, u19, u20, u21, u22, u23, u24, u25, u26, u27, u28, u29, u30, u31, u32, u33, u34, u35, u36, u37, u38], []⟩ w := by
  subst hops
  subst hX
  subst hK
  have hNS : Region.noSelect (Rg.opsOf Tryz.f39 5) = true := by kernel_rfl
  have hBd : Below w.heap.size w w.drew := (Below.refl _ _).drew
  obtain ⟨q0, q1, q2, q3, q4, q5, q6⟩ := (hbox.below hBd).cell
  refine wp_region_held_drew (S := fun _ => True) (by kernel_rfl) trivial (fun hHeld => ?_)
  rw [show (Rg.opsOf Tryz.f39 5).size = 12 by kernel_rfl]
  refine Rg.take (ops := (Rg.opsOf Tryz.f39 5)) 0 (some 24) ((.pointer (some ⟨bx, 2, none⟩))) hNS (by kernel_rfl) (by kernel_rfl) (by kernel_rfl) (by kernel_rfl) (by kernel_rfl) hHeld (Rg.y_field (T := 76) (k := 2) (x := (Operand.tmp 8)) (vx := (.pointer (some ⟨bx, 0, none⟩))) (by kernel_rfl) (by kernel_rfl) ?_) ?_
  · (intro w hSw; go_simp)
  refine Rg.take (ops := (Rg.opsOf Tryz.f39 5)) 2 (some 26) ((.int .i64 bit)) hNS (by kernel_rfl) (by kernel_rfl) (by kernel_rfl) (by kernel_rfl) (by kernel_rfl) hHeld (Rg.y_move (x := (Operand.tmp 2)) (Or.inl (by kernel_rfl)) (by kernel_rfl)) ?_
  refine Rg.take (ops := (Rg.opsOf Tryz.f39 5)) 4 (some 28) ((.pointer (some ⟨bx, 3, none⟩))) hNS (by kernel_rfl) (by kernel_rfl) (by kernel_rfl) (by kernel_rfl) (by kernel_rfl) hHeld (Rg.y_field (T := 76) (k := 3) (x := (Operand.tmp 8)) (vx := (.pointer (some ⟨bx, 0, none⟩))) (by kernel_rfl) (by kernel_rfl) ?_) ?_
  · (intro w hSw; go_simp)
  refine Rg.take (ops := (Rg.opsOf Tryz.f39 5)) 6 (some 30) ((.int .i64 bit)) hNS (by kernel_rfl) (by kernel_rfl) (by kernel_rfl) (by kernel_rfl) (by kernel_rfl) hHeld (Rg.y_move (x := (Operand.tmp 2)) (Or.inl (by kernel_rfl)) (by kernel_rfl)) ?_
  refine Rg.two (ops := (Rg.opsOf Tryz.f39 5)) (i := 1) (j := 5) (by kernel_rfl) ?_ ?_
  · refine Rg.op_load (ops := (Rg.opsOf Tryz.f39 5)) 1 (some 25) (T := 9) (x := (Operand.tmp 24)) (vx := (.pointer (some ⟨bx, 2, none⟩))) (v := (.string x.data)) (by kernel_rfl) (by kernel_rfl) (by kernel_rfl) (by kernel_rfl) (by kernel_rfl) ?_ hHeld ?_
    · go_simp
    refine Rg.two (ops := (Rg.opsOf Tryz.f39 5)) (i := 3) (j := 5) (by kernel_rfl) ?_ ?_
    · refine Rg.op_call (ops := (Rg.opsOf Tryz.f39 5)) (fn := Tryz.f89) (xs := #[Operand.tmp 25, Operand.tmp 26]) (ats := #[9, 3]) 3 (some 27) 89 #[(.string x.data), (.int .i64 bit)] (by kernel_rfl) (by kernel_rfl) (by kernel_rfl) (by kernel_rfl) Tryz.func89 (by kernel_rfl) (by kernel_rfl) (by kernel_rfl) ?_
      refine (ct1 _).mono ?_
      rintro e w3 ⟨rfl, hb3⟩
      have g2 := (hbox.below (below_call hBd hb3)).cell.2.2.1
      have g3 := (hbox.below (below_call hBd hb3)).cell.2.2.2.1
      refine ⟨_, rfl, trivial, fun hHeld => ?_⟩
      refine Rg.one (ops := (Rg.opsOf Tryz.f39 5)) (i := 5) (by kernel_rfl) ?_
      refine Rg.op_load (ops := (Rg.opsOf Tryz.f39 5)) 5 (some 29) (T := 9) (x := (Operand.tmp 28)) (vx := (.pointer (some ⟨bx, 3, none⟩))) (v := (.string x.kept)) (by kernel_rfl) (by kernel_rfl) (by kernel_rfl) (by kernel_rfl) (by kernel_rfl) ?_ hHeld ?_
      · go_simp
      refine Rg.take (ops := (Rg.opsOf Tryz.f39 5)) 8 (some 32) ((.pointer (some ⟨bx, 2, none⟩))) hNS (by kernel_rfl) (by kernel_rfl) (by kernel_rfl) (by kernel_rfl) (by kernel_rfl) hHeld (Rg.y_field (T := 76) (k := 2) (x := (Operand.tmp 8)) (vx := (.pointer (some ⟨bx, 0, none⟩))) (by kernel_rfl) (by kernel_rfl) ?_) ?_
      · (intro w hSw; go_simp)
      refine Rg.call (ops := (Rg.opsOf Tryz.f39 5)) (fn := Tryz.f89) (xs := #[Operand.tmp 29, Operand.tmp 30]) (ats := #[9, 3]) 7 (some 31) 89 #[(.string x.kept), (.int .i64 bit)] (by kernel_rfl) (by kernel_rfl) (by kernel_rfl) (by kernel_rfl) (by kernel_rfl) Tryz.func89 (by kernel_rfl) (by kernel_rfl) (by kernel_rfl) ?_
      refine (ct2 _).mono ?_
      rintro e w4 ⟨rfl, hb4⟩
      have hbox4 := hbox.below (below_call (below_call hBd hb3) hb4)
      obtain ⟨m0, m1, m2, m3, m4, m5, m6⟩ := hbox4.cell
      have hw4 := hbox4.warm
      refine ⟨_, rfl, trivial, fun hHeld => ?_⟩
      refine Rg.store (ops := (Rg.opsOf Tryz.f39 5)) 9 (T := 9) (x := (Operand.tmp 32)) (y := (Operand.tmp 27)) (vx := (.pointer (some ⟨bx, 2, none⟩))) (vy := (.string TX)) (w1 := w4.setCell ⟨bx, 2, none⟩ (.string TX)) (by kernel_rfl) (by kernel_rfl) (by kernel_rfl) (by kernel_rfl) (by kernel_rfl) (by kernel_rfl) (by kernel_rfl) ?_ (trivial) (fun hHeld => ?_)
      · go_simp
      refine Rg.take (ops := (Rg.opsOf Tryz.f39 5)) 10 (some 33) ((.pointer (some ⟨bx, 3, none⟩))) hNS (by kernel_rfl) (by kernel_rfl) (by kernel_rfl) (by kernel_rfl) (by kernel_rfl) hHeld (Rg.y_field (T := 76) (k := 3) (x := (Operand.tmp 8)) (vx := (.pointer (some ⟨bx, 0, none⟩))) (by kernel_rfl) (by kernel_rfl) ?_) ?_
      · (intro w hSw; go_simp)
      refine Rg.store (ops := (Rg.opsOf Tryz.f39 5)) 11 (T := 9) (x := (Operand.tmp 33)) (y := (Operand.tmp 31)) (vx := (.pointer (some ⟨bx, 3, none⟩))) (vy := (.string TK)) (w1 := (w4.setCell ⟨bx, 2, none⟩ (.string TX)).setCell ⟨bx, 3, none⟩ (.string TK)) (by kernel_rfl) (by kernel_rfl) (by kernel_rfl) (by kernel_rfl) (by kernel_rfl) (by kernel_rfl) (by kernel_rfl) ?_ (trivial) (fun hHeld => ?_)
      · go_simp
      refine Rg.done (ops := (Rg.opsOf Tryz.f39 5)) (by kernel_rfl) ?_
      exact ⟨by kernel_rfl, w4, below_call (below_call hBd hb3) hb4, rfl⟩
    · refine Rg.op_load (ops := (Rg.opsOf Tryz.f39 5)) 5 (some 29) (T := 9) (x := (Operand.tmp 28)) (vx := (.pointer (some ⟨bx, 3, none⟩))) (v := (.string x.kept)) (by kernel_rfl) (by kernel_rfl) (by kernel_rfl) (by kernel_rfl) (by kernel_rfl) ?_ hHeld ?_
      · go_simp
      refine Rg.call (ops := (Rg.opsOf Tryz.f39 5)) (fn := Tryz.f89) (xs := #[Operand.tmp 25, Operand.tmp 26]) (ats := #[9, 3]) 3 (some 27) 89 #[(.string x.data), (.int .i64 bit)] (by kernel_rfl) (by kernel_rfl) (by kernel_rfl) (by kernel_rfl) (by kernel_rfl) Tryz.func89 (by kernel_rfl) (by kernel_rfl) (by kernel_rfl) ?_
      refine (ct1 _).mono ?_
      rintro e w3 ⟨rfl, hb3⟩
      have g2 := (hbox.below (below_call hBd hb3)).cell.2.2.1
      have g3 := (hbox.below (below_call hBd hb3)).cell.2.2.2.1
      refine ⟨_, rfl, trivial, fun hHeld => ?_⟩
      refine Rg.take (ops := (Rg.opsOf Tryz.f39 5)) 8 (some 32) ((.pointer (some ⟨bx, 2, none⟩))) hNS (by kernel_rfl) (by kernel_rfl) (by kernel_rfl) (by kernel_rfl) (by kernel_rfl) hHeld (Rg.y_field (T := 76) (k := 2) (x := (Operand.tmp 8)) (vx := (.pointer (some ⟨bx, 0, none⟩))) (by kernel_rfl) (by kernel_rfl) ?_) ?_
      · (intro w hSw; go_simp)
      refine Rg.call (ops := (Rg.opsOf Tryz.f39 5)) (fn := Tryz.f89) (xs := #[Operand.tmp 29, Operand.tmp 30]) (ats := #[9, 3]) 7 (some 31) 89 #[(.string x.kept), (.int .i64 bit)] (by kernel_rfl) (by kernel_rfl) (by kernel_rfl) (by kernel_rfl) (by kernel_rfl) Tryz.func89 (by kernel_rfl) (by kernel_rfl) (by kernel_rfl) ?_
      refine (ct2 _).mono ?_
      rintro e w4 ⟨rfl, hb4⟩
      have hbox4 := hbox.below (below_call (below_call hBd hb3) hb4)
      obtain ⟨m0, m1, m2, m3, m4, m5, m6⟩ := hbox4.cell
      have hw4 := hbox4.warm
      refine ⟨_, rfl, trivial, fun hHeld => ?_⟩
      refine Rg.store (ops := (Rg.opsOf Tryz.f39 5)) 9 (T := 9) (x := (Operand.tmp 32)) (y := (Operand.tmp 27)) (vx := (.pointer (some ⟨bx, 2, none⟩))) (vy := (.string TX)) (w1 := w4.setCell ⟨bx, 2, none⟩ (.string TX)) (by kernel_rfl) (by kernel_rfl) (by kernel_rfl) (by kernel_rfl) (by kernel_rfl) (by kernel_rfl) (by kernel_rfl) ?_ (trivial) (fun hHeld => ?_)
      · go_simp
      refine Rg.take (ops := (Rg.opsOf Tryz.f39 5)) 10 (some 33) ((.pointer (some ⟨bx, 3, none⟩))) hNS (by kernel_rfl) (by kernel_rfl) (by kernel_rfl) (by kernel_rfl) (by kernel_rfl) hHeld (Rg.y_field (T := 76) (k := 3) (x := (Operand.tmp 8)) (vx := (.pointer (some ⟨bx, 0, none⟩))) (by kernel_rfl) (by kernel_rfl) ?_) ?_
      · (intro w hSw; go_simp)
      refine Rg.store (ops := (Rg.opsOf Tryz.f39 5)) 11 (T := 9) (x := (Operand.tmp 33)) (y := (Operand.tmp 31)) (vx := (.pointer (some ⟨bx, 3, none⟩))) (vy := (.string TK)) (w1 := (w4.setCell ⟨bx, 2, none⟩ (.string TX)).setCell ⟨bx, 3, none⟩ (.string TK)) (by kernel_rfl) (by kernel_rfl) (by kernel_rfl) (by kernel_rfl) (by kernel_rfl) (by kernel_rfl) (by kernel_rfl) ?_ (trivial) (fun hHeld => ?_)
      · go_simp
      refine Rg.done (ops := (Rg.opsOf Tryz.f39 5)) (by kernel_rfl) ?_
      exact ⟨by kernel_rfl, w4, below_call (below_call hBd hb3) hb4, rfl⟩
  · refine Rg.op_load (ops := (Rg.opsOf Tryz.f39 5)) 5 (some 29) (T := 9) (x := (Operand.tmp 28)) (vx := (.pointer (some ⟨bx, 3, none⟩))) (v := (.string x.kept)) (by kernel_rfl) (by kernel_rfl) (by kernel_rfl) (by kernel_rfl) (by kernel_rfl) ?_ hHeld ?_
    · go_simp
    refine Rg.one (ops := (Rg.opsOf Tryz.f39 5)) (i := 1) (by kernel_rfl) ?_
    refine Rg.op_load (ops := (Rg.opsOf Tryz.f39 5)) 1 (some 25) (T := 9) (x := (Operand.tmp 24)) (vx := (.pointer (some ⟨bx, 2, none⟩))) (v := (.string x.data)) (by kernel_rfl) (by kernel_rfl) (by kernel_rfl) (by kernel_rfl) (by kernel_rfl) ?_ hHeld ?_
    · go_simp
    refine Rg.call (ops := (Rg.opsOf Tryz.f39 5)) (fn := Tryz.f89) (xs := #[Operand.tmp 25, Operand.tmp 26]) (ats := #[9, 3]) 3 (some 27) 89 #[(.string x.data), (.int .i64 bit)] (by kernel_rfl) (by kernel_rfl) (by kernel_rfl) (by kernel_rfl) (by kernel_rfl) Tryz.func89 (by kernel_rfl) (by kernel_rfl) (by kernel_rfl) ?_
    refine (ct1 _).mono ?_
    rintro e w3 ⟨rfl, hb3⟩
    have g2 := (hbox.below (below_call hBd hb3)).cell.2.2.1
    have g3 := (hbox.below (below_call hBd hb3)).cell.2.2.2.1
    refine ⟨_, rfl, trivial, fun hHeld => ?_⟩
    refine Rg.take (ops := (Rg.opsOf Tryz.f39 5)) 8 (some 32) ((.pointer (some ⟨bx, 2, none⟩))) hNS (by kernel_rfl) (by kernel_rfl) (by kernel_rfl) (by kernel_rfl) (by kernel_rfl) hHeld (Rg.y_field (T := 76) (k := 2) (x := (Operand.tmp 8)) (vx := (.pointer (some ⟨bx, 0, none⟩))) (by kernel_rfl) (by kernel_rfl) ?_) ?_
    · (intro w hSw; go_simp)
    refine Rg.call (ops := (Rg.opsOf Tryz.f39 5)) (fn := Tryz.f89) (xs := #[Operand.tmp 29, Operand.tmp 30]) (ats := #[9, 3]) 7 (some 31) 89 #[(.string x.kept), (.int .i64 bit)] (by kernel_rfl) (by kernel_rfl) (by kernel_rfl) (by kernel_rfl) (by kernel_rfl) Tryz.func89 (by kernel_rfl) (by kernel_rfl) (by kernel_rfl) ?_
    refine (ct2 _).mono ?_
    rintro e w4 ⟨rfl, hb4⟩
    have hbox4 := hbox.below (below_call (below_call hBd hb3) hb4)
    obtain ⟨m0, m1, m2, m3, m4, m5, m6⟩ := hbox4.cell
    have hw4 := hbox4.warm
    refine ⟨_, rfl, trivial, fun hHeld => ?_⟩
    refine Rg.store (ops := (Rg.opsOf Tryz.f39 5)) 9 (T := 9) (x := (Operand.tmp 32)) (y := (Operand.tmp 27)) (vx := (.pointer (some ⟨bx, 2, none⟩))) (vy := (.string TX)) (w1 := w4.setCell ⟨bx, 2, none⟩ (.string TX)) (by kernel_rfl) (by kernel_rfl) (by kernel_rfl) (by kernel_rfl) (by kernel_rfl) (by kernel_rfl) (by kernel_rfl) ?_ (trivial) (fun hHeld => ?_)
    · go_simp
    refine Rg.take (ops := (Rg.opsOf Tryz.f39 5)) 10 (some 33) ((.pointer (some ⟨bx, 3, none⟩))) hNS (by kernel_rfl) (by kernel_rfl) (by kernel_rfl) (by kernel_rfl) (by kernel_rfl) hHeld (Rg.y_field (T := 76) (k := 3) (x := (Operand.tmp 8)) (vx := (.pointer (some ⟨bx, 0, none⟩))) (by kernel_rfl) (by kernel_rfl) ?_) ?_
    · (intro w hSw; go_simp)
    refine Rg.store (ops := (Rg.opsOf Tryz.f39 5)) 11 (T := 9) (x := (Operand.tmp 33)) (y := (Operand.tmp 31)) (vx := (.pointer (some ⟨bx, 3, none⟩))) (vy := (.string TK)) (w1 := (w4.setCell ⟨bx, 2, none⟩ (.string TX)).setCell ⟨bx, 3, none⟩ (.string TK)) (by kernel_rfl) (by kernel_rfl) (by kernel_rfl) (by kernel_rfl) (by kernel_rfl) (by kernel_rfl) (by kernel_rfl) ?_ (trivial) (fun hHeld => ?_)
    · go_simp
    refine Rg.done (ops := (Rg.opsOf Tryz.f39 5)) (by kernel_rfl) ?_
    exact ⟨by kernel_rfl, w4, below_call (below_call hBd hb3) hb4, rfl⟩
end Go.Proofs.YtdpnmdnfnplcfaaGreat.Dk

namespace Go.Proofs.YtdpnmdnfnplcfaaGreat.Dk
open Go.RowKit Tx Pm
set_option linter.unusedVariables false
def mk (p : ByteArray) : It := ⟨p, false, ⟨#[]⟩, ⟨#[]⟩, false, false, 0⟩
def old (l : List It) (p : ByteArray) : It := (find l p).getD (mk p)
def syncS (s : St) (p : ByteArray) : Nat × St :=
  if there s p ≠ 0 then (there s p, s) else if (done s).1 ≠ 0 then done s else
  (0, { (done s).2 with L := ins (done s).2.L { old s.L p with kept := (old s.L p).data, loose := false, anew := false } })
def appendS (s : St) (p d : ByteArray) : Nat × St :=
  if there s p ≠ 0 then (there s p, s) else if fits s p d.size = false then (13, s) else if (done s).1 ≠ 0 then done s else
  (0, putS (done s).2 { old s.L p with data := (old s.L p).data ++ d, loose := true })
def removeS (s : St) (p : ByteArray) : Nat × St :=
  if first s p 0 ≠ 0 then (first s p 0, s) else if kind s.L p = 0 then (11, s) else if list s.L p ≠ [] then (12, s) else if (done s).1 ≠ 0 then done s else
  (0, { (done s).2 with L := drop (done s).2.L p })
theorem there_file {s : St} {p : ByteArray} (h : there s p = 0) : ∃ (k : Nat) (x : It), k < s.L.length ∧ s.L[k]? = some x ∧ find s.L p = some x ∧ placeI s.L p = k ∧ x.path = p ∧ x.dir = false := by
  unfold there at h
  split at h
  · omega
  · split at h
    · omega
    · split at h
      · omega
      · rename_i h1 h2 h3
        rcases find_cases s.L p with ⟨hf, _⟩ | ⟨k, x, a, b, c, d, e⟩
        · rw [kind, hf] at h2
          exact absurd rfl h2
        · refine ⟨k, x, a, b, c, d, e, ?_⟩
          rw [kind, c, kindOf] at h3
          cases hd : x.dir with
          | false => rfl
          | true => rw [hd] at h3; exact absurd rfl h3
theorem shows {b : Nat} {s : St} {g c k : Nat} {vR : Value} {x : It} (hx : s.L[k]? = some x) : Shows b s g s.L.length c k vR x := by
  intro W hW
  have := hW.seen (Below.refl _ _)
  obtain ⟨g', hg', d⟩ := this.it k x hx
  cases hg'
  exact ⟨this.c0, d⟩
theorem to_done {w w1 w2 : World} {b : Nat} {s : St} {vL vR : Value} {k : Nat} {e : Ending} (hb : Below w.heap.size w w1) (hc : Chg (· = b) w1 w2) (he : e = .returned (.int .i64 (k : Nat))) (hat : At w2 b s vL vR) : To w b vL vR (k, s) e w2 :=
  ⟨he, vL, vR, hat, ((Chg.of_below hb).trans (G := (· = b)) hc (fun i hi => .inl hi)).mono foot_b, fun g hg => .inl hg⟩
set_option maxRecDepth 100000 in
set_option maxHeartbeats 2000000 in
theorem rAppend_any (b : Nat) (s : St) (vL vR : Value) (p d : ByteArray) (w : World) (h : At w b s vL vR) (ok : Ok s) (hp : p.size ≤ 8000000000000) (hd : ∀ x ∈ s.L, x.data.size + d.size ≤ 100000000000000) (hd2 : d.size ≤ 100000000000000) :
    Calls Tryz.prog 36 #[.pointer (some ⟨b, 0, none⟩), .string p, .string d] w (To w b vL vR (appendS s p d)) := by
  have c1 := rThere_any b s vL vR p w h ok.fit hp
  have c4 := fun W (hW : Below w.heap.size w W) => rDone_any b s vL vR W (h.below hW) ok.steps ok.armed
  have c3 := fun W (hW : Below w.heap.size w W) => rFits_any b s vL vR p d.size W (h.below hW) ok.fit ok.rooms hp (by omega)
  have HSM := Lib.hid (fun (e : Ending) (w' : World) (k : Nat) (he : e = .returned (.int .i64 (k : Nat))) (hb : Below w.heap.size w w') => to_same (vL := vL) (vR := vR) h he hb)
  unfold appendS
  by_cases h1 : there s p = 0
  · obtain ⟨Fi, hFi⟩ : ∃ Fi, Fi = fits s p d.size := ⟨_, rfl⟩
    rw [← hFi] at c3 ⊢
    clear hFi
    obtain ⟨k, x, hk, hx, hf, hpl, hxx⟩ := there_file h1
    clear hxx
    have ho : old s.L p = x := by rw [old, hf]; rfl
    have hn := ok.fit.1
    have hxd := hd x (List.mem_of_getElem? hx)
    rw [h1] at c1 ⊢
    rw [if_neg (by decide), ho]
    have HL := done_L s
    have HD := done_code s
    have hst : (done s).2.stamps ≤ 1000000000000 := by rw [done_stamps]; exact ok.stamps
    have c2 := fun W (hW : At W b (done s).2 vL vR) => rPlace_any b (done s).2 vL vR p W hW (by rw [HL]; omega)
    have c6 := fun W (hW : At W b (done s).2 vL vR) => rStamped_any b (done s).2 vL vR { x with data := x.data ++ d, loose := true } W hW hst
    have c5 := fun W (hW : At W b { (done s).2 with stamps := (done s).2.stamps + 1 } vL vR) => rPut_any b { (done s).2 with stamps := (done s).2.stamps + 1 } vL vR (stamped (done s).2 { x with data := x.data ++ d, loose := true }) W hW (by show (done s).2.L.length ≤ _; rw [HL]; exact hn)
    rw [HL, hpl] at c2
    obtain ⟨A, c, rfl, _, _, _⟩ := h.rowL.form
    obtain ⟨gA, hgA, _⟩ := (h.seen (Below.refl _ _)).it k x hx
    subst hgA
    have hsh : Shows b (done s).2 gA s.L.length c k vR x := by rw [← HL] at hx ⊢; exact shows hx
    obtain ⟨DE, DS⟩ : ∃ DE, DE = done s := ⟨_, rfl⟩
    rw [← DS] at c4 c2 c5 HD HL hsh c6 ⊢
    obtain ⟨dE, dS⟩ := DE
    simp only at c4 c2 c5 HD HL hsh c6 ⊢
    unfold putS
    obtain ⟨XP, XD, XX, XK, XLO, XA, XS⟩ := x
    unfold stamped iv at c5 c6
    simp only at c5 c6 hxd
    unfold stamped
    simp only
    obtain ⟨n, hnn⟩ : ∃ n, n = s.L.length := ⟨_, rfl⟩
    rw [← hnn] at c4 c2 c5 hsh HSM hk hn c6 ⊢
    have HSH := Lib.hid hsh
    clear h1 hx hf hpl ho DS hsh hst hnn
    clear h ok hd
    cases Fi with
    | false =>
      rw [if_pos rfl]
      go_enter Tryz.func36, Tryz.ntmps36
      go_wp2_with (first | (go_at_call 85; refine c1.mono ?_; rintro e w1 ⟨rfl, hb1⟩) | (go_at_call 74; refine (c3 _ hb1).mono ?_; rintro e w2 ⟨rfl, hb2⟩))
      go_ret
      exact HSM.out _ _ _ rfl (below_call hb1 hb2)
    | true =>
      rw [if_neg (by decide)]
      rcases HD with rfl | rfl
      · rw [if_neg (by decide)]
        go_enter Tryz.func36, Tryz.ntmps36
        go_wp2_with (first | (go_at_call 85; refine c1.mono ?_; rintro e w1 ⟨rfl, hb1⟩) | (go_at_call 74; refine (c3 _ hb1).mono ?_; rintro e w2 ⟨rfl, hb2⟩) | (go_at_call 71; refine (c4 _ (below_call hb1 hb2)).mono ?_; rintro e w3 ⟨rfl, hat3, hc3⟩))
        refine Rg.wp_only ?_ (getAppend _ (by kernel_rfl) _ b dS gA n c k vR p XP XX XK XD XLO XA XS _ hat3 HSH.out hk (by omega) c2)
        rintro _ w9 ⟨rfl, rfl⟩
        have hB9 : ∀ o, Below w3.heap.size w3 (w3.alloc o).drew := fun o => ((Below.refl _ _).alloc (Nat.le_refl _) _).drew
        go_wp2_with fail
        go_at_call 75
        refine (c6 _ (hat3.below (hB9 _))).mono ?_
        rintro e w5 ⟨rfl, hat5, hc5⟩
        go_wp2_with (go_at_call 72; refine (c5 _ hat5).mono ?_; rintro e w4 ⟨⟨v4, rfl⟩, vL4, hat4, hn4, hc4⟩)
        go_ret
        exact to_put (below_call hb1 hb2) ((hc3.then (Chg.of_below (hB9 _))).then hc5) rfl hat4 hn4 hc4
      · rw [if_pos (by decide)]
        go_enter Tryz.func36, Tryz.ntmps36
        go_wp2_with (first | (go_at_call 85; refine c1.mono ?_; rintro e w1 ⟨rfl, hb1⟩) | (go_at_call 74; refine (c3 _ hb1).mono ?_; rintro e w2 ⟨rfl, hb2⟩) | (go_at_call 71; refine (c4 _ (below_call hb1 hb2)).mono ?_; rintro e w3 ⟨rfl, hat3, hc3⟩))
        go_ret
        exact to_done (below_call hb1 hb2) hc3 rfl hat3
  · rw [if_pos h1]
    obtain ⟨E, hE⟩ : ∃ E, E = there s p := ⟨_, rfl⟩
    rw [← hE] at c1 h1 ⊢
    have e1 : ((E : Int) == 0) = false := beq_eq_false_iff_ne.2 (by omega)
    clear hE c4 c3 h ok hd
    go_enter Tryz.func36, Tryz.ntmps36
    go_wp2_with (go_at_call 85; refine c1.mono ?_; rintro e w1 ⟨rfl, hb1⟩)
    go_ret
    exact HSM.out _ _ _ rfl hb1
end Go.Proofs.YtdpnmdnfnplcfaaGreat.Dk

namespace Go.Proofs.YtdpnmdnfnplcfaaGreat.Dk
open Go.RowKit Tx Pm
set_option linter.unusedVariables false
set_option maxRecDepth 100000 in
set_option maxHeartbeats 2000000 in
theorem rRemove_any (b : Nat) (s : St) (vL vR : Value) (p : ByteArray) (w : World) (h : At w b s vL vR) (ok : Ok s) (hp : p.size ≤ 8000000000000) :
    Calls Tryz.prog 32 #[.pointer (some ⟨b, 0, none⟩), .string p] w (To w b vL vR (removeS s p)) := by
  have c1 := rFirst_any b s vL vR p 0 w h hp (by omega)
  have c2 := fun W (hW : Below w.heap.size w W) => rKind_any b s vL vR p W (h.below hW) (by have := ok.fit.1; omega)
  have c3 := fun W (hW : Below w.heap.size w W) => rList_any b s vL vR p W (h.below hW) ok.fit
  have c4 := fun W (hW : Below w.heap.size w W) => rDone_any b s vL vR W (h.below hW) ok.steps ok.armed
  have c5 := fun W (hW : At W b (done s).2 vL vR) => rDrop_any b (done s).2 vL vR p W hW (by rw [done_L]; exact ok.fit.1)
  have HSM := Lib.hid (fun (e : Ending) (w' : World) (k : Nat) (he : e = .returned (.int .i64 (k : Nat))) (hb : Below w.heap.size w w') => to_same (vL := vL) (vR := vR) h he hb)
  have HD := done_code s
  unfold removeS
  obtain ⟨E, hE⟩ : ∃ E, E = first s p 0 := ⟨_, rfl⟩
  obtain ⟨K, hK⟩ : ∃ K, K = kind s.L p := ⟨_, rfl⟩
  obtain ⟨LL, hLL⟩ : ∃ LL, LL = list s.L p := ⟨_, rfl⟩
  rw [← hE] at c1 ⊢
  rw [← hK] at c2 ⊢
  rw [← hLL] at c3 ⊢
  obtain ⟨DE, DS⟩ : ∃ DE, DE = done s := ⟨_, rfl⟩
  rw [← DS] at c4 c5 HD ⊢
  clear hE hK hLL DS h ok
  obtain ⟨dE, dS⟩ := DE
  simp only at c4 c5 HD ⊢
  by_cases h1 : E = 0
  · subst h1
    rw [if_neg (by decide)]
    by_cases h2 : K = 0
    · subst h2
      rw [if_pos rfl]
      go_enter Tryz.func32, Tryz.ntmps32
      go_wp2_with (first | (go_at_call 69; refine c1.mono ?_; rintro e w1 ⟨rfl, hb1⟩) | (go_at_call 41; refine (c2 _ hb1).mono ?_; rintro e w2 ⟨rfl, rfl⟩))
      go_ret
      exact HSM.out _ _ _ rfl hb1
    · rw [if_neg h2]
      have e2 : ((K : Int) == 0) = false := beq_eq_false_iff_ne.2 (by omega)
      obtain ⟨m, hm⟩ : ∃ m, m = LL.length := ⟨_, rfl⟩
      by_cases h3 : LL = []
      · rw [if_neg (fun hh => hh h3)]
        have hm0 : m = 0 := by rw [hm, h3]; rfl
        rcases HD with rfl | rfl
        · rw [if_neg (by decide)]
          clear h3
          go_enter Tryz.func32, Tryz.ntmps32
          go_wp2_with (first | (go_at_call 69; refine c1.mono ?_; rintro e w1 ⟨rfl, hb1⟩) | (go_at_call 41; refine (c2 _ hb1).mono ?_; rintro e w2 ⟨rfl, rfl⟩) | (go_at_call 78; refine (c3 _ hb1).mono ?_; rintro e w3 ⟨v3, rfl, ht3, hb3⟩; obtain ⟨a3, k3, rfl, _, _, _⟩ := ht3.form; rw [← hm, hm0]; clear ht3))
          go_at_call 71
          refine (c4 _ (below_call hb1 hb3)).mono ?_
          rintro e w4 ⟨rfl, hat4, hc4⟩
          go_wp2_with (go_at_call 79; refine (c5 _ hat4).mono ?_; rintro e w5 ⟨⟨v5, rfl⟩, vL5, hat5, hn5, hc5⟩)
          go_ret
          exact to_put (below_call hb1 hb3) hc4 rfl hat5 hn5 hc5
        · rw [if_pos (by decide)]
          clear h3
          go_enter Tryz.func32, Tryz.ntmps32
          go_wp2_with (first | (go_at_call 69; refine c1.mono ?_; rintro e w1 ⟨rfl, hb1⟩) | (go_at_call 41; refine (c2 _ hb1).mono ?_; rintro e w2 ⟨rfl, rfl⟩) | (go_at_call 78; refine (c3 _ hb1).mono ?_; rintro e w3 ⟨v3, rfl, ht3, hb3⟩; obtain ⟨a3, k3, rfl, _, _, _⟩ := ht3.form; rw [← hm, hm0]; clear ht3))
          go_at_call 71
          refine (c4 _ (below_call hb1 hb3)).mono ?_
          rintro e w4 ⟨rfl, hat4, hc4⟩
          go_wp2_with fail
          go_ret
          exact to_done (below_call hb1 hb3) hc4 rfl hat4
      · rw [if_pos h3]
        have hm0 : 0 < m := by rw [hm]; exact List.length_pos_iff.2 h3
        clear h3
        go_enter Tryz.func32, Tryz.ntmps32
        go_wp2_with (first | (go_at_call 69; refine c1.mono ?_; rintro e w1 ⟨rfl, hb1⟩) | (go_at_call 41; refine (c2 _ hb1).mono ?_; rintro e w2 ⟨rfl, rfl⟩) | (go_at_call 78; refine (c3 _ hb1).mono ?_; rintro e w3 ⟨v3, rfl, ht3, hb3⟩; obtain ⟨a3, k3, rfl, _, _, _⟩ := ht3.form; rw [← hm]; clear ht3))
        go_ret
        exact HSM.out _ _ _ rfl (below_call hb1 hb3)
  · have e1 : ((E : Int) == 0) = false := beq_eq_false_iff_ne.2 (by omega)
    rw [if_pos h1]
    go_enter Tryz.func32, Tryz.ntmps32
    go_wp2_with (go_at_call 69; refine c1.mono ?_; rintro e w1 ⟨rfl, hb1⟩)
    go_ret
    exact HSM.out _ _ _ rfl hb1
end Go.Proofs.YtdpnmdnfnplcfaaGreat.Dk

namespace Go.Proofs.YtdpnmdnfnplcfaaGreat.Dk
open Go.RowKit Tx Pm
set_option linter.unusedVariables false
def writeS (s : St) (p d : ByteArray) : Nat × St :=
  if first s p 1 ≠ 0 then (first s p 1, s) else if home s.L p = false then (11, s) else if kind s.L p = 1 then (12, s) else
  if fits s p ((d.size : Int) - ((old s.L p).data.size : Int)) = false then (13, s) else if (done s).1 ≠ 0 then done s else
  (0, putS (done s).2 { old s.L p with data := d, loose := true, anew := true })
theorem le_whole {l : List It} {x : It} (h : x ∈ l) : x.data.size ≤ whole l := by
  induction l with
  | nil => cases h
  | cons y l ih =>
    unfold whole at ih ⊢
    rw [List.map_cons, List.sum_cons]
    rcases List.mem_cons.1 h with rfl | h
    · omega
    · have := ih h
      omega
theorem to_put2 {w w1 w2 : World} {b : Nat} {s : St} {vL vR vL' : Value} {k : Nat} {e : Ending} (hc : Chg (fun i => i = b ∨ w.heap.size ≤ i) w w1) (he : e = .returned (.int .i64 (k : Nat)))
    (hat : At w2 b s vL' vR) (hnew : ∀ g, vL'.ownBlock = some g → w1.heap.size ≤ g) (hc2 : Chg (· = b) w1 w2) : To w b vL vR (k, s) e w2 := by
  have hs1 := hc.size
  refine ⟨he, vL', vR, hat, ?_, ?_⟩
  · have h2 := hc.trans (G := (· = b)) hc2 (fun i hi => .inl (.inl hi))
    exact ⟨h2.os, h2.tape, h2.output, h2.size, fun i hi hn => h2.block i hi (fun h => by rcases h with h | h; exact hn (.inl h); omega)⟩
  · rintro g (rfl | hg | hg)
    · exact .inl (.inl rfl)
    · have := hnew g hg
      exact .inr (by omega)
    · exact .inl (.inr (.inr hg))
theorem Box.chg {w w1 : World} {F : Nat → Prop} {bx : Nat} {x : It} (h : Box w bx x) (hc : Chg F w w1) (hn : ¬ F bx) : Box w1 bx x := ⟨(hc.block bx (Array.getElem?_eq_some_iff.1 h.blk).1 hn).trans h.blk⟩
theorem At.set {w : World} {b bx k : Nat} {s : St} {vL vR : Value} (h : At w b s vL vR) (hf : ¬ Foot b vL vR bx) (u : Value) : At (w.setCell ⟨bx, k, none⟩ u) b s vL vR :=
  h.kept (fun i hi => set_other u (fun e => hf (e ▸ hi)))
theorem write_chg {w w5 w6 : World} {b bx : Nat} {u1 u2 u3 : Value} (hb : Below w.heap.size w w5) (hc : Chg (· = b) w5 w6) (hge : w.heap.size ≤ bx) :
    Chg (fun i => i = b ∨ w.heap.size ≤ i) w (((w6.setCell ⟨bx, 2, none⟩ u1).setCell ⟨bx, 4, none⟩ u2).setCell ⟨bx, 5, none⟩ u3) := by
  have h1 := (Chg.of_below (F := fun i => i = b ∨ w.heap.size ≤ i) hb).trans (G := (· = b)) hc (fun i hi => .inl (.inl hi))
  have hs : ∀ (W : World) (k : Nat) (u : Value), Chg (fun i => i = b ∨ w.heap.size ≤ i) W (W.setCell ⟨bx, k, none⟩ u) := fun W k u => (chg_set u).mono (fun i hi => .inr (by rw [hi]; exact hge))
  exact ((h1.then (hs _ _ _)).then (hs _ _ _)).then (hs _ _ _)
set_option maxRecDepth 100000 in
set_option maxHeartbeats 2000000 in
theorem rWrite_any (b : Nat) (s : St) (vL vR : Value) (p d : ByteArray) (w : World) (h : At w b s vL vR) (ok : Ok s) (hp : p.size ≤ 8000000000000) (hd : d.size ≤ 1000000000000000000) :
    Calls Tryz.prog 30 #[.pointer (some ⟨b, 0, none⟩), .string p, .string d] w (To w b vL vR (writeS s p d)) := by
  have c1 := rFirst_any b s vL vR p 1 w h hp (by omega)
  have c2 := fun W (hW : Below w.heap.size w W) => rHome_any b s vL vR p W (h.below hW) ok.fit hp
  have c3 := fun W (hW : Below w.heap.size w W) => rKind_any b s vL vR p W (h.below hW) (by have := ok.fit.1; omega)
  have c4 := fun W (hW : Below w.heap.size w W) => rDone_any b s vL vR W (h.below hW) ok.steps ok.armed
  have HSM := Lib.hid (fun (e : Ending) (w' : World) (k : Nat) (he : e = .returned (.int .i64 (k : Nat))) (hb : Below w.heap.size w w') => to_same (vL := vL) (vR := vR) h he hb)
  have HD := done_code s
  have HL := done_L s
  have hn := ok.fit.1
  have hst : (done s).2.stamps ≤ 1000000000000 := by rw [done_stamps]; exact ok.stamps
  have hXd : (old s.L p).data.size ≤ 4000000000000000000 := by
    unfold old
    rcases find_cases s.L p with ⟨hf, _⟩ | ⟨k, x, hk, hx, hf, _⟩
    · rw [hf]; exact Nat.zero_le _
    · rw [hf]
      exact Nat.le_trans (le_whole (List.mem_of_getElem? hx)) ok.fit.2.2
  have c7 := fun W (hW : Below w.heap.size w W) => rFits_any b s vL vR p ((d.size : Int) - ((old s.L p).data.size : Int)) W (h.below hW) ok.fit ok.rooms hp (by omega)
  have c6 := fun W (hW : At W b (done s).2 vL vR) => rStamped_any b (done s).2 vL vR { old s.L p with data := d, loose := true, anew := true } W hW hst
  have c5 := fun W (hW : At W b { (done s).2 with stamps := (done s).2.stamps + 1 } vL vR) => rPut_any b { (done s).2 with stamps := (done s).2.stamps + 1 } vL vR (stamped (done s).2 { old s.L p with data := d, loose := true, anew := true }) W hW (by show (done s).2.L.length ≤ _; rw [HL]; exact hn)
  have hfoot := h.lt
  have HF := Lib.hid hfoot
  unfold writeS
  obtain ⟨E, hE⟩ : ∃ E, E = first s p 1 := ⟨_, rfl⟩
  obtain ⟨H, hH⟩ : ∃ H, H = home s.L p := ⟨_, rfl⟩
  obtain ⟨Fi, hFi⟩ : ∃ Fi, Fi = fits s p ((d.size : Int) - ((old s.L p).data.size : Int)) := ⟨_, rfl⟩
  rw [← hE] at c1 ⊢
  rw [← hH] at c2 ⊢
  rw [← hFi] at c7 ⊢
  obtain ⟨DE, DS⟩ : ∃ DE, DE = done s := ⟨_, rfl⟩
  rw [← DS] at c4 c5 c6 HD HL ⊢
  obtain ⟨dE, dS⟩ := DE
  simp only at c4 c5 c6 HD HL ⊢
  unfold putS
  unfold iv stamped at c5 c6
  unfold stamped
  simp only at c5 c6 ⊢
  clear hE hH hFi DS hfoot hst
  by_cases h1 : E = 0
  rotate_left
  · have e1 : ((E : Int) == 0) = false := beq_eq_false_iff_ne.2 (by omega)
    rw [if_pos h1]
    go_enter Tryz.func30, Tryz.ntmps30
    go_wp2_with (go_at_call 69; refine c1.mono ?_; rintro e w1 ⟨rfl, hb1⟩)
    go_ret
    exact HSM.out _ _ _ rfl hb1
  subst h1
  rw [if_neg (by decide)]
  cases H with
  | false =>
    rw [if_pos rfl]
    go_enter Tryz.func30, Tryz.ntmps30
    go_wp2_with (first | (go_at_call 69; refine c1.mono ?_; rintro e w1 ⟨rfl, hb1⟩) | (go_at_call 70; refine (c2 _ hb1).mono ?_; rintro e w2 ⟨rfl, rfl⟩))
    go_ret
    exact HSM.out _ _ _ rfl hb1
  | true =>
    rw [if_neg (by decide)]
    rcases find_cases s.L p with ⟨hf, _⟩ | ⟨k, x, hk, hx, hf, hpl, hxp⟩
    · have ho : old s.L p = mk p := by rw [old, hf]; rfl
      rw [kind, hf] at c3
      rw [kind, hf, ho, if_neg (by decide)]
      rw [ho] at c5 c6 c7
      unfold mk at c5 c6 c7 ⊢
      simp only at c5 c6 c7 ⊢
      rw [show kindOf none = 0 from rfl] at c3
      rename_i hun
      clear hf ho hun ok h HL hXd
      obtain ⟨r, hr⟩ : ∃ r, r = (if Fi = false then ((13 : Nat), s) else if dE ≠ 0 then (dE, dS) else (0, ({ L := ins dS.L ⟨p, false, d, ⟨#[]⟩, true, true, dS.stamps + 1⟩, rooms := dS.rooms, steps := dS.steps, stamps := dS.stamps + 1, armed := dS.armed, down := dS.down } : St))) := ⟨_, rfl⟩
      rw [← hr]
      have HR := Lib.hid hr
      clear hr
      go_enter Tryz.func30, Tryz.ntmps30
      go_wp2_with fail
      go_at_call 69
      refine c1.mono ?_
      rintro e w1 ⟨rfl, hb1⟩
      go_wp2_with (first | (go_at_call 70; refine (c2 _ hb1).mono ?_; rintro e w2 ⟨rfl, rfl⟩) | (go_at_call 41; refine (c3 _ (by first | exact hb1 | exact hb1.trans (((Below.refl _ _).alloc (Nat.le_refl _) _).mono hb1.size))).mono ?_; rintro e w2 ⟨rfl, rfl⟩))
      have hB : Below w.heap.size w (w1.alloc (.cells #[.string p, .bool false, .string ⟨#[]⟩, .string ⟨#[]⟩, .bool false, .bool false, .int .i64 0] 76)) := (hb1.trans (((Below.refl _ _).alloc (Nat.le_refl _) _).mono hb1.size))
      have hbox : Box (w1.alloc (.cells #[.string p, .bool false, .string ⟨#[]⟩, .string ⟨#[]⟩, .bool false, .bool false, .int .i64 0] 76)) w1.heap.size ⟨p, false, ⟨#[]⟩, ⟨#[]⟩, false, false, 0⟩ := ⟨heap_alloc_new _ _⟩
      obtain ⟨wB, hwB⟩ : ∃ wB, wB = (w1.alloc (.cells #[.string p, .bool false, .string ⟨#[]⟩, .string ⟨#[]⟩, .bool false, .bool false, .int .i64 0] 76)) := ⟨_, rfl⟩
      have hszB : w1.heap.size < wB.heap.size := by rw [hwB]; simp
      rw [← hwB] at hB hbox
      rw [← hwB]
      clear hwB
      obtain ⟨bx, hbx⟩ : ∃ bx, bx = w1.heap.size := ⟨_, rfl⟩
      have hnf : ¬ Foot b vL vR bx := fun hh => by have := HF.out _ hh; have := hb1.size; omega
      have hge : w.heap.size ≤ bx := by have := hb1.size; omega
      rw [← hbx] at hbox hszB
      rw [← hbx]
      have HNF := Lib.hid hnf
      have HGE := Lib.hid hge
      have HBX := Lib.hid hbox
      clear hnf hge hbx hb1
      obtain ⟨q0, q1, q2, q3, q4, q5, q6⟩ := hbox.cell
      simp only at q0 q1 q2 q3 q4 q5 q6
      clear hbox
      go_wp2_with fail
      go_at_call 74
      refine (c7 _ hB).mono ?_
      rintro e w5 ⟨rfl, hb5⟩
      have HBX5 := Lib.hid (HBX.out.below hb5)
      clear q0 q1 q2 q3 q4 q5 q6
      cases Fi with
      | false =>
        go_wp2_with fail
        go_ret
        rw [HR.out, if_pos (by first | rfl | trivial)]
        exact HSM.out _ _ _ rfl (below_call hB hb5)
      | true =>
        rcases HD with rfl | rfl
        · have HRR := Lib.hid (HR.out.trans ((if_neg (by decide)).trans (if_neg (by decide))))
          have hB5 := below_call hB hb5
          go_wp2_with fail
          go_at_call 71
          refine (c4 _ hB5).mono ?_
          rintro e w6 ⟨rfl, hat6, hc6⟩
          have hbne : bx ≠ b := fun hh => HNF.out (.inl hh)
          have hbox6 := HBX5.out.chg hc6 (fun hh => hbne hh)
          obtain ⟨q0, q1, q2, q3, q4, q5, q6⟩ := hbox6.cell
          simp only at q0 q1 q2 q3 q4 q5 q6
          have hwarm := hbox6.warm
          have HB5 := Lib.hid hB5
          have HC6 := Lib.hid hc6
          clear hbox6 hbne hc6 hB hb5 hB5
          go_wp2_with (go_at_call 75; refine (c6 _ (((hat6.set HNF.out _).set HNF.out _).set HNF.out _)).mono ?_; rintro e w7 ⟨rfl, hat7, hc7⟩)
          go_at_call 72
          refine (c5 _ hat7).mono ?_
          rintro e w8 ⟨⟨v8, rfl⟩, vL8, hat8, hn8, hc8⟩
          go_wp2_with fail
          go_ret
          rw [HRR.out]
          refine to_put2 (w1 := w7) ?_ rfl hat8 hn8 hc8
          refine (write_chg HB5.out HC6.out HGE.out).trans (G := (· = b)) hc7 (fun i hi => .inl (.inl hi))
        · have HRR := Lib.hid (HR.out.trans ((if_neg (by decide)).trans (if_pos (by decide))))
          go_wp2_with (go_at_call 71; refine (c4 _ (below_call hB hb5)).mono ?_; rintro e w6 ⟨rfl, hat6, hc6⟩)
          go_ret
          rw [HRR.out]
          exact to_done (below_call hB hb5) hc6 rfl hat6
    · have ho : old s.L p = x := by rw [old, hf]; rfl
      rw [kind, hf, kindOf] at c3
      rw [kind, hf, kindOf, ho]
      rw [ho] at c5 c6 c7 hXd
      obtain ⟨A, c, rfl, _, _, _⟩ := h.rowL.form
      obtain ⟨gA, hgA, _⟩ := (h.seen (Below.refl _ _)).it k x hx
      subst hgA
      have hsh : Shows b s gA s.L.length c k vR x := shows hx
      have c8 := fun W (hW : At W b s (.slice (some ⟨gA, 0, none⟩) s.L.length c) vR) => rPlace_any b s (.slice (some ⟨gA, 0, none⟩) s.L.length c) vR p W hW (by omega)
      rw [hpl] at c8
      obtain ⟨XP, XD, XX, XK, XLO, XA, XS⟩ := x
      simp only at hxp
      subst hxp
      simp only at c3 c5 c6 c7 hXd ⊢
      have HSH := Lib.hid hsh
      have HH := Lib.hid h
      have HK := Lib.hid hk
      have HNN := Lib.hid hn
      clear hf ho hpl hx ok h HL hsh hk hn
      cases XD with
      | true =>
        rw [if_pos rfl] at c3
        rw [if_pos rfl, if_pos rfl]
        go_enter Tryz.func30, Tryz.ntmps30
        go_wp2_with (first | (go_at_call 69; refine c1.mono ?_; rintro e w1 ⟨rfl, hb1⟩) | (go_at_call 70; refine (c2 _ hb1).mono ?_; rintro e w2 ⟨rfl, rfl⟩) | (go_at_call 41; refine (c3 _ hb1).mono ?_; rintro e w2 ⟨rfl, rfl⟩))
        go_ret
        exact HSM.out _ _ _ rfl hb1
      | false =>
        rw [if_neg (by decide)] at c3
        rw [show (if (false : Bool) = true then (1 : Nat) else 2) = 2 from rfl, if_neg (by decide : ¬ (2 : Nat) = 1)]
        obtain ⟨r, hr⟩ : ∃ r, r = (if Fi = false then ((13 : Nat), s) else if dE ≠ 0 then (dE, dS) else (0, ({ L := ins dS.L ⟨XP, false, d, XK, true, true, dS.stamps + 1⟩, rooms := dS.rooms, steps := dS.steps, stamps := dS.stamps + 1, armed := dS.armed, down := dS.down } : St))) := ⟨_, rfl⟩
        rw [← hr]
        have HR := Lib.hid hr
        clear hr
        go_enter Tryz.func30, Tryz.ntmps30
        go_wp2_with fail
        go_at_call 69
        refine c1.mono ?_
        rintro e w1 ⟨rfl, hb1⟩
        go_wp2_with (first | (go_at_call 70; refine (c2 _ hb1).mono ?_; rintro e w2 ⟨rfl, rfl⟩) | (go_at_call 41; refine (c3 _ (by first | exact hb1 | exact hb1.trans (((Below.refl _ _).alloc (Nat.le_refl _) _).mono hb1.size))).mono ?_; rintro e w2 ⟨rfl, rfl⟩))
        refine Rg.wp_only ?_ (getWrite _ (by kernel_rfl) _ b s gA s.L.length c k vR XP XP XX XK false XLO XA XS _ _ _ _ _ _ _ w1 (HH.out.below hb1) HSH.out HK.out (by have := HNN.out; omega) c8)
        rintro _ w9 ⟨rfl, rfl⟩
        have hB : Below w.heap.size w (w1.alloc (.cells #[.string XP, .bool false, .string XX, .string XK, .bool XLO, .bool XA, .int .i64 XS] 76)).drew := (hb1.trans (((Below.refl _ _).alloc (Nat.le_refl _) _).mono hb1.size)).drew
        have hbox : Box (w1.alloc (.cells #[.string XP, .bool false, .string XX, .string XK, .bool XLO, .bool XA, .int .i64 XS] 76)).drew w1.heap.size ⟨XP, false, XX, XK, XLO, XA, XS⟩ := ⟨heap_alloc_new _ _⟩
        obtain ⟨wB, hwB⟩ : ∃ wB, wB = (w1.alloc (.cells #[.string XP, .bool false, .string XX, .string XK, .bool XLO, .bool XA, .int .i64 XS] 76)).drew := ⟨_, rfl⟩
        have hszB : w1.heap.size < wB.heap.size := by rw [hwB]; simp
        rw [← hwB] at hB hbox
        rw [← hwB]
        clear hwB
        obtain ⟨bx, hbx⟩ : ∃ bx, bx = w1.heap.size := ⟨_, rfl⟩
        have hnf : ¬ Foot b (.slice (some ⟨gA, 0, none⟩) s.L.length c) vR bx := fun hh => by have := HF.out _ hh; have := hb1.size; omega
        have hge : w.heap.size ≤ bx := by have := hb1.size; omega
        rw [← hbx] at hbox hszB
        rw [← hbx]
        have HNF := Lib.hid hnf
        have HGE := Lib.hid hge
        have HBX := Lib.hid hbox
        clear hnf hge hbx hb1
        obtain ⟨q0, q1, q2, q3, q4, q5, q6⟩ := hbox.cell
        simp only at q0 q1 q2 q3 q4 q5 q6
        clear hbox
        go_wp2_with fail
        go_at_call 74
        refine (c7 _ hB).mono ?_
        rintro e w5 ⟨rfl, hb5⟩
        have HBX5 := Lib.hid (HBX.out.below hb5)
        clear q0 q1 q2 q3 q4 q5 q6
        cases Fi with
        | false =>
          go_wp2_with fail
          go_ret
          rw [HR.out, if_pos (by first | rfl | trivial)]
          exact HSM.out _ _ _ rfl (below_call hB hb5)
        | true =>
          rcases HD with rfl | rfl
          · have HRR := Lib.hid (HR.out.trans ((if_neg (by decide)).trans (if_neg (by decide))))
            have hB5 := below_call hB hb5
            go_wp2_with fail
            go_at_call 71
            refine (c4 _ hB5).mono ?_
            rintro e w6 ⟨rfl, hat6, hc6⟩
            have hbne : bx ≠ b := fun hh => HNF.out (.inl hh)
            have hbox6 := HBX5.out.chg hc6 (fun hh => hbne hh)
            obtain ⟨q0, q1, q2, q3, q4, q5, q6⟩ := hbox6.cell
            simp only at q0 q1 q2 q3 q4 q5 q6
            have hwarm := hbox6.warm
            have HB5 := Lib.hid hB5
            have HC6 := Lib.hid hc6
            clear hbox6 hbne hc6 hB hb5 hB5
            go_wp2_with (go_at_call 75; refine (c6 _ (((hat6.set HNF.out _).set HNF.out _).set HNF.out _)).mono ?_; rintro e w7 ⟨rfl, hat7, hc7⟩)
            go_at_call 72
            refine (c5 _ hat7).mono ?_
            rintro e w8 ⟨⟨v8, rfl⟩, vL8, hat8, hn8, hc8⟩
            go_wp2_with fail
            go_ret
            rw [HRR.out]
            refine to_put2 (w1 := w7) ?_ rfl hat8 hn8 hc8
            refine (write_chg HB5.out HC6.out HGE.out).trans (G := (· = b)) hc7 (fun i hi => .inl (.inl hi))
          · have HRR := Lib.hid (HR.out.trans ((if_neg (by decide)).trans (if_pos (by decide))))
            go_wp2_with (go_at_call 71; refine (c4 _ (below_call hB hb5)).mono ?_; rintro e w6 ⟨rfl, hat6, hc6⟩)
            go_ret
            rw [HRR.out]
            exact to_done (below_call hB hb5) hc6 rfl hat6
end Go.Proofs.YtdpnmdnfnplcfaaGreat.Dk

namespace Go.Proofs.YtdpnmdnfnplcfaaGreat.Ap
open Go.RowKit Tx
set_option linter.unusedVariables false
section
variable {P : Program}
theorem append_two (w : World) (base : Nat) (t ty e : TypeId) (i : TypeInfo) (z : Value) (size bytes : Nat) (ht : P.underlying t = some (.slice e)) (hi : P.info? e = some i) (hz : i.zero = some z)
    (hsize : i.size = size) (hby : i.bytes = bytes) (hzs : z.cells.size = size) (hsp : 0 < size) (hs16 : size ≤ 16)
    (v : Value) (n : Nat) (xs : List Value) (hown : w.ownsRow base e size v n xs)
    (a : Addr) (c : Nat) (us : List Value) (hul : us.length = size) (hnews : ∀ j x, us[j]? = some x → w.cell? (a.add j) = some x) (hone : ∀ x ∈ us, x.oneCell' = true)
    (hn : n + 1 ≤ 57646075230342348) (hbytes : (n + 1) * bytes ≤ 140737488355328) (hbase : base ≤ w.heap.size) :
    ∃ v' w', (Builtin.append_ #[t, t] ty #[v, .slice (some a) 1 c]).run P w = .ok v' w' ∧ w'.ownsRow base e size v' (n + 1) (xs ++ us) ∧
      ((v'.ownBlock = v.ownBlock ∧ w.grownBy w' v.ownBlock) ∨ (v'.ownBlock = some w.heap.size ∧ w.grownBy w' none)) := by
  have hlen : (xs ++ us).length = (n + 1) * size := by rw [List.length_append, hown.1, hul, Nat.add_mul, Nat.one_mul]
  have made : ∀ old, old < n + 1 → (w.drew.alloc (.cells (xs.toArray ++ us.toArray ++ Builtin.zeroCells z.cells (grownCap w (n + 1) old e - (n + 1))) e)).ownsRow base e size (.slice (some ⟨w.heap.size, 0, none⟩) (n + 1) (grownCap w (n + 1) old e)) (n + 1) (xs ++ us) ∧
      w.grownBy (w.drew.alloc (.cells (xs.toArray ++ us.toArray ++ Builtin.zeroCells z.cells (grownCap w (n + 1) old e - (n + 1))) e)) none := by
    intro old _
    have hge := grownCap_ge w (n + 1) old e
    have hcm := grownCap_le_maxLen w (n + 1) old e (by unfold maxLen; omega)
    refine ⟨⟨hlen, .inr ⟨w.heap.size, _, _, rfl, hbase, heap_alloc_new w.drew _, hge, hcm, ?_, ?_⟩⟩, ⟨rfl, rfl, rfl, by simp, fun k hk _ => Below.heap_alloc w.drew _ k hk⟩⟩
    · have h0 := hown.1
      simp only [Array.size_append, List.size_toArray, size_zeroCells, hzs, hul]
      obtain ⟨d, hd⟩ : ∃ d, grownCap w (n + 1) old e = n + 1 + d := ⟨grownCap w (n + 1) old e - (n + 1), by omega⟩
      rw [hd, h0, show n + 1 + d - (n + 1) = d by omega, Nat.add_mul, Nat.add_mul, Nat.one_mul]
    · simp only [Array.toList_append, List.append_assoc]
      rw [← List.append_assoc]
      exact List.take_left' hlen
  rcases hown.2 with ⟨rfl, rfl⟩ | ⟨g, cap, cur, rfl, hbg, hg, hnc, hcm, hcs, htake⟩
  · have hx : xs = [] := List.eq_nil_of_length_eq_zero (by simpa using hown.1)
    subst hx
    have hr := run_append_nil (P := P) w t ty e i z ht hi hz a 1 c us (by rw [hsize, hul, Nat.one_mul]) hnews (by omega) (by omega) (by rw [hby]; have h2 := hbytes; simp only [Nat.zero_add] at h2; omega)
    have hm := made 0 (by omega)
    simp only [Nat.zero_add, List.nil_append, Array.empty_append] at hm ⊢
    exact ⟨_, _, hr, hm.1, .inr ⟨rfl, hm.2⟩⟩
  · by_cases hroom : n + 1 ≤ cap
    · have hle : (n + 1) * size ≤ cap * size := Nat.mul_le_mul_right _ hroom
      have hfit : n * i.size + us.length ≤ cur.size := by rw [hsize, hcs, hul]; rw [Nat.add_mul, Nat.one_mul] at hle; exact hle
      have hr := run_append_room (P := P) w t ty e i ht hi g n cap cur hg a 1 c us (by rw [hsize, hul, Nat.one_mul]) hnews hone hroom hfit
      refine ⟨_, _, hr, ⟨hlen, .inr ⟨g, cap, _, rfl, hbg, setRow_heap w g cur _ e _ hg, hroom, hcm, ?_, ?_⟩⟩, .inl ⟨rfl, ⟨rfl, rfl, rfl, by simp, fun k _ hk => setRow_other w g k _ (fun e => hk (by simp [Value.ownBlock, e]))⟩⟩⟩
      · simp only [List.size_toArray, List.length_append, List.length_take, List.length_drop, Array.length_toList]
        omega
      · rw [hsize, htake]
        exact List.take_left' hlen
    · have hr := run_append_grow (P := P) w t ty e i z ht hi hz ⟨g, 0, none⟩ n cap xs (by rw [hsize]; exact hown.1) (hown.cells (g := g) rfl) a 1 c us (by rw [hsize, hul, Nat.one_mul]) hnews (by omega) (by omega) (growslice_fits (by omega) (by rw [hby]; exact hbytes))
      have hm := made cap (by omega)
      exact ⟨_, _, hr, hm.1, .inr ⟨rfl, hm.2⟩⟩
end
theorem wpList_append_two {P : Program} (w : World) {ops : Array Oper} {rest : List Oper} {o : Oper} {a : Act} {Q : Exit → Act → World → Prop} (hgd : o.guard = none) (s x : Operand) (t : TypeId)
    (ho : o.op = .call { callee := .builtin .append, args := #[s, x], argTypes := #[t, t] })
    (base : Nat) (e : TypeId) (i : TypeInfo) (z : Value) (size bytes : Nat) (ht : P.underlying t = some (.slice e)) (hi : P.info? e = some i) (hz : i.zero = some z)
    (hsize : i.size = size) (hby : i.bytes = bytes) (hzs : z.cells.size = size) (hsp : 0 < size) (hs16 : size ≤ 16)
    (v : Value) (n : Nat) (xs : List Value) (hs : a.eval s = v) (hown : w.ownsRow base e size v n xs)
    (ad : Addr) (c : Nat) (us : List Value) (hx : a.eval x = .slice (some ad) 1 c) (hul : us.length = size) (hnews : ∀ j x, us[j]? = some x → w.cell? (ad.add j) = some x) (hone : ∀ x ∈ us, x.oneCell' = true)
    (hn : n + 1 ≤ 57646075230342348) (hbytes : (n + 1) * bytes ≤ 140737488355328) (hbase : base ≤ w.heap.size)
    (h : ∀ v' w', w'.ownsRow base e size v' (n + 1) (xs ++ us) → ((v'.ownBlock = v.ownBlock ∧ w.grownBy w' v.ownBlock) ∨ (v'.ownBlock = some w.heap.size ∧ w.grownBy w' none)) → wpList P ops Q rest (a.put o.dst v') w') :
    wpList P ops Q (o :: rest) a w := by
  refine wpList_plain hgd fun K hK => ?_
  obtain ⟨v', w', hr, h2, h3⟩ := append_two (P := P) w base t o.type e i z size bytes ht hi hz hsize hby hzs hsp hs16 v n xs hown ad c us hul hnews hone hn hbytes hbase
  unfold Oper.wp execOp
  simp only [ho, resolve, invoke, builtin, Sem.run_bind, Sem.run_pure, Result.andThen_ok, List.map_toArray, List.map_cons, List.map_nil, hs, hx, hr]
  exact hK _ _ (h v' w' h2 h3)
end Go.Proofs.YtdpnmdnfnplcfaaGreat.Ap

namespace Go.Proofs.YtdpnmdnfnplcfaaGreat.Dk
open Go.RowKit Tx Pm Ap
set_option linter.unusedVariables false
def setRm : List Rm → ByteArray → Int → List Rm
  | [], v, n => [⟨v, n⟩]
  | r :: l, v, n => if r.vol = v then ⟨v, n⟩ :: l else r :: setRm l v n
def limitS (s : St) (v : ByteArray) (n : Int) : Nat × St :=
  if n < 0 then (1, s) else if chk v.data.toList 1 ≠ 0 then (10, s) else (0, { s with rooms := setRm s.rooms v n })
theorem flat_set : ∀ (l : List Rm) (k : Nat) (r : Rm) (n : Int), l[k]? = some r → (l.flatMap cellsR).set (k * 2 + 1) (.int .i64 n) = (l.set k ⟨r.vol, n⟩).flatMap cellsR
  | [], k, r, n, h => by cases h
  | x :: l, 0, r, n, h => by
    injection h with h
    subst h
    simp [cellsR]
  | x :: l, k + 1, r, n, h => by
    have e : (k + 1) * 2 + 1 = (k * 2 + 1) + 1 + 1 := by omega
    have := flat_set l k r n h
    rw [e, List.set_cons_succ, List.flatMap_cons, List.flatMap_cons, ← this]
    rfl
end Go.Proofs.YtdpnmdnfnplcfaaGreat.Dk

namespace Go.Proofs.YtdpnmdnfnplcfaaGreat.Dk
open Go.RowKit Tx Pm
set_option linter.unusedVariables false
def moreS (l : List It) (f t : ByteArray) : Int := (if vol f = vol t then (0 : Int) else ((old l f).data.size : Int)) - (if kind l t = 2 then ((old l t).data.size : Int) else 0)
def renameS (s : St) (f t : ByteArray) : Nat × St :=
  if first s f 1 ≠ 0 then (first s f 1, s) else if first s t 1 ≠ 0 then (first s t 1, s) else if kind s.L f = 0 ∨ home s.L t = false then (11, s) else
  if kind s.L f = 1 ∨ kind s.L t = 1 then (12, s) else if f ≠ t ∧ fits s t (moreS s.L f t) = false then (13, s) else if (done s).1 ≠ 0 then done s else
  (0, putS { (done s).2 with L := drop (done s).2.L f } { old s.L f with path := t })
theorem kind_file {l : List It} {p : ByteArray} (h0 : kind l p ≠ 0) (h1 : kind l p ≠ 1) : ∃ (k : Nat) (x : It), k < l.length ∧ l[k]? = some x ∧ find l p = some x ∧ placeI l p = k ∧ x.path = p ∧ x.dir = false := by
  rcases find_cases l p with ⟨hf, _⟩ | ⟨k, x, a, b, c, d, e⟩
  · rw [kind, hf] at h0
    exact absurd rfl h0
  · refine ⟨k, x, a, b, c, d, e, ?_⟩
    rw [kind, c, kindOf] at h1
    cases hd : x.dir with
    | false => rfl
    | true => rw [hd] at h1; exact absurd rfl h1
theorem kind_of_file {l : List It} {p : ByteArray} {x : It} (hf : find l p = some x) (hd : x.dir = false) : kind l p = 2 := by rw [kind, hf, kindOf, hd]; rfl
theorem kind_le (l : List It) (p : ByteArray) : kind l p = 0 ∨ kind l p = 1 ∨ kind l p = 2 := by
  unfold kind kindOf
  split
  · exact .inl rfl
  · split
    · exact .inr (.inl rfl)
    · exact .inr (.inr rfl)
theorem rename_chg {w w6 w7 w8 w9 : World} {b bx : Nat} {u : Value} (hb : Below w.heap.size w w6) (h7 : Chg (· = b) w6 w7) (h8 : Chg (· = b) w7 w8) (hge : w.heap.size ≤ bx) (h9 : Chg (· = b) (w8.setCell ⟨bx, 0, none⟩ u) w9) :
    Chg (fun i => i = b ∨ w.heap.size ≤ i) w w9 := by
  have hm : ∀ {W W' : World}, Chg (· = b) W W' → Chg (fun i => i = b ∨ w.heap.size ≤ i) W W' := fun hh => hh.mono (fun i hi => .inl hi)
  have hs : Chg (fun i => i = b ∨ w.heap.size ≤ i) w8 (w8.setCell ⟨bx, 0, none⟩ u) := (chg_set u).mono (fun i hi => .inr (by rw [hi]; exact hge))
  exact ((((Chg.of_below hb).then (hm h7)).then (hm h8)).then hs).then (hm h9)
set_option maxRecDepth 100000 in
set_option maxHeartbeats 4000000 in
theorem rRename_any (b : Nat) (s : St) (vL vR : Value) (f t : ByteArray) (w : World) (h : At w b s vL vR) (ok : Ok s) (hpf : f.size ≤ 8000000000000) (hpt : t.size ≤ 8000000000000) :
    Calls Tryz.prog 34 #[.pointer (some ⟨b, 0, none⟩), .string f, .string t] w (To w b vL vR (renameS s f t)) := by
  have c1 := fun W (hW : Below w.heap.size w W) => rFirst_any b s vL vR f 1 W (h.below hW) hpf (by omega)
  have c2 := fun W (hW : Below w.heap.size w W) => rFirst_any b s vL vR t 1 W (h.below hW) hpt (by omega)
  have c3 := fun W (hW : Below w.heap.size w W) => rKind_any b s vL vR f W (h.below hW) (by have := ok.fit.1; omega)
  have c4 := fun W (hW : Below w.heap.size w W) => rKind_any b s vL vR t W (h.below hW) (by have := ok.fit.1; omega)
  have c5 := fun W (hW : Below w.heap.size w W) => rHome_any b s vL vR t W (h.below hW) ok.fit hpt
  have HSM := Lib.hid (fun (e : Ending) (w' : World) (k : Nat) (he : e = .returned (.int .i64 (k : Nat))) (hb : Below w.heap.size w w') => to_same (vL := vL) (vR := vR) h he hb)
  obtain ⟨r, hr⟩ : ∃ r, r = renameS s f t := ⟨_, rfl⟩
  rw [← hr]
  unfold renameS at hr
  have hnames : True := trivial
  by_cases h1 : first s f 1 = 0
  rotate_left
  · rw [if_pos h1] at hr
    subst hr
    obtain ⟨E, hE⟩ : ∃ E, E = first s f 1 := ⟨_, rfl⟩
    rw [← hE] at c1 h1 ⊢
    have e1 : ((E : Int) == 0) = false := beq_eq_false_iff_ne.2 (by omega)
    clear hE c2 c3 c4 c5 h ok
    go_enter Tryz.func34, Tryz.ntmps34
    go_wp2_with fail
    go_at_call 69
    refine (c1 _ (Below.refl _ _)).mono ?_
    rintro e w1 ⟨rfl, hb1⟩
    go_wp2_with fail
    go_ret
    exact HSM.out _ _ _ rfl hb1
  rw [if_neg (fun hh => hh h1)] at hr
  rw [h1] at c1
  by_cases h2 : first s t 1 = 0
  rotate_left
  · rw [if_pos h2] at hr
    subst hr
    obtain ⟨E, hE⟩ : ∃ E, E = first s t 1 := ⟨_, rfl⟩
    rw [← hE] at c2 h2 ⊢
    have e1 : ((E : Int) == 0) = false := beq_eq_false_iff_ne.2 (by omega)
    clear hE c3 c4 c5 h ok h1
    go_enter Tryz.func34, Tryz.ntmps34
    go_wp2_with fail
    go_at_call 69
    refine (c1 _ (Below.refl _ _)).mono ?_
    rintro e w1 ⟨rfl, hb1⟩
    go_wp2_with fail
    go_at_call 69
    refine (c2 _ hb1).mono ?_
    rintro e w2 ⟨rfl, hb2'⟩
    have hb2 := below_call hb1 hb2'
    go_wp2_with fail
    go_ret
    exact HSM.out _ _ _ rfl hb2
  rw [if_neg (fun hh => hh h2)] at hr
  rw [h2] at c2
  clear h1 h2
  by_cases h3 : kind s.L f = 0
  · rw [if_pos (.inl h3)] at hr
    subst hr
    rw [h3] at c3
    clear c4 c5 h ok h3
    go_enter Tryz.func34, Tryz.ntmps34
    go_wp2_with fail
    go_at_call 69
    refine (c1 _ (Below.refl _ _)).mono ?_
    rintro e w1 ⟨rfl, hb1⟩
    go_wp2_with fail
    go_at_call 69
    refine (c2 _ hb1).mono ?_
    rintro e w2 ⟨rfl, hb2'⟩
    have hb2 := below_call hb1 hb2'
    go_wp2_with (go_at_call 41; refine (c3 _ hb2).mono ?_; rintro e w3 ⟨rfl, rfl⟩)
    go_ret
    exact HSM.out _ _ _ rfl hb2
  obtain ⟨K, hK⟩ : ∃ K, K = kind s.L f := ⟨_, rfl⟩
  obtain ⟨K2, hK2⟩ : ∃ K2, K2 = kind s.L t := ⟨_, rfl⟩
  rw [← hK] at c3
  rw [← hK2] at c4
  have e3 : ((K : Int) == 0) = false := beq_eq_false_iff_ne.2 (by rw [hK]; omega)
  cases h4 : home s.L t with
  | false =>
    rw [if_pos (.inr h4)] at hr
    subst hr
    rw [h4] at c5
    clear c4 h ok h3 h4 hK hK2
    go_enter Tryz.func34, Tryz.ntmps34
    go_wp2_with fail
    go_at_call 69
    refine (c1 _ (Below.refl _ _)).mono ?_
    rintro e w1 ⟨rfl, hb1⟩
    go_wp2_with fail
    go_at_call 69
    refine (c2 _ hb1).mono ?_
    rintro e w2 ⟨rfl, hb2'⟩
    have hb2 := below_call hb1 hb2'
    go_wp2_with (first | (go_at_call 41; refine (c3 _ hb2).mono ?_; rintro e w3 ⟨rfl, rfl⟩) | (go_at_call 70; refine (c5 _ hb2).mono ?_; rintro e w3 ⟨rfl, rfl⟩))
    go_ret
    exact HSM.out _ _ _ rfl hb2
  | true =>
    rw [if_neg (fun hh => by rcases hh with hh | hh; exact h3 hh; rw [h4] at hh; cases hh)] at hr
    rw [h4] at c5
    by_cases h5 : K = 1
    · rw [← hK, if_pos (.inl h5)] at hr
      subst hr
      subst h5
      clear c4 h ok h3 h4 hK hK2
      go_enter Tryz.func34, Tryz.ntmps34
      go_wp2_with fail
      go_at_call 69
      refine (c1 _ (Below.refl _ _)).mono ?_
      rintro e w1 ⟨rfl, hb1⟩
      go_wp2_with fail
      go_at_call 69
      refine (c2 _ hb1).mono ?_
      rintro e w2 ⟨rfl, hb2'⟩
      have hb2 := below_call hb1 hb2'
      go_wp2_with fail
      go_at_call 41
      refine (c3 _ hb2).mono ?_
      rintro e w3 ⟨rfl, rfl⟩
      go_wp2_with (first | (go_at_call 41; refine (c3 _ hb2).mono ?_; rintro e w3 ⟨rfl, rfl⟩) | (go_at_call 70; refine (c5 _ hb2).mono ?_; rintro e w3 ⟨rfl, rfl⟩))
      go_ret
      exact HSM.out _ _ _ rfl hb2
    have e5 : ((K : Int) == 1) = false := beq_eq_false_iff_ne.2 (by omega)
    by_cases h6 : K2 = 1
    · rw [← hK2, if_pos (.inr h6)] at hr
      subst hr
      subst h6
      clear h ok h3 h4 hK hK2 h5
      go_enter Tryz.func34, Tryz.ntmps34
      go_wp2_with fail
      go_at_call 69
      refine (c1 _ (Below.refl _ _)).mono ?_
      rintro e w1 ⟨rfl, hb1⟩
      go_wp2_with fail
      go_at_call 69
      refine (c2 _ hb1).mono ?_
      rintro e w2 ⟨rfl, hb2'⟩
      have hb2 := below_call hb1 hb2'
      go_wp2_with fail
      go_at_call 41
      refine (c3 _ hb2).mono ?_
      rintro e w3 ⟨rfl, rfl⟩
      go_wp2_with (go_at_call 70; refine (c5 _ hb2).mono ?_; rintro e w3 ⟨rfl, rfl⟩)
      go_at_call 41
      refine (c3 _ hb2).mono ?_
      rintro e w3 ⟨rfl, rfl⟩
      go_wp2_with (go_at_call 41; refine (c4 _ hb2).mono ?_; rintro e w3 ⟨rfl, rfl⟩)
      go_ret
      exact HSM.out _ _ _ rfl hb2
    have e6 : ((K2 : Int) == 1) = false := beq_eq_false_iff_ne.2 (by omega)
    rw [← hK, ← hK2, if_neg (fun hh => by rcases hh with hh | hh; exact h5 hh; exact h6 hh)] at hr
    -- both may be: the item is taken
    obtain ⟨k, x, hk, hx, hf, hpl, hxp, hxd⟩ := kind_file (l := s.L) (p := f) h3 (by rw [← hK]; exact h5)
    have ho : old s.L f = x := by rw [old, hf]; rfl
    have hKf : K = 2 := by rw [hK]; exact kind_of_file hf hxd
    have hn := ok.fit.1
    obtain ⟨A, c, rfl, _, _, _⟩ := h.rowL.form
    obtain ⟨gA, hgA, _⟩ := (h.seen (Below.refl _ _)).it k x hx
    subst hgA
    have hsh : Shows b s gA s.L.length c k vR x := shows hx
    have c8 := fun W (hW : At W b s (.slice (some ⟨gA, 0, none⟩) s.L.length c) vR) => rPlace_any b s (.slice (some ⟨gA, 0, none⟩) s.L.length c) vR f W hW (by omega)
    rw [hpl] at c8
    have hXd : x.data.size ≤ 4000000000000000000 := Nat.le_trans (le_whole (List.mem_of_getElem? hx)) ok.fit.2.2
    have hYd : (if kind s.L t = 2 then ((old s.L t).data.size : Int) else 0) ≤ 4000000000000000000 ∧ 0 ≤ (if kind s.L t = 2 then ((old s.L t).data.size : Int) else 0) := by
      split
      · unfold old
        rcases find_cases s.L t with ⟨hf2, _⟩ | ⟨k2, y, hk2, hy, hf2, _⟩
        · rw [hf2]; exact ⟨by show ((0 : Nat) : Int) ≤ _; omega, Int.natCast_nonneg _⟩
        · rw [hf2]
          have := Nat.le_trans (le_whole (List.mem_of_getElem? hy)) ok.fit.2.2
          exact ⟨by show (y.data.size : Int) ≤ _; omega, Int.natCast_nonneg _⟩
      · exact ⟨by omega, Int.le_refl _⟩
    have hMb : -4000000000000000000 ≤ moreS s.L f t ∧ moreS s.L f t ≤ 4000000000000000000 := by
      unfold moreS
      rw [ho]
      split <;> omega
    have c9 := fun W (hW : Below w.heap.size w W) => rFits_any b s (.slice (some ⟨gA, 0, none⟩) s.L.length c) vR t (moreS s.L f t) W (h.below hW) ok.fit ok.rooms hpt hMb
    have c10 := fun W (hW : Below w.heap.size w W) => rDone_any b s (.slice (some ⟨gA, 0, none⟩) s.L.length c) vR W (h.below hW) ok.steps ok.armed
    have HL := done_L s
    have HD := done_code s
    have hst : (done s).2.stamps ≤ 1000000000000 := by rw [done_stamps]; exact ok.stamps
    have c11 := fun W (hW : At W b (done s).2 (.slice (some ⟨gA, 0, none⟩) s.L.length c) vR) => rDrop_any b (done s).2 (.slice (some ⟨gA, 0, none⟩) s.L.length c) vR f W hW (by rw [HL]; exact hn)
    have c12 := fun v W (hW : At W b { (done s).2 with L := drop (done s).2.L f } v vR) => rStamped_any b { (done s).2 with L := drop (done s).2.L f } v vR { x with path := t } W hW hst
    have c13 := fun v W (hW : At W b { (done s).2 with L := drop (done s).2.L f, stamps := (done s).2.stamps + 1 } v vR) => rPut_any b { (done s).2 with L := drop (done s).2.L f, stamps := (done s).2.stamps + 1 } v vR (stamped { (done s).2 with L := drop (done s).2.L f } { x with path := t }) W hW (by
      show (drop (done s).2.L f).length ≤ _
      rw [HL]
      exact Nat.le_trans (List.length_filter_le _ _) hn)
    have cvf := fun W => rVolume_any f W (by omega)
    have cvt := fun W => rVolume_any t W (by omega)
    have hfoot := h.lt
    have HF := Lib.hid hfoot
    have HH := Lib.hid h
    have HSH := Lib.hid hsh
    have HK := Lib.hid hk
    have HNN := Lib.hid hn
    have HMS : Hid (moreS s.L f t = (if vol f = vol t then (0 : Int) else ((old s.L f).data.size : Int)) - (if kind s.L t = 2 then ((old s.L t).data.size : Int) else 0)) := rfl
    rw [ho] at hr
    have HMS2 := Lib.hid (HMS.out.trans (by rw [ho]))
    obtain ⟨M, hM⟩ : ∃ M, M = moreS s.L f t := ⟨_, rfl⟩
    rw [← hM] at c9 hr
    obtain ⟨Fi, hFi⟩ : ∃ Fi, Fi = fits s t M := ⟨_, rfl⟩
    have HMM := Lib.hid hM
    have hFi2 : fits s t M = Fi := hFi.symm
    rw [← hFi] at c9
    have HFI := Lib.hid hFi2
    clear hFi2
    obtain ⟨DE, DS⟩ : ∃ DE, DE = done s := ⟨_, rfl⟩
    rw [← DS] at c10 c11 c12 c13 HD hr
    obtain ⟨dE, dS⟩ := DE
    simp only at c10 c11 c12 c13 HD
    obtain ⟨XP, XD, XX, XK, XLO, XA, XS⟩ := x
    unfold putS at hr
    unfold iv stamped at c12 c13
    unfold stamped at hr
    simp only at c12 c13 hr hXd HMS2
    have HR := Lib.hid hr
    have hxX : XX.size ≤ 4000000000000000000 := hXd
    subst hKf
    clear ho hxp hxd hx hf hpl hsh hk hn h ok hr HL hst hfoot DS hFi hM hMb hXd h3 h4 h5 hK
    go_enter Tryz.func34, Tryz.ntmps34
    go_wp2_with fail
    go_at_call 69
    refine (c1 _ (Below.refl _ _)).mono ?_
    rintro e w1 ⟨rfl, hb1⟩
    go_wp2_with fail
    go_at_call 69
    refine (c2 _ hb1).mono ?_
    rintro e w2 ⟨rfl, hb2'⟩
    have hb2 := below_call hb1 hb2'
    go_wp2_with fail
    go_at_call 41
    refine (c3 _ hb2).mono ?_
    rintro e w3 ⟨rfl, rfl⟩
    go_wp2_with (go_at_call 70; refine (c5 _ hb2).mono ?_; rintro e w3 ⟨rfl, rfl⟩)
    go_at_call 41
    refine (c3 _ hb2).mono ?_
    rintro e w3 ⟨rfl, rfl⟩
    go_wp2_with (go_at_call 41; refine (c4 _ hb2).mono ?_; rintro e w3 ⟨rfl, rfl⟩)
    refine Rg.wp_only ?_ (getRename _ (by kernel_rfl) _ b s gA s.L.length c k vR f XP XX XK XD XLO XA XS _ (HH.out.below hb2) HSH.out HK.out (by have := HNN.out; omega) c8)
    rintro _ w9 ⟨rfl, rfl⟩
    have hB : Below w.heap.size w (w2.alloc (.cells #[.string XP, .bool XD, .string XX, .string XK, .bool XLO, .bool XA, .int .i64 XS] 76)).drew := (hb2.trans (((Below.refl _ _).alloc (Nat.le_refl _) _).mono hb2.size)).drew
    have hbox : Box (w2.alloc (.cells #[.string XP, .bool XD, .string XX, .string XK, .bool XLO, .bool XA, .int .i64 XS] 76)).drew w2.heap.size ⟨XP, XD, XX, XK, XLO, XA, XS⟩ := ⟨heap_alloc_new _ _⟩
    obtain ⟨wB, hwB⟩ : ∃ wB, wB = (w2.alloc (.cells #[.string XP, .bool XD, .string XX, .string XK, .bool XLO, .bool XA, .int .i64 XS] 76)).drew := ⟨_, rfl⟩
    have hszB : w2.heap.size < wB.heap.size := by rw [hwB]; simp
    rw [← hwB] at hB hbox
    have hwB2 : w2.drew.alloc (.cells #[.string XP, .bool XD, .string XX, .string XK, .bool XLO, .bool XA, .int .i64 XS] 76) = wB := hwB.symm
    rw [hwB2]
    clear hwB hwB2
    obtain ⟨bx, hbx⟩ : ∃ bx, bx = w2.heap.size := ⟨_, rfl⟩
    have hnf : ¬ Foot b (.slice (some ⟨gA, 0, none⟩) s.L.length c) vR bx := fun hh => by have := HF.out _ hh; have := hb2.size; omega
    have hge : w.heap.size ≤ bx := by have := hb2.size; omega
    rw [← hbx] at hbox hszB
    rw [show w2.drew.heap.size = bx from hbx.symm]
    have HNF := Lib.hid hnf
    have HGE := Lib.hid hge
    have HBX := Lib.hid hbox
    clear hnf hge hbx hb2 hb1 hb2'
    obtain ⟨q0, q1, q2, q3, q4, q5, q6⟩ := hbox.cell
    simp only at q0 q1 q2 q3 q4 q5 q6
    clear hbox
    go_wp2_with fail
    go_at_call 82
    refine (cvf _).mono ?_
    rintro e w3 ⟨rfl, hb3⟩
    go_wp2_with fail
    go_at_call 82
    refine (cvt _).mono ?_
    rintro e w4 ⟨rfl, hb4'⟩
    have hb4 := below_call hb3 hb4'
    have hB4 := below_call hB hb4
    clear q0 q1 q2 q3 q4 q5 q6 hb3 hb4'
    by_cases hv : vol f = vol t
    · have ev : ((vol f).toList == (vol t).toList) = true := by rw [hv]; exact beq_self_eq_true _
      have HV := Lib.hid hv
      clear hv
      by_cases h7 : K2 = 2
      · have e7 : ((K2 : Int) == 2) = true := by rw [h7]; rfl
        obtain ⟨k2, y, hk2, hy, hf2, hpl2, hyp, hyd⟩ := kind_file (l := s.L) (p := t) (by rw [← hK2, h7]; decide) (by rw [← hK2, h7]; decide)
        have hoy : old s.L t = y := by rw [old, hf2]; rfl
        have hYs : y.data.size ≤ 4000000000000000000 := by
          have := hYd.1
          rw [← hK2, if_pos h7, hoy] at this
          omega
        have hshy : Shows b s gA s.L.length c k2 vR y := shows hy
        have c14 := fun W (hW : At W b s (.slice (some ⟨gA, 0, none⟩) s.L.length c) vR) => rPlace_any b s (.slice (some ⟨gA, 0, none⟩) s.L.length c) vR t W hW (by have := HNN.out; omega)
        rw [hpl2] at c14
        obtain ⟨YP, YD, YX, YK, YLO, YA, YS⟩ := y
        simp only at hYs
        have HSHY := Lib.hid hshy
        have HOY := Lib.hid hoy
        have HK2 := Lib.hid hk2
        clear hy hf2 hpl2 hyp hyd hoy hshy hk2
        go_wp2_with (go_at_call 41; refine (c4 _ hB4).mono ?_; rintro e w5 ⟨rfl, rfl⟩)
        refine Rg.wp_only ?_ (lessRename _ (by kernel_rfl) _ b s gA s.L.length c k2 vR t YP YX YK YD YLO YA YS _ w4 (HH.out.below hB4) HSHY.out HK2.out (by have := HNN.out; omega) (IntWalk.i64_in _ (by omega)) c14)
        rintro _ w9 ⟨rfl, rfl⟩
        have hMV : M = -(YX.size : Int) := by rw [HMM.out, HMS2.out, if_pos HV.out, ← hK2, if_pos h7, HOY.out, Int.zero_sub]
        rw [hMV] at c9
        clear hMV
        obtain ⟨w5, hw5⟩ : ∃ w5, w5 = w4.drew := ⟨_, rfl⟩
        have hb5 : Below wB.heap.size wB w5 := by rw [hw5]; exact hb4.drew
        rw [← hw5]
        clear hw5
        by_cases hft : f = t
        · have e8 : (f.toList == t.toList) = true := by rw [hft]; exact beq_self_eq_true _
          have HFT := Lib.hid hft
          have hb6 := hb5
          clear hft
          rcases HD with rfl | rfl
          · have HRR := Lib.hid (HR.out.trans ((if_neg (fun hh => hh.1 HFT.out)).trans (if_neg (by decide))))
            have hB6 := below_call hB hb6
            go_wp2_with fail
            go_at_call 71
            refine (c10 _ hB6).mono ?_
            rintro e w7 ⟨rfl, hat7, hc7⟩
            have hbne : bx ≠ b := fun hh => HNF.out (.inl hh)
            have hbox7 := (HBX.out.below hb6).chg hc7 (fun hh => hbne hh)
            have hs7 : bx < w7.heap.size := (Array.getElem?_eq_some_iff.1 hbox7.blk).1
            have HB6 := Lib.hid hB6
            have HC7 := Lib.hid hc7
            have HBX7 := Lib.hid hbox7
            clear hbox7 hc7 hB6
            go_wp2_with fail
            go_at_call 79
            refine (c11 _ hat7).mono ?_
            rintro e w8 ⟨⟨v8, rfl⟩, vL8, hat8, hn8, hc8⟩
            have hbox8 := HBX7.out.chg hc8 (fun hh => hbne hh)
            have hnf8 : ¬ Foot b vL8 vR bx := by
              rintro (hh | hh | hh)
              · exact hbne hh
              · have := hn8 _ hh
                omega
              · exact HNF.out (.inr (.inr hh))
            obtain ⟨q0, q1, q2, q3, q4, q5, q6⟩ := hbox8.cell
            simp only at q0 q1 q2 q3 q4 q5 q6
            have hwarm := hbox8.warm
            have HC8 := Lib.hid hc8
            have HNF8 := Lib.hid hnf8
            clear hbox8 hnf8 hc8 hbne hs7 hn8 hat7
            go_wp2_with (go_at_call 75; refine (c12 _ _ (hat8.set HNF8.out _)).mono ?_; rintro e w9 ⟨rfl, hat9, hc9⟩)
            go_at_call 72
            refine (c13 _ _ hat9).mono ?_
            rintro e w10 ⟨⟨v10, rfl⟩, vL10, hat10, hn10, hc10⟩
            go_wp2_with fail
            go_ret
            rw [HRR.out]
            refine to_put2 (w1 := w9) ?_ rfl hat10 hn10 hc10
            exact rename_chg HB6.out HC7.out HC8.out HGE.out hc9
          · have HRR := Lib.hid (HR.out.trans ((if_neg (fun hh => hh.1 HFT.out)).trans (if_pos (by decide))))
            go_wp2_with (go_at_call 71; refine (c10 _ (below_call hB hb6)).mono ?_; rintro e w7 ⟨rfl, hat7, hc7⟩)
            go_ret
            rw [HRR.out]
            exact to_done (below_call hB hb6) hc7 rfl hat7
        · have e8 : (f.toList == t.toList) = false := bytes_ne hft
          go_wp2_with fail
          go_at_call 74
          refine (c9 _ (below_call hB hb5)).mono ?_
          rintro e w6 ⟨rfl, hb6'⟩
          have hb6 := below_call hb5 hb6'
          cases Fi with
          | false =>
            go_wp2_with fail
            go_ret
            rw [HR.out, if_pos ⟨hft, HFI.out⟩]
            exact HSM.out _ _ _ rfl (below_call hB hb6)
          | true =>
            rcases HD with rfl | rfl
            · have HRR := Lib.hid (HR.out.trans ((if_neg (fun hh => by rw [HFI.out] at hh; exact Bool.noConfusion hh.2)).trans (if_neg (by decide))))
              have hB6 := below_call hB hb6
              go_wp2_with fail
              go_at_call 71
              refine (c10 _ hB6).mono ?_
              rintro e w7 ⟨rfl, hat7, hc7⟩
              have hbne : bx ≠ b := fun hh => HNF.out (.inl hh)
              have hbox7 := (HBX.out.below hb6).chg hc7 (fun hh => hbne hh)
              have hs7 : bx < w7.heap.size := (Array.getElem?_eq_some_iff.1 hbox7.blk).1
              have HB6 := Lib.hid hB6
              have HC7 := Lib.hid hc7
              have HBX7 := Lib.hid hbox7
              clear hbox7 hc7 hB6
              go_wp2_with fail
              go_at_call 79
              refine (c11 _ hat7).mono ?_
              rintro e w8 ⟨⟨v8, rfl⟩, vL8, hat8, hn8, hc8⟩
              have hbox8 := HBX7.out.chg hc8 (fun hh => hbne hh)
              have hnf8 : ¬ Foot b vL8 vR bx := by
                rintro (hh | hh | hh)
                · exact hbne hh
                · have := hn8 _ hh
                  omega
                · exact HNF.out (.inr (.inr hh))
              obtain ⟨q0, q1, q2, q3, q4, q5, q6⟩ := hbox8.cell
              simp only at q0 q1 q2 q3 q4 q5 q6
              have hwarm := hbox8.warm
              have HC8 := Lib.hid hc8
              have HNF8 := Lib.hid hnf8
              clear hbox8 hnf8 hc8 hbne hs7 hn8 hat7
              go_wp2_with (go_at_call 75; refine (c12 _ _ (hat8.set HNF8.out _)).mono ?_; rintro e w9 ⟨rfl, hat9, hc9⟩)
              go_at_call 72
              refine (c13 _ _ hat9).mono ?_
              rintro e w10 ⟨⟨v10, rfl⟩, vL10, hat10, hn10, hc10⟩
              go_wp2_with fail
              go_ret
              rw [HRR.out]
              refine to_put2 (w1 := w9) ?_ rfl hat10 hn10 hc10
              exact rename_chg HB6.out HC7.out HC8.out HGE.out hc9
            · have HRR := Lib.hid (HR.out.trans ((if_neg (fun hh => by rw [HFI.out] at hh; exact Bool.noConfusion hh.2)).trans (if_pos (by decide))))
              go_wp2_with (go_at_call 71; refine (c10 _ (below_call hB hb6)).mono ?_; rintro e w7 ⟨rfl, hat7, hc7⟩)
              go_ret
              rw [HRR.out]
              exact to_done (below_call hB hb6) hc7 rfl hat7
      · have e7 : ((K2 : Int) == 2) = false := beq_eq_false_iff_ne.2 (by omega)
        go_wp2_with fail
        go_at_call 41
        refine (c4 _ hB4).mono ?_
        rintro e w5 ⟨rfl, rfl⟩
        have hMV : M = (0 : Int) := by rw [HMM.out, HMS2.out, if_pos HV.out, ← hK2, if_neg h7, Int.sub_zero]
        rw [hMV] at c9
        clear hMV
        obtain ⟨w5, hw5⟩ : ∃ w5, w5 = w4 := ⟨_, rfl⟩
        have hb5 : Below wB.heap.size wB w5 := by rw [hw5]; exact hb4
        rw [← hw5]
        clear hw5
        by_cases hft : f = t
        · have e8 : (f.toList == t.toList) = true := by rw [hft]; exact beq_self_eq_true _
          have HFT := Lib.hid hft
          have hb6 := hb5
          clear hft
          rcases HD with rfl | rfl
          · have HRR := Lib.hid (HR.out.trans ((if_neg (fun hh => hh.1 HFT.out)).trans (if_neg (by decide))))
            have hB6 := below_call hB hb6
            go_wp2_with fail
            go_at_call 71
            refine (c10 _ hB6).mono ?_
            rintro e w7 ⟨rfl, hat7, hc7⟩
            have hbne : bx ≠ b := fun hh => HNF.out (.inl hh)
            have hbox7 := (HBX.out.below hb6).chg hc7 (fun hh => hbne hh)
            have hs7 : bx < w7.heap.size := (Array.getElem?_eq_some_iff.1 hbox7.blk).1
            have HB6 := Lib.hid hB6
            have HC7 := Lib.hid hc7
            have HBX7 := Lib.hid hbox7
            clear hbox7 hc7 hB6
            go_wp2_with fail
            go_at_call 79
            refine (c11 _ hat7).mono ?_
            rintro e w8 ⟨⟨v8, rfl⟩, vL8, hat8, hn8, hc8⟩
            have hbox8 := HBX7.out.chg hc8 (fun hh => hbne hh)
            have hnf8 : ¬ Foot b vL8 vR bx := by
              rintro (hh | hh | hh)
              · exact hbne hh
              · have := hn8 _ hh
                omega
              · exact HNF.out (.inr (.inr hh))
            obtain ⟨q0, q1, q2, q3, q4, q5, q6⟩ := hbox8.cell
            simp only at q0 q1 q2 q3 q4 q5 q6
            have hwarm := hbox8.warm
            have HC8 := Lib.hid hc8
            have HNF8 := Lib.hid hnf8
            clear hbox8 hnf8 hc8 hbne hs7 hn8 hat7
            go_wp2_with (go_at_call 75; refine (c12 _ _ (hat8.set HNF8.out _)).mono ?_; rintro e w9 ⟨rfl, hat9, hc9⟩)
            go_at_call 72
            refine (c13 _ _ hat9).mono ?_
            rintro e w10 ⟨⟨v10, rfl⟩, vL10, hat10, hn10, hc10⟩
            go_wp2_with fail
            go_ret
            rw [HRR.out]
            refine to_put2 (w1 := w9) ?_ rfl hat10 hn10 hc10
            exact rename_chg HB6.out HC7.out HC8.out HGE.out hc9
          · have HRR := Lib.hid (HR.out.trans ((if_neg (fun hh => hh.1 HFT.out)).trans (if_pos (by decide))))
            go_wp2_with (go_at_call 71; refine (c10 _ (below_call hB hb6)).mono ?_; rintro e w7 ⟨rfl, hat7, hc7⟩)
            go_ret
            rw [HRR.out]
            exact to_done (below_call hB hb6) hc7 rfl hat7
        · have e8 : (f.toList == t.toList) = false := bytes_ne hft
          go_wp2_with fail
          go_at_call 74
          refine (c9 _ (below_call hB hb5)).mono ?_
          rintro e w6 ⟨rfl, hb6'⟩
          have hb6 := below_call hb5 hb6'
          cases Fi with
          | false =>
            go_wp2_with fail
            go_ret
            rw [HR.out, if_pos ⟨hft, HFI.out⟩]
            exact HSM.out _ _ _ rfl (below_call hB hb6)
          | true =>
            rcases HD with rfl | rfl
            · have HRR := Lib.hid (HR.out.trans ((if_neg (fun hh => by rw [HFI.out] at hh; exact Bool.noConfusion hh.2)).trans (if_neg (by decide))))
              have hB6 := below_call hB hb6
              go_wp2_with fail
              go_at_call 71
              refine (c10 _ hB6).mono ?_
              rintro e w7 ⟨rfl, hat7, hc7⟩
              have hbne : bx ≠ b := fun hh => HNF.out (.inl hh)
              have hbox7 := (HBX.out.below hb6).chg hc7 (fun hh => hbne hh)
              have hs7 : bx < w7.heap.size := (Array.getElem?_eq_some_iff.1 hbox7.blk).1
              have HB6 := Lib.hid hB6
              have HC7 := Lib.hid hc7
              have HBX7 := Lib.hid hbox7
              clear hbox7 hc7 hB6
              go_wp2_with fail
              go_at_call 79
              refine (c11 _ hat7).mono ?_
              rintro e w8 ⟨⟨v8, rfl⟩, vL8, hat8, hn8, hc8⟩
              have hbox8 := HBX7.out.chg hc8 (fun hh => hbne hh)
              have hnf8 : ¬ Foot b vL8 vR bx := by
                rintro (hh | hh | hh)
                · exact hbne hh
                · have := hn8 _ hh
                  omega
                · exact HNF.out (.inr (.inr hh))
              obtain ⟨q0, q1, q2, q3, q4, q5, q6⟩ := hbox8.cell
              simp only at q0 q1 q2 q3 q4 q5 q6
              have hwarm := hbox8.warm
              have HC8 := Lib.hid hc8
              have HNF8 := Lib.hid hnf8
              clear hbox8 hnf8 hc8 hbne hs7 hn8 hat7
              go_wp2_with (go_at_call 75; refine (c12 _ _ (hat8.set HNF8.out _)).mono ?_; rintro e w9 ⟨rfl, hat9, hc9⟩)
              go_at_call 72
              refine (c13 _ _ hat9).mono ?_
              rintro e w10 ⟨⟨v10, rfl⟩, vL10, hat10, hn10, hc10⟩
              go_wp2_with fail
              go_ret
              rw [HRR.out]
              refine to_put2 (w1 := w9) ?_ rfl hat10 hn10 hc10
              exact rename_chg HB6.out HC7.out HC8.out HGE.out hc9
            · have HRR := Lib.hid (HR.out.trans ((if_neg (fun hh => by rw [HFI.out] at hh; exact Bool.noConfusion hh.2)).trans (if_pos (by decide))))
              go_wp2_with (go_at_call 71; refine (c10 _ (below_call hB hb6)).mono ?_; rintro e w7 ⟨rfl, hat7, hc7⟩)
              go_ret
              rw [HRR.out]
              exact to_done (below_call hB hb6) hc7 rfl hat7
    · have ev : ((vol f).toList == (vol t).toList) = false := bytes_ne hv
      have HV := Lib.hid hv
      clear hv
      by_cases h7 : K2 = 2
      · have e7 : ((K2 : Int) == 2) = true := by rw [h7]; rfl
        obtain ⟨k2, y, hk2, hy, hf2, hpl2, hyp, hyd⟩ := kind_file (l := s.L) (p := t) (by rw [← hK2, h7]; decide) (by rw [← hK2, h7]; decide)
        have hoy : old s.L t = y := by rw [old, hf2]; rfl
        have hYs : y.data.size ≤ 4000000000000000000 := by
          have := hYd.1
          rw [← hK2, if_pos h7, hoy] at this
          omega
        have hshy : Shows b s gA s.L.length c k2 vR y := shows hy
        have c14 := fun W (hW : At W b s (.slice (some ⟨gA, 0, none⟩) s.L.length c) vR) => rPlace_any b s (.slice (some ⟨gA, 0, none⟩) s.L.length c) vR t W hW (by have := HNN.out; omega)
        rw [hpl2] at c14
        obtain ⟨YP, YD, YX, YK, YLO, YA, YS⟩ := y
        simp only at hYs
        have HSHY := Lib.hid hshy
        have HOY := Lib.hid hoy
        have HK2 := Lib.hid hk2
        clear hy hf2 hpl2 hyp hyd hoy hshy hk2
        go_wp2_with (go_at_call 41; refine (c4 _ hB4).mono ?_; rintro e w5 ⟨rfl, rfl⟩)
        refine Rg.wp_only ?_ (lessRename _ (by kernel_rfl) _ b s gA s.L.length c k2 vR t YP YX YK YD YLO YA YS _ w4 (HH.out.below hB4) HSHY.out HK2.out (by have := HNN.out; omega) (IntWalk.i64_in _ (by omega)) c14)
        rintro _ w9 ⟨rfl, rfl⟩
        have hMV : M = (XX.size : Int) - (YX.size : Int) := by rw [HMM.out, HMS2.out, if_neg HV.out, ← hK2, if_pos h7, HOY.out]
        rw [hMV] at c9
        clear hMV
        obtain ⟨w5, hw5⟩ : ∃ w5, w5 = w4.drew := ⟨_, rfl⟩
        have hb5 : Below wB.heap.size wB w5 := by rw [hw5]; exact hb4.drew
        rw [← hw5]
        clear hw5
        by_cases hft : f = t
        · have e8 : (f.toList == t.toList) = true := by rw [hft]; exact beq_self_eq_true _
          have HFT := Lib.hid hft
          have hb6 := hb5
          clear hft
          rcases HD with rfl | rfl
          · have HRR := Lib.hid (HR.out.trans ((if_neg (fun hh => hh.1 HFT.out)).trans (if_neg (by decide))))
            have hB6 := below_call hB hb6
            go_wp2_with fail
            go_at_call 71
            refine (c10 _ hB6).mono ?_
            rintro e w7 ⟨rfl, hat7, hc7⟩
            have hbne : bx ≠ b := fun hh => HNF.out (.inl hh)
            have hbox7 := (HBX.out.below hb6).chg hc7 (fun hh => hbne hh)
            have hs7 : bx < w7.heap.size := (Array.getElem?_eq_some_iff.1 hbox7.blk).1
            have HB6 := Lib.hid hB6
            have HC7 := Lib.hid hc7
            have HBX7 := Lib.hid hbox7
            clear hbox7 hc7 hB6
            go_wp2_with fail
            go_at_call 79
            refine (c11 _ hat7).mono ?_
            rintro e w8 ⟨⟨v8, rfl⟩, vL8, hat8, hn8, hc8⟩
            have hbox8 := HBX7.out.chg hc8 (fun hh => hbne hh)
            have hnf8 : ¬ Foot b vL8 vR bx := by
              rintro (hh | hh | hh)
              · exact hbne hh
              · have := hn8 _ hh
                omega
              · exact HNF.out (.inr (.inr hh))
            obtain ⟨q0, q1, q2, q3, q4, q5, q6⟩ := hbox8.cell
            simp only at q0 q1 q2 q3 q4 q5 q6
            have hwarm := hbox8.warm
            have HC8 := Lib.hid hc8
            have HNF8 := Lib.hid hnf8
            clear hbox8 hnf8 hc8 hbne hs7 hn8 hat7
            go_wp2_with (go_at_call 75; refine (c12 _ _ (hat8.set HNF8.out _)).mono ?_; rintro e w9 ⟨rfl, hat9, hc9⟩)
            go_at_call 72
            refine (c13 _ _ hat9).mono ?_
            rintro e w10 ⟨⟨v10, rfl⟩, vL10, hat10, hn10, hc10⟩
            go_wp2_with fail
            go_ret
            rw [HRR.out]
            refine to_put2 (w1 := w9) ?_ rfl hat10 hn10 hc10
            exact rename_chg HB6.out HC7.out HC8.out HGE.out hc9
          · have HRR := Lib.hid (HR.out.trans ((if_neg (fun hh => hh.1 HFT.out)).trans (if_pos (by decide))))
            go_wp2_with (go_at_call 71; refine (c10 _ (below_call hB hb6)).mono ?_; rintro e w7 ⟨rfl, hat7, hc7⟩)
            go_ret
            rw [HRR.out]
            exact to_done (below_call hB hb6) hc7 rfl hat7
        · have e8 : (f.toList == t.toList) = false := bytes_ne hft
          go_wp2_with fail
          go_at_call 74
          refine (c9 _ (below_call hB hb5)).mono ?_
          rintro e w6 ⟨rfl, hb6'⟩
          have hb6 := below_call hb5 hb6'
          cases Fi with
          | false =>
            go_wp2_with fail
            go_ret
            rw [HR.out, if_pos ⟨hft, HFI.out⟩]
            exact HSM.out _ _ _ rfl (below_call hB hb6)
          | true =>
            rcases HD with rfl | rfl
            · have HRR := Lib.hid (HR.out.trans ((if_neg (fun hh => by rw [HFI.out] at hh; exact Bool.noConfusion hh.2)).trans (if_neg (by decide))))
              have hB6 := below_call hB hb6
              go_wp2_with fail
              go_at_call 71
              refine (c10 _ hB6).mono ?_
              rintro e w7 ⟨rfl, hat7, hc7⟩
              have hbne : bx ≠ b := fun hh => HNF.out (.inl hh)
              have hbox7 := (HBX.out.below hb6).chg hc7 (fun hh => hbne hh)
              have hs7 : bx < w7.heap.size := (Array.getElem?_eq_some_iff.1 hbox7.blk).1
              have HB6 := Lib.hid hB6
              have HC7 := Lib.hid hc7
              have HBX7 := Lib.hid hbox7
              clear hbox7 hc7 hB6
              go_wp2_with fail
              go_at_call 79
              refine (c11 _ hat7).mono ?_
              rintro e w8 ⟨⟨v8, rfl⟩, vL8, hat8, hn8, hc8⟩
              have hbox8 := HBX7.out.chg hc8 (fun hh => hbne hh)
              have hnf8 : ¬ Foot b vL8 vR bx := by
                rintro (hh | hh | hh)
                · exact hbne hh
                · have := hn8 _ hh
                  omega
                · exact HNF.out (.inr (.inr hh))
              obtain ⟨q0, q1, q2, q3, q4, q5, q6⟩ := hbox8.cell
              simp only at q0 q1 q2 q3 q4 q5 q6
              have hwarm := hbox8.warm
              have HC8 := Lib.hid hc8
              have HNF8 := Lib.hid hnf8
              clear hbox8 hnf8 hc8 hbne hs7 hn8 hat7
              go_wp2_with (go_at_call 75; refine (c12 _ _ (hat8.set HNF8.out _)).mono ?_; rintro e w9 ⟨rfl, hat9, hc9⟩)
              go_at_call 72
              refine (c13 _ _ hat9).mono ?_
              rintro e w10 ⟨⟨v10, rfl⟩, vL10, hat10, hn10, hc10⟩
              go_wp2_with fail
              go_ret
              rw [HRR.out]
              refine to_put2 (w1 := w9) ?_ rfl hat10 hn10 hc10
              exact rename_chg HB6.out HC7.out HC8.out HGE.out hc9
            · have HRR := Lib.hid (HR.out.trans ((if_neg (fun hh => by rw [HFI.out] at hh; exact Bool.noConfusion hh.2)).trans (if_pos (by decide))))
              go_wp2_with (go_at_call 71; refine (c10 _ (below_call hB hb6)).mono ?_; rintro e w7 ⟨rfl, hat7, hc7⟩)
              go_ret
              rw [HRR.out]
              exact to_done (below_call hB hb6) hc7 rfl hat7
      · have e7 : ((K2 : Int) == 2) = false := beq_eq_false_iff_ne.2 (by omega)
        go_wp2_with fail
        go_at_call 41
        refine (c4 _ hB4).mono ?_
        rintro e w5 ⟨rfl, rfl⟩
        have hMV : M = (XX.size : Int) := by rw [HMM.out, HMS2.out, if_neg HV.out, ← hK2, if_neg h7, Int.sub_zero]
        rw [hMV] at c9
        clear hMV
        obtain ⟨w5, hw5⟩ : ∃ w5, w5 = w4 := ⟨_, rfl⟩
        have hb5 : Below wB.heap.size wB w5 := by rw [hw5]; exact hb4
        rw [← hw5]
        clear hw5
        by_cases hft : f = t
        · have e8 : (f.toList == t.toList) = true := by rw [hft]; exact beq_self_eq_true _
          have HFT := Lib.hid hft
          have hb6 := hb5
          clear hft
          rcases HD with rfl | rfl
          · have HRR := Lib.hid (HR.out.trans ((if_neg (fun hh => hh.1 HFT.out)).trans (if_neg (by decide))))
            have hB6 := below_call hB hb6
            go_wp2_with fail
            go_at_call 71
            refine (c10 _ hB6).mono ?_
            rintro e w7 ⟨rfl, hat7, hc7⟩
            have hbne : bx ≠ b := fun hh => HNF.out (.inl hh)
            have hbox7 := (HBX.out.below hb6).chg hc7 (fun hh => hbne hh)
            have hs7 : bx < w7.heap.size := (Array.getElem?_eq_some_iff.1 hbox7.blk).1
            have HB6 := Lib.hid hB6
            have HC7 := Lib.hid hc7
            have HBX7 := Lib.hid hbox7
            clear hbox7 hc7 hB6
            go_wp2_with fail
            go_at_call 79
            refine (c11 _ hat7).mono ?_
            rintro e w8 ⟨⟨v8, rfl⟩, vL8, hat8, hn8, hc8⟩
            have hbox8 := HBX7.out.chg hc8 (fun hh => hbne hh)
            have hnf8 : ¬ Foot b vL8 vR bx := by
              rintro (hh | hh | hh)
              · exact hbne hh
              · have := hn8 _ hh
                omega
              · exact HNF.out (.inr (.inr hh))
            obtain ⟨q0, q1, q2, q3, q4, q5, q6⟩ := hbox8.cell
            simp only at q0 q1 q2 q3 q4 q5 q6
            have hwarm := hbox8.warm
            have HC8 := Lib.hid hc8
            have HNF8 := Lib.hid hnf8
            clear hbox8 hnf8 hc8 hbne hs7 hn8 hat7
            go_wp2_with (go_at_call 75; refine (c12 _ _ (hat8.set HNF8.out _)).mono ?_; rintro e w9 ⟨rfl, hat9, hc9⟩)
            go_at_call 72
            refine (c13 _ _ hat9).mono ?_
            rintro e w10 ⟨⟨v10, rfl⟩, vL10, hat10, hn10, hc10⟩
            go_wp2_with fail
            go_ret
            rw [HRR.out]
            refine to_put2 (w1 := w9) ?_ rfl hat10 hn10 hc10
            exact rename_chg HB6.out HC7.out HC8.out HGE.out hc9
          · have HRR := Lib.hid (HR.out.trans ((if_neg (fun hh => hh.1 HFT.out)).trans (if_pos (by decide))))
            go_wp2_with (go_at_call 71; refine (c10 _ (below_call hB hb6)).mono ?_; rintro e w7 ⟨rfl, hat7, hc7⟩)
            go_ret
            rw [HRR.out]
            exact to_done (below_call hB hb6) hc7 rfl hat7
        · have e8 : (f.toList == t.toList) = false := bytes_ne hft
          go_wp2_with fail
          go_at_call 74
          refine (c9 _ (below_call hB hb5)).mono ?_
          rintro e w6 ⟨rfl, hb6'⟩
          have hb6 := below_call hb5 hb6'
          cases Fi with
          | false =>
            go_wp2_with fail
            go_ret
            rw [HR.out, if_pos ⟨hft, HFI.out⟩]
            exact HSM.out _ _ _ rfl (below_call hB hb6)
          | true =>
            rcases HD with rfl | rfl
            · have HRR := Lib.hid (HR.out.trans ((if_neg (fun hh => by rw [HFI.out] at hh; exact Bool.noConfusion hh.2)).trans (if_neg (by decide))))
              have hB6 := below_call hB hb6
              go_wp2_with fail
              go_at_call 71
              refine (c10 _ hB6).mono ?_
              rintro e w7 ⟨rfl, hat7, hc7⟩
              have hbne : bx ≠ b := fun hh => HNF.out (.inl hh)
              have hbox7 := (HBX.out.below hb6).chg hc7 (fun hh => hbne hh)
              have hs7 : bx < w7.heap.size := (Array.getElem?_eq_some_iff.1 hbox7.blk).1
              have HB6 := Lib.hid hB6
              have HC7 := Lib.hid hc7
              have HBX7 := Lib.hid hbox7
              clear hbox7 hc7 hB6
              go_wp2_with fail
              go_at_call 79
              refine (c11 _ hat7).mono ?_
              rintro e w8 ⟨⟨v8, rfl⟩, vL8, hat8, hn8, hc8⟩
              have hbox8 := HBX7.out.chg hc8 (fun hh => hbne hh)
              have hnf8 : ¬ Foot b vL8 vR bx := by
                rintro (hh | hh | hh)
                · exact hbne hh
                · have := hn8 _ hh
                  omega
                · exact HNF.out (.inr (.inr hh))
              obtain ⟨q0, q1, q2, q3, q4, q5, q6⟩ := hbox8.cell
              simp only at q0 q1 q2 q3 q4 q5 q6
              have hwarm := hbox8.warm
              have HC8 := Lib.hid hc8
              have HNF8 := Lib.hid hnf8
              clear hbox8 hnf8 hc8 hbne hs7 hn8 hat7
              go_wp2_with (go_at_call 75; refine (c12 _ _ (hat8.set HNF8.out _)).mono ?_; rintro e w9 ⟨rfl, hat9, hc9⟩)
              go_at_call 72
              refine (c13 _ _ hat9).mono ?_
              rintro e w10 ⟨⟨v10, rfl⟩, vL10, hat10, hn10, hc10⟩
              go_wp2_with fail
              go_ret
              rw [HRR.out]
              refine to_put2 (w1 := w9) ?_ rfl hat10 hn10 hc10
              exact rename_chg HB6.out HC7.out HC8.out HGE.out hc9
            · have HRR := Lib.hid (HR.out.trans ((if_neg (fun hh => by rw [HFI.out] at hh; exact Bool.noConfusion hh.2)).trans (if_pos (by decide))))
              go_wp2_with (go_at_call 71; refine (c10 _ (below_call hB hb6)).mono ?_; rintro e w7 ⟨rfl, hat7, hc7⟩)
              go_ret
              rw [HRR.out]
              exact to_done (below_call hB hb6) hc7 rfl hat7
end Go.Proofs.YtdpnmdnfnplcfaaGreat.Dk

namespace Go.Proofs.YtdpnmdnfnplcfaaGreat.Wm
def vb (x : Nat) : List UInt8 := if x < 128 then [UInt8.ofNat x] else UInt8.ofNat (128 + x % 128) :: vb (x / 128)
termination_by x
decreasing_by omega
def vs (x : Nat) : ByteArray := ⟨(vb x).toArray⟩
def lead : List UInt8 → Nat → Nat
  | b :: r, k + 1 => if 128 ≤ b.toNat then lead r k + 1 else 0
  | _, _ => 0
def pv : List UInt8 → Nat → Nat
  | b :: r, n + 1 => b.toNat % 128 + 128 * pv r n
  | _, _ => 0
def rd (l : List UInt8) : Nat × Nat × Nat :=
  let n := lead l 9
  if n = l.length then (0, 0, 2)
  else if n = 9 ∧ 1 < (l.getD 9 0).toNat ∨ 0 < n ∧ (l.getD n 0).toNat = 0 then (0, 0, 3)
  else (pv l (n + 1), n + 1, 0)
theorem len_l (s : ByteArray) : s.data.toList.length = s.size := by rw [Array.length_toList]; rfl
theorem gd (s : ByteArray) (k : Nat) (h : k < s.size) : s.data.toList.getD k 0 = s[k] := by
  have h' : k < s.data.size := h
  rw [List.getD_eq_getElem?_getD, Array.getElem?_toList, Array.getElem?_eq_getElem h']
  rfl
def rdU (l : List UInt8) : Nat × Nat × Nat := if (rd l).2.2 = 0 ∧ 9223372036854775807 < (rd l).1 then (0, 0, 3) else rd l
def rdT (s : ByteArray) : ByteArray × Nat × Nat :=
  if (rdU s.data.toList).2.2 ≠ 0 then (ByteArray.empty, 0, (rdU s.data.toList).2.2)
  else if s.size < (rdU s.data.toList).2.1 + (rdU s.data.toList).1 then (ByteArray.empty, 0, 2)
  else (s.extract (rdU s.data.toList).2.1 ((rdU s.data.toList).2.1 + (rdU s.data.toList).1), (rdU s.data.toList).2.1 + (rdU s.data.toList).1, 0)
end Go.Proofs.YtdpnmdnfnplcfaaGreat.Wm

namespace Go.Proofs.YtdpnmdnfnplcfaaGreat.Wr
open Go.RowKit Wm
set_option linter.unusedVariables false
end Go.Proofs.YtdpnmdnfnplcfaaGreat.Wr

namespace Go.Proofs.YtdpnmdnfnplcfaaGreat.Wr
open Go.RowKit Wm
set_option linter.unusedVariables false
end Go.Proofs.YtdpnmdnfnplcfaaGreat.Wr

namespace Go.Proofs.YtdpnmdnfnplcfaaGreat.Wr
open Go.RowKit Wm
set_option linter.unusedVariables false
def bv (b : UInt8) : Value := .int .u8 (b.toNat : Int)
theorem below_step {w wr w1 : World} {e : TypeId} {size n : Nat} {v : Value} {xs : List Value} {o : Obj} (hb : Below w.heap.size w wr) (hown : wr.ownsRow w.heap.size e size v n xs) (hg : (wr.alloc o).grownBy w1 v.ownBlock) : Below w.heap.size w w1 :=
  (hb.alloc hb.size o).grown hg (by have := hb.size; simp; omega) (fun k hk => (hown.lt k hk).1)
end Go.Proofs.YtdpnmdnfnplcfaaGreat.Wr

namespace Go.Proofs.YtdpnmdnfnplcfaaGreat.Wr
open Go.RowKit Wm
set_option linter.unusedVariables false
def b1 (b : UInt8) : ByteArray := ⟨#[b]⟩
theorem b1_le (b : UInt8) : (b1 b).size ≤ 1 := Nat.le_refl _
theorem conv_one (b : UInt8) (W : World) (g : Nat) (h : W.cell? ⟨g, 0, none⟩ = some (bv b)) : (convert 125 9 (.slice (some ⟨g, 0, none⟩) 1 1)).run Tryz.prog W = .ok (.string (b1 b)) W :=
  run_convert_bytes_back W 125 9 5 ⟨g, 0, none⟩ 1 [b] Tryz.underlying125 Tryz.underlying5 Tryz.underlying9 (fun j hj => by
    match j, hj with
    | 0, _ => exact h)
end Go.Proofs.YtdpnmdnfnplcfaaGreat.Wr

namespace Go.Proofs.YtdpnmdnfnplcfaaGreat.Wr
open Go.RowKit Wm
set_option linter.unusedVariables false
theorem below_call {w w1 w2 : World} (h : Below w.heap.size w w1) (h2 : Below w1.heap.size w1 w2) : Below w.heap.size w w2 := h.trans (h2.mono h.size)
def us (n : Int) : ByteArray := if n < 0 then ⟨#[]⟩ else vs n.toNat
def ts (s : ByteArray) : ByteArray := vs s.size ++ s
end Go.Proofs.YtdpnmdnfnplcfaaGreat.Wr

namespace Go.Proofs.YtdpnmdnfnplcfaaGreat.Fm
open Wm Wr
set_option linter.unusedVariables false
def cstep (c b : Nat) : Nat := if c % 2 = b then c / 2 else (c / 2) ^^^ 3988292384
def cbits : Nat → Nat → Nat → Nat
  | 0, c, _ => c
  | k + 1, c, x => cbits k (cstep c (x % 2)) (x / 2)
def csum (c : Nat) (l : List UInt8) : Nat := l.foldl (fun c b => cbits 8 c b.toNat) c
def fsum (l : List UInt8) : Nat := 4294967295 - csum 4294967295 l
theorem flip_all : ∀ c, c < 256 → ∀ i, i < 8 → (if c / 2 ^ i % 2 = 1 then c - 2 ^ i else c + 2 ^ i) = c ^^^ 2 ^ i ∧ c ^^^ 2 ^ i < 256 ∧ (∀ j, j < 8 → j ≠ i → (c ^^^ 2 ^ i) / 2 ^ j % 2 = c / 2 ^ j % 2) ∧ (c ^^^ 2 ^ i) / 2 ^ i % 2 ≠ c / 2 ^ i % 2 ∧ (c ^^^ 2 ^ i) ^^^ 2 ^ i = c := by
  decide +kernel
def le4 (c : Nat) : List UInt8 := [UInt8.ofNat (c % 256), UInt8.ofNat (c / 256 % 256), UInt8.ofNat (c / 256 / 256 % 256), UInt8.ofNat (c / 256 / 256 / 256 % 256)]
def sum4 (l : List UInt8) : ByteArray := ⟨(le4 (fsum l)).toArray⟩
def pk (s : ByteArray) : ByteArray := ts s ++ sum4 s.data.toList
def fr (s : ByteArray) : ByteArray × Nat × Nat :=
  if (rdT s).2.2 ≠ 0 then (⟨#[]⟩, 0, (rdT s).2.2)
  else if s.size - (rdT s).2.1 < 4 then (⟨#[]⟩, 0, 2)
  else if s.extract 0 ((rdT s).2.1 + 4) ≠ pk (rdT s).1 then (⟨#[]⟩, 0, 6)
  else ((rdT s).1, (rdT s).2.1 + 4, 0)
end Go.Proofs.YtdpnmdnfnplcfaaGreat.Fm

namespace Go.Proofs.YtdpnmdnfnplcfaaGreat.Fr
open Go.RowKit Wm Wr Fm
set_option linter.unusedVariables false
theorem bytes_ne {a b : ByteArray} (h : a ≠ b) : (a.toList == b.toList) = false := by
  rw [ByteArray.toList_eq, ByteArray.toList_eq]
  apply Bool.eq_false_iff.2
  intro hc
  exact h (ByteArray.ext (Array.toList_inj.1 (eq_of_beq hc)))
end Go.Proofs.YtdpnmdnfnplcfaaGreat.Fr

namespace Go.Proofs.YtdpnmdnfnplcfaaGreat.Fr
open Go.RowKit Wm Wr Fm
set_option linter.unusedVariables false
def flip (c i : Nat) : Nat := c ^^^ 2 ^ i
def trn (s : ByteArray) (B : Nat) : ByteArray := s.extract 0 (B / 8) ++ b1 (UInt8.ofNat (flip (s.data.toList.getD (B / 8) 0).toNat (B % 8))) ++ s.extract (B / 8 + 1) s.size
def tn (s : ByteArray) (bit : Int) : ByteArray := if s.size = 0 then ⟨#[]⟩ else trn s (bit % (8 * s.size : Nat)).toNat
theorem rem_pos {b : Int} {n : Nat} (h : 0 ≤ b) : b.tmod (n : Int) = b % (n : Int) := Int.tmod_eq_emod_of_nonneg h
theorem rem_neg {b : Int} {n : Nat} (hn : 0 < n) (h : b < 0) : (b.tmod (n : Int) = 0 ∧ b % (n : Int) = 0) ∨ (b.tmod (n : Int) < 0 ∧ b.tmod (n : Int) + n = b % (n : Int)) := by
  have e : b.tmod (n : Int) = -((-b) % (n : Int)) := by
    have h1 : (-b).tmod (n : Int) = (-b) % (n : Int) := Int.tmod_eq_emod_of_nonneg (by omega)
    rw [Int.neg_tmod] at h1
    omega
  rw [e]
  have h1 := Int.emod_nonneg (-b) (show (n : Int) ≠ 0 by omega)
  have h2 := Int.emod_lt_of_pos (-b) (show 0 < (n : Int) by omega)
  by_cases h0 : (-b) % (n : Int) = 0
  · left
    rw [h0]
    refine ⟨rfl, ?_⟩
    have : (n : Int) ∣ b := (Int.dvd_neg).1 (Int.dvd_of_emod_eq_zero h0)
    exact Int.emod_eq_zero_of_dvd this
  · right
    refine ⟨by omega, ?_⟩
    have h3 := Int.mul_ediv_add_emod (-b) (n : Int)
    obtain ⟨q, hq⟩ : ∃ q, q = -b / (n : Int) := ⟨_, rfl⟩
    obtain ⟨m, hm⟩ : ∃ m, m = -b % (n : Int) := ⟨_, rfl⟩
    rw [← hq, ← hm] at h3
    rw [← hm] at h1 h2 h0 ⊢
    have hx : (n : Int) * (-q - 1) = -((n : Int) * q) - n := by rw [Int.mul_sub, Int.mul_neg, Int.mul_one]
    have e2 : b = (n - m) + n * (-q - 1) := by omega
    have e3 : b % (n : Int) = n - m := by
      rw [e2, Int.add_mul_emod_self_left]
      exact Int.emod_eq_of_lt (by omega) (by omega)
    omega
theorem xor_byte (c i : Nat) (hc : c < 256) (hi : i < 8) : (c / 2 ^ i % 2 = 1 → flip c i = c - 2 ^ i ∧ 2 ^ i ≤ c) ∧ (c / 2 ^ i % 2 = 0 → flip c i = c + 2 ^ i) ∧ flip c i < 256 := by
  have h := flip_all c hc i hi
  unfold flip
  refine ⟨fun h1 => ⟨by rw [← h.1, if_pos h1], ?_⟩, fun h1 => by rw [← h.1, if_neg (by omega)], h.2.1⟩
  rcases Nat.lt_or_ge c (2 ^ i) with hlt | hge
  · rw [Nat.div_eq_of_lt hlt] at h1
    omega
  · exact hge
theorem pow_small : ∀ i, i < 8 → 1 ≤ 2 ^ i ∧ 2 ^ i ≤ 128 := by decide
set_option maxRecDepth 100000 in
set_option maxHeartbeats 1000000 in
theorem refTurn_any (s : ByteArray) (bit : Int) (w : World) (hs : s.size ≤ 1125899906842624) (h1 : -9223372036854775808 ≤ bit) (h2 : bit ≤ 9223372036854775807) :
    Calls Tryz.prog 89 #[.string s, .int .i64 bit] w fun e w' => e = .returned (.string (tn s bit)) ∧ Below w.heap.size w w' := by
  by_cases h0 : s.size = 0
  · rw [tn, if_pos h0]
    have e0 : ((s.size : Int) == 0) = true := by simp [h0]
    clear h0
    go_enter Tryz.func89, Tryz.ntmps89
    go_wp2
    go_ret
    exact ⟨rfl, Below.refl _ _⟩
  · have e0 : ((s.size : Int) == 0) = false := beq_eq_false_iff_ne.2 (by omega)
    rw [tn, if_neg h0]
    obtain ⟨B, hB, hBl⟩ : ∃ B : Nat, (B : Int) = bit % (8 * s.size : Nat) ∧ B < 8 * s.size := by
      have h3 := Int.emod_nonneg bit (show ((8 * s.size : Nat) : Int) ≠ 0 by omega)
      have h4 := Int.emod_lt_of_pos bit (show (0 : Int) < ((8 * s.size : Nat) : Int) by omega)
      obtain ⟨M, hM⟩ : ∃ M, M = bit % ((8 * s.size : Nat) : Int) := ⟨_, rfl⟩
      rw [← hM] at h3 h4 ⊢
      exact ⟨M.toNat, Int.toNat_of_nonneg h3, by omega⟩
    rw [← hB, Int.toNat_natCast]
    have hcast : ((8 * s.size : Nat) : Int) = 8 * (s.size : Int) := by omega
    have hcases : (bit.tmod (8 * (s.size : Int)) = B) ∨ (bit.tmod (8 * (s.size : Int)) < 0 ∧ bit.tmod (8 * (s.size : Int)) + 8 * (s.size : Int) = B) := by
      rw [← hcast, hB]
      by_cases hn : 0 ≤ bit
      · left; exact rem_pos hn
      · rcases rem_neg (n := 8 * s.size) (by omega) (show bit < 0 by omega) with ⟨h3, h4⟩ | h3
        · left; rw [h3, h4]
        · right; exact h3
    clear hB hcast h0
    obtain ⟨R, hR⟩ : ∃ R, R = bit.tmod (8 * (s.size : Int)) := ⟨_, rfl⟩
    rw [← hR] at hcases
    have hR' : bit.tmod (8 * (s.size : Int)) = R := hR.symm
    clear hR
    have hsz : 1 ≤ (s.size : Int) := by omega
    rcases hcases with rfl | ⟨hneg, hsum⟩
    all_goals
      go_enter Tryz.func89, Tryz.ntmps89
      go_wp2
      go_loop [6, 7] (fun x i => ∃ k : Nat, k ≤ B % 8 ∧ i = .int .i64 k ∧ x = .int .i64 (2 ^ k : Nat)) (fun _ i => B % 8 - (intOf i).toNat)
      case atStart => exact ⟨0, Nat.zero_le _, rfl, rfl⟩
      case round =>
        obtain ⟨k, hk, rfl, rfl⟩ := hrel
        have hk8 : k < 8 := by omega
        have hp := pow_small k hk8
        by_cases hlt : k < B % 8
        · have hlt' : (k : Int) < (B : Int) % 8 := by omega
          have hpe : 2 ^ (k + 1) = 2 ^ k * 2 := Nat.pow_succ 2 k
          obtain ⟨W, hW⟩ : ∃ W, W = 2 ^ k := ⟨_, rfl⟩
          rw [← hW] at hp hpe ⊢
          obtain ⟨hp1, hp2⟩ := hp
          have HP := Lib.hid hpe
          clear hpe hW hlt
          go_wp2
          go_round
          case rel => exact ⟨k + 1, by omega, by go_num, by rw [HP.out]; go_num⟩
          case measure => simp [intOf]; omega
        · have hlt' : (B : Int) % 8 ≤ (k : Int) := by omega
          have hk' : k = B % 8 := by omega
          obtain ⟨hp1, hp2⟩ := hp
          obtain ⟨W, hW⟩ : ∃ W, W = 2 ^ k := ⟨_, rfl⟩
          rw [← hW] at hp1 hp2 ⊢
          have hdiv : (B : Int) / 8 < s.size := by omega
          have hdiv2 : B / 8 < s.size := by omega
          have hc := s[B / 8].toNat_lt
          obtain ⟨Q, hQ⟩ : ∃ Q, Q = s[B / 8].toNat / W := ⟨_, rfl⟩
          have hq : (s[B / 8].toNat : Int) / (W : Int) = (Q : Int) := by rw [hQ]; simp
          have hQl : Q ≤ 255 := by have := Nat.div_le_self s[B / 8].toNat W; omega
          have hX := xor_byte s[B / 8].toNat (B % 8) hc (by omega)
          have hWB : W = 2 ^ (B % 8) := by rw [hW, hk']
          rw [← hWB] at hX
          have hres : trn s B = s.extract 0 (B / 8) ++ b1 (UInt8.ofNat (flip s[B / 8].toNat (B % 8))) ++ s.extract (B / 8 + 1) s.size := by rw [trn, gd s (B / 8) hdiv2]
          obtain ⟨V, hV⟩ : ∃ V, V = flip s[B / 8].toNat (B % 8) := ⟨_, rfl⟩
          rw [← hV] at hX hres
          have hcv := fun W g h => conv_one (UInt8.ofNat V) W g h
          have hVl : V < 256 := hX.2.2
          have ebv : bv (UInt8.ofNat V) = .int .u8 (V : Int) := by rw [bv]; congr 1; simp; omega
          rw [ebv] at hcv
          have hs1 := b1_le (UInt8.ofNat V)
          obtain ⟨Y, hY⟩ : ∃ Y, Y = b1 (UInt8.ofNat V) := ⟨_, rfl⟩
          rw [← hY] at hcv hs1 hres
          have HRES := Lib.hid hres
          have g1 : (B : Int).tdiv 8 = (B : Int) / 8 := Int.tdiv_eq_ediv_of_nonneg (by omega)
          have g2 : IntKind.i64.wrap ((B : Int) / 8) = (B : Int) / 8 := IntWalk.i64_in _ (by omega)
          have g3 : IntKind.i64.wrap ((B : Int) / 8 + 1) = (B : Int) / 8 + 1 := IntWalk.i64_in _ (by omega)
          have g4 : IntKind.u8.wrap (V : Int) = (V : Int) := by rw [IntKind.wrap_u8]; omega
          have g5 : ((B : Int) / 8).toNat = B / 8 := by omega
          have g6 : ((B : Int) / 8 + 1).toNat = B / 8 + 1 := by omega
          have g7 : (B : Int) / 8 + 1 ≤ s.size := by omega
          have HG := Lib.hid (And.intro g2 (And.intro g3 (And.intro g4 (And.intro g5 g6))))
          clear hres ebv hY g2 g3 g4 g5 g6 hW hk' hWB hlt
          by_cases hodd : Q % 2 = 1
          · have t1 : ((Q : Int) % 2 == 1) = true := by simp; omega
            obtain ⟨e1, e2⟩ := hX.1 (by rw [← hQ]; exact hodd)
            have hsub : (W : Int) ≤ (s[B / 8].toNat : Int) := by omega
            have e3 : (s[B / 8].toNat : Int) - (W : Int) = (V : Int) := by omega
            clear e1 hodd hX hV hQ
            go_wp2
            obtain ⟨g2, g3, g4, g5, g6⟩ := HG.out
            go_region
            all_goals
              go_wp2
              go_ret
              exact ⟨by rw [HRES.out]; rfl, ((Below.refl _ _).alloc (Nat.le_refl _) _).drew⟩
          · have t1 : ((Q : Int) % 2 == 1) = false := by simp; omega
            have e1 := hX.2.1 (by rw [← hQ]; omega)
            have e3 : (s[B / 8].toNat : Int) + (W : Int) = (V : Int) := by omega
            clear e1 hodd hX hV hQ
            go_wp2
            obtain ⟨g2, g3, g4, g5, g6⟩ := HG.out
            go_region
            all_goals
              go_wp2
              go_ret
              exact ⟨by rw [HRES.out]; rfl, ((Below.refl _ _).alloc (Nat.le_refl _) _).drew⟩
theorem b1_list (b : UInt8) : (b1 b).data.toList = [b] := rfl
theorem trn_list (s : ByteArray) (B : Nat) (h : B / 8 < s.size) : (trn s B).data.toList = s.data.toList.set (B / 8) (UInt8.ofNat (flip (s.data.toList.getD (B / 8) 0).toNat (B % 8))) := by
  have hl : B / 8 < s.data.toList.length := by rw [len_l]; exact h
  rw [trn, ByteArray.data_append, ByteArray.data_append, Array.toList_append, Array.toList_append, b1_list, ByteArray.data_extract, ByteArray.data_extract, Array.toList_extract, Array.toList_extract]
  rw [List.set_eq_take_append_cons_drop, if_pos hl]
  simp only [List.extract_eq_take_drop, List.drop_zero, Nat.sub_zero, List.append_assoc, List.singleton_append]
  congr 2
  exact List.take_of_length_le (by rw [List.length_drop, len_l]; exact Nat.le_refl _)
end Go.Proofs.YtdpnmdnfnplcfaaGreat.Fr

namespace Go.Proofs.YtdpnmdnfnplcfaaGreat.Dk
open Go.RowKit Tx Pm
set_option linter.unusedVariables false
def rotS (s : St) (p : ByteArray) (bit : Int) : Nat × St :=
  if there s p ≠ 0 then (there s p, s) else (0, putS s { old s.L p with data := Fr.tn (old s.L p).data bit, kept := Fr.tn (old s.L p).kept bit })
theorem rot_chg {w w4 w7 : World} {b bx : Nat} {u1 u2 : Value} (hb : Below w.heap.size w w4) (hge : w.heap.size ≤ bx) (h7 : Chg (· = b) ((w4.setCell ⟨bx, 2, none⟩ u1).setCell ⟨bx, 3, none⟩ u2) w7) :
    Chg (fun i => i = b ∨ w.heap.size ≤ i) w w7 := by
  have hs : ∀ (W : World) (k : Nat) (u : Value), Chg (fun i => i = b ∨ w.heap.size ≤ i) W (W.setCell ⟨bx, k, none⟩ u) := fun W k u => (chg_set u).mono (fun i hi => .inr (by rw [hi]; exact hge))
  exact (((Chg.of_below hb).then (hs _ _ _)).then (hs _ _ _)).then (h7.mono (fun i hi => .inl hi))
set_option maxRecDepth 100000 in
set_option maxHeartbeats 4000000 in
theorem rRot_any (b : Nat) (s : St) (vL vR : Value) (p : ByteArray) (bit : Int) (w : World) (h : At w b s vL vR) (ok : Ok s) (hp : p.size ≤ 8000000000000) (hbit : -9223372036854775808 ≤ bit ∧ bit ≤ 9223372036854775807)
    (hd : ∀ x ∈ s.L, x.data.size ≤ 1125899906842624 ∧ x.kept.size ≤ 1125899906842624) :
    Calls Tryz.prog 39 #[.pointer (some ⟨b, 0, none⟩), .string p, .int .i64 bit] w (To w b vL vR (rotS s p bit)) := by
  have c1 := rThere_any b s vL vR p w h ok.fit hp
  have HSM := Lib.hid (fun (e : Ending) (w' : World) (k : Nat) (he : e = .returned (.int .i64 (k : Nat))) (hb : Below w.heap.size w w') => to_same (vL := vL) (vR := vR) h he hb)
  unfold rotS
  by_cases h1 : there s p = 0
  · obtain ⟨k, x, hk, hx, hf, hpl, hxx⟩ := there_file h1
    clear hxx
    have ho : old s.L p = x := by rw [old, hf]; rfl
    have hn := ok.fit.1
    have hxd := hd x (List.mem_of_getElem? hx)
    rw [h1] at c1 ⊢
    rw [if_neg (by decide), ho]
    have hst : s.stamps ≤ 1000000000000 := ok.stamps
    have c2 := fun W (hW : At W b s vL vR) => rPlace_any b s vL vR p W hW (by omega)
    have c6 := fun W (hW : At W b s vL vR) => rStamped_any b s vL vR { x with data := Fr.tn x.data bit, kept := Fr.tn x.kept bit } W hW hst
    have c5 := fun W (hW : At W b { s with stamps := s.stamps + 1 } vL vR) => rPut_any b { s with stamps := s.stamps + 1 } vL vR (stamped s { x with data := Fr.tn x.data bit, kept := Fr.tn x.kept bit }) W hW hn
    rw [hpl] at c2
    obtain ⟨A, c, rfl, _, _, _⟩ := h.rowL.form
    obtain ⟨gA, hgA, _⟩ := (h.seen (Below.refl _ _)).it k x hx
    subst hgA
    have hsh : Shows b s gA s.L.length c k vR x := shows hx
    obtain ⟨XP, XD, XX, XK, XLO, XA, XS⟩ := x
    unfold stamped iv at c5 c6
    simp only at c5 c6 hxd ⊢
    unfold putS stamped
    simp only
    obtain ⟨n, hnn⟩ : ∃ n, n = s.L.length := ⟨_, rfl⟩
    rw [← hnn] at c2 c5 hsh HSM hk hn c6 ⊢
    have HSH := Lib.hid hsh
    clear h1 hx hf hpl ho hsh hst
    have ct1 := fun W => Fr.refTurn_any XX bit W hxd.1 hbit.1 hbit.2
    have ct2 := fun W => Fr.refTurn_any XK bit W hxd.2 hbit.1 hbit.2
    obtain ⟨TX, hTX⟩ : ∃ TX, TX = Fr.tn XX bit := ⟨_, rfl⟩
    obtain ⟨TK, hTK⟩ : ∃ TK, TK = Fr.tn XK bit := ⟨_, rfl⟩
    rw [← hTX] at ct1 c5 c6 ⊢
    rw [← hTK] at ct2 c5 c6 ⊢
    rw [hnn] at c2 hk
    have HH := Lib.hid h
    have HF := Lib.hid h.lt
    have hnb : n ≤ 1000000000 := hn
    clear h ok hd hxd hTX hTK
    go_enter Tryz.func39, Tryz.ntmps39
    go_wp2_with fail
    go_at_call 85
    refine c1.mono ?_
    rintro e w1 ⟨rfl, hb1⟩
    go_wp2_with fail
    rw [hnn] at HSH
    refine Rg.wp_only ?_ (getRot _ (by kernel_rfl) _ b s gA s.L.length c k vR p XP XX XK XD XLO XA XS _ (HH.out.below hb1) HSH.out hk (by rw [← hnn]; omega) c2)
    rintro _ w9 ⟨rfl, rfl⟩
    have hB : Below w.heap.size w (w1.alloc (.cells #[.string XP, .bool XD, .string XX, .string XK, .bool XLO, .bool XA, .int .i64 XS] 76)).drew := (hb1.trans (((Below.refl _ _).alloc (Nat.le_refl _) _).mono hb1.size)).drew
    have hbox : Box (w1.alloc (.cells #[.string XP, .bool XD, .string XX, .string XK, .bool XLO, .bool XA, .int .i64 XS] 76)).drew w1.heap.size ⟨XP, XD, XX, XK, XLO, XA, XS⟩ := ⟨heap_alloc_new _ _⟩
    obtain ⟨wB, hwB⟩ : ∃ wB, wB = (w1.alloc (.cells #[.string XP, .bool XD, .string XX, .string XK, .bool XLO, .bool XA, .int .i64 XS] 76)).drew := ⟨_, rfl⟩
    have hszB : w1.heap.size < wB.heap.size := by rw [hwB]; simp
    rw [← hwB] at hB hbox
    have hwB2 : w1.drew.alloc (.cells #[.string XP, .bool XD, .string XX, .string XK, .bool XLO, .bool XA, .int .i64 XS] 76) = wB := hwB.symm
    rw [hwB2]
    clear hwB hwB2
    obtain ⟨bx, hbx⟩ : ∃ bx, bx = w1.heap.size := ⟨_, rfl⟩
    have hnf : ¬ Foot b (.slice (some ⟨gA, 0, none⟩) s.L.length c) vR bx := fun hh => by have := HF.out _ hh; have := hb1.size; omega
    have hge : w.heap.size ≤ bx := by have := hb1.size; omega
    rw [← hbx] at hbox hszB
    rw [show w1.drew.heap.size = bx from hbx.symm]
    have HNF := Lib.hid hnf
    have HGE := Lib.hid hge
    have HBX := Lib.hid hbox
    rw [hnn] at c5 c6 HSM ⊢
    clear hnf hge hbx hb1 hnn hn
    clear hbox
    go_wp2_with fail
    refine Rg.wp_only ?_ (turnRot _ (by kernel_rfl) _ bx ⟨XP, XD, XX, XK, XLO, XA, XS⟩ XX XK TX TK bit _ HBX.out rfl rfl ct1 ct2)
    rintro _ w9 ⟨rfl, w4, hb4, rfl⟩
    have hbox4 := HBX.out.below hb4
    obtain ⟨m0, m1, m2, m3, m4, m5, m6⟩ := hbox4.cell
    simp only at m0 m1 m2 m3 m4 m5 m6
    have hw4 := hbox4.warm
    have hB4 := below_call hB hb4
    have hat4 := ((HH.out.below hB4).set HNF.out (.string TX) (k := 2)).set HNF.out (.string TK) (k := 3)
    have HAT := Lib.hid hat4
    have HB4 := Lib.hid hB4
    clear hat4 hB4 hbox4 hb4 hB
    go_wp2_with (go_at_call 75; refine (c6 _ HAT.out).mono ?_; rintro e w7 ⟨rfl, hat7, hc7⟩)
    go_at_call 72
    refine (c5 _ hat7).mono ?_
    rintro e w8 ⟨⟨v8, rfl⟩, vL8, hat8, hn8, hc8⟩
    go_wp2_with fail
    go_ret
    refine to_put2 (w1 := w7) ?_ rfl hat8 hn8 hc8
    exact rot_chg HB4.out HGE.out hc7
  · rw [if_pos h1]
    obtain ⟨E, hE⟩ : ∃ E, E = there s p := ⟨_, rfl⟩
    rw [← hE] at c1 h1 ⊢
    have e1 : ((E : Int) == 0) = false := beq_eq_false_iff_ne.2 (by omega)
    clear hE h ok hd
    go_enter Tryz.func39, Tryz.ntmps39
    go_wp2_with (go_at_call 85; refine c1.mono ?_; rintro e w1 ⟨rfl, hb1⟩)
    go_ret
    exact HSM.out _ _ _ rfl hb1
end Go.Proofs.YtdpnmdnfnplcfaaGreat.Dk

namespace Go.Proofs.YtdpnmdnfnplcfaaGreat.Dk
open Go.RowKit Tx Pm
set_option linter.unusedVariables false
def mixA (a n : Nat) : Nat := (a + n * 11400714819323198485) % 18446744073709551616
def mixB (x : Nat) : Nat := ((x ^^^ x / 1073741824) * 13787848793156543929) % 18446744073709551616
def mixC (x : Nat) : Nat := ((x ^^^ x / 134217728) * 10723151780598845931) % 18446744073709551616
def mix (a n : Nat) : Nat := mixC (mixB (mixA a n)) ^^^ mixC (mixB (mixA a n)) / 2147483648
theorem mixA_lt (a n : Nat) : mixA a n < 18446744073709551616 := Nat.mod_lt _ (by decide)
theorem mixB_lt (x : Nat) : mixB x < 18446744073709551616 := Nat.mod_lt _ (by decide)
theorem mixC_lt (x : Nat) : mixC x < 18446744073709551616 := Nat.mod_lt _ (by decide)
theorem mix_lt (a n : Nat) : mix a n < 18446744073709551616 := Nat.xor_lt_two_pow (n := 64) (mixC_lt _) (Nat.lt_of_le_of_lt (Nat.div_le_self _ _) (mixC_lt _))
theorem wrap_nat (x : Nat) : IntKind.u64.wrap (x : Int) = ((x % 18446744073709551616 : Nat) : Int) := by
  rw [IntKind.wrap_u64]
  omega
theorem xor_div (x d : Nat) (h : x < 18446744073709551616) : bits .xor .u64 (x : Int) ((x / d : Nat) : Int) = ((x ^^^ x / d : Nat) : Int) :=
  u64_xor_nat x (x / d) h (Nat.lt_of_le_of_lt (Nat.div_le_self _ _) h)
theorem quo_nat (x d : Nat) (h : x < 18446744073709551616) : IntKind.u64.wrap ((x : Int).tdiv (d : Int)) = ((x / d : Nat) : Int) := by
  rw [← Int.ofNat_tdiv, wrap_nat, Nat.mod_eq_of_lt (Nat.lt_of_le_of_lt (Nat.div_le_self _ _) h)]
theorem mul_nat (x k : Nat) : IntKind.u64.wrap ((x : Int) * (k : Int)) = ((x * k % 18446744073709551616 : Nat) : Int) := by
  rw [← Int.natCast_mul, wrap_nat]
set_option maxRecDepth 100000 in
set_option maxHeartbeats 1000000 in
theorem rMix_any (a n : Nat) (w : World) (ha : a < 18446744073709551616) (hn : n < 18446744073709551616) :
    Calls Tryz.prog 86 #[.int .u64 (a : Int), .int .u64 (n : Int)] w fun e w' => e = .returned (.int .u64 (mix a n : Nat)) ∧ w = w' := by
  go_enter Tryz.func86, Tryz.ntmps86
  go_wp2
  go_ret
  refine ⟨?_, rfl⟩
  have hA : IntKind.u64.wrap ((a : Int) + IntKind.u64.wrap ((n : Int) * 11400714819323198485)) = ((mixA a n : Nat) : Int) := by
    rw [IntKind.wrap_u64, IntKind.wrap_u64]
    unfold mixA
    omega
  have q1 := quo_nat (mixA a n) 1073741824 (mixA_lt a n)
  have x1 := xor_div (mixA a n) 1073741824 (mixA_lt a n)
  have k1 := mul_nat (mixA a n ^^^ mixA a n / 1073741824) 13787848793156543929
  have q2 := quo_nat (mixB (mixA a n)) 134217728 (mixB_lt _)
  have x2 := xor_div (mixB (mixA a n)) 134217728 (mixB_lt _)
  have k2 := mul_nat (mixB (mixA a n) ^^^ mixB (mixA a n) / 134217728) 10723151780598845931
  have q3 := quo_nat (mixC (mixB (mixA a n))) 2147483648 (mixC_lt _)
  have x3 := xor_div (mixC (mixB (mixA a n))) 2147483648 (mixC_lt _)
  rw [show ((mixA a n ^^^ mixA a n / 1073741824) * 13787848793156543929 % 18446744073709551616) = mixB (mixA a n) from rfl] at k1
  rw [show ((mixB (mixA a n) ^^^ mixB (mixA a n) / 134217728) * 10723151780598845931 % 18446744073709551616) = mixC (mixB (mixA a n)) from rfl] at k2
  show Ending.returned (Value.int .u64 _) = _
  rw [hA]
  rw [show ((1073741824 : Nat) : Int) = 1073741824 from rfl] at q1
  rw [show ((134217728 : Nat) : Int) = 134217728 from rfl] at q2
  rw [show ((2147483648 : Nat) : Int) = 2147483648 from rfl] at q3
  rw [show ((13787848793156543929 : Nat) : Int) = 13787848793156543929 from rfl] at k1
  rw [show ((10723151780598845931 : Nat) : Int) = 10723151780598845931 from rfl] at k2
  rw [q1, x1, k1, q2, x2, k2, q3, x3]
  rfl
end Go.Proofs.YtdpnmdnfnplcfaaGreat.Dk

namespace Go.Proofs.YtdpnmdnfnplcfaaGreat.Dk
open Go.RowKit Tx Pm
set_option linter.unusedVariables false
def newS : St := ⟨[], [], 0, 0, -1, false⟩
set_option maxRecDepth 100000 in
set_option maxHeartbeats 1000000 in
theorem rNew_any (w : World) :
    Calls Tryz.prog 6 #[] w fun e w' => ∃ b, e = .returned (.pointer (some ⟨b, 0, none⟩)) ∧ w.heap.size ≤ b ∧ At w' b newS (.slice none 0 0) (.slice none 0 0) ∧ Below w.heap.size w w' := by
  go_enter Tryz.func6, Tryz.ntmps6
  go_wp2_with fail
  go_ret
  exact ⟨w.heap.size, rfl, Nat.le_refl _, ⟨heap_alloc_new _ _, World.ownsRow_nil _ _ _ _, World.ownsRow_nil _ _ _ _⟩, (Below.refl _ _).alloc (Nat.le_refl _) _⟩
def lose (pick : Nat) (x : It) : It :=
  let k1 := if x.anew then (let k := pick % (x.data.size + 2); if k = 0 then x.kept else x.data.extract 0 (k - 1)) else (let k := pick % (x.data.size - x.kept.size + 1); x.data.extract 0 (x.kept.size + k))
  { x with data := k1, kept := k1, loose := false, anew := false }
def restartL (loss : Nat) : List It → Nat → Nat → List It × Nat
  | [], _, st => ([], st)
  | x :: l, n, st => if x.loose then (let r := restartL loss l (n + 1) (st + 1); ({ lose (mix loss (n + 1)) x with stamp := st + 1 } :: r.1, r.2)) else (let r := restartL loss l n st; (x :: r.1, r.2))
def u64 (i : Int) : Nat := (IntKind.u64.wrap i).toNat
def restartS (s : St) (loss : Int) : St := let r := restartL (u64 loss) s.L 0 s.stamps; { s with L := r.1, stamps := r.2, down := false, armed := -1 }
def Rises (l : List It) : Prop := l.Pairwise (fun x y => Op.bytesLess x.path.toList y.path.toList = true)
end Go.Proofs.YtdpnmdnfnplcfaaGreat.Dk

namespace Go.Proofs.YtdpnmdnfnplcfaaGreat.Dk
open Go.RowKit Tx Pm
set_option linter.unusedVariables false
theorem less_irrefl (l : List UInt8) : Op.bytesLess l l = false := by
  induction l with
  | nil => rfl
  | cons c r ih => simp [Op.bytesLess, ih]
theorem ins_same {a c : List It} {x x' : It} (hr : Rises (a ++ x :: c)) (hp : x'.path = x.path) : ins (a ++ x :: c) x' = a ++ x' :: c := by
  have hx : (a ++ x :: c)[a.length]? = some x := by simp
  rw [ins_at (k := a.length) (by simp) ?_ ?_, hx]
  · simp [hp]
  · intro y hy
    rw [List.take_left] at hy
    rw [hp]
    exact (List.pairwise_append.1 hr).2.2 y hy x (by simp)
  · intro y hy
    rw [hx] at hy
    injection hy with hy
    rw [← hy, hp]
    exact less_irrefl _
theorem rises_paths {a b : List It} (h : a.map (·.path) = b.map (·.path)) (hr : Rises a) : Rises b := by
  unfold Rises at *
  have h1 : (a.map (·.path)).Pairwise (fun x y => Op.bytesLess x.toList y.toList = true) := List.pairwise_map.2 hr
  rw [h] at h1
  exact List.pairwise_map.1 h1
structure Sound (s : St) : Prop where
  rises : Rises s.L
  kept : ∀ x ∈ s.L, x.anew = false → x.kept.size ≤ x.data.size
  size : ∀ x ∈ s.L, x.data.size ≤ 140737488355328 ∧ x.kept.size ≤ 140737488355328
  stamps : s.stamps + s.L.length ≤ 1000000000000
structure Through (s : St) (loss k n : Nat) (pre : List It) (st : Nat) : Prop where
  le : k ≤ s.L.length
  len : pre.length = k
  paths : pre.map (·.path) = (s.L.take k).map (·.path)
  rest : restartL loss s.L 0 s.stamps = (pre ++ (restartL loss (s.L.drop k) n st).1, (restartL loss (s.L.drop k) n st).2)
  num : n ≤ k
  stamp : st ≤ s.stamps + k
theorem through_zero (s : St) (loss : Nat) : Through s loss 0 0 [] s.stamps :=
  ⟨Nat.zero_le _, rfl, rfl, by rw [List.drop_zero, List.nil_append], Nat.le_refl _, Nat.le_refl _⟩
theorem through_calm {s : St} {loss k n st : Nat} {pre : List It} {x : It} (h : Through s loss k n pre st) (hx : s.L[k]? = some x) (hl : x.loose = false) : Through s loss (k + 1) n (pre ++ [x]) st := by
  obtain ⟨hk, he⟩ := List.getElem?_eq_some_iff.1 hx
  refine ⟨hk, by rw [List.length_append, h.len]; rfl, by rw [take_more hx, List.map_append, List.map_append, h.paths], ?_, by have := h.num; omega, by have := h.stamp; omega⟩
  rw [h.rest, List.drop_eq_getElem_cons hk, he, restartL, if_neg (by rw [hl]; decide), List.append_assoc]
  rfl
theorem through_loose {s : St} {loss k n st : Nat} {pre : List It} {x : It} (h : Through s loss k n pre st) (hx : s.L[k]? = some x) (hl : x.loose = true) :
    Through s loss (k + 1) (n + 1) (pre ++ [{ lose (mix loss (n + 1)) x with stamp := st + 1 }]) (st + 1) := by
  obtain ⟨hk, he⟩ := List.getElem?_eq_some_iff.1 hx
  refine ⟨hk, by rw [List.length_append, h.len]; rfl, by rw [take_more hx, List.map_append, List.map_append, h.paths]; rfl, ?_, by have := h.num; omega, by have := h.stamp; omega⟩
  rw [h.rest, List.drop_eq_getElem_cons hk, he, restartL, if_pos hl, List.append_assoc]
  rfl
theorem through_end {s : St} {loss n st : Nat} {pre : List It} (h : Through s loss s.L.length n pre st) : restartL loss s.L 0 s.stamps = (pre, st) := by
  rw [h.rest, List.drop_of_length_le (Nat.le_refl _), restartL, List.append_nil]
def mid (s : St) (k : Nat) (pre : List It) (st : Nat) : St := { s with L := pre ++ s.L.drop k, stamps := st }
theorem mid_rises {s : St} {loss k n st : Nat} {pre : List It} (h : Through s loss k n pre st) (hr : Rises s.L) : Rises (mid s k pre st).L := by
  refine rises_paths ?_ hr
  show s.L.map (·.path) = (pre ++ s.L.drop k).map (·.path)
  rw [List.map_append, h.paths, ← List.map_append, List.take_append_drop]
theorem mid_at {s : St} {loss k n st : Nat} {pre : List It} {x : It} (h : Through s loss k n pre st) (hx : s.L[k]? = some x) : (mid s k pre st).L = pre ++ x :: s.L.drop (k + 1) ∧ (mid s k pre st).L[k]? = some x := by
  obtain ⟨hk, he⟩ := List.getElem?_eq_some_iff.1 hx
  have e : (mid s k pre st).L = pre ++ x :: s.L.drop (k + 1) := by
    show pre ++ s.L.drop k = _
    rw [List.drop_eq_getElem_cons hk, he]
  refine ⟨e, ?_⟩
  rw [e, ← h.len]
  simp
theorem mid_len {s : St} {loss k n st : Nat} {pre : List It} (h : Through s loss k n pre st) : (mid s k pre st).L.length = s.L.length := by
  show (pre ++ s.L.drop k).length = _
  have := h.le
  rw [List.length_append, List.length_drop, h.len]
  omega
theorem mid_calm {s : St} {loss k n st : Nat} {pre : List It} {x : It} (h : Through s loss k n pre st) (hx : s.L[k]? = some x) : mid s (k + 1) (pre ++ [x]) st = mid s k pre st := by
  have := (mid_at h hx).1
  unfold mid at *
  rw [List.append_assoc, List.singleton_append]
  simp only at this
  rw [← this]
theorem mid_put {s : St} {loss k n st : Nat} {pre : List It} {x x' : It} (h : Through s loss k n pre st) (hr : Rises s.L) (hx : s.L[k]? = some x) (hp : x'.path = x.path) :
    { mid s k pre st with L := ins (mid s k pre st).L x', stamps := st + 1 } = mid s (k + 1) (pre ++ [x']) (st + 1) := by
  have h1 := mid_rises h hr
  have h2 := (mid_at h hx).1
  have h3 : ins (mid s k pre st).L x' = pre ++ x' :: s.L.drop (k + 1) := by
    rw [h2] at h1 ⊢
    exact ins_same h1 hp
  rw [h3]
  unfold mid
  rw [List.append_assoc, List.singleton_append]
theorem u64_lt (i : Int) : u64 i < 18446744073709551616 := by
  unfold u64
  rw [IntKind.wrap_u64]
  omega
theorem u64_eq (i : Int) : IntKind.u64.wrap i = ((u64 i : Nat) : Int) := by
  unfold u64
  rw [IntKind.wrap_u64]
  omega
set_option maxRecDepth 100000 in
set_option maxHeartbeats 4000000 in
theorem rRestart_any (b : Nat) (s : St) (vL vR : Value) (loss : Int) (w : World) (h : At w b s vL vR) (hs : Sound s) (hn : s.L.length ≤ 1000000000) (hl : -9223372036854775808 ≤ loss ∧ loss ≤ 9223372036854775807) :
    Calls Tryz.prog 37 #[.pointer (some ⟨b, 0, none⟩), .int .i64 loss] w (To w b vL vR (0, restartS s loss)) := by
  obtain ⟨len, hlen⟩ : ∃ len, len = s.L.length := ⟨_, rfl⟩
  have HLEN := Lib.hid hlen
  have HS := Lib.hid hs
  have HH := Lib.hid h
  have hbw := h.lt b (.inl rfl)
  have hU := u64_eq loss
  have hUl := u64_lt loss
  obtain ⟨U, hUU⟩ : ∃ U, U = u64 loss := ⟨_, rfl⟩
  rw [← hUU] at hU hUl
  have HU := Lib.hid hUU
  rw [← hlen] at hn
  clear h hs hlen hUU
  go_enter Tryz.func37, Tryz.ntmps37
  go_wp2_with fail
  go_loopw [5, 6] (fun nv iv wr => ∃ (k n st : Nat) (pre : List It) (vL' : Value), k ≤ len ∧ n ≤ k ∧ iv = .int .i64 k ∧ nv = .int .i64 n ∧ Hid (Through s U k n pre st) ∧ Hid (At wr b (mid s k pre st) vL' vR) ∧ Hid (Chg (fun i => i = b ∨ w.heap.size ≤ i) w wr) ∧ Hid (∀ g, vL'.ownBlock = some g → vL.ownBlock = some g ∨ w.heap.size ≤ g)) (fun _ i _ => len - (intOf i).toNat)
  case atStart => exact ⟨0, 0, s.stamps, [], vL, Nat.zero_le _, Nat.le_refl _, rfl, rfl, through_zero s U, HH.out, Chg.refl _ _, fun g hg => .inl hg⟩
  case round =>
    obtain ⟨k, n, st, pre, vL', hk, hnk, rfl, rfl, hT, hA, hC, hN⟩ := hrel
    obtain ⟨A, c, hvL, _, _, _⟩ := hA.out.rowL.form
    subst hvL
    have hml := mid_len hT.out
    have hseen := hA.out
    rw [hml, ← HLEN.out] at hseen
    have hst9 := hA.out.cell
    obtain ⟨e0, _⟩ := hseen.cell
    clear hst9 hml
    by_cases hlt : k < len
    · obtain ⟨x, hx⟩ : ∃ x, s.L[k]? = some x := ⟨_, List.getElem?_eq_getElem (by rw [← HLEN.out]; exact hlt)⟩
      have hmx := (mid_at hT.out hx).2
      have hsee2 := (hA.out.seen (Below.refl _ _)).it k x hmx
      obtain ⟨g2, hg2, d0, d1, d2, d3, d4, d5, d6⟩ := hsee2
      cases hg2
      have HX := Lib.hid hx
      obtain ⟨XP, XD, XX, XK, XLO, XA, XS⟩ := x
      simp only at d0 d1 d2 d3 d4 d5 d6
      clear hx hmx hseen
      cases XLO with
      | false =>
        have HT2 := Lib.hid (through_calm hT.out HX.out rfl)
        have hAt2 := hA.out
        rw [← mid_calm hT.out HX.out] at hAt2
        have HA2 := Lib.hid hAt2
        clear hAt2
        go_wp2_with fail
        go_roundw
        case rel => exact ⟨k + 1, n, st, _, _, by omega, by omega, by go_num, rfl, HT2.out, HA2.out.below ((Below.refl _ _).alloc (Nat.le_refl _) _), hC.out.then (Chg.of_below ((Below.refl _ _).alloc (Nat.le_refl _) _)), hN.out⟩
        case measure => simp [intOf]; omega
      | true =>
        have cm := fun W => rMix_any U (n + 1) W hUl (by omega)
        rw [show ((n + 1 : Nat) : Int) = (n : Int) + 1 by omega] at cm
        have HT2 := Lib.hid (through_loose hT.out HX.out rfl)
        have hPl := mix_lt U (n + 1)
        obtain ⟨PK, hPK⟩ : ∃ PK, PK = mix U (n + 1) := ⟨_, rfl⟩
        rw [← hPK] at cm hPl
        have HPK := Lib.hid hPK
        clear hPK
        have hsz := HS.out.size _ (List.mem_of_getElem? HX.out)
        simp only at hsz
        cases XA with
        | true =>
          obtain ⟨R, hR⟩ : ∃ R, R = PK % (XX.size + 2) := ⟨_, rfl⟩
          have hRl : R < XX.size + 2 := by rw [hR]; exact Nat.mod_lt _ (by omega)
          have hrem : (PK : Int) % ((XX.size : Int) + 2) = (R : Int) := by rw [hR]; push_cast; rfl
          rcases R with _ | K
          · have hlose : lose PK ⟨XP, XD, XX, XK, true, true, XS⟩ = ⟨XP, XD, XK, XK, false, false, XS⟩ := by
              unfold lose
              simp [← hR]
            rw [show ((0 : Nat) : Int) = 0 from rfl] at hrem
            clear hR
            go_wp2_with fail
            go_at_call 86
            refine (cm _).mono ?_
            rintro e w1 ⟨rfl, rfl⟩
            have c6 := fun W (hW : At W b (mid s k pre st) (.slice (some ⟨g2, 0, none⟩) (mid s k pre st).L.length c) vR) => rStamped_any b (mid s k pre st) (.slice (some ⟨g2, 0, none⟩) (mid s k pre st).L.length c) vR ⟨XP, XD, XK, XK, false, false, XS⟩ W hW (by show st ≤ _; have := hT.out.stamp; have := HS.out.stamps; have := HLEN.out; omega)
            have c5 := fun W (hW : At W b { mid s k pre st with stamps := st + 1 } (.slice (some ⟨g2, 0, none⟩) (mid s k pre st).L.length c) vR) => rPut_any b { mid s k pre st with stamps := st + 1 } (.slice (some ⟨g2, 0, none⟩) (mid s k pre st).L.length c) vR (stamped (mid s k pre st) ⟨XP, XD, XK, XK, false, false, XS⟩) W hW (by show (mid s k pre st).L.length ≤ _; rw [mid_len hT.out, ← HLEN.out]; omega)
            have hput := mid_put (x' := stamped (mid s k pre st) ⟨XP, XD, XK, XK, false, false, XS⟩) hT.out HS.out.rises HX.out rfl
            have hth : Through s U (k + 1) (n + 1) (pre ++ [stamped (mid s k pre st) ⟨XP, XD, XK, XK, false, false, XS⟩]) (st + 1) := by
              have h2 := HT2.out
              rw [← HPK.out, hlose] at h2
              exact h2
            have HPUT := Lib.hid hput
            have HTH := Lib.hid hth
            unfold stamped iv at c5
            unfold iv stamped at c6
            simp only at c5 c6
            rw [show (mid s k pre st).stamps = st from rfl] at c5 c6
            clear hput hth hlose
            go_wp2_with fail
            go_at_call 75
            refine (c6 _ (hA.out.below ((Below.refl _ _).alloc (Nat.le_refl _) _))).mono ?_
            rintro e w7 ⟨rfl, hat7, hc7⟩
            go_wp2_with fail
            go_at_call 72
            refine (c5 _ hat7).mono ?_
            rintro e w8 ⟨⟨v8, rfl⟩, vL8, hat8, hn8, hc8⟩
            have hfin := hat8
            rw [show ({ mid s k pre st with stamps := st + 1 } : St).L = (mid s k pre st).L from rfl] at hfin
            have HFIN : At w8 b (mid s (k + 1) (pre ++ [stamped (mid s k pre st) ⟨XP, XD, XK, XK, false, false, XS⟩]) (st + 1)) vL8 vR := by rw [← HPUT.out]; exact hfin
            have hchg : Chg (fun i => i = b ∨ w.heap.size ≤ i) w w8 := ((hC.out.then (Chg.of_below ((Below.refl _ _).alloc (Nat.le_refl _) _))).then (hc7.mono (fun i hi => .inl hi))).then (hc8.mono (fun i hi => .inl hi))
            have hnew : ∀ g, vL8.ownBlock = some g → vL.ownBlock = some g ∨ w.heap.size ≤ g := fun g hg => .inr (by
              have h1 := hn8 g hg
              have h2 := hc7.size
              have h3 := hC.out.size
              have h4 : (wr.alloc (.cells #[.string XP, .bool XD, .string XK, .string XK, .bool false, .bool false, .int .i64 XS] 76)).heap.size = wr.heap.size + 1 := by simp
              omega)
            have H8 := Lib.hid HFIN
            have HC8 := Lib.hid hchg
            have HN8 := Lib.hid hnew
            clear hfin HFIN hchg hnew hat8 hn8 hc8 hat7 hc7
            go_wp2_with fail
            go_roundw
            case rel => exact ⟨k + 1, n + 1, st + 1, _, vL8, by omega, by omega, by go_num, by go_num, HTH.out, H8.out, HC8.out, HN8.out⟩
            case measure => simp [intOf]; omega
          · have hlose : lose PK ⟨XP, XD, XX, XK, true, true, XS⟩ = ⟨XP, XD, XX.extract 0 K, XX.extract 0 K, false, false, XS⟩ := by
              unfold lose
              simp [← hR]
            rw [show ((K + 1 : Nat) : Int) = (K : Int) + 1 by omega] at hrem
            clear hR
            go_wp2_with fail
            go_at_call 86
            refine (cm _).mono ?_
            rintro e w1 ⟨rfl, rfl⟩
            have c6 := fun W (hW : At W b (mid s k pre st) (.slice (some ⟨g2, 0, none⟩) (mid s k pre st).L.length c) vR) => rStamped_any b (mid s k pre st) (.slice (some ⟨g2, 0, none⟩) (mid s k pre st).L.length c) vR ⟨XP, XD, (XX.extract 0 K), (XX.extract 0 K), false, false, XS⟩ W hW (by show st ≤ _; have := hT.out.stamp; have := HS.out.stamps; have := HLEN.out; omega)
            have c5 := fun W (hW : At W b { mid s k pre st with stamps := st + 1 } (.slice (some ⟨g2, 0, none⟩) (mid s k pre st).L.length c) vR) => rPut_any b { mid s k pre st with stamps := st + 1 } (.slice (some ⟨g2, 0, none⟩) (mid s k pre st).L.length c) vR (stamped (mid s k pre st) ⟨XP, XD, (XX.extract 0 K), (XX.extract 0 K), false, false, XS⟩) W hW (by show (mid s k pre st).L.length ≤ _; rw [mid_len hT.out, ← HLEN.out]; omega)
            have hput := mid_put (x' := stamped (mid s k pre st) ⟨XP, XD, (XX.extract 0 K), (XX.extract 0 K), false, false, XS⟩) hT.out HS.out.rises HX.out rfl
            have hth : Through s U (k + 1) (n + 1) (pre ++ [stamped (mid s k pre st) ⟨XP, XD, (XX.extract 0 K), (XX.extract 0 K), false, false, XS⟩]) (st + 1) := by
              have h2 := HT2.out
              rw [← HPK.out, hlose] at h2
              exact h2
            have HPUT := Lib.hid hput
            have HTH := Lib.hid hth
            unfold stamped iv at c5
            unfold iv stamped at c6
            simp only at c5 c6
            rw [show (mid s k pre st).stamps = st from rfl] at c5 c6
            clear hput hth hlose
            go_wp2_with fail
            go_at_call 75
            refine (c6 _ (hA.out.below ((Below.refl _ _).alloc (Nat.le_refl _) _))).mono ?_
            rintro e w7 ⟨rfl, hat7, hc7⟩
            go_wp2_with fail
            go_at_call 72
            refine (c5 _ hat7).mono ?_
            rintro e w8 ⟨⟨v8, rfl⟩, vL8, hat8, hn8, hc8⟩
            have hfin := hat8
            rw [show ({ mid s k pre st with stamps := st + 1 } : St).L = (mid s k pre st).L from rfl] at hfin
            have HFIN : At w8 b (mid s (k + 1) (pre ++ [stamped (mid s k pre st) ⟨XP, XD, (XX.extract 0 K), (XX.extract 0 K), false, false, XS⟩]) (st + 1)) vL8 vR := by rw [← HPUT.out]; exact hfin
            have hchg : Chg (fun i => i = b ∨ w.heap.size ≤ i) w w8 := ((hC.out.then (Chg.of_below ((Below.refl _ _).alloc (Nat.le_refl _) _))).then (hc7.mono (fun i hi => .inl hi))).then (hc8.mono (fun i hi => .inl hi))
            have hnew : ∀ g, vL8.ownBlock = some g → vL.ownBlock = some g ∨ w.heap.size ≤ g := fun g hg => .inr (by
              have h1 := hn8 g hg
              have h2 := hc7.size
              have h3 := hC.out.size
              have h4 : (wr.alloc (.cells #[.string XP, .bool XD, .string (XX.extract 0 K), .string (XX.extract 0 K), .bool false, .bool false, .int .i64 XS] 76)).heap.size = wr.heap.size + 1 := by simp
              omega)
            have H8 := Lib.hid HFIN
            have HC8 := Lib.hid hchg
            have HN8 := Lib.hid hnew
            clear hfin HFIN hchg hnew hat8 hn8 hc8 hat7 hc7
            go_wp2_with fail
            go_roundw
            case rel => exact ⟨k + 1, n + 1, st + 1, _, vL8, by omega, by omega, by go_num, by go_num, HTH.out, H8.out, HC8.out, HN8.out⟩
            case measure => simp [intOf]; omega
        | false =>
          have hkd := HS.out.kept _ (List.mem_of_getElem? HX.out) rfl
          simp only at hkd
          obtain ⟨R, hR⟩ : ∃ R, R = PK % (XX.size - XK.size + 1) := ⟨_, rfl⟩
          have hRl : R < XX.size - XK.size + 1 := by rw [hR]; exact Nat.mod_lt _ (by omega)
          have hrem : (PK : Int) % ((XX.size : Int) - (XK.size : Int) + 1) = (R : Int) := by rw [hR, show (XX.size : Int) - (XK.size : Int) + 1 = ((XX.size - XK.size + 1 : Nat) : Int) by omega]; push_cast; rfl
          have hlose : lose PK ⟨XP, XD, XX, XK, true, false, XS⟩ = ⟨XP, XD, XX.extract 0 (XK.size + R), XX.extract 0 (XK.size + R), false, false, XS⟩ := by
            unfold lose
            simp [← hR]
          clear hR
          go_wp2_with fail
          go_at_call 86
          refine (cm _).mono ?_
          rintro e w1 ⟨rfl, rfl⟩
          have c6 := fun W (hW : At W b (mid s k pre st) (.slice (some ⟨g2, 0, none⟩) (mid s k pre st).L.length c) vR) => rStamped_any b (mid s k pre st) (.slice (some ⟨g2, 0, none⟩) (mid s k pre st).L.length c) vR ⟨XP, XD, (XX.extract 0 (XK.size + R)), (XX.extract 0 (XK.size + R)), false, false, XS⟩ W hW (by show st ≤ _; have := hT.out.stamp; have := HS.out.stamps; have := HLEN.out; omega)
          have c5 := fun W (hW : At W b { mid s k pre st with stamps := st + 1 } (.slice (some ⟨g2, 0, none⟩) (mid s k pre st).L.length c) vR) => rPut_any b { mid s k pre st with stamps := st + 1 } (.slice (some ⟨g2, 0, none⟩) (mid s k pre st).L.length c) vR (stamped (mid s k pre st) ⟨XP, XD, (XX.extract 0 (XK.size + R)), (XX.extract 0 (XK.size + R)), false, false, XS⟩) W hW (by show (mid s k pre st).L.length ≤ _; rw [mid_len hT.out, ← HLEN.out]; omega)
          have hput := mid_put (x' := stamped (mid s k pre st) ⟨XP, XD, (XX.extract 0 (XK.size + R)), (XX.extract 0 (XK.size + R)), false, false, XS⟩) hT.out HS.out.rises HX.out rfl
          have hth : Through s U (k + 1) (n + 1) (pre ++ [stamped (mid s k pre st) ⟨XP, XD, (XX.extract 0 (XK.size + R)), (XX.extract 0 (XK.size + R)), false, false, XS⟩]) (st + 1) := by
            have h2 := HT2.out
            rw [← HPK.out, hlose] at h2
            exact h2
          have HPUT := Lib.hid hput
          have HTH := Lib.hid hth
          unfold stamped iv at c5
          unfold iv stamped at c6
          simp only at c5 c6
          rw [show (mid s k pre st).stamps = st from rfl] at c5 c6
          clear hput hth hlose
          go_wp2_with fail
          go_at_call 75
          refine (c6 _ (hA.out.below ((Below.refl _ _).alloc (Nat.le_refl _) _))).mono ?_
          rintro e w7 ⟨rfl, hat7, hc7⟩
          go_wp2_with fail
          go_at_call 72
          refine (c5 _ hat7).mono ?_
          rintro e w8 ⟨⟨v8, rfl⟩, vL8, hat8, hn8, hc8⟩
          have hfin := hat8
          rw [show ({ mid s k pre st with stamps := st + 1 } : St).L = (mid s k pre st).L from rfl] at hfin
          have HFIN : At w8 b (mid s (k + 1) (pre ++ [stamped (mid s k pre st) ⟨XP, XD, (XX.extract 0 (XK.size + R)), (XX.extract 0 (XK.size + R)), false, false, XS⟩]) (st + 1)) vL8 vR := by rw [← HPUT.out]; exact hfin
          have hchg : Chg (fun i => i = b ∨ w.heap.size ≤ i) w w8 := ((hC.out.then (Chg.of_below ((Below.refl _ _).alloc (Nat.le_refl _) _))).then (hc7.mono (fun i hi => .inl hi))).then (hc8.mono (fun i hi => .inl hi))
          have hnew : ∀ g, vL8.ownBlock = some g → vL.ownBlock = some g ∨ w.heap.size ≤ g := fun g hg => .inr (by
            have h1 := hn8 g hg
            have h2 := hc7.size
            have h3 := hC.out.size
            have h4 : (wr.alloc (.cells #[.string XP, .bool XD, .string (XX.extract 0 (XK.size + R)), .string (XX.extract 0 (XK.size + R)), .bool false, .bool false, .int .i64 XS] 76)).heap.size = wr.heap.size + 1 := by simp
            omega)
          have H8 := Lib.hid HFIN
          have HC8 := Lib.hid hchg
          have HN8 := Lib.hid hnew
          clear hfin HFIN hchg hnew hat8 hn8 hc8 hat7 hc7
          go_wp2_with fail
          go_roundw
          case rel => exact ⟨k + 1, n + 1, st + 1, _, vL8, by omega, by omega, by go_num, by go_num, HTH.out, H8.out, HC8.out, HN8.out⟩
          case measure => simp [intOf]; omega
    · obtain rfl : k = len := by omega
      have hT' := hT.out
      rw [HLEN.out] at hT'
      have hend := through_end hT'
      have hres : restartS s loss = { s with L := pre, stamps := st, down := false, armed := -1 } := by
        unfold restartS
        rw [← HU.out, hend]
      have hmid : mid s k pre st = { s with L := pre, stamps := st } := by
        unfold mid
        rw [HLEN.out, List.drop_of_length_le (Nat.le_refl _), List.append_nil]
      have hat := hA.out
      rw [hmid] at hat
      have HRES := Lib.hid hres
      have HAT := Lib.hid hat
      have hwarm := hat.warm
      obtain ⟨q0, q1, q2, q3, q4, q5⟩ := hat.cell
      simp only at q0 q1 q2 q3 q4 q5
      clear hT' hend hres hmid hat hseen
      go_wp2_with fail
      go_ret
      rw [HRES.out]
      refine ⟨rfl, _, vR, HAT.out.poke ?_ (fun i hi => ?_) rfl rfl, ?_, ?_⟩
      · rw [set_block (set_block HAT.out.blk _) _]; rfl
      · rw [set_other _ hi, set_other _ hi]
      · have h9 := (hC.out.then ((chg_set (b := b) (k := 5) (.bool false)).mono (fun i hi => .inl hi))).then ((chg_set (b := b) (k := 4) (.int .i64 (-1))).mono (fun i hi => .inl hi))
        exact ⟨h9.os, h9.tape, h9.output, h9.size, fun i hi hn => h9.block i hi (fun hh => by rcases hh with hh | hh; exact hn (.inl hh); omega)⟩
      · rintro g (rfl | hg | hg)
        · exact .inl (.inl rfl)
        · exact (hN.out g (by cases A <;> exact hg)).imp (fun hh => .inr (.inl hh)) id
        · exact .inl (.inr (.inr hg))
end Go.Proofs.YtdpnmdnfnplcfaaGreat.Dk

namespace Go.Proofs.YtdpnmdnfnplcfaaGreat.Od
set_option linter.unusedVariables false
theorem less_trans : ∀ (a b c : List UInt8), Op.bytesLess a b = true → Op.bytesLess b c = true → Op.bytesLess a c = true
  | [], [], _, h, _ => by rw [Op.bytesLess] at h; cases h
  | [], _ :: _, [], _, h => by rw [Op.bytesLess] at h; cases h
  | [], _ :: _, _ :: _, _, _ => by rw [Op.bytesLess]
  | _ :: _, [], _, h, _ => by rw [Op.bytesLess] at h; cases h
  | _ :: _, _ :: _, [], _, h => by rw [Op.bytesLess] at h; cases h
  | x :: a, y :: b, z :: c, h1, h2 => by
    have ih := less_trans a b c
    rw [Op.bytesLess] at h1 h2 ⊢
    simp only [Bool.or_eq_true, Bool.and_eq_true, decide_eq_true_eq, beq_iff_eq] at h1 h2 ⊢
    rcases h1 with h1 | ⟨rfl, h1⟩
    · rcases h2 with h2 | ⟨rfl, h2⟩
      · left
        rw [UInt8.lt_iff_toNat_lt] at h1 h2 ⊢
        omega
      · exact .inl h1
    · rcases h2 with h2 | ⟨rfl, h2⟩
      · exact .inl h2
      · exact .inr ⟨rfl, ih h1 h2⟩
theorem less_tri : ∀ (a b : List UInt8), Op.bytesLess a b = false → Op.bytesLess b a = false → a = b
  | [], [], _, _ => rfl
  | [], _ :: _, h, _ => by rw [Op.bytesLess] at h; cases h
  | _ :: _, [], _, h => by rw [Op.bytesLess] at h; cases h
  | x :: a, y :: b, h1, h2 => by
    have ih := less_tri a b
    rw [Op.bytesLess] at h1 h2
    simp only [Bool.or_eq_false_iff, Bool.and_eq_false_iff, decide_eq_false_iff_not, beq_eq_false_iff_ne] at h1 h2
    have e : x = y := by
      apply UInt8.toNat_inj.1
      have a1 := h1.1
      have a2 := h2.1
      rw [UInt8.lt_iff_toNat_lt] at a1 a2
      omega
    subst e
    rw [ih (h1.2.resolve_left (fun h => h rfl)) (h2.2.resolve_left (fun h => h rfl))]
theorem to_list {a b : ByteArray} : a.toList = b.toList ↔ a = b := by
  rw [ByteArray.toList_eq, ByteArray.toList_eq]
  exact ⟨fun h => ByteArray.ext (Array.toList_inj.1 h), fun h => by rw [h]⟩
end Go.Proofs.YtdpnmdnfnplcfaaGreat.Od

namespace Go.Proofs.YtdpnmdnfnplcfaaGreat.Dk
open Go.RowKit Tx Pm Od
set_option linter.unusedVariables false
theorem mem_ins {l : List It} {x y : It} (h : y ∈ ins l x) : y = x ∨ y ∈ l := by
  rw [ins, List.mem_append, List.mem_cons] at h
  rcases h with h | h | h
  · exact .inr ((List.takeWhile_prefix _).subset h)
  · exact .inl h
  · have hd := List.dropWhile_suffix (fun y => Op.bytesLess y.path.toList x.path.toList) (l := l)
    cases hdw : l.dropWhile (fun y => Op.bytesLess y.path.toList x.path.toList) with
    | nil => rw [hdw] at h; cases h
    | cons z r =>
      rw [hdw] at h hd
      simp only at h
      split at h
      · exact .inr (hd.subset (List.mem_cons_of_mem _ h))
      · exact .inr (hd.subset h)
theorem len_ins (l : List It) (x : It) : (ins l x).length ≤ l.length + 1 := by
  have h1 := List.takeWhile_append_dropWhile (p := fun y => Op.bytesLess y.path.toList x.path.toList) (l := l)
  have h2 := congrArg List.length h1
  rw [List.length_append] at h2
  rw [ins, List.length_append, List.length_cons]
  cases hdw : l.dropWhile (fun y => Op.bytesLess y.path.toList x.path.toList) with
  | nil => rw [hdw] at h2; simp at h2 ⊢; omega
  | cons z r =>
    rw [hdw] at h2
    simp only
    simp only [List.length_cons] at h2
    split
    · omega
    · simp; omega
theorem rises_ins {l : List It} {x : It} (h : Rises l) : Rises (ins l x) := by
  unfold Rises at *
  have h1 := List.takeWhile_append_dropWhile (p := fun y => Op.bytesLess y.path.toList x.path.toList) (l := l)
  have htw : ∀ y ∈ l.takeWhile (fun y => Op.bytesLess y.path.toList x.path.toList), Op.bytesLess y.path.toList x.path.toList = true := fun y hy => by
    have := List.all_takeWhile (p := fun y => Op.bytesLess y.path.toList x.path.toList) (l := l)
    exact List.all_eq_true.1 this y hy
  rw [← h1] at h
  obtain ⟨p1, p2, p3⟩ := List.pairwise_append.1 h
  rw [ins, List.pairwise_append]
  have hrest : ∀ z r, l.dropWhile (fun y => Op.bytesLess y.path.toList x.path.toList) = z :: r → (z.path = x.path → ∀ y ∈ r, Op.bytesLess x.path.toList y.path.toList = true) ∧ (z.path ≠ x.path → ∀ y ∈ z :: r, Op.bytesLess x.path.toList y.path.toList = true) := by
    intro z r hz
    rw [hz] at p2
    have hn : Op.bytesLess z.path.toList x.path.toList = false := by
      have h0 := List.head?_dropWhile_not (fun y => Op.bytesLess y.path.toList x.path.toList) l
      rw [hz] at h0
      simpa using h0
    refine ⟨fun he y hy => ?_, fun he y hy => ?_⟩
    · rw [← he]
      exact (List.pairwise_cons.1 p2).1 y hy
    · have hxz : Op.bytesLess x.path.toList z.path.toList = true := by
        cases hc : Op.bytesLess x.path.toList z.path.toList with
        | true => rfl
        | false => exact absurd (to_list.1 (less_tri _ _ hn hc)) he
      rcases List.mem_cons.1 hy with rfl | hy
      · exact hxz
      · exact less_trans _ _ _ hxz ((List.pairwise_cons.1 p2).1 y hy)
  cases hdw : l.dropWhile (fun y => Op.bytesLess y.path.toList x.path.toList) with
  | nil =>
    simp only
    refine ⟨p1, List.pairwise_singleton _ _, fun y hy z hz => ?_⟩
    obtain rfl : z = x := by simpa using hz
    exact htw y hy
  | cons z r =>
    have hr := hrest z r hdw
    rw [hdw] at p2 p3
    simp only
    split
    · rename_i he
      refine ⟨p1, List.pairwise_cons.2 ⟨hr.1 he, (List.pairwise_cons.1 p2).2⟩, fun y hy q hq => ?_⟩
      rcases List.mem_cons.1 hq with rfl | hq
      · exact htw y hy
      · exact p3 y hy q (List.mem_cons_of_mem _ hq)
    · rename_i he
      refine ⟨p1, List.pairwise_cons.2 ⟨hr.2 he, p2⟩, fun y hy q hq => ?_⟩
      rcases List.mem_cons.1 hq with rfl | hq
      · exact htw y hy
      · exact p3 y hy q hq
theorem rises_drop {l : List It} (p : ByteArray) (h : Rises l) : Rises (drop l p) := List.Pairwise.filter _ h
structure Inv (s : St) (i T : Nat) : Prop where
  rises : Rises s.L
  len : s.L.length ≤ i
  path : ∀ x ∈ s.L, x.path.size ≤ 1048576
  size : ∀ x ∈ s.L, x.data.size ≤ T ∧ x.kept.size ≤ T
  kept : ∀ x ∈ s.L, x.anew = false → x.kept.size ≤ x.data.size
  rooms : s.rooms.length ≤ i
  steps : s.steps ≤ i
  stamps : s.stamps ≤ T
  armed : -1 ≤ s.armed ∧ s.armed ≤ 9223372036854775807
theorem inv_new : Inv newS 0 0 where
  rises := List.Pairwise.nil
  len := Nat.le_refl _
  path := fun x hx => by cases hx
  size := fun x hx => by cases hx
  kept := fun x hx => by cases hx
  rooms := Nat.le_refl _
  steps := Nat.le_refl _
  stamps := Nat.le_refl _
  armed := by
    show (-1 : Int) ≤ -1 ∧ (-1 : Int) ≤ 9223372036854775807
    omega
theorem Inv.more {s : St} {i T : Nat} (h : Inv s i T) : Inv s (i + 1) (T + 1048576) where
  rises := h.rises
  len := by have := h.len; omega
  path := h.path
  size := fun x hx => by have := h.size x hx; omega
  kept := h.kept
  rooms := by have := h.rooms; omega
  steps := by have := h.steps; omega
  stamps := by have := h.stamps; omega
  armed := h.armed
theorem whole_le {l : List It} {B : Nat} (h : ∀ x ∈ l, x.data.size ≤ B) : whole l ≤ l.length * B := by
  induction l with
  | nil => simp [whole]
  | cons x l ih =>
    have h1 := h x (by simp)
    have h2 := ih (fun y hy => h y (by simp [hy]))
    unfold whole at *
    rw [List.map_cons, List.sum_cons, List.length_cons, Nat.succ_mul]
    omega
theorem Inv.ok {s : St} {i T : Nat} (h : Inv s i T) (hi : i ≤ 1000) (hT : T ≤ 1048576000) : Ok s := by
  have hl := h.len
  have hw := whole_le (B := T) (fun x hx => (h.size x hx).1)
  have hm : s.L.length * T ≤ 1048576000000 := Nat.le_trans (Nat.mul_le_mul (Nat.le_trans hl hi) hT) (by decide)
  refine ⟨⟨by omega, fun x hx => by have := h.path x hx; omega, by omega⟩, by have := h.rooms; omega, by have := h.steps; omega, by have := h.stamps; omega, by have := h.armed; omega⟩
theorem Inv.sound {s : St} {i T : Nat} (h : Inv s i T) (hi : i ≤ 1000) (hT : T ≤ 1048576000) : Sound s :=
  ⟨h.rises, h.kept, fun x hx => by have := h.size x hx; omega, by have := h.stamps; have := h.len; omega⟩
theorem inv_ins {s s' : St} {i T : Nat} {l : List It} {x : It} (h : Inv s i T) (hl : Rises l ∧ ∀ y ∈ l, y ∈ s.L) (hll : l.length ≤ s.L.length) (hL : s'.L = ins l x) (hp : x.path.size ≤ 1048576) (hd : x.data.size ≤ T + 1048576) (hk : x.kept.size ≤ T + 1048576)
    (ha : x.anew = false → x.kept.size ≤ x.data.size) (hr : s'.rooms = s.rooms) (hst : s'.steps ≤ i + 1) (hsm : s'.stamps ≤ T + 1048576) (har : -1 ≤ s'.armed ∧ s'.armed ≤ 9223372036854775807) : Inv s' (i + 1) (T + 1048576) := by
  have hm : ∀ y ∈ s'.L, y = x ∨ y ∈ s.L := fun y hy => by
    rw [hL] at hy
    exact (mem_ins hy).imp id (fun hh => hl.2 y hh)
  refine ⟨by rw [hL]; exact rises_ins hl.1, ?_, fun y hy => ?_, fun y hy => ?_, fun y hy => ?_, by rw [hr]; exact Nat.le_succ_of_le h.rooms, hst, hsm, har⟩
  · rw [hL]
    have := len_ins l x
    have := h.len
    omega
  · rcases hm y hy with rfl | hy
    · exact hp
    · exact h.path y hy
  · rcases hm y hy with rfl | hy
    · exact ⟨hd, hk⟩
    · have := h.size y hy
      omega
  · rcases hm y hy with rfl | hy
    · exact ha
    · exact h.kept y hy
theorem done_steps (s : St) : (done s).2.steps ≤ s.steps + 1 := by unfold done; split <;> simp
theorem done_armed {s : St} (h : -1 ≤ s.armed ∧ s.armed ≤ 9223372036854775807) : -1 ≤ (done s).2.armed ∧ (done s).2.armed ≤ 9223372036854775807 := by
  unfold done
  split
  · exact ⟨by show (-1 : Int) ≤ -1; omega, by show (-1 : Int) ≤ _; omega⟩
  · show -1 ≤ (if s.armed > 0 then s.armed - 1 else s.armed) ∧ _
    split <;> simp only <;> omega
theorem inv_done {s : St} {i T : Nat} (h : Inv s i T) : Inv (done s).2 (i + 1) (T + 1048576) := by
  have h1 := h.more
  refine ⟨by rw [done_L]; exact h1.rises, by rw [done_L]; exact h1.len, by rw [done_L]; exact h1.path, by rw [done_L]; exact h1.size, by rw [done_L]; exact h1.kept, by rw [done_rooms]; exact h1.rooms, ?_, by rw [done_stamps]; exact h1.stamps, done_armed h.armed⟩
  have := done_steps s
  have := h.steps
  omega
theorem find_mem {l : List It} {p : ByteArray} {x : It} (h : find l p = some x) : x ∈ l ∧ x.path = p := ⟨List.mem_of_find?_eq_some h, by have := List.find?_some h; exact of_decide_eq_true this⟩
theorem old_cases (l : List It) (p : ByteArray) : old l p = mk p ∨ (old l p ∈ l ∧ (old l p).path = p) := by
  unfold old
  cases h : find l p with
  | none => exact .inl rfl
  | some x => exact .inr (find_mem h)
theorem old_inv {s : St} {i T : Nat} {p : ByteArray} (h : Inv s i T) (hp : p.size ≤ 1048576) : (old s.L p).path.size ≤ 1048576 ∧ (old s.L p).data.size ≤ T ∧ (old s.L p).kept.size ≤ T ∧ ((old s.L p).anew = false → (old s.L p).kept.size ≤ (old s.L p).data.size) := by
  rcases old_cases s.L p with e | ⟨hm, _⟩
  · rw [e]
    exact ⟨hp, by show 0 ≤ _; omega, by show 0 ≤ _; omega, fun _ => Nat.le_refl _⟩
  · exact ⟨h.path _ hm, (h.size _ hm).1, (h.size _ hm).2, h.kept _ hm⟩
theorem same_in {s : St} {i T : Nat} (h : Inv s i T) : Rises s.L ∧ ∀ y ∈ s.L, y ∈ s.L := ⟨h.rises, fun _ hy => hy⟩
theorem inv_mkdir {s : St} {i T : Nat} {p : ByteArray} (h : Inv s i T) (hp : p.size ≤ 1048576) : Inv (mkdirS s p).2 (i + 1) (T + 1048576) := by
  unfold mkdirS
  split
  · exact h.more
  split
  · exact h.more
  split
  · exact h.more
  split
  · exact inv_done h
  · have hd := inv_done h
    exact inv_ins h (l := (done s).2.L) (by rw [done_L]; exact same_in h) (by rw [done_L]; exact Nat.le_refl _) rfl hp (by show 0 ≤ _; omega) (by show 0 ≤ _; omega) (fun _ => Nat.le_refl _) (done_rooms s) hd.steps hd.stamps hd.armed
theorem inv_putS {s : St} {i T : Nat} {l : List It} {x : It} (h : Inv s i T) (hl : Rises l ∧ ∀ y ∈ l, y ∈ s.L) (hll : l.length ≤ s.L.length) (hp : x.path.size ≤ 1048576) (hd : x.data.size ≤ T + 1048576) (hk : x.kept.size ≤ T + 1048576) (ha : x.anew = false → x.kept.size ≤ x.data.size) :
    Inv (putS { (done s).2 with L := l } x) (i + 1) (T + 1048576) := by
  have h2 := inv_done h
  refine inv_ins h hl hll (x := stamped { (done s).2 with L := l } x) rfl hp hd hk ha (done_rooms s) h2.steps ?_ h2.armed
  show (done s).2.stamps + 1 ≤ _
  rw [done_stamps]
  have := h.stamps
  omega
theorem putS_L {s : St} {i T : Nat} {x : It} (h : Inv (putS { (done s).2 with L := s.L } x) i T) : Inv (putS (done s).2 x) i T := by
  have e : ({ (done s).2 with L := s.L } : St) = (done s).2 := by
    have := done_L s
    generalize (done s).2 = d at this ⊢
    obtain ⟨a1, a2, a3, a4, a5, a6⟩ := d
    simp only at this
    rw [this]
  rw [e] at h
  exact h
theorem inv_write {s : St} {i T : Nat} {p d : ByteArray} (h : Inv s i T) (hp : p.size ≤ 1048576) (hd : d.size ≤ 1048576) : Inv (writeS s p d).2 (i + 1) (T + 1048576) := by
  unfold writeS
  split
  · exact h.more
  split
  · exact h.more
  split
  · exact h.more
  split
  · exact h.more
  split
  · exact inv_done h
  · obtain ⟨o1, o2, o3, o4⟩ := old_inv h hp
    have := inv_putS (x := { old s.L p with data := d, loose := true, anew := true }) h (same_in h) (Nat.le_refl _) o1 (by show d.size ≤ _; omega) (by show (old s.L p).kept.size ≤ _; omega) (fun hh => by cases hh)
    exact putS_L this
theorem inv_append {s : St} {i T : Nat} {p d : ByteArray} (h : Inv s i T) (hp : p.size ≤ 1048576) (hd : d.size ≤ 1048576) : Inv (appendS s p d).2 (i + 1) (T + 1048576) := by
  unfold appendS
  split
  · exact h.more
  split
  · exact h.more
  split
  · exact inv_done h
  · obtain ⟨o1, o2, o3, o4⟩ := old_inv h hp
    have hsz : ((old s.L p).data ++ d).size = (old s.L p).data.size + d.size := ByteArray.size_append
    have := inv_putS (x := { old s.L p with data := (old s.L p).data ++ d, loose := true }) h (same_in h) (Nat.le_refl _) o1 (by show ((old s.L p).data ++ d).size ≤ _; omega) (by show (old s.L p).kept.size ≤ _; omega) (fun hh => by have := o4 hh; show (old s.L p).kept.size ≤ ((old s.L p).data ++ d).size; omega)
    exact putS_L this
theorem inv_sync {s : St} {i T : Nat} {p : ByteArray} (h : Inv s i T) (hp : p.size ≤ 1048576) : Inv (syncS s p).2 (i + 1) (T + 1048576) := by
  unfold syncS
  split
  · exact h.more
  split
  · exact inv_done h
  · obtain ⟨o1, o2, o3, o4⟩ := old_inv h hp
    have hd := inv_done h
    exact inv_ins h (l := (done s).2.L) (by rw [done_L]; exact same_in h) (by rw [done_L]; exact Nat.le_refl _) rfl o1 (by show (old s.L p).data.size ≤ _; omega) (by show (old s.L p).data.size ≤ _; omega) (fun _ => Nat.le_refl _) (done_rooms s) hd.steps hd.stamps hd.armed
theorem drop_in (l : List It) (p : ByteArray) : (∀ y ∈ drop l p, y ∈ l) ∧ (drop l p).length ≤ l.length := ⟨fun y hy => (List.mem_filter.1 hy).1, List.length_filter_le _ _⟩
theorem inv_remove {s : St} {i T : Nat} {p : ByteArray} (h : Inv s i T) : Inv (removeS s p).2 (i + 1) (T + 1048576) := by
  unfold removeS
  split
  · exact h.more
  split
  · exact h.more
  split
  · exact h.more
  split
  · exact inv_done h
  · have hd := inv_done h
    obtain ⟨d1, d2⟩ := drop_in (done s).2.L p
    exact ⟨rises_drop p hd.rises, Nat.le_trans d2 hd.len, fun x hx => hd.path x (d1 x hx), fun x hx => hd.size x (d1 x hx), fun x hx => hd.kept x (d1 x hx), hd.rooms, hd.steps, hd.stamps, hd.armed⟩
theorem inv_rename {s : St} {i T : Nat} {f t : ByteArray} (h : Inv s i T) (hf : f.size ≤ 1048576) (ht : t.size ≤ 1048576) : Inv (renameS s f t).2 (i + 1) (T + 1048576) := by
  unfold renameS
  split
  · exact h.more
  split
  · exact h.more
  split
  · exact h.more
  split
  · exact h.more
  split
  · exact h.more
  split
  · exact inv_done h
  · obtain ⟨o1, o2, o3, o4⟩ := old_inv h hf
    obtain ⟨d1, d2⟩ := drop_in s.L f
    have := inv_putS (l := drop s.L f) (x := { old s.L f with path := t }) h ⟨rises_drop f h.rises, d1⟩ d2 ht (by show (old s.L f).data.size ≤ _; omega) (by show (old s.L f).kept.size ≤ _; omega) o4
    show Inv (putS { (done s).2 with L := drop (done s).2.L f } _) _ _
    rw [done_L s]
    exact this
theorem setRm_len : ∀ (l : List Rm) (v : ByteArray) (n : Int), (setRm l v n).length ≤ l.length + 1
  | [], v, n => Nat.le_refl _
  | r :: l, v, n => by
    rw [setRm]
    split
    · simp
    · have := setRm_len l v n
      simp
      omega
theorem inv_limit {s : St} {i T : Nat} {v : ByteArray} {n : Int} (h : Inv s i T) : Inv (limitS s v n).2 (i + 1) (T + 1048576) := by
  have h1 := h.more
  unfold limitS
  split
  · exact h1
  split
  · exact h1
  · refine ⟨h1.rises, h1.len, h1.path, h1.size, h1.kept, ?_, h1.steps, h1.stamps, h1.armed⟩
    have := setRm_len s.rooms v n
    have := h.rooms
    show (setRm s.rooms v n).length ≤ _
    omega
theorem inv_rot {s : St} {i T : Nat} {p : ByteArray} {bit : Int} (h : Inv s i T) (hp : p.size ≤ 1048576) (ht : ∀ x : ByteArray, (Fr.tn x bit).size = x.size) : Inv (rotS s p bit).2 (i + 1) (T + 1048576) := by
  unfold rotS
  split
  · exact h.more
  · obtain ⟨o1, o2, o3, o4⟩ := old_inv h hp
    have h1 := h.more
    refine inv_ins h (same_in h) (Nat.le_refl _) (x := stamped s { old s.L p with data := Fr.tn (old s.L p).data bit, kept := Fr.tn (old s.L p).kept bit }) rfl o1 ?_ ?_ ?_ rfl h1.steps ?_ h.armed
    · show (Fr.tn (old s.L p).data bit).size ≤ _
      rw [ht]; omega
    · show (Fr.tn (old s.L p).kept bit).size ≤ _
      rw [ht]; omega
    · intro hh
      show (Fr.tn (old s.L p).kept bit).size ≤ (Fr.tn (old s.L p).data bit).size
      rw [ht, ht]
      exact o4 hh
    · show s.stamps + 1 ≤ _
      have := h.stamps
      omega
theorem ext_size (x : ByteArray) (a : Nat) : (x.extract 0 a).size ≤ x.size := by rw [ByteArray.size_extract]; omega
theorem lose_is (pick : Nat) (x : It) : (lose pick x).path = x.path ∧ (lose pick x).anew = false ∧ (lose pick x).kept = (lose pick x).data ∧ ((lose pick x).data = x.kept ∨ (lose pick x).data.size ≤ x.data.size) := by
  unfold lose
  refine ⟨rfl, rfl, rfl, ?_⟩
  simp only
  split
  · split
    · exact .inl rfl
    · exact .inr (ext_size _ _)
  · exact .inr (ext_size _ _)
theorem restartL_is (loss T : Nat) : ∀ (l : List It) (n st : Nat), (∀ x ∈ l, x.path.size ≤ 1048576) → (∀ x ∈ l, x.data.size ≤ T ∧ x.kept.size ≤ T) → (∀ x ∈ l, x.anew = false → x.kept.size ≤ x.data.size) →
    (restartL loss l n st).1.map (·.path) = l.map (·.path) ∧ (restartL loss l n st).2 ≤ st + l.length ∧
    (∀ x ∈ (restartL loss l n st).1, x.path.size ≤ 1048576 ∧ x.data.size ≤ T ∧ x.kept.size ≤ T ∧ (x.anew = false → x.kept.size ≤ x.data.size))
  | [], n, st, _, _, _ => ⟨rfl, Nat.le_refl _, fun x hx => by cases hx⟩
  | y :: l, n, st, h1, h2, h3 => by
    have a1 := fun x hx => h1 x (List.mem_cons_of_mem y hx)
    have a2 := fun x hx => h2 x (List.mem_cons_of_mem y hx)
    have a3 := fun x hx => h3 x (List.mem_cons_of_mem y hx)
    rw [restartL]
    split
    · obtain ⟨i1, i2, i3⟩ := restartL_is loss T l (n + 1) (st + 1) a1 a2 a3
      obtain ⟨l1, l2, l3, l4⟩ := lose_is (mix loss (n + 1)) y
      have hy := h2 y (by simp)
      have hd : (lose (mix loss (n + 1)) y).data.size ≤ T := by
        rcases l4 with l4 | l4
        · rw [l4]; exact hy.2
        · omega
      refine ⟨?_, ?_, fun x hx => ?_⟩
      · show _ :: _ = _
        rw [List.map_cons, ← i1]
        show (lose (mix loss (n + 1)) y).path :: _ = _
        rw [l1]
      · show (restartL loss l (n + 1) (st + 1)).2 ≤ _
        rw [List.length_cons]
        omega
      · rcases List.mem_cons.1 hx with rfl | hx
        · refine ⟨?_, hd, ?_, fun _ => ?_⟩
          · show (lose (mix loss (n + 1)) y).path.size ≤ _
            rw [l1]
            exact h1 y (by simp)
          · show (lose (mix loss (n + 1)) y).kept.size ≤ _
            rw [l3]
            exact hd
          · show (lose (mix loss (n + 1)) y).kept.size ≤ (lose (mix loss (n + 1)) y).data.size
            rw [l3]
            exact Nat.le_refl _
        · exact i3 x hx
    · obtain ⟨i1, i2, i3⟩ := restartL_is loss T l n st a1 a2 a3
      refine ⟨?_, ?_, fun x hx => ?_⟩
      · show y.path :: _ = _
        rw [List.map_cons, ← i1]
      · show (restartL loss l n st).2 ≤ _
        rw [List.length_cons]
        omega
      · rcases List.mem_cons.1 hx with rfl | hx
        · exact ⟨h1 x (by simp), (h2 x (by simp)).1, (h2 x (by simp)).2, h3 x (by simp)⟩
        · exact i3 x hx
theorem inv_restart {s : St} {i T : Nat} {loss : Int} (h : Inv s i T) (hi : i ≤ 1000) : Inv (restartS s loss) (i + 1) (T + 1048576) := by
  obtain ⟨h1, h2, h3⟩ := restartL_is (u64 loss) T s.L 0 s.stamps h.path h.size h.kept
  have hm := h.more
  have hlen : (restartL (u64 loss) s.L 0 s.stamps).1.length = s.L.length := by
    have := congrArg List.length h1
    rwa [List.length_map, List.length_map] at this
  refine ⟨rises_paths h1.symm h.rises, by show (restartL (u64 loss) s.L 0 s.stamps).1.length ≤ _; rw [hlen]; exact hm.len, fun x hx => (h3 x hx).1, fun x hx => ?_, fun x hx => (h3 x hx).2.2.2, hm.rooms, hm.steps, ?_, by show (-1 : Int) ≤ -1; omega, by show (-1 : Int) ≤ _; omega⟩
  · have := h3 x hx
    omega
  · show (restartL (u64 loss) s.L 0 s.stamps).2 ≤ _
    have := h.stamps
    have := h.len
    omega
end Go.Proofs.YtdpnmdnfnplcfaaGreat.Dk

namespace Go.Proofs.YtdpnmdnfnplcfaaGreat.Dk
open Go.RowKit Tx Pm
set_option linter.unusedVariables false
def RefAt (b : Nat) (w : World) (F : Nat → Prop) (s : St) : Prop := ∃ vL vR, At w b s vL vR ∧ ∀ i, F i ↔ Foot b vL vR i
def Left (Obj : World → (Nat → Prop) → St → Prop) (w : World) (F : Nat → Prop) (s : St) (w' : World) : Prop := ∃ F', Obj w' F' s ∧ Chg F w w' ∧ ∀ g, F' g → F g ∨ w.heap.size ≤ g
theorem to_left {w w' : World} {b : Nat} {F : Nat → Prop} {vL vR : Value} {r : Nat × St} {e : Ending} (hF : ∀ i, F i ↔ Foot b vL vR i) (h : To w b vL vR r e w') : e = .returned (.int .i64 (r.1 : Nat)) ∧ Left (RefAt b) w F r.2 w' := by
  obtain ⟨he, vL', vR', hat, hc, hn⟩ := h
  exact ⟨he, Foot b vL' vR', ⟨vL', vR', hat, fun _ => Iff.rfl⟩, hc.mono (fun i hi => (hF i).2 hi), fun g hg => (hn g hg).imp (fun hh => (hF g).2 hh) id⟩
theorem RefAt.lt {b : Nat} {w : World} {F : Nat → Prop} {s : St} (h : RefAt b w F s) : ∀ i, F i → i < w.heap.size := by
  obtain ⟨vL, vR, hat, hF⟩ := h
  exact fun i hi => hat.lt i ((hF i).1 hi)
theorem RefAt.kept {b : Nat} {w w1 : World} {F : Nat → Prop} {s : St} (h : RefAt b w F s) (hk : ∀ i, F i → w1.heap[i]? = w.heap[i]?) : RefAt b w1 F s := by
  obtain ⟨vL, vR, hat, hF⟩ := h
  exact ⟨vL, vR, hat.kept (fun i hi => hk i ((hF i).2 hi)), hF⟩
structure Kind (Obj : World → (Nat → Prop) → St → Prop) : Prop where
  lt : ∀ {w F s}, Obj w F s → ∀ i, F i → i < w.heap.size
  kept : ∀ {w w1 F s}, Obj w F s → (∀ i, F i → w1.heap[i]? = w.heap[i]?) → Obj w1 F s
theorem ref_kind (b : Nat) : Kind (RefAt b) := ⟨fun h => h.lt, fun h hk => h.kept hk⟩
def stepS (s : St) (K : Int) (P Q : ByteArray) (N : Int) : St :=
  if K = 1 then (mkdirS s P).2 else if K = 2 then (writeS s P Q).2 else if K = 3 then (appendS s P Q).2 else if K = 4 then (syncS s P).2 else if K = 5 then (renameS s P Q).2 else if K = 6 then (removeS s P).2 else
  if K = 7 then (limitS s P N).2 else if K = 8 then { s with armed := if N < 0 then -1 else N } else if K = 9 then restartS s N else if K = 10 then (rotS s P N).2 else s
def Pair (O1 O2 : World → (Nat → Prop) → St → Prop) (w : World) (F G : Nat → Prop) (s : St) : Prop := O1 w F s ∧ O2 w G s ∧ ∀ i, F i → ¬ G i
theorem pair_calls {O1 O2 : World → (Nat → Prop) → St → Prop} (k1 : Kind O1) (k2 : Kind O2) {w w1 w2 : World} {F G : Nat → Prop} {s s' : St} (h : Pair O1 O2 w F G s) (h1 : Left O1 w F s' w1)
    (h2 : ∀ G0, (O2 w1 G s) → Left O2 w1 G s' w2 → G0 → True) (h2' : Left O2 w1 G s' w2) :
    ∃ F' G', Pair O1 O2 w2 F' G' s' ∧ Chg (fun i => F i ∨ G i) w w2 ∧ (∀ g, F' g → F g ∨ w.heap.size ≤ g) ∧ (∀ g, G' g → G g ∨ w.heap.size ≤ g) := by
  obtain ⟨o1, o2, hd⟩ := h
  obtain ⟨F', p1, c1, n1⟩ := h1
  obtain ⟨G', p2, c2, n2⟩ := h2'
  have hs1 := c1.size
  have hlt1 := k1.lt p1
  have hlt2 := k2.lt o2
  have hFG : ∀ i, F' i → ¬ G i := fun i hi hg => by
    rcases n1 i hi with hh | hh
    · exact hd i hh hg
    · have := hlt2 i hg
      omega
  refine ⟨F', G', ⟨k1.kept p1 (fun i hi => c2.block i (hlt1 i hi) (hFG i hi)), p2, fun i hi hg => ?_⟩, ?_, n1, fun g hg => (n2 g hg).imp id (fun hh => by omega)⟩
  · rcases n2 i hg with hh | hh
    · exact hFG i hi hh
    · have := hlt1 i hi
      omega
  · exact (c1.mono (fun i hi => .inl hi)).trans (G := G) c2 (fun i hi => .inl (.inr hi))
theorem pair_other {O1 O2 : World → (Nat → Prop) → St → Prop} (k2 : Kind O2) {w w1 : World} {F G : Nat → Prop} {s s' : St} (h : Pair O1 O2 w F G s) (h1 : Left O1 w F s' w1) : O2 w1 G s := by
  obtain ⟨o1, o2, hd⟩ := h
  obtain ⟨F', p1, c1, n1⟩ := h1
  exact k2.kept o2 (fun i hi => c1.block i (k2.lt o2 i hi) (fun hf => hd i hf hi))
end Go.Proofs.YtdpnmdnfnplcfaaGreat.Dk



namespace Go.Proofs.YtdpnmdnfnplcfaaGreat.Dk
open Go.RowKit Tx Pm
set_option linter.unusedVariables false
structure Far (s : St) (i T : Nat) : Prop where
  inv : Inv s i T
  i : i ≤ 1000
  T : T ≤ 1048576000
def Does (O : World → (Nat → Prop) → St → Prop) (w : World) (F : Nat → Prop) (r : Nat × St) (e : Ending) (w' : World) : Prop := e = .returned (.int .i64 (r.1 : Nat)) ∧ Left O w F r.2 w'
structure Works (O : World → (Nat → Prop) → St → Prop) (v : Value) (f : Fin 9 → FuncId) : Prop where
  kind : Kind O
  mkdir : ∀ {w F s i T} (P : ByteArray), O w F s → Far s i T → P.size ≤ 1048576 → Calls Tryz.prog (f 0) #[v, .string P] w (Does O w F (mkdirS s P))
  write : ∀ {w F s i T} (P Q : ByteArray), O w F s → Far s i T → P.size ≤ 1048576 → Q.size ≤ 1048576 → Calls Tryz.prog (f 1) #[v, .string P, .string Q] w (Does O w F (writeS s P Q))
  append : ∀ {w F s i T} (P Q : ByteArray), O w F s → Far s i T → P.size ≤ 1048576 → Q.size ≤ 1048576 → Calls Tryz.prog (f 2) #[v, .string P, .string Q] w (Does O w F (appendS s P Q))
  sync : ∀ {w F s i T} (P : ByteArray), O w F s → Far s i T → P.size ≤ 1048576 → Calls Tryz.prog (f 3) #[v, .string P] w (Does O w F (syncS s P))
  rename : ∀ {w F s i T} (P Q : ByteArray), O w F s → Far s i T → P.size ≤ 1048576 → Q.size ≤ 1048576 → Calls Tryz.prog (f 4) #[v, .string P, .string Q] w (Does O w F (renameS s P Q))
  remove : ∀ {w F s i T} (P : ByteArray), O w F s → Far s i T → P.size ≤ 1048576 → Calls Tryz.prog (f 5) #[v, .string P] w (Does O w F (removeS s P))
  limit : ∀ {w F s i T} (P : ByteArray) (M : Int), O w F s → Far s i T → P.size ≤ 1048576 → -9223372036854775808 ≤ M ∧ M ≤ 9223372036854775807 → Calls Tryz.prog (f 6) #[v, .string P, .int .i64 M] w (Does O w F (limitS s P M))
  restart : ∀ {w F s i T} (M : Int), O w F s → Far s i T → -9223372036854775808 ≤ M ∧ M ≤ 9223372036854775807 → Calls Tryz.prog (f 7) #[v, .int .i64 M] w (Does O w F (0, restartS s M))
  rot : ∀ {w F s i T} (P : ByteArray) (M : Int), O w F s → Far s i T → P.size ≤ 1048576 → -9223372036854775808 ≤ M ∧ M ≤ 9223372036854775807 → Calls Tryz.prog (f 8) #[v, .string P, .int .i64 M] w (Does O w F (rotS s P M))
end Go.Proofs.YtdpnmdnfnplcfaaGreat.Dk

namespace Go.Proofs.YtdpnmdnfnplcfaaGreat.Dk
open Go.RowKit Tx Pm
set_option linter.unusedVariables false
def Both (O : World → (Nat → Prop) → St → Prop) (b : Nat) (w : World) (F G : Nat → Prop) (s : St) (w' : World) : Prop :=
  ∃ F' G', Pair O (RefAt b) w' F' G' s ∧ Chg (fun i => F i ∨ G i) w w' ∧ (∀ g, F' g → F g ∨ w.heap.size ≤ g) ∧ (∀ g, G' g → G g ∨ w.heap.size ≤ g)
theorem pair_below {O1 O2 : World → (Nat → Prop) → St → Prop} (k1 : Kind O1) (k2 : Kind O2) {w w1 : World} {F G : Nat → Prop} {s : St} (h : Pair O1 O2 w F G s) (hb : Below w.heap.size w w1) : Pair O1 O2 w1 F G s :=
  ⟨k1.kept h.1 (fun i hi => hb.block i (k1.lt h.1 i hi)), k2.kept h.2.1 (fun i hi => hb.block i (k2.lt h.2.1 i hi)), h.2.2⟩
theorem both_after {O : World → (Nat → Prop) → St → Prop} {b : Nat} {w w1 w2 : World} {F G : Nat → Prop} {s : St} (hb : Below w.heap.size w w1) (h : Both O b w1 F G s w2) : Both O b w F G s w2 := by
  obtain ⟨F', G', hp, hc, n1, n2⟩ := h
  have := hb.size
  exact ⟨F', G', hp, (Chg.of_below hb).trans hc (fun i hi => .inl hi), fun g hg => (n1 g hg).imp id (fun hh => by omega), fun g hg => (n2 g hg).imp id (fun hh => by omega)⟩
theorem both_same {O : World → (Nat → Prop) → St → Prop} (k1 : Kind O) {b : Nat} {w w1 : World} {F G : Nat → Prop} {s : St} (h : Pair O (RefAt b) w F G s) (hb : Below w.heap.size w w1) : Both O b w F G s w1 :=
  ⟨F, G, pair_below k1 (ref_kind b) h hb, Chg.of_below hb, fun g hg => .inl hg, fun g hg => .inl hg⟩
end Go.Proofs.YtdpnmdnfnplcfaaGreat.Dk

namespace Go.Proofs.YtdpnmdnfnplcfaaGreat.Dk
open Go.RowKit Tx Pm
set_option linter.unusedVariables false
theorem tn_size (x : ByteArray) (bit : Int) : (Fr.tn x bit).size = x.size := by
  unfold Fr.tn
  split
  · rename_i h; rw [h]; rfl
  · rename_i h
    have hp : (0 : Int) < (8 * x.size : Nat) := by omega
    have h1 := Int.emod_lt_of_pos bit hp
    have h2 := Int.emod_nonneg bit (show ((8 * x.size : Nat) : Int) ≠ 0 by omega)
    have h3 : (bit % (8 * x.size : Nat)).toNat < 8 * x.size := by omega
    generalize (bit % (8 * x.size : Nat)).toNat = B at h3
    unfold Fr.trn
    have hb : ∀ c : UInt8, (Wr.b1 c).size = 1 := fun c => rfl
    rw [ByteArray.size_append, ByteArray.size_append, ByteArray.size_extract, ByteArray.size_extract, hb]
    omega
theorem inv_arm {s : St} {i T : Nat} {M : Int} (h : Inv s i T) (hM : -9223372036854775808 ≤ M ∧ M ≤ 9223372036854775807) : Inv { s with armed := if M < 0 then -1 else M } (i + 1) (T + 1048576) := by
  have h1 := h.more
  exact ⟨h1.rises, h1.len, h1.path, h1.size, h1.kept, h1.rooms, h1.steps, h1.stamps, by show -1 ≤ (if M < 0 then (-1 : Int) else M) ∧ (if M < 0 then (-1 : Int) else M) ≤ _; split <;> omega⟩
theorem inv_step {s : St} {i T : Nat} {K M : Int} {P Q : ByteArray} (h : Inv s i T) (hi : i ≤ 1000) (hP : P.size ≤ 1048576) (hQ : Q.size ≤ 1048576) (hM : -9223372036854775808 ≤ M ∧ M ≤ 9223372036854775807) :
    Inv (stepS s K P Q M) (i + 1) (T + 1048576) := by
  unfold stepS
  split
  · exact inv_mkdir h hP
  split
  · exact inv_write h hP hQ
  split
  · exact inv_append h hP hQ
  split
  · exact inv_sync h hP
  split
  · exact inv_rename h hP hQ
  split
  · exact inv_remove h
  split
  · exact inv_limit h
  split
  · exact inv_arm h hM
  split
  · exact inv_restart h hi
  split
  · exact inv_rot h hP (fun x => tn_size x M)
  · exact h.more
theorem far_new : Far newS 0 0 := ⟨inv_new, by omega, by omega⟩
theorem Far.step {s : St} {i : Nat} {K M : Int} {P Q : ByteArray} (h : Far s i (i * 1048576)) (hi : i < 1000) (hP : P.size ≤ 1048576) (hQ : Q.size ≤ 1048576) (hM : -9223372036854775808 ≤ M ∧ M ≤ 9223372036854775807) :
    Far (stepS s K P Q M) (i + 1) ((i + 1) * 1048576) := by
  refine ⟨?_, by omega, by omega⟩
  rw [Nat.succ_mul]
  exact inv_step h.inv h.i hP hQ hM
end Go.Proofs.YtdpnmdnfnplcfaaGreat.Dk

namespace Go.Proofs.YtdpnmdnfnplcfaaGreat.Dk
open Go.RowKit Tx Pm
set_option linter.unusedVariables false
theorem find_app (l r : List It) (p : ByteArray) : find (l ++ r) p = (find l p).or (find r p) := by
  unfold find
  rw [List.find?_append]
theorem find_one (x : It) (r : List It) {p : ByteArray} (h : x.path ≠ p) : find (x :: r) p = find r p := by
  unfold find
  rw [List.find?_cons_of_neg (by simpa using h)]
theorem find_ins (l : List It) {x : It} {p : ByteArray} (h : x.path ≠ p) : find (ins l x) p = find l p := by
  have e : l = l.takeWhile (fun y => Op.bytesLess y.path.toList x.path.toList) ++ l.dropWhile (fun y => Op.bytesLess y.path.toList x.path.toList) := (List.takeWhile_append_dropWhile).symm
  unfold ins
  generalize l.takeWhile (fun y => Op.bytesLess y.path.toList x.path.toList) = a at e ⊢
  generalize l.dropWhile (fun y => Op.bytesLess y.path.toList x.path.toList) = b at e ⊢
  rw [e, find_app, find_app, find_one _ _ h]
  cases b with
  | nil => rfl
  | cons y r =>
    simp only
    split
    · rename_i hy
      rw [find_one y r (by rw [hy]; exact h)]
    · rfl
theorem find_drop (l : List It) {q p : ByteArray} (h : q ≠ p) : find (drop l q) p = find l p := by
  unfold find drop
  rw [List.find?_filter]
  congr 1
  funext x
  by_cases hx : x.path = p
  · simp [hx, Ne.symm h]
  · simp [hx]
theorem old_path (l : List It) (p : ByteArray) : (old l p).path = p := by
  rcases old_cases l p with h | ⟨_, h⟩
  · rw [h]; rfl
  · exact h
end Go.Proofs.YtdpnmdnfnplcfaaGreat.Dk
