/- Texts of this seat, one behind the other. -/
import Derived.Test.YtjdfffkkpbabpaaGreatT1
import Derived.Maps.AppendAt
import Derived.WalkKit
import Derived.Laws.BytesArg
import Derived.Test.YtjdfffkkpbabpaaGreatRows
import Derived.WalkLawsBesides
import Derived.WalkSpells
import Derived.LoopTactic
import Derived.Lib.Hide
import Derived.Laws.IdiomStrings
import Derived.RegionTactic
import Derived.ChangeAlike
import Derived.Deep.RegionWith
namespace Go.Proofs.YtjdfffkkpbabpaaGreat.Dk
open Go.RowKit Tx Pm
set_option linter.unusedVariables false
structure Box (w : World) (bx : Nat) (x : It) : Prop where
  blk : w.heap[bx]? = some (.cells #[.string x.path, .bool x.dir, .string x.data, .string x.kept, .bool x.loose, .bool x.anew, .int .i64 x.stamp] 107 (0, 0))
theorem Box.cell {w : World} {bx : Nat} {x : It} (h : Box w bx x) : w.cell? ⟨bx, 0, none⟩ = some (.string x.path) ∧ w.cell? ⟨bx, 1, none⟩ = some (.bool x.dir) ∧ w.cell? ⟨bx, 2, none⟩ = some (.string x.data) ∧ w.cell? ⟨bx, 3, none⟩ = some (.string x.kept) ∧
    w.cell? ⟨bx, 4, none⟩ = some (.bool x.loose) ∧ w.cell? ⟨bx, 5, none⟩ = some (.bool x.anew) ∧ w.cell? ⟨bx, 6, none⟩ = some (.int .i64 x.stamp) := by
  have hb := h.blk
  refine ⟨?_, ?_, ?_, ?_, ?_, ?_, ?_⟩ <;> · unfold World.cell?; rw [hb]; rfl
theorem Box.warm {w : World} {bx : Nat} {x : It} (h : Box w bx x) (k : Nat) : w.frozen? ⟨bx, k, none⟩ = false := by
  unfold World.frozen?
  rw [h.blk]
  simp
theorem Box.below {w w1 : World} {bx : Nat} {x : It} (h : Box w bx x) (hb : Below w.heap.size w w1) : Box w1 bx x := ⟨(hb.block bx (Array.getElem?_eq_some_iff.1 h.blk).1).trans h.blk⟩
def Shows (b : Nat) (s : St) (g n c k : Nat) (vR : Value) (x : It) : Prop := ∀ W, At W b s (.slice (some ⟨g, 0, none⟩) n c) vR → W.cell? ⟨b, 0, none⟩ = some (.slice (some ⟨g, 0, none⟩) n c) ∧
  W.cell? ⟨g, k * 7, none⟩ = some (.string x.path) ∧ W.cell? ⟨g, k * 7 + 1, none⟩ = some (.bool x.dir) ∧ W.cell? ⟨g, k * 7 + 2, none⟩ = some (.string x.data) ∧ W.cell? ⟨g, k * 7 + 3, none⟩ = some (.string x.kept) ∧
  W.cell? ⟨g, k * 7 + 4, none⟩ = some (.bool x.loose) ∧ W.cell? ⟨g, k * 7 + 5, none⟩ = some (.bool x.anew) ∧ W.cell? ⟨g, k * 7 + 6, none⟩ = some (.int .i64 x.stamp)
set_option maxRecDepth 100000 in
set_option maxHeartbeats 2000000 in
theorem getAppend (ops : Array Oper) (hops : ops = (Rg.opsOf Tryz.f87 8)) (id : Nat) (b : Nat) (s : St) (g n c k : Nat) (vR : Value) (p XP XX XK : ByteArray) (XD XL XA : Bool) (XS : Nat) {u2 u3 u4 u5 u6 u7 u8 u9 u10 u11 u12 u13 u14 u15 u16 u17 u18 u19 u20 u21 u22 u23 u24 u25 u26 u27 u28 u29 u30 u31 u32 u33 u34 u35 u36 u37 u38 u39 u40 u41 u42 u43 u44 u45 : Value} (w : World)
    (h : At w b s (.slice (some ⟨g, 0, none⟩) n c) vR) (hsh : Shows b s g n c k vR ⟨XP, XD, XX, XK, XL, XA, XS⟩) (hlt : k < n) (hnm : n ≤ 1000000000000)
    (cp : ∀ W, At W b s (.slice (some ⟨g, 0, none⟩) n c) vR → Calls Tryz.prog 76 #[.pointer (some ⟨b, 0, none⟩), .string p] W fun e w' => e = .returned (.int .i64 (k : Int)) ∧ W = w') :
    (Code.region id ops true).wp Tryz.prog (Rg.Only fun a' w' => a' = ⟨#[(.pointer (some ⟨b, 0, none⟩)), (.string p), u2, u3, u4, u5, u6, u7, (.pointer (some ⟨w.drew.heap.size, 0, none⟩)), u9, u10, u11, u12, u13, u14, u15, u16, u17, u18, u19, u20, u21, u22, u23, u24, (.pointer (some ⟨b, 0, none⟩)), (.pointer (some ⟨b, 0, none⟩)), (.pointer (some ⟨b, 0, none⟩)), (.slice (some ⟨g, 0, none⟩) n c), (.pointer (some ⟨b, 0, none⟩)), (.string p), (.int .i64 (k : Int)), (.pointer (some ⟨g, k * 7, none⟩)), (.agg #[.string XP, .bool XD, .string XX, .string XK, .bool XL, .bool XA, .int .i64 XS]), u34, u35, u36, u37, u38, u39, u40, u41, u42, u43, u44, u45], []⟩ ∧ w' = w.drew.alloc (.cells #[.string XP, .bool XD, .string XX, .string XK, .bool XL, .bool XA, .int .i64 XS] 107)) ⟨#[(.pointer (some ⟨b, 0, none⟩)), (.string p), u2, u3, u4, u5, u6, u7, u8, u9, u10, u11, u12, u13, u14, u15, u16, u17, u18, u19, u20, u21, u22, u23, u24, u25, u26, u27, u28, u29, u30, u31, u32, u33, u34, u35, u36, u37, u38, u39, u40, u41, u42, u43, u44, u45], []⟩ w := by
  subst hops
  have hNS : Region.noSelect (Rg.opsOf Tryz.f87 8) = true := by kernel_rfl
  have h0 := h.below (Below.refl _ _).drew
  refine wp_region_held_drew (S := fun W => At W b s (.slice (some ⟨g, 0, none⟩) n c) vR) (by kernel_rfl) h0 (fun hHeld => ?_)
  rw [show (Rg.opsOf Tryz.f87 8).size = 11 by kernel_rfl]
  refine Rg.takek 0 (some 25) (.pointer (some ⟨b, 0, none⟩)) hNS hHeld (Rg.y_movekL (x := .tmp 0)) ?_
  refine Rg.takek 1 (some 26) (.pointer (some ⟨b, 0, none⟩)) hNS hHeld (Rg.y_nilk (x := .tmp 25)) ?_
  refine Rg.takek 2 (some 27) (.pointer (some ⟨b, 0, none⟩)) hNS hHeld (Rg.y_fieldk (T := 52) (k := 0) (x := .tmp 26) (vx := (.pointer (some ⟨b, 0, none⟩))) ?_) ?_
  · (intro w hSw; go_simp)
  refine Rg.takek 3 (some 28) (.slice (some ⟨g, 0, none⟩) n c) hNS hHeld (Rg.y_loadk (T := 49) (x := .tmp 27) (vx := (.pointer (some ⟨b, 0, none⟩))) ?_) ?_
  · (intro w hSw; obtain ⟨e0, d0, d1, d2, d3, d4, d5, d6⟩ := hsh _ hSw; simp only at d0 d1 d2 d3 d4 d5 d6; clear hSw; go_simp)
  refine Rg.takek 4 (some 29) (.pointer (some ⟨b, 0, none⟩)) hNS hHeld (Rg.y_movekL (x := .tmp 0)) ?_
  refine Rg.takek 5 (some 30) (.string p) hNS hHeld (Rg.y_movekL (x := .tmp 1)) ?_
  refine Rg.twok (i := 6) (j := 9) ?_ ?_
  · refine Rg.op_callk (fn := Tryz.f76) (xs := #[.tmp 29, .tmp 30]) (ats := #[25, 9]) 6 (some 31) 76 #[(.pointer (some ⟨b, 0, none⟩)), (.string p)] Tryz.func76 ?_
    refine (cp _ hHeld).mono ?_
    rintro e w5 ⟨rfl, rfl⟩
    refine ⟨_, rfl, hHeld, fun hHeld => ?_⟩
    refine Rg.takek 7 (some 32) (.pointer (some ⟨g, k * 7, none⟩)) hNS hHeld (Rg.y_atk (T := 49) (x := .tmp 28) (y := .tmp 31) (vx := (.slice (some ⟨g, 0, none⟩) n c)) (vy := (.int .i64 (k : Int))) ?_) ?_
    · (intro w hSw; clear hSw; go_simp <;> (intros; exfalso; omega))
    refine Rg.takek 8 (some 33) (.agg #[.string XP, .bool XD, .string XX, .string XK, .bool XL, .bool XA, .int .i64 XS]) hNS hHeld (Rg.y_loadk (T := 107) (x := .tmp 32) (vx := (.pointer (some ⟨g, k * 7, none⟩))) ?_) ?_
    · (intro w hSw; obtain ⟨e0, d0, d1, d2, d3, d4, d5, d6⟩ := hsh _ hSw; simp only at d0 d1 d2 d3 d4 d5 d6; clear hSw; go_simp)
    refine Rg.onek (i := 9) ?_
    refine Rg.op_allock 9 (some 8) (T := 107) (v := (.pointer (some ⟨w.drew.heap.size, 0, none⟩))) (w1 := w.drew.alloc (.cells #[.string ByteArray.empty, .bool false, .string ByteArray.empty, .string ByteArray.empty, .bool false, .bool false, .int .i64 0] 107)) ?_ (hHeld.below ((Below.refl _ _).alloc (Nat.le_refl _) _)) (fun hHeld => ?_)
    · (go_simp <;> rfl)
    refine Rg.storek 10 (T := 107) (x := .tmp 8) (y := .tmp 33) (vx := (.pointer (some ⟨w.drew.heap.size, 0, none⟩))) (vy := (.agg #[.string XP, .bool XD, .string XX, .string XK, .bool XL, .bool XA, .int .i64 XS])) (w1 := w.drew.alloc (.cells #[.string XP, .bool XD, .string XX, .string XK, .bool XL, .bool XA, .int .i64 XS] 107)) ?_ (h0.below ((Below.refl _ _).alloc (Nat.le_refl _) _)) (fun hHeld => ?_)
    · go_simp
    refine Rg.donek ?_
    exact ⟨by kernel_rfl, rfl⟩
  · refine Rg.op_allock 9 (some 8) (T := 107) (v := (.pointer (some ⟨w.drew.heap.size, 0, none⟩))) (w1 := w.drew.alloc (.cells #[.string ByteArray.empty, .bool false, .string ByteArray.empty, .string ByteArray.empty, .bool false, .bool false, .int .i64 0] 107)) ?_ (hHeld.below ((Below.refl _ _).alloc (Nat.le_refl _) _)) (fun hHeld => ?_)
    · (go_simp <;> rfl)
    refine Rg.callk (fn := Tryz.f76) (xs := #[.tmp 29, .tmp 30]) (ats := #[25, 9]) 6 (some 31) 76 #[(.pointer (some ⟨b, 0, none⟩)), (.string p)] Tryz.func76 ?_
    refine (cp _ hHeld).mono ?_
    rintro e w5 ⟨rfl, rfl⟩
    refine ⟨_, rfl, hHeld, fun hHeld => ?_⟩
    refine Rg.takek 7 (some 32) (.pointer (some ⟨g, k * 7, none⟩)) hNS hHeld (Rg.y_atk (T := 49) (x := .tmp 28) (y := .tmp 31) (vx := (.slice (some ⟨g, 0, none⟩) n c)) (vy := (.int .i64 (k : Int))) ?_) ?_
    · (intro w hSw; clear hSw; go_simp <;> (intros; exfalso; omega))
    refine Rg.takek 8 (some 33) (.agg #[.string XP, .bool XD, .string XX, .string XK, .bool XL, .bool XA, .int .i64 XS]) hNS hHeld (Rg.y_loadk (T := 107) (x := .tmp 32) (vx := (.pointer (some ⟨g, k * 7, none⟩))) ?_) ?_
    · (intro w hSw; obtain ⟨e0, d0, d1, d2, d3, d4, d5, d6⟩ := hsh _ hSw; simp only at d0 d1 d2 d3 d4 d5 d6; clear hSw; go_simp)
    refine Rg.storek 10 (T := 107) (x := .tmp 8) (y := .tmp 33) (vx := (.pointer (some ⟨w.drew.heap.size, 0, none⟩))) (vy := (.agg #[.string XP, .bool XD, .string XX, .string XK, .bool XL, .bool XA, .int .i64 XS])) (w1 := w.drew.alloc (.cells #[.string XP, .bool XD, .string XX, .string XK, .bool XL, .bool XA, .int .i64 XS] 107)) ?_ (h0.below ((Below.refl _ _).alloc (Nat.le_refl _) _)) (fun hHeld => ?_)
    · go_simp
    refine Rg.donek ?_
    exact ⟨by kernel_rfl, rfl⟩
set_option maxRecDepth 100000 in
set_option maxHeartbeats 2000000 in
theorem getSync (ops : Array Oper) (hops : ops = (Rg.opsOf Tryz.f88 6)) (id : Nat) (b : Nat) (s : St) (g n c k : Nat) (vR : Value) (p XP XX XK : ByteArray) (XD XL XA : Bool) (XS : Nat) {u2 u3 u4 u5 u6 u7 u8 u9 u10 u11 u12 u13 u14 u15 u16 u17 u18 u19 u20 u21 u22 u23 u24 u25 u26 u27 u28 u29 u30 u31 u32 u33 u34 : Value} (w : World)
    (h : At w b s (.slice (some ⟨g, 0, none⟩) n c) vR) (hsh : Shows b s g n c k vR ⟨XP, XD, XX, XK, XL, XA, XS⟩) (hlt : k < n) (hnm : n ≤ 1000000000000)
    (cp : ∀ W, At W b s (.slice (some ⟨g, 0, none⟩) n c) vR → Calls Tryz.prog 76 #[.pointer (some ⟨b, 0, none⟩), .string p] W fun e w' => e = .returned (.int .i64 (k : Int)) ∧ W = w') :
    (Code.region id ops true).wp Tryz.prog (Rg.Only fun a' w' => a' = ⟨#[(.pointer (some ⟨b, 0, none⟩)), (.string p), u2, u3, u4, u5, (.pointer (some ⟨w.drew.heap.size, 0, none⟩)), u7, u8, u9, u10, u11, u12, u13, u14, u15, u16, (.pointer (some ⟨b, 0, none⟩)), (.pointer (some ⟨b, 0, none⟩)), (.pointer (some ⟨b, 0, none⟩)), (.slice (some ⟨g, 0, none⟩) n c), (.pointer (some ⟨b, 0, none⟩)), (.string p), (.int .i64 (k : Int)), (.pointer (some ⟨g, k * 7, none⟩)), (.agg #[.string XP, .bool XD, .string XX, .string XK, .bool XL, .bool XA, .int .i64 XS]), u26, u27, u28, u29, u30, u31, u32, u33, u34], []⟩ ∧ w' = w.drew.alloc (.cells #[.string XP, .bool XD, .string XX, .string XK, .bool XL, .bool XA, .int .i64 XS] 107)) ⟨#[(.pointer (some ⟨b, 0, none⟩)), (.string p), u2, u3, u4, u5, u6, u7, u8, u9, u10, u11, u12, u13, u14, u15, u16, u17, u18, u19, u20, u21, u22, u23, u24, u25, u26, u27, u28, u29, u30, u31, u32, u33, u34], []⟩ w := by
  subst hops
  have hNS : Region.noSelect (Rg.opsOf Tryz.f88 6) = true := by kernel_rfl
  have h0 := h.below (Below.refl _ _).drew
  refine wp_region_held_drew (S := fun W => At W b s (.slice (some ⟨g, 0, none⟩) n c) vR) (by kernel_rfl) h0 (fun hHeld => ?_)
  rw [show (Rg.opsOf Tryz.f88 6).size = 11 by kernel_rfl]
  refine Rg.takek 0 (some 17) (.pointer (some ⟨b, 0, none⟩)) hNS hHeld (Rg.y_movekL (x := .tmp 0)) ?_
  refine Rg.takek 1 (some 18) (.pointer (some ⟨b, 0, none⟩)) hNS hHeld (Rg.y_nilk (x := .tmp 17)) ?_
  refine Rg.takek 2 (some 19) (.pointer (some ⟨b, 0, none⟩)) hNS hHeld (Rg.y_fieldk (T := 52) (k := 0) (x := .tmp 18) (vx := (.pointer (some ⟨b, 0, none⟩))) ?_) ?_
  · (intro w hSw; go_simp)
  refine Rg.takek 3 (some 20) (.slice (some ⟨g, 0, none⟩) n c) hNS hHeld (Rg.y_loadk (T := 49) (x := .tmp 19) (vx := (.pointer (some ⟨b, 0, none⟩))) ?_) ?_
  · (intro w hSw; obtain ⟨e0, d0, d1, d2, d3, d4, d5, d6⟩ := hsh _ hSw; simp only at d0 d1 d2 d3 d4 d5 d6; clear hSw; go_simp)
  refine Rg.takek 4 (some 21) (.pointer (some ⟨b, 0, none⟩)) hNS hHeld (Rg.y_movekL (x := .tmp 0)) ?_
  refine Rg.takek 5 (some 22) (.string p) hNS hHeld (Rg.y_movekL (x := .tmp 1)) ?_
  refine Rg.twok (i := 6) (j := 9) ?_ ?_
  · refine Rg.op_callk (fn := Tryz.f76) (xs := #[.tmp 21, .tmp 22]) (ats := #[25, 9]) 6 (some 23) 76 #[(.pointer (some ⟨b, 0, none⟩)), (.string p)] Tryz.func76 ?_
    refine (cp _ hHeld).mono ?_
    rintro e w5 ⟨rfl, rfl⟩
    refine ⟨_, rfl, hHeld, fun hHeld => ?_⟩
    refine Rg.takek 7 (some 24) (.pointer (some ⟨g, k * 7, none⟩)) hNS hHeld (Rg.y_atk (T := 49) (x := .tmp 20) (y := .tmp 23) (vx := (.slice (some ⟨g, 0, none⟩) n c)) (vy := (.int .i64 (k : Int))) ?_) ?_
    · (intro w hSw; clear hSw; go_simp <;> (intros; exfalso; omega))
    refine Rg.takek 8 (some 25) (.agg #[.string XP, .bool XD, .string XX, .string XK, .bool XL, .bool XA, .int .i64 XS]) hNS hHeld (Rg.y_loadk (T := 107) (x := .tmp 24) (vx := (.pointer (some ⟨g, k * 7, none⟩))) ?_) ?_
    · (intro w hSw; obtain ⟨e0, d0, d1, d2, d3, d4, d5, d6⟩ := hsh _ hSw; simp only at d0 d1 d2 d3 d4 d5 d6; clear hSw; go_simp)
    refine Rg.onek (i := 9) ?_
    refine Rg.op_allock 9 (some 6) (T := 107) (v := (.pointer (some ⟨w.drew.heap.size, 0, none⟩))) (w1 := w.drew.alloc (.cells #[.string ByteArray.empty, .bool false, .string ByteArray.empty, .string ByteArray.empty, .bool false, .bool false, .int .i64 0] 107)) ?_ (hHeld.below ((Below.refl _ _).alloc (Nat.le_refl _) _)) (fun hHeld => ?_)
    · (go_simp <;> rfl)
    refine Rg.storek 10 (T := 107) (x := .tmp 6) (y := .tmp 25) (vx := (.pointer (some ⟨w.drew.heap.size, 0, none⟩))) (vy := (.agg #[.string XP, .bool XD, .string XX, .string XK, .bool XL, .bool XA, .int .i64 XS])) (w1 := w.drew.alloc (.cells #[.string XP, .bool XD, .string XX, .string XK, .bool XL, .bool XA, .int .i64 XS] 107)) ?_ (h0.below ((Below.refl _ _).alloc (Nat.le_refl _) _)) (fun hHeld => ?_)
    · go_simp
    refine Rg.donek ?_
    exact ⟨by kernel_rfl, rfl⟩
  · refine Rg.op_allock 9 (some 6) (T := 107) (v := (.pointer (some ⟨w.drew.heap.size, 0, none⟩))) (w1 := w.drew.alloc (.cells #[.string ByteArray.empty, .bool false, .string ByteArray.empty, .string ByteArray.empty, .bool false, .bool false, .int .i64 0] 107)) ?_ (hHeld.below ((Below.refl _ _).alloc (Nat.le_refl _) _)) (fun hHeld => ?_)
    · (go_simp <;> rfl)
    refine Rg.callk (fn := Tryz.f76) (xs := #[.tmp 21, .tmp 22]) (ats := #[25, 9]) 6 (some 23) 76 #[(.pointer (some ⟨b, 0, none⟩)), (.string p)] Tryz.func76 ?_
    refine (cp _ hHeld).mono ?_
    rintro e w5 ⟨rfl, rfl⟩
    refine ⟨_, rfl, hHeld, fun hHeld => ?_⟩
    refine Rg.takek 7 (some 24) (.pointer (some ⟨g, k * 7, none⟩)) hNS hHeld (Rg.y_atk (T := 49) (x := .tmp 20) (y := .tmp 23) (vx := (.slice (some ⟨g, 0, none⟩) n c)) (vy := (.int .i64 (k : Int))) ?_) ?_
    · (intro w hSw; clear hSw; go_simp <;> (intros; exfalso; omega))
    refine Rg.takek 8 (some 25) (.agg #[.string XP, .bool XD, .string XX, .string XK, .bool XL, .bool XA, .int .i64 XS]) hNS hHeld (Rg.y_loadk (T := 107) (x := .tmp 24) (vx := (.pointer (some ⟨g, k * 7, none⟩))) ?_) ?_
    · (intro w hSw; obtain ⟨e0, d0, d1, d2, d3, d4, d5, d6⟩ := hsh _ hSw; simp only at d0 d1 d2 d3 d4 d5 d6; clear hSw; go_simp)
    refine Rg.storek 10 (T := 107) (x := .tmp 6) (y := .tmp 25) (vx := (.pointer (some ⟨w.drew.heap.size, 0, none⟩))) (vy := (.agg #[.string XP, .bool XD, .string XX, .string XK, .bool XL, .bool XA, .int .i64 XS])) (w1 := w.drew.alloc (.cells #[.string XP, .bool XD, .string XX, .string XK, .bool XL, .bool XA, .int .i64 XS] 107)) ?_ (h0.below ((Below.refl _ _).alloc (Nat.le_refl _) _)) (fun hHeld => ?_)
    · go_simp
    refine Rg.donek ?_
    exact ⟨by kernel_rfl, rfl⟩
set_option maxRecDepth 100000 in
set_option maxHeartbeats 2000000 in
theorem getRename (ops : Array Oper) (hops : ops = (Rg.opsOf Tryz.f95 11)) (id : Nat) (b : Nat) (s : St) (g n c k : Nat) (vR : Value) (p XP XX XK : ByteArray) (XD XL XA : Bool) (XS : Nat) {u2 u3 u4 u5 u6 u7 u8 u9 u10 u11 u12 u13 u14 u15 u16 u17 u18 u19 u20 u21 u22 u23 u24 u25 u26 u27 u28 u29 u30 u31 u32 u33 u34 u35 u36 u37 u38 u39 u40 u41 u42 u43 u44 u45 u46 u47 u48 u49 u50 u51 u52 u53 u54 u55 u56 u57 u58 u59 u60 u61 u62 u63 u64 u65 u66 u67 u68 u69 u70 u71 u72 u73 u74 u75 u76 u77 u78 u79 u80 u81 u82 u83 u84 u85 u86 u87 u88 u89 u90 u91 u92 u93 u94 u95 u96 u97 u98 u99 u100 : Value} (w : World)
    (h : At w b s (.slice (some ⟨g, 0, none⟩) n c) vR) (hsh : Shows b s g n c k vR ⟨XP, XD, XX, XK, XL, XA, XS⟩) (hlt : k < n) (hnm : n ≤ 1000000000000)
    (cp : ∀ W, At W b s (.slice (some ⟨g, 0, none⟩) n c) vR → Calls Tryz.prog 76 #[.pointer (some ⟨b, 0, none⟩), .string p] W fun e w' => e = .returned (.int .i64 (k : Int)) ∧ W = w') :
    (Code.region id ops true).wp Tryz.prog (Rg.Only fun a' w' => a' = ⟨#[(.pointer (some ⟨b, 0, none⟩)), (.string p), u2, u3, u4, u5, u6, u7, (.pointer (some ⟨w.drew.heap.size, 0, none⟩)), u9, u10, u11, u12, u13, u14, u15, u16, u17, u18, u19, u20, u21, u22, u23, u24, u25, u26, u27, u28, u29, u30, u31, u32, u33, u34, u35, u36, u37, u38, u39, u40, u41, (.pointer (some ⟨b, 0, none⟩)), (.pointer (some ⟨b, 0, none⟩)), (.pointer (some ⟨b, 0, none⟩)), (.slice (some ⟨g, 0, none⟩) n c), (.pointer (some ⟨b, 0, none⟩)), (.string p), (.int .i64 (k : Int)), (.pointer (some ⟨g, k * 7, none⟩)), (.agg #[.string XP, .bool XD, .string XX, .string XK, .bool XL, .bool XA, .int .i64 XS]), u51, u52, u53, u54, u55, u56, u57, u58, u59, u60, u61, u62, u63, u64, u65, u66, u67, u68, u69, u70, u71, u72, u73, u74, u75, u76, u77, u78, u79, u80, u81, u82, u83, u84, u85, u86, u87, u88, u89, u90, u91, u92, u93, u94, u95, u96, u97, u98, u99, u100], []⟩ ∧ w' = w.drew.alloc (.cells #[.string XP, .bool XD, .string XX, .string XK, .bool XL, .bool XA, .int .i64 XS] 107)) ⟨#[(.pointer (some ⟨b, 0, none⟩)), (.string p), u2, u3, u4, u5, u6, u7, u8, u9, u10, u11, u12, u13, u14, u15, u16, u17, u18, u19, u20, u21, u22, u23, u24, u25, u26, u27, u28, u29, u30, u31, u32, u33, u34, u35, u36, u37, u38, u39, u40, u41, u42, u43, u44, u45, u46, u47, u48, u49, u50, u51, u52, u53, u54, u55, u56, u57, u58, u59, u60, u61, u62, u63, u64, u65, u66, u67, u68, u69, u70, u71, u72, u73, u74, u75, u76, u77, u78, u79, u80, u81, u82, u83, u84, u85, u86, u87, u88, u89, u90, u91, u92, u93, u94, u95, u96, u97, u98, u99, u100], []⟩ w := by
  subst hops
  have hNS : Region.noSelect (Rg.opsOf Tryz.f95 11) = true := by kernel_rfl
  have h0 := h.below (Below.refl _ _).drew
  refine wp_region_held_drew (S := fun W => At W b s (.slice (some ⟨g, 0, none⟩) n c) vR) (by kernel_rfl) h0 (fun hHeld => ?_)
  rw [show (Rg.opsOf Tryz.f95 11).size = 11 by kernel_rfl]
  refine Rg.takek 0 (some 42) (.pointer (some ⟨b, 0, none⟩)) hNS hHeld (Rg.y_movekL (x := .tmp 0)) ?_
  refine Rg.takek 1 (some 43) (.pointer (some ⟨b, 0, none⟩)) hNS hHeld (Rg.y_nilk (x := .tmp 42)) ?_
  refine Rg.takek 2 (some 44) (.pointer (some ⟨b, 0, none⟩)) hNS hHeld (Rg.y_fieldk (T := 52) (k := 0) (x := .tmp 43) (vx := (.pointer (some ⟨b, 0, none⟩))) ?_) ?_
  · (intro w hSw; go_simp)
  refine Rg.takek 3 (some 45) (.slice (some ⟨g, 0, none⟩) n c) hNS hHeld (Rg.y_loadk (T := 49) (x := .tmp 44) (vx := (.pointer (some ⟨b, 0, none⟩))) ?_) ?_
  · (intro w hSw; obtain ⟨e0, d0, d1, d2, d3, d4, d5, d6⟩ := hsh _ hSw; simp only at d0 d1 d2 d3 d4 d5 d6; clear hSw; go_simp)
  refine Rg.takek 4 (some 46) (.pointer (some ⟨b, 0, none⟩)) hNS hHeld (Rg.y_movekL (x := .tmp 0)) ?_
  refine Rg.takek 5 (some 47) (.string p) hNS hHeld (Rg.y_movekL (x := .tmp 1)) ?_
  refine Rg.twok (i := 6) (j := 9) ?_ ?_
  · refine Rg.op_callk (fn := Tryz.f76) (xs := #[.tmp 46, .tmp 47]) (ats := #[25, 9]) 6 (some 48) 76 #[(.pointer (some ⟨b, 0, none⟩)), (.string p)] Tryz.func76 ?_
    refine (cp _ hHeld).mono ?_
    rintro e w5 ⟨rfl, rfl⟩
    refine ⟨_, rfl, hHeld, fun hHeld => ?_⟩
    refine Rg.takek 7 (some 49) (.pointer (some ⟨g, k * 7, none⟩)) hNS hHeld (Rg.y_atk (T := 49) (x := .tmp 45) (y := .tmp 48) (vx := (.slice (some ⟨g, 0, none⟩) n c)) (vy := (.int .i64 (k : Int))) ?_) ?_
    · (intro w hSw; clear hSw; go_simp <;> (intros; exfalso; omega))
    refine Rg.takek 8 (some 50) (.agg #[.string XP, .bool XD, .string XX, .string XK, .bool XL, .bool XA, .int .i64 XS]) hNS hHeld (Rg.y_loadk (T := 107) (x := .tmp 49) (vx := (.pointer (some ⟨g, k * 7, none⟩))) ?_) ?_
    · (intro w hSw; obtain ⟨e0, d0, d1, d2, d3, d4, d5, d6⟩ := hsh _ hSw; simp only at d0 d1 d2 d3 d4 d5 d6; clear hSw; go_simp)
    refine Rg.onek (i := 9) ?_
    refine Rg.op_allock 9 (some 8) (T := 107) (v := (.pointer (some ⟨w.drew.heap.size, 0, none⟩))) (w1 := w.drew.alloc (.cells #[.string ByteArray.empty, .bool false, .string ByteArray.empty, .string ByteArray.empty, .bool false, .bool false, .int .i64 0] 107)) ?_ (hHeld.below ((Below.refl _ _).alloc (Nat.le_refl _) _)) (fun hHeld => ?_)
    · (go_simp <;> rfl)
    refine Rg.storek 10 (T := 107) (x := .tmp 8) (y := .tmp 50) (vx := (.pointer (some ⟨w.drew.heap.size, 0, none⟩))) (vy := (.agg #[.string XP, .bool XD, .string XX, .string XK, .bool XL, .bool XA, .int .i64 XS])) (w1 := w.drew.alloc (.cells #[.string XP, .bool XD, .string XX, .string XK, .bool XL, .bool XA, .int .i64 XS] 107)) ?_ (h0.below ((Below.refl _ _).alloc (Nat.le_refl _) _)) (fun hHeld => ?_)
    · go_simp
    refine Rg.donek ?_
    exact ⟨by kernel_rfl, rfl⟩
  · refine Rg.op_allock 9 (some 8) (T := 107) (v := (.pointer (some ⟨w.drew.heap.size, 0, none⟩))) (w1 := w.drew.alloc (.cells #[.string ByteArray.empty, .bool false, .string ByteArray.empty, .string ByteArray.empty, .bool false, .bool false, .int .i64 0] 107)) ?_ (hHeld.below ((Below.refl _ _).alloc (Nat.le_refl _) _)) (fun hHeld => ?_)
    · (go_simp <;> rfl)
    refine Rg.callk (fn := Tryz.f76) (xs := #[.tmp 46, .tmp 47]) (ats := #[25, 9]) 6 (some 48) 76 #[(.pointer (some ⟨b, 0, none⟩)), (.string p)] Tryz.func76 ?_
    refine (cp _ hHeld).mono ?_
    rintro e w5 ⟨rfl, rfl⟩
    refine ⟨_, rfl, hHeld, fun hHeld => ?_⟩
    refine Rg.takek 7 (some 49) (.pointer (some ⟨g, k * 7, none⟩)) hNS hHeld (Rg.y_atk (T := 49) (x := .tmp 45) (y := .tmp 48) (vx := (.slice (some ⟨g, 0, none⟩) n c)) (vy := (.int .i64 (k : Int))) ?_) ?_
    · (intro w hSw; clear hSw; go_simp <;> (intros; exfalso; omega))
    refine Rg.takek 8 (some 50) (.agg #[.string XP, .bool XD, .string XX, .string XK, .bool XL, .bool XA, .int .i64 XS]) hNS hHeld (Rg.y_loadk (T := 107) (x := .tmp 49) (vx := (.pointer (some ⟨g, k * 7, none⟩))) ?_) ?_
    · (intro w hSw; obtain ⟨e0, d0, d1, d2, d3, d4, d5, d6⟩ := hsh _ hSw; simp only at d0 d1 d2 d3 d4 d5 d6; clear hSw; go_simp)
    refine Rg.storek 10 (T := 107) (x := .tmp 8) (y := .tmp 50) (vx := (.pointer (some ⟨w.drew.heap.size, 0, none⟩))) (vy := (.agg #[.string XP, .bool XD, .string XX, .string XK, .bool XL, .bool XA, .int .i64 XS])) (w1 := w.drew.alloc (.cells #[.string XP, .bool XD, .string XX, .string XK, .bool XL, .bool XA, .int .i64 XS] 107)) ?_ (h0.below ((Below.refl _ _).alloc (Nat.le_refl _) _)) (fun hHeld => ?_)
    · go_simp
    refine Rg.donek ?_
    exact ⟨by kernel_rfl, rfl⟩
set_option maxRecDepth 100000 in
set_option maxHeartbeats 2000000 in
theorem getWrite (ops : Array Oper) (hops : ops = (Rg.opsOf Tryz.f94 10)) (id : Nat) (b : Nat) (s : St) (g n c k : Nat) (vR : Value) (p XP XX XK : ByteArray) (XD XL XA : Bool) (XS : Nat) (I0 I2 I3 : ByteArray) (I1 I4 I5 : Bool) (I6 : Int) {u2 u3 u4 u5 u6 u7 u9 u10 u11 u12 u13 u14 u15 u16 u17 u18 u19 u20 u21 u22 u23 u24 u25 u26 u27 u28 u29 u30 u31 u32 u33 u34 u35 u36 u37 u38 u39 u40 u41 u42 u43 u44 u45 u46 u47 u48 u49 u50 u51 u52 u53 u54 u55 u56 u57 u58 u59 u60 u61 : Value} (w : World)
    (h : At w b s (.slice (some ⟨g, 0, none⟩) n c) vR) (hsh : Shows b s g n c k vR ⟨XP, XD, XX, XK, XL, XA, XS⟩) (hlt : k < n) (hnm : n ≤ 1000000000000)
    (cp : ∀ W, At W b s (.slice (some ⟨g, 0, none⟩) n c) vR → Calls Tryz.prog 76 #[.pointer (some ⟨b, 0, none⟩), .string p] W fun e w' => e = .returned (.int .i64 (k : Int)) ∧ W = w') :
    (Code.region id ops true).wp Tryz.prog (Rg.Only fun a' w' => a' = ⟨#[(.pointer (some ⟨b, 0, none⟩)), (.string p), u2, u3, u4, u5, u6, u7, (.pointer (some ⟨w.heap.size, 0, none⟩)), u9, u10, u11, u12, u13, u14, u15, u16, u17, u18, u19, u20, u21, u22, u23, u24, u25, u26, u27, u28, (.pointer (some ⟨b, 0, none⟩)), (.pointer (some ⟨b, 0, none⟩)), (.pointer (some ⟨b, 0, none⟩)), (.slice (some ⟨g, 0, none⟩) n c), (.pointer (some ⟨b, 0, none⟩)), (.string p), (.int .i64 (k : Int)), (.pointer (some ⟨g, k * 7, none⟩)), (.agg #[.string XP, .bool XD, .string XX, .string XK, .bool XL, .bool XA, .int .i64 XS]), u38, u39, u40, u41, u42, u43, u44, u45, u46, u47, u48, u49, u50, u51, u52, u53, u54, u55, u56, u57, u58, u59, u60, u61], []⟩ ∧ w' = (w.alloc (.cells #[.string XP, .bool XD, .string XX, .string XK, .bool XL, .bool XA, .int .i64 XS] 107)).drew) ⟨#[(.pointer (some ⟨b, 0, none⟩)), (.string p), u2, u3, u4, u5, u6, u7, (.pointer (some ⟨w.heap.size, 0, none⟩)), u9, u10, u11, u12, u13, u14, u15, u16, u17, u18, u19, u20, u21, u22, u23, u24, u25, u26, u27, u28, u29, u30, u31, u32, u33, u34, u35, u36, u37, u38, u39, u40, u41, u42, u43, u44, u45, u46, u47, u48, u49, u50, u51, u52, u53, u54, u55, u56, u57, u58, u59, u60, u61], []⟩ (w.alloc (.cells #[.string I0, .bool I1, .string I2, .string I3, .bool I4, .bool I5, .int .i64 I6] 107)) := by
  subst hops
  have hNS : Region.noSelect (Rg.opsOf Tryz.f94 10) = true := by kernel_rfl
  have h0 := (h.below ((Below.refl _ _).alloc (Nat.le_refl _) (.cells #[.string I0, .bool I1, .string I2, .string I3, .bool I4, .bool I5, .int .i64 I6] 107))).below (Below.refl _ _).drew
  have h0' := (h.below ((Below.refl _ _).alloc (Nat.le_refl _) (.cells #[.string XP, .bool XD, .string XX, .string XK, .bool XL, .bool XA, .int .i64 XS] 107))).below (Below.refl _ _).drew
  refine wp_region_held_drew (S := fun W => At W b s (.slice (some ⟨g, 0, none⟩) n c) vR) (by kernel_rfl) h0 (fun hHeld => ?_)
  rw [show (Rg.opsOf Tryz.f94 10).size = 10 by kernel_rfl]
  refine Rg.takek 0 (some 29) (.pointer (some ⟨b, 0, none⟩)) hNS hHeld (Rg.y_movekL (x := .tmp 0)) ?_
  refine Rg.takek 1 (some 30) (.pointer (some ⟨b, 0, none⟩)) hNS hHeld (Rg.y_nilk (x := .tmp 29)) ?_
  refine Rg.takek 2 (some 31) (.pointer (some ⟨b, 0, none⟩)) hNS hHeld (Rg.y_fieldk (T := 52) (k := 0) (x := .tmp 30) (vx := (.pointer (some ⟨b, 0, none⟩))) ?_) ?_
  · (intro w hSw; go_simp)
  refine Rg.takek 3 (some 32) (.slice (some ⟨g, 0, none⟩) n c) hNS hHeld (Rg.y_loadk (T := 49) (x := .tmp 31) (vx := (.pointer (some ⟨b, 0, none⟩))) ?_) ?_
  · (intro w hSw; obtain ⟨e0, d0, d1, d2, d3, d4, d5, d6⟩ := hsh _ hSw; simp only at d0 d1 d2 d3 d4 d5 d6; clear hSw; go_simp)
  refine Rg.takek 4 (some 33) (.pointer (some ⟨b, 0, none⟩)) hNS hHeld (Rg.y_movekL (x := .tmp 0)) ?_
  refine Rg.takek 5 (some 34) (.string p) hNS hHeld (Rg.y_movekL (x := .tmp 1)) ?_
  refine Rg.callk (fn := Tryz.f76) (xs := #[.tmp 33, .tmp 34]) (ats := #[25, 9]) 6 (some 35) 76 #[(.pointer (some ⟨b, 0, none⟩)), (.string p)] Tryz.func76 ?_
  refine (cp _ hHeld).mono ?_
  rintro e w5 ⟨rfl, rfl⟩
  refine ⟨_, rfl, hHeld, fun hHeld => ?_⟩
  refine Rg.takek 7 (some 36) (.pointer (some ⟨g, k * 7, none⟩)) hNS hHeld (Rg.y_atk (T := 49) (x := .tmp 32) (y := .tmp 35) (vx := (.slice (some ⟨g, 0, none⟩) n c)) (vy := (.int .i64 (k : Int))) ?_) ?_
  · (intro w hSw; clear hSw; go_simp <;> (intros; exfalso; omega))
  refine Rg.takek 8 (some 37) (.agg #[.string XP, .bool XD, .string XX, .string XK, .bool XL, .bool XA, .int .i64 XS]) hNS hHeld (Rg.y_loadk (T := 107) (x := .tmp 36) (vx := (.pointer (some ⟨g, k * 7, none⟩))) ?_) ?_
  · (intro w hSw; obtain ⟨e0, d0, d1, d2, d3, d4, d5, d6⟩ := hsh _ hSw; simp only at d0 d1 d2 d3 d4 d5 d6; clear hSw; go_simp)
  refine Rg.storek 9 (T := 107) (x := .tmp 8) (y := .tmp 37) (vx := (.pointer (some ⟨w.heap.size, 0, none⟩))) (vy := (.agg #[.string XP, .bool XD, .string XX, .string XK, .bool XL, .bool XA, .int .i64 XS])) (w1 := (w.alloc (.cells #[.string XP, .bool XD, .string XX, .string XK, .bool XL, .bool XA, .int .i64 XS] 107)).drew) ?_ (h0') (fun hHeld => ?_)
  · (go_simp <;> rfl)
  refine Rg.donek ?_
  exact ⟨by kernel_rfl, rfl⟩
set_option maxRecDepth 100000 in
set_option maxHeartbeats 2000000 in
theorem lessRename (ops : Array Oper) (hops : ops = (Rg.opsOf Tryz.f95 16)) (id : Nat) (b : Nat) (s : St) (g n c k : Nat) (vR : Value) (p XP XX XK : ByteArray) (XD XL XA : Bool) (XS : Nat) (M : Int) {u1 u3 u4 u5 u6 u7 u8 u10 u11 u12 u13 u14 u15 u16 u17 u18 u19 u20 u21 u22 u23 u24 u25 u26 u27 u28 u29 u30 u31 u32 u33 u34 u35 u36 u37 u38 u39 u40 u41 u42 u43 u44 u45 u46 u47 u48 u49 u50 u51 u52 u53 u54 u55 u56 u57 u58 u59 u60 u61 u62 u63 u64 u65 u66 u67 u68 u69 u70 u71 u72 u73 u74 u75 u76 u77 u78 u79 u80 u81 u82 u83 u84 u85 u86 u87 u88 u89 u90 u91 u92 u93 u94 u95 u96 u97 u98 u99 u100 : Value} (w : World)
    (h : At w b s (.slice (some ⟨g, 0, none⟩) n c) vR) (hsh : Shows b s g n c k vR ⟨XP, XD, XX, XK, XL, XA, XS⟩) (hlt : k < n) (hnm : n ≤ 1000000000000)
    (hsub : IntKind.i64.wrap (M - (XX.size : Int)) = M - (XX.size : Int))
    (cp : ∀ W, At W b s (.slice (some ⟨g, 0, none⟩) n c) vR → Calls Tryz.prog 76 #[.pointer (some ⟨b, 0, none⟩), .string p] W fun e w' => e = .returned (.int .i64 (k : Int)) ∧ W = w') :
    (Code.region id ops true).wp Tryz.prog (Rg.Only fun a' w' => a' = ⟨#[(.pointer (some ⟨b, 0, none⟩)), u1, (.string p), u3, u4, u5, u6, u7, u8, (.int .i64 (M - (XX.size : Int))), u10, u11, u12, u13, u14, u15, u16, u17, u18, u19, u20, u21, u22, u23, u24, u25, u26, u27, u28, u29, u30, u31, u32, u33, u34, u35, u36, u37, u38, u39, u40, u41, u42, u43, u44, u45, u46, u47, u48, u49, u50, u51, u52, u53, u54, u55, u56, u57, u58, u59, u60, u61, u62, (.int .i64 M), (.pointer (some ⟨b, 0, none⟩)), (.pointer (some ⟨b, 0, none⟩)), (.pointer (some ⟨b, 0, none⟩)), (.slice (some ⟨g, 0, none⟩) n c), (.pointer (some ⟨b, 0, none⟩)), (.string p), (.int .i64 (k : Int)), (.pointer (some ⟨g, k * 7, none⟩)), (.pointer (some ⟨g, k * 7 + 2, none⟩)), (.string XX), (.int .i64 (XX.size : Int)), (.int .i64 (M - (XX.size : Int))), u76, u77, u78, u79, u80, u81, u82, u83, u84, u85, u86, u87, u88, u89, u90, u91, u92, u93, u94, u95, u96, u97, u98, u99, u100], []⟩ ∧ w' = w.drew) ⟨#[(.pointer (some ⟨b, 0, none⟩)), u1, (.string p), u3, u4, u5, u6, u7, u8, (.int .i64 M), u10, u11, u12, u13, u14, u15, u16, u17, u18, u19, u20, u21, u22, u23, u24, u25, u26, u27, u28, u29, u30, u31, u32, u33, u34, u35, u36, u37, u38, u39, u40, u41, u42, u43, u44, u45, u46, u47, u48, u49, u50, u51, u52, u53, u54, u55, u56, u57, u58, u59, u60, u61, u62, u63, u64, u65, u66, u67, u68, u69, u70, u71, u72, u73, u74, u75, u76, u77, u78, u79, u80, u81, u82, u83, u84, u85, u86, u87, u88, u89, u90, u91, u92, u93, u94, u95, u96, u97, u98, u99, u100], []⟩ w := by
  subst hops
  have hNS : Region.noSelect (Rg.opsOf Tryz.f95 16) = true := by kernel_rfl
  have h0 := h.below (Below.refl _ _).drew
  refine wp_region_held_drew (S := fun W => At W b s (.slice (some ⟨g, 0, none⟩) n c) vR) (by kernel_rfl) h0 (fun hHeld => ?_)
  rw [show (Rg.opsOf Tryz.f95 16).size = 14 by kernel_rfl]
  refine Rg.takek 0 (some 63) (.int .i64 M) hNS hHeld (Rg.y_movekL (x := .tmp 9)) ?_
  refine Rg.takek 1 (some 64) (.pointer (some ⟨b, 0, none⟩)) hNS hHeld (Rg.y_movekL (x := .tmp 0)) ?_
  refine Rg.takek 2 (some 65) (.pointer (some ⟨b, 0, none⟩)) hNS hHeld (Rg.y_nilk (x := .tmp 64)) ?_
  refine Rg.takek 3 (some 66) (.pointer (some ⟨b, 0, none⟩)) hNS hHeld (Rg.y_fieldk (T := 52) (k := 0) (x := .tmp 65) (vx := (.pointer (some ⟨b, 0, none⟩))) ?_) ?_
  · (intro w hSw; go_simp)
  refine Rg.takek 4 (some 67) (.slice (some ⟨g, 0, none⟩) n c) hNS hHeld (Rg.y_loadk (T := 49) (x := .tmp 66) (vx := (.pointer (some ⟨b, 0, none⟩))) ?_) ?_
  · (intro w hSw; obtain ⟨e0, d0, d1, d2, d3, d4, d5, d6⟩ := hsh _ hSw; simp only at d0 d1 d2 d3 d4 d5 d6; clear hSw; go_simp)
  refine Rg.takek 5 (some 68) (.pointer (some ⟨b, 0, none⟩)) hNS hHeld (Rg.y_movekL (x := .tmp 0)) ?_
  refine Rg.takek 6 (some 69) (.string p) hNS hHeld (Rg.y_movekL (x := .tmp 2)) ?_
  refine Rg.callk (fn := Tryz.f76) (xs := #[.tmp 68, .tmp 69]) (ats := #[25, 9]) 7 (some 70) 76 #[(.pointer (some ⟨b, 0, none⟩)), (.string p)] Tryz.func76 ?_
  refine (cp _ hHeld).mono ?_
  rintro e w5 ⟨rfl, rfl⟩
  refine ⟨_, rfl, hHeld, fun hHeld => ?_⟩
  refine Rg.takek 8 (some 71) (.pointer (some ⟨g, k * 7, none⟩)) hNS hHeld (Rg.y_atk (T := 49) (x := .tmp 67) (y := .tmp 70) (vx := (.slice (some ⟨g, 0, none⟩) n c)) (vy := (.int .i64 (k : Int))) ?_) ?_
  · (intro w hSw; clear hSw; go_simp <;> (intros; exfalso; omega))
  refine Rg.takek 9 (some 72) (.pointer (some ⟨g, k * 7 + 2, none⟩)) hNS hHeld (Rg.y_fieldk (T := 107) (k := 2) (x := .tmp 71) (vx := (.pointer (some ⟨g, k * 7, none⟩))) ?_) ?_
  · (intro w hSw; go_simp)
  refine Rg.takek 10 (some 73) (.string XX) hNS hHeld (Rg.y_loadk (T := 9) (x := .tmp 72) (vx := (.pointer (some ⟨g, k * 7 + 2, none⟩))) ?_) ?_
  · (intro w hSw; obtain ⟨e0, d0, d1, d2, d3, d4, d5, d6⟩ := hsh _ hSw; simp only at d0 d1 d2 d3 d4 d5 d6; clear hSw; go_simp)
  refine Rg.takek 11 (some 74) (.int .i64 (XX.size : Int)) hNS hHeld (Rg.y_lenk (x := .tmp 73) (ats := #[9]) (vx := (.string XX)) (n := XX.size) ?_) ?_
  · (intro ty w hSw; go_simp)
  refine Rg.takek 12 (some 75) ((.int .i64 (M - (XX.size : Int)))) hNS hHeld (Rg.y_bink (b := BinOp.sub) (T := 3) (R' := 3) (x := .tmp 63) (y := .tmp 74) (vx := (.int .i64 M)) (vy := (.int .i64 (XX.size : Int))) ?_) ?_
  · (intro w hSw; clear hSw; go_simp <;> exact hsub)
  refine Rg.takek 13 (some 9) ((.int .i64 (M - (XX.size : Int)))) hNS hHeld (Rg.y_movekR (x := .tmp 75)) ?_
  refine Rg.donek ?_
  exact ⟨by kernel_rfl, rfl⟩
end Go.Proofs.YtjdfffkkpbabpaaGreat.Dk

namespace Go.Proofs.YtjdfffkkpbabpaaGreat.Dk
open Go.RowKit Tx Pm
set_option linter.unusedVariables false
def mk (p : ByteArray) : It := ⟨p, false, ⟨#[]⟩, ⟨#[]⟩, false, false, 0⟩
def old (l : List It) (p : ByteArray) : It := (find l p).getD (mk p)
def syncS (s : St) (p : ByteArray) : Nat × St :=
  if there s p ≠ 0 then (there s p, s) else if (done s).1 ≠ 0 then done s else
  (0, { (done s).2 with L := ins (done s).2.L { old s.L p with kept := (old s.L p).data, loose := false, anew := false } })
def appendS (s : St) (p d : ByteArray) : Nat × St :=
  if there s p ≠ 0 then (there s p, s) else if fits s p d.size = false then (13, s) else if (done s).1 ≠ 0 then done s else
  (0, putS (done s).2 { old s.L p with data := (old s.L p).data ++ d, loose := true })
theorem there_file {s : St} {p : ByteArray} (h : there s p = 0) : ∃ (k : Nat) (x : It), k < s.L.length ∧ s.L[k]? = some x ∧ find s.L p = some x ∧ placeI s.L p = k ∧ x.path = p ∧ x.dir = false := by
  unfold there at h
  split at h
  · omega
  · split at h
    · omega
    · split at h
      · omega
      · rename_i h1 h2 h3
        rcases find_cases s.L p with ⟨hf, _⟩ | ⟨k, x, a, b, c, d, e⟩
        · rw [kind, hf] at h2
          exact absurd rfl h2
        · refine ⟨k, x, a, b, c, d, e, ?_⟩
          rw [kind, c, kindOf] at h3
          cases hd : x.dir with
          | false => rfl
          | true => rw [hd] at h3; exact absurd rfl h3
theorem shows {b : Nat} {s : St} {g c k : Nat} {vR : Value} {x : It} (hx : s.L[k]? = some x) : Shows b s g s.L.length c k vR x := by
  intro W hW
  have := hW.seen (Below.refl _ _)
  obtain ⟨g', hg', d⟩ := this.it k x hx
  cases hg'
  exact ⟨this.c0, d⟩
theorem to_done {w w1 w2 : World} {b : Nat} {s : St} {vL vR : Value} {k : Nat} {e : Ending} (hb : Below w.heap.size w w1) (hc : Chg (· = b) w1 w2) (he : e = .returned (.int .i64 (k : Nat))) (hat : At w2 b s vL vR) : To w b vL vR (k, s) e w2 :=
  ⟨he, vL, vR, hat, ((Chg.of_below hb).trans (G := (· = b)) hc (fun i hi => .inl hi)).mono foot_b, fun g hg => .inl hg⟩
set_option maxRecDepth 100000 in
set_option maxHeartbeats 2000000 in
theorem rSync_any (b : Nat) (s : St) (vL vR : Value) (p : ByteArray) (w : World) (h : At w b s vL vR) (ok : Ok s) (hp : p.size ≤ 8000000000000) :
    Calls Tryz.prog 88 #[.pointer (some ⟨b, 0, none⟩), .string p] w (To w b vL vR (syncS s p)) := by
  have c1 := rThere_any b s vL vR p w h ok.fit hp
  have c4 := fun W (hW : Below w.heap.size w W) => rDone_any b s vL vR W (h.below hW) ok.steps ok.armed
  have HSM := Lib.hid (fun (e : Ending) (w' : World) (k : Nat) (he : e = .returned (.int .i64 (k : Nat))) (hb : Below w.heap.size w w') => to_same (vL := vL) (vR := vR) h he hb)
  unfold syncS
  by_cases h1 : there s p = 0
  · obtain ⟨k, x, hk, hx, hf, hpl, hxx⟩ := there_file h1
    clear hxx
    have ho : old s.L p = x := by rw [old, hf]; rfl
    have hn := ok.fit.1
    rw [h1] at c1 ⊢
    rw [if_neg (by decide), ho]
    have HL := done_L s
    have HD := done_code s
    have hst : (done s).2.stamps ≤ 1000000000000 := by rw [done_stamps]; exact ok.stamps
    have c2 := fun W (hW : At W b (done s).2 vL vR) => rPlace_any b (done s).2 vL vR p W hW (by rw [HL]; omega)
    have c5 := fun W (hW : At W b (done s).2 vL vR) => rPut_any b (done s).2 vL vR { x with kept := x.data, loose := false, anew := false } W hW (by rw [HL]; exact hn)
    rw [HL, hpl] at c2
    obtain ⟨A, c, rfl, _, _, _⟩ := h.rowL.form
    obtain ⟨gA, hgA, _⟩ := (h.seen (Below.refl _ _)).it k x hx
    subst hgA
    have hsh : Shows b (done s).2 gA s.L.length c k vR x := by rw [← HL] at hx ⊢; exact shows hx
    obtain ⟨DE, DS⟩ : ∃ DE, DE = done s := ⟨_, rfl⟩
    rw [← DS] at c4 c2 c5 HD HL hsh ⊢
    obtain ⟨dE, dS⟩ := DE
    simp only at c4 c2 c5 HD HL hsh ⊢
    obtain ⟨XP, XD, XX, XK, XLO, XA, XS⟩ := x
    unfold iv at c5
    simp only at c5
    obtain ⟨n, hnn⟩ : ∃ n, n = s.L.length := ⟨_, rfl⟩
    rw [← hnn] at c4 c2 c5 hsh HSM hk hn ⊢
    have HSH := Lib.hid hsh
    clear h1 hx hf hpl ho DS hsh hst hnn
    clear h ok
    rcases HD with rfl | rfl
    · rw [if_neg (by decide)]
      go_enter Tryz.func88, Tryz.ntmps88
      go_wp2_with fail
      go_at_call 119
      refine c1.mono ?_
      rintro e w1 ⟨rfl, hb1⟩
      go_wp2_with fail
      go_at_call 79
      refine (c4 _ hb1).mono ?_
      rintro e w3 ⟨rfl, hat3, hc3⟩
      go_wp2_with fail
      refine Rg.wp_only ?_ (getSync _ (by kernel_rfl) _ b dS gA n c k vR p XP XX XK XD XLO XA XS _ hat3 HSH.out hk (by omega) c2)
      rintro _ w9 ⟨rfl, rfl⟩
      have hB9 : ∀ o, Below w3.heap.size w3 (w3.alloc o).drew := fun o => ((Below.refl _ _).alloc (Nat.le_refl _) _).drew
      go_wp2_with (go_at_call 56; refine (c5 _ (hat3.below (hB9 _))).mono ?_; rintro e w4 ⟨⟨v4, rfl⟩, vL4, hat4, hn4, hc4⟩)
      go_ret
      exact to_put hb1 (hc3.then (Chg.of_below (hB9 _))) rfl hat4 hn4 hc4
    · rw [if_pos (by decide)]
      go_enter Tryz.func88, Tryz.ntmps88
      go_wp2_with fail
      go_at_call 119
      refine c1.mono ?_
      rintro e w1 ⟨rfl, hb1⟩
      go_wp2_with (go_at_call 79; refine (c4 _ hb1).mono ?_; rintro e w3 ⟨rfl, hat3, hc3⟩)
      go_ret
      exact to_done hb1 hc3 rfl hat3
  · rw [if_pos h1]
    obtain ⟨E, hE⟩ : ∃ E, E = there s p := ⟨_, rfl⟩
    rw [← hE] at c1 h1 ⊢
    have e1 : ((E : Int) == 0) = false := beq_eq_false_iff_ne.2 (by omega)
    clear hE c4 h ok
    go_enter Tryz.func88, Tryz.ntmps88
    go_wp2_with (go_at_call 119; refine c1.mono ?_; rintro e w1 ⟨rfl, hb1⟩)
    go_ret
    exact HSM.out _ _ _ rfl hb1
set_option maxRecDepth 100000 in
set_option maxHeartbeats 2000000 in
theorem rAppend_any (b : Nat) (s : St) (vL vR : Value) (p d : ByteArray) (w : World) (h : At w b s vL vR) (ok : Ok s) (hp : p.size ≤ 8000000000000) (hd : ∀ x ∈ s.L, x.data.size + d.size ≤ 100000000000000) (hd2 : d.size ≤ 100000000000000) :
    Calls Tryz.prog 87 #[.pointer (some ⟨b, 0, none⟩), .string p, .string d] w (To w b vL vR (appendS s p d)) := by
  have c1 := rThere_any b s vL vR p w h ok.fit hp
  have c4 := fun W (hW : Below w.heap.size w W) => rDone_any b s vL vR W (h.below hW) ok.steps ok.armed
  have c3 := fun W (hW : Below w.heap.size w W) => rFits_any b s vL vR p d.size W (h.below hW) ok.fit ok.rooms hp (by omega)
  have HSM := Lib.hid (fun (e : Ending) (w' : World) (k : Nat) (he : e = .returned (.int .i64 (k : Nat))) (hb : Below w.heap.size w w') => to_same (vL := vL) (vR := vR) h he hb)
  unfold appendS
  by_cases h1 : there s p = 0
  · obtain ⟨Fi, hFi⟩ : ∃ Fi, Fi = fits s p d.size := ⟨_, rfl⟩
    rw [← hFi] at c3 ⊢
    clear hFi
    obtain ⟨k, x, hk, hx, hf, hpl, hxx⟩ := there_file h1
    clear hxx
    have ho : old s.L p = x := by rw [old, hf]; rfl
    have hn := ok.fit.1
    have hxd := hd x (List.mem_of_getElem? hx)
    rw [h1] at c1 ⊢
    rw [if_neg (by decide), ho]
    have HL := done_L s
    have HD := done_code s
    have hst : (done s).2.stamps ≤ 1000000000000 := by rw [done_stamps]; exact ok.stamps
    have c2 := fun W (hW : At W b (done s).2 vL vR) => rPlace_any b (done s).2 vL vR p W hW (by rw [HL]; omega)
    have c6 := fun W (hW : At W b (done s).2 vL vR) => rStamped_any b (done s).2 vL vR { x with data := x.data ++ d, loose := true } W hW hst
    have c5 := fun W (hW : At W b { (done s).2 with stamps := (done s).2.stamps + 1 } vL vR) => rPut_any b { (done s).2 with stamps := (done s).2.stamps + 1 } vL vR (stamped (done s).2 { x with data := x.data ++ d, loose := true }) W hW (by show (done s).2.L.length ≤ _; rw [HL]; exact hn)
    rw [HL, hpl] at c2
    obtain ⟨A, c, rfl, _, _, _⟩ := h.rowL.form
    obtain ⟨gA, hgA, _⟩ := (h.seen (Below.refl _ _)).it k x hx
    subst hgA
    have hsh : Shows b (done s).2 gA s.L.length c k vR x := by rw [← HL] at hx ⊢; exact shows hx
    obtain ⟨DE, DS⟩ : ∃ DE, DE = done s := ⟨_, rfl⟩
    rw [← DS] at c4 c2 c5 HD HL hsh c6 ⊢
    obtain ⟨dE, dS⟩ := DE
    simp only at c4 c2 c5 HD HL hsh c6 ⊢
    unfold putS
    obtain ⟨XP, XD, XX, XK, XLO, XA, XS⟩ := x
    unfold stamped iv at c5 c6
    simp only at c5 c6 hxd
    unfold stamped
    simp only
    obtain ⟨n, hnn⟩ : ∃ n, n = s.L.length := ⟨_, rfl⟩
    rw [← hnn] at c4 c2 c5 hsh HSM hk hn c6 ⊢
    have HSH := Lib.hid hsh
    clear h1 hx hf hpl ho DS hsh hst hnn
    clear h ok hd
    cases Fi with
    | false =>
      rw [if_pos rfl]
      go_enter Tryz.func87, Tryz.ntmps87
      go_wp2_with (first | (go_at_call 119; refine c1.mono ?_; rintro e w1 ⟨rfl, hb1⟩) | (go_at_call 120; refine (c3 _ hb1).mono ?_; rintro e w2 ⟨rfl, hb2⟩))
      go_ret
      exact HSM.out _ _ _ rfl (below_call hb1 hb2)
    | true =>
      rw [if_neg (by decide)]
      rcases HD with rfl | rfl
      · rw [if_neg (by decide)]
        go_enter Tryz.func87, Tryz.ntmps87
        go_wp2_with (first | (go_at_call 119; refine c1.mono ?_; rintro e w1 ⟨rfl, hb1⟩) | (go_at_call 120; refine (c3 _ hb1).mono ?_; rintro e w2 ⟨rfl, hb2⟩) | (go_at_call 79; refine (c4 _ (below_call hb1 hb2)).mono ?_; rintro e w3 ⟨rfl, hat3, hc3⟩))
        refine Rg.wp_only ?_ (getAppend _ (by kernel_rfl) _ b dS gA n c k vR p XP XX XK XD XLO XA XS _ hat3 HSH.out hk (by omega) c2)
        rintro _ w9 ⟨rfl, rfl⟩
        have hB9 : ∀ o, Below w3.heap.size w3 (w3.alloc o).drew := fun o => ((Below.refl _ _).alloc (Nat.le_refl _) _).drew
        go_wp2_with fail
        go_at_call 57
        refine (c6 _ (hat3.below (hB9 _))).mono ?_
        rintro e w5 ⟨rfl, hat5, hc5⟩
        go_wp2_with (go_at_call 56; refine (c5 _ hat5).mono ?_; rintro e w4 ⟨⟨v4, rfl⟩, vL4, hat4, hn4, hc4⟩)
        go_ret
        exact to_put (below_call hb1 hb2) ((hc3.then (Chg.of_below (hB9 _))).then hc5) rfl hat4 hn4 hc4
      · rw [if_pos (by decide)]
        go_enter Tryz.func87, Tryz.ntmps87
        go_wp2_with (first | (go_at_call 119; refine c1.mono ?_; rintro e w1 ⟨rfl, hb1⟩) | (go_at_call 120; refine (c3 _ hb1).mono ?_; rintro e w2 ⟨rfl, hb2⟩) | (go_at_call 79; refine (c4 _ (below_call hb1 hb2)).mono ?_; rintro e w3 ⟨rfl, hat3, hc3⟩))
        go_ret
        exact to_done (below_call hb1 hb2) hc3 rfl hat3
  · rw [if_pos h1]
    obtain ⟨E, hE⟩ : ∃ E, E = there s p := ⟨_, rfl⟩
    rw [← hE] at c1 h1 ⊢
    have e1 : ((E : Int) == 0) = false := beq_eq_false_iff_ne.2 (by omega)
    clear hE c4 c3 h ok hd
    go_enter Tryz.func87, Tryz.ntmps87
    go_wp2_with (go_at_call 119; refine c1.mono ?_; rintro e w1 ⟨rfl, hb1⟩)
    go_ret
    exact HSM.out _ _ _ rfl hb1
end Go.Proofs.YtjdfffkkpbabpaaGreat.Dk

namespace Go.Proofs.YtjdfffkkpbabpaaGreat.Dk
open Go.RowKit Tx Pm
set_option linter.unusedVariables false
end Go.Proofs.YtjdfffkkpbabpaaGreat.Dk

namespace Go.Proofs.YtjdfffkkpbabpaaGreat.Dk
open Go.RowKit Tx Pm
set_option linter.unusedVariables false
def writeS (s : St) (p d : ByteArray) : Nat × St :=
  if first s p 1 ≠ 0 then (first s p 1, s) else if home s.L p = false then (11, s) else if kind s.L p = 1 then (12, s) else
  if fits s p ((d.size : Int) - ((old s.L p).data.size : Int)) = false then (13, s) else if (done s).1 ≠ 0 then done s else
  (0, putS (done s).2 { old s.L p with data := d, loose := true, anew := true })
theorem le_whole {l : List It} {x : It} (h : x ∈ l) : x.data.size ≤ whole l := by
  induction l with
  | nil => cases h
  | cons y l ih =>
    unfold whole at ih ⊢
    rw [List.map_cons, List.sum_cons]
    rcases List.mem_cons.1 h with rfl | h
    · omega
    · have := ih h
      omega
theorem to_put2 {w w1 w2 : World} {b : Nat} {s : St} {vL vR vL' : Value} {k : Nat} {e : Ending} (hc : Chg (fun i => i = b ∨ w.heap.size ≤ i) w w1) (he : e = .returned (.int .i64 (k : Nat)))
    (hat : At w2 b s vL' vR) (hnew : ∀ g, vL'.ownBlock = some g → w1.heap.size ≤ g) (hc2 : Chg (· = b) w1 w2) : To w b vL vR (k, s) e w2 := by
  have hs1 := hc.size
  refine ⟨he, vL', vR, hat, ?_, ?_⟩
  · have h2 := hc.trans (G := (· = b)) hc2 (fun i hi => .inl (.inl hi))
    exact ⟨h2.os, h2.tape, h2.output, h2.size, fun i hi hn => h2.block i hi (fun h => by rcases h with h | h; exact hn (.inl h); omega)⟩
  · rintro g (rfl | hg | hg)
    · exact .inl (.inl rfl)
    · have := hnew g hg
      exact .inr (by omega)
    · exact .inl (.inr (.inr hg))
theorem Box.chg {w w1 : World} {F : Nat → Prop} {bx : Nat} {x : It} (h : Box w bx x) (hc : Chg F w w1) (hn : ¬ F bx) : Box w1 bx x := ⟨(hc.block bx (Array.getElem?_eq_some_iff.1 h.blk).1 hn).trans h.blk⟩
theorem At.set {w : World} {b bx k : Nat} {s : St} {vL vR : Value} (h : At w b s vL vR) (hf : ¬ Foot b vL vR bx) (u : Value) : At (w.setCell ⟨bx, k, none⟩ u) b s vL vR :=
  h.kept (fun i hi => set_other u (fun e => hf (e ▸ hi)))
theorem write_chg {w w5 w6 : World} {b bx : Nat} {u1 u2 u3 : Value} (hb : Below w.heap.size w w5) (hc : Chg (· = b) w5 w6) (hge : w.heap.size ≤ bx) :
    Chg (fun i => i = b ∨ w.heap.size ≤ i) w (((w6.setCell ⟨bx, 2, none⟩ u1).setCell ⟨bx, 4, none⟩ u2).setCell ⟨bx, 5, none⟩ u3) := by
  have h1 := (Chg.of_below (F := fun i => i = b ∨ w.heap.size ≤ i) hb).trans (G := (· = b)) hc (fun i hi => .inl (.inl hi))
  have hs : ∀ (W : World) (k : Nat) (u : Value), Chg (fun i => i = b ∨ w.heap.size ≤ i) W (W.setCell ⟨bx, k, none⟩ u) := fun W k u => (chg_set u).mono (fun i hi => .inr (by rw [hi]; exact hge))
  exact ((h1.then (hs _ _ _)).then (hs _ _ _)).then (hs _ _ _)
set_option maxRecDepth 100000 in
set_option maxHeartbeats 2000000 in
theorem rWrite_any (b : Nat) (s : St) (vL vR : Value) (p d : ByteArray) (w : World) (h : At w b s vL vR) (ok : Ok s) (hp : p.size ≤ 8000000000000) (hd : d.size ≤ 1000000000000000000) :
    Calls Tryz.prog 94 #[.pointer (some ⟨b, 0, none⟩), .string p, .string d] w (To w b vL vR (writeS s p d)) := by
  have c1 := rFirst_any b s vL vR p 1 w h hp (by omega)
  have c2 := fun W (hW : Below w.heap.size w W) => rHome_any b s vL vR p W (h.below hW) ok.fit hp
  have c3 := fun W (hW : Below w.heap.size w W) => rKind_any b s vL vR p W (h.below hW) (by have := ok.fit.1; omega)
  have c4 := fun W (hW : Below w.heap.size w W) => rDone_any b s vL vR W (h.below hW) ok.steps ok.armed
  have HSM := Lib.hid (fun (e : Ending) (w' : World) (k : Nat) (he : e = .returned (.int .i64 (k : Nat))) (hb : Below w.heap.size w w') => to_same (vL := vL) (vR := vR) h he hb)
  have HD := done_code s
  have HL := done_L s
  have hn := ok.fit.1
  have hst : (done s).2.stamps ≤ 1000000000000 := by rw [done_stamps]; exact ok.stamps
  have hXd : (old s.L p).data.size ≤ 4000000000000000000 := by
    unfold old
    rcases find_cases s.L p with ⟨hf, _⟩ | ⟨k, x, hk, hx, hf, _⟩
    · rw [hf]; exact Nat.zero_le _
    · rw [hf]
      exact Nat.le_trans (le_whole (List.mem_of_getElem? hx)) ok.fit.2.2
  have c7 := fun W (hW : Below w.heap.size w W) => rFits_any b s vL vR p ((d.size : Int) - ((old s.L p).data.size : Int)) W (h.below hW) ok.fit ok.rooms hp (by omega)
  have c6 := fun W (hW : At W b (done s).2 vL vR) => rStamped_any b (done s).2 vL vR { old s.L p with data := d, loose := true, anew := true } W hW hst
  have c5 := fun W (hW : At W b { (done s).2 with stamps := (done s).2.stamps + 1 } vL vR) => rPut_any b { (done s).2 with stamps := (done s).2.stamps + 1 } vL vR (stamped (done s).2 { old s.L p with data := d, loose := true, anew := true }) W hW (by show (done s).2.L.length ≤ _; rw [HL]; exact hn)
  have hfoot := h.lt
  have HF := Lib.hid hfoot
  unfold writeS
  obtain ⟨E, hE⟩ : ∃ E, E = first s p 1 := ⟨_, rfl⟩
  obtain ⟨H, hH⟩ : ∃ H, H = home s.L p := ⟨_, rfl⟩
  obtain ⟨Fi, hFi⟩ : ∃ Fi, Fi = fits s p ((d.size : Int) - ((old s.L p).data.size : Int)) := ⟨_, rfl⟩
  rw [← hE] at c1 ⊢
  rw [← hH] at c2 ⊢
  rw [← hFi] at c7 ⊢
  obtain ⟨DE, DS⟩ : ∃ DE, DE = done s := ⟨_, rfl⟩
  rw [← DS] at c4 c5 c6 HD HL ⊢
  obtain ⟨dE, dS⟩ := DE
  simp only at c4 c5 c6 HD HL ⊢
  unfold putS
  unfold iv stamped at c5 c6
  unfold stamped
  simp only at c5 c6 ⊢
  clear hE hH hFi DS hfoot hst
  by_cases h1 : E = 0
  rotate_left
  · have e1 : ((E : Int) == 0) = false := beq_eq_false_iff_ne.2 (by omega)
    rw [if_pos h1]
    go_enter Tryz.func94, Tryz.ntmps94
    go_wp2_with (go_at_call 77; refine c1.mono ?_; rintro e w1 ⟨rfl, hb1⟩)
    go_ret
    exact HSM.out _ _ _ rfl hb1
  subst h1
  rw [if_neg (by decide)]
  cases H with
  | false =>
    rw [if_pos rfl]
    go_enter Tryz.func94, Tryz.ntmps94
    go_wp2_with (first | (go_at_call 77; refine c1.mono ?_; rintro e w1 ⟨rfl, hb1⟩) | (go_at_call 78; refine (c2 _ hb1).mono ?_; rintro e w2 ⟨rfl, rfl⟩))
    go_ret
    exact HSM.out _ _ _ rfl hb1
  | true =>
    rw [if_neg (by decide)]
    rcases find_cases s.L p with ⟨hf, _⟩ | ⟨k, x, hk, hx, hf, hpl, hxp⟩
    · have ho : old s.L p = mk p := by rw [old, hf]; rfl
      rw [kind, hf] at c3
      rw [kind, hf, ho, if_neg (by decide)]
      rw [ho] at c5 c6 c7
      unfold mk at c5 c6 c7 ⊢
      simp only at c5 c6 c7 ⊢
      rw [show kindOf none = 0 from rfl] at c3
      rename_i hun
      clear hf ho hun ok h HL hXd
      obtain ⟨r, hr⟩ : ∃ r, r = (if Fi = false then ((13 : Nat), s) else if dE ≠ 0 then (dE, dS) else (0, ({ L := ins dS.L ⟨p, false, d, ⟨#[]⟩, true, true, dS.stamps + 1⟩, rooms := dS.rooms, steps := dS.steps, stamps := dS.stamps + 1, armed := dS.armed, down := dS.down } : St))) := ⟨_, rfl⟩
      rw [← hr]
      have HR := Lib.hid hr
      clear hr
      go_enter Tryz.func94, Tryz.ntmps94
      go_wp2_with fail
      go_at_call 77
      refine c1.mono ?_
      rintro e w1 ⟨rfl, hb1⟩
      go_wp2_with (first | (go_at_call 78; refine (c2 _ hb1).mono ?_; rintro e w2 ⟨rfl, rfl⟩) | (go_at_call 30; refine (c3 _ (by first | exact hb1 | exact hb1.trans (((Below.refl _ _).alloc (Nat.le_refl _) _).mono hb1.size))).mono ?_; rintro e w2 ⟨rfl, rfl⟩))
      have hB : Below w.heap.size w (w1.alloc (.cells #[.string p, .bool false, .string ⟨#[]⟩, .string ⟨#[]⟩, .bool false, .bool false, .int .i64 0] 107)) := (hb1.trans (((Below.refl _ _).alloc (Nat.le_refl _) _).mono hb1.size))
      have hbox : Box (w1.alloc (.cells #[.string p, .bool false, .string ⟨#[]⟩, .string ⟨#[]⟩, .bool false, .bool false, .int .i64 0] 107)) w1.heap.size ⟨p, false, ⟨#[]⟩, ⟨#[]⟩, false, false, 0⟩ := ⟨heap_alloc_new _ _⟩
      obtain ⟨wB, hwB⟩ : ∃ wB, wB = (w1.alloc (.cells #[.string p, .bool false, .string ⟨#[]⟩, .string ⟨#[]⟩, .bool false, .bool false, .int .i64 0] 107)) := ⟨_, rfl⟩
      have hszB : w1.heap.size < wB.heap.size := by rw [hwB]; simp
      rw [← hwB] at hB hbox
      rw [← hwB]
      clear hwB
      obtain ⟨bx, hbx⟩ : ∃ bx, bx = w1.heap.size := ⟨_, rfl⟩
      have hnf : ¬ Foot b vL vR bx := fun hh => by have := HF.out _ hh; have := hb1.size; omega
      have hge : w.heap.size ≤ bx := by have := hb1.size; omega
      rw [← hbx] at hbox hszB
      rw [← hbx]
      have HNF := Lib.hid hnf
      have HGE := Lib.hid hge
      have HBX := Lib.hid hbox
      clear hnf hge hbx hb1
      obtain ⟨q0, q1, q2, q3, q4, q5, q6⟩ := hbox.cell
      simp only at q0 q1 q2 q3 q4 q5 q6
      clear hbox
      go_wp2_with fail
      go_at_call 120
      refine (c7 _ hB).mono ?_
      rintro e w5 ⟨rfl, hb5⟩
      have HBX5 := Lib.hid (HBX.out.below hb5)
      clear q0 q1 q2 q3 q4 q5 q6
      cases Fi with
      | false =>
        go_wp2_with fail
        go_ret
        rw [HR.out, if_pos (by first | rfl | trivial)]
        exact HSM.out _ _ _ rfl (below_call hB hb5)
      | true =>
        rcases HD with rfl | rfl
        · have HRR := Lib.hid (HR.out.trans ((if_neg (by decide)).trans (if_neg (by decide))))
          have hB5 := below_call hB hb5
          go_wp2_with fail
          go_at_call 79
          refine (c4 _ hB5).mono ?_
          rintro e w6 ⟨rfl, hat6, hc6⟩
          have hbne : bx ≠ b := fun hh => HNF.out (.inl hh)
          have hbox6 := HBX5.out.chg hc6 (fun hh => hbne hh)
          obtain ⟨q0, q1, q2, q3, q4, q5, q6⟩ := hbox6.cell
          simp only at q0 q1 q2 q3 q4 q5 q6
          have hwarm := hbox6.warm
          have HB5 := Lib.hid hB5
          have HC6 := Lib.hid hc6
          clear hbox6 hbne hc6 hB hb5 hB5
          go_wp2_with (go_at_call 57; refine (c6 _ (((hat6.set HNF.out _).set HNF.out _).set HNF.out _)).mono ?_; rintro e w7 ⟨rfl, hat7, hc7⟩)
          go_at_call 56
          refine (c5 _ hat7).mono ?_
          rintro e w8 ⟨⟨v8, rfl⟩, vL8, hat8, hn8, hc8⟩
          go_wp2_with fail
          go_ret
          rw [HRR.out]
          refine to_put2 (w1 := w7) ?_ rfl hat8 hn8 hc8
          refine (write_chg HB5.out HC6.out HGE.out).trans (G := (· = b)) hc7 (fun i hi => .inl (.inl hi))
        · have HRR := Lib.hid (HR.out.trans ((if_neg (by decide)).trans (if_pos (by decide))))
          go_wp2_with (go_at_call 79; refine (c4 _ (below_call hB hb5)).mono ?_; rintro e w6 ⟨rfl, hat6, hc6⟩)
          go_ret
          rw [HRR.out]
          exact to_done (below_call hB hb5) hc6 rfl hat6
    · have ho : old s.L p = x := by rw [old, hf]; rfl
      rw [kind, hf, kindOf] at c3
      rw [kind, hf, kindOf, ho]
      rw [ho] at c5 c6 c7 hXd
      obtain ⟨A, c, rfl, _, _, _⟩ := h.rowL.form
      obtain ⟨gA, hgA, _⟩ := (h.seen (Below.refl _ _)).it k x hx
      subst hgA
      have hsh : Shows b s gA s.L.length c k vR x := shows hx
      have c8 := fun W (hW : At W b s (.slice (some ⟨gA, 0, none⟩) s.L.length c) vR) => rPlace_any b s (.slice (some ⟨gA, 0, none⟩) s.L.length c) vR p W hW (by omega)
      rw [hpl] at c8
      obtain ⟨XP, XD, XX, XK, XLO, XA, XS⟩ := x
      simp only at hxp
      subst hxp
      simp only at c3 c5 c6 c7 hXd ⊢
      have HSH := Lib.hid hsh
      have HH := Lib.hid h
      have HK := Lib.hid hk
      have HNN := Lib.hid hn
      clear hf ho hpl hx ok h HL hsh hk hn
      cases XD with
      | true =>
        rw [if_pos rfl] at c3
        rw [if_pos rfl, if_pos rfl]
        go_enter Tryz.func94, Tryz.ntmps94
        go_wp2_with (first | (go_at_call 77; refine c1.mono ?_; rintro e w1 ⟨rfl, hb1⟩) | (go_at_call 78; refine (c2 _ hb1).mono ?_; rintro e w2 ⟨rfl, rfl⟩) | (go_at_call 30; refine (c3 _ hb1).mono ?_; rintro e w2 ⟨rfl, rfl⟩))
        go_ret
        exact HSM.out _ _ _ rfl hb1
      | false =>
        rw [if_neg (by decide)] at c3
        rw [show (if (false : Bool) = true then (1 : Nat) else 2) = 2 from rfl, if_neg (by decide : ¬ (2 : Nat) = 1)]
        obtain ⟨r, hr⟩ : ∃ r, r = (if Fi = false then ((13 : Nat), s) else if dE ≠ 0 then (dE, dS) else (0, ({ L := ins dS.L ⟨XP, false, d, XK, true, true, dS.stamps + 1⟩, rooms := dS.rooms, steps := dS.steps, stamps := dS.stamps + 1, armed := dS.armed, down := dS.down } : St))) := ⟨_, rfl⟩
        rw [← hr]
        have HR := Lib.hid hr
        clear hr
        go_enter Tryz.func94, Tryz.ntmps94
        go_wp2_with fail
        go_at_call 77
        refine c1.mono ?_
        rintro e w1 ⟨rfl, hb1⟩
        go_wp2_with (first | (go_at_call 78; refine (c2 _ hb1).mono ?_; rintro e w2 ⟨rfl, rfl⟩) | (go_at_call 30; refine (c3 _ (by first | exact hb1 | exact hb1.trans (((Below.refl _ _).alloc (Nat.le_refl _) _).mono hb1.size))).mono ?_; rintro e w2 ⟨rfl, rfl⟩))
        refine Rg.wp_only ?_ (getWrite _ (by kernel_rfl) _ b s gA s.L.length c k vR XP XP XX XK false XLO XA XS _ _ _ _ _ _ _ w1 (HH.out.below hb1) HSH.out HK.out (by have := HNN.out; omega) c8)
        rintro _ w9 ⟨rfl, rfl⟩
        have hB : Below w.heap.size w (w1.alloc (.cells #[.string XP, .bool false, .string XX, .string XK, .bool XLO, .bool XA, .int .i64 XS] 107)).drew := (hb1.trans (((Below.refl _ _).alloc (Nat.le_refl _) _).mono hb1.size)).drew
        have hbox : Box (w1.alloc (.cells #[.string XP, .bool false, .string XX, .string XK, .bool XLO, .bool XA, .int .i64 XS] 107)).drew w1.heap.size ⟨XP, false, XX, XK, XLO, XA, XS⟩ := ⟨heap_alloc_new _ _⟩
        obtain ⟨wB, hwB⟩ : ∃ wB, wB = (w1.alloc (.cells #[.string XP, .bool false, .string XX, .string XK, .bool XLO, .bool XA, .int .i64 XS] 107)).drew := ⟨_, rfl⟩
        have hszB : w1.heap.size < wB.heap.size := by rw [hwB]; simp
        rw [← hwB] at hB hbox
        rw [← hwB]
        clear hwB
        obtain ⟨bx, hbx⟩ : ∃ bx, bx = w1.heap.size := ⟨_, rfl⟩
        have hnf : ¬ Foot b (.slice (some ⟨gA, 0, none⟩) s.L.length c) vR bx := fun hh => by have := HF.out _ hh; have := hb1.size; omega
        have hge : w.heap.size ≤ bx := by have := hb1.size; omega
        rw [← hbx] at hbox hszB
        rw [← hbx]
        have HNF := Lib.hid hnf
        have HGE := Lib.hid hge
        have HBX := Lib.hid hbox
        clear hnf hge hbx hb1
        obtain ⟨q0, q1, q2, q3, q4, q5, q6⟩ := hbox.cell
        simp only at q0 q1 q2 q3 q4 q5 q6
        clear hbox
        go_wp2_with fail
        go_at_call 120
        refine (c7 _ hB).mono ?_
        rintro e w5 ⟨rfl, hb5⟩
        have HBX5 := Lib.hid (HBX.out.below hb5)
        clear q0 q1 q2 q3 q4 q5 q6
        cases Fi with
        | false =>
          go_wp2_with fail
          go_ret
          rw [HR.out, if_pos (by first | rfl | trivial)]
          exact HSM.out _ _ _ rfl (below_call hB hb5)
        | true =>
          rcases HD with rfl | rfl
          · have HRR := Lib.hid (HR.out.trans ((if_neg (by decide)).trans (if_neg (by decide))))
            have hB5 := below_call hB hb5
            go_wp2_with fail
            go_at_call 79
            refine (c4 _ hB5).mono ?_
            rintro e w6 ⟨rfl, hat6, hc6⟩
            have hbne : bx ≠ b := fun hh => HNF.out (.inl hh)
            have hbox6 := HBX5.out.chg hc6 (fun hh => hbne hh)
            obtain ⟨q0, q1, q2, q3, q4, q5, q6⟩ := hbox6.cell
            simp only at q0 q1 q2 q3 q4 q5 q6
            have hwarm := hbox6.warm
            have HB5 := Lib.hid hB5
            have HC6 := Lib.hid hc6
            clear hbox6 hbne hc6 hB hb5 hB5
            go_wp2_with (go_at_call 57; refine (c6 _ (((hat6.set HNF.out _).set HNF.out _).set HNF.out _)).mono ?_; rintro e w7 ⟨rfl, hat7, hc7⟩)
            go_at_call 56
            refine (c5 _ hat7).mono ?_
            rintro e w8 ⟨⟨v8, rfl⟩, vL8, hat8, hn8, hc8⟩
            go_wp2_with fail
            go_ret
            rw [HRR.out]
            refine to_put2 (w1 := w7) ?_ rfl hat8 hn8 hc8
            refine (write_chg HB5.out HC6.out HGE.out).trans (G := (· = b)) hc7 (fun i hi => .inl (.inl hi))
          · have HRR := Lib.hid (HR.out.trans ((if_neg (by decide)).trans (if_pos (by decide))))
            go_wp2_with (go_at_call 79; refine (c4 _ (below_call hB hb5)).mono ?_; rintro e w6 ⟨rfl, hat6, hc6⟩)
            go_ret
            rw [HRR.out]
            exact to_done (below_call hB hb5) hc6 rfl hat6
end Go.Proofs.YtjdfffkkpbabpaaGreat.Dk

namespace Go.Proofs.YtjdfffkkpbabpaaGreat.Ap
open Go.RowKit Tx
set_option linter.unusedVariables false
section
variable {P : Program}
theorem append_two (w : World) (base : Nat) (t ty e : TypeId) (i : TypeInfo) (z : Value) (size bytes : Nat) (ht : P.underlying t = some (.slice e)) (hi : P.info? e = some i) (hz : i.zero = some z)
    (hsize : i.size = size) (hby : i.bytes = bytes) (hzs : z.cells.size = size) (hsp : 0 < size) (hs16 : size ≤ 16)
    (v : Value) (n : Nat) (xs : List Value) (hown : w.ownsRow base e size v n xs)
    (a : Addr) (c : Nat) (us : List Value) (hul : us.length = size) (hnews : ∀ j x, us[j]? = some x → w.cell? (a.add j) = some x) (hone : ∀ x ∈ us, x.oneCell' = true)
    (hn : n + 1 ≤ 57646075230342348) (hbytes : (n + 1) * bytes ≤ 140737488355328) (hbase : base ≤ w.heap.size) :
    ∃ v' w', (Builtin.append_ #[t, t] ty #[v, .slice (some a) 1 c]).run P w = .ok v' w' ∧ w'.ownsRow base e size v' (n + 1) (xs ++ us) ∧
      ((v'.ownBlock = v.ownBlock ∧ w.grownBy w' v.ownBlock) ∨ (v'.ownBlock = some w.heap.size ∧ w.grownBy w' none)) := by
  have hlen : (xs ++ us).length = (n + 1) * size := by rw [List.length_append, hown.1, hul, Nat.add_mul, Nat.one_mul]
  have made : ∀ old, old < n + 1 → (w.drew.alloc (.cells (xs.toArray ++ us.toArray ++ Builtin.zeroCells z.cells (grownCap w (n + 1) old e - (n + 1))) e)).ownsRow base e size (.slice (some ⟨w.heap.size, 0, none⟩) (n + 1) (grownCap w (n + 1) old e)) (n + 1) (xs ++ us) ∧
      w.grownBy (w.drew.alloc (.cells (xs.toArray ++ us.toArray ++ Builtin.zeroCells z.cells (grownCap w (n + 1) old e - (n + 1))) e)) none := by
    intro old _
    have hge := grownCap_ge w (n + 1) old e
    have hcm := grownCap_le_maxLen w (n + 1) old e (by unfold maxLen; omega)
    refine ⟨⟨hlen, .inr ⟨w.heap.size, _, _, rfl, hbase, heap_alloc_new w.drew _, hge, hcm, ?_, ?_⟩⟩, ⟨rfl, rfl, rfl, by simp, fun k hk _ => Below.heap_alloc w.drew _ k hk⟩⟩
    · have h0 := hown.1
      simp only [Array.size_append, List.size_toArray, size_zeroCells, hzs, hul]
      obtain ⟨d, hd⟩ : ∃ d, grownCap w (n + 1) old e = n + 1 + d := ⟨grownCap w (n + 1) old e - (n + 1), by omega⟩
      rw [hd, h0, show n + 1 + d - (n + 1) = d by omega, Nat.add_mul, Nat.add_mul, Nat.one_mul]
    · simp only [Array.toList_append, List.append_assoc]
      rw [← List.append_assoc]
      exact List.take_left' hlen
  rcases hown.2 with ⟨rfl, rfl⟩ | ⟨g, cap, cur, rfl, hbg, hg, hnc, hcm, hcs, htake⟩
  · have hx : xs = [] := List.eq_nil_of_length_eq_zero (by simpa using hown.1)
    subst hx
    have hr := run_append_nil (P := P) w t ty e i z ht hi hz a 1 c us (by rw [hsize, hul, Nat.one_mul]) hnews (by omega) (by omega) (by rw [hby]; have h2 := hbytes; simp only [Nat.zero_add] at h2; omega)
    have hm := made 0 (by omega)
    simp only [Nat.zero_add, List.nil_append, Array.empty_append] at hm ⊢
    exact ⟨_, _, hr, hm.1, .inr ⟨rfl, hm.2⟩⟩
  · by_cases hroom : n + 1 ≤ cap
    · have hle : (n + 1) * size ≤ cap * size := Nat.mul_le_mul_right _ hroom
      have hfit : n * i.size + us.length ≤ cur.size := by rw [hsize, hcs, hul]; rw [Nat.add_mul, Nat.one_mul] at hle; exact hle
      have hr := run_append_room (P := P) w t ty e i ht hi g n cap cur hg a 1 c us (by rw [hsize, hul, Nat.one_mul]) hnews hone hroom hfit
      refine ⟨_, _, hr, ⟨hlen, .inr ⟨g, cap, _, rfl, hbg, setRow_heap w g cur _ e _ hg, hroom, hcm, ?_, ?_⟩⟩, .inl ⟨rfl, ⟨rfl, rfl, rfl, by simp, fun k _ hk => setRow_other w g k _ (fun e => hk (by simp [Value.ownBlock, e]))⟩⟩⟩
      · simp only [List.size_toArray, List.length_append, List.length_take, List.length_drop, Array.length_toList]
        omega
      · rw [hsize, htake]
        exact List.take_left' hlen
    · have hr := run_append_grow (P := P) w t ty e i z ht hi hz ⟨g, 0, none⟩ n cap xs (by rw [hsize]; exact hown.1) (hown.cells (g := g) rfl) a 1 c us (by rw [hsize, hul, Nat.one_mul]) hnews (by omega) (by omega) (growslice_fits (by omega) (by rw [hby]; exact hbytes))
      have hm := made cap (by omega)
      exact ⟨_, _, hr, hm.1, .inr ⟨rfl, hm.2⟩⟩
end
theorem wpList_append_two {P : Program} (w : World) {ops : Array Oper} {rest : List Oper} {o : Oper} {a : Act} {Q : Exit → Act → World → Prop} (hgd : o.guard = none) (s x : Operand) (t : TypeId)
    (ho : o.op = .call { callee := .builtin .append, args := #[s, x], argTypes := #[t, t] })
    (base : Nat) (e : TypeId) (i : TypeInfo) (z : Value) (size bytes : Nat) (ht : P.underlying t = some (.slice e)) (hi : P.info? e = some i) (hz : i.zero = some z)
    (hsize : i.size = size) (hby : i.bytes = bytes) (hzs : z.cells.size = size) (hsp : 0 < size) (hs16 : size ≤ 16)
    (v : Value) (n : Nat) (xs : List Value) (hs : a.eval s = v) (hown : w.ownsRow base e size v n xs)
    (ad : Addr) (c : Nat) (us : List Value) (hx : a.eval x = .slice (some ad) 1 c) (hul : us.length = size) (hnews : ∀ j x, us[j]? = some x → w.cell? (ad.add j) = some x) (hone : ∀ x ∈ us, x.oneCell' = true)
    (hn : n + 1 ≤ 57646075230342348) (hbytes : (n + 1) * bytes ≤ 140737488355328) (hbase : base ≤ w.heap.size)
    (h : ∀ v' w', w'.ownsRow base e size v' (n + 1) (xs ++ us) → ((v'.ownBlock = v.ownBlock ∧ w.grownBy w' v.ownBlock) ∨ (v'.ownBlock = some w.heap.size ∧ w.grownBy w' none)) → wpList P ops Q rest (a.put o.dst v') w') :
    wpList P ops Q (o :: rest) a w := by
  refine wpList_plain hgd fun K hK => ?_
  obtain ⟨v', w', hr, h2, h3⟩ := append_two (P := P) w base t o.type e i z size bytes ht hi hz hsize hby hzs hsp hs16 v n xs hown ad c us hul hnews hone hn hbytes hbase
  unfold Oper.wp execOp
  simp only [ho, resolve, invoke, builtin, Sem.run_bind, Sem.run_pure, Result.andThen_ok, List.map_toArray, List.map_cons, List.map_nil, hs, hx, hr]
  exact hK _ _ (h v' w' h2 h3)
end Go.Proofs.YtjdfffkkpbabpaaGreat.Ap

namespace Go.Proofs.YtjdfffkkpbabpaaGreat.Dk
open Go.RowKit Tx Pm Ap
set_option linter.unusedVariables false
theorem flat_set : ∀ (l : List Rm) (k : Nat) (r : Rm) (n : Int), l[k]? = some r → (l.flatMap cellsR).set (k * 2 + 1) (.int .i64 n) = (l.set k ⟨r.vol, n⟩).flatMap cellsR
  | [], k, r, n, h => by cases h
  | x :: l, 0, r, n, h => by
    injection h with h
    subst h
    simp [cellsR]
  | x :: l, k + 1, r, n, h => by
    have e : (k + 1) * 2 + 1 = (k * 2 + 1) + 1 + 1 := by omega
    have := flat_set l k r n h
    rw [e, List.set_cons_succ, List.flatMap_cons, List.flatMap_cons, ← this]
    rfl
end Go.Proofs.YtjdfffkkpbabpaaGreat.Dk

namespace Go.Proofs.YtjdfffkkpbabpaaGreat.Dk
open Go.RowKit Tx Pm
set_option linter.unusedVariables false
def moreS (l : List It) (f t : ByteArray) : Int := (if vol f = vol t then (0 : Int) else ((old l f).data.size : Int)) - (if kind l t = 2 then ((old l t).data.size : Int) else 0)
def renameS (s : St) (f t : ByteArray) : Nat × St :=
  if first s f 1 ≠ 0 then (first s f 1, s) else if first s t 1 ≠ 0 then (first s t 1, s) else if kind s.L f = 0 ∨ home s.L t = false then (11, s) else
  if kind s.L f = 1 ∨ kind s.L t = 1 then (12, s) else if f ≠ t ∧ fits s t (moreS s.L f t) = false then (13, s) else if (done s).1 ≠ 0 then done s else
  (0, putS { (done s).2 with L := drop (done s).2.L f } { old s.L f with path := t })
theorem kind_file {l : List It} {p : ByteArray} (h0 : kind l p ≠ 0) (h1 : kind l p ≠ 1) : ∃ (k : Nat) (x : It), k < l.length ∧ l[k]? = some x ∧ find l p = some x ∧ placeI l p = k ∧ x.path = p ∧ x.dir = false := by
  rcases find_cases l p with ⟨hf, _⟩ | ⟨k, x, a, b, c, d, e⟩
  · rw [kind, hf] at h0
    exact absurd rfl h0
  · refine ⟨k, x, a, b, c, d, e, ?_⟩
    rw [kind, c, kindOf] at h1
    cases hd : x.dir with
    | false => rfl
    | true => rw [hd] at h1; exact absurd rfl h1
theorem kind_of_file {l : List It} {p : ByteArray} {x : It} (hf : find l p = some x) (hd : x.dir = false) : kind l p = 2 := by rw [kind, hf, kindOf, hd]; rfl
theorem kind_le (l : List It) (p : ByteArray) : kind l p = 0 ∨ kind l p = 1 ∨ kind l p = 2 := by
  unfold kind kindOf
  split
  · exact .inl rfl
  · split
    · exact .inr (.inl rfl)
    · exact .inr (.inr rfl)
theorem rename_chg {w w6 w7 w8 w9 : World} {b bx : Nat} {u : Value} (hb : Below w.heap.size w w6) (h7 : Chg (· = b) w6 w7) (h8 : Chg (· = b) w7 w8) (hge : w.heap.size ≤ bx) (h9 : Chg (· = b) (w8.setCell ⟨bx, 0, none⟩ u) w9) :
    Chg (fun i => i = b ∨ w.heap.size ≤ i) w w9 := by
  have hm : ∀ {W W' : World}, Chg (· = b) W W' → Chg (fun i => i = b ∨ w.heap.size ≤ i) W W' := fun hh => hh.mono (fun i hi => .inl hi)
  have hs : Chg (fun i => i = b ∨ w.heap.size ≤ i) w8 (w8.setCell ⟨bx, 0, none⟩ u) := (chg_set u).mono (fun i hi => .inr (by rw [hi]; exact hge))
  exact ((((Chg.of_below hb).then (hm h7)).then (hm h8)).then hs).then (hm h9)
set_option maxRecDepth 100000 in
set_option maxHeartbeats 4000000 in
theorem rRename_any (b : Nat) (s : St) (vL vR : Value) (f t : ByteArray) (w : World) (h : At w b s vL vR) (ok : Ok s) (hpf : f.size ≤ 8000000000000) (hpt : t.size ≤ 8000000000000) :
    Calls Tryz.prog 95 #[.pointer (some ⟨b, 0, none⟩), .string f, .string t] w (To w b vL vR (renameS s f t)) := by
  have c1 := fun W (hW : Below w.heap.size w W) => rFirst_any b s vL vR f 1 W (h.below hW) hpf (by omega)
  have c2 := fun W (hW : Below w.heap.size w W) => rFirst_any b s vL vR t 1 W (h.below hW) hpt (by omega)
  have c3 := fun W (hW : Below w.heap.size w W) => rKind_any b s vL vR f W (h.below hW) (by have := ok.fit.1; omega)
  have c4 := fun W (hW : Below w.heap.size w W) => rKind_any b s vL vR t W (h.below hW) (by have := ok.fit.1; omega)
  have c5 := fun W (hW : Below w.heap.size w W) => rHome_any b s vL vR t W (h.below hW) ok.fit hpt
  have HSM := Lib.hid (fun (e : Ending) (w' : World) (k : Nat) (he : e = .returned (.int .i64 (k : Nat))) (hb : Below w.heap.size w w') => to_same (vL := vL) (vR := vR) h he hb)
  obtain ⟨r, hr⟩ : ∃ r, r = renameS s f t := ⟨_, rfl⟩
  rw [← hr]
  unfold renameS at hr
  have hnames : True := trivial
  by_cases h1 : first s f 1 = 0
  rotate_left
  · rw [if_pos h1] at hr
    subst hr
    obtain ⟨E, hE⟩ : ∃ E, E = first s f 1 := ⟨_, rfl⟩
    rw [← hE] at c1 h1 ⊢
    have e1 : ((E : Int) == 0) = false := beq_eq_false_iff_ne.2 (by omega)
    clear hE c2 c3 c4 c5 h ok
    go_enter Tryz.func95, Tryz.ntmps95
    go_wp2_with fail
    go_at_call 77
    refine (c1 _ (Below.refl _ _)).mono ?_
    rintro e w1 ⟨rfl, hb1⟩
    go_wp2_with fail
    go_ret
    exact HSM.out _ _ _ rfl hb1
  rw [if_neg (fun hh => hh h1)] at hr
  rw [h1] at c1
  by_cases h2 : first s t 1 = 0
  rotate_left
  · rw [if_pos h2] at hr
    subst hr
    obtain ⟨E, hE⟩ : ∃ E, E = first s t 1 := ⟨_, rfl⟩
    rw [← hE] at c2 h2 ⊢
    have e1 : ((E : Int) == 0) = false := beq_eq_false_iff_ne.2 (by omega)
    clear hE c3 c4 c5 h ok h1
    go_enter Tryz.func95, Tryz.ntmps95
    go_wp2_with fail
    go_at_call 77
    refine (c1 _ (Below.refl _ _)).mono ?_
    rintro e w1 ⟨rfl, hb1⟩
    go_wp2_with fail
    go_at_call 77
    refine (c2 _ hb1).mono ?_
    rintro e w2 ⟨rfl, hb2'⟩
    have hb2 := below_call hb1 hb2'
    go_wp2_with fail
    go_ret
    exact HSM.out _ _ _ rfl hb2
  rw [if_neg (fun hh => hh h2)] at hr
  rw [h2] at c2
  clear h1 h2
  by_cases h3 : kind s.L f = 0
  · rw [if_pos (.inl h3)] at hr
    subst hr
    rw [h3] at c3
    clear c4 c5 h ok h3
    go_enter Tryz.func95, Tryz.ntmps95
    go_wp2_with fail
    go_at_call 77
    refine (c1 _ (Below.refl _ _)).mono ?_
    rintro e w1 ⟨rfl, hb1⟩
    go_wp2_with fail
    go_at_call 77
    refine (c2 _ hb1).mono ?_
    rintro e w2 ⟨rfl, hb2'⟩
    have hb2 := below_call hb1 hb2'
    go_wp2_with (go_at_call 30; refine (c3 _ hb2).mono ?_; rintro e w3 ⟨rfl, rfl⟩)
    go_ret
    exact HSM.out _ _ _ rfl hb2
  obtain ⟨K, hK⟩ : ∃ K, K = kind s.L f := ⟨_, rfl⟩
  obtain ⟨K2, hK2⟩ : ∃ K2, K2 = kind s.L t := ⟨_, rfl⟩
  rw [← hK] at c3
  rw [← hK2] at c4
  have e3 : ((K : Int) == 0) = false := beq_eq_false_iff_ne.2 (by rw [hK]; omega)
  cases h4 : home s.L t with
  | false =>
    rw [if_pos (.inr h4)] at hr
    subst hr
    rw [h4] at c5
    clear c4 h ok h3 h4 hK hK2
    go_enter Tryz.func95, Tryz.ntmps95
    go_wp2_with fail
    go_at_call 77
    refine (c1 _ (Below.refl _ _)).mono ?_
    rintro e w1 ⟨rfl, hb1⟩
    go_wp2_with fail
    go_at_call 77
    refine (c2 _ hb1).mono ?_
    rintro e w2 ⟨rfl, hb2'⟩
    have hb2 := below_call hb1 hb2'
    go_wp2_with (first | (go_at_call 30; refine (c3 _ hb2).mono ?_; rintro e w3 ⟨rfl, rfl⟩) | (go_at_call 78; refine (c5 _ hb2).mono ?_; rintro e w3 ⟨rfl, rfl⟩))
    go_ret
    exact HSM.out _ _ _ rfl hb2
  | true =>
    rw [if_neg (fun hh => by rcases hh with hh | hh; exact h3 hh; rw [h4] at hh; cases hh)] at hr
    rw [h4] at c5
    by_cases h5 : K = 1
    · rw [← hK, if_pos (.inl h5)] at hr
      subst hr
      subst h5
      clear c4 h ok h3 h4 hK hK2
      go_enter Tryz.func95, Tryz.ntmps95
      go_wp2_with fail
      go_at_call 77
      refine (c1 _ (Below.refl _ _)).mono ?_
      rintro e w1 ⟨rfl, hb1⟩
      go_wp2_with fail
      go_at_call 77
      refine (c2 _ hb1).mono ?_
      rintro e w2 ⟨rfl, hb2'⟩
      have hb2 := below_call hb1 hb2'
      go_wp2_with fail
      go_at_call 30
      refine (c3 _ hb2).mono ?_
      rintro e w3 ⟨rfl, rfl⟩
      go_wp2_with (first | (go_at_call 30; refine (c3 _ hb2).mono ?_; rintro e w3 ⟨rfl, rfl⟩) | (go_at_call 78; refine (c5 _ hb2).mono ?_; rintro e w3 ⟨rfl, rfl⟩))
      go_ret
      exact HSM.out _ _ _ rfl hb2
    have e5 : ((K : Int) == 1) = false := beq_eq_false_iff_ne.2 (by omega)
    by_cases h6 : K2 = 1
    · rw [← hK2, if_pos (.inr h6)] at hr
      subst hr
      subst h6
      clear h ok h3 h4 hK hK2 h5
      go_enter Tryz.func95, Tryz.ntmps95
      go_wp2_with fail
      go_at_call 77
      refine (c1 _ (Below.refl _ _)).mono ?_
      rintro e w1 ⟨rfl, hb1⟩
      go_wp2_with fail
      go_at_call 77
      refine (c2 _ hb1).mono ?_
      rintro e w2 ⟨rfl, hb2'⟩
      have hb2 := below_call hb1 hb2'
      go_wp2_with fail
      go_at_call 30
      refine (c3 _ hb2).mono ?_
      rintro e w3 ⟨rfl, rfl⟩
      go_wp2_with (go_at_call 78; refine (c5 _ hb2).mono ?_; rintro e w3 ⟨rfl, rfl⟩)
      go_at_call 30
      refine (c3 _ hb2).mono ?_
      rintro e w3 ⟨rfl, rfl⟩
      go_wp2_with (go_at_call 30; refine (c4 _ hb2).mono ?_; rintro e w3 ⟨rfl, rfl⟩)
      go_ret
      exact HSM.out _ _ _ rfl hb2
    have e6 : ((K2 : Int) == 1) = false := beq_eq_false_iff_ne.2 (by omega)
    rw [← hK, ← hK2, if_neg (fun hh => by rcases hh with hh | hh; exact h5 hh; exact h6 hh)] at hr
    -- both may be: the item is taken
    obtain ⟨k, x, hk, hx, hf, hpl, hxp, hxd⟩ := kind_file (l := s.L) (p := f) h3 (by rw [← hK]; exact h5)
    have ho : old s.L f = x := by rw [old, hf]; rfl
    have hKf : K = 2 := by rw [hK]; exact kind_of_file hf hxd
    have hn := ok.fit.1
    obtain ⟨A, c, rfl, _, _, _⟩ := h.rowL.form
    obtain ⟨gA, hgA, _⟩ := (h.seen (Below.refl _ _)).it k x hx
    subst hgA
    have hsh : Shows b s gA s.L.length c k vR x := shows hx
    have c8 := fun W (hW : At W b s (.slice (some ⟨gA, 0, none⟩) s.L.length c) vR) => rPlace_any b s (.slice (some ⟨gA, 0, none⟩) s.L.length c) vR f W hW (by omega)
    rw [hpl] at c8
    have hXd : x.data.size ≤ 4000000000000000000 := Nat.le_trans (le_whole (List.mem_of_getElem? hx)) ok.fit.2.2
    have hYd : (if kind s.L t = 2 then ((old s.L t).data.size : Int) else 0) ≤ 4000000000000000000 ∧ 0 ≤ (if kind s.L t = 2 then ((old s.L t).data.size : Int) else 0) := by
      split
      · unfold old
        rcases find_cases s.L t with ⟨hf2, _⟩ | ⟨k2, y, hk2, hy, hf2, _⟩
        · rw [hf2]; exact ⟨by show ((0 : Nat) : Int) ≤ _; omega, Int.natCast_nonneg _⟩
        · rw [hf2]
          have := Nat.le_trans (le_whole (List.mem_of_getElem? hy)) ok.fit.2.2
          exact ⟨by show (y.data.size : Int) ≤ _; omega, Int.natCast_nonneg _⟩
      · exact ⟨by omega, Int.le_refl _⟩
    have hMb : -4000000000000000000 ≤ moreS s.L f t ∧ moreS s.L f t ≤ 4000000000000000000 := by
      unfold moreS
      rw [ho]
      split <;> omega
    have c9 := fun W (hW : Below w.heap.size w W) => rFits_any b s (.slice (some ⟨gA, 0, none⟩) s.L.length c) vR t (moreS s.L f t) W (h.below hW) ok.fit ok.rooms hpt hMb
    have c10 := fun W (hW : Below w.heap.size w W) => rDone_any b s (.slice (some ⟨gA, 0, none⟩) s.L.length c) vR W (h.below hW) ok.steps ok.armed
    have HL := done_L s
    have HD := done_code s
    have hst : (done s).2.stamps ≤ 1000000000000 := by rw [done_stamps]; exact ok.stamps
    have c11 := fun W (hW : At W b (done s).2 (.slice (some ⟨gA, 0, none⟩) s.L.length c) vR) => rDrop_any b (done s).2 (.slice (some ⟨gA, 0, none⟩) s.L.length c) vR f W hW (by rw [HL]; exact hn)
    have c12 := fun v W (hW : At W b { (done s).2 with L := drop (done s).2.L f } v vR) => rStamped_any b { (done s).2 with L := drop (done s).2.L f } v vR { x with path := t } W hW hst
    have c13 := fun v W (hW : At W b { (done s).2 with L := drop (done s).2.L f, stamps := (done s).2.stamps + 1 } v vR) => rPut_any b { (done s).2 with L := drop (done s).2.L f, stamps := (done s).2.stamps + 1 } v vR (stamped { (done s).2 with L := drop (done s).2.L f } { x with path := t }) W hW (by
      show (drop (done s).2.L f).length ≤ _
      rw [HL]
      exact Nat.le_trans (List.length_filter_le _ _) hn)
    have cvf := fun W => rVolume_any f W (by omega)
    have cvt := fun W => rVolume_any t W (by omega)
    have hfoot := h.lt
    have HF := Lib.hid hfoot
    have HH := Lib.hid h
    have HSH := Lib.hid hsh
    have HK := Lib.hid hk
    have HNN := Lib.hid hn
    have HMS : Hid (moreS s.L f t = (if vol f = vol t then (0 : Int) else ((old s.L f).data.size : Int)) - (if kind s.L t = 2 then ((old s.L t).data.size : Int) else 0)) := rfl
    rw [ho] at hr
    have HMS2 := Lib.hid (HMS.out.trans (by rw [ho]))
    obtain ⟨M, hM⟩ : ∃ M, M = moreS s.L f t := ⟨_, rfl⟩
    rw [← hM] at c9 hr
    obtain ⟨Fi, hFi⟩ : ∃ Fi, Fi = fits s t M := ⟨_, rfl⟩
    have HMM := Lib.hid hM
    have hFi2 : fits s t M = Fi := hFi.symm
    rw [← hFi] at c9
    have HFI := Lib.hid hFi2
    clear hFi2
    obtain ⟨DE, DS⟩ : ∃ DE, DE = done s := ⟨_, rfl⟩
    rw [← DS] at c10 c11 c12 c13 HD hr
    obtain ⟨dE, dS⟩ := DE
    simp only at c10 c11 c12 c13 HD
    obtain ⟨XP, XD, XX, XK, XLO, XA, XS⟩ := x
    unfold putS at hr
    unfold iv stamped at c12 c13
    unfold stamped at hr
    simp only at c12 c13 hr hXd HMS2
    have HR := Lib.hid hr
    have hxX : XX.size ≤ 4000000000000000000 := hXd
    subst hKf
    clear ho hxp hxd hx hf hpl hsh hk hn h ok hr HL hst hfoot DS hFi hM hMb hXd h3 h4 h5 hK
    go_enter Tryz.func95, Tryz.ntmps95
    go_wp2_with fail
    go_at_call 77
    refine (c1 _ (Below.refl _ _)).mono ?_
    rintro e w1 ⟨rfl, hb1⟩
    go_wp2_with fail
    go_at_call 77
    refine (c2 _ hb1).mono ?_
    rintro e w2 ⟨rfl, hb2'⟩
    have hb2 := below_call hb1 hb2'
    go_wp2_with fail
    go_at_call 30
    refine (c3 _ hb2).mono ?_
    rintro e w3 ⟨rfl, rfl⟩
    go_wp2_with (go_at_call 78; refine (c5 _ hb2).mono ?_; rintro e w3 ⟨rfl, rfl⟩)
    go_at_call 30
    refine (c3 _ hb2).mono ?_
    rintro e w3 ⟨rfl, rfl⟩
    go_wp2_with (go_at_call 30; refine (c4 _ hb2).mono ?_; rintro e w3 ⟨rfl, rfl⟩)
    refine Rg.wp_only ?_ (getRename _ (by kernel_rfl) _ b s gA s.L.length c k vR f XP XX XK XD XLO XA XS _ (HH.out.below hb2) HSH.out HK.out (by have := HNN.out; omega) c8)
    rintro _ w9 ⟨rfl, rfl⟩
    have hB : Below w.heap.size w (w2.alloc (.cells #[.string XP, .bool XD, .string XX, .string XK, .bool XLO, .bool XA, .int .i64 XS] 107)).drew := (hb2.trans (((Below.refl _ _).alloc (Nat.le_refl _) _).mono hb2.size)).drew
    have hbox : Box (w2.alloc (.cells #[.string XP, .bool XD, .string XX, .string XK, .bool XLO, .bool XA, .int .i64 XS] 107)).drew w2.heap.size ⟨XP, XD, XX, XK, XLO, XA, XS⟩ := ⟨heap_alloc_new _ _⟩
    obtain ⟨wB, hwB⟩ : ∃ wB, wB = (w2.alloc (.cells #[.string XP, .bool XD, .string XX, .string XK, .bool XLO, .bool XA, .int .i64 XS] 107)).drew := ⟨_, rfl⟩
    have hszB : w2.heap.size < wB.heap.size := by rw [hwB]; simp
    rw [← hwB] at hB hbox
    have hwB2 : w2.drew.alloc (.cells #[.string XP, .bool XD, .string XX, .string XK, .bool XLO, .bool XA, .int .i64 XS] 107) = wB := hwB.symm
    rw [hwB2]
    clear hwB hwB2
    obtain ⟨bx, hbx⟩ : ∃ bx, bx = w2.heap.size := ⟨_, rfl⟩
    have hnf : ¬ Foot b (.slice (some ⟨gA, 0, none⟩) s.L.length c) vR bx := fun hh => by have := HF.out _ hh; have := hb2.size; omega
    have hge : w.heap.size ≤ bx := by have := hb2.size; omega
    rw [← hbx] at hbox hszB
    rw [show w2.drew.heap.size = bx from hbx.symm]
    have HNF := Lib.hid hnf
    have HGE := Lib.hid hge
    have HBX := Lib.hid hbox
    clear hnf hge hbx hb2 hb1 hb2'
    obtain ⟨q0, q1, q2, q3, q4, q5, q6⟩ := hbox.cell
    simp only at q0 q1 q2 q3 q4 q5 q6
    clear hbox
    go_wp2_with fail
    go_at_call 127
    refine (cvf _).mono ?_
    rintro e w3 ⟨rfl, hb3⟩
    go_wp2_with fail
    go_at_call 127
    refine (cvt _).mono ?_
    rintro e w4 ⟨rfl, hb4'⟩
    have hb4 := below_call hb3 hb4'
    have hB4 := below_call hB hb4
    clear q0 q1 q2 q3 q4 q5 q6 hb3 hb4'
    by_cases hv : vol f = vol t
    · have ev : ((vol f).toList == (vol t).toList) = true := by rw [hv]; exact beq_self_eq_true _
      have HV := Lib.hid hv
      clear hv
      by_cases h7 : K2 = 2
      · have e7 : ((K2 : Int) == 2) = true := by rw [h7]; rfl
        obtain ⟨k2, y, hk2, hy, hf2, hpl2, hyp, hyd⟩ := kind_file (l := s.L) (p := t) (by rw [← hK2, h7]; decide) (by rw [← hK2, h7]; decide)
        have hoy : old s.L t = y := by rw [old, hf2]; rfl
        have hYs : y.data.size ≤ 4000000000000000000 := by
          have := hYd.1
          rw [← hK2, if_pos h7, hoy] at this
          omega
        have hshy : Shows b s gA s.L.length c k2 vR y := shows hy
        have c14 := fun W (hW : At W b s (.slice (some ⟨gA, 0, none⟩) s.L.length c) vR) => rPlace_any b s (.slice (some ⟨gA, 0, none⟩) s.L.length c) vR t W hW (by have := HNN.out; omega)
        rw [hpl2] at c14
        obtain ⟨YP, YD, YX, YK, YLO, YA, YS⟩ := y
        simp only at hYs
        have HSHY := Lib.hid hshy
        have HOY := Lib.hid hoy
        have HK2 := Lib.hid hk2
        clear hy hf2 hpl2 hyp hyd hoy hshy hk2
        go_wp2_with (go_at_call 30; refine (c4 _ hB4).mono ?_; rintro e w5 ⟨rfl, rfl⟩)
        refine Rg.wp_only ?_ (lessRename _ (by kernel_rfl) _ b s gA s.L.length c k2 vR t YP YX YK YD YLO YA YS _ w4 (HH.out.below hB4) HSHY.out HK2.out (by have := HNN.out; omega) (IntWalk.i64_in _ (by omega)) c14)
        rintro _ w9 ⟨rfl, rfl⟩
        have hMV : M = -(YX.size : Int) := by rw [HMM.out, HMS2.out, if_pos HV.out, ← hK2, if_pos h7, HOY.out, Int.zero_sub]
        rw [hMV] at c9
        clear hMV
        obtain ⟨w5, hw5⟩ : ∃ w5, w5 = w4.drew := ⟨_, rfl⟩
        have hb5 : Below wB.heap.size wB w5 := by rw [hw5]; exact hb4.drew
        rw [← hw5]
        clear hw5
        by_cases hft : f = t
        · have e8 : (f.toList == t.toList) = true := by rw [hft]; exact beq_self_eq_true _
          have HFT := Lib.hid hft
          have hb6 := hb5
          clear hft
          rcases HD with rfl | rfl
          · have HRR := Lib.hid (HR.out.trans ((if_neg (fun hh => hh.1 HFT.out)).trans (if_neg (by decide))))
            have hB6 := below_call hB hb6
            go_wp2_with fail
            go_at_call 79
            refine (c10 _ hB6).mono ?_
            rintro e w7 ⟨rfl, hat7, hc7⟩
            have hbne : bx ≠ b := fun hh => HNF.out (.inl hh)
            have hbox7 := (HBX.out.below hb6).chg hc7 (fun hh => hbne hh)
            have hs7 : bx < w7.heap.size := (Array.getElem?_eq_some_iff.1 hbox7.blk).1
            have HB6 := Lib.hid hB6
            have HC7 := Lib.hid hc7
            have HBX7 := Lib.hid hbox7
            clear hbox7 hc7 hB6
            go_wp2_with fail
            go_at_call 128
            refine (c11 _ hat7).mono ?_
            rintro e w8 ⟨⟨v8, rfl⟩, vL8, hat8, hn8, hc8⟩
            have hbox8 := HBX7.out.chg hc8 (fun hh => hbne hh)
            have hnf8 : ¬ Foot b vL8 vR bx := by
              rintro (hh | hh | hh)
              · exact hbne hh
              · have := hn8 _ hh
                omega
              · exact HNF.out (.inr (.inr hh))
            obtain ⟨q0, q1, q2, q3, q4, q5, q6⟩ := hbox8.cell
            simp only at q0 q1 q2 q3 q4 q5 q6
            have hwarm := hbox8.warm
            have HC8 := Lib.hid hc8
            have HNF8 := Lib.hid hnf8
            clear hbox8 hnf8 hc8 hbne hs7 hn8 hat7
            go_wp2_with (go_at_call 57; refine (c12 _ _ (hat8.set HNF8.out _)).mono ?_; rintro e w9 ⟨rfl, hat9, hc9⟩)
            go_at_call 56
            refine (c13 _ _ hat9).mono ?_
            rintro e w10 ⟨⟨v10, rfl⟩, vL10, hat10, hn10, hc10⟩
            go_wp2_with fail
            go_ret
            rw [HRR.out]
            refine to_put2 (w1 := w9) ?_ rfl hat10 hn10 hc10
            exact rename_chg HB6.out HC7.out HC8.out HGE.out hc9
          · have HRR := Lib.hid (HR.out.trans ((if_neg (fun hh => hh.1 HFT.out)).trans (if_pos (by decide))))
            go_wp2_with (go_at_call 79; refine (c10 _ (below_call hB hb6)).mono ?_; rintro e w7 ⟨rfl, hat7, hc7⟩)
            go_ret
            rw [HRR.out]
            exact to_done (below_call hB hb6) hc7 rfl hat7
        · have e8 : (f.toList == t.toList) = false := bytes_ne hft
          go_wp2_with fail
          go_at_call 120
          refine (c9 _ (below_call hB hb5)).mono ?_
          rintro e w6 ⟨rfl, hb6'⟩
          have hb6 := below_call hb5 hb6'
          cases Fi with
          | false =>
            go_wp2_with fail
            go_ret
            rw [HR.out, if_pos ⟨hft, HFI.out⟩]
            exact HSM.out _ _ _ rfl (below_call hB hb6)
          | true =>
            rcases HD with rfl | rfl
            · have HRR := Lib.hid (HR.out.trans ((if_neg (fun hh => by rw [HFI.out] at hh; exact Bool.noConfusion hh.2)).trans (if_neg (by decide))))
              have hB6 := below_call hB hb6
              go_wp2_with fail
              go_at_call 79
              refine (c10 _ hB6).mono ?_
              rintro e w7 ⟨rfl, hat7, hc7⟩
              have hbne : bx ≠ b := fun hh => HNF.out (.inl hh)
              have hbox7 := (HBX.out.below hb6).chg hc7 (fun hh => hbne hh)
              have hs7 : bx < w7.heap.size := (Array.getElem?_eq_some_iff.1 hbox7.blk).1
              have HB6 := Lib.hid hB6
              have HC7 := Lib.hid hc7
              have HBX7 := Lib.hid hbox7
              clear hbox7 hc7 hB6
              go_wp2_with fail
              go_at_call 128
              refine (c11 _ hat7).mono ?_
              rintro e w8 ⟨⟨v8, rfl⟩, vL8, hat8, hn8, hc8⟩
              have hbox8 := HBX7.out.chg hc8 (fun hh => hbne hh)
              have hnf8 : ¬ Foot b vL8 vR bx := by
                rintro (hh | hh | hh)
                · exact hbne hh
                · have := hn8 _ hh
                  omega
                · exact HNF.out (.inr (.inr hh))
              obtain ⟨q0, q1, q2, q3, q4, q5, q6⟩ := hbox8.cell
              simp only at q0 q1 q2 q3 q4 q5 q6
              have hwarm := hbox8.warm
              have HC8 := Lib.hid hc8
              have HNF8 := Lib.hid hnf8
              clear hbox8 hnf8 hc8 hbne hs7 hn8 hat7
              go_wp2_with (go_at_call 57; refine (c12 _ _ (hat8.set HNF8.out _)).mono ?_; rintro e w9 ⟨rfl, hat9, hc9⟩)
              go_at_call 56
              refine (c13 _ _ hat9).mono ?_
              rintro e w10 ⟨⟨v10, rfl⟩, vL10, hat10, hn10, hc10⟩
              go_wp2_with fail
              go_ret
              rw [HRR.out]
              refine to_put2 (w1 := w9) ?_ rfl hat10 hn10 hc10
              exact rename_chg HB6.out HC7.out HC8.out HGE.out hc9
            · have HRR := Lib.hid (HR.out.trans ((if_neg (fun hh => by rw [HFI.out] at hh; exact Bool.noConfusion hh.2)).trans (if_pos (by decide))))
              go_wp2_with (go_at_call 79; refine (c10 _ (below_call hB hb6)).mono ?_; rintro e w7 ⟨rfl, hat7, hc7⟩)
              go_ret
              rw [HRR.out]
              exact to_done (below_call hB hb6) hc7 rfl hat7
      · have e7 : ((K2 : Int) == 2) = false := beq_eq_false_iff_ne.2 (by omega)
        go_wp2_with fail
        go_at_call 30
        refine (c4 _ hB4).mono ?_
        rintro e w5 ⟨rfl, rfl⟩
        have hMV : M = (0 : Int) := by rw [HMM.out, HMS2.out, if_pos HV.out, ← hK2, if_neg h7, Int.sub_zero]
        rw [hMV] at c9
        clear hMV
        obtain ⟨w5, hw5⟩ : ∃ w5, w5 = w4 := ⟨_, rfl⟩
        have hb5 : Below wB.heap.size wB w5 := by rw [hw5]; exact hb4
        rw [← hw5]
        clear hw5
        by_cases hft : f = t
        · have e8 : (f.toList == t.toList) = true := by rw [hft]; exact beq_self_eq_true _
          have HFT := Lib.hid hft
          have hb6 := hb5
          clear hft
          rcases HD with rfl | rfl
          · have HRR := Lib.hid (HR.out.trans ((if_neg (fun hh => hh.1 HFT.out)).trans (if_neg (by decide))))
            have hB6 := below_call hB hb6
            go_wp2_with fail
            go_at_call 79
            refine (c10 _ hB6).mono ?_
            rintro e w7 ⟨rfl, hat7, hc7⟩
            have hbne : bx ≠ b := fun hh => HNF.out (.inl hh)
            have hbox7 := (HBX.out.below hb6).chg hc7 (fun hh => hbne hh)
            have hs7 : bx < w7.heap.size := (Array.getElem?_eq_some_iff.1 hbox7.blk).1
            have HB6 := Lib.hid hB6
            have HC7 := Lib.hid hc7
            have HBX7 := Lib.hid hbox7
            clear hbox7 hc7 hB6
            go_wp2_with fail
            go_at_call 128
            refine (c11 _ hat7).mono ?_
            rintro e w8 ⟨⟨v8, rfl⟩, vL8, hat8, hn8, hc8⟩
            have hbox8 := HBX7.out.chg hc8 (fun hh => hbne hh)
            have hnf8 : ¬ Foot b vL8 vR bx := by
              rintro (hh | hh | hh)
              · exact hbne hh
              · have := hn8 _ hh
                omega
              · exact HNF.out (.inr (.inr hh))
            obtain ⟨q0, q1, q2, q3, q4, q5, q6⟩ := hbox8.cell
            simp only at q0 q1 q2 q3 q4 q5 q6
            have hwarm := hbox8.warm
            have HC8 := Lib.hid hc8
            have HNF8 := Lib.hid hnf8
            clear hbox8 hnf8 hc8 hbne hs7 hn8 hat7
            go_wp2_with (go_at_call 57; refine (c12 _ _ (hat8.set HNF8.out _)).mono ?_; rintro e w9 ⟨rfl, hat9, hc9⟩)
            go_at_call 56
            refine (c13 _ _ hat9).mono ?_
            rintro e w10 ⟨⟨v10, rfl⟩, vL10, hat10, hn10, hc10⟩
            go_wp2_with fail
            go_ret
            rw [HRR.out]
            refine to_put2 (w1 := w9) ?_ rfl hat10 hn10 hc10
            exact rename_chg HB6.out HC7.out HC8.out HGE.out hc9
          · have HRR := Lib.hid (HR.out.trans ((if_neg (fun hh => hh.1 HFT.out)).trans (if_pos (by decide))))
            go_wp2_with (go_at_call 79; refine (c10 _ (below_call hB hb6)).mono ?_; rintro e w7 ⟨rfl, hat7, hc7⟩)
            go_ret
            rw [HRR.out]
            exact to_done (below_call hB hb6) hc7 rfl hat7
        · have e8 : (f.toList == t.toList) = false := bytes_ne hft
          go_wp2_with fail
          go_at_call 120
          refine (c9 _ (below_call hB hb5)).mono ?_
          rintro e w6 ⟨rfl, hb6'⟩
          have hb6 := below_call hb5 hb6'
          cases Fi with
          | false =>
            go_wp2_with fail
            go_ret
            rw [HR.out, if_pos ⟨hft, HFI.out⟩]
            exact HSM.out _ _ _ rfl (below_call hB hb6)
          | true =>
            rcases HD with rfl | rfl
            · have HRR := Lib.hid (HR.out.trans ((if_neg (fun hh => by rw [HFI.out] at hh; exact Bool.noConfusion hh.2)).trans (if_neg (by decide))))
              have hB6 := below_call hB hb6
              go_wp2_with fail
              go_at_call 79
              refine (c10 _ hB6).mono ?_
              rintro e w7 ⟨rfl, hat7, hc7⟩
              have hbne : bx ≠ b := fun hh => HNF.out (.inl hh)
              have hbox7 := (HBX.out.below hb6).chg hc7 (fun hh => hbne hh)
              have hs7 : bx < w7.heap.size := (Array.getElem?_eq_some_iff.1 hbox7.blk).1
              have HB6 := Lib.hid hB6
              have HC7 := Lib.hid hc7
              have HBX7 := Lib.hid hbox7
              clear hbox7 hc7 hB6
              go_wp2_with fail
              go_at_call 128
              refine (c11 _ hat7).mono ?_
              rintro e w8 ⟨⟨v8, rfl⟩, vL8, hat8, hn8, hc8⟩
              have hbox8 := HBX7.out.chg hc8 (fun hh => hbne hh)
              have hnf8 : ¬ Foot b vL8 vR bx := by
                rintro (hh | hh | hh)
                · exact hbne hh
                · have := hn8 _ hh
                  omega
                · exact HNF.out (.inr (.inr hh))
              obtain ⟨q0, q1, q2, q3, q4, q5, q6⟩ := hbox8.cell
              simp only at q0 q1 q2 q3 q4 q5 q6
              have hwarm := hbox8.warm
              have HC8 := Lib.hid hc8
              have HNF8 := Lib.hid hnf8
              clear hbox8 hnf8 hc8 hbne hs7 hn8 hat7
              go_wp2_with (go_at_call 57; refine (c12 _ _ (hat8.set HNF8.out _)).mono ?_; rintro e w9 ⟨rfl, hat9, hc9⟩)
              go_at_call 56
              refine (c13 _ _ hat9).mono ?_
              rintro e w10 ⟨⟨v10, rfl⟩, vL10, hat10, hn10, hc10⟩
              go_wp2_with fail
              go_ret
              rw [HRR.out]
              refine to_put2 (w1 := w9) ?_ rfl hat10 hn10 hc10
              exact rename_chg HB6.out HC7.out HC8.out HGE.out hc9
            · have HRR := Lib.hid (HR.out.trans ((if_neg (fun hh => by rw [HFI.out] at hh; exact Bool.noConfusion hh.2)).trans (if_pos (by decide))))
              go_wp2_with (go_at_call 79; refine (c10 _ (below_call hB hb6)).mono ?_; rintro e w7 ⟨rfl, hat7, hc7⟩)
              go_ret
              rw [HRR.out]
              exact to_done (below_call hB hb6) hc7 rfl hat7
    · have ev : ((vol f).toList == (vol t).toList) = false := bytes_ne hv
      have HV := Lib.hid hv
      clear hv
      by_cases h7 : K2 = 2
      · have e7 : ((K2 : Int) == 2) = true := by rw [h7]; rfl
        obtain ⟨k2, y, hk2, hy, hf2, hpl2, hyp, hyd⟩ := kind_file (l := s.L) (p := t) (by rw [← hK2, h7]; decide) (by rw [← hK2, h7]; decide)
        have hoy : old s.L t = y := by rw [old, hf2]; rfl
        have hYs : y.data.size ≤ 4000000000000000000 := by
          have := hYd.1
          rw [← hK2, if_pos h7, hoy] at this
          omega
        have hshy : Shows b s gA s.L.length c k2 vR y := shows hy
        have c14 := fun W (hW : At W b s (.slice (some ⟨gA, 0, none⟩) s.L.length c) vR) => rPlace_any b s (.slice (some ⟨gA, 0, none⟩) s.L.length c) vR t W hW (by have := HNN.out; omega)
        rw [hpl2] at c14
        obtain ⟨YP, YD, YX, YK, YLO, YA, YS⟩ := y
        simp only at hYs
        have HSHY := Lib.hid hshy
        have HOY := Lib.hid hoy
        have HK2 := Lib.hid hk2
        clear hy hf2 hpl2 hyp hyd hoy hshy hk2
        go_wp2_with (go_at_call 30; refine (c4 _ hB4).mono ?_; rintro e w5 ⟨rfl, rfl⟩)
        refine Rg.wp_only ?_ (lessRename _ (by kernel_rfl) _ b s gA s.L.length c k2 vR t YP YX YK YD YLO YA YS _ w4 (HH.out.below hB4) HSHY.out HK2.out (by have := HNN.out; omega) (IntWalk.i64_in _ (by omega)) c14)
        rintro _ w9 ⟨rfl, rfl⟩
        have hMV : M = (XX.size : Int) - (YX.size : Int) := by rw [HMM.out, HMS2.out, if_neg HV.out, ← hK2, if_pos h7, HOY.out]
        rw [hMV] at c9
        clear hMV
        obtain ⟨w5, hw5⟩ : ∃ w5, w5 = w4.drew := ⟨_, rfl⟩
        have hb5 : Below wB.heap.size wB w5 := by rw [hw5]; exact hb4.drew
        rw [← hw5]
        clear hw5
        by_cases hft : f = t
        · have e8 : (f.toList == t.toList) = true := by rw [hft]; exact beq_self_eq_true _
          have HFT := Lib.hid hft
          have hb6 := hb5
          clear hft
          rcases HD with rfl | rfl
          · have HRR := Lib.hid (HR.out.trans ((if_neg (fun hh => hh.1 HFT.out)).trans (if_neg (by decide))))
            have hB6 := below_call hB hb6
            go_wp2_with fail
            go_at_call 79
            refine (c10 _ hB6).mono ?_
            rintro e w7 ⟨rfl, hat7, hc7⟩
            have hbne : bx ≠ b := fun hh => HNF.out (.inl hh)
            have hbox7 := (HBX.out.below hb6).chg hc7 (fun hh => hbne hh)
            have hs7 : bx < w7.heap.size := (Array.getElem?_eq_some_iff.1 hbox7.blk).1
            have HB6 := Lib.hid hB6
            have HC7 := Lib.hid hc7
            have HBX7 := Lib.hid hbox7
            clear hbox7 hc7 hB6
            go_wp2_with fail
            go_at_call 128
            refine (c11 _ hat7).mono ?_
            rintro e w8 ⟨⟨v8, rfl⟩, vL8, hat8, hn8, hc8⟩
            have hbox8 := HBX7.out.chg hc8 (fun hh => hbne hh)
            have hnf8 : ¬ Foot b vL8 vR bx := by
              rintro (hh | hh | hh)
              · exact hbne hh
              · have := hn8 _ hh
                omega
              · exact HNF.out (.inr (.inr hh))
            obtain ⟨q0, q1, q2, q3, q4, q5, q6⟩ := hbox8.cell
            simp only at q0 q1 q2 q3 q4 q5 q6
            have hwarm := hbox8.warm
            have HC8 := Lib.hid hc8
            have HNF8 := Lib.hid hnf8
            clear hbox8 hnf8 hc8 hbne hs7 hn8 hat7
            go_wp2_with (go_at_call 57; refine (c12 _ _ (hat8.set HNF8.out _)).mono ?_; rintro e w9 ⟨rfl, hat9, hc9⟩)
            go_at_call 56
            refine (c13 _ _ hat9).mono ?_
            rintro e w10 ⟨⟨v10, rfl⟩, vL10, hat10, hn10, hc10⟩
            go_wp2_with fail
            go_ret
            rw [HRR.out]
            refine to_put2 (w1 := w9) ?_ rfl hat10 hn10 hc10
            exact rename_chg HB6.out HC7.out HC8.out HGE.out hc9
          · have HRR := Lib.hid (HR.out.trans ((if_neg (fun hh => hh.1 HFT.out)).trans (if_pos (by decide))))
            go_wp2_with (go_at_call 79; refine (c10 _ (below_call hB hb6)).mono ?_; rintro e w7 ⟨rfl, hat7, hc7⟩)
            go_ret
            rw [HRR.out]
            exact to_done (below_call hB hb6) hc7 rfl hat7
        · have e8 : (f.toList == t.toList) = false := bytes_ne hft
          go_wp2_with fail
          go_at_call 120
          refine (c9 _ (below_call hB hb5)).mono ?_
          rintro e w6 ⟨rfl, hb6'⟩
          have hb6 := below_call hb5 hb6'
          cases Fi with
          | false =>
            go_wp2_with fail
            go_ret
            rw [HR.out, if_pos ⟨hft, HFI.out⟩]
            exact HSM.out _ _ _ rfl (below_call hB hb6)
          | true =>
            rcases HD with rfl | rfl
            · have HRR := Lib.hid (HR.out.trans ((if_neg (fun hh => by rw [HFI.out] at hh; exact Bool.noConfusion hh.2)).trans (if_neg (by decide))))
              have hB6 := below_call hB hb6
              go_wp2_with fail
              go_at_call 79
              refine (c10 _ hB6).mono ?_
              rintro e w7 ⟨rfl, hat7, hc7⟩
              have hbne : bx ≠ b := fun hh => HNF.out (.inl hh)
              have hbox7 := (HBX.out.below hb6).chg hc7 (fun hh => hbne hh)
              have hs7 : bx < w7.heap.size := (Array.getElem?_eq_some_iff.1 hbox7.blk).1
              have HB6 := Lib.hid hB6
              have HC7 := Lib.hid hc7
              have HBX7 := Lib.hid hbox7
              clear hbox7 hc7 hB6
              go_wp2_with fail
              go_at_call 128
              refine (c11 _ hat7).mono ?_
              rintro e w8 ⟨⟨v8, rfl⟩, vL8, hat8, hn8, hc8⟩
              have hbox8 := HBX7.out.chg hc8 (fun hh => hbne hh)
              have hnf8 : ¬ Foot b vL8 vR bx := by
                rintro (hh | hh | hh)
                · exact hbne hh
                · have := hn8 _ hh
                  omega
                · exact HNF.out (.inr (.inr hh))
              obtain ⟨q0, q1, q2, q3, q4, q5, q6⟩ := hbox8.cell
              simp only at q0 q1 q2 q3 q4 q5 q6
              have hwarm := hbox8.warm
              have HC8 := Lib.hid hc8
              have HNF8 := Lib.hid hnf8
              clear hbox8 hnf8 hc8 hbne hs7 hn8 hat7
              go_wp2_with (go_at_call 57; refine (c12 _ _ (hat8.set HNF8.out _)).mono ?_; rintro e w9 ⟨rfl, hat9, hc9⟩)
              go_at_call 56
              refine (c13 _ _ hat9).mono ?_
              rintro e w10 ⟨⟨v10, rfl⟩, vL10, hat10, hn10, hc10⟩
              go_wp2_with fail
              go_ret
              rw [HRR.out]
              refine to_put2 (w1 := w9) ?_ rfl hat10 hn10 hc10
              exact rename_chg HB6.out HC7.out HC8.out HGE.out hc9
            · have HRR := Lib.hid (HR.out.trans ((if_neg (fun hh => by rw [HFI.out] at hh; exact Bool.noConfusion hh.2)).trans (if_pos (by decide))))
              go_wp2_with (go_at_call 79; refine (c10 _ (below_call hB hb6)).mono ?_; rintro e w7 ⟨rfl, hat7, hc7⟩)
              go_ret
              rw [HRR.out]
              exact to_done (below_call hB hb6) hc7 rfl hat7
      · have e7 : ((K2 : Int) == 2) = false := beq_eq_false_iff_ne.2 (by omega)
        go_wp2_with fail
        go_at_call 30
        refine (c4 _ hB4).mono ?_
        rintro e w5 ⟨rfl, rfl⟩
        have hMV : M = (XX.size : Int) := by rw [HMM.out, HMS2.out, if_neg HV.out, ← hK2, if_neg h7, Int.sub_zero]
        rw [hMV] at c9
        clear hMV
        obtain ⟨w5, hw5⟩ : ∃ w5, w5 = w4 := ⟨_, rfl⟩
        have hb5 : Below wB.heap.size wB w5 := by rw [hw5]; exact hb4
        rw [← hw5]
        clear hw5
        by_cases hft : f = t
        · have e8 : (f.toList == t.toList) = true := by rw [hft]; exact beq_self_eq_true _
          have HFT := Lib.hid hft
          have hb6 := hb5
          clear hft
          rcases HD with rfl | rfl
          · have HRR := Lib.hid (HR.out.trans ((if_neg (fun hh => hh.1 HFT.out)).trans (if_neg (by decide))))
            have hB6 := below_call hB hb6
            go_wp2_with fail
            go_at_call 79
            refine (c10 _ hB6).mono ?_
            rintro e w7 ⟨rfl, hat7, hc7⟩
            have hbne : bx ≠ b := fun hh => HNF.out (.inl hh)
            have hbox7 := (HBX.out.below hb6).chg hc7 (fun hh => hbne hh)
            have hs7 : bx < w7.heap.size := (Array.getElem?_eq_some_iff.1 hbox7.blk).1
            have HB6 := Lib.hid hB6
            have HC7 := Lib.hid hc7
            have HBX7 := Lib.hid hbox7
            clear hbox7 hc7 hB6
            go_wp2_with fail
            go_at_call 128
            refine (c11 _ hat7).mono ?_
            rintro e w8 ⟨⟨v8, rfl⟩, vL8, hat8, hn8, hc8⟩
            have hbox8 := HBX7.out.chg hc8 (fun hh => hbne hh)
            have hnf8 : ¬ Foot b vL8 vR bx := by
              rintro (hh | hh | hh)
              · exact hbne hh
              · have := hn8 _ hh
                omega
              · exact HNF.out (.inr (.inr hh))
            obtain ⟨q0, q1, q2, q3, q4, q5, q6⟩ := hbox8.cell
            simp only at q0 q1 q2 q3 q4 q5 q6
            have hwarm := hbox8.warm
            have HC8 := Lib.hid hc8
            have HNF8 := Lib.hid hnf8
            clear hbox8 hnf8 hc8 hbne hs7 hn8 hat7
            go_wp2_with (go_at_call 57; refine (c12 _ _ (hat8.set HNF8.out _)).mono ?_; rintro e w9 ⟨rfl, hat9, hc9⟩)
            go_at_call 56
            refine (c13 _ _ hat9).mono ?_
            rintro e w10 ⟨⟨v10, rfl⟩, vL10, hat10, hn10, hc10⟩
            go_wp2_with fail
            go_ret
            rw [HRR.out]
            refine to_put2 (w1 := w9) ?_ rfl hat10 hn10 hc10
            exact rename_chg HB6.out HC7.out HC8.out HGE.out hc9
          · have HRR := Lib.hid (HR.out.trans ((if_neg (fun hh => hh.1 HFT.out)).trans (if_pos (by decide))))
            go_wp2_with (go_at_call 79; refine (c10 _ (below_call hB hb6)).mono ?_; rintro e w7 ⟨rfl, hat7, hc7⟩)
            go_ret
            rw [HRR.out]
            exact to_done (below_call hB hb6) hc7 rfl hat7
        · have e8 : (f.toList == t.toList) = false := bytes_ne hft
          go_wp2_with fail
          go_at_call 120
          refine (c9 _ (below_call hB hb5)).mono ?_
          rintro e w6 ⟨rfl, hb6'⟩
          have hb6 := below_call hb5 hb6'
          cases Fi with
          | false =>
            go_wp2_with fail
            go_ret
            rw [HR.out, if_pos ⟨hft, HFI.out⟩]
            exact HSM.out _ _ _ rfl (below_call hB hb6)
          | true =>
            rcases HD with rfl | rfl
            · have HRR := Lib.hid (HR.out.trans ((if_neg (fun hh => by rw [HFI.out] at hh; exact Bool.noConfusion hh.2)).trans (if_neg (by decide))))
              have hB6 := below_call hB hb6
              go_wp2_with fail
              go_at_call 79
              refine (c10 _ hB6).mono ?_
              rintro e w7 ⟨rfl, hat7, hc7⟩
              have hbne : bx ≠ b := fun hh => HNF.out (.inl hh)
              have hbox7 := (HBX.out.below hb6).chg hc7 (fun hh => hbne hh)
              have hs7 : bx < w7.heap.size := (Array.getElem?_eq_some_iff.1 hbox7.blk).1
              have HB6 := Lib.hid hB6
              have HC7 := Lib.hid hc7
              have HBX7 := Lib.hid hbox7
              clear hbox7 hc7 hB6
              go_wp2_with fail
              go_at_call 128
              refine (c11 _ hat7).mono ?_
              rintro e w8 ⟨⟨v8, rfl⟩, vL8, hat8, hn8, hc8⟩
              have hbox8 := HBX7.out.chg hc8 (fun hh => hbne hh)
              have hnf8 : ¬ Foot b vL8 vR bx := by
                rintro (hh | hh | hh)
                · exact hbne hh
                · have := hn8 _ hh
                  omega
                · exact HNF.out (.inr (.inr hh))
              obtain ⟨q0, q1, q2, q3, q4, q5, q6⟩ := hbox8.cell
              simp only at q0 q1 q2 q3 q4 q5 q6
              have hwarm := hbox8.warm
              have HC8 := Lib.hid hc8
              have HNF8 := Lib.hid hnf8
              clear hbox8 hnf8 hc8 hbne hs7 hn8 hat7
              go_wp2_with (go_at_call 57; refine (c12 _ _ (hat8.set HNF8.out _)).mono ?_; rintro e w9 ⟨rfl, hat9, hc9⟩)
              go_at_call 56
              refine (c13 _ _ hat9).mono ?_
              rintro e w10 ⟨⟨v10, rfl⟩, vL10, hat10, hn10, hc10⟩
              go_wp2_with fail
              go_ret
              rw [HRR.out]
              refine to_put2 (w1 := w9) ?_ rfl hat10 hn10 hc10
              exact rename_chg HB6.out HC7.out HC8.out HGE.out hc9
            · have HRR := Lib.hid (HR.out.trans ((if_neg (fun hh => by rw [HFI.out] at hh; exact Bool.noConfusion hh.2)).trans (if_pos (by decide))))
              go_wp2_with (go_at_call 79; refine (c10 _ (below_call hB hb6)).mono ?_; rintro e w7 ⟨rfl, hat7, hc7⟩)
              go_ret
              rw [HRR.out]
              exact to_done (below_call hB hb6) hc7 rfl hat7
end Go.Proofs.YtjdfffkkpbabpaaGreat.Dk

namespace Go.Proofs.YtjdfffkkpbabpaaGreat.Wm
def vb (x : Nat) : List UInt8 := if x < 128 then [UInt8.ofNat x] else UInt8.ofNat (128 + x % 128) :: vb (x / 128)
termination_by x
decreasing_by omega
theorem vb_lo {x : Nat} (h : x < 128) : vb x = [UInt8.ofNat x] := by rw [vb, if_pos h]
theorem vb_hi {x : Nat} (h : 128 ≤ x) : vb x = UInt8.ofNat (128 + x % 128) :: vb (x / 128) := by rw [vb, if_neg (by omega)]
theorem vb_len_le : ∀ (k x : Nat), x < 128 ^ (k + 1) → (vb x).length ≤ k + 1
  | 0, x, h => by rw [vb_lo (by omega)]; simp
  | k + 1, x, h => by
    by_cases hx : x < 128
    · rw [vb_lo hx]; simp
    · rw [vb_hi (by omega), List.length_cons]
      have : x / 128 < 128 ^ (k + 1) := by
        rw [Nat.div_lt_iff_lt_mul (by omega)]
        rw [Nat.pow_succ] at h
        exact h
      have := vb_len_le k (x / 128) this
      omega
theorem vb_len {x : Nat} (h : x < 18446744073709551616) : (vb x).length ≤ 10 := vb_len_le 9 x (by omega)
theorem vb_pos (x : Nat) : 0 < (vb x).length := by
  by_cases h : x < 128
  · rw [vb_lo h]; simp
  · rw [vb_hi (by omega)]; simp
def vs (x : Nat) : ByteArray := ⟨(vb x).toArray⟩
theorem vs_list (x : Nat) : (vs x).data.toList = vb x := by simp [vs]
theorem vs_size (x : Nat) : (vs x).size = (vb x).length := by simp [vs, ByteArray.size]
def lead : List UInt8 → Nat → Nat
  | b :: r, k + 1 => if 128 ≤ b.toNat then lead r k + 1 else 0
  | _, _ => 0
def pv : List UInt8 → Nat → Nat
  | b :: r, n + 1 => b.toNat % 128 + 128 * pv r n
  | _, _ => 0
def rd (l : List UInt8) : Nat × Nat × Nat :=
  let n := lead l 9
  if n = l.length then (0, 0, 2)
  else if n = 9 ∧ 1 < (l.getD 9 0).toNat ∨ 0 < n ∧ (l.getD n 0).toNat = 0 then (0, 0, 3)
  else (pv l (n + 1), n + 1, 0)
theorem pv_zero (l : List UInt8) : pv l 0 = 0 := by cases l <;> rfl
theorem lead_le_fuel : ∀ (l : List UInt8) (k : Nat), lead l k ≤ k
  | [], k => by cases k <;> simp [lead]
  | b :: r, 0 => by simp [lead]
  | b :: r, k + 1 => by
    rw [lead]
    split
    · have := lead_le_fuel r k; omega
    · omega
theorem lead_le_len : ∀ (l : List UInt8) (k : Nat), lead l k ≤ l.length
  | [], k => by cases k <;> simp [lead]
  | b :: r, 0 => by simp [lead]
  | b :: r, k + 1 => by
    rw [lead]
    split
    · have := lead_le_len r k; simp; omega
    · omega
theorem pv_succ : ∀ (l : List UInt8) (n : Nat), n < l.length → pv l (n + 1) = pv l n + (l.getD n 0).toNat % 128 * 128 ^ n
  | [], n, h => by simp at h
  | b :: r, 0, _ => by simp [pv]
  | b :: r, n + 1, h => by
    have := pv_succ r n (by simpa using h)
    rw [pv, this, pv]
    simp only [List.getD_cons_succ]
    rw [Nat.mul_add, Nat.pow_succ, ← Nat.add_assoc]
    congr 1
    rw [← Nat.mul_assoc, Nat.mul_comm 128, Nat.mul_assoc, Nat.mul_comm 128]
theorem pv_lt : ∀ (l : List UInt8) (n : Nat), pv l n < 128 ^ n
  | [], n => by
    have := Nat.pow_pos (n := n) (show 0 < 128 by omega)
    cases n <;> simp [pv] <;> omega
  | b :: r, 0 => by simp [pv]
  | b :: r, n + 1 => by
    have := pv_lt r n
    rw [pv, Nat.pow_succ]
    omega
theorem lead_step : ∀ (l : List UInt8) (f k : Nat), k ≤ lead l f → k < f → k < l.length → 128 ≤ (l.getD k 0).toNat → k + 1 ≤ lead l f
  | [], _, _, _, _, h, _ => by simp at h
  | _ :: _, 0, k, _, h, _, _ => by omega
  | b :: r, f + 1, 0, _, _, _, hb => by
    rw [lead, if_pos (by simpa using hb)]; omega
  | b :: r, f + 1, k + 1, h, hf, hl, hb => by
    rw [lead] at h ⊢
    split at h
    · have := lead_step r f k (by omega) (by omega) (by simpa using hl) (by simpa using hb)
      rw [if_pos (by assumption)]; omega
    · omega
theorem lead_stop : ∀ (l : List UInt8) (f k : Nat), k ≤ lead l f → k < l.length → (l.getD k 0).toNat < 128 → lead l f = k
  | [], _, _, _, h, _ => by simp at h
  | _ :: _, 0, k, h, _, _ => by simp [lead] at h ⊢; omega
  | b :: r, f + 1, 0, _, _, hb => by
    rw [lead, if_neg (by simp at hb; omega)]
  | b :: r, f + 1, k + 1, h, hl, hb => by
    rw [lead] at h ⊢
    split at h
    · have := lead_stop r f k (by omega) (by simpa using hl) (by simpa using hb)
      rw [if_pos (by assumption)]; omega
    · omega
theorem lead_vb : ∀ (f x : Nat) (r : List UInt8), x < 128 ^ (f + 1) → lead (vb x ++ r) f = (vb x).length - 1
  | 0, x, r, h => by rw [vb_lo (by omega)]; simp [lead]
  | f + 1, x, r, h => by
    by_cases hx : x < 128
    · rw [vb_lo hx]
      have : (UInt8.ofNat x).toNat = x := by simp; omega
      simp [lead, this]; omega
    · rw [vb_hi (by omega)]
      have e : (UInt8.ofNat (128 + x % 128)).toNat = 128 + x % 128 := by simp; omega
      have h2 : x / 128 < 128 ^ (f + 1) := by
        rw [Nat.div_lt_iff_lt_mul (by omega)]
        rw [Nat.pow_succ] at h
        exact h
      have := lead_vb f (x / 128) r h2
      have hp := vb_pos (x / 128)
      rw [List.cons_append, lead, if_pos (by omega), this]
      simp; omega
theorem pv_vb : ∀ (f x : Nat) (r : List UInt8), x < 128 ^ (f + 1) → pv (vb x ++ r) (vb x).length = x
  | 0, x, r, h => by
    rw [vb_lo (by omega)]
    have : (UInt8.ofNat x).toNat = x := by simp; omega
    simp only [List.cons_append, List.nil_append, List.length_singleton, pv, this]; omega
  | f + 1, x, r, h => by
    by_cases hx : x < 128
    · rw [vb_lo hx]
      have : (UInt8.ofNat x).toNat = x := by simp; omega
      simp only [List.cons_append, List.nil_append, List.length_singleton, pv, this]; omega
    · rw [vb_hi (by omega)]
      have e : (UInt8.ofNat (128 + x % 128)).toNat = 128 + x % 128 := by simp; omega
      have h2 : x / 128 < 128 ^ (f + 1) := by
        rw [Nat.div_lt_iff_lt_mul (by omega)]
        rw [Nat.pow_succ] at h
        exact h
      have := pv_vb f (x / 128) r h2
      rw [List.cons_append, List.length_cons, pv, this, e]
      omega
theorem vb_last : ∀ (f x : Nat) (r : List UInt8), x < 128 ^ (f + 1) → 128 ≤ x → ((vb x ++ r).getD ((vb x).length - 1) 0).toNat ≠ 0
  | 0, x, r, h, h2 => by omega
  | f + 1, x, r, h, h2 => by
    rw [vb_hi (by omega)]
    have hp := vb_pos (x / 128)
    rw [List.cons_append, List.length_cons, Nat.add_sub_cancel]
    obtain ⟨n, hn⟩ : ∃ n, (vb (x / 128)).length = n + 1 := ⟨(vb (x / 128)).length - 1, by omega⟩
    rw [hn, List.getD_cons_succ]
    have h3 : x / 128 < 128 ^ (f + 1) := by
      rw [Nat.div_lt_iff_lt_mul (by omega)]
      rw [Nat.pow_succ] at h
      exact h
    by_cases hx : x / 128 < 128
    · rw [vb_lo hx] at hn ⊢
      simp at hn
      subst hn
      have : (UInt8.ofNat (x / 128)).toNat = x / 128 := by simp; omega
      simp [this]; omega
    · have := vb_last f (x / 128) r h3 (by omega)
      rw [hn, Nat.add_sub_cancel] at this
      exact this
theorem vb_tenth : ∀ (f x : Nat) (r : List UInt8), x < 2 * 128 ^ (f + 1) → (vb x).length = f + 2 → ((vb x ++ r).getD (f + 1) 0).toNat ≤ 1
  | 0, x, r, h, h2 => by
    by_cases hx : x < 128
    · rw [vb_lo hx] at h2; simp at h2
    · rw [vb_hi (by omega)]
      rw [List.cons_append, List.getD_cons_succ, vb_lo (by omega)]
      have : (UInt8.ofNat (x / 128)).toNat = x / 128 := by simp; omega
      simp [this]; omega
  | f + 1, x, r, h, h2 => by
    by_cases hx : x < 128
    · rw [vb_lo hx] at h2; simp at h2
    · rw [vb_hi (by omega)] at h2 ⊢
      rw [List.cons_append, List.getD_cons_succ]
      refine vb_tenth f (x / 128) r ?_ (by simpa using h2)
      rw [Nat.div_lt_iff_lt_mul (by omega)]
      rw [Nat.pow_succ] at h
      omega
theorem rd_vb (x : Nat) (r : List UInt8) (h : x < 18446744073709551616) : rd (vb x ++ r) = (x, (vb x).length, 0) := by
  have h10 : x < 128 ^ (9 + 1) := by omega
  have hl := lead_vb 9 x r h10
  have hp := vb_pos x
  have hlen := vb_len h
  have e1 : (vb x).length - 1 + 1 = (vb x).length := by omega
  unfold rd
  simp only [hl]
  rw [if_neg (by simp; omega), if_neg, e1, pv_vb 9 x r h10]
  rintro (⟨h9, h1⟩ | ⟨h0, h1⟩)
  · have : ((vb x ++ r).getD 9 0).toNat ≤ 1 := vb_tenth 8 x r (by omega) (by omega)
    omega
  · refine vb_last 9 x r h10 ?_ h1
    apply Decidable.byContradiction
    intro hx
    rw [vb_lo (by omega)] at h0
    simp at h0
theorem vb_rd : ∀ (n : Nat) (l : List UInt8) (f : Nat), lead l f = n → n < l.length → (l.getD n 0).toNat < 128 → (0 < n → (l.getD n 0).toNat ≠ 0) → vb (pv l (n + 1)) = l.take (n + 1)
  | _, [], _, _, h, _, _ => by simp at h
  | 0, b :: r, f, _, _, hb, _ => by
    have hb' : b.toNat < 128 := by simpa using hb
    rw [vb_lo (by simp [pv]; omega)]
    simp only [pv, List.take_succ_cons, List.take_zero, Nat.mul_zero, Nat.add_zero]
    rw [Nat.mod_eq_of_lt hb']
    simp
  | n + 1, b :: r, 0, h, _, _, _ => by simp [lead] at h
  | n + 1, b :: r, f + 1, h, hl, hb, h0 => by
    rw [lead] at h
    split at h
    · have hb128 : 128 ≤ b.toNat := by assumption
      have hbl := b.toNat_lt
      have ih := vb_rd n r f (by omega) (by simpa using hl) (by simpa using hb) (fun hn => by simpa using h0 (by omega))
      have hne : pv r (n + 1) ≠ 0 := by
        by_cases hn : n = 0
        · subst hn
          cases r with
          | nil => simp at hl
          | cons c r =>
            have hc : c.toNat < 128 := by simpa using hb
            have := h0 (by omega)
            simp [pv] at this ⊢
            omega
        · intro hz
          rw [hz, vb_lo (by omega)] at ih
          have := congrArg List.length ih
          simp at this
          have hl' : n < r.length := by simpa using hl
          omega
      have e : pv (b :: r) (n + 1 + 1) = b.toNat % 128 + 128 * pv r (n + 1) := by rw [pv]
      rw [e, vb_hi (by omega)]
      have e1 : (b.toNat % 128 + 128 * pv r (n + 1)) / 128 = pv r (n + 1) := by omega
      have e2 : 128 + (b.toNat % 128 + 128 * pv r (n + 1)) % 128 = b.toNat := by omega
      rw [e1, e2, ih]
      simp
    · omega
theorem getD_lt (l : List UInt8) (n : Nat) : (l.getD n 0).toNat < 256 := (l.getD n 0).toNat_lt
theorem rd_ok {l : List UInt8} {x n : Nat} (h : rd l = (x, n, 0)) : n ≤ l.length ∧ vb x = l.take n ∧ 0 < n ∧ x < 18446744073709551616 := by
  unfold rd at h
  simp only at h
  split at h
  · simp at h
  · rename_i h1
    split at h
    · simp at h
    · rename_i h2
      simp only [Prod.mk.injEq] at h
      obtain ⟨rfl, rfl, _⟩ := h
      have hf := lead_le_fuel l 9
      have hl := lead_le_len l 9
      have hlt : (l.getD (lead l 9) 0).toNat < 128 := by
        apply Decidable.byContradiction
        intro hc
        by_cases h9 : lead l 9 = 9
        · refine h2 (.inl ⟨h9, ?_⟩)
          rw [h9] at hc
          omega
        · have := lead_step l 9 (lead l 9) (Nat.le_refl _) (by omega) (by omega) (by omega)
          omega
      refine ⟨by omega, vb_rd _ l 9 rfl (by omega) hlt (fun h0 hz => h2 (.inr ⟨h0, hz⟩)), by omega, ?_⟩
      have hp := pv_succ l (lead l 9) (by omega)
      have hq := pv_lt l (lead l 9)
      rw [hp]
      by_cases h9 : lead l 9 = 9
      · have : ¬ 1 < (l.getD 9 0).toNat := fun hc => h2 (.inl ⟨h9, hc⟩)
        rw [h9] at hq ⊢
        have : (l.getD 9 0).toNat % 128 ≤ 1 := by omega
        have := Nat.mul_le_mul_right (128 ^ 9) this
        omega
      · have h8 : lead l 9 ≤ 8 := by omega
        have e1 := Nat.pow_le_pow_right (show 0 < 128 by omega) h8
        have : (l.getD (lead l 9) 0).toNat % 128 ≤ 127 := by omega
        have := Nat.mul_le_mul_right (128 ^ lead l 9) this
        have e8 : 128 ^ 8 = 72057594037927936 := by decide
        omega
theorem rd_cases (l : List UInt8) : (rd l = (0, 0, 2)) ∨ (rd l = (0, 0, 3)) ∨ ∃ x n, rd l = (x, n, 0) := by
  unfold rd
  simp only
  split
  · exact .inl rfl
  · split
    · exact .inr (.inl rfl)
    · exact .inr (.inr ⟨_, _, rfl⟩)
theorem len_l (s : ByteArray) : s.data.toList.length = s.size := by rw [Array.length_toList]; rfl
theorem gd (s : ByteArray) (k : Nat) (h : k < s.size) : s.data.toList.getD k 0 = s[k] := by
  have h' : k < s.data.size := h
  rw [List.getD_eq_getElem?_getD, Array.getElem?_toList, Array.getElem?_eq_getElem h']
  rfl
theorem or_step (l : List UInt8) (k c : Nat) (hl : k < l.length) (hc : c = (l.getD k 0).toNat) (h : k < 9 ∨ k = 9 ∧ c ≤ 1) :
    bits .or .u64 (pv l k : Nat) (IntKind.u64.wrap (IntKind.u64.wrap (bits .andNot .u8 (c : Int) 128) * 2 ^ (7 * k))) = ((pv l (k + 1) : Nat) : Int) := by
  have hcl : c < 256 := by rw [hc]; exact getD_lt l k
  have e1 : bits .andNot .u8 (c : Int) 128 = ((c % 128 : Nat) : Int) := by
    have := u8_andNot_nat c 128 hcl (by omega)
    rw [show 255 - 128 = 127 from rfl, nat_mask7] at this
    exact this
  have hp := pv_lt l k
  have hs := pv_succ l k hl
  rw [← hc] at hs
  have e128 : (128 : Nat) ^ k = 2 ^ (7 * k) := by rw [Nat.pow_mul]
  have hb : pv l (k + 1) < 18446744073709551616 := by
    have h1 := pv_lt l (k + 1)
    rcases h with h | ⟨rfl, h⟩
    · have := Nat.pow_le_pow_right (show 0 < 128 by omega) (show k + 1 ≤ 9 by omega)
      omega
    · have : c % 128 ≤ 1 := by omega
      have := Nat.mul_le_mul_right (128 ^ 9) this
      omega
  have e2 : IntKind.u64.wrap ((c % 128 : Nat) : Int) = ((c % 128 : Nat) : Int) := by rw [IntKind.wrap_u64]; omega
  have e3 : ((c % 128 : Nat) : Int) * 2 ^ (7 * k) = ((c % 128 * 128 ^ k : Nat) : Int) := by rw [e128]; simp
  have e4 : IntKind.u64.wrap ((c % 128 * 128 ^ k : Nat) : Int) = ((c % 128 * 128 ^ k : Nat) : Int) := by rw [IntKind.wrap_u64]; omega
  rw [e1, e2, e3, e4, u64_or_nat _ _ (by omega) (by omega), Nat.or_comm, nat_join (7 * k) _ _ ?_ ?_, hs, Nat.add_comm]
  · rw [← e128]; exact Nat.mul_mod_left _ _
  · rw [← e128]; exact hp
theorem rd_tenth (s : ByteArray) (h : 9 < s.size) (hl : 9 ≤ lead s.data.toList 9) (h1 : 1 < (s[9].toNat : Int)) : rd s.data.toList = (0, 0, 3) := by
  have hf := lead_le_fuel s.data.toList 9
  have e : lead s.data.toList 9 = 9 := by omega
  unfold rd
  simp only [e]
  rw [len_l, if_neg (by omega), if_pos]
  left
  rw [gd s 9 h]
  exact ⟨trivial, by omega⟩
theorem rd_zero (s : ByteArray) (k : Nat) (h : k < s.size) (hl : k ≤ lead s.data.toList 9) (h1 : s[k].toNat = 0) (h0 : 0 < k) : rd s.data.toList = (0, 0, 3) := by
  have e := lead_stop s.data.toList 9 k hl (by rw [len_l]; exact h) (by rw [gd s k h]; omega)
  unfold rd
  simp only [e]
  rw [len_l, if_neg (by omega), if_pos]
  right
  rw [gd s k h]
  exact ⟨h0, h1⟩
theorem rd_stop (s : ByteArray) (k : Nat) (h : k < s.size) (hl : k ≤ lead s.data.toList 9) (h1 : s[k].toNat < 128) (h9 : k = 9 → s[k].toNat ≤ 1) (h0 : k = 0 ∨ s[k].toNat ≠ 0) : rd s.data.toList = (pv s.data.toList (k + 1), k + 1, 0) := by
  have e := lead_stop s.data.toList 9 k hl (by rw [len_l]; exact h) (by rw [gd s k h]; omega)
  unfold rd
  simp only [e]
  rw [len_l, if_neg (by omega), if_neg]
  rintro (⟨h2, h3⟩ | ⟨h2, h3⟩)
  · subst h2
    rw [gd s 9 h] at h3
    have := h9 rfl
    omega
  · rw [gd s k h] at h3
    omega
theorem rd_short (s : ByteArray) (k : Nat) (h : ¬ k < s.size) (hl : k ≤ lead s.data.toList 9) : rd s.data.toList = (0, 0, 2) := by
  have := lead_le_len s.data.toList 9
  rw [len_l] at this
  unfold rd
  simp only
  rw [len_l, if_pos (by omega)]
theorem lead_more (s : ByteArray) (k : Nat) (h : k < s.size) (h9 : k < 9) (hl : k ≤ lead s.data.toList 9) (hb : 128 ≤ (s[k].toNat : Int)) : k + 1 ≤ lead s.data.toList 9 :=
  lead_step s.data.toList 9 k hl h9 (by rw [len_l]; exact h) (by rw [gd s k h]; omega)
def rdU (l : List UInt8) : Nat × Nat × Nat := if (rd l).2.2 = 0 ∧ 9223372036854775807 < (rd l).1 then (0, 0, 3) else rd l
theorem rdU_cases (l : List UInt8) : (rdU l = (0, 0, 2) ∧ rd l = (0, 0, 2)) ∨ (rdU l = (0, 0, 3) ∧ rd l = (0, 0, 3)) ∨ (∃ x n, rd l = (x, n, 0) ∧ 9223372036854775807 < x ∧ rdU l = (0, 0, 3)) ∨ ∃ x n, rd l = (x, n, 0) ∧ x ≤ 9223372036854775807 ∧ rdU l = (x, n, 0) := by
  unfold rdU
  rcases rd_cases l with h | h | ⟨x, n, h⟩
  · rw [h]; simp
  · rw [h]; simp
  · by_cases hx : 9223372036854775807 < x
    · right; right; left
      exact ⟨x, n, h, hx, by rw [h]; simp [hx]⟩
    · right; right; right
      exact ⟨x, n, h, by omega, by rw [h]; simp; omega⟩
def rdT (s : ByteArray) : ByteArray × Nat × Nat :=
  if (rdU s.data.toList).2.2 ≠ 0 then (ByteArray.empty, 0, (rdU s.data.toList).2.2)
  else if s.size < (rdU s.data.toList).2.1 + (rdU s.data.toList).1 then (ByteArray.empty, 0, 2)
  else (s.extract (rdU s.data.toList).2.1 ((rdU s.data.toList).2.1 + (rdU s.data.toList).1), (rdU s.data.toList).2.1 + (rdU s.data.toList).1, 0)
theorem extract_all (s : ByteArray) : s.extract 0 s.size = s := by
  apply ByteArray.ext
  rw [ByteArray.data_extract]
  exact Array.extract_size
theorem pv_drop : ∀ (l : List UInt8) (k n : Nat), k < l.length → pv (l.drop k) (n + 1) = (l.getD k 0).toNat % 128 + 128 * pv (l.drop (k + 1)) n
  | [], k, n, h => by simp at h
  | b :: r, 0, n, _ => by simp [pv]
  | b :: r, k + 1, n, h => by
    have := pv_drop r k n (by simpa using h)
    simpa using this
theorem pv_drop_le : ∀ (l : List UInt8) (k n : Nat), k + n ≤ l.length → pv (l.drop k) n ≤ pv l (k + n)
  | l, 0, n, _ => by simp
  | [], k + 1, n, h => by
    have : n = 0 := by simp at h
    subst this
    simp [pv_zero]
  | b :: r, k + 1, n, h => by
    have := pv_drop_le r k n (by simp at h; omega)
    rw [List.drop_succ_cons, show k + 1 + n = (k + n) + 1 by omega, pv]
    omega
theorem horner (s : ByteArray) (k n : Nat) (h : k ≤ n) (hn : n < s.size) :
    128 * pv (s.data.toList.drop (k + 1)) (n - k) + s[k].toNat % 128 = pv (s.data.toList.drop k) (n + 1 - k) ∧ pv (s.data.toList.drop k) (n + 1 - k) ≤ pv s.data.toList (n + 1) := by
  have hk : k < s.data.toList.length := by rw [len_l]; omega
  have := pv_drop s.data.toList k (n - k) hk
  rw [gd s k (by omega), show n - k + 1 = n + 1 - k by omega] at this
  have h2 := pv_drop_le s.data.toList k (n + 1 - k) (by rw [len_l]; omega)
  rw [show k + (n + 1 - k) = n + 1 by omega] at h2
  exact ⟨by omega, h2⟩
end Go.Proofs.YtjdfffkkpbabpaaGreat.Wm

namespace Go.Proofs.YtjdfffkkpbabpaaGreat.Wr
open Go.RowKit Wm
set_option linter.unusedVariables false
theorem ret3 {x y z x' y' z' : Int} {k : IntKind} (h : x = x') (h2 : y = y') (h3 : z = z') :
    Ending.returned (.tuple #[.int k x, .int .i64 y, .int .i64 z]) = .returned (.tuple #[.int k x', .int .i64 y', .int .i64 z']) := by rw [h, h2, h3]
set_option maxRecDepth 100000 in
set_option maxHeartbeats 400000 in
theorem whole_any (s : ByteArray) (w : World) (hs : s.size ≤ maxLen) :
    Calls Tryz.prog 165 #[.string s] w fun e w' => e = .returned (.tuple #[.int .u64 ((rd s.data.toList).1 : Int), .int .i64 ((rd s.data.toList).2.1 : Int), .int .i64 ((rd s.data.toList).2.2 : Int)]) ∧ w = w' := by
  unfold maxLen at hs
  go_enter Tryz.func165, Tryz.ntmps165
  go_wp2
  go_loop [2, 5] (fun x i => ∃ k : Nat, k ≤ s.size ∧ k ≤ 9 ∧ Hid (k ≤ lead s.data.toList 9) ∧ i = .int .i64 k ∧ x = .int .u64 (pv s.data.toList k : Nat)) (fun _ i => s.size - (intOf i).toNat)
  case atStart => exact ⟨0, Nat.zero_le _, by omega, Nat.zero_le _, rfl, by rw [pv_zero]; rfl⟩
  case round =>
    obtain ⟨k, hk, hk9, hl, rfl, rfl⟩ := hrel
    by_cases hlt : k < s.size
    · by_cases h9 : k = 9
      · subst h9
        go_wp2
        · have h1 : 1 < (s[9].toNat : Int) := by assumption
          go_ret3
          exact ⟨by rw [rd_tenth s hlt hl.out h1]; rfl, rfl⟩
        · have h0 : s[9].toNat = 0 := by assumption
          go_ret3
          exact ⟨by rw [rd_zero s 9 hlt hl.out h0 (by omega)]; rfl, rfl⟩
        · have h0 : ¬ s[9].toNat = 0 := by assumption
          have h1 : (s[9].toNat : Int) ≤ 1 := by assumption
          go_ret3
          refine ⟨?_, rfl⟩
          rw [rd_stop s 9 hlt hl.out (by omega) (fun _ => by omega) (.inr h0)]
          exact ret3 (or_step s.data.toList 9 _ (by rw [len_l]; exact hlt) (by rw [gd s 9 hlt]) (.inr ⟨rfl, by omega⟩)) rfl rfl
      · have h9' : ((k : Int) == 9) = false := by simp; omega
        go_wp2
        · have h1 : 128 ≤ (s[k].toNat : Int) := by assumption
          go_round
          case rel => exact ⟨k + 1, by omega, by omega, lead_more s k hlt (by omega) hl.out h1, by go_num, by rw [or_step s.data.toList k _ (by rw [len_l]; exact hlt) (by rw [gd s k hlt]) (.inl (by omega))]⟩
          case measure => simp [intOf]; omega
        · have h0 : s[k].toNat = 0 := by assumption
          have hp : 0 < k := by assumption
          go_ret3
          exact ⟨by rw [rd_zero s k hlt hl.out h0 hp]; rfl, rfl⟩
        · have h0 : s[k].toNat = 0 := by assumption
          have hp : ¬ 0 < k := by assumption
          go_ret3
          refine ⟨?_, rfl⟩
          rw [rd_stop s k hlt hl.out (by omega) (fun _ => by omega) (.inl (by omega))]
          exact ret3 (or_step s.data.toList k 0 (by rw [len_l]; exact hlt) (by rw [gd s k hlt]; exact h0.symm) (.inl (by omega))) (by simp) rfl
        · have h0 : ¬ s[k].toNat = 0 := by assumption
          have h1 : (s[k].toNat : Int) < 128 := by assumption
          go_ret3
          refine ⟨?_, rfl⟩
          rw [rd_stop s k hlt hl.out (by omega) (fun _ => by omega) (.inr h0)]
          exact ret3 (or_step s.data.toList k _ (by rw [len_l]; exact hlt) (by rw [gd s k hlt]) (.inl (by omega))) (by simp) rfl
    · go_wp2
      go_ret3
      exact ⟨by rw [rd_short s k hlt hl.out]; rfl, rfl⟩
set_option maxRecDepth 100000 in
theorem number_any (s : ByteArray) (w : World) (hs : s.size ≤ maxLen) :
    Calls Tryz.prog 138 #[.string s] w fun e w' => e = .returned (.tuple #[.int .i64 ((rdU s.data.toList).1 : Int), .int .i64 ((rdU s.data.toList).2.1 : Int), .int .i64 ((rdU s.data.toList).2.2 : Int)]) ∧ w = w' := by
  have c := whole_any s w hs
  rcases rdU_cases s.data.toList with ⟨h, h2⟩ | ⟨h, h2⟩ | ⟨x, n, h2, hx, h⟩ | ⟨x, n, h2, hx, h⟩
  all_goals
    rw [h2] at c
    rw [h]
    clear h h2
    go_enter Tryz.func138, Tryz.ntmps138
    go_wp2_with (go_at_call 165; refine c.mono ?_; rintro e w' ⟨rfl, rfl⟩)
    go_ret3
    exact ⟨rfl, rfl⟩
theorem ret1 {x x' : Int} {k : IntKind} (h : x = x') : Ending.returned (.int k x) = .returned (.int k x') := by rw [h]
theorem horner_rel (s : ByteArray) (j n : Nat) (hj : j ≤ n) (hns : n < s.size) (X : Nat) (hX : X = pv (s.data.toList.drop (j + 1)) (n - j)) :
    (∃ k : Nat, k ≤ n ∧ Value.int .i64 ((j : Int) - 1) = .int .i64 k ∧ Value.int .u64 (128 * (X : Int) + (s[j].toNat : Int) % 128) = .int .u64 (pv (s.data.toList.drop (k + 1)) (n - k) : Nat)) ∨
      (Value.int .i64 ((j : Int) - 1) = .int .i64 (-1) ∧ Value.int .u64 (128 * (X : Int) + (s[j].toNat : Int) % 128) = .int .u64 (pv s.data.toList (n + 1) : Nat)) := by
  have hh := (horner s j n hj hns).1
  rw [← hX] at hh
  have e : 128 * (X : Int) + (s[j].toNat : Int) % 128 = ((pv (s.data.toList.drop j) (n + 1 - j) : Nat) : Int) := by omega
  rw [e]
  cases j with
  | zero => right; exact ⟨rfl, by simp⟩
  | succ j =>
    left
    exact ⟨j, by omega, by rw [show ((j + 1 : Nat) : Int) - 1 = (j : Int) by omega], by rw [show n + 1 - (j + 1) = n - j by omega]⟩
set_option maxRecDepth 100000 in
set_option maxHeartbeats 400000 in
theorem read_any (s : ByteArray) (w : World) (hs : s.size ≤ maxLen) :
    Calls Tryz.prog 114 #[.string s] w fun e w' => e = .returned (.tuple #[.int .u64 ((rd s.data.toList).1 : Int), .int .i64 ((rd s.data.toList).2.1 : Int), .int .i64 ((rd s.data.toList).2.2 : Int)]) ∧ w = w' := by
  unfold maxLen at hs
  go_enter Tryz.func114, Tryz.ntmps114
  go_wp2
  go_loop [5] (fun i => ∃ k : Nat, k ≤ s.size ∧ k ≤ 9 ∧ Hid (k ≤ lead s.data.toList 9) ∧ i = .int .i64 k) (fun i => s.size - (intOf i).toNat)
  case atStart => exact ⟨0, Nat.zero_le _, by omega, Nat.zero_le _, rfl⟩
  case round =>
    obtain ⟨k, hk, hk9, hl, rfl⟩ := hrel
    by_cases hlt : k < s.size
    · by_cases hb : 128 ≤ s[k].toNat ∧ k < 9
      · obtain ⟨hb1, hb2⟩ := hb
        have hc1 : 128 ≤ (s[k].toNat : Int) := by omega
        have hc2 : (k : Int) < 9 := by omega
        go_wp2
        go_round
        case rel => exact ⟨k + 1, by omega, by omega, lead_more s k hlt hb2 hl.out hc1, by go_num⟩
        case measure => simp [intOf]; omega
      · have hne : ((k : Int) == (s.size : Int)) = false := by simp; omega
        by_cases hf : k = 9 ∧ 1 < s[k].toNat
        · obtain ⟨rfl, hf⟩ := hf
          have h1 : 1 < (s[9].toNat : Int) := by omega
          go_wp2
          all_goals go_ret3
          all_goals exact ⟨by rw [rd_tenth s hlt hl.out h1]; rfl, rfl⟩
        · by_cases hz : 0 < k ∧ s[k].toNat = 0
          · obtain ⟨hp, hz⟩ := hz
            have hlt128 : (s[k].toNat : Int) < 128 := by omega
            have hz0 : ((s[k].toNat : Int) == 0) = true := by simp [hz]
            have hrd := Lib.hid (rd_zero s k hlt hl.out hz hp)
            clear hb hf hz
            by_cases h9 : k = 9
            · subst h9
              go_wp2
              all_goals (go_ret3; exact ⟨by rw [hrd.out]; rfl, rfl⟩)
            · have h9' : ((k : Int) == 9) = false := by simp; omega
              go_wp2
              all_goals (go_ret3; exact ⟨by rw [hrd.out]; rfl, rfl⟩)
          · have hrd0 := rd_stop s k hlt hl.out (by omega) (fun _ => by omega) (by omega)
            have hbound := (rd_ok hrd0).2.2.2
            have hrd := Lib.hid hrd0
            have hlt128 : (s[k].toNat : Int) < 128 := by omega
            have hcases : (k = 9 ∧ (s[k].toNat : Int) ≤ 1 ∧ ((s[k].toNat : Int) == 0) = false) ∨ k = 0 ∨ (((k : Int) == 9) = false ∧ 0 < k ∧ ((s[k].toNat : Int) == 0) = false) := by
              simp; omega
            obtain ⟨n, hn, hns, hn9, hrdn, hpb⟩ : ∃ n, Hid (n = k) ∧ n < s.size ∧ n ≤ 9 ∧ Hid (rd s.data.toList = (pv s.data.toList (n + 1), n + 1, 0)) ∧ pv s.data.toList (n + 1) < 18446744073709551616 := ⟨k, rfl, hlt, hk9, hrd, hbound⟩
            clear hb hf hz hrd0 hrd hl hbound
            rcases hcases with ⟨rfl, ha1, ha2⟩ | rfl | ⟨ha1, ha2, ha3⟩
            all_goals
              go_wp2
              go_loop [6, 7] (fun x i => (∃ j : Nat, j ≤ n ∧ i = .int .i64 j ∧ x = .int .u64 (pv (s.data.toList.drop (j + 1)) (n - j) : Nat)) ∨ (i = .int .i64 (-1) ∧ x = .int .u64 (pv s.data.toList (n + 1) : Nat))) (fun _ i => (intOf i + 1).toNat)
              case atStart => exact .inl ⟨n, Nat.le_refl _, by have hn' := hn.out; subst hn'; rfl, by rw [Nat.sub_self, pv_zero]; rfl⟩
              case round =>
                rcases hrel with ⟨j, hj, rfl, rfl⟩ | ⟨rfl, rfl⟩
                · obtain ⟨hh1, hh2⟩ := horner s j n hj hns
                  have hjs : j < s.size := by omega
                  obtain ⟨X, hX⟩ : ∃ X, Hid (X = pv (s.data.toList.drop (j + 1)) (n - j)) := ⟨_, rfl⟩
                  rw [← hX.out] at hh1 ⊢
                  have hX1 : 128 * (X : Int) + (s[j].toNat : Int) % 128 ≤ 18446744073709551615 := by omega
                  have HH := Lib.hid hh1
                  clear hh1 hh2
                  go_wp2
                  go_round
                  case rel => exact horner_rel s j n hj hns X hX.out
                  case measure => simp only [intOf]; omega
                · go_wp2
                  go_ret3
                  refine ⟨?_, rfl⟩
                  rw [hrdn.out]
                  have hn' := hn.out
                  exact ret3 rfl (by show _ = ((n + 1 : Nat) : Int); omega) rfl
    · have hne : ((k : Int) == (s.size : Int)) = true := by simp; omega
      go_wp2
      go_ret3
      exact ⟨by rw [rd_short s k hlt hl.out]; rfl, rfl⟩
set_option maxRecDepth 100000 in
theorem readUint_any (s : ByteArray) (w : World) (hs : s.size ≤ maxLen) :
    Calls Tryz.prog 81 #[.string s] w fun e w' => e = .returned (.tuple #[.int .i64 ((rdU s.data.toList).1 : Int), .int .i64 ((rdU s.data.toList).2.1 : Int), .int .i64 ((rdU s.data.toList).2.2 : Int)]) ∧ w = w' := by
  have c := read_any s w hs
  rcases rdU_cases s.data.toList with ⟨h, h2⟩ | ⟨h, h2⟩ | ⟨x, n, h2, hx, h⟩ | ⟨x, n, h2, hx, h⟩
  all_goals
    rw [h2] at c
    rw [h]
    clear h h2
    go_enter Tryz.func81, Tryz.ntmps81
    go_wp2_with (go_at_call 114; refine c.mono ?_; rintro e w' ⟨rfl, rfl⟩)
    go_ret3
    exact ⟨rfl, rfl⟩
end Go.Proofs.YtjdfffkkpbabpaaGreat.Wr

namespace Go.Proofs.YtjdfffkkpbabpaaGreat.Wr
open Go.RowKit Wm
set_option linter.unusedVariables false
theorem rdU_ok {l : List UInt8} {x n : Nat} (h : rdU l = (x, n, 0)) : n ≤ l.length ∧ vb x = l.take n ∧ 0 < n ∧ x ≤ 9223372036854775807 ∧ rd l = (x, n, 0) := by
  rcases rdU_cases l with ⟨h1, _⟩ | ⟨h1, _⟩ | ⟨_, _, _, _, h1⟩ | ⟨x', n', h2, hx, h1⟩
  · rw [h1] at h; simp at h
  · rw [h1] at h; simp at h
  · rw [h1] at h; simp at h
  · rw [h1] at h
    simp only [Prod.mk.injEq] at h
    obtain ⟨rfl, rfl, _⟩ := h
    have := rd_ok h2
    exact ⟨this.1, this.2.1, this.2.2.1, hx, h2⟩
theorem rdT_cases (s : ByteArray) : (∃ e, e ≠ 0 ∧ e ≤ 3 ∧ rdU s.data.toList = (0, 0, e) ∧ rdT s = (ByteArray.empty, 0, e)) ∨
    (∃ x n, rdU s.data.toList = (x, n, 0) ∧ n ≤ s.size ∧ s.size - n < x ∧ x ≤ 9223372036854775807 ∧ rdT s = (ByteArray.empty, 0, 2)) ∨
    ∃ x n, rdU s.data.toList = (x, n, 0) ∧ n ≤ s.size ∧ x ≤ s.size - n ∧ rdT s = (s.extract n (n + x), n + x, 0) := by
  unfold rdT
  rcases rdU_cases s.data.toList with ⟨h, _⟩ | ⟨h, _⟩ | ⟨_, _, _, _, h⟩ | ⟨x, n, _, _, h⟩
  · left; exact ⟨2, by omega, by omega, h, by rw [h]; rfl⟩
  · left; exact ⟨3, by omega, by omega, h, by rw [h]; rfl⟩
  · left; exact ⟨3, by omega, by omega, h, by rw [h]; rfl⟩
  · right
    have hk := rdU_ok h
    have hn := hk.1
    rw [len_l] at hn
    by_cases hx : x ≤ s.size - n
    · right
      exact ⟨x, n, h, hn, hx, by rw [h]; simp; omega⟩
    · left
      exact ⟨x, n, h, hn, by omega, hk.2.2.2.1, by rw [h]; simp; omega⟩
theorem ret3s {x x' : ByteArray} {y z y' z' : Int} (h : x = x') (h2 : y = y') (h3 : z = z') :
    Ending.returned (.tuple #[.string x, .int .i64 y, .int .i64 z]) = .returned (.tuple #[.string x', .int .i64 y', .int .i64 z']) := by rw [h, h2, h3]
set_option maxRecDepth 100000 in
theorem readText_any (s : ByteArray) (w : World) (hs : s.size ≤ maxLen) :
    Calls Tryz.prog 80 #[.string s] w fun e w' => e = .returned (.tuple #[.string (rdT s).1, .int .i64 ((rdT s).2.1 : Int), .int .i64 ((rdT s).2.2 : Int)]) ∧ w = w' := by
  have c := readUint_any s w hs
  unfold maxLen at hs
  rcases rdT_cases s with ⟨e, h0, h1, h, h2⟩ | ⟨x, n, h, hn, hx, hxm, h2⟩ | ⟨x, n, h, hn, hx, h2⟩
  · rw [h] at c
    rw [h2]
    have hne : ((e : Int) == 0) = false := by simp; omega
    have hne' : (!((e : Int) == 0)) = true := by simp; omega
    clear h h2 h0
    go_enter Tryz.func80, Tryz.ntmps80
    go_wp2_with (go_at_call 81; refine c.mono ?_; rintro e w' ⟨rfl, rfl⟩)
    go_ret3
    exact ⟨rfl, rfl⟩
  · rw [h] at c
    rw [h2]
    have hlt : (s.size : Int) - n < x := by omega
    clear h h2
    go_enter Tryz.func80, Tryz.ntmps80
    go_wp2_with (go_at_call 81; refine c.mono ?_; rintro e w' ⟨rfl, rfl⟩)
    go_ret3
    exact ⟨rfl, rfl⟩
  · rw [h] at c
    rw [h2]
    have hlt : (x : Int) ≤ (s.size : Int) - n := by omega
    have hsum : (n : Int) + x ≤ s.size := by omega
    clear h h2
    go_enter Tryz.func80, Tryz.ntmps80
    go_wp2_with (go_at_call 81; refine c.mono ?_; rintro e w' ⟨rfl, rfl⟩)
    go_ret3
    exact ⟨ret3s rfl (by simp) rfl, rfl⟩
def Rat (w : World) (b : Nat) (s : ByteArray) : Prop := w.cell? ⟨b, 0, none⟩ = some (.string s) ∧ w.frozen? ⟨b, 0, none⟩ = false
theorem grown_refl (w : World) (r : Option Nat) : w.grownBy w r := ⟨rfl, rfl, rfl, Nat.le_refl _, fun _ _ _ => rfl⟩
theorem grown_set (w : World) (b : Nat) (u : Value) : w.grownBy (w.setCell ⟨b, 0, none⟩ u) (some b) :=
  ⟨rfl, rfl, rfl, by simp [World.setCell], fun k _ hne => Below.heap_setCell w ⟨b, 0, none⟩ u k (fun e => hne (by rw [e]))⟩
theorem rat_set {w : World} {b : Nat} {s : ByteArray} (h : Rat w b s) (t : ByteArray) : Rat (w.setCell ⟨b, 0, none⟩ (.string t)) b t := by
  obtain ⟨h1, h2⟩ := h
  exact ⟨World.cell?_setCell_same _ _ _ h1, (World.frozen?_setCell _ _ _ _).trans h2⟩
set_option maxRecDepth 100000 in
theorem uint_any (b : Nat) (s : ByteArray) (w : World) (h : Rat w b s) (hs : s.size ≤ maxLen) :
    Calls Tryz.prog 139 #[.pointer (some ⟨b, 0, none⟩)] w fun e w' => e = .returned (.tuple #[.int .i64 ((rdU s.data.toList).1 : Int), .int .i64 ((rdU s.data.toList).2.2 : Int)]) ∧ Rat w' b (s.extract (rdU s.data.toList).2.1 s.size) ∧ w.grownBy w' (some b) := by
  have c := number_any s w hs
  have hall := rat_set h
  have hsame : Rat w b (s.extract 0 s.size) := by rw [extract_all]; exact h
  obtain ⟨h1, h2⟩ := h
  unfold maxLen at hs
  rcases rdU_cases s.data.toList with ⟨hr, _⟩ | ⟨hr, _⟩ | ⟨_, _, _, _, hr⟩ | ⟨x, n, _, _, hr⟩
  rotate_right
  · obtain ⟨hn, _, _, hx, _⟩ := rdU_ok hr
    rw [len_l] at hn
    rw [hr] at c ⊢
    have hn' : (n : Int) ≤ s.size := by omega
    clear hr
    go_enter Tryz.func139, Tryz.ntmps139
    go_wp2_with (go_at_call 138; refine c.mono ?_; rintro e w' ⟨rfl, rfl⟩)
    go_ret2
    exact ⟨rfl, hall _, grown_set _ _ _⟩
  all_goals
    rw [hr] at c ⊢
    clear hr
    go_enter Tryz.func139, Tryz.ntmps139
    go_wp2_with (go_at_call 138; refine c.mono ?_; rintro e w' ⟨rfl, rfl⟩)
    go_ret2
    exact ⟨rfl, hsame, grown_refl _ _⟩
theorem ret2s {x x' : ByteArray} {y y' : Int} (h : x = x') (h2 : y = y') : Ending.returned (.tuple #[.string x, .int .i64 y]) = .returned (.tuple #[.string x', .int .i64 y']) := by rw [h, h2]
theorem behind (s : ByteArray) (n x : Nat) (h : n ≤ s.size) (hx : x ≤ s.size - n) : (s.extract n s.size).extract x (s.size - n) = s.extract (n + x) s.size := by
  rw [ByteArray.extract_extract]
  congr 1
  omega
theorem front (s : ByteArray) (n x : Nat) (h : n ≤ s.size) (hx : x ≤ s.size - n) : (s.extract n s.size).extract 0 x = s.extract n (n + x) := by
  rw [ByteArray.extract_extract]
  congr 1
  omega
set_option maxRecDepth 100000 in
theorem text_any (b : Nat) (s : ByteArray) (w : World) (h : Rat w b s) (hs : s.size ≤ maxLen) :
    Calls Tryz.prog 107 #[.pointer (some ⟨b, 0, none⟩)] w fun e w' => e = .returned (.tuple #[.string (rdT s).1, .int .i64 ((rdT s).2.2 : Int)]) ∧ Rat w' b (s.extract (rdT s).2.1 s.size) ∧ w.grownBy w' (some b) := by
  have c := number_any s w hs
  have hall := rat_set h
  have hsame : Rat w b (s.extract 0 s.size) := by rw [extract_all]; exact h
  obtain ⟨h1, h2⟩ := h
  unfold maxLen at hs
  rcases rdT_cases s with ⟨e, h0, h4, h, h3⟩ | ⟨x, n, h, hn, hx, hxm, h3⟩ | ⟨x, n, h, hn, hx, h3⟩
  · rw [h] at c
    rw [h3]
    have hne : ((e : Int) == 0) = false := by simp; omega
    have hne' : (!((e : Int) == 0)) = true := by simp; omega
    clear h h3 h0
    go_enter Tryz.func107, Tryz.ntmps107
    go_wp2_with (go_at_call 138; refine c.mono ?_; rintro e w' ⟨rfl, rfl⟩)
    go_ret2
    exact ⟨rfl, hsame, grown_refl _ _⟩
  · rw [h] at c
    rw [h3]
    have hlt : (s.size : Int) - n < x := by omega
    have hn' : (n : Int) ≤ s.size := by omega
    clear h h3
    go_enter Tryz.func107, Tryz.ntmps107
    go_wp2_with (go_at_call 138; refine c.mono ?_; rintro e w' ⟨rfl, rfl⟩)
    go_ret2
    exact ⟨rfl, hsame, grown_refl _ _⟩
  · rw [h] at c
    rw [h3]
    have hlt : (x : Int) ≤ (s.size : Int) - n := by omega
    have hn' : (n : Int) ≤ s.size := by omega
    clear h h3
    go_enter Tryz.func107, Tryz.ntmps107
    go_wp2_with (go_at_call 138; refine c.mono ?_; rintro e w' ⟨rfl, rfl⟩)
    go_ret2
    exact ⟨ret2s (front s n x hn hx) rfl, by rw [behind s n x hn hx]; exact hall _, grown_set _ _ _⟩
set_option maxRecDepth 100000 in
theorem left_any (b : Nat) (s : ByteArray) (w : World) (h : Rat w b s) (hs : s.size ≤ maxLen) :
    Calls Tryz.prog 108 #[.pointer (some ⟨b, 0, none⟩)] w fun e w' => e = .returned (.int .i64 (s.size : Int)) ∧ w = w' := by
  obtain ⟨h1, h2⟩ := h
  unfold maxLen at hs
  go_enter Tryz.func108, Tryz.ntmps108
  go_wp2
  go_ret
  exact ⟨rfl, rfl⟩
def dn (n : Nat) : Int := if n = 0 then 0 else 5
set_option maxRecDepth 100000 in
theorem done_any (b : Nat) (s : ByteArray) (w : World) (h : Rat w b s) (hs : s.size ≤ maxLen) :
    Calls Tryz.prog 141 #[.pointer (some ⟨b, 0, none⟩)] w fun e w' => e = .returned (.int .i64 (dn s.size)) ∧ w = w' := by
  obtain ⟨h1, h2⟩ := h
  unfold maxLen at hs
  by_cases h : s.size = 0
  · have e : s.toList = [] := by
      rw [ByteArray.toList_eq]
      apply List.eq_nil_of_length_eq_zero
      rw [len_l]
      exact h
    have e2 : (!s.toList.isEmpty) = false := by simp [e]
    have hd : dn s.size = 0 := by rw [dn, if_pos h]
    rw [hd]
    clear hd h
    go_enter Tryz.func141, Tryz.ntmps141
    go_wp2
    go_ret
    exact ⟨rfl, rfl⟩
  · have hd : dn s.size = 5 := by rw [dn, if_neg h]
    rw [hd]
    have e2 : s.toList.isEmpty = false := by
      apply Bool.eq_false_iff.2
      intro hc
      apply h
      have := List.isEmpty_iff.1 hc
      have := congrArg List.length this
      rw [ByteArray.toList_eq, len_l] at this
      exact this
    clear hd h
    go_enter Tryz.func141, Tryz.ntmps141
    go_wp2
    go_ret
    exact ⟨rfl, rfl⟩
set_option maxRecDepth 100000 in
theorem new_any (s : ByteArray) (w : World) :
    Calls Tryz.prog 106 #[.string s] w fun e w' => e = .returned (.pointer (some ⟨w.heap.size, 0, none⟩)) ∧ w.alloc (.cells #[.string s] 173) = w' := by
  go_enter Tryz.func106, Tryz.ntmps106
  go_wp2
  go_ret
  exact ⟨rfl, rfl⟩
theorem rat_new (w : World) (s : ByteArray) : Rat (w.alloc (.cells #[.string s] 173)) w.heap.size s := by
  constructor
  · go_simp
  · go_simp
end Go.Proofs.YtjdfffkkpbabpaaGreat.Wr

namespace Go.Proofs.YtjdfffkkpbabpaaGreat.Wr
open Go.RowKit Wm
set_option linter.unusedVariables false
def bv (b : UInt8) : Value := .int .u8 (b.toNat : Int)
theorem info5 : (Tryz.prog.info? 5).map (fun i => (i.zero, i.size, i.bytes)) = some (some (.int .u8 0), 1, 1) := by kernel_rfl
theorem own_str {w : World} {base : Nat} {v : Value} {n : Nat} {l : List UInt8} (h : w.ownsRow base 5 1 v n (l.map bv)) (hl : l.length = n) (hn : 0 < n) :
    ∃ g cap, v = .slice (some ⟨g, 0, none⟩) n cap ∧ (convert 143 9 (.slice (some ⟨g, 0, none⟩) n cap)).run Tryz.prog w = .ok (.string ⟨l.toArray⟩) w := by
  rcases h.2 with ⟨_, h0⟩ | ⟨g, cap, cur, hv, _⟩
  · omega
  · refine ⟨g, cap, hv, ?_⟩
    subst hl
    refine run_convert_bytes_back w 143 9 5 ⟨g, 0, none⟩ cap l Tryz.underlying143 Tryz.underlying5 Tryz.underlying9 ?_
    intro j hj
    refine h.cells (g := g) (by rw [hv]; rfl) j _ ?_
    rw [List.getElem?_map, List.getElem?_eq_getElem hj]
    rfl
theorem below_step {w wr w1 : World} {e : TypeId} {size n : Nat} {v : Value} {xs : List Value} {o : Obj} (hb : Below w.heap.size w wr) (hown : wr.ownsRow w.heap.size e size v n xs) (hg : (wr.alloc o).grownBy w1 v.ownBlock) : Below w.heap.size w w1 :=
  (hb.alloc hb.size o).grown hg (by have := hb.size; simp; omega) (fun k hk => (hown.lt k hk).1)
theorem or128 (y : Nat) : Value.int .u8 (bits .or .u8 ((y : Int) % 256) 128) = bv (UInt8.ofNat (128 + y % 128)) := by
  have e : ((y : Int) % 256) = ((y % 256 : Nat) : Int) := by omega
  have h := u8_or_nat (y % 256) 128 (by omega) (by omega)
  have e1 : y % 256 = y % 128 + 128 * (y / 128 % 2) := by omega
  have e2 : y % 256 ||| 128 = 128 + y % 128 := by
    rw [e1]
    rcases Nat.mod_two_eq_zero_or_one (y / 128) with h0 | h0
    · rw [h0, Nat.mul_zero, Nat.add_zero, Nat.or_comm, nat_join 7 128 _ (by decide) (by omega)]
    · rw [h0, Nat.mul_one, Nat.add_comm, ← nat_join 7 128 (y % 128) (by decide) (by omega), Nat.or_comm, ← Nat.or_assoc, Nat.or_self]
  rw [e, show (128 : Int) = ((128 : Nat) : Int) from rfl, h, e2, bv]
  congr 1
  simp
  omega
theorem low_byte (y : Nat) (h : y < 128) : Value.int .u8 (y : Int) = bv (UInt8.ofNat y) := by
  rw [bv]
  congr 1
  simp
  omega
set_option maxRecDepth 100000 in
set_option maxHeartbeats 400000 in
theorem varint_any (X : Nat) (w : World) (hX : X < 18446744073709551616) :
    Calls Tryz.prog 101 #[.int .u64 (X : Int)] w fun e w' => e = .returned (.string (vs X)) ∧ Below w.heap.size w w' := by
  obtain ⟨i0, hi, hz0, hz1, hz2⟩ := info_parts info5
  have hlen := vb_len hX
  go_enter Tryz.func101, Tryz.ntmps101
  go_wp2
  go_loopw [0, 3] (fun x v wr => ∃ (pre : List UInt8) (y : Nat), x = .int .u64 y ∧ Hid (vb X = pre ++ vb y) ∧ y < 18446744073709551616 ∧ wr.ownsRow w.heap.size 5 1 v pre.length (pre.map bv) ∧ Below w.heap.size w wr) (fun x _ _ => (intOf x).toNat)
  case atStart => exact ⟨[], X, rfl, rfl, hX, World.ownsRow_nil _ _ _ _, Below.refl _ _⟩
  case round =>
    obtain ⟨pre, y, rfl, hv, hy, hown, hb⟩ := hrel
    have hpl : pre.length + 1 ≤ 10 := by
      have h1 := congrArg List.length hv.out
      have h2 := vb_pos y
      rw [List.length_append] at h1
      omega
    have hsz := hb.size
    by_cases hlt : y < 128
    · go_wp2_with (at_builtin; refine wpList_append_own _ rfl _ _ 143 rfl w.heap.size 5 i0 (.int .u8 0) 1 1 Tryz.underlying143 hi hz0 hz1 hz2 rfl (by decide) _ _ _ rfl (hown.alloc _) ⟨wr.heap.size, 0, none⟩ 1 1 [.int .u8 (y : Int)] rfl rfl ?c1 ?c2 ?c3 ?c4 ?c5 ?_)
      case c1 => exact cell_one_new _ _ _
      case c2 => intro u hu; simp at hu; subst hu; rfl
      case c3 => unfold maxLen; omega
      case c4 => omega
      case c5 => simp; omega
      intro v' w1 hown' hgrow _
      have hb' := below_step hb hown hgrow
      rw [low_byte y hlt, show [bv (UInt8.ofNat y)] = [UInt8.ofNat y].map bv from rfl, ← List.map_append] at hown'
      obtain ⟨g, cap, hv', hc⟩ := own_str hown' (by simp) (by omega)
      have hres : (⟨(pre ++ [UInt8.ofNat y]).toArray⟩ : ByteArray) = vs X := by rw [vs, hv.out, vb_lo hlt]
      rw [hres] at hc
      clear hown hown' hgrow hres hv hb
      rw [hv']
      clear hv'
      go_wp2
      go_ret
      exact ⟨rfl, hb'⟩
    · go_wp2_with (at_builtin; refine wpList_append_own _ rfl _ _ 143 rfl w.heap.size 5 i0 (.int .u8 0) 1 1 Tryz.underlying143 hi hz0 hz1 hz2 rfl (by decide) _ _ _ rfl (hown.alloc _) ⟨wr.heap.size, 0, none⟩ 1 1 [.int .u8 (bits .or .u8 ((y : Int) % 256) 128)] rfl rfl ?c1 ?c2 ?c3 ?c4 ?c5 ?_)
      case c1 => exact cell_one_new _ _ _
      case c2 => intro u hu; simp at hu; subst hu; rfl
      case c3 => unfold maxLen; omega
      case c4 => omega
      case c5 => simp; omega
      intro v' w1 hown' hgrow _
      have hb' := below_step hb hown hgrow
      rw [or128 y, show [bv (UInt8.ofNat (128 + y % 128))] = [UInt8.ofNat (128 + y % 128)].map bv from rfl, ← List.map_append] at hown'
      have hv2 : Hid (vb X = (pre ++ [UInt8.ofNat (128 + y % 128)]) ++ vb (y / 128)) := by
        show vb X = _
        rw [hv.out, vb_hi (by omega), List.append_assoc]; rfl
      clear hown hgrow hv hb
      go_wp2
      go_roundw
      case rel => exact ⟨_, y / 128, by go_num, hv2, by omega, by simpa using hown', hb'⟩
      case measure => simp [intOf]; omega
end Go.Proofs.YtjdfffkkpbabpaaGreat.Wr

namespace Go.Proofs.YtjdfffkkpbabpaaGreat.Wr
open Go.RowKit Wm
set_option linter.unusedVariables false
def b1 (b : UInt8) : ByteArray := ⟨#[b]⟩
theorem b1_le (b : UInt8) : (b1 b).size ≤ 1 := Nat.le_refl _
theorem vs_le {x : Nat} (h : x < 18446744073709551616) : (vs x).size ≤ 10 := by rw [vs_size]; exact vb_len h
theorem vs_lo {x : Nat} (h : x < 128) : b1 (UInt8.ofNat x) = vs x := by rw [b1, vs, vb_lo h]
theorem vs_hi {x : Nat} (h : 128 ≤ x) : b1 (UInt8.ofNat (128 + x % 128)) ++ vs (x / 128) = vs x := by
  conv => rhs; rw [vs, vb_hi h]
  apply ByteArray.ext
  simp [b1, vs]
theorem conv_one (b : UInt8) (W : World) (g : Nat) (h : W.cell? ⟨g, 0, none⟩ = some (bv b)) : (convert 143 9 (.slice (some ⟨g, 0, none⟩) 1 1)).run Tryz.prog W = .ok (.string (b1 b)) W :=
  run_convert_bytes_back W 143 9 5 ⟨g, 0, none⟩ 1 [b] Tryz.underlying143 Tryz.underlying5 Tryz.underlying9 (fun j hj => by
    match j, hj with
    | 0, _ => exact h)
theorem kept_cell {w w1 : World} {v : Value} {t : TypeId} (hb : Below (w.alloc (.cells #[v] t)).drew.heap.size (w.alloc (.cells #[v] t)).drew w1) : w1.cell? ⟨w.heap.size, 0, none⟩ = some v := by
  refine (hb.cell (p := ⟨w.heap.size, 0, none⟩) ?_).trans ?_
  · simp
  · go_simp
theorem below_ac {w w1 : World} {o : Obj} (hb : Below (w.alloc o).drew.heap.size (w.alloc o).drew w1) : Below w.heap.size w w1 :=
  (((Below.refl _ _).alloc (Nat.le_refl _) o).drew).trans (hb.mono (by simp))
theorem below_ca {w w1 : World} {o : Obj} (hb : Below w.drew.heap.size w.drew w1) : Below w.heap.size w (w1.alloc o) :=
  ((Below.refl _ w).drew.trans hb).alloc hb.size o
set_option maxRecDepth 100000 in
set_option maxHeartbeats 1000000 in
theorem refvarint_any (k : Nat) : ∀ (X : Nat) (w : World), X < 128 ^ (k + 1) → X < 18446744073709551616 →
    Calls Tryz.prog 121 #[.int .u64 (X : Int)] w fun e w' => e = .returned (.string (vs X)) ∧ Below w.heap.size w w' := by
  induction k with
  | zero =>
    intro X w h hX
    have hlt : X < 128 := by omega
    have hcv := fun W g h => conv_one (UInt8.ofNat X) W g h
    rw [vs_lo hlt, ← low_byte X hlt] at hcv
    go_enter Tryz.func121, Tryz.ntmps121
    go_wp2_with fail
    go_ret
    exact ⟨rfl, (Below.refl _ _).alloc (Nat.le_refl _) _⟩
  | succ k ih =>
    intro X w h hX
    by_cases hlt : X < 128
    · have hcv := fun W g h => conv_one (UInt8.ofNat X) W g h
      rw [vs_lo hlt, ← low_byte X hlt] at hcv
      go_enter Tryz.func121, Tryz.ntmps121
      go_wp2_with fail
      go_ret
      exact ⟨rfl, (Below.refl _ _).alloc (Nat.le_refl _) _⟩
    · have hcv := fun W g h => conv_one (UInt8.ofNat (128 + X % 128)) W g h
      have e : bv (UInt8.ofNat (128 + X % 128)) = .int .u8 (128 + (X : Int) % 128) := by
        rw [bv]; congr 1; simp; omega
      rw [e] at hcv
      have hs1 := b1_le (UInt8.ofNat (128 + X % 128))
      have hs2 : (vs (X / 128)).size ≤ 10 := vs_le (by omega)
      rw [← vs_hi (by omega)]
      obtain ⟨B, hB⟩ : ∃ B, B = b1 (UInt8.ofNat (128 + X % 128)) := ⟨_, rfl⟩
      rw [← hB] at hcv hs1 ⊢
      clear hB e
      have hc := fun W => ih (X / 128) W (by rw [Nat.div_lt_iff_lt_mul (by omega)]; rw [Nat.pow_succ] at h; exact h) (by omega)
      obtain ⟨V, hV⟩ : ∃ V, V = vs (X / 128) := ⟨_, rfl⟩
      rw [← hV] at hc hs2 ⊢
      rw [show ((X / 128 : Nat) : Int) = (X : Int) / 128 by omega] at hc
      have ht : (X : Int).tmod 128 = (X : Int) % 128 := Int.tmod_eq_emod_of_nonneg (by omega)
      have hw1 : IntKind.u64.wrap (128 + (X : Int) % 128) = 128 + (X : Int) % 128 := by rw [IntKind.wrap_u64]; omega
      have hw2 : IntKind.u8.wrap (128 + (X : Int) % 128) = 128 + (X : Int) % 128 := by rw [IntKind.wrap_u8]; omega
      have hw3 : IntKind.u64.wrap ((X : Int) / 128) = (X : Int) / 128 := by rw [IntKind.wrap_u64]; omega
      clear hV ih h
      go_enter Tryz.func121, Tryz.ntmps121
      go_wp2_with fail
      go_region_with ((go_at_call 121; refine (hc _).mono ?_; rintro e w1 ⟨rfl, hb⟩; try (have hcl := kept_cell hb)))
      all_goals
        go_wp2_with fail
        go_ret
        first | exact ⟨rfl, below_ac hb⟩ | exact ⟨rfl, below_ca hb⟩
end Go.Proofs.YtjdfffkkpbabpaaGreat.Wr

namespace Go.Proofs.YtjdfffkkpbabpaaGreat.Wr
open Go.RowKit Wm
set_option linter.unusedVariables false
theorem below_at {w w1 w2 : World} {b : Nat} (h : Below w.heap.size w w1) (hg : w1.grownBy w2 (some b)) (hb : w.heap.size ≤ b) : Below w.heap.size w w2 :=
  h.grown hg h.size (fun k hk => by injection hk with hk; omega)
theorem below_call {w w1 w2 : World} (h : Below w.heap.size w w1) (h2 : Below w1.heap.size w1 w2) : Below w.heap.size w w2 := h.trans (h2.mono h.size)
def us (n : Int) : ByteArray := if n < 0 then ⟨#[]⟩ else vs n.toNat
def ue (n : Int) : Int := if n < 0 then 1 else 0
def ts (s : ByteArray) : ByteArray := vs s.size ++ s
set_option maxRecDepth 100000 in
theorem putUint_any (n : Int) (w : World) (h1 : -9223372036854775808 ≤ n) (h2 : n ≤ 9223372036854775807) :
    Calls Tryz.prog 100 #[.int .i64 n] w fun e w' => e = .returned (.tuple #[.string (us n), .int .i64 (ue n)]) ∧ Below w.heap.size w w' := by
  by_cases h : n < 0
  · rw [us, ue, if_pos h, if_pos h]
    go_enter Tryz.func100, Tryz.ntmps100
    go_wp2_with fail
    go_ret2
    exact ⟨rfl, Below.refl _ _⟩
  · have c := fun W => varint_any n.toNat W (by omega)
    rw [us, ue, if_neg h, if_neg h]
    have e : ((n.toNat : Nat) : Int) = n := by omega
    rw [e] at c
    clear e
    go_enter Tryz.func100, Tryz.ntmps100
    go_wp2_with (go_at_call 101; refine (c _).mono ?_; rintro e w1 ⟨rfl, hb⟩)
    go_ret2
    exact ⟨rfl, hb⟩
set_option maxRecDepth 100000 in
theorem putText_any (s : ByteArray) (w : World) (hs : s.size ≤ 9223372036854775797) :
    Calls Tryz.prog 67 #[.string s] w fun e w' => e = .returned (.string (ts s)) ∧ Below w.heap.size w w' := by
  have c := fun W => varint_any s.size W (by omega)
  have hv : (vs s.size).size ≤ 10 := vs_le (by omega)
  rw [ts]
  obtain ⟨V, hV⟩ : ∃ V, V = vs s.size := ⟨_, rfl⟩
  rw [← hV] at c hv ⊢
  clear hV
  have hsum : V.size + s.size ≤ 9223372036854775807 := by omega
  go_enter Tryz.func67, Tryz.ntmps67
  go_wp2_with (go_at_call 101; refine (c _).mono ?_; rintro e w1 ⟨rfl, hb⟩)
  go_ret
  exact ⟨rfl, hb⟩
set_option maxRecDepth 100000 in
theorem refText_any (s : ByteArray) (w : World) (hs : s.size ≤ 9223372036854775797) :
    Calls Tryz.prog 90 #[.string s] w fun e w' => e = .returned (.string (ts s)) ∧ Below w.heap.size w w' := by
  have c := fun W => refvarint_any 9 s.size W (by omega) (by omega)
  have hv : (vs s.size).size ≤ 10 := vs_le (by omega)
  rw [ts]
  obtain ⟨V, hV⟩ : ∃ V, V = vs s.size := ⟨_, rfl⟩
  rw [← hV] at c hv ⊢
  clear hV
  have hsum : V.size + s.size ≤ 9223372036854775807 := by omega
  go_enter Tryz.func90, Tryz.ntmps90
  go_wp2_with (go_at_call 121; refine (c _).mono ?_; rintro e w1 ⟨rfl, hb⟩)
  go_ret
  exact ⟨rfl, hb⟩
end Go.Proofs.YtjdfffkkpbabpaaGreat.Wr

namespace Go.Proofs.YtjdfffkkpbabpaaGreat.Fm
open Wm Wr
set_option linter.unusedVariables false
def cstep (c b : Nat) : Nat := if c % 2 = b then c / 2 else (c / 2) ^^^ 3988292384
def cbits : Nat → Nat → Nat → Nat
  | 0, c, _ => c
  | k + 1, c, x => cbits k (cstep c (x % 2)) (x / 2)
def csum (c : Nat) (l : List UInt8) : Nat := l.foldl (fun c b => cbits 8 c b.toNat) c
def fsum (l : List UInt8) : Nat := 4294967295 - csum 4294967295 l
theorem xor_lt {a b : Nat} (ha : a < 4294967296) (hb : b < 4294967296) : a ^^^ b < 4294967296 := Nat.xor_lt_two_pow (n := 32) ha hb
theorem fsum_lt (l : List UInt8) : fsum l < 4294967296 := by unfold fsum; omega
theorem csum_snoc (c : Nat) (l : List UInt8) (b : UInt8) : csum c (l ++ [b]) = cbits 8 (csum c l) b.toNat := by simp [csum]
theorem cbits_snoc : ∀ (k c x : Nat), cbits (k + 1) c x = cstep (cbits k c x) (x / 2 ^ k % 2)
  | 0, c, x => by simp [cbits]
  | k + 1, c, x => by
    have h := cbits_snoc k (cstep c (x % 2)) (x / 2)
    rw [cbits, h, cbits, Nat.div_div_eq_div_mul, Nat.pow_succ, Nat.mul_comm 2]
theorem csum_take (s : ByteArray) (i : Nat) (h : i < s.size) : csum 4294967295 (s.data.toList.take (i + 1)) = cbits 8 (csum 4294967295 (s.data.toList.take i)) s[i].toNat := by
  have h' : i < s.data.toList.length := by rw [len_l]; exact h
  rw [List.take_succ_eq_append_getElem h', csum_snoc]
  congr 2
theorem csum_all (s : ByteArray) : 4294967295 - csum 4294967295 (s.data.toList.take s.size) = fsum s.data.toList := by
  rw [← len_l, List.take_length]
  rfl
def le4 (c : Nat) : List UInt8 := [UInt8.ofNat (c % 256), UInt8.ofNat (c / 256 % 256), UInt8.ofNat (c / 256 / 256 % 256), UInt8.ofNat (c / 256 / 256 / 256 % 256)]
def sum4 (l : List UInt8) : ByteArray := ⟨(le4 (fsum l)).toArray⟩
def pk (s : ByteArray) : ByteArray := ts s ++ sum4 s.data.toList
theorem sum4_size (l : List UInt8) : (sum4 l).size = 4 := rfl
theorem pk_list (s : ByteArray) : (pk s).data.toList = vb s.size ++ (s.data.toList ++ le4 (fsum s.data.toList)) := by
  rw [pk, ByteArray.data_append, Array.toList_append, ts, ByteArray.data_append, Array.toList_append, vs_list, List.append_assoc]
  rfl
theorem pk_size (s : ByteArray) : (pk s).size = (vb s.size).length + s.size + 4 := by
  rw [← len_l, pk_list, List.length_append, List.length_append, len_l]
  have : (le4 (fsum s.data.toList)).length = 4 := rfl
  omega
def fr (s : ByteArray) : ByteArray × Nat × Nat :=
  if (rdT s).2.2 ≠ 0 then (⟨#[]⟩, 0, (rdT s).2.2)
  else if s.size - (rdT s).2.1 < 4 then (⟨#[]⟩, 0, 2)
  else if s.extract 0 ((rdT s).2.1 + 4) ≠ pk (rdT s).1 then (⟨#[]⟩, 0, 6)
  else ((rdT s).1, (rdT s).2.1 + 4, 0)
theorem fr_le (s : ByteArray) : (fr s).2.1 ≤ s.size := by
  unfold fr
  split
  · exact Nat.zero_le _
  · split
    · exact Nat.zero_le _
    · split
      · exact Nat.zero_le _
      · rename_i h1 h2 h3
        show (rdT s).2.1 + 4 ≤ s.size
        omega
theorem fr_ok {s t : ByteArray} {n : Nat} (h : fr s = (t, n, 0)) : rdT s = (t, n - 4, 0) ∧ 4 < n ∧ n ≤ s.size ∧ s.extract 0 n = pk t := by
  have hle := fr_le s
  rw [h] at hle
  unfold fr at h
  rcases rdT_cases s with ⟨e, h0, _, _, h3⟩ | ⟨x, m, _, _, _, _, h3⟩ | ⟨x, m, hu, hn, hx, h3⟩
  · rw [h3, if_pos h0] at h
    simp only [Prod.mk.injEq] at h
    exact absurd h.2.2 h0
  · rw [h3, if_pos (by simp)] at h
    simp at h
  · have hm := (rdU_ok hu).2.2.1
    rw [h3, if_neg (fun h => h rfl)] at h
    simp only at h
    split at h
    · simp at h
    · split at h
      · simp at h
      · rename_i h5 h6
        simp only [Prod.mk.injEq] at h
        obtain ⟨rfl, rfl, _⟩ := h
        refine ⟨by rw [h3, Nat.add_sub_cancel], by omega, hle, ?_⟩
        exact Decidable.byContradiction h6
theorem trip {α β γ : Type} (p : α × β × γ) : ∃ a b c, p = (a, b, c) := ⟨p.1, p.2.1, p.2.2, rfl⟩
def scf (s : ByteArray) : Nat → Nat → List ByteArray × Nat × Nat
  | 0, a => ([], a, 0)
  | f + 1, a => if a < s.size then
      match fr (s.extract a s.size) with
      | (t, n, e) => if e = 0 then (t :: (scf s f (a + n)).1, (scf s f (a + n)).2.1, (scf s f (a + n)).2.2) else ([], a, e)
    else ([], a, 0)
theorem scf_end {s : ByteArray} (f : Nat) {a : Nat} (h : ¬ a < s.size) : scf s f a = ([], a, 0) := by
  cases f with
  | zero => rfl
  | succ f => rw [scf, if_neg h]
theorem scf_bad {s t : ByteArray} (f : Nat) {a n e : Nat} (h : a < s.size) (h2 : fr (s.extract a s.size) = (t, n, e)) (he : e ≠ 0) : scf s (f + 1) a = ([], a, e) := by
  rw [scf, if_pos h, h2]
  exact if_neg he
theorem scf_one {s t : ByteArray} (f : Nat) {a n : Nat} (h : a < s.size) (h2 : fr (s.extract a s.size) = (t, n, 0)) : scf s (f + 1) a = (t :: (scf s f (a + n)).1, (scf s f (a + n)).2.1, (scf s f (a + n)).2.2) := by
  rw [scf, if_pos h, h2]
  exact if_pos rfl
theorem scf_fuel (s : ByteArray) : ∀ (f g a : Nat), s.size - a < f → s.size - a < g → scf s f a = scf s g a
  | 0, _, _, h, _ => absurd h (by omega)
  | _ + 1, 0, _, _, h => absurd h (by omega)
  | f + 1, g + 1, a, hf, hg => by
    by_cases h : a < s.size
    · obtain ⟨t, n, e, h2⟩ := trip (fr (s.extract a s.size))
      by_cases he : e = 0
      · subst he
        have hn := (fr_ok h2).2.1
        rw [scf_one f h h2, scf_one g h h2, scf_fuel s f g (a + n) (by omega) (by omega)]
      · rw [scf_bad f h h2 he, scf_bad g h h2 he]
    · rw [scf_end _ h, scf_end _ h]
def sc (s : ByteArray) (a : Nat) : List ByteArray × Nat × Nat := scf s (s.size + 1) a
theorem sc_end {s : ByteArray} {a : Nat} (h : ¬ a < s.size) : sc s a = ([], a, 0) := scf_end _ h
theorem sc_bad {s t : ByteArray} {a n e : Nat} (h : a < s.size) (h2 : fr (s.extract a s.size) = (t, n, e)) (he : e ≠ 0) : sc s a = ([], a, e) := scf_bad _ h h2 he
theorem sc_one {s t : ByteArray} {a n : Nat} (h : a < s.size) (h2 : fr (s.extract a s.size) = (t, n, 0)) : sc s a = (t :: (sc s (a + n)).1, (sc s (a + n)).2.1, (sc s (a + n)).2.2) := by
  have hn := (fr_ok h2).2.1
  rw [sc, scf_one _ h h2, sc, scf_fuel s s.size (s.size + 1) (a + n) (by omega) (by omega)]
end Go.Proofs.YtjdfffkkpbabpaaGreat.Fm

namespace Go.Proofs.YtjdfffkkpbabpaaGreat.Fr
open Go.RowKit Wm Wr Fm
set_option linter.unusedVariables false
theorem cstep_eq {c b : Nat} (h : c % 2 = b) : cstep c b = c / 2 := by rw [cstep, if_pos h]
theorem cstep_other {c b : Nat} (h : c % 2 ≠ b) : cstep c b = (c / 2) ^^^ 3988292384 := by rw [cstep, if_neg h]
theorem xor32 (a : Nat) (h : a < 4294967296) : bits .xor .u32 (a : Int) 3988292384 = ((a ^^^ 3988292384 : Nat) : Int) := u32_xor_nat a 3988292384 h (by decide)
set_option maxRecDepth 100000 in
set_option maxHeartbeats 1000000 in
theorem refSum_any (s : ByteArray) (w : World) (hs : s.size ≤ maxLen) :
    Calls Tryz.prog 96 #[.string s] w fun e w' => e = .returned (.int .u32 (fsum s.data.toList : Nat)) ∧ w = w' := by
  unfold maxLen at hs
  go_enter Tryz.func96, Tryz.ntmps96
  go_wp2
  go_loop [3, 4] (fun c i => ∃ (k C : Nat), k ≤ s.size ∧ i = .int .i64 k ∧ Hid (C = csum 4294967295 (s.data.toList.take k)) ∧ C < 4294967296 ∧ c = .int .u32 (C : Nat)) (fun _ i => s.size - (intOf i).toNat)
  case atStart => exact ⟨0, 4294967295, Nat.zero_le _, rfl, rfl, by decide, rfl⟩
  case round =>
    obtain ⟨k, C, hk, rfl, hC, hlt, rfl⟩ := hrel
    by_cases hks : k < s.size
    · have hb := s[k].toNat_lt
      have hnext := csum_take s k hks
      rw [← hC.out] at hnext
      go_wp2
      obtain ⟨X, hX⟩ : ∃ X, X = s[k].toNat := ⟨_, rfl⟩
      rw [← hX] at hb hnext ⊢
      have HN := Lib.hid hnext
      clear hX hnext hC
      go_loop [3, 5, 6] (fun c x i => ∃ (j D Y : Nat), j ≤ 8 ∧ i = .int .i64 j ∧ Hid (D = cbits j C X) ∧ Hid (Y = X / 2 ^ j) ∧ D < 4294967296 ∧ Y < 256 ∧ c = .int .u32 (D : Nat) ∧ x = .int .i64 (Y : Nat)) (fun _ _ i => 8 - (intOf i).toNat)
      case atStart => exact ⟨0, C, X, by omega, rfl, rfl, by show X = X / 2 ^ 0; simp, hlt, hb, rfl, rfl⟩
      case round =>
        obtain ⟨j, D, Y, hj, rfl, hD, hY, hDl, hYl, rfl, rfl⟩ := hrel
        by_cases hj8 : j < 8
        · have hnD : cbits (j + 1) C X = cstep D (Y % 2) := by rw [cbits_snoc, ← hD.out, ← hY.out]
          have hnY : X / 2 ^ (j + 1) = Y / 2 := by rw [hY.out, Nat.div_div_eq_div_mul, Nat.pow_succ]
          have HD := Lib.hid hnD
          have HY := Lib.hid hnY
          clear hnD hnY hD hY
          have hxor := xor32 (D / 2) (by omega)
          rw [show ((D / 2 : Nat) : Int) = (D : Int) / 2 by omega] at hxor
          rcases Nat.mod_two_eq_zero_or_one D with hd | hd <;> rcases Nat.mod_two_eq_zero_or_one Y with hy | hy
          · have e := cstep_eq (c := D) (b := Y % 2) (by omega)
            have HE := Lib.hid e
            have t1 : ((D : Int) % 2 == 1) = false := by simp; omega
            have t2 : ((Y : Int) % 2 == 1) = false := by simp; omega
            clear e hd hy
            go_wp2
            go_round
            case rel => exact ⟨j + 1, D / 2, Y / 2, by omega, by go_num, by show _ = _; rw [HD.out, HE.out], HY.out.symm, by omega, by omega, by go_num, by go_num⟩
            case measure => simp [intOf]; omega
          · have e := cstep_other (c := D) (b := Y % 2) (by omega)
            have HE := Lib.hid e
            have t1 : ((D : Int) % 2 == 1) = false := by simp; omega
            have t2 : ((Y : Int) % 2 == 1) = true := by simp; omega
            have hl := xor_lt (a := D / 2) (b := 3988292384) (by omega) (by decide)
            clear e hd hy
            go_wp2
            go_round
            case rel => exact ⟨j + 1, _, Y / 2, by omega, by go_num, by show _ = _; rw [HD.out, HE.out], HY.out.symm, hl, by omega, rfl, by go_num⟩
            case measure => simp [intOf]; omega
          · have e := cstep_other (c := D) (b := Y % 2) (by omega)
            have HE := Lib.hid e
            have t1 : ((D : Int) % 2 == 1) = true := by simp; omega
            have t2 : ((Y : Int) % 2 == 1) = false := by simp; omega
            have hl := xor_lt (a := D / 2) (b := 3988292384) (by omega) (by decide)
            clear e hd hy
            go_wp2
            go_round
            case rel => exact ⟨j + 1, _, Y / 2, by omega, by go_num, by show _ = _; rw [HD.out, HE.out], HY.out.symm, hl, by omega, rfl, by go_num⟩
            case measure => simp [intOf]; omega
          · have e := cstep_eq (c := D) (b := Y % 2) (by omega)
            have HE := Lib.hid e
            have t1 : ((D : Int) % 2 == 1) = true := by simp; omega
            have t2 : ((Y : Int) % 2 == 1) = true := by simp; omega
            clear e hd hy
            go_wp2
            go_round
            case rel => exact ⟨j + 1, D / 2, Y / 2, by omega, by go_num, by show _ = _; rw [HD.out, HE.out], HY.out.symm, by omega, by omega, by go_num, by go_num⟩
            case measure => simp [intOf]; omega
        · obtain rfl : j = 8 := by omega
          go_wp2
          go_round
          case rel => exact ⟨k + 1, D, by omega, by go_num, by show D = _; rw [HN.out, hD.out], hDl, rfl⟩
          case measure => simp [intOf]; omega
    · obtain rfl : k = s.size := by omega
      have hall := csum_all s
      rw [← hC.out] at hall
      go_wp2
      go_ret
      refine ⟨?_, rfl⟩
      rw [← hall]
      exact ret1 (by omega)
theorem le4_take (c j : Nat) (h : j < 4) : (le4 c).take (j + 1) = (le4 c).take j ++ [UInt8.ofNat (c / 256 ^ j % 256)] := by
  have e2 : c / 256 ^ 2 = c / 256 / 256 := by rw [Nat.div_div_eq_div_mul]
  have e3 : c / 256 ^ 3 = c / 256 / 256 / 256 := by rw [Nat.div_div_eq_div_mul, Nat.div_div_eq_div_mul]
  match j, h with
  | 0, _ => simp [le4]
  | 1, _ => simp [le4]
  | 2, _ => simp [le4, e2]
  | 3, _ => simp [le4, e3]
theorem own_at {w w1 : World} {base g cap n : Nat} {xs : List Value} {e : TypeId} (h : w.ownsRow base e 1 (.slice (some ⟨g, 0, none⟩) n cap) n xs) (hb : Below w.heap.size w w1) : w1.ownsRow base e 1 (.slice (some ⟨g, 0, none⟩) n cap) n xs := by
  refine ⟨h.1, ?_⟩
  rcases h.2 with ⟨h0, _⟩ | ⟨g', cap', cur, hv, hg, hh, r⟩
  · cases h0
  · exact .inr ⟨g', cap', cur, hv, hg, (hb.block g' (Array.getElem?_eq_some_iff.1 hh).1).trans hh, r⟩
set_option maxRecDepth 100000 in
theorem conv_below {w w1 : World} {base g cap n : Nat} {l : List UInt8} (h : w.ownsRow base 5 1 (.slice (some ⟨g, 0, none⟩) n cap) n (l.map bv)) (hl : l.length = n) (hn : 0 < n) (hb : Below w.heap.size w w1) :
    (convert 143 9 (.slice (some ⟨g, 0, none⟩) n cap)).run Tryz.prog w1 = .ok (.string ⟨l.toArray⟩) w1 := by
  obtain ⟨g', cap', hv, hc⟩ := own_str (own_at h hb) hl hn
  injection hv with hg _ hcap
  injection hg with hg
  injection hg with hg
  subst hg
  subst hcap
  exact hc
set_option maxRecDepth 100000 in
theorem conv_q {w w1 : World} {base g cap F : Nat} {Q : ByteArray} (h : w.ownsRow base 5 1 (.slice (some ⟨g, 0, none⟩) 4 cap) 4 ((le4 F).map bv)) (hq : Q = ⟨(le4 F).toArray⟩) (hb : Below w.heap.size w w1) :
    (convert 143 9 (.slice (some ⟨g, 0, none⟩) 4 cap)).run Tryz.prog w1 = .ok (.string Q) w1 := by
  rw [hq]
  exact conv_below h rfl (by omega) hb
theorem mod_byte (D : Nat) : Value.int .u8 ((D : Int) % 256) = bv (UInt8.ofNat (D % 256)) := by
  rw [bv]
  congr 1
  simp
set_option maxRecDepth 100000 in
set_option maxHeartbeats 1000000 in
theorem refPack_any (s : ByteArray) (w : World) (hs : s.size ≤ 9223372036854775793) :
    Calls Tryz.prog 48 #[.string s] w fun e w' => e = .returned (.string (pk s)) ∧ Below w.heap.size w w' := by
  obtain ⟨i0, hi, hz0, hz1, hz2⟩ := info_parts info5
  have cs := fun W => refSum_any s W (by unfold maxLen; omega)
  have cT := fun W => refText_any s W (by omega)
  have hFl := fsum_lt s.data.toList
  have hTl : (ts s).size ≤ 10 + s.size := by
    rw [ts, ByteArray.size_append]
    have := vs_le (x := s.size) (by omega)
    omega
  have hpk : Hid (ts s ++ ⟨(le4 (fsum s.data.toList)).toArray⟩ = pk s) := rfl
  obtain ⟨F, hF⟩ : ∃ F, F = fsum s.data.toList := ⟨_, rfl⟩
  obtain ⟨T, hT⟩ : ∃ T, T = ts s := ⟨_, rfl⟩
  rw [← hF] at cs hFl hpk
  rw [← hT] at cT hTl hpk
  clear hF hT
  go_enter Tryz.func48, Tryz.ntmps48
  go_wp2_with (go_at_call 96; refine (cs _).mono ?_; rintro e w1 ⟨rfl, rfl⟩)
  go_loopw [3, 4, 5] (fun c v i wr => ∃ j : Nat, j ≤ 4 ∧ i = .int .i64 j ∧ c = .int .u32 (F / 256 ^ j : Nat) ∧ wr.ownsRow w.heap.size 5 1 v j (((le4 F).take j).map bv) ∧ Below w.heap.size w wr) (fun _ _ i _ => 4 - (intOf i).toNat)
  case atStart => exact ⟨0, by omega, rfl, by simp, World.ownsRow_nil _ _ _ _, Below.refl _ _⟩
  case round =>
    obtain ⟨j, hj, rfl, rfl, hown, hb⟩ := hrel
    clear cs
    have hsz := hb.size
    by_cases hlt : j < 4
    · have hnext := le4_take F j hlt
      have hdiv : F / 256 ^ (j + 1) = F / 256 ^ j / 256 := by rw [Nat.pow_succ, Nat.div_div_eq_div_mul]
      have hdl : F / 256 ^ j ≤ F := Nat.div_le_self _ _
      obtain ⟨D, hD⟩ : ∃ D, D = F / 256 ^ j := ⟨_, rfl⟩
      rw [← hD] at hnext hdiv hdl ⊢
      have HN := Lib.hid hnext
      have HD := Lib.hid hdiv
      clear hnext hdiv hD
      go_wp2_with (at_builtin; refine wpList_append_own _ rfl _ _ 143 rfl w.heap.size 5 i0 (.int .u8 0) 1 1 Tryz.underlying143 hi hz0 hz1 hz2 rfl (by decide) _ _ _ rfl (hown.alloc _) ⟨wr.heap.size, 0, none⟩ 1 1 [.int .u8 ((D : Int) % 256)] rfl rfl ?c1 ?c2 ?c3 ?c4 ?c5 ?_)
      case c1 => exact cell_one_new _ _ _
      case c2 => intro u hu; simp at hu; subst hu; rfl
      case c3 => unfold maxLen; omega
      case c4 => omega
      case c5 => simp; omega
      intro v' w1 hown' hgrow _
      have hb' := below_step hb hown hgrow
      have hown2 : w1.ownsRow w.heap.size 5 1 v' (j + 1) (((le4 F).take (j + 1)).map bv) := by
        rw [mod_byte D] at hown'
        rw [HN.out, List.map_append, List.map_take]
        exact hown'
      clear hown'
      clear hown hgrow hb
      go_wp2
      go_roundw
      case rel => exact ⟨j + 1, by omega, by go_num, by rw [HD.out]; go_num, hown2, hb'⟩
      case measure => simp [intOf]; omega
    · obtain rfl : j = 4 := by omega
      rw [show (le4 F).take 4 = le4 F from rfl] at hown
      obtain ⟨g, cap, hv, _⟩ := own_str hown rfl (by omega)
      rw [hv] at hown ⊢
      have hown1 : wr.drew.ownsRow w.heap.size 5 1 (.slice (some ⟨g, 0, none⟩) 4 cap) 4 ((le4 F).map bv) := hown
      have hc0 := conv_below hown1 rfl (by omega) (Below.refl _ _)
      have HO := Lib.hid hown1
      obtain ⟨Q, hQ⟩ : ∃ Q : ByteArray, Q = ⟨(le4 F).toArray⟩ := ⟨_, rfl⟩
      have hQs : Q.size ≤ 4 := by rw [hQ]; exact Nat.le_refl _
      rw [← hQ] at hc0 hpk
      have HQ := Lib.hid hQ
      clear hown1 hown hv hQ
      go_wp2_with fail
      go_region_with ((go_at_call 90; refine (cT _).mono ?_; rintro e w1 ⟨rfl, hb1⟩; have hc1 := conv_q HO.out HQ.out hb1))
      all_goals
        go_wp2_with fail
        go_ret
        exact ⟨by rw [← hpk.out]; rfl, below_call hb.drew hb1⟩
theorem fr_e (s : ByteArray) : (∃ e, e ≠ 0 ∧ e ≤ 3 ∧ (rdT s).2.2 = e ∧ fr s = (⟨#[]⟩, 0, e)) ∨
    (∃ t n, rdT s = (t, n, 0) ∧ n ≤ s.size ∧ t.size ≤ s.size ∧ s.size - n < 4 ∧ fr s = (⟨#[]⟩, 0, 2)) ∨
    (∃ t n, rdT s = (t, n, 0) ∧ n + 4 ≤ s.size ∧ t.size ≤ s.size ∧ s.extract 0 (n + 4) ≠ pk t ∧ fr s = (⟨#[]⟩, 0, 6)) ∨
    (∃ t n, rdT s = (t, n, 0) ∧ n + 4 ≤ s.size ∧ t.size ≤ s.size ∧ s.extract 0 (n + 4) = pk t ∧ fr s = (t, n + 4, 0)) := by
  have key : ∀ t n, rdT s = (t, n, 0) → n ≤ s.size → t.size ≤ s.size →
      (s.size - n < 4 ∧ fr s = (⟨#[]⟩, 0, 2)) ∨ (n + 4 ≤ s.size ∧ s.extract 0 (n + 4) ≠ pk t ∧ fr s = (⟨#[]⟩, 0, 6)) ∨ (n + 4 ≤ s.size ∧ s.extract 0 (n + 4) = pk t ∧ fr s = (t, n + 4, 0)) := by
    intro t n h hn ht
    unfold fr
    rw [h, if_neg (fun h => h rfl)]
    simp only
    by_cases h1 : s.size - n < 4
    · rw [if_pos h1]; exact .inl ⟨h1, rfl⟩
    · rw [if_neg h1]
      by_cases h2 : s.extract 0 (n + 4) = pk t
      · rw [if_neg (fun h => h h2)]; exact .inr (.inr ⟨by omega, h2, rfl⟩)
      · rw [if_pos h2]; exact .inr (.inl ⟨by omega, h2, rfl⟩)
  rcases rdT_cases s with ⟨e, h0, h1, _, h3⟩ | ⟨x, m, _, _, _, _, h3⟩ | ⟨x, m, hu, hn, hx, h3⟩
  · left
    exact ⟨e, h0, h1, by rw [h3], by unfold fr; rw [h3, if_pos h0]⟩
  · left
    exact ⟨2, by omega, by omega, by rw [h3], by unfold fr; rw [h3, if_pos (by simp)]⟩
  · right
    have hs : (s.extract m (m + x)).size ≤ s.size := by simp; omega
    rcases key _ _ h3 (by omega) hs with ⟨a, b⟩ | ⟨a, b, c⟩ | ⟨a, b, c⟩
    · exact .inl ⟨_, _, h3, by omega, hs, a, b⟩
    · exact .inr (.inl ⟨_, _, h3, a, hs, b, c⟩)
    · exact .inr (.inr ⟨_, _, h3, a, hs, b, c⟩)
theorem bytes_ne {a b : ByteArray} (h : a ≠ b) : (a.toList == b.toList) = false := by
  rw [ByteArray.toList_eq, ByteArray.toList_eq]
  apply Bool.eq_false_iff.2
  intro hc
  exact h (ByteArray.ext (Array.toList_inj.1 (eq_of_beq hc)))
set_option maxRecDepth 100000 in
set_option maxHeartbeats 1000000 in
theorem refRead_any (s : ByteArray) (w : World) (hs : s.size ≤ 9223372036854775700) :
    Calls Tryz.prog 33 #[.string s] w fun e w' => e = .returned (.tuple #[.string (fr s).1, .int .i64 ((fr s).2.1 : Int), .int .i64 ((fr s).2.2 : Int)]) ∧ Below w.heap.size w w' := by
  have c := readText_any s w (by unfold maxLen; omega)
  rcases fr_e s with ⟨e, h0, h1, h2, h3⟩ | ⟨t, n, h, hn, ht, hlt, h3⟩ | ⟨t, n, h, hn, ht, hne, h3⟩ | ⟨t, n, h, hn, ht, heq, h3⟩
  · obtain ⟨t, n, e', h⟩ := trip (rdT s)
    rw [h] at c h2
    have h2' : e' = e := h2
    subst h2'
    rw [h3]
    have hne : ((e' : Int) == 0) = false := by simp; omega
    have hne' : (!((e' : Int) == 0)) = true := by simp; omega
    clear h h3 h2 h0
    go_enter Tryz.func33, Tryz.ntmps33
    go_wp2_with (go_at_call 80; refine c.mono ?_; rintro e w' ⟨rfl, rfl⟩)
    go_ret3
    exact ⟨rfl, Below.refl _ _⟩
  · rw [h] at c
    rw [h3]
    have hlt' : (s.size : Int) - n < 4 := by omega
    clear h h3
    go_enter Tryz.func33, Tryz.ntmps33
    go_wp2_with (go_at_call 80; refine c.mono ?_; rintro e w' ⟨rfl, rfl⟩)
    go_ret3
    exact ⟨rfl, Below.refl _ _⟩
  · rw [h] at c
    rw [h3]
    have cp := fun W => refPack_any t W (by omega)
    have hlt' : 4 ≤ (s.size : Int) - n := by omega
    have hw : IntKind.i64.wrap ((n : Int) + 4) = (n : Int) + 4 := IntWalk.i64_in _ (by omega)
    have hw2 : (n : Int) + 4 ≤ s.size := by omega
    have hx := bytes_ne hne
    obtain ⟨P, hP⟩ : ∃ P, P = pk t := ⟨_, rfl⟩
    rw [← hP] at cp hx
    clear h h3 hne hP
    go_enter Tryz.func33, Tryz.ntmps33
    go_wp2_with (go_at_call 80; refine c.mono ?_; rintro e w' ⟨rfl, rfl⟩)
    go_region_with ((go_at_call 48; refine (cp _).mono ?_; rintro e w1 ⟨rfl, hb1⟩))
    all_goals
      go_wp2_with fail
      go_ret3
      exact ⟨rfl, (Below.refl _ w).drew.trans hb1⟩
  · rw [h] at c
    rw [h3]
    have cp := fun W => refPack_any t W (by omega)
    have hlt' : 4 ≤ (s.size : Int) - n := by omega
    have hw : IntKind.i64.wrap ((n : Int) + 4) = (n : Int) + 4 := IntWalk.i64_in _ (by omega)
    have hw2 : (n : Int) + 4 ≤ s.size := by omega
    have hx : ((s.extract 0 (n + 4)).toList == (pk t).toList) = true := by rw [heq]; exact beq_self_eq_true _
    obtain ⟨P, hP⟩ : ∃ P, P = pk t := ⟨_, rfl⟩
    rw [← hP] at cp hx
    clear h h3 heq hP
    go_enter Tryz.func33, Tryz.ntmps33
    go_wp2_with (go_at_call 80; refine c.mono ?_; rintro e w' ⟨rfl, rfl⟩)
    go_region_with ((go_at_call 48; refine (cp _).mono ?_; rintro e w1 ⟨rfl, hb1⟩))
    all_goals
      go_wp2_with fail
      go_ret3
      exact ⟨rfl, (Below.refl _ w).drew.trans hb1⟩
end Go.Proofs.YtjdfffkkpbabpaaGreat.Fr

namespace Go.Proofs.YtjdfffkkpbabpaaGreat.Fr
open Go.RowKit Wm Wr Fm
set_option linter.unusedVariables false
end Go.Proofs.YtjdfffkkpbabpaaGreat.Fr

namespace Go.Proofs.YtjdfffkkpbabpaaGreat.Dk
open Go.RowKit Tx Pm
set_option linter.unusedVariables false
end Go.Proofs.YtjdfffkkpbabpaaGreat.Dk

namespace Go.Proofs.YtjdfffkkpbabpaaGreat.Dk
open Go.RowKit Tx Pm
set_option linter.unusedVariables false
def mixA (a n : Nat) : Nat := (a + n * 11400714819323198485) % 18446744073709551616
def mixB (x : Nat) : Nat := ((x ^^^ x / 1073741824) * 13787848793156543929) % 18446744073709551616
def mixC (x : Nat) : Nat := ((x ^^^ x / 134217728) * 10723151780598845931) % 18446744073709551616
def mix (a n : Nat) : Nat := mixC (mixB (mixA a n)) ^^^ mixC (mixB (mixA a n)) / 2147483648
theorem mixA_lt (a n : Nat) : mixA a n < 18446744073709551616 := Nat.mod_lt _ (by decide)
theorem mixB_lt (x : Nat) : mixB x < 18446744073709551616 := Nat.mod_lt _ (by decide)
theorem mixC_lt (x : Nat) : mixC x < 18446744073709551616 := Nat.mod_lt _ (by decide)
theorem mix_lt (a n : Nat) : mix a n < 18446744073709551616 := Nat.xor_lt_two_pow (n := 64) (mixC_lt _) (Nat.lt_of_le_of_lt (Nat.div_le_self _ _) (mixC_lt _))
theorem wrap_nat (x : Nat) : IntKind.u64.wrap (x : Int) = ((x % 18446744073709551616 : Nat) : Int) := by
  rw [IntKind.wrap_u64]
  omega
theorem xor_div (x d : Nat) (h : x < 18446744073709551616) : bits .xor .u64 (x : Int) ((x / d : Nat) : Int) = ((x ^^^ x / d : Nat) : Int) :=
  u64_xor_nat x (x / d) h (Nat.lt_of_le_of_lt (Nat.div_le_self _ _) h)
theorem quo_nat (x d : Nat) (h : x < 18446744073709551616) : IntKind.u64.wrap ((x : Int).tdiv (d : Int)) = ((x / d : Nat) : Int) := by
  rw [← Int.ofNat_tdiv, wrap_nat, Nat.mod_eq_of_lt (Nat.lt_of_le_of_lt (Nat.div_le_self _ _) h)]
theorem mul_nat (x k : Nat) : IntKind.u64.wrap ((x : Int) * (k : Int)) = ((x * k % 18446744073709551616 : Nat) : Int) := by
  rw [← Int.natCast_mul, wrap_nat]
set_option maxRecDepth 100000 in
set_option maxHeartbeats 1000000 in
theorem rMix_any (a n : Nat) (w : World) (ha : a < 18446744073709551616) (hn : n < 18446744073709551616) :
    Calls Tryz.prog 55 #[.int .u64 (a : Int), .int .u64 (n : Int)] w fun e w' => e = .returned (.int .u64 (mix a n : Nat)) ∧ w = w' := by
  go_enter Tryz.func55, Tryz.ntmps55
  go_wp2
  go_ret
  refine ⟨?_, rfl⟩
  have hA : IntKind.u64.wrap ((a : Int) + IntKind.u64.wrap ((n : Int) * 11400714819323198485)) = ((mixA a n : Nat) : Int) := by
    rw [IntKind.wrap_u64, IntKind.wrap_u64]
    unfold mixA
    omega
  have q1 := quo_nat (mixA a n) 1073741824 (mixA_lt a n)
  have x1 := xor_div (mixA a n) 1073741824 (mixA_lt a n)
  have k1 := mul_nat (mixA a n ^^^ mixA a n / 1073741824) 13787848793156543929
  have q2 := quo_nat (mixB (mixA a n)) 134217728 (mixB_lt _)
  have x2 := xor_div (mixB (mixA a n)) 134217728 (mixB_lt _)
  have k2 := mul_nat (mixB (mixA a n) ^^^ mixB (mixA a n) / 134217728) 10723151780598845931
  have q3 := quo_nat (mixC (mixB (mixA a n))) 2147483648 (mixC_lt _)
  have x3 := xor_div (mixC (mixB (mixA a n))) 2147483648 (mixC_lt _)
  rw [show ((mixA a n ^^^ mixA a n / 1073741824) * 13787848793156543929 % 18446744073709551616) = mixB (mixA a n) from rfl] at k1
  rw [show ((mixB (mixA a n) ^^^ mixB (mixA a n) / 134217728) * 10723151780598845931 % 18446744073709551616) = mixC (mixB (mixA a n)) from rfl] at k2
  show Ending.returned (Value.int .u64 _) = _
  rw [hA]
  rw [show ((1073741824 : Nat) : Int) = 1073741824 from rfl] at q1
  rw [show ((134217728 : Nat) : Int) = 134217728 from rfl] at q2
  rw [show ((2147483648 : Nat) : Int) = 2147483648 from rfl] at q3
  rw [show ((13787848793156543929 : Nat) : Int) = 13787848793156543929 from rfl] at k1
  rw [show ((10723151780598845931 : Nat) : Int) = 10723151780598845931 from rfl] at k2
  rw [q1, x1, k1, q2, x2, k2, q3, x3]
  rfl
end Go.Proofs.YtjdfffkkpbabpaaGreat.Dk

namespace Go.Proofs.YtjdfffkkpbabpaaGreat.Dk
open Go.RowKit Tx Pm
set_option linter.unusedVariables false
def newS : St := ⟨[], [], 0, 0, -1, false⟩
set_option maxRecDepth 100000 in
set_option maxHeartbeats 1000000 in
theorem rNew_any (w : World) :
    Calls Tryz.prog 5 #[] w fun e w' => ∃ b, e = .returned (.pointer (some ⟨b, 0, none⟩)) ∧ w.heap.size ≤ b ∧ At w' b newS (.slice none 0 0) (.slice none 0 0) ∧ Below w.heap.size w w' := by
  go_enter Tryz.func5, Tryz.ntmps5
  go_wp2_with fail
  go_ret
  exact ⟨w.heap.size, rfl, Nat.le_refl _, ⟨heap_alloc_new _ _, World.ownsRow_nil _ _ _ _, World.ownsRow_nil _ _ _ _⟩, (Below.refl _ _).alloc (Nat.le_refl _) _⟩
def lose (pick : Nat) (x : It) : It :=
  let k1 := if x.anew then (let k := pick % (x.data.size + 2); if k = 0 then x.kept else x.data.extract 0 (k - 1)) else (let k := pick % (x.data.size - x.kept.size + 1); x.data.extract 0 (x.kept.size + k))
  { x with data := k1, kept := k1, loose := false, anew := false }
def restartL (loss : Nat) : List It → Nat → Nat → List It × Nat
  | [], _, st => ([], st)
  | x :: l, n, st => if x.loose then (let r := restartL loss l (n + 1) (st + 1); ({ lose (mix loss (n + 1)) x with stamp := st + 1 } :: r.1, r.2)) else (let r := restartL loss l n st; (x :: r.1, r.2))
def u64 (i : Int) : Nat := (IntKind.u64.wrap i).toNat
def restartS (s : St) (loss : Int) : St := let r := restartL (u64 loss) s.L 0 s.stamps; { s with L := r.1, stamps := r.2, down := false, armed := -1 }
def Rises (l : List It) : Prop := l.Pairwise (fun x y => Op.bytesLess x.path.toList y.path.toList = true)
end Go.Proofs.YtjdfffkkpbabpaaGreat.Dk

namespace Go.Proofs.YtjdfffkkpbabpaaGreat.Dk
open Go.RowKit Tx Pm
set_option linter.unusedVariables false
theorem less_irrefl (l : List UInt8) : Op.bytesLess l l = false := by
  induction l with
  | nil => rfl
  | cons c r ih => simp [Op.bytesLess, ih]
theorem ins_same {a c : List It} {x x' : It} (hr : Rises (a ++ x :: c)) (hp : x'.path = x.path) : ins (a ++ x :: c) x' = a ++ x' :: c := by
  have hx : (a ++ x :: c)[a.length]? = some x := by simp
  rw [ins_at (k := a.length) (by simp) ?_ ?_, hx]
  · simp [hp]
  · intro y hy
    rw [List.take_left] at hy
    rw [hp]
    exact (List.pairwise_append.1 hr).2.2 y hy x (by simp)
  · intro y hy
    rw [hx] at hy
    injection hy with hy
    rw [← hy, hp]
    exact less_irrefl _
theorem rises_paths {a b : List It} (h : a.map (·.path) = b.map (·.path)) (hr : Rises a) : Rises b := by
  unfold Rises at *
  have h1 : (a.map (·.path)).Pairwise (fun x y => Op.bytesLess x.toList y.toList = true) := List.pairwise_map.2 hr
  rw [h] at h1
  exact List.pairwise_map.1 h1
structure Sound (s : St) : Prop where
  rises : Rises s.L
  kept : ∀ x ∈ s.L, x.anew = false → x.kept.size ≤ x.data.size
  size : ∀ x ∈ s.L, x.data.size ≤ 140737488355328 ∧ x.kept.size ≤ 140737488355328
  stamps : s.stamps + s.L.length ≤ 1000000000000
structure Through (s : St) (loss k n : Nat) (pre : List It) (st : Nat) : Prop where
  le : k ≤ s.L.length
  len : pre.length = k
  paths : pre.map (·.path) = (s.L.take k).map (·.path)
  rest : restartL loss s.L 0 s.stamps = (pre ++ (restartL loss (s.L.drop k) n st).1, (restartL loss (s.L.drop k) n st).2)
  num : n ≤ k
  stamp : st ≤ s.stamps + k
theorem through_zero (s : St) (loss : Nat) : Through s loss 0 0 [] s.stamps :=
  ⟨Nat.zero_le _, rfl, rfl, by rw [List.drop_zero, List.nil_append], Nat.le_refl _, Nat.le_refl _⟩
theorem through_calm {s : St} {loss k n st : Nat} {pre : List It} {x : It} (h : Through s loss k n pre st) (hx : s.L[k]? = some x) (hl : x.loose = false) : Through s loss (k + 1) n (pre ++ [x]) st := by
  obtain ⟨hk, he⟩ := List.getElem?_eq_some_iff.1 hx
  refine ⟨hk, by rw [List.length_append, h.len]; rfl, by rw [take_more hx, List.map_append, List.map_append, h.paths], ?_, by have := h.num; omega, by have := h.stamp; omega⟩
  rw [h.rest, List.drop_eq_getElem_cons hk, he, restartL, if_neg (by rw [hl]; decide), List.append_assoc]
  rfl
theorem through_loose {s : St} {loss k n st : Nat} {pre : List It} {x : It} (h : Through s loss k n pre st) (hx : s.L[k]? = some x) (hl : x.loose = true) :
    Through s loss (k + 1) (n + 1) (pre ++ [{ lose (mix loss (n + 1)) x with stamp := st + 1 }]) (st + 1) := by
  obtain ⟨hk, he⟩ := List.getElem?_eq_some_iff.1 hx
  refine ⟨hk, by rw [List.length_append, h.len]; rfl, by rw [take_more hx, List.map_append, List.map_append, h.paths]; rfl, ?_, by have := h.num; omega, by have := h.stamp; omega⟩
  rw [h.rest, List.drop_eq_getElem_cons hk, he, restartL, if_pos hl, List.append_assoc]
  rfl
theorem through_end {s : St} {loss n st : Nat} {pre : List It} (h : Through s loss s.L.length n pre st) : restartL loss s.L 0 s.stamps = (pre, st) := by
  rw [h.rest, List.drop_of_length_le (Nat.le_refl _), restartL, List.append_nil]
def mid (s : St) (k : Nat) (pre : List It) (st : Nat) : St := { s with L := pre ++ s.L.drop k, stamps := st }
theorem mid_rises {s : St} {loss k n st : Nat} {pre : List It} (h : Through s loss k n pre st) (hr : Rises s.L) : Rises (mid s k pre st).L := by
  refine rises_paths ?_ hr
  show s.L.map (·.path) = (pre ++ s.L.drop k).map (·.path)
  rw [List.map_append, h.paths, ← List.map_append, List.take_append_drop]
theorem mid_at {s : St} {loss k n st : Nat} {pre : List It} {x : It} (h : Through s loss k n pre st) (hx : s.L[k]? = some x) : (mid s k pre st).L = pre ++ x :: s.L.drop (k + 1) ∧ (mid s k pre st).L[k]? = some x := by
  obtain ⟨hk, he⟩ := List.getElem?_eq_some_iff.1 hx
  have e : (mid s k pre st).L = pre ++ x :: s.L.drop (k + 1) := by
    show pre ++ s.L.drop k = _
    rw [List.drop_eq_getElem_cons hk, he]
  refine ⟨e, ?_⟩
  rw [e, ← h.len]
  simp
theorem mid_len {s : St} {loss k n st : Nat} {pre : List It} (h : Through s loss k n pre st) : (mid s k pre st).L.length = s.L.length := by
  show (pre ++ s.L.drop k).length = _
  have := h.le
  rw [List.length_append, List.length_drop, h.len]
  omega
theorem mid_calm {s : St} {loss k n st : Nat} {pre : List It} {x : It} (h : Through s loss k n pre st) (hx : s.L[k]? = some x) : mid s (k + 1) (pre ++ [x]) st = mid s k pre st := by
  have := (mid_at h hx).1
  unfold mid at *
  rw [List.append_assoc, List.singleton_append]
  simp only at this
  rw [← this]
theorem mid_put {s : St} {loss k n st : Nat} {pre : List It} {x x' : It} (h : Through s loss k n pre st) (hr : Rises s.L) (hx : s.L[k]? = some x) (hp : x'.path = x.path) :
    { mid s k pre st with L := ins (mid s k pre st).L x', stamps := st + 1 } = mid s (k + 1) (pre ++ [x']) (st + 1) := by
  have h1 := mid_rises h hr
  have h2 := (mid_at h hx).1
  have h3 : ins (mid s k pre st).L x' = pre ++ x' :: s.L.drop (k + 1) := by
    rw [h2] at h1 ⊢
    exact ins_same h1 hp
  rw [h3]
  unfold mid
  rw [List.append_assoc, List.singleton_append]
theorem u64_lt (i : Int) : u64 i < 18446744073709551616 := by
  unfold u64
  rw [IntKind.wrap_u64]
  omega
theorem u64_eq (i : Int) : IntKind.u64.wrap i = ((u64 i : Nat) : Int) := by
  unfold u64
  rw [IntKind.wrap_u64]
  omega
set_option maxRecDepth 100000 in
set_option maxHeartbeats 4000000 in
theorem rRestart_any (b : Nat) (s : St) (vL vR : Value) (loss : Int) (w : World) (h : At w b s vL vR) (hs : Sound s) (hn : s.L.length ≤ 1000000000) (hl : -9223372036854775808 ≤ loss ∧ loss ≤ 9223372036854775807) :
    Calls Tryz.prog 19 #[.pointer (some ⟨b, 0, none⟩), .int .i64 loss] w (To w b vL vR (0, restartS s loss)) := by
  obtain ⟨len, hlen⟩ : ∃ len, len = s.L.length := ⟨_, rfl⟩
  have HLEN := Lib.hid hlen
  have HS := Lib.hid hs
  have HH := Lib.hid h
  have hbw := h.lt b (.inl rfl)
  have hU := u64_eq loss
  have hUl := u64_lt loss
  obtain ⟨U, hUU⟩ : ∃ U, U = u64 loss := ⟨_, rfl⟩
  rw [← hUU] at hU hUl
  have HU := Lib.hid hUU
  rw [← hlen] at hn
  clear h hs hlen hUU
  go_enter Tryz.func19, Tryz.ntmps19
  go_wp2_with fail
  go_loopw [5, 6] (fun nv iv wr => ∃ (k n st : Nat) (pre : List It) (vL' : Value), k ≤ len ∧ n ≤ k ∧ iv = .int .i64 k ∧ nv = .int .i64 n ∧ Hid (Through s U k n pre st) ∧ Hid (At wr b (mid s k pre st) vL' vR) ∧ Hid (Chg (fun i => i = b ∨ w.heap.size ≤ i) w wr) ∧ Hid (∀ g, vL'.ownBlock = some g → vL.ownBlock = some g ∨ w.heap.size ≤ g)) (fun _ i _ => len - (intOf i).toNat)
  case atStart => exact ⟨0, 0, s.stamps, [], vL, Nat.zero_le _, Nat.le_refl _, rfl, rfl, through_zero s U, HH.out, Chg.refl _ _, fun g hg => .inl hg⟩
  case round =>
    obtain ⟨k, n, st, pre, vL', hk, hnk, rfl, rfl, hT, hA, hC, hN⟩ := hrel
    obtain ⟨A, c, hvL, _, _, _⟩ := hA.out.rowL.form
    subst hvL
    have hml := mid_len hT.out
    have hseen := hA.out
    rw [hml, ← HLEN.out] at hseen
    have hst9 := hA.out.cell
    obtain ⟨e0, _⟩ := hseen.cell
    clear hst9 hml
    by_cases hlt : k < len
    · obtain ⟨x, hx⟩ : ∃ x, s.L[k]? = some x := ⟨_, List.getElem?_eq_getElem (by rw [← HLEN.out]; exact hlt)⟩
      have hmx := (mid_at hT.out hx).2
      have hsee2 := (hA.out.seen (Below.refl _ _)).it k x hmx
      obtain ⟨g2, hg2, d0, d1, d2, d3, d4, d5, d6⟩ := hsee2
      cases hg2
      have HX := Lib.hid hx
      obtain ⟨XP, XD, XX, XK, XLO, XA, XS⟩ := x
      simp only at d0 d1 d2 d3 d4 d5 d6
      clear hx hmx hseen
      cases XLO with
      | false =>
        have HT2 := Lib.hid (through_calm hT.out HX.out rfl)
        have hAt2 := hA.out
        rw [← mid_calm hT.out HX.out] at hAt2
        have HA2 := Lib.hid hAt2
        clear hAt2
        go_wp2_with fail
        go_roundw
        case rel => exact ⟨k + 1, n, st, _, _, by omega, by omega, by go_num, rfl, HT2.out, HA2.out.below ((Below.refl _ _).alloc (Nat.le_refl _) _), hC.out.then (Chg.of_below ((Below.refl _ _).alloc (Nat.le_refl _) _)), hN.out⟩
        case measure => simp [intOf]; omega
      | true =>
        have cm := fun W => rMix_any U (n + 1) W hUl (by omega)
        rw [show ((n + 1 : Nat) : Int) = (n : Int) + 1 by omega] at cm
        have HT2 := Lib.hid (through_loose hT.out HX.out rfl)
        have hPl := mix_lt U (n + 1)
        obtain ⟨PK, hPK⟩ : ∃ PK, PK = mix U (n + 1) := ⟨_, rfl⟩
        rw [← hPK] at cm hPl
        have HPK := Lib.hid hPK
        clear hPK
        have hsz := HS.out.size _ (List.mem_of_getElem? HX.out)
        simp only at hsz
        cases XA with
        | true =>
          obtain ⟨R, hR⟩ : ∃ R, R = PK % (XX.size + 2) := ⟨_, rfl⟩
          have hRl : R < XX.size + 2 := by rw [hR]; exact Nat.mod_lt _ (by omega)
          have hrem : (PK : Int) % ((XX.size : Int) + 2) = (R : Int) := by rw [hR]; push_cast; rfl
          rcases R with _ | K
          · have hlose : lose PK ⟨XP, XD, XX, XK, true, true, XS⟩ = ⟨XP, XD, XK, XK, false, false, XS⟩ := by
              unfold lose
              simp [← hR]
            rw [show ((0 : Nat) : Int) = 0 from rfl] at hrem
            clear hR
            go_wp2_with fail
            go_at_call 55
            refine (cm _).mono ?_
            rintro e w1 ⟨rfl, rfl⟩
            have c6 := fun W (hW : At W b (mid s k pre st) (.slice (some ⟨g2, 0, none⟩) (mid s k pre st).L.length c) vR) => rStamped_any b (mid s k pre st) (.slice (some ⟨g2, 0, none⟩) (mid s k pre st).L.length c) vR ⟨XP, XD, XK, XK, false, false, XS⟩ W hW (by show st ≤ _; have := hT.out.stamp; have := HS.out.stamps; have := HLEN.out; omega)
            have c5 := fun W (hW : At W b { mid s k pre st with stamps := st + 1 } (.slice (some ⟨g2, 0, none⟩) (mid s k pre st).L.length c) vR) => rPut_any b { mid s k pre st with stamps := st + 1 } (.slice (some ⟨g2, 0, none⟩) (mid s k pre st).L.length c) vR (stamped (mid s k pre st) ⟨XP, XD, XK, XK, false, false, XS⟩) W hW (by show (mid s k pre st).L.length ≤ _; rw [mid_len hT.out, ← HLEN.out]; omega)
            have hput := mid_put (x' := stamped (mid s k pre st) ⟨XP, XD, XK, XK, false, false, XS⟩) hT.out HS.out.rises HX.out rfl
            have hth : Through s U (k + 1) (n + 1) (pre ++ [stamped (mid s k pre st) ⟨XP, XD, XK, XK, false, false, XS⟩]) (st + 1) := by
              have h2 := HT2.out
              rw [← HPK.out, hlose] at h2
              exact h2
            have HPUT := Lib.hid hput
            have HTH := Lib.hid hth
            unfold stamped iv at c5
            unfold iv stamped at c6
            simp only at c5 c6
            rw [show (mid s k pre st).stamps = st from rfl] at c5 c6
            clear hput hth hlose
            go_wp2_with fail
            go_at_call 57
            refine (c6 _ (hA.out.below ((Below.refl _ _).alloc (Nat.le_refl _) _))).mono ?_
            rintro e w7 ⟨rfl, hat7, hc7⟩
            go_wp2_with fail
            go_at_call 56
            refine (c5 _ hat7).mono ?_
            rintro e w8 ⟨⟨v8, rfl⟩, vL8, hat8, hn8, hc8⟩
            have hfin := hat8
            rw [show ({ mid s k pre st with stamps := st + 1 } : St).L = (mid s k pre st).L from rfl] at hfin
            have HFIN : At w8 b (mid s (k + 1) (pre ++ [stamped (mid s k pre st) ⟨XP, XD, XK, XK, false, false, XS⟩]) (st + 1)) vL8 vR := by rw [← HPUT.out]; exact hfin
            have hchg : Chg (fun i => i = b ∨ w.heap.size ≤ i) w w8 := ((hC.out.then (Chg.of_below ((Below.refl _ _).alloc (Nat.le_refl _) _))).then (hc7.mono (fun i hi => .inl hi))).then (hc8.mono (fun i hi => .inl hi))
            have hnew : ∀ g, vL8.ownBlock = some g → vL.ownBlock = some g ∨ w.heap.size ≤ g := fun g hg => .inr (by
              have h1 := hn8 g hg
              have h2 := hc7.size
              have h3 := hC.out.size
              have h4 : (wr.alloc (.cells #[.string XP, .bool XD, .string XK, .string XK, .bool false, .bool false, .int .i64 XS] 107)).heap.size = wr.heap.size + 1 := by simp
              omega)
            have H8 := Lib.hid HFIN
            have HC8 := Lib.hid hchg
            have HN8 := Lib.hid hnew
            clear hfin HFIN hchg hnew hat8 hn8 hc8 hat7 hc7
            go_wp2_with fail
            go_roundw
            case rel => exact ⟨k + 1, n + 1, st + 1, _, vL8, by omega, by omega, by go_num, by go_num, HTH.out, H8.out, HC8.out, HN8.out⟩
            case measure => simp [intOf]; omega
          · have hlose : lose PK ⟨XP, XD, XX, XK, true, true, XS⟩ = ⟨XP, XD, XX.extract 0 K, XX.extract 0 K, false, false, XS⟩ := by
              unfold lose
              simp [← hR]
            rw [show ((K + 1 : Nat) : Int) = (K : Int) + 1 by omega] at hrem
            clear hR
            go_wp2_with fail
            go_at_call 55
            refine (cm _).mono ?_
            rintro e w1 ⟨rfl, rfl⟩
            have c6 := fun W (hW : At W b (mid s k pre st) (.slice (some ⟨g2, 0, none⟩) (mid s k pre st).L.length c) vR) => rStamped_any b (mid s k pre st) (.slice (some ⟨g2, 0, none⟩) (mid s k pre st).L.length c) vR ⟨XP, XD, (XX.extract 0 K), (XX.extract 0 K), false, false, XS⟩ W hW (by show st ≤ _; have := hT.out.stamp; have := HS.out.stamps; have := HLEN.out; omega)
            have c5 := fun W (hW : At W b { mid s k pre st with stamps := st + 1 } (.slice (some ⟨g2, 0, none⟩) (mid s k pre st).L.length c) vR) => rPut_any b { mid s k pre st with stamps := st + 1 } (.slice (some ⟨g2, 0, none⟩) (mid s k pre st).L.length c) vR (stamped (mid s k pre st) ⟨XP, XD, (XX.extract 0 K), (XX.extract 0 K), false, false, XS⟩) W hW (by show (mid s k pre st).L.length ≤ _; rw [mid_len hT.out, ← HLEN.out]; omega)
            have hput := mid_put (x' := stamped (mid s k pre st) ⟨XP, XD, (XX.extract 0 K), (XX.extract 0 K), false, false, XS⟩) hT.out HS.out.rises HX.out rfl
            have hth : Through s U (k + 1) (n + 1) (pre ++ [stamped (mid s k pre st) ⟨XP, XD, (XX.extract 0 K), (XX.extract 0 K), false, false, XS⟩]) (st + 1) := by
              have h2 := HT2.out
              rw [← HPK.out, hlose] at h2
              exact h2
            have HPUT := Lib.hid hput
            have HTH := Lib.hid hth
            unfold stamped iv at c5
            unfold iv stamped at c6
            simp only at c5 c6
            rw [show (mid s k pre st).stamps = st from rfl] at c5 c6
            clear hput hth hlose
            go_wp2_with fail
            go_at_call 57
            refine (c6 _ (hA.out.below ((Below.refl _ _).alloc (Nat.le_refl _) _))).mono ?_
            rintro e w7 ⟨rfl, hat7, hc7⟩
            go_wp2_with fail
            go_at_call 56
            refine (c5 _ hat7).mono ?_
            rintro e w8 ⟨⟨v8, rfl⟩, vL8, hat8, hn8, hc8⟩
            have hfin := hat8
            rw [show ({ mid s k pre st with stamps := st + 1 } : St).L = (mid s k pre st).L from rfl] at hfin
            have HFIN : At w8 b (mid s (k + 1) (pre ++ [stamped (mid s k pre st) ⟨XP, XD, (XX.extract 0 K), (XX.extract 0 K), false, false, XS⟩]) (st + 1)) vL8 vR := by rw [← HPUT.out]; exact hfin
            have hchg : Chg (fun i => i = b ∨ w.heap.size ≤ i) w w8 := ((hC.out.then (Chg.of_below ((Below.refl _ _).alloc (Nat.le_refl _) _))).then (hc7.mono (fun i hi => .inl hi))).then (hc8.mono (fun i hi => .inl hi))
            have hnew : ∀ g, vL8.ownBlock = some g → vL.ownBlock = some g ∨ w.heap.size ≤ g := fun g hg => .inr (by
              have h1 := hn8 g hg
              have h2 := hc7.size
              have h3 := hC.out.size
              have h4 : (wr.alloc (.cells #[.string XP, .bool XD, .string (XX.extract 0 K), .string (XX.extract 0 K), .bool false, .bool false, .int .i64 XS] 107)).heap.size = wr.heap.size + 1 := by simp
              omega)
            have H8 := Lib.hid HFIN
            have HC8 := Lib.hid hchg
            have HN8 := Lib.hid hnew
            clear hfin HFIN hchg hnew hat8 hn8 hc8 hat7 hc7
            go_wp2_with fail
            go_roundw
            case rel => exact ⟨k + 1, n + 1, st + 1, _, vL8, by omega, by omega, by go_num, by go_num, HTH.out, H8.out, HC8.out, HN8.out⟩
            case measure => simp [intOf]; omega
        | false =>
          have hkd := HS.out.kept _ (List.mem_of_getElem? HX.out) rfl
          simp only at hkd
          obtain ⟨R, hR⟩ : ∃ R, R = PK % (XX.size - XK.size + 1) := ⟨_, rfl⟩
          have hRl : R < XX.size - XK.size + 1 := by rw [hR]; exact Nat.mod_lt _ (by omega)
          have hrem : (PK : Int) % ((XX.size : Int) - (XK.size : Int) + 1) = (R : Int) := by rw [hR, show (XX.size : Int) - (XK.size : Int) + 1 = ((XX.size - XK.size + 1 : Nat) : Int) by omega]; push_cast; rfl
          have hlose : lose PK ⟨XP, XD, XX, XK, true, false, XS⟩ = ⟨XP, XD, XX.extract 0 (XK.size + R), XX.extract 0 (XK.size + R), false, false, XS⟩ := by
            unfold lose
            simp [← hR]
          clear hR
          go_wp2_with fail
          go_at_call 55
          refine (cm _).mono ?_
          rintro e w1 ⟨rfl, rfl⟩
          have c6 := fun W (hW : At W b (mid s k pre st) (.slice (some ⟨g2, 0, none⟩) (mid s k pre st).L.length c) vR) => rStamped_any b (mid s k pre st) (.slice (some ⟨g2, 0, none⟩) (mid s k pre st).L.length c) vR ⟨XP, XD, (XX.extract 0 (XK.size + R)), (XX.extract 0 (XK.size + R)), false, false, XS⟩ W hW (by show st ≤ _; have := hT.out.stamp; have := HS.out.stamps; have := HLEN.out; omega)
          have c5 := fun W (hW : At W b { mid s k pre st with stamps := st + 1 } (.slice (some ⟨g2, 0, none⟩) (mid s k pre st).L.length c) vR) => rPut_any b { mid s k pre st with stamps := st + 1 } (.slice (some ⟨g2, 0, none⟩) (mid s k pre st).L.length c) vR (stamped (mid s k pre st) ⟨XP, XD, (XX.extract 0 (XK.size + R)), (XX.extract 0 (XK.size + R)), false, false, XS⟩) W hW (by show (mid s k pre st).L.length ≤ _; rw [mid_len hT.out, ← HLEN.out]; omega)
          have hput := mid_put (x' := stamped (mid s k pre st) ⟨XP, XD, (XX.extract 0 (XK.size + R)), (XX.extract 0 (XK.size + R)), false, false, XS⟩) hT.out HS.out.rises HX.out rfl
          have hth : Through s U (k + 1) (n + 1) (pre ++ [stamped (mid s k pre st) ⟨XP, XD, (XX.extract 0 (XK.size + R)), (XX.extract 0 (XK.size + R)), false, false, XS⟩]) (st + 1) := by
            have h2 := HT2.out
            rw [← HPK.out, hlose] at h2
            exact h2
          have HPUT := Lib.hid hput
          have HTH := Lib.hid hth
          unfold stamped iv at c5
          unfold iv stamped at c6
          simp only at c5 c6
          rw [show (mid s k pre st).stamps = st from rfl] at c5 c6
          clear hput hth hlose
          go_wp2_with fail
          go_at_call 57
          refine (c6 _ (hA.out.below ((Below.refl _ _).alloc (Nat.le_refl _) _))).mono ?_
          rintro e w7 ⟨rfl, hat7, hc7⟩
          go_wp2_with fail
          go_at_call 56
          refine (c5 _ hat7).mono ?_
          rintro e w8 ⟨⟨v8, rfl⟩, vL8, hat8, hn8, hc8⟩
          have hfin := hat8
          rw [show ({ mid s k pre st with stamps := st + 1 } : St).L = (mid s k pre st).L from rfl] at hfin
          have HFIN : At w8 b (mid s (k + 1) (pre ++ [stamped (mid s k pre st) ⟨XP, XD, (XX.extract 0 (XK.size + R)), (XX.extract 0 (XK.size + R)), false, false, XS⟩]) (st + 1)) vL8 vR := by rw [← HPUT.out]; exact hfin
          have hchg : Chg (fun i => i = b ∨ w.heap.size ≤ i) w w8 := ((hC.out.then (Chg.of_below ((Below.refl _ _).alloc (Nat.le_refl _) _))).then (hc7.mono (fun i hi => .inl hi))).then (hc8.mono (fun i hi => .inl hi))
          have hnew : ∀ g, vL8.ownBlock = some g → vL.ownBlock = some g ∨ w.heap.size ≤ g := fun g hg => .inr (by
            have h1 := hn8 g hg
            have h2 := hc7.size
            have h3 := hC.out.size
            have h4 : (wr.alloc (.cells #[.string XP, .bool XD, .string (XX.extract 0 (XK.size + R)), .string (XX.extract 0 (XK.size + R)), .bool false, .bool false, .int .i64 XS] 107)).heap.size = wr.heap.size + 1 := by simp
            omega)
          have H8 := Lib.hid HFIN
          have HC8 := Lib.hid hchg
          have HN8 := Lib.hid hnew
          clear hfin HFIN hchg hnew hat8 hn8 hc8 hat7 hc7
          go_wp2_with fail
          go_roundw
          case rel => exact ⟨k + 1, n + 1, st + 1, _, vL8, by omega, by omega, by go_num, by go_num, HTH.out, H8.out, HC8.out, HN8.out⟩
          case measure => simp [intOf]; omega
    · obtain rfl : k = len := by omega
      have hT' := hT.out
      rw [HLEN.out] at hT'
      have hend := through_end hT'
      have hres : restartS s loss = { s with L := pre, stamps := st, down := false, armed := -1 } := by
        unfold restartS
        rw [← HU.out, hend]
      have hmid : mid s k pre st = { s with L := pre, stamps := st } := by
        unfold mid
        rw [HLEN.out, List.drop_of_length_le (Nat.le_refl _), List.append_nil]
      have hat := hA.out
      rw [hmid] at hat
      have HRES := Lib.hid hres
      have HAT := Lib.hid hat
      have hwarm := hat.warm
      obtain ⟨q0, q1, q2, q3, q4, q5⟩ := hat.cell
      simp only at q0 q1 q2 q3 q4 q5
      clear hT' hend hres hmid hat hseen
      go_wp2_with fail
      go_ret
      rw [HRES.out]
      refine ⟨rfl, _, vR, HAT.out.poke ?_ (fun i hi => ?_) rfl rfl, ?_, ?_⟩
      · rw [set_block (set_block HAT.out.blk _) _]; rfl
      · rw [set_other _ hi, set_other _ hi]
      · have h9 := (hC.out.then ((chg_set (b := b) (k := 5) (.bool false)).mono (fun i hi => .inl hi))).then ((chg_set (b := b) (k := 4) (.int .i64 (-1))).mono (fun i hi => .inl hi))
        exact ⟨h9.os, h9.tape, h9.output, h9.size, fun i hi hn => h9.block i hi (fun hh => by rcases hh with hh | hh; exact hn (.inl hh); omega)⟩
      · rintro g (rfl | hg | hg)
        · exact .inl (.inl rfl)
        · exact (hN.out g (by cases A <;> exact hg)).imp (fun hh => .inr (.inl hh)) id
        · exact .inl (.inr (.inr hg))
end Go.Proofs.YtjdfffkkpbabpaaGreat.Dk

namespace Go.Proofs.YtjdfffkkpbabpaaGreat.Od
set_option linter.unusedVariables false
theorem less_trans : ∀ (a b c : List UInt8), Op.bytesLess a b = true → Op.bytesLess b c = true → Op.bytesLess a c = true
  | [], [], _, h, _ => by rw [Op.bytesLess] at h; cases h
  | [], _ :: _, [], _, h => by rw [Op.bytesLess] at h; cases h
  | [], _ :: _, _ :: _, _, _ => by rw [Op.bytesLess]
  | _ :: _, [], _, h, _ => by rw [Op.bytesLess] at h; cases h
  | _ :: _, _ :: _, [], _, h => by rw [Op.bytesLess] at h; cases h
  | x :: a, y :: b, z :: c, h1, h2 => by
    have ih := less_trans a b c
    rw [Op.bytesLess] at h1 h2 ⊢
    simp only [Bool.or_eq_true, Bool.and_eq_true, decide_eq_true_eq, beq_iff_eq] at h1 h2 ⊢
    rcases h1 with h1 | ⟨rfl, h1⟩
    · rcases h2 with h2 | ⟨rfl, h2⟩
      · left
        rw [UInt8.lt_iff_toNat_lt] at h1 h2 ⊢
        omega
      · exact .inl h1
    · rcases h2 with h2 | ⟨rfl, h2⟩
      · exact .inl h2
      · exact .inr ⟨rfl, ih h1 h2⟩
theorem less_tri : ∀ (a b : List UInt8), Op.bytesLess a b = false → Op.bytesLess b a = false → a = b
  | [], [], _, _ => rfl
  | [], _ :: _, h, _ => by rw [Op.bytesLess] at h; cases h
  | _ :: _, [], _, h => by rw [Op.bytesLess] at h; cases h
  | x :: a, y :: b, h1, h2 => by
    have ih := less_tri a b
    rw [Op.bytesLess] at h1 h2
    simp only [Bool.or_eq_false_iff, Bool.and_eq_false_iff, decide_eq_false_iff_not, beq_eq_false_iff_ne] at h1 h2
    have e : x = y := by
      apply UInt8.toNat_inj.1
      have a1 := h1.1
      have a2 := h2.1
      rw [UInt8.lt_iff_toNat_lt] at a1 a2
      omega
    subst e
    rw [ih (h1.2.resolve_left (fun h => h rfl)) (h2.2.resolve_left (fun h => h rfl))]
theorem to_list {a b : ByteArray} : a.toList = b.toList ↔ a = b := by
  rw [ByteArray.toList_eq, ByteArray.toList_eq]
  exact ⟨fun h => ByteArray.ext (Array.toList_inj.1 h), fun h => by rw [h]⟩
end Go.Proofs.YtjdfffkkpbabpaaGreat.Od

namespace Go.Proofs.YtjdfffkkpbabpaaGreat.Dk
open Go.RowKit Tx Pm Od
set_option linter.unusedVariables false
theorem mem_ins {l : List It} {x y : It} (h : y ∈ ins l x) : y = x ∨ y ∈ l := by
  rw [ins, List.mem_append, List.mem_cons] at h
  rcases h with h | h | h
  · exact .inr ((List.takeWhile_prefix _).subset h)
  · exact .inl h
  · have hd := List.dropWhile_suffix (fun y => Op.bytesLess y.path.toList x.path.toList) (l := l)
    cases hdw : l.dropWhile (fun y => Op.bytesLess y.path.toList x.path.toList) with
    | nil => rw [hdw] at h; cases h
    | cons z r =>
      rw [hdw] at h hd
      simp only at h
      split at h
      · exact .inr (hd.subset (List.mem_cons_of_mem _ h))
      · exact .inr (hd.subset h)
theorem len_ins (l : List It) (x : It) : (ins l x).length ≤ l.length + 1 := by
  have h1 := List.takeWhile_append_dropWhile (p := fun y => Op.bytesLess y.path.toList x.path.toList) (l := l)
  have h2 := congrArg List.length h1
  rw [List.length_append] at h2
  rw [ins, List.length_append, List.length_cons]
  cases hdw : l.dropWhile (fun y => Op.bytesLess y.path.toList x.path.toList) with
  | nil => rw [hdw] at h2; simp at h2 ⊢; omega
  | cons z r =>
    rw [hdw] at h2
    simp only
    simp only [List.length_cons] at h2
    split
    · omega
    · simp; omega
theorem rises_ins {l : List It} {x : It} (h : Rises l) : Rises (ins l x) := by
  unfold Rises at *
  have h1 := List.takeWhile_append_dropWhile (p := fun y => Op.bytesLess y.path.toList x.path.toList) (l := l)
  have htw : ∀ y ∈ l.takeWhile (fun y => Op.bytesLess y.path.toList x.path.toList), Op.bytesLess y.path.toList x.path.toList = true := fun y hy => by
    have := List.all_takeWhile (p := fun y => Op.bytesLess y.path.toList x.path.toList) (l := l)
    exact List.all_eq_true.1 this y hy
  rw [← h1] at h
  obtain ⟨p1, p2, p3⟩ := List.pairwise_append.1 h
  rw [ins, List.pairwise_append]
  have hrest : ∀ z r, l.dropWhile (fun y => Op.bytesLess y.path.toList x.path.toList) = z :: r → (z.path = x.path → ∀ y ∈ r, Op.bytesLess x.path.toList y.path.toList = true) ∧ (z.path ≠ x.path → ∀ y ∈ z :: r, Op.bytesLess x.path.toList y.path.toList = true) := by
    intro z r hz
    rw [hz] at p2
    have hn : Op.bytesLess z.path.toList x.path.toList = false := by
      have h0 := List.head?_dropWhile_not (fun y => Op.bytesLess y.path.toList x.path.toList) l
      rw [hz] at h0
      simpa using h0
    refine ⟨fun he y hy => ?_, fun he y hy => ?_⟩
    · rw [← he]
      exact (List.pairwise_cons.1 p2).1 y hy
    · have hxz : Op.bytesLess x.path.toList z.path.toList = true := by
        cases hc : Op.bytesLess x.path.toList z.path.toList with
        | true => rfl
        | false => exact absurd (to_list.1 (less_tri _ _ hn hc)) he
      rcases List.mem_cons.1 hy with rfl | hy
      · exact hxz
      · exact less_trans _ _ _ hxz ((List.pairwise_cons.1 p2).1 y hy)
  cases hdw : l.dropWhile (fun y => Op.bytesLess y.path.toList x.path.toList) with
  | nil =>
    simp only
    refine ⟨p1, List.pairwise_singleton _ _, fun y hy z hz => ?_⟩
    obtain rfl : z = x := by simpa using hz
    exact htw y hy
  | cons z r =>
    have hr := hrest z r hdw
    rw [hdw] at p2 p3
    simp only
    split
    · rename_i he
      refine ⟨p1, List.pairwise_cons.2 ⟨hr.1 he, (List.pairwise_cons.1 p2).2⟩, fun y hy q hq => ?_⟩
      rcases List.mem_cons.1 hq with rfl | hq
      · exact htw y hy
      · exact p3 y hy q (List.mem_cons_of_mem _ hq)
    · rename_i he
      refine ⟨p1, List.pairwise_cons.2 ⟨hr.2 he, p2⟩, fun y hy q hq => ?_⟩
      rcases List.mem_cons.1 hq with rfl | hq
      · exact htw y hy
      · exact p3 y hy q hq
theorem rises_drop {l : List It} (p : ByteArray) (h : Rises l) : Rises (drop l p) := List.Pairwise.filter _ h
structure Inv (s : St) (i T : Nat) : Prop where
  rises : Rises s.L
  len : s.L.length ≤ i
  path : ∀ x ∈ s.L, x.path.size ≤ 1048576
  size : ∀ x ∈ s.L, x.data.size ≤ T ∧ x.kept.size ≤ T
  kept : ∀ x ∈ s.L, x.anew = false → x.kept.size ≤ x.data.size
  rooms : s.rooms.length ≤ i
  steps : s.steps ≤ i
  stamps : s.stamps ≤ T
  armed : -1 ≤ s.armed ∧ s.armed ≤ 9223372036854775807
theorem Inv.more {s : St} {i T : Nat} (h : Inv s i T) : Inv s (i + 1) (T + 1048576) where
  rises := h.rises
  len := by have := h.len; omega
  path := h.path
  size := fun x hx => by have := h.size x hx; omega
  kept := h.kept
  rooms := by have := h.rooms; omega
  steps := by have := h.steps; omega
  stamps := by have := h.stamps; omega
  armed := h.armed
theorem whole_le {l : List It} {B : Nat} (h : ∀ x ∈ l, x.data.size ≤ B) : whole l ≤ l.length * B := by
  induction l with
  | nil => simp [whole]
  | cons x l ih =>
    have h1 := h x (by simp)
    have h2 := ih (fun y hy => h y (by simp [hy]))
    unfold whole at *
    rw [List.map_cons, List.sum_cons, List.length_cons, Nat.succ_mul]
    omega
theorem find_mem {l : List It} {p : ByteArray} {x : It} (h : find l p = some x) : x ∈ l ∧ x.path = p := ⟨List.mem_of_find?_eq_some h, by have := List.find?_some h; exact of_decide_eq_true this⟩
theorem old_cases (l : List It) (p : ByteArray) : old l p = mk p ∨ (old l p ∈ l ∧ (old l p).path = p) := by
  unfold old
  cases h : find l p with
  | none => exact .inl rfl
  | some x => exact .inr (find_mem h)
theorem drop_in (l : List It) (p : ByteArray) : (∀ y ∈ drop l p, y ∈ l) ∧ (drop l p).length ≤ l.length := ⟨fun y hy => (List.mem_filter.1 hy).1, List.length_filter_le _ _⟩
end Go.Proofs.YtjdfffkkpbabpaaGreat.Dk

namespace Go.Proofs.YtjdfffkkpbabpaaGreat.Dk
open Go.RowKit Tx Pm
set_option linter.unusedVariables false
def RefAt (b : Nat) (w : World) (F : Nat → Prop) (s : St) : Prop := ∃ vL vR, At w b s vL vR ∧ ∀ i, F i ↔ Foot b vL vR i
def Left (Obj : World → (Nat → Prop) → St → Prop) (w : World) (F : Nat → Prop) (s : St) (w' : World) : Prop := ∃ F', Obj w' F' s ∧ Chg F w w' ∧ ∀ g, F' g → F g ∨ w.heap.size ≤ g
theorem to_left {w w' : World} {b : Nat} {F : Nat → Prop} {vL vR : Value} {r : Nat × St} {e : Ending} (hF : ∀ i, F i ↔ Foot b vL vR i) (h : To w b vL vR r e w') : e = .returned (.int .i64 (r.1 : Nat)) ∧ Left (RefAt b) w F r.2 w' := by
  obtain ⟨he, vL', vR', hat, hc, hn⟩ := h
  exact ⟨he, Foot b vL' vR', ⟨vL', vR', hat, fun _ => Iff.rfl⟩, hc.mono (fun i hi => (hF i).2 hi), fun g hg => (hn g hg).imp (fun hh => (hF g).2 hh) id⟩
theorem RefAt.lt {b : Nat} {w : World} {F : Nat → Prop} {s : St} (h : RefAt b w F s) : ∀ i, F i → i < w.heap.size := by
  obtain ⟨vL, vR, hat, hF⟩ := h
  exact fun i hi => hat.lt i ((hF i).1 hi)
theorem RefAt.kept {b : Nat} {w w1 : World} {F : Nat → Prop} {s : St} (h : RefAt b w F s) (hk : ∀ i, F i → w1.heap[i]? = w.heap[i]?) : RefAt b w1 F s := by
  obtain ⟨vL, vR, hat, hF⟩ := h
  exact ⟨vL, vR, hat.kept (fun i hi => hk i ((hF i).2 hi)), hF⟩
structure Kind (Obj : World → (Nat → Prop) → St → Prop) : Prop where
  lt : ∀ {w F s}, Obj w F s → ∀ i, F i → i < w.heap.size
  kept : ∀ {w w1 F s}, Obj w F s → (∀ i, F i → w1.heap[i]? = w.heap[i]?) → Obj w1 F s
theorem ref_kind (b : Nat) : Kind (RefAt b) := ⟨fun h => h.lt, fun h hk => h.kept hk⟩
end Go.Proofs.YtjdfffkkpbabpaaGreat.Dk



namespace Go.Proofs.YtjdfffkkpbabpaaGreat.Dk
open Go.RowKit Tx Pm
set_option linter.unusedVariables false
end Go.Proofs.YtjdfffkkpbabpaaGreat.Dk

namespace Go.Proofs.YtjdfffkkpbabpaaGreat.Dk
open Go.RowKit Tx Pm
set_option linter.unusedVariables false
end Go.Proofs.YtjdfffkkpbabpaaGreat.Dk

namespace Go.Proofs.YtjdfffkkpbabpaaGreat.Dk
open Go.RowKit Tx Pm
set_option linter.unusedVariables false
end Go.Proofs.YtjdfffkkpbabpaaGreat.Dk

namespace Go.Proofs.YtjdfffkkpbabpaaGreat.Dk
open Go.RowKit Tx Pm
set_option linter.unusedVariables false
theorem find_app (l r : List It) (p : ByteArray) : find (l ++ r) p = (find l p).or (find r p) := by
  unfold find
  rw [List.find?_append]
theorem find_one (x : It) (r : List It) {p : ByteArray} (h : x.path ≠ p) : find (x :: r) p = find r p := by
  unfold find
  rw [List.find?_cons_of_neg (by simpa using h)]
theorem find_ins (l : List It) {x : It} {p : ByteArray} (h : x.path ≠ p) : find (ins l x) p = find l p := by
  have e : l = l.takeWhile (fun y => Op.bytesLess y.path.toList x.path.toList) ++ l.dropWhile (fun y => Op.bytesLess y.path.toList x.path.toList) := (List.takeWhile_append_dropWhile).symm
  unfold ins
  generalize l.takeWhile (fun y => Op.bytesLess y.path.toList x.path.toList) = a at e ⊢
  generalize l.dropWhile (fun y => Op.bytesLess y.path.toList x.path.toList) = b at e ⊢
  rw [e, find_app, find_app, find_one _ _ h]
  cases b with
  | nil => rfl
  | cons y r =>
    simp only
    split
    · rename_i hy
      rw [find_one y r (by rw [hy]; exact h)]
    · rfl
theorem find_drop (l : List It) {q p : ByteArray} (h : q ≠ p) : find (drop l q) p = find l p := by
  unfold find drop
  rw [List.find?_filter]
  congr 1
  funext x
  by_cases hx : x.path = p
  · simp [hx, Ne.symm h]
  · simp [hx]
theorem old_path (l : List It) (p : ByteArray) : (old l p).path = p := by
  rcases old_cases l p with h | ⟨_, h⟩
  · rw [h]; rfl
  · exact h
end Go.Proofs.YtjdfffkkpbabpaaGreat.Dk
