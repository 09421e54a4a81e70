/- Region 8 of TreeDiffs's loop, step by step. -/
import Derived.Test.YthokkobmlhbfgaaTKit
import Derived.Test.YthokkobmlhbfgaaReg
namespace Go.Proofs.Ythokkobmlhbfgaa.treeDiffs
open Go.RowKit Tx Pm Pr En Ea
set_option linter.unusedVariables false

set_option maxRecDepth 100000 in
set_option maxHeartbeats 2000000 in
theorem reg8_1 (ops : Array Oper) (hops : ops = (Rg.opsOf Try.f7 8)) (id : Nat) (a : Option Addr) (n c : Nat) (b : Option Addr) (m c2 : Nat) (bd od L k4 j : Nat) (q z D1 D2 : ByteArray) (K1 K2 : Int) {u2 u3 u4 u5 u6 u8 u10 u11 u12 u13 u14 u15 u16 u17 u18 u19 u20 u21 u22 u23 u24 u25 u26 u27 u28 u29 u30 u31 u32 u33 u34 u35 u36 u37 u38 u39 u40 u41 u42 u43 u44 u45 u46 u47 u48 u49 u50 u51 u52 u53 u54 u55 u56 u57 u58 u59 u60 u61 u62 u63 u64 u65 u66 u67 u68 u69 u70 u71 u72 u73 u74 u75 u76 u77 u78 u79 u80 u81 u82 u83 u84 u85 u86 u87 u88 u89 u90 u91 u92 u93 u94 u95 u96 u97 u98 u99 u100 u101 u102 u103 u104 u105 : Value} (w0 w4 w : World)
    (hb4 : Below w0.heap.size w0 w4) (hW : Below w4.heap.size w4 w)
    (hq : ∀ W, Below w4.heap.size w4 W → W.cell? ⟨bd, od, none⟩ = some (.string q))
    (hlt : 0 < L) (hLm : (L : Int) ≤ 4611686018427387904)
    (hD : K1 ≠ K2)
    (ca : ∀ W, Below w0.heap.size w0 W → Calls Try.prog 16 #[.slice a n c, .string q] W fun e w' => e = .returned (.agg #[.int .i64 K1, .string D1]) ∧ Below W.heap.size W w')
    (cb : ∀ W, Below w0.heap.size w0 W → Calls Try.prog 16 #[.slice b m c2, .string q] W fun e w' => e = .returned (.agg #[.int .i64 K2, .string D2]) ∧ Below W.heap.size W w')
    (cck : ∀ W, Calls Try.prog 31 #[.string q, .int .i64 5] W fun e w' => e = .returned (.int .i64 0) ∧ Below W.heap.size W w') :
    (Code.region id ops true).wp Try.prog (Rg.Only fun a' w' => a' = ⟨#[(.slice a n c), (.slice b m c2), u2, u3, u4, u5, u6, (.slice (some ⟨bd, od, none⟩) L k4), u8, (.int .i64 0), u10, u11, u12, u13, u14, u15, u16, u17, u18, u19, u20, u21, u22, u23, u24, u25, u26, u27, u28, u29, u30, u31, (.int .i64 0), (.bool false), (.bool false), undef, undef, undef, undef, undef, undef, undef, undef, undef, undef, undef, (Value.bool false), (Value.bool false), (.slice a n c), (.slice (some ⟨bd, od, none⟩) L k4), (.int .i64 0), (.pointer (some ⟨bd, od, none⟩)), (.string q), (.agg #[.int .i64 K1, .string D1]), (.slice b m c2), (.slice (some ⟨bd, od, none⟩) L k4), (.int .i64 0), (.pointer (some ⟨bd, od, none⟩)), (.string q), (.agg #[.int .i64 K2, .string D2]), (.bool false), (.bool false), (.bool false), (.slice (some ⟨bd, od, none⟩) L k4), (.int .i64 0), (.pointer (some ⟨bd, od, none⟩)), (.string q), (.int .i64 0), (.bool false), (.bool false), u70, u71, u72, u73, u74, u75, u76, u77, u78, u79, u80, u81, u82, u83, u84, u85, u86, u87, u88, u89, u90, u91, u92, u93, u94, u95, u96, u97, u98, u99, u100, u101, u102, u103, u104, u105], []⟩ ∧ Below w4.heap.size w4 w') ⟨#[(.slice a n c), (.slice b m c2), u2, u3, u4, u5, u6, (.slice (some ⟨bd, od, none⟩) L k4), u8, (.int .i64 0), u10, u11, u12, u13, u14, u15, u16, u17, u18, u19, u20, u21, u22, u23, u24, u25, u26, u27, u28, u29, u30, u31, u32, u33, u34, u35, u36, u37, u38, u39, u40, u41, u42, u43, u44, u45, u46, u47, u48, u49, u50, u51, u52, u53, u54, u55, u56, u57, u58, u59, u60, u61, u62, u63, u64, u65, u66, u67, u68, u69, u70, u71, u72, u73, u74, u75, u76, u77, u78, u79, u80, u81, u82, u83, u84, u85, u86, u87, u88, u89, u90, u91, u92, u93, u94, u95, u96, u97, u98, u99, u100, u101, u102, u103, u104, u105], []⟩ w := by
  subst hops
  have hNS : Region.noSelect (Rg.opsOf Try.f7 8) = true := by kernel_rfl
  have hB0 := hW.drew
  have hSB : ∀ W, Below w4.heap.size w4 W → (fun W => W.cell? ⟨bd, od, none⟩ = some (.string q)) W := fun W h => hq W h
  have hgN := guardN
  refine wp_region_held_drew (S := fun W => W.cell? ⟨bd, od, none⟩ = some (.string q)) (by kernel_rfl) (hSB _ hB0) (fun hHeld => ?_)
  rw [show (Rg.opsOf Try.f7 8).size = 38 by kernel_rfl]
  refine Rg.take (ops := (Rg.opsOf Try.f7 8)) 0 (some 32) ((.int .i64 0)) hNS (by kernel_rfl) (by kernel_rfl) (by kernel_rfl) (by kernel_rfl) (by kernel_rfl) hHeld (Rg.y_move (x := (Operand.tmp 9)) (Or.inl (by kernel_rfl)) (by kernel_rfl)) ?_
  refine Rg.take (ops := (Rg.opsOf Try.f7 8)) 1 (some 33) ((.bool false)) hNS (by kernel_rfl) (by kernel_rfl) (by kernel_rfl) (by kernel_rfl) (by kernel_rfl) hHeld (Rg.y_bin (b := BinOp.gtr) (T := 3) (R' := 3) (x := (Operand.tmp 32)) (y := (Operand.const (Value.int IntKind.i64 0))) (vx := (.int .i64 0)) (vy := (Value.int IntKind.i64 0)) (by kernel_rfl) (by kernel_rfl) (by kernel_rfl) ?_) ?_
  · (intro w hSw; go_simp)
  refine Rg.take (ops := (Rg.opsOf Try.f7 8)) 2 (some 34) ((.bool false)) hNS (by kernel_rfl) (by kernel_rfl) (by kernel_rfl) (by kernel_rfl) (by kernel_rfl) hHeld (Rg.y_move (x := (Operand.tmp 33)) (Or.inl (by kernel_rfl)) (by kernel_rfl)) ?_
  refine Rg.skip (ops := (Rg.opsOf Try.f7 8)) 3 (some 35) hNS (by kernel_rfl) (by kernel_rfl) (by kernel_rfl) (by kernel_rfl) (by kernel_rfl) hHeld ?_
  refine Rg.skip (ops := (Rg.opsOf Try.f7 8)) 4 (some 36) hNS (by kernel_rfl) (by kernel_rfl) (by kernel_rfl) (by kernel_rfl) (by kernel_rfl) hHeld ?_
  refine Rg.skip (ops := (Rg.opsOf Try.f7 8)) 5 (some 37) hNS (by kernel_rfl) (by kernel_rfl) (by kernel_rfl) (by kernel_rfl) (by kernel_rfl) hHeld ?_
  refine Rg.skip (ops := (Rg.opsOf Try.f7 8)) 6 (some 38) hNS (by kernel_rfl) (by kernel_rfl) (by kernel_rfl) (by kernel_rfl) (by kernel_rfl) hHeld ?_
  refine Rg.skip (ops := (Rg.opsOf Try.f7 8)) 7 (some 39) hNS (by kernel_rfl) (by kernel_rfl) (by kernel_rfl) (by kernel_rfl) (by kernel_rfl) hHeld ?_
  refine Rg.skip (ops := (Rg.opsOf Try.f7 8)) 8 (some 40) hNS (by kernel_rfl) (by kernel_rfl) (by kernel_rfl) (by kernel_rfl) (by kernel_rfl) hHeld ?_
  refine Rg.skip (ops := (Rg.opsOf Try.f7 8)) 9 (some 41) hNS (by kernel_rfl) (by kernel_rfl) (by kernel_rfl) (by kernel_rfl) (by kernel_rfl) hHeld ?_
  refine Rg.skip (ops := (Rg.opsOf Try.f7 8)) 10 (some 42) hNS (by kernel_rfl) (by kernel_rfl) (by kernel_rfl) (by kernel_rfl) (by kernel_rfl) hHeld ?_
  refine Rg.skip (ops := (Rg.opsOf Try.f7 8)) 11 (some 43) hNS (by kernel_rfl) (by kernel_rfl) (by kernel_rfl) (by kernel_rfl) (by kernel_rfl) hHeld ?_
  refine Rg.skip (ops := (Rg.opsOf Try.f7 8)) 12 (some 44) hNS (by kernel_rfl) (by kernel_rfl) (by kernel_rfl) (by kernel_rfl) (by kernel_rfl) hHeld ?_
  refine Rg.skip (ops := (Rg.opsOf Try.f7 8)) 13 (some 45) hNS (by kernel_rfl) (by kernel_rfl) (by kernel_rfl) (by kernel_rfl) (by kernel_rfl) hHeld ?_
  refine Rg.take (ops := (Rg.opsOf Try.f7 8)) 14 (some 46) ((Value.bool false)) hNS (by kernel_rfl) (by kernel_rfl) (by kernel_rfl) (by kernel_rfl) (by kernel_rfl) hHeld (Rg.y_pick (c := (Operand.tmp 34)) (x := (Operand.tmp 45)) (y := (Operand.const (Value.bool false))) (b := false) (by kernel_rfl) (by kernel_rfl) (by kernel_rfl)) ?_
  refine Rg.take (ops := (Rg.opsOf Try.f7 8)) 15 (some 47) ((Value.bool false)) hNS (by kernel_rfl) (by kernel_rfl) (by kernel_rfl) (by kernel_rfl) (by kernel_rfl) hHeld (Rg.y_move (x := (Operand.tmp 46)) (Or.inl (by kernel_rfl)) (by kernel_rfl)) ?_
  refine Rg.take (ops := (Rg.opsOf Try.f7 8)) 16 (some 48) ((.slice a n c)) hNS (by kernel_rfl) (by kernel_rfl) (by kernel_rfl) (by kernel_rfl) (by kernel_rfl) hHeld (Rg.y_move (x := (Operand.tmp 0)) (Or.inl (by kernel_rfl)) (by kernel_rfl)) ?_
  refine Rg.take (ops := (Rg.opsOf Try.f7 8)) 17 (some 49) ((.slice (some ⟨bd, od, none⟩) L k4)) hNS (by kernel_rfl) (by kernel_rfl) (by kernel_rfl) (by kernel_rfl) (by kernel_rfl) hHeld (Rg.y_move (x := (Operand.tmp 7)) (Or.inl (by kernel_rfl)) (by kernel_rfl)) ?_
  refine Rg.take (ops := (Rg.opsOf Try.f7 8)) 18 (some 50) ((.int .i64 0)) hNS (by kernel_rfl) (by kernel_rfl) (by kernel_rfl) (by kernel_rfl) (by kernel_rfl) hHeld (Rg.y_move (x := (Operand.tmp 9)) (Or.inl (by kernel_rfl)) (by kernel_rfl)) ?_
  refine Rg.take (ops := (Rg.opsOf Try.f7 8)) 19 (some 51) ((.pointer (some ⟨bd, od, none⟩))) hNS (by kernel_rfl) (by kernel_rfl) (by kernel_rfl) (by kernel_rfl) (by kernel_rfl) hHeld (Rg.y_at (T := 36) (x := (Operand.tmp 49)) (y := (Operand.tmp 50)) (vx := (.slice (some ⟨bd, od, none⟩) L k4)) (vy := (.int .i64 0)) (by kernel_rfl) (by kernel_rfl) (by kernel_rfl) ?_) ?_
  · (intro w hSw; go_simp)
  refine Rg.take (ops := (Rg.opsOf Try.f7 8)) 20 (some 52) ((.string q)) hNS (by kernel_rfl) (by kernel_rfl) (by kernel_rfl) (by kernel_rfl) (by kernel_rfl) hHeld (Rg.y_load (T := 9) (x := (Operand.tmp 51)) (vx := (.pointer (some ⟨bd, od, none⟩))) (by kernel_rfl) (by kernel_rfl) ?_) ?_
  · (intro w hSw; go_simp)
  refine Rg.take (ops := (Rg.opsOf Try.f7 8)) 22 (some 54) ((.slice b m c2)) hNS (by kernel_rfl) (by kernel_rfl) (by kernel_rfl) (by kernel_rfl) (by kernel_rfl) hHeld (Rg.y_move (x := (Operand.tmp 1)) (Or.inl (by kernel_rfl)) (by kernel_rfl)) ?_
  refine Rg.take (ops := (Rg.opsOf Try.f7 8)) 23 (some 55) ((.slice (some ⟨bd, od, none⟩) L k4)) hNS (by kernel_rfl) (by kernel_rfl) (by kernel_rfl) (by kernel_rfl) (by kernel_rfl) hHeld (Rg.y_move (x := (Operand.tmp 7)) (Or.inl (by kernel_rfl)) (by kernel_rfl)) ?_
  refine Rg.take (ops := (Rg.opsOf Try.f7 8)) 24 (some 56) ((.int .i64 0)) hNS (by kernel_rfl) (by kernel_rfl) (by kernel_rfl) (by kernel_rfl) (by kernel_rfl) hHeld (Rg.y_move (x := (Operand.tmp 9)) (Or.inl (by kernel_rfl)) (by kernel_rfl)) ?_
  refine Rg.take (ops := (Rg.opsOf Try.f7 8)) 25 (some 57) ((.pointer (some ⟨bd, od, none⟩))) hNS (by kernel_rfl) (by kernel_rfl) (by kernel_rfl) (by kernel_rfl) (by kernel_rfl) hHeld (Rg.y_at (T := 36) (x := (Operand.tmp 55)) (y := (Operand.tmp 56)) (vx := (.slice (some ⟨bd, od, none⟩) L k4)) (vy := (.int .i64 0)) (by kernel_rfl) (by kernel_rfl) (by kernel_rfl) ?_) ?_
  · (intro w hSw; go_simp)
  refine Rg.take (ops := (Rg.opsOf Try.f7 8)) 26 (some 58) ((.string q)) hNS (by kernel_rfl) (by kernel_rfl) (by kernel_rfl) (by kernel_rfl) (by kernel_rfl) hHeld (Rg.y_load (T := 9) (x := (Operand.tmp 57)) (vx := (.pointer (some ⟨bd, od, none⟩))) (by kernel_rfl) (by kernel_rfl) ?_) ?_
  · (intro w hSw; go_simp)
  refine Rg.call (ops := (Rg.opsOf Try.f7 8)) (fn := Try.f16) (xs := #[Operand.tmp 48, Operand.tmp 52]) (ats := #[22, 9]) 21 (some 53) 16 #[(.slice a n c), (.string q)] (by kernel_rfl) (by kernel_rfl) (by kernel_rfl) (by kernel_rfl) (by kernel_rfl) Try.func16 (by kernel_rfl) (by kernel_rfl) (by kernel_rfl) ?_
  refine (ca _ (below_call hb4 hB0)).mono ?_
  rintro e w5 ⟨rfl, hb5'⟩
  have hW5 := below_call hB0 hb5'
  refine ⟨_, rfl, hSB _ hW5, fun hHeld => ?_⟩
  refine Rg.call (ops := (Rg.opsOf Try.f7 8)) (fn := Try.f16) (xs := #[Operand.tmp 54, Operand.tmp 58]) (ats := #[22, 9]) 27 (some 59) 16 #[(.slice b m c2), (.string q)] (by kernel_rfl) (by kernel_rfl) (by kernel_rfl) (by kernel_rfl) (by kernel_rfl) Try.func16 (by kernel_rfl) (by kernel_rfl) (by kernel_rfl) ?_
  refine (cb _ (below_call hb4 hW5)).mono ?_
  rintro e w6 ⟨rfl, hb6'⟩
  have hW6 := below_call hW5 hb6'
  refine ⟨_, rfl, hSB _ hW6, fun hHeld => ?_⟩
  refine Rg.take (ops := (Rg.opsOf Try.f7 8)) 28 (some 60) ((.bool false)) hNS (by kernel_rfl) (by kernel_rfl) (by kernel_rfl) (by kernel_rfl) (by kernel_rfl) hHeld (Rg.y_bin (b := BinOp.eql) (T := 24) (R' := 24) (x := (Operand.tmp 53)) (y := (Operand.tmp 59)) (vx := (.agg #[.int .i64 K1, .string D1])) (vy := (.agg #[.int .i64 K2, .string D2])) (by kernel_rfl) (by kernel_rfl) (by kernel_rfl) ?_) ?_
  · (intro w hSw; go_simp)
  refine Rg.take (ops := (Rg.opsOf Try.f7 8)) 29 (some 61) ((.bool false)) hNS (by kernel_rfl) (by kernel_rfl) (by kernel_rfl) (by kernel_rfl) (by kernel_rfl) hHeld (Rg.y_pick (c := (Operand.tmp 47)) (x := (Operand.const (Value.bool true))) (y := (Operand.tmp 60)) (b := false) (by kernel_rfl) (by kernel_rfl) (by kernel_rfl)) ?_
  refine Rg.take (ops := (Rg.opsOf Try.f7 8)) 30 (some 62) ((.bool false)) hNS (by kernel_rfl) (by kernel_rfl) (by kernel_rfl) (by kernel_rfl) (by kernel_rfl) hHeld (Rg.y_move (x := (Operand.tmp 61)) (Or.inl (by kernel_rfl)) (by kernel_rfl)) ?_
  refine Rg.take (ops := (Rg.opsOf Try.f7 8)) 31 (some 63) ((.slice (some ⟨bd, od, none⟩) L k4)) hNS (by kernel_rfl) (by kernel_rfl) (by kernel_rfl) (by kernel_rfl) (by kernel_rfl) hHeld (Rg.y_move (x := (Operand.tmp 7)) (Or.inl (by kernel_rfl)) (by kernel_rfl)) ?_
  refine Rg.take (ops := (Rg.opsOf Try.f7 8)) 32 (some 64) ((.int .i64 0)) hNS (by kernel_rfl) (by kernel_rfl) (by kernel_rfl) (by kernel_rfl) (by kernel_rfl) hHeld (Rg.y_move (x := (Operand.tmp 9)) (Or.inl (by kernel_rfl)) (by kernel_rfl)) ?_
  refine Rg.take (ops := (Rg.opsOf Try.f7 8)) 33 (some 65) ((.pointer (some ⟨bd, od, none⟩))) hNS (by kernel_rfl) (by kernel_rfl) (by kernel_rfl) (by kernel_rfl) (by kernel_rfl) hHeld (Rg.y_at (T := 36) (x := (Operand.tmp 63)) (y := (Operand.tmp 64)) (vx := (.slice (some ⟨bd, od, none⟩) L k4)) (vy := (.int .i64 0)) (by kernel_rfl) (by kernel_rfl) (by kernel_rfl) ?_) ?_
  · (intro w hSw; go_simp)
  refine Rg.take (ops := (Rg.opsOf Try.f7 8)) 34 (some 66) ((.string q)) hNS (by kernel_rfl) (by kernel_rfl) (by kernel_rfl) (by kernel_rfl) (by kernel_rfl) hHeld (Rg.y_load (T := 9) (x := (Operand.tmp 65)) (vx := (.pointer (some ⟨bd, od, none⟩))) (by kernel_rfl) (by kernel_rfl) ?_) ?_
  · (intro w hSw; go_simp)
  refine Rg.call (ops := (Rg.opsOf Try.f7 8)) (fn := Try.f31) (xs := #[Operand.tmp 66, Operand.const (Value.int IntKind.i64 5)]) (ats := #[9, 3]) 35 (some 67) 31 #[(.string q), (Value.int IntKind.i64 5)] (by kernel_rfl) (by kernel_rfl) (by kernel_rfl) (by kernel_rfl) (by kernel_rfl) Try.func31 (by kernel_rfl) (by kernel_rfl) (by kernel_rfl) ?_
  refine (cck _).mono ?_
  rintro e w7 ⟨rfl, hb7'⟩
  have hW7 := below_call hW6 hb7'
  refine ⟨_, rfl, hSB _ hW7, fun hHeld => ?_⟩
  refine Rg.take (ops := (Rg.opsOf Try.f7 8)) 36 (some 68) ((.bool false)) hNS (by kernel_rfl) (by kernel_rfl) (by kernel_rfl) (by kernel_rfl) (by kernel_rfl) hHeld (Rg.y_bin (b := BinOp.neq) (T := 3) (R' := 3) (x := (Operand.tmp 67)) (y := (Operand.const (Value.int IntKind.i64 0))) (vx := (.int .i64 0)) (vy := (Value.int IntKind.i64 0)) (by kernel_rfl) (by kernel_rfl) (by kernel_rfl) ?_) ?_
  · (intro w hSw; go_simp)
  refine Rg.take (ops := (Rg.opsOf Try.f7 8)) 37 (some 69) ((.bool false)) hNS (by kernel_rfl) (by kernel_rfl) (by kernel_rfl) (by kernel_rfl) (by kernel_rfl) hHeld (Rg.y_pick (c := (Operand.tmp 62)) (x := (Operand.const (Value.bool true))) (y := (Operand.tmp 68)) (b := false) (by kernel_rfl) (by kernel_rfl) (by kernel_rfl)) ?_
  refine Rg.done (ops := (Rg.opsOf Try.f7 8)) (by kernel_rfl) ?_
  exact ⟨by kernel_rfl, hW7⟩

set_option maxRecDepth 100000 in
set_option maxHeartbeats 2000000 in
theorem reg8_2 (ops : Array Oper) (hops : ops = (Rg.opsOf Try.f7 8)) (id : Nat) (a : Option Addr) (n c : Nat) (b : Option Addr) (m c2 : Nat) (bd od L k4 j : Nat) (q z D1 D2 : ByteArray) (K1 K2 : Int) {u2 u3 u4 u5 u6 u8 u10 u11 u12 u13 u14 u15 u16 u17 u18 u19 u20 u21 u22 u23 u24 u25 u26 u27 u28 u29 u30 u31 u32 u33 u34 u35 u36 u37 u38 u39 u40 u41 u42 u43 u44 u45 u46 u47 u48 u49 u50 u51 u52 u53 u54 u55 u56 u57 u58 u59 u60 u61 u62 u63 u64 u65 u66 u67 u68 u69 u70 u71 u72 u73 u74 u75 u76 u77 u78 u79 u80 u81 u82 u83 u84 u85 u86 u87 u88 u89 u90 u91 u92 u93 u94 u95 u96 u97 u98 u99 u100 u101 u102 u103 u104 u105 : Value} (w0 w4 w : World)
    (hb4 : Below w0.heap.size w0 w4) (hW : Below w4.heap.size w4 w)
    (hq : ∀ W, Below w4.heap.size w4 W → W.cell? ⟨bd, od, none⟩ = some (.string q))
    (hlt : 0 < L) (hLm : (L : Int) ≤ 4611686018427387904)
    (hD : D1.toList ≠ D2.toList)
    (ca : ∀ W, Below w0.heap.size w0 W → Calls Try.prog 16 #[.slice a n c, .string q] W fun e w' => e = .returned (.agg #[.int .i64 K1, .string D1]) ∧ Below W.heap.size W w')
    (cb : ∀ W, Below w0.heap.size w0 W → Calls Try.prog 16 #[.slice b m c2, .string q] W fun e w' => e = .returned (.agg #[.int .i64 K1, .string D2]) ∧ Below W.heap.size W w')
    (cck : ∀ W, Calls Try.prog 31 #[.string q, .int .i64 5] W fun e w' => e = .returned (.int .i64 0) ∧ Below W.heap.size W w') :
    (Code.region id ops true).wp Try.prog (Rg.Only fun a' w' => a' = ⟨#[(.slice a n c), (.slice b m c2), u2, u3, u4, u5, u6, (.slice (some ⟨bd, od, none⟩) L k4), u8, (.int .i64 0), u10, u11, u12, u13, u14, u15, u16, u17, u18, u19, u20, u21, u22, u23, u24, u25, u26, u27, u28, u29, u30, u31, (.int .i64 0), (.bool false), (.bool false), undef, undef, undef, undef, undef, undef, undef, undef, undef, undef, undef, (Value.bool false), (Value.bool false), (.slice a n c), (.slice (some ⟨bd, od, none⟩) L k4), (.int .i64 0), (.pointer (some ⟨bd, od, none⟩)), (.string q), (.agg #[.int .i64 K1, .string D1]), (.slice b m c2), (.slice (some ⟨bd, od, none⟩) L k4), (.int .i64 0), (.pointer (some ⟨bd, od, none⟩)), (.string q), (.agg #[.int .i64 K1, .string D2]), (.bool false), (.bool false), (.bool false), (.slice (some ⟨bd, od, none⟩) L k4), (.int .i64 0), (.pointer (some ⟨bd, od, none⟩)), (.string q), (.int .i64 0), (.bool false), (.bool false), u70, u71, u72, u73, u74, u75, u76, u77, u78, u79, u80, u81, u82, u83, u84, u85, u86, u87, u88, u89, u90, u91, u92, u93, u94, u95, u96, u97, u98, u99, u100, u101, u102, u103, u104, u105], []⟩ ∧ Below w4.heap.size w4 w') ⟨#[(.slice a n c), (.slice b m c2), u2, u3, u4, u5, u6, (.slice (some ⟨bd, od, none⟩) L k4), u8, (.int .i64 0), u10, u11, u12, u13, u14, u15, u16, u17, u18, u19, u20, u21, u22, u23, u24, u25, u26, u27, u28, u29, u30, u31, u32, u33, u34, u35, u36, u37, u38, u39, u40, u41, u42, u43, u44, u45, u46, u47, u48, u49, u50, u51, u52, u53, u54, u55, u56, u57, u58, u59, u60, u61, u62, u63, u64, u65, u66, u67, u68, u69, u70, u71, u72, u73, u74, u75, u76, u77, u78, u79, u80, u81, u82, u83, u84, u85, u86, u87, u88, u89, u90, u91, u92, u93, u94, u95, u96, u97, u98, u99, u100, u101, u102, u103, u104, u105], []⟩ w := by
  subst hops
  have hNS : Region.noSelect (Rg.opsOf Try.f7 8) = true := by kernel_rfl
  have hB0 := hW.drew
  have hSB : ∀ W, Below w4.heap.size w4 W → (fun W => W.cell? ⟨bd, od, none⟩ = some (.string q)) W := fun W h => hq W h
  have hgN := guardN
  refine wp_region_held_drew (S := fun W => W.cell? ⟨bd, od, none⟩ = some (.string q)) (by kernel_rfl) (hSB _ hB0) (fun hHeld => ?_)
  rw [show (Rg.opsOf Try.f7 8).size = 38 by kernel_rfl]
  refine Rg.take (ops := (Rg.opsOf Try.f7 8)) 0 (some 32) ((.int .i64 0)) hNS (by kernel_rfl) (by kernel_rfl) (by kernel_rfl) (by kernel_rfl) (by kernel_rfl) hHeld (Rg.y_move (x := (Operand.tmp 9)) (Or.inl (by kernel_rfl)) (by kernel_rfl)) ?_
  refine Rg.take (ops := (Rg.opsOf Try.f7 8)) 1 (some 33) ((.bool false)) hNS (by kernel_rfl) (by kernel_rfl) (by kernel_rfl) (by kernel_rfl) (by kernel_rfl) hHeld (Rg.y_bin (b := BinOp.gtr) (T := 3) (R' := 3) (x := (Operand.tmp 32)) (y := (Operand.const (Value.int IntKind.i64 0))) (vx := (.int .i64 0)) (vy := (Value.int IntKind.i64 0)) (by kernel_rfl) (by kernel_rfl) (by kernel_rfl) ?_) ?_
  · (intro w hSw; go_simp)
  refine Rg.take (ops := (Rg.opsOf Try.f7 8)) 2 (some 34) ((.bool false)) hNS (by kernel_rfl) (by kernel_rfl) (by kernel_rfl) (by kernel_rfl) (by kernel_rfl) hHeld (Rg.y_move (x := (Operand.tmp 33)) (Or.inl (by kernel_rfl)) (by kernel_rfl)) ?_
  refine Rg.skip (ops := (Rg.opsOf Try.f7 8)) 3 (some 35) hNS (by kernel_rfl) (by kernel_rfl) (by kernel_rfl) (by kernel_rfl) (by kernel_rfl) hHeld ?_
  refine Rg.skip (ops := (Rg.opsOf Try.f7 8)) 4 (some 36) hNS (by kernel_rfl) (by kernel_rfl) (by kernel_rfl) (by kernel_rfl) (by kernel_rfl) hHeld ?_
  refine Rg.skip (ops := (Rg.opsOf Try.f7 8)) 5 (some 37) hNS (by kernel_rfl) (by kernel_rfl) (by kernel_rfl) (by kernel_rfl) (by kernel_rfl) hHeld ?_
  refine Rg.skip (ops := (Rg.opsOf Try.f7 8)) 6 (some 38) hNS (by kernel_rfl) (by kernel_rfl) (by kernel_rfl) (by kernel_rfl) (by kernel_rfl) hHeld ?_
  refine Rg.skip (ops := (Rg.opsOf Try.f7 8)) 7 (some 39) hNS (by kernel_rfl) (by kernel_rfl) (by kernel_rfl) (by kernel_rfl) (by kernel_rfl) hHeld ?_
  refine Rg.skip (ops := (Rg.opsOf Try.f7 8)) 8 (some 40) hNS (by kernel_rfl) (by kernel_rfl) (by kernel_rfl) (by kernel_rfl) (by kernel_rfl) hHeld ?_
  refine Rg.skip (ops := (Rg.opsOf Try.f7 8)) 9 (some 41) hNS (by kernel_rfl) (by kernel_rfl) (by kernel_rfl) (by kernel_rfl) (by kernel_rfl) hHeld ?_
  refine Rg.skip (ops := (Rg.opsOf Try.f7 8)) 10 (some 42) hNS (by kernel_rfl) (by kernel_rfl) (by kernel_rfl) (by kernel_rfl) (by kernel_rfl) hHeld ?_
  refine Rg.skip (ops := (Rg.opsOf Try.f7 8)) 11 (some 43) hNS (by kernel_rfl) (by kernel_rfl) (by kernel_rfl) (by kernel_rfl) (by kernel_rfl) hHeld ?_
  refine Rg.skip (ops := (Rg.opsOf Try.f7 8)) 12 (some 44) hNS (by kernel_rfl) (by kernel_rfl) (by kernel_rfl) (by kernel_rfl) (by kernel_rfl) hHeld ?_
  refine Rg.skip (ops := (Rg.opsOf Try.f7 8)) 13 (some 45) hNS (by kernel_rfl) (by kernel_rfl) (by kernel_rfl) (by kernel_rfl) (by kernel_rfl) hHeld ?_
  refine Rg.take (ops := (Rg.opsOf Try.f7 8)) 14 (some 46) ((Value.bool false)) hNS (by kernel_rfl) (by kernel_rfl) (by kernel_rfl) (by kernel_rfl) (by kernel_rfl) hHeld (Rg.y_pick (c := (Operand.tmp 34)) (x := (Operand.tmp 45)) (y := (Operand.const (Value.bool false))) (b := false) (by kernel_rfl) (by kernel_rfl) (by kernel_rfl)) ?_
  refine Rg.take (ops := (Rg.opsOf Try.f7 8)) 15 (some 47) ((Value.bool false)) hNS (by kernel_rfl) (by kernel_rfl) (by kernel_rfl) (by kernel_rfl) (by kernel_rfl) hHeld (Rg.y_move (x := (Operand.tmp 46)) (Or.inl (by kernel_rfl)) (by kernel_rfl)) ?_
  refine Rg.take (ops := (Rg.opsOf Try.f7 8)) 16 (some 48) ((.slice a n c)) hNS (by kernel_rfl) (by kernel_rfl) (by kernel_rfl) (by kernel_rfl) (by kernel_rfl) hHeld (Rg.y_move (x := (Operand.tmp 0)) (Or.inl (by kernel_rfl)) (by kernel_rfl)) ?_
  refine Rg.take (ops := (Rg.opsOf Try.f7 8)) 17 (some 49) ((.slice (some ⟨bd, od, none⟩) L k4)) hNS (by kernel_rfl) (by kernel_rfl) (by kernel_rfl) (by kernel_rfl) (by kernel_rfl) hHeld (Rg.y_move (x := (Operand.tmp 7)) (Or.inl (by kernel_rfl)) (by kernel_rfl)) ?_
  refine Rg.take (ops := (Rg.opsOf Try.f7 8)) 18 (some 50) ((.int .i64 0)) hNS (by kernel_rfl) (by kernel_rfl) (by kernel_rfl) (by kernel_rfl) (by kernel_rfl) hHeld (Rg.y_move (x := (Operand.tmp 9)) (Or.inl (by kernel_rfl)) (by kernel_rfl)) ?_
  refine Rg.take (ops := (Rg.opsOf Try.f7 8)) 19 (some 51) ((.pointer (some ⟨bd, od, none⟩))) hNS (by kernel_rfl) (by kernel_rfl) (by kernel_rfl) (by kernel_rfl) (by kernel_rfl) hHeld (Rg.y_at (T := 36) (x := (Operand.tmp 49)) (y := (Operand.tmp 50)) (vx := (.slice (some ⟨bd, od, none⟩) L k4)) (vy := (.int .i64 0)) (by kernel_rfl) (by kernel_rfl) (by kernel_rfl) ?_) ?_
  · (intro w hSw; go_simp)
  refine Rg.take (ops := (Rg.opsOf Try.f7 8)) 20 (some 52) ((.string q)) hNS (by kernel_rfl) (by kernel_rfl) (by kernel_rfl) (by kernel_rfl) (by kernel_rfl) hHeld (Rg.y_load (T := 9) (x := (Operand.tmp 51)) (vx := (.pointer (some ⟨bd, od, none⟩))) (by kernel_rfl) (by kernel_rfl) ?_) ?_
  · (intro w hSw; go_simp)
  refine Rg.take (ops := (Rg.opsOf Try.f7 8)) 22 (some 54) ((.slice b m c2)) hNS (by kernel_rfl) (by kernel_rfl) (by kernel_rfl) (by kernel_rfl) (by kernel_rfl) hHeld (Rg.y_move (x := (Operand.tmp 1)) (Or.inl (by kernel_rfl)) (by kernel_rfl)) ?_
  refine Rg.take (ops := (Rg.opsOf Try.f7 8)) 23 (some 55) ((.slice (some ⟨bd, od, none⟩) L k4)) hNS (by kernel_rfl) (by kernel_rfl) (by kernel_rfl) (by kernel_rfl) (by kernel_rfl) hHeld (Rg.y_move (x := (Operand.tmp 7)) (Or.inl (by kernel_rfl)) (by kernel_rfl)) ?_
  refine Rg.take (ops := (Rg.opsOf Try.f7 8)) 24 (some 56) ((.int .i64 0)) hNS (by kernel_rfl) (by kernel_rfl) (by kernel_rfl) (by kernel_rfl) (by kernel_rfl) hHeld (Rg.y_move (x := (Operand.tmp 9)) (Or.inl (by kernel_rfl)) (by kernel_rfl)) ?_
  refine Rg.take (ops := (Rg.opsOf Try.f7 8)) 25 (some 57) ((.pointer (some ⟨bd, od, none⟩))) hNS (by kernel_rfl) (by kernel_rfl) (by kernel_rfl) (by kernel_rfl) (by kernel_rfl) hHeld (Rg.y_at (T := 36) (x := (Operand.tmp 55)) (y := (Operand.tmp 56)) (vx := (.slice (some ⟨bd, od, none⟩) L k4)) (vy := (.int .i64 0)) (by kernel_rfl) (by kernel_rfl) (by kernel_rfl) ?_) ?_
  · (intro w hSw; go_simp)
  refine Rg.take (ops := (Rg.opsOf Try.f7 8)) 26 (some 58) ((.string q)) hNS (by kernel_rfl) (by kernel_rfl) (by kernel_rfl) (by kernel_rfl) (by kernel_rfl) hHeld (Rg.y_load (T := 9) (x := (Operand.tmp 57)) (vx := (.pointer (some ⟨bd, od, none⟩))) (by kernel_rfl) (by kernel_rfl) ?_) ?_
  · (intro w hSw; go_simp)
  refine Rg.call (ops := (Rg.opsOf Try.f7 8)) (fn := Try.f16) (xs := #[Operand.tmp 48, Operand.tmp 52]) (ats := #[22, 9]) 21 (some 53) 16 #[(.slice a n c), (.string q)] (by kernel_rfl) (by kernel_rfl) (by kernel_rfl) (by kernel_rfl) (by kernel_rfl) Try.func16 (by kernel_rfl) (by kernel_rfl) (by kernel_rfl) ?_
  refine (ca _ (below_call hb4 hB0)).mono ?_
  rintro e w5 ⟨rfl, hb5'⟩
  have hW5 := below_call hB0 hb5'
  refine ⟨_, rfl, hSB _ hW5, fun hHeld => ?_⟩
  refine Rg.call (ops := (Rg.opsOf Try.f7 8)) (fn := Try.f16) (xs := #[Operand.tmp 54, Operand.tmp 58]) (ats := #[22, 9]) 27 (some 59) 16 #[(.slice b m c2), (.string q)] (by kernel_rfl) (by kernel_rfl) (by kernel_rfl) (by kernel_rfl) (by kernel_rfl) Try.func16 (by kernel_rfl) (by kernel_rfl) (by kernel_rfl) ?_
  refine (cb _ (below_call hb4 hW5)).mono ?_
  rintro e w6 ⟨rfl, hb6'⟩
  have hW6 := below_call hW5 hb6'
  refine ⟨_, rfl, hSB _ hW6, fun hHeld => ?_⟩
  refine Rg.take (ops := (Rg.opsOf Try.f7 8)) 28 (some 60) ((.bool false)) hNS (by kernel_rfl) (by kernel_rfl) (by kernel_rfl) (by kernel_rfl) (by kernel_rfl) hHeld (Rg.y_bin (b := BinOp.eql) (T := 24) (R' := 24) (x := (Operand.tmp 53)) (y := (Operand.tmp 59)) (vx := (.agg #[.int .i64 K1, .string D1])) (vy := (.agg #[.int .i64 K1, .string D2])) (by kernel_rfl) (by kernel_rfl) (by kernel_rfl) ?_) ?_
  · (intro w hSw; go_simp)
  refine Rg.take (ops := (Rg.opsOf Try.f7 8)) 29 (some 61) ((.bool false)) hNS (by kernel_rfl) (by kernel_rfl) (by kernel_rfl) (by kernel_rfl) (by kernel_rfl) hHeld (Rg.y_pick (c := (Operand.tmp 47)) (x := (Operand.const (Value.bool true))) (y := (Operand.tmp 60)) (b := false) (by kernel_rfl) (by kernel_rfl) (by kernel_rfl)) ?_
  refine Rg.take (ops := (Rg.opsOf Try.f7 8)) 30 (some 62) ((.bool false)) hNS (by kernel_rfl) (by kernel_rfl) (by kernel_rfl) (by kernel_rfl) (by kernel_rfl) hHeld (Rg.y_move (x := (Operand.tmp 61)) (Or.inl (by kernel_rfl)) (by kernel_rfl)) ?_
  refine Rg.take (ops := (Rg.opsOf Try.f7 8)) 31 (some 63) ((.slice (some ⟨bd, od, none⟩) L k4)) hNS (by kernel_rfl) (by kernel_rfl) (by kernel_rfl) (by kernel_rfl) (by kernel_rfl) hHeld (Rg.y_move (x := (Operand.tmp 7)) (Or.inl (by kernel_rfl)) (by kernel_rfl)) ?_
  refine Rg.take (ops := (Rg.opsOf Try.f7 8)) 32 (some 64) ((.int .i64 0)) hNS (by kernel_rfl) (by kernel_rfl) (by kernel_rfl) (by kernel_rfl) (by kernel_rfl) hHeld (Rg.y_move (x := (Operand.tmp 9)) (Or.inl (by kernel_rfl)) (by kernel_rfl)) ?_
  refine Rg.take (ops := (Rg.opsOf Try.f7 8)) 33 (some 65) ((.pointer (some ⟨bd, od, none⟩))) hNS (by kernel_rfl) (by kernel_rfl) (by kernel_rfl) (by kernel_rfl) (by kernel_rfl) hHeld (Rg.y_at (T := 36) (x := (Operand.tmp 63)) (y := (Operand.tmp 64)) (vx := (.slice (some ⟨bd, od, none⟩) L k4)) (vy := (.int .i64 0)) (by kernel_rfl) (by kernel_rfl) (by kernel_rfl) ?_) ?_
  · (intro w hSw; go_simp)
  refine Rg.take (ops := (Rg.opsOf Try.f7 8)) 34 (some 66) ((.string q)) hNS (by kernel_rfl) (by kernel_rfl) (by kernel_rfl) (by kernel_rfl) (by kernel_rfl) hHeld (Rg.y_load (T := 9) (x := (Operand.tmp 65)) (vx := (.pointer (some ⟨bd, od, none⟩))) (by kernel_rfl) (by kernel_rfl) ?_) ?_
  · (intro w hSw; go_simp)
  refine Rg.call (ops := (Rg.opsOf Try.f7 8)) (fn := Try.f31) (xs := #[Operand.tmp 66, Operand.const (Value.int IntKind.i64 5)]) (ats := #[9, 3]) 35 (some 67) 31 #[(.string q), (Value.int IntKind.i64 5)] (by kernel_rfl) (by kernel_rfl) (by kernel_rfl) (by kernel_rfl) (by kernel_rfl) Try.func31 (by kernel_rfl) (by kernel_rfl) (by kernel_rfl) ?_
  refine (cck _).mono ?_
  rintro e w7 ⟨rfl, hb7'⟩
  have hW7 := below_call hW6 hb7'
  refine ⟨_, rfl, hSB _ hW7, fun hHeld => ?_⟩
  refine Rg.take (ops := (Rg.opsOf Try.f7 8)) 36 (some 68) ((.bool false)) hNS (by kernel_rfl) (by kernel_rfl) (by kernel_rfl) (by kernel_rfl) (by kernel_rfl) hHeld (Rg.y_bin (b := BinOp.neq) (T := 3) (R' := 3) (x := (Operand.tmp 67)) (y := (Operand.const (Value.int IntKind.i64 0))) (vx := (.int .i64 0)) (vy := (Value.int IntKind.i64 0)) (by kernel_rfl) (by kernel_rfl) (by kernel_rfl) ?_) ?_
  · (intro w hSw; go_simp)
  refine Rg.take (ops := (Rg.opsOf Try.f7 8)) 37 (some 69) ((.bool false)) hNS (by kernel_rfl) (by kernel_rfl) (by kernel_rfl) (by kernel_rfl) (by kernel_rfl) hHeld (Rg.y_pick (c := (Operand.tmp 62)) (x := (Operand.const (Value.bool true))) (y := (Operand.tmp 68)) (b := false) (by kernel_rfl) (by kernel_rfl) (by kernel_rfl)) ?_
  refine Rg.done (ops := (Rg.opsOf Try.f7 8)) (by kernel_rfl) ?_
  exact ⟨by kernel_rfl, hW7⟩

set_option maxRecDepth 100000 in
set_option maxHeartbeats 2000000 in
theorem reg8_3 (ops : Array Oper) (hops : ops = (Rg.opsOf Try.f7 8)) (id : Nat) (a : Option Addr) (n c : Nat) (b : Option Addr) (m c2 : Nat) (bd od L k4 j : Nat) (q z D1 D2 : ByteArray) (K1 K2 : Int) {u2 u3 u4 u5 u6 u8 u10 u11 u12 u13 u14 u15 u16 u17 u18 u19 u20 u21 u22 u23 u24 u25 u26 u27 u28 u29 u30 u31 u32 u33 u34 u35 u36 u37 u38 u39 u40 u41 u42 u43 u44 u45 u46 u47 u48 u49 u50 u51 u52 u53 u54 u55 u56 u57 u58 u59 u60 u61 u62 u63 u64 u65 u66 u67 u68 u69 u70 u71 u72 u73 u74 u75 u76 u77 u78 u79 u80 u81 u82 u83 u84 u85 u86 u87 u88 u89 u90 u91 u92 u93 u94 u95 u96 u97 u98 u99 u100 u101 u102 u103 u104 u105 : Value} (w0 w4 w : World)
    (hb4 : Below w0.heap.size w0 w4) (hW : Below w4.heap.size w4 w)
    (hq : ∀ W, Below w4.heap.size w4 W → W.cell? ⟨bd, od + (j + 1), none⟩ = some (.string q))
    (hz : ∀ W, Below w4.heap.size w4 W → W.cell? ⟨bd, od + j, none⟩ = some (.string z)) (hless : Op.bytesLess z.toList q.toList = true)
    (hlt : j + 1 < L) (hLm : (L : Int) ≤ 4611686018427387904)
    (hD : K1 ≠ K2)
    (ca : ∀ W, Below w0.heap.size w0 W → Calls Try.prog 16 #[.slice a n c, .string q] W fun e w' => e = .returned (.agg #[.int .i64 K1, .string D1]) ∧ Below W.heap.size W w')
    (cb : ∀ W, Below w0.heap.size w0 W → Calls Try.prog 16 #[.slice b m c2, .string q] W fun e w' => e = .returned (.agg #[.int .i64 K2, .string D2]) ∧ Below W.heap.size W w')
    (cck : ∀ W, Calls Try.prog 31 #[.string q, .int .i64 5] W fun e w' => e = .returned (.int .i64 0) ∧ Below W.heap.size W w') :
    (Code.region id ops true).wp Try.prog (Rg.Only fun a' w' => a' = ⟨#[(.slice a n c), (.slice b m c2), u2, u3, u4, u5, u6, (.slice (some ⟨bd, od, none⟩) L k4), u8, (.int .i64 ((j + 1 : Nat) : Int)), u10, u11, u12, u13, u14, u15, u16, u17, u18, u19, u20, u21, u22, u23, u24, u25, u26, u27, u28, u29, u30, u31, (.int .i64 ((j + 1 : Nat) : Int)), (.bool true), (.bool true), (.slice (some ⟨bd, od, none⟩) L k4), (.int .i64 ((j + 1 : Nat) : Int)), (.int .i64 (j : Int)), (.pointer (some ⟨bd, od + j, none⟩)), (.string z), (.slice (some ⟨bd, od, none⟩) L k4), (.int .i64 ((j + 1 : Nat) : Int)), (.pointer (some ⟨bd, od + (j + 1), none⟩)), (.string q), (.bool true), (.bool false), (.bool false), (.bool false), (.slice a n c), (.slice (some ⟨bd, od, none⟩) L k4), (.int .i64 ((j + 1 : Nat) : Int)), (.pointer (some ⟨bd, od + (j + 1), none⟩)), (.string q), (.agg #[.int .i64 K1, .string D1]), (.slice b m c2), (.slice (some ⟨bd, od, none⟩) L k4), (.int .i64 ((j + 1 : Nat) : Int)), (.pointer (some ⟨bd, od + (j + 1), none⟩)), (.string q), (.agg #[.int .i64 K2, .string D2]), (.bool false), (.bool false), (.bool false), (.slice (some ⟨bd, od, none⟩) L k4), (.int .i64 ((j + 1 : Nat) : Int)), (.pointer (some ⟨bd, od + (j + 1), none⟩)), (.string q), (.int .i64 0), (.bool false), (.bool false), u70, u71, u72, u73, u74, u75, u76, u77, u78, u79, u80, u81, u82, u83, u84, u85, u86, u87, u88, u89, u90, u91, u92, u93, u94, u95, u96, u97, u98, u99, u100, u101, u102, u103, u104, u105], []⟩ ∧ Below w4.heap.size w4 w') ⟨#[(.slice a n c), (.slice b m c2), u2, u3, u4, u5, u6, (.slice (some ⟨bd, od, none⟩) L k4), u8, (.int .i64 ((j + 1 : Nat) : Int)), u10, u11, u12, u13, u14, u15, u16, u17, u18, u19, u20, u21, u22, u23, u24, u25, u26, u27, u28, u29, u30, u31, u32, u33, u34, u35, u36, u37, u38, u39, u40, u41, u42, u43, u44, u45, u46, u47, u48, u49, u50, u51, u52, u53, u54, u55, u56, u57, u58, u59, u60, u61, u62, u63, u64, u65, u66, u67, u68, u69, u70, u71, u72, u73, u74, u75, u76, u77, u78, u79, u80, u81, u82, u83, u84, u85, u86, u87, u88, u89, u90, u91, u92, u93, u94, u95, u96, u97, u98, u99, u100, u101, u102, u103, u104, u105], []⟩ w := by
  subst hops
  have hNS : Region.noSelect (Rg.opsOf Try.f7 8) = true := by kernel_rfl
  have hB0 := hW.drew
  have hSB : ∀ W, Below w4.heap.size w4 W → (fun W => W.cell? ⟨bd, od + (j + 1), none⟩ = some (.string q) ∧ W.cell? ⟨bd, od + j, none⟩ = some (.string z)) W := fun W h => ⟨hq W h, hz W h⟩
  have hgN := guardN
  have hj1 : IntKind.i64.wrap (j : Int) = (j : Int) := by unfold IntKind.wrap; simp [IntKind.signed, IntKind.bits]; omega
  refine wp_region_held_drew (S := fun W => W.cell? ⟨bd, od + (j + 1), none⟩ = some (.string q) ∧ W.cell? ⟨bd, od + j, none⟩ = some (.string z)) (by kernel_rfl) (hSB _ hB0) (fun hHeld => ?_)
  rw [show (Rg.opsOf Try.f7 8).size = 38 by kernel_rfl]
  refine Rg.take (ops := (Rg.opsOf Try.f7 8)) 0 (some 32) ((.int .i64 ((j + 1 : Nat) : Int))) hNS (by kernel_rfl) (by kernel_rfl) (by kernel_rfl) (by kernel_rfl) (by kernel_rfl) hHeld (Rg.y_move (x := (Operand.tmp 9)) (Or.inl (by kernel_rfl)) (by kernel_rfl)) ?_
  refine Rg.take (ops := (Rg.opsOf Try.f7 8)) 1 (some 33) ((.bool true)) hNS (by kernel_rfl) (by kernel_rfl) (by kernel_rfl) (by kernel_rfl) (by kernel_rfl) hHeld (Rg.y_bin (b := BinOp.gtr) (T := 3) (R' := 3) (x := (Operand.tmp 32)) (y := (Operand.const (Value.int IntKind.i64 0))) (vx := (.int .i64 ((j + 1 : Nat) : Int))) (vy := (Value.int IntKind.i64 0)) (by kernel_rfl) (by kernel_rfl) (by kernel_rfl) ?_) ?_
  · (intro w hSw; go_simp)
  refine Rg.take (ops := (Rg.opsOf Try.f7 8)) 2 (some 34) ((.bool true)) hNS (by kernel_rfl) (by kernel_rfl) (by kernel_rfl) (by kernel_rfl) (by kernel_rfl) hHeld (Rg.y_move (x := (Operand.tmp 33)) (Or.inl (by kernel_rfl)) (by kernel_rfl)) ?_
  refine Rg.take (ops := (Rg.opsOf Try.f7 8)) 3 (some 35) ((.slice (some ⟨bd, od, none⟩) L k4)) hNS (by kernel_rfl) (by kernel_rfl) (by kernel_rfl) (by kernel_rfl) (by kernel_rfl) hHeld (Rg.y_move (x := (Operand.tmp 7)) (Or.inl (by kernel_rfl)) (by kernel_rfl)) ?_
  refine Rg.take (ops := (Rg.opsOf Try.f7 8)) 4 (some 36) ((.int .i64 ((j + 1 : Nat) : Int))) hNS (by kernel_rfl) (by kernel_rfl) (by kernel_rfl) (by kernel_rfl) (by kernel_rfl) hHeld (Rg.y_move (x := (Operand.tmp 9)) (Or.inl (by kernel_rfl)) (by kernel_rfl)) ?_
  refine Rg.take (ops := (Rg.opsOf Try.f7 8)) 5 (some 37) ((.int .i64 (j : Int))) hNS (by kernel_rfl) (by kernel_rfl) (by kernel_rfl) (by kernel_rfl) (by kernel_rfl) hHeld (Rg.y_bin (b := BinOp.sub) (T := 3) (R' := 3) (x := (Operand.tmp 36)) (y := (Operand.const (Value.int IntKind.i64 1))) (vx := (.int .i64 ((j + 1 : Nat) : Int))) (vy := (Value.int IntKind.i64 1)) (by kernel_rfl) (by kernel_rfl) (by kernel_rfl) ?_) ?_
  · (intro w hSw; go_simp <;> exact hj1)
  refine Rg.take (ops := (Rg.opsOf Try.f7 8)) 6 (some 38) ((.pointer (some ⟨bd, od + j, none⟩))) hNS (by kernel_rfl) (by kernel_rfl) (by kernel_rfl) (by kernel_rfl) (by kernel_rfl) hHeld (Rg.y_at (T := 36) (x := (Operand.tmp 35)) (y := (Operand.tmp 37)) (vx := (.slice (some ⟨bd, od, none⟩) L k4)) (vy := (.int .i64 (j : Int))) (by kernel_rfl) (by kernel_rfl) (by kernel_rfl) ?_) ?_
  · (intro w hSw; go_simp <;> (intros; exfalso; omega))
  refine Rg.take (ops := (Rg.opsOf Try.f7 8)) 7 (some 39) ((.string z)) hNS (by kernel_rfl) (by kernel_rfl) (by kernel_rfl) (by kernel_rfl) (by kernel_rfl) hHeld (Rg.y_load (T := 9) (x := (Operand.tmp 38)) (vx := (.pointer (some ⟨bd, od + j, none⟩))) (by kernel_rfl) (by kernel_rfl) ?_) ?_
  · (intro w hSw; go_simp)
  refine Rg.take (ops := (Rg.opsOf Try.f7 8)) 8 (some 40) ((.slice (some ⟨bd, od, none⟩) L k4)) hNS (by kernel_rfl) (by kernel_rfl) (by kernel_rfl) (by kernel_rfl) (by kernel_rfl) hHeld (Rg.y_move (x := (Operand.tmp 7)) (Or.inl (by kernel_rfl)) (by kernel_rfl)) ?_
  refine Rg.take (ops := (Rg.opsOf Try.f7 8)) 9 (some 41) ((.int .i64 ((j + 1 : Nat) : Int))) hNS (by kernel_rfl) (by kernel_rfl) (by kernel_rfl) (by kernel_rfl) (by kernel_rfl) hHeld (Rg.y_move (x := (Operand.tmp 9)) (Or.inl (by kernel_rfl)) (by kernel_rfl)) ?_
  refine Rg.take (ops := (Rg.opsOf Try.f7 8)) 10 (some 42) ((.pointer (some ⟨bd, od + (j + 1), none⟩))) hNS (by kernel_rfl) (by kernel_rfl) (by kernel_rfl) (by kernel_rfl) (by kernel_rfl) hHeld (Rg.y_at (T := 36) (x := (Operand.tmp 40)) (y := (Operand.tmp 41)) (vx := (.slice (some ⟨bd, od, none⟩) L k4)) (vy := (.int .i64 ((j + 1 : Nat) : Int))) (by kernel_rfl) (by kernel_rfl) (by kernel_rfl) ?_) ?_
  · (intro w hSw; go_simp <;> (intros; exfalso; omega))
  refine Rg.take (ops := (Rg.opsOf Try.f7 8)) 11 (some 43) ((.string q)) hNS (by kernel_rfl) (by kernel_rfl) (by kernel_rfl) (by kernel_rfl) (by kernel_rfl) hHeld (Rg.y_load (T := 9) (x := (Operand.tmp 42)) (vx := (.pointer (some ⟨bd, od + (j + 1), none⟩))) (by kernel_rfl) (by kernel_rfl) ?_) ?_
  · (intro w hSw; go_simp)
  refine Rg.take (ops := (Rg.opsOf Try.f7 8)) 12 (some 44) ((.bool true)) hNS (by kernel_rfl) (by kernel_rfl) (by kernel_rfl) (by kernel_rfl) (by kernel_rfl) hHeld (Rg.y_bin (b := BinOp.lss) (T := 9) (R' := 9) (x := (Operand.tmp 39)) (y := (Operand.tmp 43)) (vx := (.string z)) (vy := (.string q)) (by kernel_rfl) (by kernel_rfl) (by kernel_rfl) ?_) ?_
  · (intro w hSw; go_simp)
  refine Rg.take (ops := (Rg.opsOf Try.f7 8)) 13 (some 45) ((.bool false)) hNS (by kernel_rfl) (by kernel_rfl) (by kernel_rfl) (by kernel_rfl) (by kernel_rfl) hHeld (Rg.y_un (b := UnOp.not) (T := 4) (x := (Operand.tmp 44)) (vx := (.bool true)) (by kernel_rfl) (by kernel_rfl) ?_) ?_
  · (intro w hSw; go_simp)
  refine Rg.take (ops := (Rg.opsOf Try.f7 8)) 14 (some 46) ((.bool false)) hNS (by kernel_rfl) (by kernel_rfl) (by kernel_rfl) (by kernel_rfl) (by kernel_rfl) hHeld (Rg.y_pick (c := (Operand.tmp 34)) (x := (Operand.tmp 45)) (y := (Operand.const (Value.bool false))) (b := true) (by kernel_rfl) (by kernel_rfl) (by kernel_rfl)) ?_
  refine Rg.take (ops := (Rg.opsOf Try.f7 8)) 15 (some 47) ((.bool false)) hNS (by kernel_rfl) (by kernel_rfl) (by kernel_rfl) (by kernel_rfl) (by kernel_rfl) hHeld (Rg.y_move (x := (Operand.tmp 46)) (Or.inl (by kernel_rfl)) (by kernel_rfl)) ?_
  refine Rg.take (ops := (Rg.opsOf Try.f7 8)) 16 (some 48) ((.slice a n c)) hNS (by kernel_rfl) (by kernel_rfl) (by kernel_rfl) (by kernel_rfl) (by kernel_rfl) hHeld (Rg.y_move (x := (Operand.tmp 0)) (Or.inl (by kernel_rfl)) (by kernel_rfl)) ?_
  refine Rg.take (ops := (Rg.opsOf Try.f7 8)) 17 (some 49) ((.slice (some ⟨bd, od, none⟩) L k4)) hNS (by kernel_rfl) (by kernel_rfl) (by kernel_rfl) (by kernel_rfl) (by kernel_rfl) hHeld (Rg.y_move (x := (Operand.tmp 7)) (Or.inl (by kernel_rfl)) (by kernel_rfl)) ?_
  refine Rg.take (ops := (Rg.opsOf Try.f7 8)) 18 (some 50) ((.int .i64 ((j + 1 : Nat) : Int))) hNS (by kernel_rfl) (by kernel_rfl) (by kernel_rfl) (by kernel_rfl) (by kernel_rfl) hHeld (Rg.y_move (x := (Operand.tmp 9)) (Or.inl (by kernel_rfl)) (by kernel_rfl)) ?_
  refine Rg.take (ops := (Rg.opsOf Try.f7 8)) 19 (some 51) ((.pointer (some ⟨bd, od + (j + 1), none⟩))) hNS (by kernel_rfl) (by kernel_rfl) (by kernel_rfl) (by kernel_rfl) (by kernel_rfl) hHeld (Rg.y_at (T := 36) (x := (Operand.tmp 49)) (y := (Operand.tmp 50)) (vx := (.slice (some ⟨bd, od, none⟩) L k4)) (vy := (.int .i64 ((j + 1 : Nat) : Int))) (by kernel_rfl) (by kernel_rfl) (by kernel_rfl) ?_) ?_
  · (intro w hSw; go_simp <;> (intros; exfalso; omega))
  refine Rg.take (ops := (Rg.opsOf Try.f7 8)) 20 (some 52) ((.string q)) hNS (by kernel_rfl) (by kernel_rfl) (by kernel_rfl) (by kernel_rfl) (by kernel_rfl) hHeld (Rg.y_load (T := 9) (x := (Operand.tmp 51)) (vx := (.pointer (some ⟨bd, od + (j + 1), none⟩))) (by kernel_rfl) (by kernel_rfl) ?_) ?_
  · (intro w hSw; go_simp)
  refine Rg.take (ops := (Rg.opsOf Try.f7 8)) 22 (some 54) ((.slice b m c2)) hNS (by kernel_rfl) (by kernel_rfl) (by kernel_rfl) (by kernel_rfl) (by kernel_rfl) hHeld (Rg.y_move (x := (Operand.tmp 1)) (Or.inl (by kernel_rfl)) (by kernel_rfl)) ?_
  refine Rg.take (ops := (Rg.opsOf Try.f7 8)) 23 (some 55) ((.slice (some ⟨bd, od, none⟩) L k4)) hNS (by kernel_rfl) (by kernel_rfl) (by kernel_rfl) (by kernel_rfl) (by kernel_rfl) hHeld (Rg.y_move (x := (Operand.tmp 7)) (Or.inl (by kernel_rfl)) (by kernel_rfl)) ?_
  refine Rg.take (ops := (Rg.opsOf Try.f7 8)) 24 (some 56) ((.int .i64 ((j + 1 : Nat) : Int))) hNS (by kernel_rfl) (by kernel_rfl) (by kernel_rfl) (by kernel_rfl) (by kernel_rfl) hHeld (Rg.y_move (x := (Operand.tmp 9)) (Or.inl (by kernel_rfl)) (by kernel_rfl)) ?_
  refine Rg.take (ops := (Rg.opsOf Try.f7 8)) 25 (some 57) ((.pointer (some ⟨bd, od + (j + 1), none⟩))) hNS (by kernel_rfl) (by kernel_rfl) (by kernel_rfl) (by kernel_rfl) (by kernel_rfl) hHeld (Rg.y_at (T := 36) (x := (Operand.tmp 55)) (y := (Operand.tmp 56)) (vx := (.slice (some ⟨bd, od, none⟩) L k4)) (vy := (.int .i64 ((j + 1 : Nat) : Int))) (by kernel_rfl) (by kernel_rfl) (by kernel_rfl) ?_) ?_
  · (intro w hSw; go_simp <;> (intros; exfalso; omega))
  refine Rg.take (ops := (Rg.opsOf Try.f7 8)) 26 (some 58) ((.string q)) hNS (by kernel_rfl) (by kernel_rfl) (by kernel_rfl) (by kernel_rfl) (by kernel_rfl) hHeld (Rg.y_load (T := 9) (x := (Operand.tmp 57)) (vx := (.pointer (some ⟨bd, od + (j + 1), none⟩))) (by kernel_rfl) (by kernel_rfl) ?_) ?_
  · (intro w hSw; go_simp)
  refine Rg.call (ops := (Rg.opsOf Try.f7 8)) (fn := Try.f16) (xs := #[Operand.tmp 48, Operand.tmp 52]) (ats := #[22, 9]) 21 (some 53) 16 #[(.slice a n c), (.string q)] (by kernel_rfl) (by kernel_rfl) (by kernel_rfl) (by kernel_rfl) (by kernel_rfl) Try.func16 (by kernel_rfl) (by kernel_rfl) (by kernel_rfl) ?_
  refine (ca _ (below_call hb4 hB0)).mono ?_
  rintro e w5 ⟨rfl, hb5'⟩
  have hW5 := below_call hB0 hb5'
  refine ⟨_, rfl, hSB _ hW5, fun hHeld => ?_⟩
  refine Rg.call (ops := (Rg.opsOf Try.f7 8)) (fn := Try.f16) (xs := #[Operand.tmp 54, Operand.tmp 58]) (ats := #[22, 9]) 27 (some 59) 16 #[(.slice b m c2), (.string q)] (by kernel_rfl) (by kernel_rfl) (by kernel_rfl) (by kernel_rfl) (by kernel_rfl) Try.func16 (by kernel_rfl) (by kernel_rfl) (by kernel_rfl) ?_
  refine (cb _ (below_call hb4 hW5)).mono ?_
  rintro e w6 ⟨rfl, hb6'⟩
  have hW6 := below_call hW5 hb6'
  refine ⟨_, rfl, hSB _ hW6, fun hHeld => ?_⟩
  refine Rg.take (ops := (Rg.opsOf Try.f7 8)) 28 (some 60) ((.bool false)) hNS (by kernel_rfl) (by kernel_rfl) (by kernel_rfl) (by kernel_rfl) (by kernel_rfl) hHeld (Rg.y_bin (b := BinOp.eql) (T := 24) (R' := 24) (x := (Operand.tmp 53)) (y := (Operand.tmp 59)) (vx := (.agg #[.int .i64 K1, .string D1])) (vy := (.agg #[.int .i64 K2, .string D2])) (by kernel_rfl) (by kernel_rfl) (by kernel_rfl) ?_) ?_
  · (intro w hSw; go_simp)
  refine Rg.take (ops := (Rg.opsOf Try.f7 8)) 29 (some 61) ((.bool false)) hNS (by kernel_rfl) (by kernel_rfl) (by kernel_rfl) (by kernel_rfl) (by kernel_rfl) hHeld (Rg.y_pick (c := (Operand.tmp 47)) (x := (Operand.const (Value.bool true))) (y := (Operand.tmp 60)) (b := false) (by kernel_rfl) (by kernel_rfl) (by kernel_rfl)) ?_
  refine Rg.take (ops := (Rg.opsOf Try.f7 8)) 30 (some 62) ((.bool false)) hNS (by kernel_rfl) (by kernel_rfl) (by kernel_rfl) (by kernel_rfl) (by kernel_rfl) hHeld (Rg.y_move (x := (Operand.tmp 61)) (Or.inl (by kernel_rfl)) (by kernel_rfl)) ?_
  refine Rg.take (ops := (Rg.opsOf Try.f7 8)) 31 (some 63) ((.slice (some ⟨bd, od, none⟩) L k4)) hNS (by kernel_rfl) (by kernel_rfl) (by kernel_rfl) (by kernel_rfl) (by kernel_rfl) hHeld (Rg.y_move (x := (Operand.tmp 7)) (Or.inl (by kernel_rfl)) (by kernel_rfl)) ?_
  refine Rg.take (ops := (Rg.opsOf Try.f7 8)) 32 (some 64) ((.int .i64 ((j + 1 : Nat) : Int))) hNS (by kernel_rfl) (by kernel_rfl) (by kernel_rfl) (by kernel_rfl) (by kernel_rfl) hHeld (Rg.y_move (x := (Operand.tmp 9)) (Or.inl (by kernel_rfl)) (by kernel_rfl)) ?_
  refine Rg.take (ops := (Rg.opsOf Try.f7 8)) 33 (some 65) ((.pointer (some ⟨bd, od + (j + 1), none⟩))) hNS (by kernel_rfl) (by kernel_rfl) (by kernel_rfl) (by kernel_rfl) (by kernel_rfl) hHeld (Rg.y_at (T := 36) (x := (Operand.tmp 63)) (y := (Operand.tmp 64)) (vx := (.slice (some ⟨bd, od, none⟩) L k4)) (vy := (.int .i64 ((j + 1 : Nat) : Int))) (by kernel_rfl) (by kernel_rfl) (by kernel_rfl) ?_) ?_
  · (intro w hSw; go_simp <;> (intros; exfalso; omega))
  refine Rg.take (ops := (Rg.opsOf Try.f7 8)) 34 (some 66) ((.string q)) hNS (by kernel_rfl) (by kernel_rfl) (by kernel_rfl) (by kernel_rfl) (by kernel_rfl) hHeld (Rg.y_load (T := 9) (x := (Operand.tmp 65)) (vx := (.pointer (some ⟨bd, od + (j + 1), none⟩))) (by kernel_rfl) (by kernel_rfl) ?_) ?_
  · (intro w hSw; go_simp)
  refine Rg.call (ops := (Rg.opsOf Try.f7 8)) (fn := Try.f31) (xs := #[Operand.tmp 66, Operand.const (Value.int IntKind.i64 5)]) (ats := #[9, 3]) 35 (some 67) 31 #[(.string q), (Value.int IntKind.i64 5)] (by kernel_rfl) (by kernel_rfl) (by kernel_rfl) (by kernel_rfl) (by kernel_rfl) Try.func31 (by kernel_rfl) (by kernel_rfl) (by kernel_rfl) ?_
  refine (cck _).mono ?_
  rintro e w7 ⟨rfl, hb7'⟩
  have hW7 := below_call hW6 hb7'
  refine ⟨_, rfl, hSB _ hW7, fun hHeld => ?_⟩
  refine Rg.take (ops := (Rg.opsOf Try.f7 8)) 36 (some 68) ((.bool false)) hNS (by kernel_rfl) (by kernel_rfl) (by kernel_rfl) (by kernel_rfl) (by kernel_rfl) hHeld (Rg.y_bin (b := BinOp.neq) (T := 3) (R' := 3) (x := (Operand.tmp 67)) (y := (Operand.const (Value.int IntKind.i64 0))) (vx := (.int .i64 0)) (vy := (Value.int IntKind.i64 0)) (by kernel_rfl) (by kernel_rfl) (by kernel_rfl) ?_) ?_
  · (intro w hSw; go_simp)
  refine Rg.take (ops := (Rg.opsOf Try.f7 8)) 37 (some 69) ((.bool false)) hNS (by kernel_rfl) (by kernel_rfl) (by kernel_rfl) (by kernel_rfl) (by kernel_rfl) hHeld (Rg.y_pick (c := (Operand.tmp 62)) (x := (Operand.const (Value.bool true))) (y := (Operand.tmp 68)) (b := false) (by kernel_rfl) (by kernel_rfl) (by kernel_rfl)) ?_
  refine Rg.done (ops := (Rg.opsOf Try.f7 8)) (by kernel_rfl) ?_
  exact ⟨by kernel_rfl, hW7⟩

set_option maxRecDepth 100000 in
set_option maxHeartbeats 2000000 in
theorem reg8_4 (ops : Array Oper) (hops : ops = (Rg.opsOf Try.f7 8)) (id : Nat) (a : Option Addr) (n c : Nat) (b : Option Addr) (m c2 : Nat) (bd od L k4 j : Nat) (q z D1 D2 : ByteArray) (K1 K2 : Int) {u2 u3 u4 u5 u6 u8 u10 u11 u12 u13 u14 u15 u16 u17 u18 u19 u20 u21 u22 u23 u24 u25 u26 u27 u28 u29 u30 u31 u32 u33 u34 u35 u36 u37 u38 u39 u40 u41 u42 u43 u44 u45 u46 u47 u48 u49 u50 u51 u52 u53 u54 u55 u56 u57 u58 u59 u60 u61 u62 u63 u64 u65 u66 u67 u68 u69 u70 u71 u72 u73 u74 u75 u76 u77 u78 u79 u80 u81 u82 u83 u84 u85 u86 u87 u88 u89 u90 u91 u92 u93 u94 u95 u96 u97 u98 u99 u100 u101 u102 u103 u104 u105 : Value} (w0 w4 w : World)
    (hb4 : Below w0.heap.size w0 w4) (hW : Below w4.heap.size w4 w)
    (hq : ∀ W, Below w4.heap.size w4 W → W.cell? ⟨bd, od + (j + 1), none⟩ = some (.string q))
    (hz : ∀ W, Below w4.heap.size w4 W → W.cell? ⟨bd, od + j, none⟩ = some (.string z)) (hless : Op.bytesLess z.toList q.toList = true)
    (hlt : j + 1 < L) (hLm : (L : Int) ≤ 4611686018427387904)
    (hD : D1.toList ≠ D2.toList)
    (ca : ∀ W, Below w0.heap.size w0 W → Calls Try.prog 16 #[.slice a n c, .string q] W fun e w' => e = .returned (.agg #[.int .i64 K1, .string D1]) ∧ Below W.heap.size W w')
    (cb : ∀ W, Below w0.heap.size w0 W → Calls Try.prog 16 #[.slice b m c2, .string q] W fun e w' => e = .returned (.agg #[.int .i64 K1, .string D2]) ∧ Below W.heap.size W w')
    (cck : ∀ W, Calls Try.prog 31 #[.string q, .int .i64 5] W fun e w' => e = .returned (.int .i64 0) ∧ Below W.heap.size W w') :
    (Code.region id ops true).wp Try.prog (Rg.Only fun a' w' => a' = ⟨#[(.slice a n c), (.slice b m c2), u2, u3, u4, u5, u6, (.slice (some ⟨bd, od, none⟩) L k4), u8, (.int .i64 ((j + 1 : Nat) : Int)), u10, u11, u12, u13, u14, u15, u16, u17, u18, u19, u20, u21, u22, u23, u24, u25, u26, u27, u28, u29, u30, u31, (.int .i64 ((j + 1 : Nat) : Int)), (.bool true), (.bool true), (.slice (some ⟨bd, od, none⟩) L k4), (.int .i64 ((j + 1 : Nat) : Int)), (.int .i64 (j : Int)), (.pointer (some ⟨bd, od + j, none⟩)), (.string z), (.slice (some ⟨bd, od, none⟩) L k4), (.int .i64 ((j + 1 : Nat) : Int)), (.pointer (some ⟨bd, od + (j + 1), none⟩)), (.string q), (.bool true), (.bool false), (.bool false), (.bool false), (.slice a n c), (.slice (some ⟨bd, od, none⟩) L k4), (.int .i64 ((j + 1 : Nat) : Int)), (.pointer (some ⟨bd, od + (j + 1), none⟩)), (.string q), (.agg #[.int .i64 K1, .string D1]), (.slice b m c2), (.slice (some ⟨bd, od, none⟩) L k4), (.int .i64 ((j + 1 : Nat) : Int)), (.pointer (some ⟨bd, od + (j + 1), none⟩)), (.string q), (.agg #[.int .i64 K1, .string D2]), (.bool false), (.bool false), (.bool false), (.slice (some ⟨bd, od, none⟩) L k4), (.int .i64 ((j + 1 : Nat) : Int)), (.pointer (some ⟨bd, od + (j + 1), none⟩)), (.string q), (.int .i64 0), (.bool false), (.bool false), u70, u71, u72, u73, u74, u75, u76, u77, u78, u79, u80, u81, u82, u83, u84, u85, u86, u87, u88, u89, u90, u91, u92, u93, u94, u95, u96, u97, u98, u99, u100, u101, u102, u103, u104, u105], []⟩ ∧ Below w4.heap.size w4 w') ⟨#[(.slice a n c), (.slice b m c2), u2, u3, u4, u5, u6, (.slice (some ⟨bd, od, none⟩) L k4), u8, (.int .i64 ((j + 1 : Nat) : Int)), u10, u11, u12, u13, u14, u15, u16, u17, u18, u19, u20, u21, u22, u23, u24, u25, u26, u27, u28, u29, u30, u31, u32, u33, u34, u35, u36, u37, u38, u39, u40, u41, u42, u43, u44, u45, u46, u47, u48, u49, u50, u51, u52, u53, u54, u55, u56, u57, u58, u59, u60, u61, u62, u63, u64, u65, u66, u67, u68, u69, u70, u71, u72, u73, u74, u75, u76, u77, u78, u79, u80, u81, u82, u83, u84, u85, u86, u87, u88, u89, u90, u91, u92, u93, u94, u95, u96, u97, u98, u99, u100, u101, u102, u103, u104, u105], []⟩ w := by
  subst hops
  have hNS : Region.noSelect (Rg.opsOf Try.f7 8) = true := by kernel_rfl
  have hB0 := hW.drew
  have hSB : ∀ W, Below w4.heap.size w4 W → (fun W => W.cell? ⟨bd, od + (j + 1), none⟩ = some (.string q) ∧ W.cell? ⟨bd, od + j, none⟩ = some (.string z)) W := fun W h => ⟨hq W h, hz W h⟩
  have hgN := guardN
  have hj1 : IntKind.i64.wrap (j : Int) = (j : Int) := by unfold IntKind.wrap; simp [IntKind.signed, IntKind.bits]; omega
  refine wp_region_held_drew (S := fun W => W.cell? ⟨bd, od + (j + 1), none⟩ = some (.string q) ∧ W.cell? ⟨bd, od + j, none⟩ = some (.string z)) (by kernel_rfl) (hSB _ hB0) (fun hHeld => ?_)
  rw [show (Rg.opsOf Try.f7 8).size = 38 by kernel_rfl]
  refine Rg.take (ops := (Rg.opsOf Try.f7 8)) 0 (some 32) ((.int .i64 ((j + 1 : Nat) : Int))) hNS (by kernel_rfl) (by kernel_rfl) (by kernel_rfl) (by kernel_rfl) (by kernel_rfl) hHeld (Rg.y_move (x := (Operand.tmp 9)) (Or.inl (by kernel_rfl)) (by kernel_rfl)) ?_
  refine Rg.take (ops := (Rg.opsOf Try.f7 8)) 1 (some 33) ((.bool true)) hNS (by kernel_rfl) (by kernel_rfl) (by kernel_rfl) (by kernel_rfl) (by kernel_rfl) hHeld (Rg.y_bin (b := BinOp.gtr) (T := 3) (R' := 3) (x := (Operand.tmp 32)) (y := (Operand.const (Value.int IntKind.i64 0))) (vx := (.int .i64 ((j + 1 : Nat) : Int))) (vy := (Value.int IntKind.i64 0)) (by kernel_rfl) (by kernel_rfl) (by kernel_rfl) ?_) ?_
  · (intro w hSw; go_simp)
  refine Rg.take (ops := (Rg.opsOf Try.f7 8)) 2 (some 34) ((.bool true)) hNS (by kernel_rfl) (by kernel_rfl) (by kernel_rfl) (by kernel_rfl) (by kernel_rfl) hHeld (Rg.y_move (x := (Operand.tmp 33)) (Or.inl (by kernel_rfl)) (by kernel_rfl)) ?_
  refine Rg.take (ops := (Rg.opsOf Try.f7 8)) 3 (some 35) ((.slice (some ⟨bd, od, none⟩) L k4)) hNS (by kernel_rfl) (by kernel_rfl) (by kernel_rfl) (by kernel_rfl) (by kernel_rfl) hHeld (Rg.y_move (x := (Operand.tmp 7)) (Or.inl (by kernel_rfl)) (by kernel_rfl)) ?_
  refine Rg.take (ops := (Rg.opsOf Try.f7 8)) 4 (some 36) ((.int .i64 ((j + 1 : Nat) : Int))) hNS (by kernel_rfl) (by kernel_rfl) (by kernel_rfl) (by kernel_rfl) (by kernel_rfl) hHeld (Rg.y_move (x := (Operand.tmp 9)) (Or.inl (by kernel_rfl)) (by kernel_rfl)) ?_
  refine Rg.take (ops := (Rg.opsOf Try.f7 8)) 5 (some 37) ((.int .i64 (j : Int))) hNS (by kernel_rfl) (by kernel_rfl) (by kernel_rfl) (by kernel_rfl) (by kernel_rfl) hHeld (Rg.y_bin (b := BinOp.sub) (T := 3) (R' := 3) (x := (Operand.tmp 36)) (y := (Operand.const (Value.int IntKind.i64 1))) (vx := (.int .i64 ((j + 1 : Nat) : Int))) (vy := (Value.int IntKind.i64 1)) (by kernel_rfl) (by kernel_rfl) (by kernel_rfl) ?_) ?_
  · (intro w hSw; go_simp <;> exact hj1)
  refine Rg.take (ops := (Rg.opsOf Try.f7 8)) 6 (some 38) ((.pointer (some ⟨bd, od + j, none⟩))) hNS (by kernel_rfl) (by kernel_rfl) (by kernel_rfl) (by kernel_rfl) (by kernel_rfl) hHeld (Rg.y_at (T := 36) (x := (Operand.tmp 35)) (y := (Operand.tmp 37)) (vx := (.slice (some ⟨bd, od, none⟩) L k4)) (vy := (.int .i64 (j : Int))) (by kernel_rfl) (by kernel_rfl) (by kernel_rfl) ?_) ?_
  · (intro w hSw; go_simp <;> (intros; exfalso; omega))
  refine Rg.take (ops := (Rg.opsOf Try.f7 8)) 7 (some 39) ((.string z)) hNS (by kernel_rfl) (by kernel_rfl) (by kernel_rfl) (by kernel_rfl) (by kernel_rfl) hHeld (Rg.y_load (T := 9) (x := (Operand.tmp 38)) (vx := (.pointer (some ⟨bd, od + j, none⟩))) (by kernel_rfl) (by kernel_rfl) ?_) ?_
  · (intro w hSw; go_simp)
  refine Rg.take (ops := (Rg.opsOf Try.f7 8)) 8 (some 40) ((.slice (some ⟨bd, od, none⟩) L k4)) hNS (by kernel_rfl) (by kernel_rfl) (by kernel_rfl) (by kernel_rfl) (by kernel_rfl) hHeld (Rg.y_move (x := (Operand.tmp 7)) (Or.inl (by kernel_rfl)) (by kernel_rfl)) ?_
  refine Rg.take (ops := (Rg.opsOf Try.f7 8)) 9 (some 41) ((.int .i64 ((j + 1 : Nat) : Int))) hNS (by kernel_rfl) (by kernel_rfl) (by kernel_rfl) (by kernel_rfl) (by kernel_rfl) hHeld (Rg.y_move (x := (Operand.tmp 9)) (Or.inl (by kernel_rfl)) (by kernel_rfl)) ?_
  refine Rg.take (ops := (Rg.opsOf Try.f7 8)) 10 (some 42) ((.pointer (some ⟨bd, od + (j + 1), none⟩))) hNS (by kernel_rfl) (by kernel_rfl) (by kernel_rfl) (by kernel_rfl) (by kernel_rfl) hHeld (Rg.y_at (T := 36) (x := (Operand.tmp 40)) (y := (Operand.tmp 41)) (vx := (.slice (some ⟨bd, od, none⟩) L k4)) (vy := (.int .i64 ((j + 1 : Nat) : Int))) (by kernel_rfl) (by kernel_rfl) (by kernel_rfl) ?_) ?_
  · (intro w hSw; go_simp <;> (intros; exfalso; omega))
  refine Rg.take (ops := (Rg.opsOf Try.f7 8)) 11 (some 43) ((.string q)) hNS (by kernel_rfl) (by kernel_rfl) (by kernel_rfl) (by kernel_rfl) (by kernel_rfl) hHeld (Rg.y_load (T := 9) (x := (Operand.tmp 42)) (vx := (.pointer (some ⟨bd, od + (j + 1), none⟩))) (by kernel_rfl) (by kernel_rfl) ?_) ?_
  · (intro w hSw; go_simp)
  refine Rg.take (ops := (Rg.opsOf Try.f7 8)) 12 (some 44) ((.bool true)) hNS (by kernel_rfl) (by kernel_rfl) (by kernel_rfl) (by kernel_rfl) (by kernel_rfl) hHeld (Rg.y_bin (b := BinOp.lss) (T := 9) (R' := 9) (x := (Operand.tmp 39)) (y := (Operand.tmp 43)) (vx := (.string z)) (vy := (.string q)) (by kernel_rfl) (by kernel_rfl) (by kernel_rfl) ?_) ?_
  · (intro w hSw; go_simp)
  refine Rg.take (ops := (Rg.opsOf Try.f7 8)) 13 (some 45) ((.bool false)) hNS (by kernel_rfl) (by kernel_rfl) (by kernel_rfl) (by kernel_rfl) (by kernel_rfl) hHeld (Rg.y_un (b := UnOp.not) (T := 4) (x := (Operand.tmp 44)) (vx := (.bool true)) (by kernel_rfl) (by kernel_rfl) ?_) ?_
  · (intro w hSw; go_simp)
  refine Rg.take (ops := (Rg.opsOf Try.f7 8)) 14 (some 46) ((.bool false)) hNS (by kernel_rfl) (by kernel_rfl) (by kernel_rfl) (by kernel_rfl) (by kernel_rfl) hHeld (Rg.y_pick (c := (Operand.tmp 34)) (x := (Operand.tmp 45)) (y := (Operand.const (Value.bool false))) (b := true) (by kernel_rfl) (by kernel_rfl) (by kernel_rfl)) ?_
  refine Rg.take (ops := (Rg.opsOf Try.f7 8)) 15 (some 47) ((.bool false)) hNS (by kernel_rfl) (by kernel_rfl) (by kernel_rfl) (by kernel_rfl) (by kernel_rfl) hHeld (Rg.y_move (x := (Operand.tmp 46)) (Or.inl (by kernel_rfl)) (by kernel_rfl)) ?_
  refine Rg.take (ops := (Rg.opsOf Try.f7 8)) 16 (some 48) ((.slice a n c)) hNS (by kernel_rfl) (by kernel_rfl) (by kernel_rfl) (by kernel_rfl) (by kernel_rfl) hHeld (Rg.y_move (x := (Operand.tmp 0)) (Or.inl (by kernel_rfl)) (by kernel_rfl)) ?_
  refine Rg.take (ops := (Rg.opsOf Try.f7 8)) 17 (some 49) ((.slice (some ⟨bd, od, none⟩) L k4)) hNS (by kernel_rfl) (by kernel_rfl) (by kernel_rfl) (by kernel_rfl) (by kernel_rfl) hHeld (Rg.y_move (x := (Operand.tmp 7)) (Or.inl (by kernel_rfl)) (by kernel_rfl)) ?_
  refine Rg.take (ops := (Rg.opsOf Try.f7 8)) 18 (some 50) ((.int .i64 ((j + 1 : Nat) : Int))) hNS (by kernel_rfl) (by kernel_rfl) (by kernel_rfl) (by kernel_rfl) (by kernel_rfl) hHeld (Rg.y_move (x := (Operand.tmp 9)) (Or.inl (by kernel_rfl)) (by kernel_rfl)) ?_
  refine Rg.take (ops := (Rg.opsOf Try.f7 8)) 19 (some 51) ((.pointer (some ⟨bd, od + (j + 1), none⟩))) hNS (by kernel_rfl) (by kernel_rfl) (by kernel_rfl) (by kernel_rfl) (by kernel_rfl) hHeld (Rg.y_at (T := 36) (x := (Operand.tmp 49)) (y := (Operand.tmp 50)) (vx := (.slice (some ⟨bd, od, none⟩) L k4)) (vy := (.int .i64 ((j + 1 : Nat) : Int))) (by kernel_rfl) (by kernel_rfl) (by kernel_rfl) ?_) ?_
  · (intro w hSw; go_simp <;> (intros; exfalso; omega))
  refine Rg.take (ops := (Rg.opsOf Try.f7 8)) 20 (some 52) ((.string q)) hNS (by kernel_rfl) (by kernel_rfl) (by kernel_rfl) (by kernel_rfl) (by kernel_rfl) hHeld (Rg.y_load (T := 9) (x := (Operand.tmp 51)) (vx := (.pointer (some ⟨bd, od + (j + 1), none⟩))) (by kernel_rfl) (by kernel_rfl) ?_) ?_
  · (intro w hSw; go_simp)
  refine Rg.take (ops := (Rg.opsOf Try.f7 8)) 22 (some 54) ((.slice b m c2)) hNS (by kernel_rfl) (by kernel_rfl) (by kernel_rfl) (by kernel_rfl) (by kernel_rfl) hHeld (Rg.y_move (x := (Operand.tmp 1)) (Or.inl (by kernel_rfl)) (by kernel_rfl)) ?_
  refine Rg.take (ops := (Rg.opsOf Try.f7 8)) 23 (some 55) ((.slice (some ⟨bd, od, none⟩) L k4)) hNS (by kernel_rfl) (by kernel_rfl) (by kernel_rfl) (by kernel_rfl) (by kernel_rfl) hHeld (Rg.y_move (x := (Operand.tmp 7)) (Or.inl (by kernel_rfl)) (by kernel_rfl)) ?_
  refine Rg.take (ops := (Rg.opsOf Try.f7 8)) 24 (some 56) ((.int .i64 ((j + 1 : Nat) : Int))) hNS (by kernel_rfl) (by kernel_rfl) (by kernel_rfl) (by kernel_rfl) (by kernel_rfl) hHeld (Rg.y_move (x := (Operand.tmp 9)) (Or.inl (by kernel_rfl)) (by kernel_rfl)) ?_
  refine Rg.take (ops := (Rg.opsOf Try.f7 8)) 25 (some 57) ((.pointer (some ⟨bd, od + (j + 1), none⟩))) hNS (by kernel_rfl) (by kernel_rfl) (by kernel_rfl) (by kernel_rfl) (by kernel_rfl) hHeld (Rg.y_at (T := 36) (x := (Operand.tmp 55)) (y := (Operand.tmp 56)) (vx := (.slice (some ⟨bd, od, none⟩) L k4)) (vy := (.int .i64 ((j + 1 : Nat) : Int))) (by kernel_rfl) (by kernel_rfl) (by kernel_rfl) ?_) ?_
  · (intro w hSw; go_simp <;> (intros; exfalso; omega))
  refine Rg.take (ops := (Rg.opsOf Try.f7 8)) 26 (some 58) ((.string q)) hNS (by kernel_rfl) (by kernel_rfl) (by kernel_rfl) (by kernel_rfl) (by kernel_rfl) hHeld (Rg.y_load (T := 9) (x := (Operand.tmp 57)) (vx := (.pointer (some ⟨bd, od + (j + 1), none⟩))) (by kernel_rfl) (by kernel_rfl) ?_) ?_
  · (intro w hSw; go_simp)
  refine Rg.call (ops := (Rg.opsOf Try.f7 8)) (fn := Try.f16) (xs := #[Operand.tmp 48, Operand.tmp 52]) (ats := #[22, 9]) 21 (some 53) 16 #[(.slice a n c), (.string q)] (by kernel_rfl) (by kernel_rfl) (by kernel_rfl) (by kernel_rfl) (by kernel_rfl) Try.func16 (by kernel_rfl) (by kernel_rfl) (by kernel_rfl) ?_
  refine (ca _ (below_call hb4 hB0)).mono ?_
  rintro e w5 ⟨rfl, hb5'⟩
  have hW5 := below_call hB0 hb5'
  refine ⟨_, rfl, hSB _ hW5, fun hHeld => ?_⟩
  refine Rg.call (ops := (Rg.opsOf Try.f7 8)) (fn := Try.f16) (xs := #[Operand.tmp 54, Operand.tmp 58]) (ats := #[22, 9]) 27 (some 59) 16 #[(.slice b m c2), (.string q)] (by kernel_rfl) (by kernel_rfl) (by kernel_rfl) (by kernel_rfl) (by kernel_rfl) Try.func16 (by kernel_rfl) (by kernel_rfl) (by kernel_rfl) ?_
  refine (cb _ (below_call hb4 hW5)).mono ?_
  rintro e w6 ⟨rfl, hb6'⟩
  have hW6 := below_call hW5 hb6'
  refine ⟨_, rfl, hSB _ hW6, fun hHeld => ?_⟩
  refine Rg.take (ops := (Rg.opsOf Try.f7 8)) 28 (some 60) ((.bool false)) hNS (by kernel_rfl) (by kernel_rfl) (by kernel_rfl) (by kernel_rfl) (by kernel_rfl) hHeld (Rg.y_bin (b := BinOp.eql) (T := 24) (R' := 24) (x := (Operand.tmp 53)) (y := (Operand.tmp 59)) (vx := (.agg #[.int .i64 K1, .string D1])) (vy := (.agg #[.int .i64 K1, .string D2])) (by kernel_rfl) (by kernel_rfl) (by kernel_rfl) ?_) ?_
  · (intro w hSw; go_simp)
  refine Rg.take (ops := (Rg.opsOf Try.f7 8)) 29 (some 61) ((.bool false)) hNS (by kernel_rfl) (by kernel_rfl) (by kernel_rfl) (by kernel_rfl) (by kernel_rfl) hHeld (Rg.y_pick (c := (Operand.tmp 47)) (x := (Operand.const (Value.bool true))) (y := (Operand.tmp 60)) (b := false) (by kernel_rfl) (by kernel_rfl) (by kernel_rfl)) ?_
  refine Rg.take (ops := (Rg.opsOf Try.f7 8)) 30 (some 62) ((.bool false)) hNS (by kernel_rfl) (by kernel_rfl) (by kernel_rfl) (by kernel_rfl) (by kernel_rfl) hHeld (Rg.y_move (x := (Operand.tmp 61)) (Or.inl (by kernel_rfl)) (by kernel_rfl)) ?_
  refine Rg.take (ops := (Rg.opsOf Try.f7 8)) 31 (some 63) ((.slice (some ⟨bd, od, none⟩) L k4)) hNS (by kernel_rfl) (by kernel_rfl) (by kernel_rfl) (by kernel_rfl) (by kernel_rfl) hHeld (Rg.y_move (x := (Operand.tmp 7)) (Or.inl (by kernel_rfl)) (by kernel_rfl)) ?_
  refine Rg.take (ops := (Rg.opsOf Try.f7 8)) 32 (some 64) ((.int .i64 ((j + 1 : Nat) : Int))) hNS (by kernel_rfl) (by kernel_rfl) (by kernel_rfl) (by kernel_rfl) (by kernel_rfl) hHeld (Rg.y_move (x := (Operand.tmp 9)) (Or.inl (by kernel_rfl)) (by kernel_rfl)) ?_
  refine Rg.take (ops := (Rg.opsOf Try.f7 8)) 33 (some 65) ((.pointer (some ⟨bd, od + (j + 1), none⟩))) hNS (by kernel_rfl) (by kernel_rfl) (by kernel_rfl) (by kernel_rfl) (by kernel_rfl) hHeld (Rg.y_at (T := 36) (x := (Operand.tmp 63)) (y := (Operand.tmp 64)) (vx := (.slice (some ⟨bd, od, none⟩) L k4)) (vy := (.int .i64 ((j + 1 : Nat) : Int))) (by kernel_rfl) (by kernel_rfl) (by kernel_rfl) ?_) ?_
  · (intro w hSw; go_simp <;> (intros; exfalso; omega))
  refine Rg.take (ops := (Rg.opsOf Try.f7 8)) 34 (some 66) ((.string q)) hNS (by kernel_rfl) (by kernel_rfl) (by kernel_rfl) (by kernel_rfl) (by kernel_rfl) hHeld (Rg.y_load (T := 9) (x := (Operand.tmp 65)) (vx := (.pointer (some ⟨bd, od + (j + 1), none⟩))) (by kernel_rfl) (by kernel_rfl) ?_) ?_
  · (intro w hSw; go_simp)
  refine Rg.call (ops := (Rg.opsOf Try.f7 8)) (fn := Try.f31) (xs := #[Operand.tmp 66, Operand.const (Value.int IntKind.i64 5)]) (ats := #[9, 3]) 35 (some 67) 31 #[(.string q), (Value.int IntKind.i64 5)] (by kernel_rfl) (by kernel_rfl) (by kernel_rfl) (by kernel_rfl) (by kernel_rfl) Try.func31 (by kernel_rfl) (by kernel_rfl) (by kernel_rfl) ?_
  refine (cck _).mono ?_
  rintro e w7 ⟨rfl, hb7'⟩
  have hW7 := below_call hW6 hb7'
  refine ⟨_, rfl, hSB _ hW7, fun hHeld => ?_⟩
  refine Rg.take (ops := (Rg.opsOf Try.f7 8)) 36 (some 68) ((.bool false)) hNS (by kernel_rfl) (by kernel_rfl) (by kernel_rfl) (by kernel_rfl) (by kernel_rfl) hHeld (Rg.y_bin (b := BinOp.neq) (T := 3) (R' := 3) (x := (Operand.tmp 67)) (y := (Operand.const (Value.int IntKind.i64 0))) (vx := (.int .i64 0)) (vy := (Value.int IntKind.i64 0)) (by kernel_rfl) (by kernel_rfl) (by kernel_rfl) ?_) ?_
  · (intro w hSw; go_simp)
  refine Rg.take (ops := (Rg.opsOf Try.f7 8)) 37 (some 69) ((.bool false)) hNS (by kernel_rfl) (by kernel_rfl) (by kernel_rfl) (by kernel_rfl) (by kernel_rfl) hHeld (Rg.y_pick (c := (Operand.tmp 62)) (x := (Operand.const (Value.bool true))) (y := (Operand.tmp 68)) (b := false) (by kernel_rfl) (by kernel_rfl) (by kernel_rfl)) ?_
  refine Rg.done (ops := (Rg.opsOf Try.f7 8)) (by kernel_rfl) ?_
  exact ⟨by kernel_rfl, hW7⟩

end Go.Proofs.Ythokkobmlhbfgaa.treeDiffs
