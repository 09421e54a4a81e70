/- Texts of this seat, one behind the other. -/
import Derived.Test.YtdkgkomjbpggeaaGreatDoorT3
import Derived.Laws.OwnMore
import Derived.Lib.ItoaNum
namespace Go.Proofs.YtdkgkomjbpggeaaGreatDoor.Wl
open Go.RowKit Tx Pm Pl Pr Dk Fr
set_option linter.unusedVariables false
theorem does_of' {b bi bl : Nat} {w w' : World} {F : Nat → Prop} {r : Nat × St} {e : Ending} (hg : Dk.Good r.2) (hF : ∀ i, F i ↔ Ft b bi bl i) (h : e = .returned (.int .i64 (r.1 : Nat)) ∧ Ip b bi bl w r.2 w') : e = .returned (.int .i64 (r.1 : Nat)) ∧ Dk.Left (ImpAt b) w F r.2 w' := ⟨h.1, h.2.left hg hF⟩
section
variable {b : Nat} {F : Nat → Prop} {s : St} {w : World}
def Dos (O : World → (Nat → Prop) → St → Prop) (w : World) (F : Nat → Prop) (k : Nat) (s : St) (e : Ending) (w' : World) : Prop := e = .returned (.int .i64 (k : Nat)) ∧ Dk.Left O w F s w'
theorem iw_write {k : Nat} {s' : St} (P Q : ByteArray) (h : ImpAt b w F s) (ok : Ok s) (hP : P.size ≤ 8000000000000) (hQ : Q.size ≤ 1000000000000000000) (hk : writeS s P Q = (k, s')) : Calls Tryz.prog 118 #[.pointer (some ⟨b, 0, none⟩), .string P, .string Q] w (Dos (ImpAt b) w F k s') := by
  obtain ⟨bi, bl, l, hI, hg, hF⟩ := h
  have c := iWrite_any b bi bl l _ P Q _ hI hg ok hP hQ
  have hg' := good_write (p := P) (d := Q) hg
  rw [hk] at c hg'
  exact c.mono fun e w' ht => does_of' (r := (k, s')) hg' hF ht
theorem iw_append {k : Nat} {s' : St} (P Q : ByteArray) (h : ImpAt b w F s) (ok : Ok s) (hP : P.size ≤ 8000000000000) (hQ : Q.size ≤ 1000000000000000000) (hsz : (old s.L P).data.size + Q.size ≤ 1000000000000000000) (hk : appendS s P Q = (k, s')) : Calls Tryz.prog 80 #[.pointer (some ⟨b, 0, none⟩), .string P, .string Q] w (Dos (ImpAt b) w F k s') := by
  obtain ⟨bi, bl, l, hI, hg, hF⟩ := h
  have c := iAppend_any b bi bl l _ P Q _ hI hg ok hP hQ hsz
  have hg' := good_append (p := P) (d := Q) hg
  rw [hk] at c hg'
  exact c.mono fun e w' ht => does_of' (r := (k, s')) hg' hF ht
theorem iw_sync {k : Nat} {s' : St} (P : ByteArray) (h : ImpAt b w F s) (ok : Ok s) (hP : P.size ≤ 8000000000000) (hk : syncS s P = (k, s')) : Calls Tryz.prog 81 #[.pointer (some ⟨b, 0, none⟩), .string P] w (Dos (ImpAt b) w F k s') := by
  obtain ⟨bi, bl, l, hI, hg, hF⟩ := h
  have c := iSync_any b bi bl l _ P _ hI hg ok hP
  have hg' := good_sync (p := P) hg
  rw [hk] at c hg'
  exact c.mono fun e w' ht => does_of' (r := (k, s')) hg' hF ht
theorem iw_rename {k : Nat} {s' : St} (P Q : ByteArray) (h : ImpAt b w F s) (ok : Ok s) (hP : P.size ≤ 8000000000000) (hQ : Q.size ≤ 8000000000000) (hk : renameS s P Q = (k, s')) : Calls Tryz.prog 119 #[.pointer (some ⟨b, 0, none⟩), .string P, .string Q] w (Dos (ImpAt b) w F k s') := by
  obtain ⟨bi, bl, l, hI, hg, hF⟩ := h
  have c := iRename_any b bi bl l _ P Q _ hI hg ok hP hQ
  have hg' := good_rename (f := P) (t := Q) hg
  rw [hk] at c hg'
  exact c.mono fun e w' ht => does_of' (r := (k, s')) hg' hF ht
theorem iw_kind (P : ByteArray) (h : ImpAt b w F s) (hP : P.size ≤ 8000000000000) : Calls Tryz.prog 24 #[.pointer (some ⟨b, 0, none⟩), .string P] w fun e w' => e = .returned (.int .i64 (kind s.L P : Nat)) ∧ w = w' := by
  obtain ⟨bi, bl, l, hI, hg, hF⟩ := h
  exact iKind_any b bi bl l _ P _ hI hP
theorem iw_read (P : ByteArray) (h : ImpAt b w F s) (hP : P.size ≤ 8000000000000) : Calls Tryz.prog 62 #[.pointer (some ⟨b, 0, none⟩), .string P] w fun e w' => e = .returned (.tuple #[.string (readS s P).1, .int .i64 ((readS s P).2 : Nat)]) ∧ Below w.heap.size w w' := by
  obtain ⟨bi, bl, l, hI, hg, hF⟩ := h
  exact iRead_any b bi bl l _ P _ hI hg hP
end
theorem cat_size (p : ByteArray) : (p ++ tT).size = p.size + 2 := ByteArray.size_append
theorem fill_1 {s s1 : St} {p d : ByteArray} {k : Nat} (h1 : writeS s (p ++ tT) d = (k, s1)) (h : k ≠ 0) : fillS s p d = (k, s1) := by
  unfold fillS; rw [h1]; exact if_pos h
theorem fill_2 {s s1 s2 : St} {p d : ByteArray} {k : Nat} (h1 : writeS s (p ++ tT) d = (0, s1)) (h2 : syncS s1 (p ++ tT) = (k, s2)) (h : k ≠ 0) : fillS s p d = (k, s2) := by
  unfold fillS; rw [h1]; simp only [h2]; rw [if_neg (fun h => h rfl), if_pos h]
theorem fill_3 {s s1 s2 : St} {p d : ByteArray} (h1 : writeS s (p ++ tT) d = (0, s1)) (h2 : syncS s1 (p ++ tT) = (0, s2)) : fillS s p d = renameS s2 (p ++ tT) p := by
  unfold fillS; rw [h1]; simp only [h2]; rw [if_neg (fun h => h rfl), if_neg (fun h => h rfl)]
def FillOk (s : St) (p d : ByteArray) : Prop := Ok s ∧ Ok (writeS s (p ++ tT) d).2 ∧ Ok (syncS (writeS s (p ++ tT) d).2 (p ++ tT)).2
set_option maxRecDepth 100000 in
set_option maxHeartbeats 2000000 in
theorem iFill_any (b : Nat) {F : Nat → Prop} {s : St} (p d : ByteArray) (w : World) (h : ImpAt b w F s) (o : FillOk s p d) (hp : p.size ≤ 1000) (hd : d.size ≤ 1000000000000000000) :
    Calls Tryz.prog 84 #[.pointer (some ⟨b, 0, none⟩), .string p, .string d] w (Dos (ImpAt b) w F (fillS s p d).1 (fillS s p d).2) := by
  obtain ⟨o1, o2, o3⟩ := o
  have hcat := cat_size p
  obtain ⟨k1, s1, h1⟩ : ∃ k s1, writeS s (p ++ tT) d = (k, s1) := ⟨_, _, rfl⟩
  rw [h1] at o2 o3
  simp only at o2 o3
  obtain ⟨k2, s2, h2⟩ : ∃ k s2, syncS s1 (p ++ tT) = (k, s2) := ⟨_, _, rfl⟩
  rw [h2] at o3
  simp only at o3
  have c1 : Calls Tryz.prog 118 #[.pointer (some ⟨b, 0, none⟩), .string (p ++ ⟨#[95, 116]⟩), .string d] w (Dos (ImpAt b) w F k1 s1) := iw_write (p ++ tT) d h o1 (by omega) hd h1
  have c2 : ∀ {W F1}, ImpAt b W F1 s1 → Calls Tryz.prog 81 #[.pointer (some ⟨b, 0, none⟩), .string (p ++ ⟨#[95, 116]⟩)] W (Dos (ImpAt b) W F1 k2 s2) := fun {W F1} hW => iw_sync (p ++ tT) hW o2 (by omega) h2
  have c3 : ∀ {W F1}, ImpAt b W F1 s2 → Calls Tryz.prog 119 #[.pointer (some ⟨b, 0, none⟩), .string (p ++ ⟨#[95, 116]⟩), .string p] W (Dos (ImpAt b) W F1 (renameS s2 (p ++ tT) p).1 (renameS s2 (p ++ tT) p).2) := fun {W F1} hW => iw_rename (p ++ tT) p hW o3 (by omega) (by omega) rfl
  by_cases e1 : k1 ≠ 0
  · rw [fill_1 h1 e1]
    have n1 := Dk.ne_eq e1
    clear h o1 o2 o3 c2 c3 h1 h2 e1
    go_enter Tryz.func84, Tryz.ntmps84
    go_wp2_with fail
    go_at_call 118
    refine c1.mono ?_
    rintro e w1 ⟨rfl, hl1⟩
    go_wp2_with fail
    go_ret
    exact ⟨rfl, hl1⟩
  · obtain rfl : k1 = 0 := by omega
    by_cases e2 : k2 ≠ 0
    · rw [fill_2 h1 h2 e2]
      have n2 := Dk.ne_eq e2
      clear h o1 o2 o3 c3 h1 h2 e1 e2
      go_enter Tryz.func84, Tryz.ntmps84
      go_wp2_with fail
      go_at_call 118
      refine c1.mono ?_
      rintro e w1 ⟨rfl, F1, p1, q1, r1⟩
      go_wp2_with fail
      go_at_call 81
      refine (c2 p1).mono ?_
      rintro e w2 ⟨rfl, hl2⟩
      go_wp2_with fail
      go_ret
      exact ⟨rfl, left_trans q1 r1 hl2⟩
    · obtain rfl : k2 = 0 := by omega
      rw [fill_3 h1 h2]
      clear h o1 o2 o3 h1 h2 e1 e2
      go_enter Tryz.func84, Tryz.ntmps84
      go_wp2_with fail
      go_at_call 118
      refine c1.mono ?_
      rintro e w1 ⟨rfl, F1, p1, q1, r1⟩
      go_wp2_with fail
      go_at_call 81
      refine (c2 p1).mono ?_
      rintro e w2 ⟨rfl, hl2⟩
      obtain ⟨F2, p2, q2, r2⟩ := left_trans q1 r1 hl2
      go_wp2_with fail
      go_at_call 119
      refine (c3 p2).mono ?_
      rintro e w3 ⟨rfl, hl3⟩
      go_wp2_with fail
      go_ret
      exact ⟨rfl, left_trans q2 r2 hl3⟩
end Go.Proofs.YtdkgkomjbpggeaaGreatDoor.Wl

namespace Go.Proofs.YtdkgkomjbpggeaaGreatDoor.Wl
open Go.RowKit Tx Pm Dk Fr
set_option linter.unusedVariables false
def Two (j b : Nat) (p : ByteArray) (W : World) : Prop := W.cell? ⟨j, 0, none⟩ = some (.pointer (some ⟨b, 0, none⟩)) ∧ W.cell? ⟨j, 1, none⟩ = some (.string p)
theorem Two.below {j b : Nat} {p : ByteArray} {W W1 : World} (h : Two j b p W) (hb : Below W.heap.size W W1) : Two j b p W1 := by
  have hj := World.block_lt_of_cell? W _ h.1
  exact ⟨(hb.cell (p := ⟨j, 0, none⟩) hj).trans h.1, (hb.cell (p := ⟨j, 1, none⟩) hj).trans h.2⟩
set_option maxRecDepth 100000 in
set_option maxHeartbeats 2000000 in
theorem regIAdd (ops : Array Oper) (hops : ops = (Rg.opsOf Tryz.f46 3)) (id : Nat) (j b : Nat) (p r K : ByteArray) (k : Nat) {u2 u3 u4 u5 u6 u7 u8 u9 u10 u11 u12 u13 u14 u15 u16 u17 u18 u19 u20 u21 u22 u23 u24 u25 u26 u27 u28 u29 u30 u31 u32 u33 u34 u35 u36 u37 u38 u39 u40 u41 u42 u43 u44 : Value} (w : World) (B : World → Prop) (hS : Two j b p w.drew)
    (cp : ∀ W, Calls Tryz.prog 34 #[.string r] W fun e w' => e = .returned (.string K) ∧ Below W.heap.size W w')
    (ca : ∀ W, Below w.drew.heap.size w.drew W → Calls Tryz.prog 80 #[.pointer (some ⟨b, 0, none⟩), .string p, .string K] W fun e w' => e = .returned (.int .i64 (k : Nat)) ∧ B w') (hBS : ∀ W, B W → Two j b p W) :
    (Code.region id ops true).wp Tryz.prog (Rg.Only fun a' w' => a' = ⟨#[(.pointer (some ⟨j, 0, none⟩)), (.string r), u2, u3, u4, (.int .i64 (k : Nat)), u6, u7, u8, (.pointer (some ⟨j, 0, none⟩)), (.pointer (some ⟨j, 0, none⟩)), (.pointer (some ⟨j, 0, none⟩)), (.pointer (some ⟨b, 0, none⟩)), (.pointer (some ⟨j, 0, none⟩)), (.pointer (some ⟨j, 0, none⟩)), (.pointer (some ⟨j, 1, none⟩)), (.string p), (.string r), (.string K), (.int .i64 (k : Nat)), u20, u21, u22, u23, u24, u25, u26, u27, u28, u29, u30, u31, u32, u33, u34, u35, u36, u37, u38, u39, u40, u41, u42, u43, u44], []⟩ ∧ B w') ⟨#[(.pointer (some ⟨j, 0, none⟩)), (.string r), u2, u3, u4, u5, u6, u7, u8, u9, u10, u11, u12, u13, u14, u15, u16, u17, u18, u19, u20, u21, u22, u23, u24, u25, u26, u27, u28, u29, u30, u31, u32, u33, u34, u35, u36, u37, u38, u39, u40, u41, u42, u43, u44], []⟩ w := by
  subst hops
  have hNS : Region.noSelect (Rg.opsOf Tryz.f46 3) = true := by kernel_rfl
  refine wp_region_held_drew (S := Two j b p) (by kernel_rfl) hS (fun hHeld => ?_)
  rw [show (Rg.opsOf Tryz.f46 3).size = 12 by kernel_rfl]
  refine Rg.take (ops := (Rg.opsOf Tryz.f46 3)) 0 (some 9) ((.pointer (some ⟨j, 0, none⟩))) hNS (by kernel_rfl) (by kernel_rfl) (by kernel_rfl) (by kernel_rfl) (by kernel_rfl) hHeld (Rg.y_move (x := (Operand.tmp 0)) (Or.inl (by kernel_rfl)) (by kernel_rfl)) ?_
  refine Rg.take (ops := (Rg.opsOf Tryz.f46 3)) 1 (some 10) ((.pointer (some ⟨j, 0, none⟩))) hNS (by kernel_rfl) (by kernel_rfl) (by kernel_rfl) (by kernel_rfl) (by kernel_rfl) hHeld (Rg.y_nil (x := (Operand.tmp 9)) (by kernel_rfl) (by kernel_rfl)) ?_
  refine Rg.take (ops := (Rg.opsOf Tryz.f46 3)) 2 (some 11) ((.pointer (some ⟨j, 0, none⟩))) hNS (by kernel_rfl) (by kernel_rfl) (by kernel_rfl) (by kernel_rfl) (by kernel_rfl) hHeld (Rg.y_field (T := 132) (k := 0) (x := (Operand.tmp 10)) (vx := (.pointer (some ⟨j, 0, none⟩))) (by kernel_rfl) (by kernel_rfl) ?_) ?_
  · (intro w hSw; clear hSw; go_simp)
  refine Rg.take (ops := (Rg.opsOf Tryz.f46 3)) 3 (some 12) ((.pointer (some ⟨b, 0, none⟩))) hNS (by kernel_rfl) (by kernel_rfl) (by kernel_rfl) (by kernel_rfl) (by kernel_rfl) hHeld (Rg.y_load (T := 23) (x := (Operand.tmp 11)) (vx := (.pointer (some ⟨j, 0, none⟩))) (by kernel_rfl) (by kernel_rfl) ?_) ?_
  · (intro w hSw; obtain ⟨s0, s1⟩ := hSw; go_simp)
  refine Rg.take (ops := (Rg.opsOf Tryz.f46 3)) 4 (some 13) ((.pointer (some ⟨j, 0, none⟩))) hNS (by kernel_rfl) (by kernel_rfl) (by kernel_rfl) (by kernel_rfl) (by kernel_rfl) hHeld (Rg.y_move (x := (Operand.tmp 0)) (Or.inl (by kernel_rfl)) (by kernel_rfl)) ?_
  refine Rg.take (ops := (Rg.opsOf Tryz.f46 3)) 5 (some 14) ((.pointer (some ⟨j, 0, none⟩))) hNS (by kernel_rfl) (by kernel_rfl) (by kernel_rfl) (by kernel_rfl) (by kernel_rfl) hHeld (Rg.y_nil (x := (Operand.tmp 13)) (by kernel_rfl) (by kernel_rfl)) ?_
  refine Rg.take (ops := (Rg.opsOf Tryz.f46 3)) 6 (some 15) ((.pointer (some ⟨j, 1, none⟩))) hNS (by kernel_rfl) (by kernel_rfl) (by kernel_rfl) (by kernel_rfl) (by kernel_rfl) hHeld (Rg.y_field (T := 132) (k := 1) (x := (Operand.tmp 14)) (vx := (.pointer (some ⟨j, 0, none⟩))) (by kernel_rfl) (by kernel_rfl) ?_) ?_
  · (intro w hSw; clear hSw; go_simp)
  refine Rg.take (ops := (Rg.opsOf Tryz.f46 3)) 7 (some 16) ((.string p)) hNS (by kernel_rfl) (by kernel_rfl) (by kernel_rfl) (by kernel_rfl) (by kernel_rfl) hHeld (Rg.y_load (T := 9) (x := (Operand.tmp 15)) (vx := (.pointer (some ⟨j, 1, none⟩))) (by kernel_rfl) (by kernel_rfl) ?_) ?_
  · (intro w hSw; obtain ⟨s0, s1⟩ := hSw; go_simp)
  refine Rg.take (ops := (Rg.opsOf Tryz.f46 3)) 8 (some 17) ((.string r)) hNS (by kernel_rfl) (by kernel_rfl) (by kernel_rfl) (by kernel_rfl) (by kernel_rfl) hHeld (Rg.y_move (x := (Operand.tmp 1)) (Or.inl (by kernel_rfl)) (by kernel_rfl)) ?_
  refine Rg.call (ops := (Rg.opsOf Tryz.f46 3)) (fn := Tryz.f34) (xs := #[Operand.tmp 17]) (ats := #[9]) 9 (some 18) 34 #[(.string r)] (by kernel_rfl) (by kernel_rfl) (by kernel_rfl) (by kernel_rfl) (by kernel_rfl) Tryz.func34 (by kernel_rfl) (by kernel_rfl) (by kernel_rfl) ?_
  refine (cp _).mono ?_
  rintro e w5 ⟨rfl, hb5⟩
  refine ⟨_, rfl, hS.below hb5, fun hHeld => ?_⟩
  refine Rg.call (ops := (Rg.opsOf Tryz.f46 3)) (fn := Tryz.f80) (xs := #[Operand.tmp 12, Operand.tmp 16, Operand.tmp 18]) (ats := #[23, 9, 9]) 10 (some 19) 80 #[(.pointer (some ⟨b, 0, none⟩)), (.string p), (.string K)] (by kernel_rfl) (by kernel_rfl) (by kernel_rfl) (by kernel_rfl) (by kernel_rfl) Tryz.func80 (by kernel_rfl) (by kernel_rfl) (by kernel_rfl) ?_
  refine (ca _ hb5).mono ?_
  rintro e w6 ⟨rfl, hB6⟩
  refine ⟨_, rfl, hBS _ hB6, fun hHeld => ?_⟩
  refine Rg.take (ops := (Rg.opsOf Tryz.f46 3)) 11 (some 5) ((.int .i64 (k : Nat))) hNS (by kernel_rfl) (by kernel_rfl) (by kernel_rfl) (by kernel_rfl) (by kernel_rfl) hHeld (Rg.y_move (x := (Operand.tmp 19)) (Or.inr (by kernel_rfl)) (by kernel_rfl)) ?_
  refine Rg.done (ops := (Rg.opsOf Tryz.f46 3)) (by kernel_rfl) ?_
  exact ⟨by kernel_rfl, hB6⟩
end Go.Proofs.YtdkgkomjbpggeaaGreatDoor.Wl

namespace Go.Proofs.YtdkgkomjbpggeaaGreatDoor.Wl
open Go.RowKit Tx Pm Pl Pr Dk Fr
set_option linter.unusedVariables false
theorem add_1 {x : Jst} {p r : ByteArray} {k : Nat} {s1 : St} (h1 : appendS x.s p (Fm.pk r) = (k, s1)) (h : k ≠ 0) : addS x p r = (k, ⟨s1, x.R, x.dm⟩) := by
  unfold addS; rw [h1]; exact if_pos h
theorem add_2 {x : Jst} {p r : ByteArray} {k : Nat} {s1 s2 : St} (h1 : appendS x.s p (Fm.pk r) = (0, s1)) (h2 : syncS s1 p = (k, s2)) (h : k ≠ 0) : addS x p r = (k, ⟨s2, x.R, x.dm⟩) := by
  unfold addS; rw [h1]; simp only [h2]; rw [if_neg (fun h => h rfl), if_pos h]
theorem add_3 {x : Jst} {p r : ByteArray} {s1 s2 : St} (h1 : appendS x.s p (Fm.pk r) = (0, s1)) (h2 : syncS s1 p = (0, s2)) : addS x p r = (0, ⟨s2, x.R ++ [r], x.dm⟩) := by
  unfold addS; rw [h1]; simp only [h2]; rw [if_neg (fun h => h rfl), if_neg (fun h => h rfl)]
def AddOk (x : Jst) (p r : ByteArray) : Prop := Ok x.s ∧ Ok (appendS x.s p (Fm.pk r)).2 ∧ (old x.s.L p).data.size + (Fm.pk r).size ≤ 1000000000000000000 ∧ r.size ≤ 140737488355300 ∧ x.R.length ≤ 10000000000
theorem JAt.two {O : World → (Nat → Prop) → St → Prop} {T : TypeId} {b j : Nat} {p : ByteArray} {v : Value} {Fd : Nat → Prop} {w : World} {F : Nat → Prop} {x : Jst} (h : JAt O T b j p v Fd w F x) : Two j b p w := ⟨h.cell.1, h.cell.2.1⟩
theorem Mid.two {O : World → (Nat → Prop) → St → Prop} {T : TypeId} {b j : Nat} {p : ByteArray} {v : Value} {w W : World} {F : Nat → Prop} {x : Jst} (h : Mid O T b j p v w F x W) : Two j b p W := by
  obtain ⟨_, _, q, _⟩ := h
  exact q.two
theorem Mid.call {O : World → (Nat → Prop) → St → Prop} (k : Dk.Kind O) {T : TypeId} {b j : Nat} {p : ByteArray} {v : Value} {w W : World} {F : Nat → Prop} {x : Jst} {s' : St} {n : Nat} {f : FuncId} {args : Array Value} (h : Mid O T b j p v w F x W)
    (hc : ∀ {Fd}, O W Fd x.s → Calls Tryz.prog f args W (Dos O W Fd n s')) : Calls Tryz.prog f args W fun e w' => e = .returned (.int .i64 (n : Nat)) ∧ Mid O T b j p v w F ⟨s', x.R, x.dm⟩ w' := by
  obtain ⟨Fd, F', q, h1, h2⟩ := h
  refine (hc q.dsk).mono ?_
  rintro e w' ⟨rfl, hl⟩
  obtain ⟨Fd2, F2, q2, c2, n2⟩ := q.disk_left k hl
  exact ⟨rfl, Mid.trans h1 h2 ⟨Fd2, F2, q2, c2, n2⟩⟩
theorem own_form {w : World} {B size n : Nat} {e : TypeId} {v : Value} {xs : List Value} (h : w.ownsRow B e size v n xs) : ∃ a c, v = .slice a n c := by
  rcases h.2 with ⟨rfl, h0⟩ | ⟨g, cap, cur, rfl, _⟩
  · exact ⟨none, 0, by rw [h0]⟩
  · exact ⟨_, _, rfl⟩
theorem info9 : (Tryz.prog.info? 9).map (fun i => (i.zero, i.size, i.bytes)) = some (some (.string ⟨#[]⟩), 1, 16) := by kernel_rfl
theorem JAt.grown {O : World → (Nat → Prop) → St → Prop} (k : Dk.Kind O) {T : TypeId} {b j : Nat} {p r : ByteArray} {v v' : Value} {Fd : Nat → Prop} {w w0 w1 : World} {F : Nat → Prop} {x : Jst} (h : JAt O T b j p v Fd w F x) (hb : Below w.heap.size w w0)
    (hown : w1.ownsRow 0 9 1 v' (x.R.length + 1) (x.R.map Fr.sv ++ [Fr.sv r])) (hg : (v'.ownBlock = v.ownBlock ∧ w0.grownBy w1 v.ownBlock) ∨ (v'.ownBlock = some w0.heap.size ∧ w0.grownBy w1 none)) :
    (w1.cell? ⟨j, 2, none⟩ = some v ∧ w1.frozen? ⟨j, 2, none⟩ = false) ∧ LeftA (Jn O T b j p) w F ⟨x.s, x.R ++ [r], x.dm⟩ (w1.setCell ⟨j, 2, none⟩ v') := by
  have hj : j < w.heap.size := (Array.getElem?_eq_some_iff.1 h.blk).1
  have hj0 : j < w0.heap.size := Nat.lt_of_lt_of_le hj hb.size
  have hc : Chg (fun i => v.ownBlock = some i) w w1 := by
    rcases hg with ⟨_, g⟩ | ⟨_, g⟩
    · obtain ⟨g1, g2, g3, g4, g5⟩ := g
      exact ⟨g1.trans hb.os, g2.trans hb.tape, g3.trans hb.output, Nat.le_trans hb.size g4, fun i hi hn => (g5 i (Nat.lt_of_lt_of_le hi hb.size) (fun e => hn e.symm)).trans (hb.block i hi)⟩
    · obtain ⟨g1, g2, g3, g4, g5⟩ := g
      exact ⟨g1.trans hb.os, g2.trans hb.tape, g3.trans hb.output, Nat.le_trans hb.size g4, fun i hi hn => (g5 i (Nat.lt_of_lt_of_le hi hb.size) (by simp)).trans (hb.block i hi)⟩
  have hblk : w1.heap[j]? = _ := (hc.block j hj h.ne).trans h.blk
  have hvj : v'.ownBlock ≠ some j := by
    rcases hg with ⟨e, _⟩ | ⟨e, _⟩
    · rw [e]; exact h.ne
    · rw [e]; intro e2; injection e2 with e2; omega
  refine ⟨⟨by unfold World.cell?; rw [hblk]; rfl, by unfold World.frozen?; rw [hblk]; simp⟩, ?_⟩
  refine Mid.left (h.poke k (v' := v') (w1 := w1.setCell ⟨j, 2, none⟩ v') ((hc.mono (fun i hi => .inr hi)).trans ((chg_set (b := j) (k := 2) v').mono (fun i hi => Or.inl hi)) (fun i hi => .inl hi)) ?_ ?_ ?_)
  · rw [set_block hblk]
    rfl
  · have ht : Fr.Texts w1 0 v' (x.R ++ [r]) := by
      unfold Fr.Texts
      rw [List.length_append, List.map_append]
      exact hown
    exact own_kept ht (fun g hgb => set_other v' (fun e => hvj (e ▸ hgb)))
  · intro i hi
    rcases hg with ⟨e, _⟩ | ⟨e, _⟩
    · exact .inl (by rw [← e]; exact hi)
    · rw [e] at hi; injection hi with hi; exact .inr (by rw [← hi]; exact hb.size)
set_option maxRecDepth 100000 in
set_option maxHeartbeats 2000000 in
theorem iAdd_any (b j : Nat) {F Fd : Nat → Prop} {x : Jst} {v : Value} (p r : ByteArray) (w : World) (h : JAt (ImpAt b) 132 b j p v Fd w F x) (o : AddOk x p r) (hp : p.size ≤ 1000) :
    Calls Tryz.prog 46 #[.pointer (some ⟨j, 0, none⟩), .string r] w fun e w' => e = .returned (.int .i64 ((addS x p r).1 : Nat)) ∧ LeftA (Jn (ImpAt b) 132 b j p) w F (addS x p r).2 w' := by
  obtain ⟨o1, o2, o3, o4, o5⟩ := o
  obtain ⟨a0, c0, hform, _⟩ := h.row.form
  have kk := imp_kind b
  have hpk := Fm.pk_size r
  obtain ⟨k1, s1, h1⟩ : ∃ k s1, appendS x.s p (Fm.pk r) = (k, s1) := ⟨_, _, rfl⟩
  rw [h1] at o2
  simp only at o2
  obtain ⟨k2, s2, h2⟩ : ∃ k s2, syncS s1 p = (k, s2) := ⟨_, _, rfl⟩
  have cp := fun W => fPack_any r W o4
  have ca : ∀ W, Below w.drew.heap.size w.drew W → Calls Tryz.prog 80 #[.pointer (some ⟨b, 0, none⟩), .string p, .string (Fm.pk r)] W fun e w' => e = .returned (.int .i64 (k1 : Nat)) ∧ Mid (ImpAt b) 132 b j p v w F ⟨s1, x.R, x.dm⟩ w' := fun W hW =>
    (Mid.of kk h (below_call (Below.refl w.heap.size w).drew hW)).call kk (fun hd => iw_append p (Fm.pk r) hd o1 (by omega) (by omega) o3 h1)
  have cs : ∀ W, Mid (ImpAt b) 132 b j p v w F ⟨s1, x.R, x.dm⟩ W → Calls Tryz.prog 81 #[.pointer (some ⟨b, 0, none⟩), .string p] W.drew fun e w' => e = .returned (.int .i64 (k2 : Nat)) ∧ Mid (ImpAt b) 132 b j p v w F ⟨s2, x.R, x.dm⟩ w' := fun W hW => by
    obtain ⟨Fd', F', q, q2, q3⟩ := hW
    exact (Mid.trans q2 q3 (Mid.of kk q (Below.refl _ W).drew)).call (x := ⟨s1, x.R, x.dm⟩) kk (fun hd => iw_sync p hd o2 (by omega) h2)
  have hS := (h.below kk (Below.refl w.heap.size w).drew).two
  have hBS := fun W (hW : Mid (ImpAt b) 132 b j p v w F ⟨s1, x.R, x.dm⟩ W) => hW.two
  have HS := Lib.hid hS
  have HCA := Lib.hid ca
  have HCS := Lib.hid cs
  have HBS := Lib.hid hBS
  generalize hK : Fm.pk r = K at cp ca HCA h1
  by_cases e1 : k1 ≠ 0
  · rw [add_1 (by rw [hK]; exact h1) e1]
    have n1 := Dk.ne_eq e1
    clear h o1 o2 o3 h1 h2 e1 hS ca cs hBS hK hpk
    go_enter Tryz.func46, Tryz.ntmps46
    go_wp2_with fail
    refine Rg.wp_only ?_ (regIAdd _ (by kernel_rfl) _ j b p r K k1 _ _ HS.out cp HCA.out HBS.out)
    rintro _ w9 ⟨rfl, hB9⟩
    go_wp2_with fail
    go_ret
    exact ⟨rfl, hB9.left⟩
  · obtain rfl : k1 = 0 := by omega
    by_cases e2 : k2 ≠ 0
    · rw [add_2 (by rw [hK]; exact h1) h2 e2]
      have n2 := Dk.ne_eq e2
      clear h o1 o2 o3 h1 h2 e1 e2 hS ca cs hBS hK hpk
      go_enter Tryz.func46, Tryz.ntmps46
      go_wp2_with fail
      refine Rg.wp_only ?_ (regIAdd _ (by kernel_rfl) _ j b p r K 0 _ _ HS.out cp HCA.out HBS.out)
      rintro _ w9 ⟨rfl, hB9⟩
      obtain ⟨t0, t1⟩ := hB9.two
      have c9 := HCS.out _ hB9
      go_wp2_with fail
      go_still_tail 8, (by kernel_rfl)
      change wpList _ _ _ _ _ w9.drew
      go_wp2_with (go_at_call 81; refine c9.mono ?_; rintro e w5 ⟨rfl, h5⟩)
      go_ret
      exact ⟨rfl, h5.left⟩
    · obtain rfl : k2 = 0 := by omega
      rw [add_3 (by rw [hK]; exact h1) h2]
      clear h o1 o2 o3 h1 h2 e1 e2 hS ca cs hBS hK hpk
      obtain ⟨i0, hi, hz0, hz1, hz2⟩ := info_parts info9
      obtain ⟨n0, hn0⟩ : ∃ n0, n0 = x.R.length := ⟨_, rfl⟩
      rw [← hn0] at hform o5
      have HN0 := Lib.hid hn0
      subst hform
      clear hn0
      go_enter Tryz.func46, Tryz.ntmps46
      go_wp2_with fail
      refine Rg.wp_only ?_ (regIAdd _ (by kernel_rfl) _ j b p r K 0 _ _ HS.out cp HCA.out HBS.out)
      rintro _ w9 ⟨rfl, hB9⟩
      obtain ⟨t0, t1⟩ := hB9.two
      have c9 := HCS.out _ hB9
      go_wp2_with fail
      go_still_tail 8, (by kernel_rfl)
      change wpList _ _ _ _ _ w9.drew
      go_wp2_with fail
      go_at_call 81
      refine c9.mono ?_
      rintro e w5 ⟨rfl, Fd5, F5, q5, k5, n5⟩
      obtain ⟨t50, t51, t52, t53⟩ := q5.cell
      have hrow := q5.row
      unfold Fr.Texts at hrow
      have HQ := Lib.hid q5
      clear q5
      rw [← HN0.out] at hrow
      go_wp2_with (at_builtin; refine Ap.wpList_append_two _ rfl _ _ 52 rfl 0 9 i0 (.string ⟨#[]⟩) 1 16 Tryz.underlying52 hi hz0 hz1 hz2 rfl (by decide) (by decide) _ _ _ rfl (hrow.alloc _) ⟨w5.heap.size, 0, none⟩ 1 [Fr.sv r] rfl rfl ?c1 ?c2 ?c3 ?c4 ?c5 ?_)
      case c1 => exact cell_one_new _ _ _
      case c2 => exact Fr.sv_one [r]
      case c3 => omega
      case c4 => omega
      case c5 => exact Nat.zero_le _
      intro v' w6 hown hg
      obtain ⟨a6, c6, rfl⟩ := own_form hown
      obtain ⟨⟨g1, g2⟩, hfin⟩ := HQ.out.grown (r := r) kk ((Below.refl _ w5).alloc (Nat.le_refl _) (.cells #[.string r] 9)) (by rw [← HN0.out]; exact hown) (by rw [World.size_alloc]; exact hg)
      have HFIN := Lib.hid (hfin.trans k5 n5)
      clear hown hg hrow hfin
      go_wp2_with fail
      go_ret
      exact ⟨rfl, HFIN.out⟩
end Go.Proofs.YtdkgkomjbpggeaaGreatDoor.Wl

namespace Go.Proofs.YtdkgkomjbpggeaaGreatDoor.Wl
open Go.RowKit Tx Pm Pl Pr Dk Fr
set_option linter.unusedVariables false
theorem scf_le (s : ByteArray) : ∀ (f a : Nat), a ≤ s.size → (Fm.scf s f a).2.1 ≤ s.size
  | 0, a, h => h
  | f + 1, a, h => by
    by_cases hl : a < s.size
    · obtain ⟨t, n, e, h2⟩ := Fm.trip (Fm.fr (s.extract a s.size))
      by_cases he : e = 0
      · subst he
        have hn := (Fm.fr_ok h2).2.2.1
        have hs : (s.extract a s.size).size = s.size - a := by simp
        rw [Fm.scf_one f hl h2]
        exact scf_le s f (a + n) (by omega)
      · rw [Fm.scf_bad f hl h2 he]
        exact h
    · rw [Fm.scf_end _ hl]
      exact h
theorem sc_le (s : ByteArray) : (Fm.sc s 0).2.1 ≤ s.size := scf_le s _ 0 (Nat.zero_le _)
theorem own_zero {w : World} {B size n : Nat} {e : TypeId} {v : Value} {xs : List Value} (h : w.ownsRow B e size v n xs) : w.ownsRow 0 e size v n xs := by
  refine ⟨h.1, ?_⟩
  rcases h.2 with h0 | ⟨g, cap, cur, hv, hg, r⟩
  · exact .inl h0
  · exact .inr ⟨g, cap, cur, hv, Nat.zero_le _, r⟩
theorem own_base {w : World} {B size n i : Nat} {e : TypeId} {v : Value} {xs : List Value} (h : w.ownsRow B e size v n xs) (hi : v.ownBlock = some i) : B ≤ i := by
  rcases h.2 with ⟨rfl, h0⟩ | ⟨g, cap, cur, rfl, hg, r⟩
  · cases hi
  · have e : g = i := by simpa [Value.ownBlock] using hi
    omega
set_option maxRecDepth 100000 in
set_option maxHeartbeats 2000000 in
theorem iReset_any (b j : Nat) {F Fd : Nat → Prop} {x : Jst} {v : Value} (p : ByteArray) (w : World) (h : JAt (ImpAt b) 132 b j p v Fd w F x) (o : FillOk x.s p ⟨#[]⟩) (hp : p.size ≤ 1000) :
    Calls Tryz.prog 86 #[.pointer (some ⟨j, 0, none⟩)] w fun e w' => e = .returned (.int .i64 ((resetS x p).1 : Nat)) ∧ LeftA (Jn (ImpAt b) 132 b j p) w F (resetS x p).2 w' := by
  have kk := imp_kind b
  obtain ⟨k1, s1, h1⟩ : ∃ k s1, fillS x.s p ⟨#[]⟩ = (k, s1) := ⟨_, _, rfl⟩
  have hM := Mid.of kk h (Below.refl w.heap.size w).drew
  have c1 : Calls Tryz.prog 84 #[.pointer (some ⟨b, 0, none⟩), .string p, .string ⟨#[]⟩] w.drew fun e w' => e = .returned (.int .i64 (k1 : Nat)) ∧ Mid (ImpAt b) 132 b j p v w F ⟨s1, x.R, x.dm⟩ w' := hM.call kk (fun hd => by
    have := iFill_any b p ⟨#[]⟩ w.drew hd o hp (by decide)
    rw [h1] at this
    exact this)
  obtain ⟨t0, t1, _, _⟩ := h.cell
  have hr : resetS x p = if k1 ≠ 0 then (k1, ⟨s1, x.R, x.dm⟩) else (0, ⟨s1, [], x.dm⟩) := by
    unfold resetS
    rw [h1]
  by_cases e1 : k1 ≠ 0
  · rw [hr, if_pos e1]
    have n1 := Dk.ne_eq e1
    clear h o hM e1 h1 hr
    go_enter Tryz.func86, Tryz.ntmps86
    go_wp2_with fail
    go_still_tail 8, (by kernel_rfl)
    change wpList _ _ _ _ _ w.drew
    go_wp2_with fail
    go_at_call 84
    refine c1.mono ?_
    rintro e w5 ⟨rfl, h5⟩
    go_wp2_with fail
    go_ret
    exact ⟨rfl, h5.left⟩
  · obtain rfl : k1 = 0 := by omega
    rw [hr, if_neg (fun h => h rfl)]
    clear h o hM e1 h1 hr
    go_enter Tryz.func86, Tryz.ntmps86
    go_wp2_with fail
    go_still_tail 8, (by kernel_rfl)
    change wpList _ _ _ _ _ w.drew
    go_wp2_with fail
    go_at_call 84
    refine c1.mono ?_
    rintro e w5 ⟨rfl, Fd5, F5, q5, k5, n5⟩
    obtain ⟨t50, t51, t52, t53⟩ := q5.cell
    have hwm := q5.warm 2
    have hfin : LeftA (Jn (ImpAt b) 132 b j p) w F ⟨s1, [], x.dm⟩ (w5.setCell ⟨j, 2, none⟩ (.slice none 0 0)) := by
      refine LeftA.trans k5 n5 (Mid.left (q5.poke kk (v' := .slice none 0 0) ((chg_set (b := j) (k := 2) (.slice none 0 0)).mono (fun i hi => Or.inl hi)) ?_ (World.ownsRow_nil _ _ _ _) (fun i hi => by cases hi)))
      rw [set_block q5.blk]
      rfl
    have HF := Lib.hid hfin
    clear q5 k5 n5 hfin
    go_wp2_with fail
    go_ret
    exact ⟨rfl, HF.out⟩
theorem same_belowW {w w' : World} (h : w = w') : Below w.heap.size w w' := by
  subst h
  exact Below.refl _ _
def OpenOk (s : St) (p : ByteArray) : Prop := (kind s.L p = 0 → FillOk s p ⟨#[]⟩) ∧ (kind s.L p ≠ 0 → (readS s p).1.size ≤ 1000000000000000000 ∧ (Fm.sc (readS s p).1 0).1.length ≤ 10000000000 ∧ ((Fm.sc (readS s p).1 0).2.2 ≠ 0 → FillOk s p ((readS s p).1.extract 0 (Fm.sc (readS s p).1 0).2.1)))
theorem open_0 {s s1 : St} {p : ByteArray} {k : Nat} (h : kind s.L p = 0) (h1 : fillS s p ⟨#[]⟩ = (k, s1)) : openS s p = (k, ⟨s1, [], false⟩) := by
  unfold openS; rw [if_pos h, h1]
theorem open_1 {s : St} {p t : ByteArray} {k : Nat} (h : kind s.L p ≠ 0) (h1 : readS s p = (t, k)) (hk : k ≠ 0) : openS s p = (k, ⟨s, [], false⟩) := by
  unfold openS; rw [if_neg h, h1]; exact if_pos hk
theorem open_2 {s : St} {p t : ByteArray} {R : List ByteArray} {g : Nat} (h : kind s.L p ≠ 0) (h1 : readS s p = (t, 0)) (h2 : Fm.sc t 0 = (R, g, 0)) : openS s p = (0, ⟨s, R, false⟩) := by
  unfold openS; rw [if_neg h, h1]; simp only [h2]; rfl
theorem open_3 {s s1 : St} {p t : ByteArray} {R : List ByteArray} {g e k : Nat} (h : kind s.L p ≠ 0) (h1 : readS s p = (t, 0)) (h2 : Fm.sc t 0 = (R, g, e)) (he : e ≠ 0) (h3 : fillS s p (t.extract 0 g) = (k, s1)) : openS s p = (k, ⟨s1, R, bad e⟩) := by
  unfold openS; rw [if_neg h, h1]; simp only [h2]; rw [if_neg (by show ¬ (0 ≠ 0); decide), if_neg he, h3]
theorem JAt.scanned {O : World → (Nat → Prop) → St → Prop} (k : Dk.Kind O) {T : TypeId} {b j : Nat} {p : ByteArray} {v : Value} {Fd : Nat → Prop} {w w2 : World} {F : Nat → Prop} {s : St} {dm : Bool} {R : List ByteArray} {B : Nat} (h : JAt O T b j p (.slice none 0 0) Fd w F ⟨s, [], false⟩) (hb : Below w.heap.size w w2) (hr : Fr.Texts w2 B v R) (hB : w.heap.size ≤ B) :
    (w2.cell? ⟨j, 2, none⟩ = some (.slice none 0 0) ∧ w2.frozen? ⟨j, 2, none⟩ = false) ∧ ((w2.setCell ⟨j, 2, none⟩ v).cell? ⟨j, 3, none⟩ = some (.bool false) ∧ (w2.setCell ⟨j, 2, none⟩ v).frozen? ⟨j, 3, none⟩ = false) ∧
    Mid O T b j p v w F ⟨s, R, dm⟩ ((w2.setCell ⟨j, 2, none⟩ v).setCell ⟨j, 3, none⟩ (.bool dm)) := by
  have hj : j < w.heap.size := (Array.getElem?_eq_some_iff.1 h.blk).1
  have hblk := (hb.block j hj).trans h.blk
  have hblk3 : (w2.setCell ⟨j, 2, none⟩ v).heap[j]? = some (.cells #[.pointer (some ⟨b, 0, none⟩), .string p, v, .bool false] T (0, 0)) := by
    rw [set_block hblk]
    rfl
  have hvj : v.ownBlock ≠ some j := fun e => by
    have := own_base hr e
    omega
  refine ⟨⟨by unfold World.cell?; rw [hblk]; rfl, by unfold World.frozen?; rw [hblk]; simp⟩, ⟨by unfold World.cell?; rw [hblk3]; rfl, by unfold World.frozen?; rw [hblk3]; simp⟩, ?_⟩
  refine h.poke k (v' := v) (((Chg.of_below hb).trans (F := fun i => i = j ∨ (Value.slice none 0 0).ownBlock = some i) ((chg_set (b := j) (k := 2) v).mono (fun i hi => Or.inl hi)) (fun i hi => .inl hi)).then ((chg_set (b := j) (k := 3) (.bool dm)).mono (fun i hi => Or.inl hi))) ?_ ?_ ?_
  · rw [set_block hblk3]
    rfl
  · exact own_kept (own_kept (own_zero hr) (fun g hg => set_other v (fun e => hvj (by rw [← e]; exact hg)))) (fun g hg => set_other _ (fun e => hvj (by rw [← e]; exact hg)))
  · intro i hi
    have := own_base hr hi
    exact .inr (by omega)
set_option maxRecDepth 100000 in
set_option maxHeartbeats 4000000 in
theorem iBegin_any (b j : Nat) {F Fd : Nat → Prop} {s : St} (p : ByteArray) (w : World) (h : JAt (ImpAt b) 132 b j p (.slice none 0 0) Fd w F ⟨s, [], false⟩) (o : OpenOk s p) (hp : p.size ≤ 1000) :
    Calls Tryz.prog 100 #[.pointer (some ⟨j, 0, none⟩)] w fun e w' => e = .returned (.int .i64 ((openS s p).1 : Nat)) ∧ LeftA (Jn (ImpAt b) 132 b j p) w F (openS s p).2 w' := by
  have kk := imp_kind b
  obtain ⟨o1, o2⟩ := o
  have hd1 := (Below.refl w.heap.size w).drew
  have ck := (iw_kind p (h.below kk hd1).dsk (by omega)).mono fun e w' (hh : _ ∧ w.drew = w') => (⟨hh.1, same_belowW hh.2⟩ : _ ∧ Below w.drew.heap.size w.drew w')
  obtain ⟨t0, t1, _, _⟩ := h.cell
  have hcl : ∀ W, Below w.drew.heap.size w.drew W → W.cell? ⟨j, 0, none⟩ = some (.pointer (some ⟨b, 0, none⟩)) ∧ W.cell? ⟨j, 1, none⟩ = some (.string p) := fun W hW => (h.below kk (below_call hd1 hW)).two
  have HCL := Lib.hid hcl
  clear hcl
  by_cases hk : kind s.L p = 0
  · obtain ⟨k1, s1, h1⟩ : ∃ k s1, fillS s p ⟨#[]⟩ = (k, s1) := ⟨_, _, rfl⟩
    rw [open_0 hk h1]
    have c1 : ∀ W, Below w.drew.heap.size w.drew W → Calls Tryz.prog 84 #[.pointer (some ⟨b, 0, none⟩), .string p, .string ⟨#[]⟩] W.drew fun e w' => e = .returned (.int .i64 (k1 : Nat)) ∧ Mid (ImpAt b) 132 b j p (.slice none 0 0) w F ⟨s1, [], false⟩ w' := fun W hW => (Mid.of kk h (below_call hd1 hW.drew)).call kk (fun hd => by
      have := iFill_any b p ⟨#[]⟩ W.drew hd (o1 hk) hp (by decide)
      rw [h1] at this
      exact this)
    rw [hk] at ck
    clear h o1 o2 hk h1 hd1
    go_enter Tryz.func100, Tryz.ntmps100
    go_wp2_with fail
    go_still_tail 8, (by kernel_rfl)
    change wpList _ _ _ _ _ w.drew
    go_wp2_with fail
    go_at_call 24
    refine ck.mono ?_
    rintro e w4 ⟨rfl, hb4⟩
    obtain ⟨u0, u1⟩ := HCL.out _ hb4
    go_wp2_with fail
    go_still_tail 8, (by kernel_rfl)
    change wpList _ _ _ _ _ w4.drew
    go_wp2_with fail
    go_at_call 84
    refine (c1 _ hb4).mono ?_
    rintro e w5 ⟨rfl, h5⟩
    go_wp2_with fail
    go_ret
    exact ⟨rfl, h5.left⟩
  · have nk := Dk.ne_eq hk
    obtain ⟨q1, q2, q3⟩ := o2 hk
    obtain ⟨t, k, hrd⟩ : ∃ t k, readS s p = (t, k) := ⟨_, _, rfl⟩
    have hd2 : ∀ W, Below w.drew.heap.size w.drew W → Below w.heap.size w W.drew := fun W hW => below_call hd1 hW.drew
    have cr := fun W hW => iw_read p (h.below kk (hd2 W hW)).dsk (by omega)
    rw [hrd] at q1 q2 q3 cr
    simp only at q1 q2 q3 cr
    by_cases hk0 : k ≠ 0
    · rw [open_1 hk hrd hk0]
      have n0 := Dk.ne_eq hk0
      have hfin : ∀ W4 W, Below w.drew.heap.size w.drew W4 → Below W4.drew.heap.size W4.drew W → LeftA (Jn (ImpAt b) 132 b j p) w F ⟨s, [], false⟩ W := fun W4 W h4 hW => (Mid.of kk h (below_call (hd2 _ h4) hW)).left
      have HF := Lib.hid hfin
      generalize kind s.L p = K at ck nk
      clear h o1 o2 hk hd1 hd2 hfin hrd hk0 q1 q2 q3
      go_enter Tryz.func100, Tryz.ntmps100
      go_wp2_with fail
      go_still_tail 8, (by kernel_rfl)
      change wpList _ _ _ _ _ w.drew
      go_wp2_with fail
      go_at_call 24
      refine ck.mono ?_
      rintro e w4 ⟨rfl, hb4⟩
      obtain ⟨u0, u1⟩ := HCL.out _ hb4
      go_wp2_with fail
      go_region_with (go_at_call 62; refine (cr _ hb4).mono ?_; rintro e w5 ⟨rfl, h5⟩)
      all_goals
        go_wp2_with fail
        go_ret
        exact ⟨rfl, HF.out _ _ hb4 h5⟩
    · obtain rfl : k = 0 := by omega
      obtain ⟨R, g, e, hsc⟩ := Fm.trip (Fm.sc t 0)
      have hgl := sc_le t
      have cs := fun W => Fr.fScan_w t W q1 q2
      unfold Fr.ScanTo at cs
      rw [hsc] at q2 q3 hgl cs
      simp only at q2 q3 hgl cs
      have hcell : ∀ W, Below w.heap.size w W → W.cell? ⟨j, 0, none⟩ = some (.pointer (some ⟨b, 0, none⟩)) ∧ W.cell? ⟨j, 1, none⟩ = some (.string p) := fun W hW => (h.below kk hW).two
      have HC := Lib.hid hcell
      have HD2 := Lib.hid hd2
      have HH := Lib.hid h
      have HN := Lib.hid (show R.length ≤ 10000000000 from q2)
      by_cases he : e = 0
      · subst he
        rw [open_2 hk hrd hsc]
        generalize kind s.L p = K at ck nk
        clear h o1 o2 hk hd1 hd2 hrd hk0 q1 q2 q3 hsc hcell
        go_enter Tryz.func100, Tryz.ntmps100
        go_wp2_with fail
        go_still_tail 8, (by kernel_rfl)
        change wpList _ _ _ _ _ w.drew
        go_wp2_with fail
        go_at_call 24
        refine ck.mono ?_
        rintro e w4 ⟨rfl, hb4⟩
        obtain ⟨u0, u1⟩ := HCL.out _ hb4
        go_wp2_with fail
        go_region_with (go_at_call 62; refine (cr _ hb4).mono ?_; rintro e w5 ⟨rfl, h5⟩)
        all_goals
          have hb5 := below_call (HD2.out _ hb4) h5
          go_wp2_with fail
          go_at_call 136
          refine (cs _).mono ?_
          rintro e w6 ⟨v, rfl, htx, hb6'⟩
          have hb6 := below_call hb5 hb6'
          obtain ⟨⟨g1, g2⟩, ⟨g3, g4⟩, hfin⟩ := HH.out.scanned kk (dm := false) hb6 htx hb5.size
          obtain ⟨a6, c6, hv⟩ := own_form htx
          obtain ⟨n6, hn6⟩ : ∃ n6, n6 = R.length := ⟨_, rfl⟩
          rw [← hn6] at hv
          have HFIN := Lib.hid hfin
          clear hn6 htx hfin hb6' h5
          subst hv
          go_wp2_with fail
          go_ret
          exact ⟨rfl, HFIN.out.left⟩
      · have hfk := q3 he
        obtain ⟨k1, s1, h1⟩ : ∃ k s1, fillS s p (t.extract 0 g) = (k, s1) := ⟨_, _, rfl⟩
        rw [open_3 hk hrd hsc he h1]
        have hxs : (t.extract 0 g).size ≤ 1000000000000000000 := by rw [ByteArray.size_extract]; omega
        have c1 : ∀ (v : Value) (dm : Bool) (W : World), Mid (ImpAt b) 132 b j p v w F ⟨s, R, dm⟩ W → Calls Tryz.prog 84 #[.pointer (some ⟨b, 0, none⟩), .string p, .string (t.extract 0 g)] W fun e w' => e = .returned (.int .i64 (k1 : Nat)) ∧ Mid (ImpAt b) 132 b j p v w F ⟨s1, R, dm⟩ w' := fun v dm W hW => hW.call (x := ⟨s, R, dm⟩) kk (fun hd => by
          have := iFill_any b p (t.extract 0 g) W hd hfk hp hxs
          rw [h1] at this
          exact this)
        have HC1 := Lib.hid c1
        have ne0 := Dk.ne_eq he
        have hgz : (g : Int) ≤ (t.size : Int) := by omega
        have hts : (t.size : Int) ≤ 1000000000000000000 := by omega
        have hbad : bad e = (decide (e = 6) || decide (e = 3)) := rfl
        generalize kind s.L p = K at ck nk
        clear h o1 o2 hk hd1 hd2 hrd hk0 q1 q2 q3 hsc hcell hfk h1 hxs c1
        have n6 : ((e : Int) == 6) = decide (e = 6) := by by_cases h : e = 6 <;> simp [h]; omega
        have n3 : ((e : Int) == 3) = decide (e = 3) := by by_cases h : e = 3 <;> simp [h]; omega
        rw [hbad]
        clear hbad he
        generalize decide (e = 6) = b6 at n6 ⊢
        generalize decide (e = 3) = b3 at n3 ⊢
        go_enter Tryz.func100, Tryz.ntmps100
        go_wp2_with fail
        go_still_tail 8, (by kernel_rfl)
        change wpList _ _ _ _ _ w.drew
        go_wp2_with fail
        go_at_call 24
        refine ck.mono ?_
        rintro e w4 ⟨rfl, hb4⟩
        obtain ⟨u0, u1⟩ := HCL.out _ hb4
        go_wp2_with fail
        go_region_with (go_at_call 62; refine (cr _ hb4).mono ?_; rintro e w5 ⟨rfl, h5⟩)
        all_goals
          have hb5 := below_call (HD2.out _ hb4) h5
          go_wp2_with fail
          go_at_call 136
          refine (cs _).mono ?_
          rintro e w6 ⟨v, rfl, htx, hb6'⟩
          have hb6 := below_call hb5 hb6'
          obtain ⟨⟨g1, g2⟩, ⟨g3, g4⟩, hfin⟩ := HH.out.scanned kk (dm := b6 || b3) hb6 htx hb5.size
          have htwo := hfin.two
          obtain ⟨t60, t61⟩ := htwo
          have hfd := hfin.below kk (Below.refl _ _).drew
          have c6 := HC1.out _ _ _ hfd
          obtain ⟨a6, cp6, hv⟩ := own_form htx
          obtain ⟨m6, hm6⟩ : ∃ m6, m6 = R.length := ⟨_, rfl⟩
          rw [← hm6] at hv
          clear hm6 htx hfin hb6' h5 hfd
          subst hv
          cases b6
          · cases b3
            · rw [show (false || false) = false from rfl] at t60 t61 c6
              go_wp2_with fail
              generalize (w6.setCell { block := j, off := 2 } (Value.slice a6 m6 cp6)).setCell { block := j, off := 3 } (Value.bool false) = W7 at t60 t61 c6 ⊢
              go_still_tail 11, (by kernel_rfl)
              change wpList _ _ _ _ _ W7.drew
              go_wp2_with fail
              go_at_call 84
              refine c6.mono ?_
              rintro e w7 ⟨rfl, h7⟩
              go_wp2_with fail
              go_ret
              exact ⟨rfl, h7.left⟩
            · rw [show (false || true) = true from rfl] at t60 t61 c6
              go_wp2_with fail
              generalize (w6.setCell { block := j, off := 2 } (Value.slice a6 m6 cp6)).setCell { block := j, off := 3 } (Value.bool true) = W7 at t60 t61 c6 ⊢
              go_still_tail 11, (by kernel_rfl)
              change wpList _ _ _ _ _ W7.drew
              go_wp2_with fail
              go_at_call 84
              refine c6.mono ?_
              rintro e w7 ⟨rfl, h7⟩
              go_wp2_with fail
              go_ret
              exact ⟨rfl, h7.left⟩
          · cases b3
            · rw [show (true || false) = true from rfl] at t60 t61 c6
              go_wp2_with fail
              generalize (w6.setCell { block := j, off := 2 } (Value.slice a6 m6 cp6)).setCell { block := j, off := 3 } (Value.bool true) = W7 at t60 t61 c6 ⊢
              go_still_tail 11, (by kernel_rfl)
              change wpList _ _ _ _ _ W7.drew
              go_wp2_with fail
              go_at_call 84
              refine c6.mono ?_
              rintro e w7 ⟨rfl, h7⟩
              go_wp2_with fail
              go_ret
              exact ⟨rfl, h7.left⟩
            · rw [show (true || true) = true from rfl] at t60 t61 c6
              go_wp2_with fail
              generalize (w6.setCell { block := j, off := 2 } (Value.slice a6 m6 cp6)).setCell { block := j, off := 3 } (Value.bool true) = W7 at t60 t61 c6 ⊢
              go_still_tail 11, (by kernel_rfl)
              change wpList _ _ _ _ _ W7.drew
              go_wp2_with fail
              go_at_call 84
              refine c6.mono ?_
              rintro e w7 ⟨rfl, h7⟩
              go_wp2_with fail
              go_ret
              exact ⟨rfl, h7.left⟩
end Go.Proofs.YtdkgkomjbpggeaaGreatDoor.Wl

namespace Go.Proofs.YtdkgkomjbpggeaaGreatDoor.Wl
open Go.RowKit Tx Pm Pl Pr Dk Fr
set_option linter.unusedVariables false
def OpenTo (O : World → (Nat → Prop) → St → Prop) (T : TypeId) (b : Nat) (p : ByteArray) (w : World) (F : Nat → Prop) (r : Nat × Jst) (e : Ending) (w' : World) : Prop :=
  (r.1 = 0 ∧ ∃ j, e = .returned (.tuple #[.pointer (some ⟨j, 0, none⟩), .int .i64 0]) ∧ LeftA (Jn O T b j p) w F r.2 w') ∨ (r.1 ≠ 0 ∧ e = .returned (.tuple #[.pointer none, .int .i64 (r.1 : Nat)]) ∧ Dk.Left O w F r.2.s w')
theorem jn_disk {O : World → (Nat → Prop) → St → Prop} {T : TypeId} {b j : Nat} {p : ByteArray} {w w' : World} {F : Nat → Prop} {x : Jst} (h : LeftA (Jn O T b j p) w F x w') : Dk.Left O w F x.s w' := by
  obtain ⟨F', ⟨v, Fd, h1⟩, h2, h3⟩ := h
  exact ⟨Fd, h1.dsk, h2, fun g hg => h3 g ((h1.foot g).2 (.inl hg))⟩
theorem jat_new {O : World → (Nat → Prop) → St → Prop} (k : Dk.Kind O) (T : TypeId) (b : Nat) (p : ByteArray) {w : World} {F : Nat → Prop} {s : St} (h : O w F s) :
    JAt O T b w.heap.size p (.slice none 0 0) F (w.alloc (.cells #[.pointer (some ⟨b, 0, none⟩), .string p, .slice none 0 0, .bool false] T)) (fun i => F i ∨ i = w.heap.size) ⟨s, [], false⟩ :=
  ⟨k.kept h (fun i hi => ((Below.refl w.heap.size w).alloc (Nat.le_refl _) _).block i (k.lt h i hi)), new_at w _ rfl, World.ownsRow_nil _ _ _ _, (fun e => by cases e), fun i hi => ⟨fun e => by have := k.lt h i hi; omega, fun e => by cases e⟩, fun i => ⟨fun hh => hh.imp id (fun e => .inl e), fun hh => by rcases hh with hh | hh | hh; exact .inl hh; exact .inr hh; cases hh⟩⟩
theorem left_new {O : World → (Nat → Prop) → St → Prop} {T : TypeId} {b : Nat} {p : ByteArray} {w W : World} {F : Nat → Prop} {x : Jst} {o : Obj} (h : LeftA (Jn O T b w.heap.size p) (w.alloc o) (fun i => F i ∨ i = w.heap.size) x W) : LeftA (Jn O T b w.heap.size p) w F x W :=
  h.trans (F := F) (Chg.of_below ((Below.refl w.heap.size w).alloc (Nat.le_refl _) o)) (fun g hg => hg.imp id (fun e => Nat.le_of_eq e.symm))
set_option maxRecDepth 100000 in
set_option maxHeartbeats 2000000 in
theorem iOpen_any (b : Nat) {F : Nat → Prop} {s : St} (p : ByteArray) (w : World) (h : ImpAt b w F s) (o : OpenOk s p) (hp : p.size ≤ 1000) :
    Calls Tryz.prog 65 #[.pointer (some ⟨b, 0, none⟩), .string p] w (OpenTo (ImpAt b) 132 b p w F (openS s p)) := by
  have hJ := jat_new (imp_kind b) 132 b p h
  have c := iBegin_any b w.heap.size p _ hJ o hp
  obtain ⟨k, x, hx⟩ : ∃ k x, openS s p = (k, x) := ⟨_, _, rfl⟩
  rw [hx] at c ⊢
  simp only at c
  have hl : ∀ W, LeftA (Jn (ImpAt b) 132 b w.heap.size p) (w.alloc (.cells #[.pointer (some ⟨b, 0, none⟩), .string p, .slice none 0 0, .bool false] 132)) (fun i => F i ∨ i = w.heap.size) x W → LeftA (Jn (ImpAt b) 132 b w.heap.size p) w F x W := fun W hh => left_new hh
  have HL := Lib.hid hl
  by_cases h0 : k ≠ 0
  · have n0 := Dk.ne_eq h0
    have H0 := Lib.hid h0
    clear h hJ o hx hl h0
    go_enter Tryz.func65, Tryz.ntmps65
    go_wp2_with fail
    go_at_call 100
    refine c.mono ?_
    rintro e w5 ⟨rfl, h5⟩
    go_wp2_with fail
    go_ret2
    unfold OpenTo
    exact .inr ⟨H0.out, rfl, jn_disk (HL.out _ h5)⟩
  · obtain rfl : k = 0 := by omega
    clear h hJ o hx hl h0
    go_enter Tryz.func65, Tryz.ntmps65
    go_wp2_with fail
    go_at_call 100
    refine c.mono ?_
    rintro e w5 ⟨rfl, h5⟩
    go_wp2_with fail
    go_ret2
    unfold OpenTo
    exact .inl ⟨rfl, _, rfl, HL.out _ h5⟩
set_option maxRecDepth 100000 in
set_option maxHeartbeats 2000000 in
theorem clone_any (a : Option Addr) (n c : Nat) (l : List ByteArray) (w : World) (h : Fr.Texts w 0 (.slice a n c) l) (hn : n = l.length) (hl : n ≤ 10000000000) :
    Calls Tryz.prog 83 #[.slice a n c] w fun e w' => ∃ v', e = .returned v' ∧ Fr.Texts w' w.heap.size v' l ∧ Below w.heap.size w w' := by
  subst hn
  rcases h.2 with ⟨he, h0⟩ | ⟨g, cap, cur, he, hg, hh, hnc, hcm, _⟩
  · injection he with e1 e2 e3
    subst e1 e3
    have hl0 : l = [] := List.eq_nil_of_length_eq_zero h0
    subst hl0
    clear h h0 e2 hl
    have q24 : ∀ (w : World) (a : Option Addr) (n c n' c' : Nat), (binOp .eql 52 (.slice a n c) (.slice none n' c')).run Tryz.prog w = .ok (.bool a.isNone) w := fun w a n c n' c' => Lib.run_eql_slice_nil w _ _ a n c n' c' Tryz.underlying52
    go_enter Tryz.func83, Tryz.ntmps83
    go_wp2_with fail
    go_ret
    exact ⟨_, rfl, World.ownsRow_nil _ _ _ _, Below.refl _ _⟩
  · injection he with e1 e2 e3
    subst e1 e3
    obtain ⟨i0, hi, hz0, hz1, hz2⟩ := info_parts info9
    have hcells := h.cells (g := g) rfl
    obtain ⟨n, hn⟩ : ∃ n, n = l.length := ⟨_, rfl⟩
    have HN := Lib.hid hn
    have HCC := Lib.hid hcells
    rw [← hn] at hl ⊢
    clear h hh e2 hcells hn hnc hcm
    have q24 : ∀ (w : World) (a : Option Addr) (n c n' c' : Nat), (binOp .eql 52 (.slice a n c) (.slice none n' c')).run Tryz.prog w = .ok (.bool a.isNone) w := fun w a n c n' c' => Lib.run_eql_slice_nil w _ _ a n c n' c' Tryz.underlying52
    go_enter Tryz.func83, Tryz.ntmps83
    go_wp2_with (at_builtin; refine wpList_append_own _ rfl _ _ 52 rfl w.heap.size 9 i0 (.string { data := #[] }) 1 16 Tryz.underlying52 hi hz0 hz1 hz2 rfl (by decide) _ _ _ rfl (World.ownsRow_made w #[] 0 (Nat.le_refl _) (Nat.zero_le _) rfl) ⟨g, 0, none⟩ n c (l.map Fr.sv) rfl ?qc1 ?qc2 ?qc3 ?qc4 ?qc5 ?qc6 ?_)
    case qc1 => rw [List.length_map, ← HN.out, Nat.mul_one]
    case qc2 =>
      intro k u hk
      refine Lib.cell?_alloc_some _ ?_
      exact HCC.out k u hk
    case qc3 => exact Fr.sv_one l
    case qc4 => unfold maxLen; omega
    case qc5 => omega
    case qc6 => simp
    intro v' w1 hown hgrow hnil
    obtain ⟨a1, c1, rfl⟩ := own_form hown
    have hfin : Fr.Texts w1 w.heap.size (.slice a1 n c1) l := by
      unfold Fr.Texts
      rw [← HN.out]
      exact hown
    have hbel : Below w.heap.size w w1 := ((Below.refl _ w).alloc (Nat.le_refl _) _).grown hgrow (by simp) (by intro k hk; simp [Value.ownBlock] at hk; omega)
    have HF := Lib.hid hfin
    have HB := Lib.hid hbel
    clear hown hgrow hnil hfin hbel
    go_wp2_with fail
    go_ret
    exact ⟨_, rfl, HF.out, HB.out⟩
set_option maxRecDepth 100000 in
theorem iRecords_any {O : World → (Nat → Prop) → St → Prop} (k : Dk.Kind O) (b j : Nat) {F Fd : Nat → Prop} {x : Jst} {v : Value} (p : ByteArray) (w : World) (h : JAt O 132 b j p v Fd w F x) (hl : x.R.length ≤ 10000000000) :
    Calls Tryz.prog 49 #[.pointer (some ⟨j, 0, none⟩)] w fun e w' => ∃ v', e = .returned v' ∧ Fr.Texts w' w.heap.size v' x.R ∧ Below w.heap.size w w' := by
  obtain ⟨_, _, t2, _⟩ := h.cell
  obtain ⟨a, c, hv, _⟩ := h.row.form
  obtain ⟨n, hn⟩ : ∃ n, n = x.R.length := ⟨_, rfl⟩
  rw [← hn] at hv hl
  have cc := fun W (hW : Fr.Texts W 0 v x.R) => by
    rw [hv] at hW
    exact clone_any a n c x.R W hW hn hl
  have hrow := h.row
  have ct := cc w hrow
  have HN := Lib.hid hn
  clear h hrow cc hn
  subst hv
  go_enter Tryz.func49, Tryz.ntmps49
  go_wp2_with fail
  go_at_call 83
  refine ct.mono ?_
  rintro e w5 ⟨v5, rfl, h5, hb5⟩
  obtain ⟨a5, c5, hv5, _⟩ := h5.form
  rw [← HN.out] at hv5
  have H5 := Lib.hid h5
  clear h5
  subst hv5
  go_wp2_with fail
  go_ret
  exact ⟨_, rfl, H5.out, hb5⟩
end Go.Proofs.YtdkgkomjbpggeaaGreatDoor.Wl

namespace Go.Proofs.YtdkgkomjbpggeaaGreatDoor.Tb
open Go.RowKit Tx Pm Dk Wm Wr Wl Pl
set_option linter.unusedVariables false
set_option linter.unusedSimpArgs false
set_option linter.unnecessarySimpa false
theorem pl_ge (c : Ch) (h : norm c = c) : c.key.size + c.val.size + 2 ≤ (pl c).length := by
  obtain ⟨key, val, gone⟩ := c
  have h1 := vb_pos 0
  have h2 := vb_pos 1
  have h3 := vb_pos key.size
  cases gone
  · rw [pl_give]
    simp only [List.length_append, tl, Wm.len_l]
    omega
  · have hv : val = ⟨#[]⟩ := by
      have := congrArg Ch.val h
      simpa [norm] using this.symm
    rw [pl_gone, hv]
    simp only [List.length_append, tl, Wm.len_l]
    show key.size + 0 + 2 ≤ _
    omega
theorem wt_all : ∀ {l : List Ch}, l.map norm = l → wt l ≤ 20 * (l.flatMap pl).length
  | [], _ => Nat.zero_le _
  | c :: l, h => by
    rw [List.map_cons] at h
    injection h with h1 h2
    have a1 := pl_ge c h1
    have a2 := wt_all h2
    rw [wt_cons, List.flatMap_cons, List.length_append]
    omega
theorem wt_ops {r : ByteArray} {l : List Ch} (h : opsS r = (l, 0)) : wt l ≤ 20 * r.size := by
  obtain ⟨h1, h2, _⟩ := opsS_ok h
  have := wt_all h2
  rw [← h1, rec7_size, recl, List.length_append]
  omega
def taken (L : List It) (r : ByteArray) : List It := if (opsS r).2 = 0 then all7 L (opsS r).1 else L
set_option maxRecDepth 100000 in
set_option maxHeartbeats 1000000 in
theorem take_any (t m : Nat) (L : List It) (r : ByteArray) (w : World) (ht : w.cell? ⟨t, 3, none⟩ = some (.map (some m))) (hm : Mo w m L) (hR : Rises L) (hr : r.size ≤ 500000000) (hn : L.length ≤ 500000000) :
    Calls Tryz.prog 64 #[.pointer (some ⟨t, 0, none⟩), .string r] w fun e w' => e = .returned (.int .i64 ((opsS r).2 : Nat)) ∧ Mo w' m (taken L r) ∧ Chg (· = m) w w' := by
  have co := ops_any r w (by omega)
  unfold OpsTo at co
  have htl := World.block_lt_of_cell? w _ ht
  obtain ⟨l, e, h⟩ : ∃ l e, opsS r = (l, e) := ⟨_, _, rfl⟩
  unfold taken
  rw [h] at co ⊢
  simp only at co ⊢
  by_cases he : e = 0
  · subst he
    rw [if_pos rfl]
    have hw := wt_ops h
    have hln := wt_len l
    obtain ⟨_, _, h2l⟩ := opsS_ok h
    have hks : ∀ x ∈ l, x.key.size ≤ 1000000000000 := fun x hx => by have := wt_mem hx; omega
    have cd := fun W (hW : Below w.heap.size w W) a c (hO : Opl W a l.length l) (hc : l.length ≤ c) => do_any t m L a l.length c l W ((hW.cell (p := ⟨t, 3, none⟩) htl).trans ht) (hm.below hW) hR hO (by omega) hks hc
    clear hm hR h
    go_enter Tryz.func64, Tryz.ntmps64
    go_wp2_with fail
    go_at_call 99
    refine co.mono ?_
    rintro e w1 ⟨v, rfl, hO, hb1⟩
    obtain ⟨a, c, hv, hO2, hc, _⟩ := hO.form
    have c1 := cd _ hb1 a c hO2 hc
    obtain ⟨n, hn⟩ : ∃ n, n = l.length := ⟨_, rfl⟩
    rw [← hn] at hv c1
    clear hO hO2 hn cd hw hln hks h2l
    subst hv
    go_wp2_with fail
    go_at_call 48
    refine c1.mono ?_
    rintro e w2 ⟨rfl, hm2, hc2⟩
    go_wp2_with fail
    go_ret
    exact ⟨rfl, hm2, (Chg.of_below hb1).then hc2⟩
  · rw [if_neg he]
    have ne := neZ he
    have HM := Lib.hid (fun W (hW : Below w.heap.size w W) => hm.below hW)
    clear h he hm
    go_enter Tryz.func64, Tryz.ntmps64
    go_wp2_with fail
    go_at_call 99
    refine co.mono ?_
    rintro e w1 ⟨v, rfl, hO, hb1⟩
    clear hO
    go_wp2_with fail
    go_ret
    exact ⟨rfl, HM.out _ hb1, Chg.of_below hb1⟩
theorem frAt_fr (s : ByteArray) : Fr.frAt s 0 = (if (Fm.fr s).2.2 ≠ 0 then (⟨#[]⟩, 0, (Fm.fr s).2.2) else ((Fm.fr s).1, (((Fm.fr s).2.1 : Nat) : Int), 0) : ByteArray × Int × Nat) := by
  have hx : s.extract (Int.toNat 0) s.size = s := extract_all s
  unfold Fr.frAt
  rw [if_neg (by omega), hx]
  split
  · rfl
  · rw [Int.zero_add]
def based (s : St) (p : ByteArray) : List It := if (base0 s p).2 = 0 then (base0 s p).1 else []
section
variable {s : St} {p d r : ByteArray} {e n : Nat} {l : List Ch}
theorem base_0 (h : kind s.L p = 0) : base0 s p = ([], 0) := by unfold base0; rw [if_pos h]
theorem base_1 (h : kind s.L p ≠ 0) (h1 : readS s p = (d, e)) (he : e ≠ 0) : base0 s p = ([], e) := by unfold base0; rw [if_neg h, h1]; exact if_pos he
theorem base_2 (h : kind s.L p ≠ 0) (h1 : readS s p = (d, 0)) (h2 : Fm.fr d = (r, n, e)) (he : e ≠ 0) : base0 s p = ([], e) := by
  unfold base0 baseS; rw [if_neg h, h1]; simp only [h2]; rw [if_neg (fun hh => hh rfl)]; exact if_pos he
theorem base_3 (h : kind s.L p ≠ 0) (h1 : readS s p = (d, 0)) (h2 : Fm.fr d = (r, n, 0)) (hn : n < d.size) : base0 s p = ([], 5) := by
  unfold base0 baseS; rw [if_neg h, h1]; simp only [h2]; rw [if_neg (fun hh => hh rfl), if_neg (fun hh => hh rfl)]; exact if_pos hn
theorem base_4 (h : kind s.L p ≠ 0) (h1 : readS s p = (d, 0)) (h2 : Fm.fr d = (r, n, 0)) (hn : ¬ n < d.size) (h3 : opsS r = (l, e)) (he : e ≠ 0) : base0 s p = ([], e) := by
  unfold base0 baseS; rw [if_neg h, h1]; simp only [h2, h3]; rw [if_neg (fun hh => hh rfl), if_neg (fun hh => hh rfl), if_neg hn]; exact if_pos he
theorem base_5 (h : kind s.L p ≠ 0) (h1 : readS s p = (d, 0)) (h2 : Fm.fr d = (r, n, 0)) (hn : ¬ n < d.size) (h3 : opsS r = (l, 0)) : base0 s p = (all7 [] l, 0) := by
  unfold base0 baseS; rw [if_neg h, h1]; simp only [h2, h3]; rw [if_neg (fun hh => hh rfl), if_neg (fun hh => hh rfl), if_neg hn]; exact if_neg (fun hh => hh rfl)
end
theorem fr_size {d r : ByteArray} {n e : Nat} (h : Fm.fr d = (r, n, e)) : r.size ≤ d.size ∧ n ≤ d.size := by
  have hle := Fm.fr_le d
  rw [h] at hle
  refine ⟨?_, hle⟩
  by_cases he : e = 0
  · subst he
    obtain ⟨_, _, _, h4⟩ := Fm.fr_ok h
    have h5 := congrArg ByteArray.size h4
    rw [Fm.pk_size, ByteArray.size_extract] at h5
    omega
  · unfold Fm.fr at h
    split at h
    · simp only [Prod.mk.injEq] at h; rw [← h.1]; exact Nat.zero_le _
    · split at h
      · simp only [Prod.mk.injEq] at h; rw [← h.1]; exact Nat.zero_le _
      · split at h
        · simp only [Prod.mk.injEq] at h; rw [← h.1]; exact Nat.zero_le _
        · simp only [Prod.mk.injEq] at h; exact absurd h.2.2.symm he
set_option maxRecDepth 100000 in
set_option maxHeartbeats 4000000 in
theorem takeBase_any (b t m : Nat) {Fd : Nat → Prop} {s : St} (p : ByteArray) (w : World) (t0 : w.cell? ⟨t, 0, none⟩ = some (.pointer (some ⟨b, 0, none⟩))) (t1 : w.cell? ⟨t, 1, none⟩ = some (.string p)) (ht : w.cell? ⟨t, 3, none⟩ = some (.map (some m)))
    (hm : Mo w m []) (hD : ImpAt b w Fd s) (hp : p.size ≤ 1000) (hs : (readS s p).1.size ≤ 500000000) :
    Calls Tryz.prog 27 #[.pointer (some ⟨t, 0, none⟩)] w fun e w' => e = .returned (.int .i64 ((base0 s p).2 : Nat)) ∧ Mo w' m (based s p) ∧ Chg (· = m) w w' := by
  have kk := imp_kind b
  have hd1 := (Below.refl w.heap.size w).drew
  have htl := World.block_lt_of_cell? w _ ht
  have hDB := fun W (hW : Below w.heap.size w W) => kk.kept hD (fun i hi => hW.block i (kk.lt hD i hi))
  have ck := (iw_kind p (hDB _ hd1) (by omega)).mono fun e w' (hh : _ ∧ w.drew = w') => (⟨hh.1, same_belowW hh.2⟩ : _ ∧ Below w.drew.heap.size w.drew w')
  have hd2 : ∀ W, Below w.drew.heap.size w.drew W → Below w.heap.size w W.drew := fun W hW => Tx.below_call hd1 hW.drew
  have cr := fun W hW => iw_read p (hDB _ (hd2 W hW)) (by omega)
  have HCL := Lib.hid (fun W (hW : Below w.drew.heap.size w.drew W) => (⟨((Tx.below_call hd1 hW).cell (p := ⟨t, 0, none⟩) htl).trans t0, ((Tx.below_call hd1 hW).cell (p := ⟨t, 1, none⟩) htl).trans t1⟩ : W.cell? ⟨t, 0, none⟩ = some (.pointer (some ⟨b, 0, none⟩)) ∧ W.cell? ⟨t, 1, none⟩ = some (.string p)))
  have HT := Lib.hid (fun W (hW : Below w.heap.size w W) => (hW.cell (p := ⟨t, 3, none⟩) htl).trans ht)
  have HM := Lib.hid (fun W (hW : Below w.heap.size w W) => hm.below hW)
  have HD2 := Lib.hid hd2
  unfold based
  by_cases hk : kind s.L p = 0
  · rw [base_0 hk]
    rw [hk] at ck
    clear hD hDB hk cr hd1 hd2 hm
    go_enter Tryz.func27, Tryz.ntmps27
    go_wp2_with fail
    go_still_tail 8, (by kernel_rfl)
    change wpList _ _ _ _ _ w.drew
    go_wp2_with fail
    go_at_call 24
    refine ck.mono ?_
    rintro e w4 ⟨rfl, hb4⟩
    obtain ⟨u0, u1⟩ := HCL.out _ hb4
    have hb4' := HD2.out _ hb4
    go_wp2_with fail
    go_ret
    exact ⟨rfl, HM.out _ (Tx.below_call (Below.refl w.heap.size w).drew hb4), Chg.of_below (Tx.below_call (Below.refl w.heap.size w).drew hb4)⟩
  · have nk := neZ hk
    obtain ⟨d, e1, hrd⟩ : ∃ d e, readS s p = (d, e) := ⟨_, _, rfl⟩
    rw [hrd] at cr hs
    simp only at cr hs
    by_cases he1 : e1 = 0
    · subst he1
      obtain ⟨r, n, e2, hfr⟩ := Fm.trip (Fm.fr d)
      have cf := fun W => Fr.fRead_any d 0 W (by omega) (by omega) (by omega)
      have hfa := frAt_fr d
      rw [hfr] at hfa
      obtain ⟨hrs, hnd⟩ := fr_size hfr
      by_cases he2 : e2 = 0
      · subst he2
        rw [if_neg (fun hh => hh rfl)] at hfa
        simp only at hfa
        rw [hfa] at cf
        have hdi : (d.size : Int) ≤ 500000000 := by omega
        by_cases hn : n < d.size
        · rw [base_3 hk hrd hfr hn]
          have hnz : (n : Int) < (d.size : Int) := by omega
          generalize kind s.L p = K at ck nk
          clear hD hDB hk hd1 hd2 hm hrd hfr hfa hrs hnd hn hs
          go_enter Tryz.func27, Tryz.ntmps27
          go_wp2_with fail
          go_still_tail 8, (by kernel_rfl)
          change wpList _ _ _ _ _ w.drew
          go_wp2_with fail
          go_at_call 24
          refine ck.mono ?_
          rintro e w4 ⟨rfl, hb4⟩
          obtain ⟨u0, u1⟩ := HCL.out _ hb4
          go_wp2_with fail
          go_region_with (go_at_call 62; refine (cr _ hb4).mono ?_; rintro e w5 ⟨rfl, h5⟩)
          all_goals
            have hb5 := Tx.below_call (HD2.out _ hb4) h5
            go_wp2_with fail
            go_at_call 63
            refine (cf _).mono ?_
            rintro e w6 ⟨rfl, hb6⟩
            have hb7 := Tx.below_call hb5 hb6
            go_wp2_with fail
            go_ret
            exact ⟨rfl, HM.out _ hb7, Chg.of_below hb7⟩
        · have hnz : ¬ (n : Int) < (d.size : Int) := by omega
          have hbt : base0 s p = (if (opsS r).2 = 0 then all7 [] (opsS r).1 else [], (opsS r).2) := by
            obtain ⟨l, e3, h3⟩ : ∃ l e, opsS r = (l, e) := ⟨_, _, rfl⟩
            rw [h3]
            by_cases he3 : e3 = 0
            · subst he3
              rw [base_5 hk hrd hfr hn h3]
              rfl
            · rw [base_4 hk hrd hfr hn h3 he3]
              show _ = (if e3 = 0 then all7 [] l else [], e3)
              rw [if_neg he3]
          have hbt2 : (if (base0 s p).2 = 0 then (base0 s p).1 else []) = taken [] r := by
            rw [hbt]
            unfold taken
            split
            · rfl
            · rfl
          have hbt3 : (base0 s p).2 = (opsS r).2 := by rw [hbt]
          rw [hbt2, hbt3]
          have ctk := fun W (hW : Below w.heap.size w W) => take_any t m [] r W (HT.out W hW) (HM.out W hW) List.Pairwise.nil (by omega) (by decide)
          have HCT := Lib.hid ctk
          generalize kind s.L p = K at ck nk
          generalize taken [] r = TK at HCT
          generalize (opsS r).2 = ER at HCT
          clear hD hDB hk hd1 hd2 hm hrd hfr hfa hrs hnd hn hs hbt hbt2 hbt3 ctk
          go_enter Tryz.func27, Tryz.ntmps27
          go_wp2_with fail
          go_still_tail 8, (by kernel_rfl)
          change wpList _ _ _ _ _ w.drew
          go_wp2_with fail
          go_at_call 24
          refine ck.mono ?_
          rintro e w4 ⟨rfl, hb4⟩
          obtain ⟨u0, u1⟩ := HCL.out _ hb4
          go_wp2_with fail
          go_region_with (go_at_call 62; refine (cr _ hb4).mono ?_; rintro e w5 ⟨rfl, h5⟩)
          all_goals
            have hb5 := Tx.below_call (HD2.out _ hb4) h5
            go_wp2_with fail
            go_at_call 63
            refine (cf _).mono ?_
            rintro e w6 ⟨rfl, hb6⟩
            have hb7 := Tx.below_call hb5 hb6
            go_wp2_with fail
            go_at_call 64
            refine (HCT.out _ hb7).mono ?_
            rintro e w8 ⟨rfl, hm8, hc8⟩
            go_wp2_with fail
            go_ret
            exact ⟨rfl, hm8, (Chg.of_below hb7).then hc8⟩
      · rw [if_pos he2] at hfa
        simp only at hfa
        rw [hfa] at cf
        rw [base_2 hk hrd hfr he2]
        have ne2 := neZ he2
        have hif : (if ((([], e2) : List It × Nat)).2 = 0 then ((([], e2) : List It × Nat)).1 else []) = [] := by split <;> rfl
        rw [hif]
        generalize kind s.L p = K at ck nk
        clear hD hDB hk hd1 hd2 hm hrd hfr hfa hrs hnd hs he2 hif
        go_enter Tryz.func27, Tryz.ntmps27
        go_wp2_with fail
        go_still_tail 8, (by kernel_rfl)
        change wpList _ _ _ _ _ w.drew
        go_wp2_with fail
        go_at_call 24
        refine ck.mono ?_
        rintro e w4 ⟨rfl, hb4⟩
        obtain ⟨u0, u1⟩ := HCL.out _ hb4
        go_wp2_with fail
        go_region_with (go_at_call 62; refine (cr _ hb4).mono ?_; rintro e w5 ⟨rfl, h5⟩)
        all_goals
          have hb5 := Tx.below_call (HD2.out _ hb4) h5
          go_wp2_with fail
          go_at_call 63
          refine (cf _).mono ?_
          rintro e w6 ⟨rfl, hb6⟩
          have hb7 := Tx.below_call hb5 hb6
          go_wp2_with fail
          go_ret
          exact ⟨rfl, HM.out _ hb7, Chg.of_below hb7⟩
    · rw [base_1 hk hrd he1]
      have ne1 := neZ he1
      have hif : (if ((([], e1) : List It × Nat)).2 = 0 then ((([], e1) : List It × Nat)).1 else []) = [] := by split <;> rfl
      rw [hif]
      generalize kind s.L p = K at ck nk
      clear hD hDB hk hd1 hd2 hm hrd he1 hif hs
      go_enter Tryz.func27, Tryz.ntmps27
      go_wp2_with fail
      go_still_tail 8, (by kernel_rfl)
      change wpList _ _ _ _ _ w.drew
      go_wp2_with fail
      go_at_call 24
      refine ck.mono ?_
      rintro e w4 ⟨rfl, hb4⟩
      obtain ⟨u0, u1⟩ := HCL.out _ hb4
      go_wp2_with fail
      go_region_with (go_at_call 62; refine (cr _ hb4).mono ?_; rintro e w5 ⟨rfl, h5⟩)
      all_goals
        have hb5 := Tx.below_call (HD2.out _ hb4) h5
        go_wp2_with fail
        go_ret
        exact ⟨rfl, HM.out _ hb5, Chg.of_below hb5⟩
end Go.Proofs.YtdkgkomjbpggeaaGreatDoor.Tb

namespace Go.Proofs.YtdkgkomjbpggeaaGreatDoor.Tb
open Go.RowKit Tx Pm Dk Wm Wr Wl Pl
set_option linter.unusedVariables false
set_option linter.unusedSimpArgs false
set_option linter.unnecessarySimpa false
abbrev JnT (b j : Nat) (q : ByteArray) := Jn (ImpAt b) 132 b j q
structure TAt (b j t m : Nat) (p q : ByteArray) (Fj : Nat → Prop) (w : World) (F : Nat → Prop) (x : Tst) : Prop where
  jn : JnT b j q w Fj x.j
  blk : w.heap[t]? = some (.cells #[.pointer (some ⟨b, 0, none⟩), .string p, .pointer (some ⟨j, 0, none⟩), .map (some m)] 69 (0, 0))
  rows : Mo w m x.L
  off : ¬ Fj t ∧ ¬ Fj m
  foot : ∀ i, F i ↔ Fj i ∨ i = t ∨ i = m
  rises : Rises x.L
  plain : Plain x.L
def Tn (b j t m : Nat) (p q : ByteArray) (w : World) (F : Nat → Prop) (x : Tst) : Prop := ∃ Fj, TAt b j t m p q Fj w F x
section
variable {b j t m : Nat} {p q : ByteArray} {Fj F : Nat → Prop} {w w1 : World} {x : Tst}
theorem TAt.tm (h : TAt b j t m p q Fj w F x) : t ≠ m := fun e => h.rows.nb (e ▸ h.blk)
theorem TAt.lt (h : TAt b j t m p q Fj w F x) : ∀ i, F i → i < w.heap.size := fun i hi => by
  rcases (h.foot i).1 hi with h1 | rfl | rfl
  · exact (jn_kind (imp_kind b) _ b j q).1 h.jn i h1
  · exact (Array.getElem?_eq_some_iff.1 h.blk).1
  · exact h.rows.lt
theorem TAt.kept (h : TAt b j t m p q Fj w F x) (hk : ∀ i, F i → w1.heap[i]? = w.heap[i]?) : TAt b j t m p q Fj w1 F x :=
  ⟨(jn_kind (imp_kind b) _ b j q).2 h.jn (fun i hi => hk i ((h.foot i).2 (.inl hi))), (hk t ((h.foot t).2 (.inr (.inl rfl)))).trans h.blk, h.rows.kept (hk m ((h.foot m).2 (.inr (.inr rfl)))), h.off, h.foot, h.rises, h.plain⟩
theorem TAt.below (h : TAt b j t m p q Fj w F x) (hb : Below w.heap.size w w1) : TAt b j t m p q Fj w1 F x := h.kept (fun i hi => hb.block i (h.lt i hi))
theorem TAt.cell (h : TAt b j t m p q Fj w F x) : w.cell? ⟨t, 0, none⟩ = some (.pointer (some ⟨b, 0, none⟩)) ∧ w.cell? ⟨t, 1, none⟩ = some (.string p) ∧ w.cell? ⟨t, 2, none⟩ = some (.pointer (some ⟨j, 0, none⟩)) ∧ w.cell? ⟨t, 3, none⟩ = some (.map (some m)) := by
  have hb := h.blk
  refine ⟨?_, ?_, ?_, ?_⟩ <;> · unfold World.cell?; rw [hb]; rfl
theorem TAt.jleft {y : Jst} (h : TAt b j t m p q Fj w F x) (hl : LeftA (JnT b j q) w Fj y w1) : LeftA (Tn b j t m p q) w F ⟨y, x.L⟩ w1 := by
  obtain ⟨Fj', h1, h2, h3⟩ := hl
  have htl : t < w.heap.size := (Array.getElem?_eq_some_iff.1 h.blk).1
  have hml := h.rows.lt
  refine ⟨fun i => Fj' i ∨ i = t ∨ i = m, ⟨Fj', h1, (h2.block t htl h.off.1).trans h.blk, h.rows.kept (h2.block m hml h.off.2), ⟨fun hh => ?_, fun hh => ?_⟩, fun i => Iff.rfl, h.rises, h.plain⟩, h2.mono (fun i hi => (h.foot i).2 (.inl hi)), fun g hg => ?_⟩
  · rcases h3 t hh with hh | hh
    · exact h.off.1 hh
    · omega
  · rcases h3 m hh with hh | hh
    · exact h.off.2 hh
    · omega
  · rcases hg with hg | hg
    · exact (h3 g hg).imp (fun hh => (h.foot g).2 (.inl hh)) id
    · exact .inl ((h.foot g).2 (.inr hg))
theorem TAt.turned {L : List It} (h : TAt b j t m p q Fj w F x) (hm : Mo w1 m L) (hc : Chg (· = m) w w1) (hr : Rises L) (hp : Plain L) : TAt b j t m p q Fj w1 F ⟨x.j, L⟩ :=
  ⟨(jn_kind (imp_kind b) _ b j q).2 h.jn (fun i hi => hc.block i ((jn_kind (imp_kind b) _ b j q).1 h.jn i hi) (fun e => h.off.2 (e ▸ hi))), (hc.block t (Array.getElem?_eq_some_iff.1 h.blk).1 h.tm).trans h.blk, hm, h.off, h.foot, hr, hp⟩
end
theorem LeftA.of {α : Type} {Obj : World → (Nat → Prop) → α → Prop} {w w1 : World} {F : Nat → Prop} {x : α} (h : Obj w1 F x) (hc : Chg F w w1) : LeftA Obj w F x w1 := ⟨F, h, hc, fun g hg => .inl hg⟩
theorem Chg.sub {F G : Nat → Prop} {w w1 : World} (h : Chg F w w1) (hG : ∀ i, F i → G i) : Chg G w w1 := h.mono hG
structure BAt (u pm : Nat) (tp : Option Addr) (vO : Value) (w : World) (G : Nat → Prop) (l : List Ch) : Prop where
  blk : w.heap[u]? = some (.cells #[.pointer tp, vO, .map (some pm)] 76 (0, 0))
  ops : OwnC w 0 vO l
  plc : Pp w pm l
  ne : vO.ownBlock ≠ some u
  once : Once l
  foot : ∀ i, G i ↔ i = u ∨ vO.ownBlock = some i ∨ i = pm
def Bn (u : Nat) (tp : Option Addr) (w : World) (G : Nat → Prop) (l : List Ch) : Prop := ∃ pm vO, BAt u pm tp vO w G l
section
variable {u pm : Nat} {tp : Option Addr} {vO : Value} {w w1 : World} {G : Nat → Prop} {l : List Ch}
theorem BAt.up (h : BAt u pm tp vO w G l) : u ≠ pm := fun e => h.plc.nb (e ▸ h.blk)
theorem BAt.op (h : BAt u pm tp vO w G l) : vO.ownBlock ≠ some pm := fun e => by
  rcases h.ops.2 with ⟨hv, _⟩ | ⟨g, cap, cur, hv, _, hg, _⟩
  · rw [hv] at e; cases e
  · rw [hv] at e
    injection e with e
    subst e
    exact h.plc.nb hg
theorem BAt.lt (h : BAt u pm tp vO w G l) : ∀ i, G i → i < w.heap.size := fun i hi => by
  rcases (h.foot i).1 hi with rfl | h1 | rfl
  · exact (Array.getElem?_eq_some_iff.1 h.blk).1
  · exact (h.ops.lt i h1).2
  · exact h.plc.lt
theorem BAt.kept (h : BAt u pm tp vO w G l) (hk : ∀ i, G i → w1.heap[i]? = w.heap[i]?) : BAt u pm tp vO w1 G l :=
  ⟨(hk u ((h.foot u).2 (.inl rfl))).trans h.blk, own_kept h.ops (fun g hg => hk g ((h.foot g).2 (.inr (.inl hg)))), h.plc.kept (hk pm ((h.foot pm).2 (.inr (.inr rfl)))), h.ne, h.once, h.foot⟩
theorem BAt.below (h : BAt u pm tp vO w G l) (hb : Below w.heap.size w w1) : BAt u pm tp vO w1 G l := h.kept (fun i hi => hb.block i (h.lt i hi))
theorem BAt.cell (h : BAt u pm tp vO w G l) : w.cell? ⟨u, 0, none⟩ = some (.pointer tp) ∧ w.cell? ⟨u, 1, none⟩ = some vO ∧ w.cell? ⟨u, 2, none⟩ = some (.map (some pm)) := by
  have hb := h.blk
  refine ⟨?_, ?_, ?_⟩ <;> · unfold World.cell?; rw [hb]; rfl
theorem BAt.warm (h : BAt u pm tp vO w G l) (k : Nat) : w.frozen? ⟨u, k, none⟩ = false := by
  unfold World.frozen?
  rw [h.blk]
  simp
end
end Go.Proofs.YtdkgkomjbpggeaaGreatDoor.Tb

namespace Go.Proofs.YtdkgkomjbpggeaaGreatDoor.Tb
open Go.RowKit
set_option linter.unusedVariables false
set_option linter.unusedSimpArgs false
set_option linter.unnecessarySimpa false
set_option maxRecDepth 100000 in
set_option maxHeartbeats 4000000 in
theorem chgNew (ops : Array Oper) (hops : ops = (Rg.opsOf Tryz.f67 6)) (id : Nat) (u x n c : Nat) (a : Option Addr) (key val : ByteArray) (gone : Bool) {u1 u2 u4 u5 u6 u7 u8 u9 u10 u11 u12 u13 u14 u15 u16 u17 u18 u19 u20 u21 u22 u23 u24 u25 u26 u27 u28 u29 u30 u31 u32 u33 u34 u35 u36 u37 u38 u39 u40 u41 u42 u43 u44 u45 u46 : Value} (w : World) (B4 : Value → World → Prop)
    (hS : Cells3 x key val gone w) (hL : w.drew.cell? ⟨u, 1, none⟩ = some (.slice a n c)) (hL2 : (w.alloc (.cells #[.string key, .string val, .bool gone] 105)).cell? ⟨u, 1, none⟩ = some (.slice a n c)) (hS2 : Cells3 x key val gone (w.drew.alloc (.cells #[.string key, .string val, .bool gone] 105)))
    (hE : ∀ ty, ∃ a8 n8 c8 w8, (Builtin.append_ #[74, 74] ty #[.slice a n c, .slice (some ⟨w.heap.size, 0, none⟩) 1 1]).run Tryz.prog (w.drew.alloc (.cells #[.string key, .string val, .bool gone] 105)) = .ok (.slice a8 n8 c8) w8 ∧ w8.cell? ⟨u, 1, none⟩ = some (.slice a n c) ∧ w8.frozen? ⟨u, 1, none⟩ = false ∧
      Cells3 x key val gone w8 ∧ Cells3 x key val gone (w8.setCell ⟨u, 1, none⟩ (.slice a8 n8 c8)) ∧ B4 (.slice a8 n8 c8) w8) :
    (Code.region id ops true).wp Tryz.prog (Rg.Only fun a' w' => ∃ (z8 : Nat) (a8 : Option Addr) (n8 c8 : Nat) (w8 : World), a' = ⟨#[(.pointer (some ⟨u, 0, none⟩)), u1, u2, (.pointer (some ⟨x, 0, none⟩)), u4, u5, u6, u7, u8, u9, u10, u11, u12, u13, u14, u15, u16, u17, u18, u19, u20, u21, u22, u23, u24, u25, u26, u27, u28, u29, u30, u31, u32, u33, u34, u35, u36, (.pointer (some ⟨u, 0, none⟩)), (.pointer (some ⟨u, 0, none⟩)), (.pointer (some ⟨u, 0, none⟩)), (.pointer (some ⟨u, 1, none⟩)), (.slice a n c), (.agg #[.string key, .string val, .bool gone]), (.slice (some ⟨z8, 0, none⟩) 1 1), (.slice a8 n8 c8), (.pointer (some ⟨u, 0, none⟩)), (.pointer (some ⟨u, 1, none⟩))], []⟩ ∧ w' = w8.setCell ⟨u, 1, none⟩ (.slice a8 n8 c8) ∧ B4 (.slice a8 n8 c8) w8) ⟨#[(.pointer (some ⟨u, 0, none⟩)), u1, u2, (.pointer (some ⟨x, 0, none⟩)), u4, u5, u6, u7, u8, u9, u10, u11, u12, u13, u14, u15, u16, u17, u18, u19, u20, u21, u22, u23, u24, u25, u26, u27, u28, u29, u30, u31, u32, u33, u34, u35, u36, u37, u38, u39, u40, u41, u42, u43, u44, u45, u46], []⟩ w := by
  subst hops
  have hNS : Region.noSelect (Rg.opsOf Tryz.f67 6) = true := by kernel_rfl
  refine wp_region_held_drew (S := Cells3 x key val gone) (by kernel_rfl) hS (fun hHeld => ?_)
  rw [show (Rg.opsOf Tryz.f67 6).size = 11 by kernel_rfl]
  refine Rg.take (ops := (Rg.opsOf Tryz.f67 6)) 0 (some 37) ((.pointer (some ⟨u, 0, none⟩))) hNS (by kernel_rfl) (by kernel_rfl) (by kernel_rfl) (by kernel_rfl) (by kernel_rfl) hHeld (Rg.y_move (x := (Operand.tmp 0)) (Or.inl (by kernel_rfl)) (by kernel_rfl)) ?_
  refine Rg.take (ops := (Rg.opsOf Tryz.f67 6)) 1 (some 38) ((.pointer (some ⟨u, 0, none⟩))) hNS (by kernel_rfl) (by kernel_rfl) (by kernel_rfl) (by kernel_rfl) (by kernel_rfl) hHeld (Rg.y_move (x := (Operand.tmp 0)) (Or.inl (by kernel_rfl)) (by kernel_rfl)) ?_
  refine Rg.take (ops := (Rg.opsOf Tryz.f67 6)) 2 (some 39) ((.pointer (some ⟨u, 0, none⟩))) hNS (by kernel_rfl) (by kernel_rfl) (by kernel_rfl) (by kernel_rfl) (by kernel_rfl) hHeld (Rg.y_nil (x := (Operand.tmp 38)) (by kernel_rfl) (by kernel_rfl)) ?_
  refine Rg.take (ops := (Rg.opsOf Tryz.f67 6)) 3 (some 40) ((.pointer (some ⟨u, 1, none⟩))) hNS (by kernel_rfl) (by kernel_rfl) (by kernel_rfl) (by kernel_rfl) (by kernel_rfl) hHeld (Rg.y_field (T := 76) (k := 1) (x := (Operand.tmp 39)) (vx := (.pointer (some ⟨u, 0, none⟩))) (by kernel_rfl) (by kernel_rfl) ?_) ?_
  · (intro w hSw; clear hSw; go_simp)
  refine Rg.take (ops := (Rg.opsOf Tryz.f67 6)) 5 (some 42) ((.agg #[.string key, .string val, .bool gone])) hNS (by kernel_rfl) (by kernel_rfl) (by kernel_rfl) (by kernel_rfl) (by kernel_rfl) hHeld (Rg.y_load (T := 105) (x := (Operand.tmp 3)) (vx := (.pointer (some ⟨x, 0, none⟩))) (by kernel_rfl) (by kernel_rfl) ?_) ?_
  · (intro w hSw; obtain ⟨s0, s1, s2⟩ := hSw; go_simp)
  refine Rg.two (ops := (Rg.opsOf Tryz.f67 6)) (i := 4) (j := 6) (by kernel_rfl) ?_ ?_
  · refine Rg.op_load (ops := (Rg.opsOf Tryz.f67 6)) 4 (some 41) (T := 74) (x := (Operand.tmp 40)) (vx := (.pointer (some ⟨u, 1, none⟩))) (v := (.slice a n c)) (by kernel_rfl) (by kernel_rfl) (by kernel_rfl) (by kernel_rfl) (by kernel_rfl) ?_ hHeld ?_
    · (clear hHeld hE; go_simp)
    refine Rg.bld (ops := (Rg.opsOf Tryz.f67 6)) 6 (some 43) (T := 74) (len := 1) (parts := #[(0, Operand.tmp 42)]) (vs := #[(0, (.agg #[.string key, .string val, .bool gone]))]) (v := (.slice (some ⟨w.heap.size, 0, none⟩) 1 1)) (w1 := w.drew.alloc (.cells #[.string key, .string val, .bool gone] 105)) (by kernel_rfl) (by kernel_rfl) (by kernel_rfl) (by kernel_rfl) (by kernel_rfl) (by kernel_rfl) ?_ (hS2) (fun hHeld => ?_)
    · (clear hHeld hE hL hL2; go_simp)
    refine Rg.app1 (ops := (Rg.opsOf Tryz.f67 6)) 7 (some 44) (T := 74) (x := (Operand.tmp 41)) (y := (Operand.tmp 43)) (vx := (.slice a n c)) (vy := (.slice (some ⟨w.heap.size, 0, none⟩) 1 1)) (by kernel_rfl) (by kernel_rfl) (by kernel_rfl) (by kernel_rfl) (by kernel_rfl) (by kernel_rfl) (by kernel_rfl) ?_
    intro ty
    obtain ⟨a8, n8, c8, w8, hr8, hl8, hf8, hS8, hS9, h8⟩ := hE ty
    refine ⟨_, w8, hr8, hS8, fun hHeld => ?_⟩
    refine Rg.take (ops := (Rg.opsOf Tryz.f67 6)) 8 (some 45) ((.pointer (some ⟨u, 0, none⟩))) hNS (by kernel_rfl) (by kernel_rfl) (by kernel_rfl) (by kernel_rfl) (by kernel_rfl) hHeld (Rg.y_nil (x := (Operand.tmp 37)) (by kernel_rfl) (by kernel_rfl)) ?_
    refine Rg.take (ops := (Rg.opsOf Tryz.f67 6)) 9 (some 46) ((.pointer (some ⟨u, 1, none⟩))) hNS (by kernel_rfl) (by kernel_rfl) (by kernel_rfl) (by kernel_rfl) (by kernel_rfl) hHeld (Rg.y_field (T := 76) (k := 1) (x := (Operand.tmp 45)) (vx := (.pointer (some ⟨u, 0, none⟩))) (by kernel_rfl) (by kernel_rfl) ?_) ?_
    · (intro w hSw; clear hSw; go_simp)
    refine Rg.store (ops := (Rg.opsOf Tryz.f67 6)) 10 (T := 74) (x := (Operand.tmp 46)) (y := (Operand.tmp 44)) (vx := (.pointer (some ⟨u, 1, none⟩))) (vy := (.slice a8 n8 c8)) (w1 := (w8.setCell ⟨u, 1, none⟩ (.slice a8 n8 c8))) (by kernel_rfl) (by kernel_rfl) (by kernel_rfl) (by kernel_rfl) (by kernel_rfl) (by kernel_rfl) (by kernel_rfl) ?_ (hS9) (fun hHeld => ?_)
    · (clear hHeld hE hL hL2 hS8 hS9 hr8 h8; go_simp)
    refine Rg.done (ops := (Rg.opsOf Tryz.f67 6)) (by kernel_rfl) ?_
    exact ⟨w.heap.size, a8, n8, c8, w8, by kernel_rfl, rfl, h8⟩
  · refine Rg.op_bld (ops := (Rg.opsOf Tryz.f67 6)) 6 (some 43) (T := 74) (len := 1) (parts := #[(0, Operand.tmp 42)]) (vs := #[(0, (.agg #[.string key, .string val, .bool gone]))]) (v := (.slice (some ⟨w.heap.size, 0, none⟩) 1 1)) (w1 := w.drew.alloc (.cells #[.string key, .string val, .bool gone] 105)) (by kernel_rfl) (by kernel_rfl) (by kernel_rfl) (by kernel_rfl) (by kernel_rfl) ?_ (hS2) (fun hHeld => ?_)
    · (clear hHeld hE hL hL2; go_simp)
    refine Rg.one (ops := (Rg.opsOf Tryz.f67 6)) (i := 4) (by kernel_rfl) ?_
    refine Rg.op_load (ops := (Rg.opsOf Tryz.f67 6)) 4 (some 41) (T := 74) (x := (Operand.tmp 40)) (vx := (.pointer (some ⟨u, 1, none⟩))) (v := (.slice a n c)) (by kernel_rfl) (by kernel_rfl) (by kernel_rfl) (by kernel_rfl) (by kernel_rfl) ?_ hHeld ?_
    · (clear hHeld hE; go_simp)
    refine Rg.app1 (ops := (Rg.opsOf Tryz.f67 6)) 7 (some 44) (T := 74) (x := (Operand.tmp 41)) (y := (Operand.tmp 43)) (vx := (.slice a n c)) (vy := (.slice (some ⟨w.heap.size, 0, none⟩) 1 1)) (by kernel_rfl) (by kernel_rfl) (by kernel_rfl) (by kernel_rfl) (by kernel_rfl) (by kernel_rfl) (by kernel_rfl) ?_
    intro ty
    obtain ⟨a8, n8, c8, w8, hr8, hl8, hf8, hS8, hS9, h8⟩ := hE ty
    refine ⟨_, w8, hr8, hS8, fun hHeld => ?_⟩
    refine Rg.take (ops := (Rg.opsOf Tryz.f67 6)) 8 (some 45) ((.pointer (some ⟨u, 0, none⟩))) hNS (by kernel_rfl) (by kernel_rfl) (by kernel_rfl) (by kernel_rfl) (by kernel_rfl) hHeld (Rg.y_nil (x := (Operand.tmp 37)) (by kernel_rfl) (by kernel_rfl)) ?_
    refine Rg.take (ops := (Rg.opsOf Tryz.f67 6)) 9 (some 46) ((.pointer (some ⟨u, 1, none⟩))) hNS (by kernel_rfl) (by kernel_rfl) (by kernel_rfl) (by kernel_rfl) (by kernel_rfl) hHeld (Rg.y_field (T := 76) (k := 1) (x := (Operand.tmp 45)) (vx := (.pointer (some ⟨u, 0, none⟩))) (by kernel_rfl) (by kernel_rfl) ?_) ?_
    · (intro w hSw; clear hSw; go_simp)
    refine Rg.store (ops := (Rg.opsOf Tryz.f67 6)) 10 (T := 74) (x := (Operand.tmp 46)) (y := (Operand.tmp 44)) (vx := (.pointer (some ⟨u, 1, none⟩))) (vy := (.slice a8 n8 c8)) (w1 := (w8.setCell ⟨u, 1, none⟩ (.slice a8 n8 c8))) (by kernel_rfl) (by kernel_rfl) (by kernel_rfl) (by kernel_rfl) (by kernel_rfl) (by kernel_rfl) (by kernel_rfl) ?_ (hS9) (fun hHeld => ?_)
    · (clear hHeld hE hL hL2 hS8 hS9 hr8 h8; go_simp)
    refine Rg.done (ops := (Rg.opsOf Tryz.f67 6)) (by kernel_rfl) ?_
    exact ⟨w.heap.size, a8, n8, c8, w8, by kernel_rfl, rfl, h8⟩
end Go.Proofs.YtdkgkomjbpggeaaGreatDoor.Tb

namespace Go.Proofs.YtdkgkomjbpggeaaGreatDoor.Tb
open Go.RowKit Tx Pm Dk Wm Wr Wl Pl
set_option linter.unusedVariables false
set_option linter.unusedSimpArgs false
set_option linter.unnecessarySimpa false
theorem flat_set : ∀ (l : List Ch) (k : Nat) (x : Ch), k < l.length → (((l.flatMap cellsC).set (k * 3) (.string x.key)).set (k * 3 + 1) (.string x.val)).set (k * 3 + 1 + 1) (.bool x.gone) = (l.set k x).flatMap cellsC
  | [], k, x, h => by simp at h
  | y :: l, 0, x, h => by simp [cellsC]
  | y :: l, k + 1, x, h => by
    have ih := flat_set l k x (by simpa using h)
    rw [List.flatMap_cons, List.set_cons_succ, List.flatMap_cons, ← ih]
    have e1 : (k + 1) * 3 = k * 3 + 3 := by omega
    have e2 : (k + 1) * 3 + 1 = (k * 3 + 1) + 3 := by omega
    have e3 : (k + 1) * 3 + 1 + 1 = (k * 3 + 1 + 1) + 3 := by omega
    rw [e3, e2, e1]
    simp [cellsC]
theorem own_set3 {w : World} {g n cap : Nat} {l : List Ch} (h : w.ownsRow 0 105 3 (.slice (some ⟨g, 0, none⟩) n cap) n (l.flatMap cellsC)) {k : Nat} {y : Ch} (hk : l[k]? = some y) (x : Ch) :
    (w.cell? ⟨g, k * 3, none⟩ = some (.string y.key) ∧ w.frozen? ⟨g, k * 3, none⟩ = false) ∧ ((w.setCell ⟨g, k * 3, none⟩ (.string x.key)).cell? ⟨g, k * 3 + 1, none⟩ = some (.string y.val) ∧ (w.setCell ⟨g, k * 3, none⟩ (.string x.key)).frozen? ⟨g, k * 3 + 1, none⟩ = false) ∧
    (((w.setCell ⟨g, k * 3, none⟩ (.string x.key)).setCell ⟨g, k * 3 + 1, none⟩ (.string x.val)).cell? ⟨g, k * 3 + 1 + 1, none⟩ = some (.bool y.gone) ∧ ((w.setCell ⟨g, k * 3, none⟩ (.string x.key)).setCell ⟨g, k * 3 + 1, none⟩ (.string x.val)).frozen? ⟨g, k * 3 + 1 + 1, none⟩ = false) ∧
    (((w.setCell ⟨g, k * 3, none⟩ (.string x.key)).setCell ⟨g, k * 3 + 1, none⟩ (.string x.val)).setCell ⟨g, k * 3 + 1 + 1, none⟩ (.bool x.gone)).ownsRow 0 105 3 (.slice (some ⟨g, 0, none⟩) n cap) n ((l.set k x).flatMap cellsC) ∧
    Chg (· = g) w (((w.setCell ⟨g, k * 3, none⟩ (.string x.key)).setCell ⟨g, k * 3 + 1, none⟩ (.string x.val)).setCell ⟨g, k * 3 + 1 + 1, none⟩ (.bool x.gone)) := by
  obtain ⟨h1, _⟩ := h.stored (k * 3) (.string x.key)
  obtain ⟨h2, _⟩ := h1.stored (k * 3 + 1) (.string x.val)
  obtain ⟨h3, _⟩ := h2.stored (k * 3 + 1 + 1) (.bool x.gone)
  have hkl := (List.getElem?_eq_some_iff.1 hk).1
  have hc : ∀ j u, j < 3 → (cellsC y)[j]? = some u → (l.flatMap cellsC)[k * 3 + j]? = some u := fun j u hj hu => (flat_at cellsC 3 (fun _ => rfl) l k y j hk hj).trans hu
  have cell : ∀ {W : World} {xs : List Value} {j : Nat} {u : Value}, W.ownsRow 0 105 3 (.slice (some ⟨g, 0, none⟩) n cap) n xs → xs[j]? = some u → W.cell? ⟨g, j, none⟩ = some u := fun {W xs j u} hW hu => by
    have := hW.cells (g := g) rfl j u hu
    rwa [WideShapes.add_plain, Nat.zero_add] at this
  refine ⟨⟨cell h (hc 0 _ (by omega) rfl), h.frozenAt _⟩, ⟨cell h1 ?_, h1.frozenAt _⟩, ⟨cell h2 ?_, h2.frozenAt _⟩, ?_, ((chg_set (b := g) (k := k * 3) _).then (chg_set (b := g) (k := k * 3 + 1) _)).then (chg_set (b := g) (k := k * 3 + 1 + 1) _)⟩
  · rw [List.getElem?_set_ne (by omega)]
    exact hc 1 _ (by omega) rfl
  · rw [List.getElem?_set_ne (by omega), List.getElem?_set_ne (by omega)]
    exact hc 2 _ (by omega) rfl
  · rw [flat_set l k x hkl] at h3
    exact h3
theorem set_left {u pm g i n : Nat} {tp : Option Addr} {vO : Value} {w W Wf : World} {G : Nat → Prop} {l : List Ch} {c : Ch} (h : BAt u pm tp vO w G l) (hB : Below w.heap.size w W) (hset : Wf.ownsRow 0 105 3 vO n ((l.set i c).flatMap cellsC)) (hn : n = l.length)
    (hc : Chg (· = g) W Wf) (hg : vO.ownBlock = some g) (hat : at7 l c.key = some i) : LeftA (Bn u tp) w G (l.set i c) Wf := by
  have hW := h.below hB
  have hug : u ≠ g := fun e => h.ne (by rw [hg, e])
  have hpg : pm ≠ g := fun e => h.op (by rw [hg, e])
  have hon := once_bat h.once c
  rw [bat_set h.once hat] at hon
  refine LeftA.of ⟨pm, vO, ⟨(hc.block u (hW.lt u ((h.foot u).2 (.inl rfl))) hug).trans hW.blk, ?_, (hW.plc.same h.once hat).kept (hc.block pm hW.plc.lt hpg), h.ne, hon, h.foot⟩⟩ ((Chg.of_below hB).then (hc.mono (fun x hx => (h.foot x).2 (.inr (.inl (by rw [hg, hx]))))))
  unfold OwnC
  rw [List.length_set, ← hn]
  exact hset
theorem new_left {u pm n : Nat} {tp : Option Addr} {vO v' : Value} {w w3 w4 w6 : World} {G : Nat → Prop} {l : List Ch} {c : Ch} {o : Obj} (h : BAt u pm tp vO w G l) (hB : Below w.heap.size w w3) (hP : Pp w4 pm (l ++ [c])) (ht : w3.mapTurned w4 pm)
    (hO : w6.ownsRow 0 105 3 v' (n + 1) ((l ++ [c]).flatMap cellsC)) (hn : n = l.length) (hg : (v'.ownBlock = vO.ownBlock ∧ (w4.drew.alloc o).grownBy w6 vO.ownBlock) ∨ (v'.ownBlock = some (w4.drew.alloc o).heap.size ∧ (w4.drew.alloc o).grownBy w6 none)) (hat : at7 l c.key = none) :
    (w6.cell? ⟨u, 1, none⟩ = some vO ∧ w6.frozen? ⟨u, 1, none⟩ = false) ∧ LeftA (Bn u tp) w G (l ++ [c]) (w6.setCell ⟨u, 1, none⟩ v') := by
  have hW := h.below hB
  have hsz : w3.heap.size ≤ w4.heap.size := (turned_chg ht).size
  have hul : u < w3.heap.size := hW.lt u ((h.foot u).2 (.inl rfl))
  have hpl : pm < w3.heap.size := hW.plc.lt
  have hub : w4.heap[u]? = w3.heap[u]? := turned_block ht h.up
  have hon := once_bat h.once c
  rw [bat_new hat] at hon
  have hc4 : Chg (fun i => vO.ownBlock = some i) w4 w6 := by
    have h0 : Chg (fun i => vO.ownBlock = some i) w4 (w4.drew.alloc o) := Chg.of_below (((Below.refl w4.heap.size w4).drew).alloc (Nat.le_refl _) o)
    rcases hg with ⟨_, g1, g2, g3, g4, g5⟩ | ⟨_, g1, g2, g3, g4, g5⟩
    · exact h0.then ⟨g1, g2, g3, g4, fun i hi hn => g5 i hi (fun e => hn e.symm)⟩
    · exact h0.then ⟨g1, g2, g3, g4, fun i hi hn => g5 i hi (by simp)⟩
  have hblk : w6.heap[u]? = some (.cells #[.pointer tp, vO, .map (some pm)] 76 (0, 0)) := (hc4.block u (by omega) h.ne).trans (hub.trans hW.blk)
  have hv'u : ∀ i, v'.ownBlock = some i → vO.ownBlock = some i ∨ w4.heap.size ≤ i := fun i hi => by
    rcases hg with ⟨e, _⟩ | ⟨e, _⟩
    · exact .inl (by rw [← e]; exact hi)
    · rw [e] at hi
      injection hi with hi
      have : (w4.drew.alloc o).heap.size = w4.heap.size + 1 := by simp
      exact .inr (by omega)
  have hne : v'.ownBlock ≠ some u := fun e => by
    rcases hv'u u e with hh | hh
    · exact h.ne hh
    · omega
  have hchg : Chg G w (w6.setCell ⟨u, 1, none⟩ v') := ((((Chg.of_below hB).then ((turned_chg ht).mono (fun i hi => (h.foot i).2 (.inr (.inr hi))))).then (hc4.mono (fun i hi => (h.foot i).2 (.inr (.inl hi))))).then ((chg_set (b := u) (k := 1) v').mono (fun i hi => (h.foot i).2 (.inl hi))))
  refine ⟨⟨by unfold World.cell?; rw [hblk]; rfl, by unfold World.frozen?; rw [hblk]; simp⟩, fun i => i = u ∨ v'.ownBlock = some i ∨ i = pm, ⟨pm, v', ⟨by rw [set_block hblk]; rfl, ?_, ?_, hne, hon, fun i => Iff.rfl⟩⟩, hchg, ?_⟩
  · unfold OwnC
    rw [List.length_append, List.length_singleton, ← hn]
    exact own_kept hO (fun i hi => set_other v' (fun e => hne (e ▸ hi)))
  · exact (hP.kept (hc4.block pm (by omega) h.op)).kept (set_other v' (fun e => h.up e.symm))
  · rintro i (rfl | hi | rfl)
    · exact .inl ((h.foot _).2 (.inl rfl))
    · rcases hv'u i hi with hh | hh
      · exact .inl ((h.foot _).2 (.inr (.inl hh)))
      · have := hB.size
        have h2 := (Chg.of_below (F := G) hB).size
        exact .inr (by omega)
    · exact .inl ((h.foot _).2 (.inr (.inr rfl)))
theorem cells3_set {W : World} {x u k : Nat} {key val : ByteArray} {gone : Bool} (h : Cells3 x key val gone W) (hne : x ≠ u) (v : Value) : Cells3 x key val gone (W.setCell ⟨u, k, none⟩ v) := by
  have hb := set_other (w := W) (b := u) (k := k) v hne
  refine ⟨?_, ?_, ?_⟩
  · have := h.1; unfold World.cell? at this ⊢; rw [hb]; exact this
  · have := h.2.1; unfold World.cell? at this ⊢; rw [hb]; exact this
  · have := h.2.2; unfold World.cell? at this ⊢; rw [hb]; exact this
theorem app_change {u pm n cO : Nat} {tp aO : Option Addr} {vO : Value} {w w3 w4 : World} {G : Nat → Prop} {l : List Ch} {key val : ByteArray} {gone : Bool} (h : BAt u pm tp vO w G l) (hB : Below w.heap.size w w3) (hP : Pp w4 pm (l ++ [⟨key, val, gone⟩])) (ht : w3.mapTurned w4 pm)
    (hO : w4.ownsRow 0 105 3 vO n (l.flatMap cellsC)) (hv : vO = .slice aO n cO) (hn : n = l.length) (hat : at7 l key = none) (hnl : n < 1000000000) (hC : Cells3 w.heap.size key val gone (w4.drew.alloc (.cells #[.string key, .string val, .bool gone] 105))) :
    ∀ ty, ∃ a8 n8 c8 w8, (Builtin.append_ #[74, 74] ty #[.slice aO n cO, .slice (some ⟨w4.heap.size, 0, none⟩) 1 1]).run Tryz.prog (w4.drew.alloc (.cells #[.string key, .string val, .bool gone] 105)) = .ok (.slice a8 n8 c8) w8 ∧
      w8.cell? ⟨u, 1, none⟩ = some (.slice aO n cO) ∧ w8.frozen? ⟨u, 1, none⟩ = false ∧ Cells3 w.heap.size key val gone w8 ∧ Cells3 w.heap.size key val gone (w8.setCell ⟨u, 1, none⟩ (.slice a8 n8 c8)) ∧ LeftA (Bn u tp) w G (l ++ [⟨key, val, gone⟩]) (w8.setCell ⟨u, 1, none⟩ (.slice a8 n8 c8)) := by
  intro ty
  obtain ⟨i0, hi, hz0, hz1, hz2⟩ := info_parts infoC
  have hO5 : (w4.drew.alloc (.cells #[.string key, .string val, .bool gone] 105)).ownsRow 0 105 3 vO n (l.flatMap cellsC) := row_below (w := w4) hO (((Below.refl w4.heap.size w4).drew).alloc (Nat.le_refl _) _)
  obtain ⟨v', w', hr, h1, h2⟩ := Ap.append_two (P := Tryz.prog) _ 0 74 ty 105 i0 (ov ch0) 3 40 Tryz.underlying74 hi hz0 hz1 hz2 rfl (by decide) (by decide) vO n (l.flatMap cellsC) hO5 ⟨w4.heap.size, 0, none⟩ 1 (cellsC ⟨key, val, gone⟩) rfl
    (new3 w4.drew ⟨key, val, gone⟩ (by simp)) (cells_one ⟨key, val, gone⟩) (by omega) (by omega) (Nat.zero_le _)
  have e : l.flatMap cellsC ++ cellsC ⟨key, val, gone⟩ = (l ++ [(⟨key, val, gone⟩ : Ch)]).flatMap cellsC := by rw [List.flatMap_append]; rfl
  rw [e] at h1
  obtain ⟨⟨k1, k2⟩, hfin⟩ := new_left h hB hP ht h1 hn h2 hat
  obtain ⟨a8, c8, rfl⟩ : ∃ a8 c8, v' = .slice a8 (n + 1) c8 := by
    rcases h1.2 with ⟨hv, h0⟩ | ⟨g, cap, cur, hv, _⟩
    · omega
    · exact ⟨_, _, hv⟩
  have hul : u < w.heap.size := h.lt u ((h.foot u).2 (.inl rfl))
  have hC8 : Cells3 w.heap.size key val gone w' := by
    rcases h2 with ⟨_, hg⟩ | ⟨_, hg⟩
    · exact cells3_grown hC hg (fun e => by have := (h.ops.lt _ e.symm).2; omega)
    · exact cells3_grown hC hg (by simp)
  rw [hv] at hr k1
  exact ⟨a8, n + 1, c8, w', hr, k1, k2, hC8, cells3_set hC8 (by omega) _, hfin⟩
set_option maxRecDepth 100000 in
set_option maxHeartbeats 4000000 in
theorem change_any (u pm : Nat) (tp : Option Addr) (vO : Value) {G : Nat → Prop} {l : List Ch} (c : Ch) (w : World) (h : BAt u pm tp vO w G l) (hk : c.key.size ≤ 1000000000000) (hl : l.length < 1000000000) :
    Calls Tryz.prog 67 #[.pointer (some ⟨u, 0, none⟩), ov c] w fun e w' => e = .returned (.tuple #[]) ∧ LeftA (Bn u tp) w G (bat l c) w' := by
  obtain ⟨c0, c1, c2⟩ := h.cell
  have hB1 : Below w.heap.size w (w.alloc (.cells #[.string c.key, .string c.val, .bool c.gone] 105)).drew := ((Below.refl _ w).alloc (Nat.le_refl _) _).drew
  have hlk := (h.plc.kept (hB1.block pm h.plc.lt)).look (p := c.key) (by unfold maxLen; omega)
  obtain ⟨aO, cO, hvO, hO1, hO2, hO3⟩ := h.ops.form
  obtain ⟨n, hn⟩ : ∃ n, n = l.length := ⟨_, rfl⟩
  rw [← hn] at hvO hO1 hO2
  cases hat : at7 l c.key with
  | some i =>
    obtain ⟨y, hy, hyk, hin⟩ := at7_lt hat
    rw [bat_set h.once hat]
    have hpv : placeV l c.key = .tuple #[.int .i64 i, .bool true] := by unfold placeV; rw [hat]
    rw [hpv] at hlk
    obtain ⟨hO0, hne⟩ := hO1
    have hown := h.ops
    unfold OwnC at hown
    rw [hvO, ← hn] at hown
    obtain ⟨g, rfl⟩ : ∃ g, aO = some ⟨g, 0, none⟩ := by
      rcases hown.2 with ⟨_, h0⟩ | ⟨g, cap, cur, hv, _⟩
      · omega
      · injection hv with hv; exact ⟨g, hv⟩
    have hB2 : Below w.heap.size w (w.alloc (.cells #[.string c.key, .string c.val, .bool c.gone] 105)).drew.drew := hB1.drew
    obtain ⟨_, _, _, hset, hcs⟩ := own_set3 (row_below hown hB2) hy c
    have c0' := (hB1.cell (p := ⟨u, 0, none⟩) (World.block_lt_of_cell? w _ c0)).trans c0
    have c1' := (hB1.cell (p := ⟨u, 1, none⟩) (World.block_lt_of_cell? w _ c1)).trans c1
    have c2' := (hB1.cell (p := ⟨u, 2, none⟩) (World.block_lt_of_cell? w _ c2)).trans c2
    have c1'' := (hB2.cell (p := ⟨u, 1, none⟩) (World.block_lt_of_cell? w _ c1)).trans c1
    rw [hvO] at c1 c1' c1''
    have hul : u < w.heap.size := World.block_lt_of_cell? w _ c1
    have hul2 : u ≠ w.heap.size := by omega
    have d1 : (w.alloc (.cells #[.string c.key, .string c.val, .bool c.gone] 105)).cell? ⟨u, 1, none⟩ = some (.slice (some ⟨g, 0, none⟩) n cO) := c1'
    have hiz : (i : Int) < (n : Int) := by omega
    have hsz2 : w.heap.size < (w.alloc (.cells #[.string c.key, .string c.val, .bool c.gone] 105)).heap.size := by simp
    have e0 : (w.alloc (.cells #[.string c.key, .string c.val, .bool c.gone] 105)).drew.cell? ⟨w.heap.size, 0, none⟩ = some (.string c.key) := (cells3_new w c _).1
    have e1 : (w.alloc (.cells #[.string c.key, .string c.val, .bool c.gone] 105)).drew.cell? ⟨w.heap.size, 1, none⟩ = some (.string c.val) := (cells3_new w c _).2.1
    have e2 : (w.alloc (.cells #[.string c.key, .string c.val, .bool c.gone] 105)).drew.cell? ⟨w.heap.size, 2, none⟩ = some (.bool c.gone) := (cells3_new w c _).2.2
    have HS := Lib.hid hset
    have HC := Lib.hid hcs
    have HH := Lib.hid h
    have hownW := row_below hown hB1
    obtain ⟨⟨a0, b0⟩, _, _, _, _⟩ := own_set3 hownW hy c
    have hcW : ∀ j v, (l.flatMap cellsC)[j]? = some v → (w.alloc (.cells #[.string c.key, .string c.val, .bool c.gone] 105)).drew.cell? ⟨g, j, none⟩ = some v := fun j v hv => by
      have := hownW.cells (g := g) rfl j v hv
      rwa [WideShapes.add_plain, Nat.zero_add] at this
    have a1 := hcW (i * 3 + 1) (.string y.val) ((flat_at cellsC 3 (fun _ => rfl) l i y 1 hy (by omega)).trans rfl)
    have a2 := hcW (i * 3 + 1 + 1) (.bool y.gone) ((flat_at cellsC 3 (fun _ => rfl) l i y 2 hy (by omega)).trans rfl)
    have b1 := hownW.frozenAt (i * 3 + 1)
    have b2 := hownW.frozenAt (i * 3 + 1 + 1)
    obtain ⟨key, val, gone⟩ := c
    simp only [ov] at hlk c0' c1' c1'' d1 c2' a0 a1 a2 b0 b1 b2 HS HC e0 e1 e2 ⊢
    have HN := Lib.hid hn
    have HV := Lib.hid hvO
    have HB2 := Lib.hid hB2
    have HAT := Lib.hid hat
    clear hset hcs h hy hat hpv hown hne hO3 hin hB1 hB2 hn hvO hyk hO0 hsz2 hownW hcW
    go_enter Tryz.func67, Tryz.ntmps67
    go_wp2_with fail
    go_region
    go_wp2_with fail
    clear hlk c0' c2' d1
    generalize (w.alloc (.cells #[.string key, .string val, .bool gone] 105)).drew = W2 at c1' c1'' a0 a1 a2 b0 b1 b2 HS HC e0 e1 e2 HB2 ⊢
    go_region
    all_goals
      go_wp2_with fail
      (try simp only [Exit.inBlock, Exit.then])
      refine bodyPost_ret (results_none rfl _ _ _) rfl ?_
      exact ⟨rfl, set_left (g := g) HH.out HB2.out (by rw [HV.out]; exact HS.out) HN.out HC.out (by rw [HV.out]; rfl) HAT.out⟩
  | none =>
    rw [bat_new hat]
    have hpv : placeV l c.key = .tuple #[.int .i64 0, .bool false] := by unfold placeV; rw [hat]
    rw [hpv] at hlk
    have hB2 : Below w.heap.size w (w.alloc (.cells #[.string c.key, .string c.val, .bool c.gone] 105)).drew.drew := hB1.drew
    obtain ⟨w4, hrun, hP4, hturn⟩ := (h.plc.kept (hB2.block pm h.plc.lt)).store h.once hat (by unfold maxLen; omega) (by omega)
    rw [← hn] at hrun
    have hul : u < w.heap.size := World.block_lt_of_cell? w _ c1
    have hx4 : w4.heap[w.heap.size]? = some (.cells #[.string c.key, .string c.val, .bool c.gone] 105) := (turned_block hturn (fun e => by have := h.plc.lt; omega)).trans (heap_alloc_new w _)
    have e0 : w4.cell? ⟨w.heap.size, 0, none⟩ = some (.string c.key) ∧ w4.cell? ⟨w.heap.size, 1, none⟩ = some (.string c.val) ∧ w4.cell? ⟨w.heap.size, 2, none⟩ = some (.bool c.gone) := by
      refine ⟨?_, ?_, ?_⟩ <;> · unfold World.cell?; rw [hx4]; rfl
    obtain ⟨e0, e1, e2⟩ := e0
    have hu4 : w4.cell? ⟨u, 1, none⟩ = some vO := by
      have hb := (turned_block hturn h.up).trans ((hB2.block u hul).trans h.blk)
      unfold World.cell?
      rw [hb]
      rfl
    have hO4 : w4.ownsRow 0 105 3 vO n (l.flatMap cellsC) := by
      have := h.ops
      unfold OwnC at this
      rw [← hn] at this
      exact own_chg (row_below this hB2) (turned_chg hturn) (fun g hg e => h.op (by rw [hg, e]))
    have c1' := (hB1.cell (p := ⟨u, 1, none⟩) (World.block_lt_of_cell? w _ c1)).trans c1
    have c2' := (hB1.cell (p := ⟨u, 2, none⟩) (World.block_lt_of_cell? w _ c2)).trans c2
    have f0 : (w.alloc (.cells #[.string c.key, .string c.val, .bool c.gone] 105)).drew.cell? ⟨w.heap.size, 0, none⟩ = some (.string c.key) := (cells3_new w c _).1
    rw [hvO] at c1 c1' hu4
    have HN := Lib.hid hn
    have HV := Lib.hid hvO
    have HB2 := Lib.hid hB2
    have HAT := Lib.hid hat
    have HP4 := Lib.hid hP4
    have HT := Lib.hid hturn
    have HO4 := Lib.hid hO4
    have HH := Lib.hid h
    have hnl : n < 1000000000 := by omega
    obtain ⟨i0, hi, hz0, hz1, hz2⟩ := info_parts infoC
    obtain ⟨key, val, gone⟩ := c
    simp only [ov] at hlk hrun c1' c2' e0 e1 e2 f0 HB2 HAT HP4 HT ⊢
    clear hB1 hB2 hat hP4 hturn hO4 h hn hvO hpv hx4 hO1 hO3 hl
    go_enter Tryz.func67, Tryz.ntmps67
    go_wp2_with fail
    go_region
    go_wp2_with fail
    clear hlk
    generalize (w.alloc (.cells #[.string key, .string val, .bool gone] 105)).drew = W2 at c1' c2' f0 hrun HB2 HT ⊢
    go_region
    go_wp2_with fail
    have hC4 : Cells3 w.heap.size key val gone w4 := ⟨e0, e1, e2⟩
    have hsz4 : w.heap.size < w4.heap.size := World.block_lt_of_cell? w4 _ e0
    have hC5 : Cells3 w.heap.size key val gone (w4.drew.alloc (.cells #[.string key, .string val, .bool gone] 105)) := cells3_alloc (W := w4.drew) hC4 hsz4 _
    have hu5 : (w4.alloc (.cells #[.string key, .string val, .bool gone] 105)).cell? ⟨u, 1, none⟩ = some (.slice aO n cO) := (((Below.refl w4.heap.size w4).alloc (Nat.le_refl _) _).cell (p := ⟨u, 1, none⟩) (by show u < _; omega)).trans hu4
    have hE := app_change (aO := aO) (cO := cO) HH.out HB2.out HP4.out HT.out HO4.out HV.out HN.out HAT.out hnl hC5
    refine Rg.wp_only ?_ (chgNew _ (by kernel_rfl) _ u w.heap.size n cO aO key val gone w4 (fun v W => LeftA (Bn u tp) w G (l ++ [⟨key, val, gone⟩]) (W.setCell ⟨u, 1, none⟩ v)) hC4 hu4 hu5 hC5 hE)
    rintro _ w9 ⟨z8, a8, n8, c8, w8, rfl, rfl, hfin⟩
    clear hE hC5 hu5 hC4
    go_wp2_with fail
    go_end0
    exact ⟨rfl, hfin⟩
theorem bPut_any (u pm : Nat) (tp : Option Addr) (vO : Value) {G : Nat → Prop} {l : List Ch} (key val : ByteArray) (w : World) (h : BAt u pm tp vO w G l) (hk : key.size ≤ 1000000000000) (hl : l.length < 1000000000) :
    Calls Tryz.prog 32 #[.pointer (some ⟨u, 0, none⟩), .string key, .string val] w fun e w' => e = .returned (.tuple #[]) ∧ LeftA (Bn u tp) w G (bat l ⟨key, val, false⟩) w' := by
  have c := change_any u pm tp vO ⟨key, val, false⟩ w h hk hl
  simp only [ov] at c
  clear h
  go_enter Tryz.func32, Tryz.ntmps32
  go_wp2_with fail
  go_at_call 67
  refine c.mono ?_
  rintro e w1 ⟨rfl, h1⟩
  go_wp2_with fail
  go_end0
  exact ⟨rfl, h1⟩
theorem bDrop_any (u pm : Nat) (tp : Option Addr) (vO : Value) {G : Nat → Prop} {l : List Ch} (key : ByteArray) (w : World) (h : BAt u pm tp vO w G l) (hk : key.size ≤ 1000000000000) (hl : l.length < 1000000000) :
    Calls Tryz.prog 43 #[.pointer (some ⟨u, 0, none⟩), .string key] w fun e w' => e = .returned (.tuple #[]) ∧ LeftA (Bn u tp) w G (bat l ⟨key, ⟨#[]⟩, true⟩) w' := by
  have c := change_any u pm tp vO ⟨key, ⟨#[]⟩, true⟩ w h hk hl
  simp only [ov] at c
  clear h
  go_enter Tryz.func43, Tryz.ntmps43
  go_wp2_with fail
  go_at_call 67
  refine c.mono ?_
  rintro e w1 ⟨rfl, h1⟩
  go_wp2_with fail
  go_end0
  exact ⟨rfl, h1⟩
end Go.Proofs.YtdkgkomjbpggeaaGreatDoor.Tb

namespace Go.Proofs.YtdkgkomjbpggeaaGreatDoor.Tb
open Go.RowKit
set_option linter.unusedVariables false
set_option linter.unusedSimpArgs false
set_option linter.unnecessarySimpa false
def TwoT (t b : Nat) (p : ByteArray) (W : World) : Prop := W.cell? ⟨t, 0, none⟩ = some (.pointer (some ⟨b, 0, none⟩)) ∧ W.cell? ⟨t, 1, none⟩ = some (.string p)
def TwoC (t j u n c : Nat) (a : Option Addr) (W : World) : Prop := W.cell? ⟨t, 2, none⟩ = some (.pointer (some ⟨j, 0, none⟩)) ∧ W.cell? ⟨u, 1, none⟩ = some (.slice a n c)
set_option maxRecDepth 100000 in
set_option maxHeartbeats 4000000 in
theorem packReg (ops : Array Oper) (hops : ops = (Rg.opsOf Tryz.f50 3)) (id : Nat) (t b k : Nat) (p r f : ByteArray) {u1 u2 u3 u4 u5 u6 u7 u8 u9 u10 u11 u12 u13 u14 u15 u16 u17 u18 u19 u20 u21 u22 u23 u24 u25 u26 : Value} (w : World)
    (B1 : Option Addr → Nat → Nat → World → Prop) (B2 B3 B4 : World → Prop) (hS : TwoT t b p w)
    (hA : Calls Tryz.prog 85 #[.pointer (some ⟨t, 0, none⟩)] w.drew fun e w' => ∃ a n c, e = .returned (.slice a n c) ∧ B1 a n c w') (hAS : ∀ a n c W, B1 a n c W → TwoT t b p W)
    (hB : ∀ a n c W, B1 a n c W → Calls Tryz.prog 47 #[.slice a n c] W fun e w' => e = .returned (.string r) ∧ B2 w') (hBS : ∀ W, B2 W → TwoT t b p W)
    (hC : ∀ W, B2 W → Calls Tryz.prog 34 #[.string r] W fun e w' => e = .returned (.string f) ∧ B3 w') (hCS : ∀ W, B3 W → TwoT t b p W)
    (hD : ∀ W, B3 W → Calls Tryz.prog 84 #[.pointer (some ⟨b, 0, none⟩), .string p, .string f] W fun e w' => e = .returned (.int .i64 (k : Nat)) ∧ B4 w') (hDS : ∀ W, B4 W → TwoT t b p W) :
    (Code.region id ops true).wp Tryz.prog (Rg.Only fun a' w' => ∃ (a5 : Option Addr) (n5 c5 : Nat), a' = ⟨#[(.pointer (some ⟨t, 0, none⟩)), u1, u2, (.int .i64 (k : Nat)), u4, u5, (.pointer (some ⟨t, 0, none⟩)), (.pointer (some ⟨t, 0, none⟩)), (.pointer (some ⟨t, 0, none⟩)), (.pointer (some ⟨b, 0, none⟩)), (.pointer (some ⟨t, 0, none⟩)), (.pointer (some ⟨t, 0, none⟩)), (.pointer (some ⟨t, 1, none⟩)), (.string p), (.pointer (some ⟨t, 0, none⟩)), (.slice a5 n5 c5), (.string r), (.string f), (.int .i64 (k : Nat)), u19, u20, u21, u22, u23, u24, u25, u26], []⟩ ∧ B4 w') ⟨#[(.pointer (some ⟨t, 0, none⟩)), u1, u2, u3, u4, u5, u6, u7, u8, u9, u10, u11, u12, u13, u14, u15, u16, u17, u18, u19, u20, u21, u22, u23, u24, u25, u26], []⟩ w := by
  subst hops
  have hNS : Region.noSelect (Rg.opsOf Tryz.f50 3) = true := by kernel_rfl
  refine wp_region_held_drew (S := TwoT t b p) (by kernel_rfl) hS (fun hHeld => ?_)
  rw [show (Rg.opsOf Tryz.f50 3).size = 14 by kernel_rfl]
  refine Rg.take (ops := (Rg.opsOf Tryz.f50 3)) 0 (some 6) ((.pointer (some ⟨t, 0, none⟩))) hNS (by kernel_rfl) (by kernel_rfl) (by kernel_rfl) (by kernel_rfl) (by kernel_rfl) hHeld (Rg.y_move (x := (Operand.tmp 0)) (Or.inl (by kernel_rfl)) (by kernel_rfl)) ?_
  refine Rg.take (ops := (Rg.opsOf Tryz.f50 3)) 1 (some 7) ((.pointer (some ⟨t, 0, none⟩))) hNS (by kernel_rfl) (by kernel_rfl) (by kernel_rfl) (by kernel_rfl) (by kernel_rfl) hHeld (Rg.y_nil (x := (Operand.tmp 6)) (by kernel_rfl) (by kernel_rfl)) ?_
  refine Rg.take (ops := (Rg.opsOf Tryz.f50 3)) 2 (some 8) ((.pointer (some ⟨t, 0, none⟩))) hNS (by kernel_rfl) (by kernel_rfl) (by kernel_rfl) (by kernel_rfl) (by kernel_rfl) hHeld (Rg.y_field (T := 69) (k := 0) (x := (Operand.tmp 7)) (vx := (.pointer (some ⟨t, 0, none⟩))) (by kernel_rfl) (by kernel_rfl) ?_) ?_
  · (intro w hSw; clear hSw; go_simp)
  refine Rg.take (ops := (Rg.opsOf Tryz.f50 3)) 3 (some 9) ((.pointer (some ⟨b, 0, none⟩))) hNS (by kernel_rfl) (by kernel_rfl) (by kernel_rfl) (by kernel_rfl) (by kernel_rfl) hHeld (Rg.y_load (T := 23) (x := (Operand.tmp 8)) (vx := (.pointer (some ⟨t, 0, none⟩))) (by kernel_rfl) (by kernel_rfl) ?_) ?_
  · (intro w hSw; obtain ⟨s0, s1⟩ := hSw; go_simp)
  refine Rg.take (ops := (Rg.opsOf Tryz.f50 3)) 4 (some 10) ((.pointer (some ⟨t, 0, none⟩))) hNS (by kernel_rfl) (by kernel_rfl) (by kernel_rfl) (by kernel_rfl) (by kernel_rfl) hHeld (Rg.y_move (x := (Operand.tmp 0)) (Or.inl (by kernel_rfl)) (by kernel_rfl)) ?_
  refine Rg.take (ops := (Rg.opsOf Tryz.f50 3)) 5 (some 11) ((.pointer (some ⟨t, 0, none⟩))) hNS (by kernel_rfl) (by kernel_rfl) (by kernel_rfl) (by kernel_rfl) (by kernel_rfl) hHeld (Rg.y_nil (x := (Operand.tmp 10)) (by kernel_rfl) (by kernel_rfl)) ?_
  refine Rg.take (ops := (Rg.opsOf Tryz.f50 3)) 6 (some 12) ((.pointer (some ⟨t, 1, none⟩))) hNS (by kernel_rfl) (by kernel_rfl) (by kernel_rfl) (by kernel_rfl) (by kernel_rfl) hHeld (Rg.y_field (T := 69) (k := 1) (x := (Operand.tmp 11)) (vx := (.pointer (some ⟨t, 0, none⟩))) (by kernel_rfl) (by kernel_rfl) ?_) ?_
  · (intro w hSw; clear hSw; go_simp)
  refine Rg.take (ops := (Rg.opsOf Tryz.f50 3)) 7 (some 13) ((.string p)) hNS (by kernel_rfl) (by kernel_rfl) (by kernel_rfl) (by kernel_rfl) (by kernel_rfl) hHeld (Rg.y_load (T := 9) (x := (Operand.tmp 12)) (vx := (.pointer (some ⟨t, 1, none⟩))) (by kernel_rfl) (by kernel_rfl) ?_) ?_
  · (intro w hSw; obtain ⟨s0, s1⟩ := hSw; go_simp)
  refine Rg.take (ops := (Rg.opsOf Tryz.f50 3)) 8 (some 14) ((.pointer (some ⟨t, 0, none⟩))) hNS (by kernel_rfl) (by kernel_rfl) (by kernel_rfl) (by kernel_rfl) (by kernel_rfl) hHeld (Rg.y_move (x := (Operand.tmp 0)) (Or.inl (by kernel_rfl)) (by kernel_rfl)) ?_
  refine Rg.call (ops := (Rg.opsOf Tryz.f50 3)) (fn := Tryz.f85) (xs := #[Operand.tmp 14]) (ats := #[25]) 9 (some 15) 85 #[(.pointer (some ⟨t, 0, none⟩))] (by kernel_rfl) (by kernel_rfl) (by kernel_rfl) (by kernel_rfl) (by kernel_rfl) Tryz.func85 (by kernel_rfl) (by kernel_rfl) (by kernel_rfl) ?_
  refine hA.mono ?_
  rintro e w5 ⟨a5, n5, c5, rfl, h5⟩
  refine ⟨_, rfl, hAS _ _ _ _ h5, fun hHeld => ?_⟩
  refine Rg.call (ops := (Rg.opsOf Tryz.f50 3)) (fn := Tryz.f47) (xs := #[Operand.tmp 15]) (ats := #[74]) 10 (some 16) 47 #[(.slice a5 n5 c5)] (by kernel_rfl) (by kernel_rfl) (by kernel_rfl) (by kernel_rfl) (by kernel_rfl) Tryz.func47 (by kernel_rfl) (by kernel_rfl) (by kernel_rfl) ?_
  refine (hB _ _ _ _ h5).mono ?_
  rintro e w6 ⟨rfl, h6⟩
  refine ⟨_, rfl, hBS _ h6, fun hHeld => ?_⟩
  refine Rg.call (ops := (Rg.opsOf Tryz.f50 3)) (fn := Tryz.f34) (xs := #[Operand.tmp 16]) (ats := #[9]) 11 (some 17) 34 #[(.string r)] (by kernel_rfl) (by kernel_rfl) (by kernel_rfl) (by kernel_rfl) (by kernel_rfl) Tryz.func34 (by kernel_rfl) (by kernel_rfl) (by kernel_rfl) ?_
  refine (hC _ h6).mono ?_
  rintro e w7 ⟨rfl, h7⟩
  refine ⟨_, rfl, hCS _ h7, fun hHeld => ?_⟩
  refine Rg.call (ops := (Rg.opsOf Tryz.f50 3)) (fn := Tryz.f84) (xs := #[Operand.tmp 9, Operand.tmp 13, Operand.tmp 17]) (ats := #[23, 9, 9]) 12 (some 18) 84 #[(.pointer (some ⟨b, 0, none⟩)), (.string p), (.string f)] (by kernel_rfl) (by kernel_rfl) (by kernel_rfl) (by kernel_rfl) (by kernel_rfl) Tryz.func84 (by kernel_rfl) (by kernel_rfl) (by kernel_rfl) ?_
  refine (hD _ h7).mono ?_
  rintro e w8 ⟨rfl, h8⟩
  refine ⟨_, rfl, hDS _ h8, fun hHeld => ?_⟩
  refine Rg.take (ops := (Rg.opsOf Tryz.f50 3)) 13 (some 3) ((.int .i64 (k : Nat))) hNS (by kernel_rfl) (by kernel_rfl) (by kernel_rfl) (by kernel_rfl) (by kernel_rfl) hHeld (Rg.y_move (x := (Operand.tmp 18)) (Or.inr (by kernel_rfl)) (by kernel_rfl)) ?_
  refine Rg.done (ops := (Rg.opsOf Tryz.f50 3)) (by kernel_rfl) ?_
  exact ⟨a5, n5, c5, by kernel_rfl, h8⟩
set_option maxRecDepth 100000 in
set_option maxHeartbeats 4000000 in
theorem commitReg (ops : Array Oper) (hops : ops = (Rg.opsOf Tryz.f18 6)) (id : Nat) (t j u n c k : Nat) (a : Option Addr) (r : ByteArray) {u1 u2 u4 u5 u6 u7 u8 u9 u10 u11 u12 u13 u14 u15 u16 u17 u18 u19 u20 u21 u22 u23 u24 u25 u26 u27 u28 u29 u30 u31 u32 u33 u34 u35 u36 u37 u38 u39 u40 u41 u42 u43 u44 u45 u46 u47 u48 u49 u50 u51 u52 u53 u54 u55 u56 u57 u58 : Value} (w : World)
    (B1 B2 : World → Prop) (hS : TwoC t j u n c a w)
    (hA : Calls Tryz.prog 47 #[.slice a n c] w.drew fun e w' => e = .returned (.string r) ∧ B1 w') (hAS : ∀ W, B1 W → TwoC t j u n c a W)
    (hB : ∀ W, B1 W → Calls Tryz.prog 46 #[.pointer (some ⟨j, 0, none⟩), .string r] W fun e w' => e = .returned (.int .i64 (k : Nat)) ∧ B2 w') (hBS : ∀ W, B2 W → TwoC t j u n c a W) :
    (Code.region id ops true).wp Tryz.prog (Rg.Only fun a' w' => a' = ⟨#[(.pointer (some ⟨u, 0, none⟩)), u1, u2, (.pointer (some ⟨t, 0, none⟩)), (.int .i64 (k : Nat)), u5, u6, u7, u8, u9, u10, u11, u12, u13, u14, u15, u16, u17, u18, u19, u20, u21, u22, u23, (.pointer (some ⟨t, 0, none⟩)), (.pointer (some ⟨t, 0, none⟩)), (.pointer (some ⟨t, 2, none⟩)), (.pointer (some ⟨j, 0, none⟩)), (.pointer (some ⟨u, 0, none⟩)), (.pointer (some ⟨u, 0, none⟩)), (.pointer (some ⟨u, 1, none⟩)), (.slice a n c), (.string r), (.int .i64 (k : Nat)), u34, u35, u36, u37, u38, u39, u40, u41, u42, u43, u44, u45, u46, u47, u48, u49, u50, u51, u52, u53, u54, u55, u56, u57, u58], []⟩ ∧ B2 w') ⟨#[(.pointer (some ⟨u, 0, none⟩)), u1, u2, (.pointer (some ⟨t, 0, none⟩)), u4, u5, u6, u7, u8, u9, u10, u11, u12, u13, u14, u15, u16, u17, u18, u19, u20, u21, u22, u23, u24, u25, u26, u27, u28, u29, u30, u31, u32, u33, u34, u35, u36, u37, u38, u39, u40, u41, u42, u43, u44, u45, u46, u47, u48, u49, u50, u51, u52, u53, u54, u55, u56, u57, u58], []⟩ w := by
  subst hops
  have hNS : Region.noSelect (Rg.opsOf Tryz.f18 6) = true := by kernel_rfl
  refine wp_region_held_drew (S := TwoC t j u n c a) (by kernel_rfl) hS (fun hHeld => ?_)
  rw [show (Rg.opsOf Tryz.f18 6).size = 11 by kernel_rfl]
  refine Rg.take (ops := (Rg.opsOf Tryz.f18 6)) 0 (some 24) ((.pointer (some ⟨t, 0, none⟩))) hNS (by kernel_rfl) (by kernel_rfl) (by kernel_rfl) (by kernel_rfl) (by kernel_rfl) hHeld (Rg.y_move (x := (Operand.tmp 3)) (Or.inl (by kernel_rfl)) (by kernel_rfl)) ?_
  refine Rg.take (ops := (Rg.opsOf Tryz.f18 6)) 1 (some 25) ((.pointer (some ⟨t, 0, none⟩))) hNS (by kernel_rfl) (by kernel_rfl) (by kernel_rfl) (by kernel_rfl) (by kernel_rfl) hHeld (Rg.y_nil (x := (Operand.tmp 24)) (by kernel_rfl) (by kernel_rfl)) ?_
  refine Rg.take (ops := (Rg.opsOf Tryz.f18 6)) 2 (some 26) ((.pointer (some ⟨t, 2, none⟩))) hNS (by kernel_rfl) (by kernel_rfl) (by kernel_rfl) (by kernel_rfl) (by kernel_rfl) hHeld (Rg.y_field (T := 69) (k := 2) (x := (Operand.tmp 25)) (vx := (.pointer (some ⟨t, 0, none⟩))) (by kernel_rfl) (by kernel_rfl) ?_) ?_
  · (intro w hSw; clear hSw; go_simp)
  refine Rg.take (ops := (Rg.opsOf Tryz.f18 6)) 3 (some 27) ((.pointer (some ⟨j, 0, none⟩))) hNS (by kernel_rfl) (by kernel_rfl) (by kernel_rfl) (by kernel_rfl) (by kernel_rfl) hHeld (Rg.y_load (T := 67) (x := (Operand.tmp 26)) (vx := (.pointer (some ⟨t, 2, none⟩))) (by kernel_rfl) (by kernel_rfl) ?_) ?_
  · (intro w hSw; obtain ⟨s0, s1⟩ := hSw; go_simp)
  refine Rg.take (ops := (Rg.opsOf Tryz.f18 6)) 4 (some 28) ((.pointer (some ⟨u, 0, none⟩))) hNS (by kernel_rfl) (by kernel_rfl) (by kernel_rfl) (by kernel_rfl) (by kernel_rfl) hHeld (Rg.y_move (x := (Operand.tmp 0)) (Or.inl (by kernel_rfl)) (by kernel_rfl)) ?_
  refine Rg.take (ops := (Rg.opsOf Tryz.f18 6)) 5 (some 29) ((.pointer (some ⟨u, 0, none⟩))) hNS (by kernel_rfl) (by kernel_rfl) (by kernel_rfl) (by kernel_rfl) (by kernel_rfl) hHeld (Rg.y_nil (x := (Operand.tmp 28)) (by kernel_rfl) (by kernel_rfl)) ?_
  refine Rg.take (ops := (Rg.opsOf Tryz.f18 6)) 6 (some 30) ((.pointer (some ⟨u, 1, none⟩))) hNS (by kernel_rfl) (by kernel_rfl) (by kernel_rfl) (by kernel_rfl) (by kernel_rfl) hHeld (Rg.y_field (T := 76) (k := 1) (x := (Operand.tmp 29)) (vx := (.pointer (some ⟨u, 0, none⟩))) (by kernel_rfl) (by kernel_rfl) ?_) ?_
  · (intro w hSw; clear hSw; go_simp)
  refine Rg.take (ops := (Rg.opsOf Tryz.f18 6)) 7 (some 31) ((.slice a n c)) hNS (by kernel_rfl) (by kernel_rfl) (by kernel_rfl) (by kernel_rfl) (by kernel_rfl) hHeld (Rg.y_load (T := 74) (x := (Operand.tmp 30)) (vx := (.pointer (some ⟨u, 1, none⟩))) (by kernel_rfl) (by kernel_rfl) ?_) ?_
  · (intro w hSw; obtain ⟨s0, s1⟩ := hSw; go_simp)
  refine Rg.call (ops := (Rg.opsOf Tryz.f18 6)) (fn := Tryz.f47) (xs := #[Operand.tmp 31]) (ats := #[74]) 8 (some 32) 47 #[(.slice a n c)] (by kernel_rfl) (by kernel_rfl) (by kernel_rfl) (by kernel_rfl) (by kernel_rfl) Tryz.func47 (by kernel_rfl) (by kernel_rfl) (by kernel_rfl) ?_
  refine hA.mono ?_
  rintro e w6 ⟨rfl, h6⟩
  refine ⟨_, rfl, hAS _ h6, fun hHeld => ?_⟩
  refine Rg.call (ops := (Rg.opsOf Tryz.f18 6)) (fn := Tryz.f46) (xs := #[Operand.tmp 27, Operand.tmp 32]) (ats := #[67, 9]) 9 (some 33) 46 #[(.pointer (some ⟨j, 0, none⟩)), (.string r)] (by kernel_rfl) (by kernel_rfl) (by kernel_rfl) (by kernel_rfl) (by kernel_rfl) Tryz.func46 (by kernel_rfl) (by kernel_rfl) (by kernel_rfl) ?_
  refine (hB _ h6).mono ?_
  rintro e w8 ⟨rfl, h8⟩
  refine ⟨_, rfl, hBS _ h8, fun hHeld => ?_⟩
  refine Rg.take (ops := (Rg.opsOf Tryz.f18 6)) 10 (some 4) ((.int .i64 (k : Nat))) hNS (by kernel_rfl) (by kernel_rfl) (by kernel_rfl) (by kernel_rfl) (by kernel_rfl) hHeld (Rg.y_move (x := (Operand.tmp 33)) (Or.inr (by kernel_rfl)) (by kernel_rfl)) ?_
  refine Rg.done (ops := (Rg.opsOf Tryz.f18 6)) (by kernel_rfl) ?_
  exact ⟨by kernel_rfl, h8⟩
end Go.Proofs.YtdkgkomjbpggeaaGreatDoor.Tb

namespace Go.Proofs.YtdkgkomjbpggeaaGreatDoor.Tb
open Go.RowKit Tx Pm Dk Wm Wr Wl Pl
set_option linter.unusedVariables false
set_option linter.unusedSimpArgs false
set_option linter.unnecessarySimpa false
theorem wt_whole_len (L : List It) : L.length * 40 ≤ wt (whole7 L) := by
  have := wt_len (whole7 L)
  unfold whole7 at this ⊢
  rwa [List.length_map] at this
theorem wt_whole_mem {L : List It} {x : It} (h : x ∈ L) : x.path.size + x.data.size + 40 ≤ wt (whole7 L) := wt_mem (c := ⟨x.path, x.data, false⟩) (List.mem_map.2 ⟨x, h, rfl⟩)
def PackOk (x : Tst) (p q : ByteArray) : Prop := FillOk x.j.s p (Fm.pk (rec7 (whole7 x.L))) ∧ ((fillS x.j.s p (Fm.pk (rec7 (whole7 x.L)))).1 = 0 → FillOk (fillS x.j.s p (Fm.pk (rec7 (whole7 x.L)))).2 q ⟨#[]⟩) ∧ wt (whole7 x.L) ≤ 1000000000 ∧ p.size ≤ 1000 ∧ q.size ≤ 1000
theorem pack_1 {x : Tst} {p q : ByteArray} {k : Nat} {s1 : St} (h : fillS x.j.s p (Fm.pk (rec7 (whole7 x.L))) = (k, s1)) (hk : k ≠ 0) : packS x p q = (k, ⟨⟨s1, x.j.R, x.j.dm⟩, x.L⟩) := by
  unfold packS; rw [h]; exact if_pos hk
theorem pack_2 {x : Tst} {p q : ByteArray} {k : Nat} {s1 : St} {y : Jst} (h : fillS x.j.s p (Fm.pk (rec7 (whole7 x.L))) = (0, s1)) (h2 : resetS ⟨s1, x.j.R, x.j.dm⟩ q = (k, y)) : packS x p q = (k, ⟨y, x.L⟩) := by
  unfold packS; rw [h]; simp only [h2]; exact if_neg (fun hh => hh rfl)
theorem left_trans7 {α : Type} {Obj : World → (Nat → Prop) → α → Prop} {w w1 w2 : World} {F F1 : Nat → Prop} {y : α} (hc : Chg F w w1) (hn : ∀ g, F1 g → F g ∨ w.heap.size ≤ g) (h : LeftA Obj w1 F1 y w2) : LeftA Obj w F y w2 := LeftA.trans hc hn h
theorem TAt.disk {b j t m : Nat} {p q : ByteArray} {Fj F : Nat → Prop} {w W : World} {x : Tst} {s' : St} {k : Nat} {f : FuncId} {args : Array Value} (h : TAt b j t m p q Fj w F x) (hW : Below w.heap.size w W)
    (hc : ∀ {Fd}, ImpAt b W Fd x.j.s → Calls Tryz.prog f args W (Dos (ImpAt b) W Fd k s')) : Calls Tryz.prog f args W fun e w' => e = .returned (.int .i64 (k : Nat)) ∧ LeftA (Tn b j t m p q) w F ⟨⟨s', x.j.R, x.j.dm⟩, x.L⟩ w' := by
  have hw := h.below hW
  obtain ⟨v, Fd, hj⟩ := hw.jn
  refine (hc hj.dsk).mono ?_
  rintro e w' ⟨rfl, hl⟩
  obtain ⟨Fd', F', q1, c1, n1⟩ := hj.disk_left (imp_kind b) hl
  have h2 := hw.jleft (y := ⟨s', x.j.R, x.j.dm⟩) ⟨F', ⟨v, Fd', q1⟩, c1, n1⟩
  exact ⟨rfl, left_trans7 (Chg.of_below hW) (fun g hg => .inl hg) h2⟩
set_option maxRecDepth 100000 in
set_option maxHeartbeats 2000000 in
theorem pack_any (b j t m : Nat) {Fj F : Nat → Prop} {x : Tst} (p q : ByteArray) (w : World) (h : TAt b j t m p q Fj w F x) (o : PackOk x p q) :
    Calls Tryz.prog 50 #[.pointer (some ⟨t, 0, none⟩)] w fun e w' => e = .returned (.int .i64 ((packS x p q).1 : Nat)) ∧ LeftA (Tn b j t m p q) w F (packS x p q).2 w' := by
  obtain ⟨o1, o2, o3, o4, o5⟩ := o
  have hlen := wt_whole_len x.L
  have hsz : (rec7 (whole7 x.L)).size ≤ wt (whole7 x.L) + 10 := rec7_le (by omega)
  have hpk := Fm.pk_size (rec7 (whole7 x.L))
  have hvb := vb_len (x := (rec7 (whole7 x.L)).size) (by omega)
  obtain ⟨t0, t1, t2, t3⟩ := h.cell
  have hd1 := (Below.refl w.heap.size w).drew
  have h1 := h.below hd1
  have cw := whole_any t m x.L w.drew h1.cell.2.2.2 h1.rows h.rises (by omega) (fun y hy => by have := wt_whole_mem hy; omega)
  obtain ⟨k1, s1, hf⟩ : ∃ k s, fillS x.j.s p (Fm.pk (rec7 (whole7 x.L))) = (k, s) := ⟨_, _, rfl⟩
  have cf : ∀ W, Below w.heap.size w W → Calls Tryz.prog 84 #[.pointer (some ⟨b, 0, none⟩), .string p, .string (Fm.pk (rec7 (whole7 x.L)))] W fun e w' => e = .returned (.int .i64 (k1 : Nat)) ∧ LeftA (Tn b j t m p q) w F ⟨⟨s1, x.j.R, x.j.dm⟩, x.L⟩ w' := fun W hW =>
    h.disk hW (fun hd => by
      have := iFill_any b p (Fm.pk (rec7 (whole7 x.L))) W hd o1 o4 (by omega)
      rw [hf] at this
      exact this)
  have hS : ∀ W, Below w.heap.size w W → TwoT t b p W := fun W hW => ⟨(h.below hW).cell.1, (h.below hW).cell.2.1⟩
  have hDS : ∀ W, LeftA (Tn b j t m p q) w F ⟨⟨s1, x.j.R, x.j.dm⟩, x.L⟩ W → TwoT t b p W := fun W hW => by
    obtain ⟨F', ⟨Fj', hh⟩, _⟩ := hW
    exact ⟨hh.cell.1, hh.cell.2.1⟩
  have hrg := fun (ops : Array Oper) hops id => @packReg ops hops id t b k1 p (rec7 (whole7 x.L)) (Fm.pk (rec7 (whole7 x.L)))
  have hA : Calls Tryz.prog 85 #[.pointer (some ⟨t, 0, none⟩)] w.drew fun e w' => ∃ a n c, e = .returned (.slice a n c) ∧ (n ≤ c ∧ Opl w' a n (whole7 x.L) ∧ Below w.heap.size w w') := cw.mono fun e w' hh => by
    obtain ⟨v, rfl, hO, hb⟩ := hh
    obtain ⟨a, c, rfl, hl, hc, _⟩ := hO.form
    exact ⟨a, _, c, rfl, hc, hl, Tx.below_call hd1 hb⟩
  have hB : ∀ a n c W, (n ≤ c ∧ Opl W a n (whole7 x.L) ∧ Below w.heap.size w W) → Calls Tryz.prog 47 #[.slice a n c] W fun e w' => e = .returned (.string (rec7 (whole7 x.L))) ∧ Below w.heap.size w w' := fun a n c W hW =>
    (record_any a n c (whole7 x.L) W hW.2.1 (by omega) hW.1).mono fun e w' hh => ⟨hh.1, Tx.below_call hW.2.2 hh.2⟩
  have hC : ∀ W, Below w.heap.size w W → Calls Tryz.prog 34 #[.string (rec7 (whole7 x.L))] W fun e w' => e = .returned (.string (Fm.pk (rec7 (whole7 x.L)))) ∧ Below w.heap.size w w' := fun W hW =>
    (Fr.fPack_any (rec7 (whole7 x.L)) W (by omega)).mono fun e w' hh => ⟨hh.1, Tx.below_call hW hh.2⟩
  have HS := Lib.hid hS
  have HDS := Lib.hid hDS
  have HA := Lib.hid hA
  have HB := Lib.hid hB
  have HC := Lib.hid hC
  have HF := Lib.hid cf
  generalize hR7 : rec7 (whole7 x.L) = R7 at *
  generalize hPK : Fm.pk R7 = PK at *
  by_cases e1 : k1 ≠ 0
  · have hp : packS x p q = (k1, ⟨⟨s1, x.j.R, x.j.dm⟩, x.L⟩) := pack_1 (by rw [hR7, hPK]; exact hf) e1
    rw [hp]
    have n1 := neZ e1
    have h0 := Lib.hid (hS w (Below.refl _ _))
    clear h h1 o1 o2 o3 o4 o5 hlen hsz hpk hvb t0 t1 t2 t3 hd1 cw hf cf hS hDS hrg hA hB hC hp e1 hR7 hPK
    go_enter Tryz.func50, Tryz.ntmps50
    go_wp2_with fail
    refine Rg.wp_only ?_ (packReg _ (by kernel_rfl) _ t b k1 p R7 PK _ _ _ _ _ h0.out HA.out (fun a n c W hW => HS.out W hW.2.2) HB.out (fun W hW => HS.out W hW) HC.out (fun W hW => HS.out W hW) HF.out HDS.out)
    rintro _ w8 ⟨a5, n5, c5, rfl, h8⟩
    go_wp2_with fail
    go_ret
    exact ⟨rfl, h8⟩
  · obtain rfl : k1 = 0 := by omega
    have o2' := o2 (by rw [hf])
    rw [hf] at o2'
    simp only at o2'
    obtain ⟨k2, y, hrs⟩ : ∃ k y, resetS ⟨s1, x.j.R, x.j.dm⟩ q = (k, y) := ⟨_, _, rfl⟩
    have hp : packS x p q = (k2, ⟨y, x.L⟩) := pack_2 (by rw [hR7, hPK]; exact hf) hrs
    rw [hp]
    have h0 := Lib.hid (hS w (Below.refl _ _))
    have H2 := Lib.hid o2'
    have HRS := Lib.hid hrs
    have H5 := Lib.hid o5
    clear h h1 o1 o2 o3 o4 o5 hlen hsz hpk hvb t0 t1 t2 t3 hd1 cw hf cf hS hDS hrg hA hB hC hp e1 o2' hrs hR7 hPK
    go_enter Tryz.func50, Tryz.ntmps50
    go_wp2_with fail
    refine Rg.wp_only ?_ (packReg _ (by kernel_rfl) _ t b 0 p R7 PK _ _ _ _ _ h0.out HA.out (fun a n c W hW => HS.out W hW.2.2) HB.out (fun W hW => HS.out W hW) HC.out (fun W hW => HS.out W hW) HF.out HDS.out)
    rintro _ w8 ⟨a5, n5, c5, rfl, F8, ⟨Fj8, q8⟩, k8, n8⟩
    obtain ⟨_, _, t2, _⟩ := q8.cell
    obtain ⟨v8, Fd8, j8⟩ := q8.jn
    have cr := iReset_any b j q w8 j8 H2.out H5.out
    rw [HRS.out] at cr
    have HQ := Lib.hid (fun w' (hl : LeftA (JnT b j q) w8 Fj8 y w') => left_trans7 k8 n8 (q8.jleft (y := y) hl))
    clear q8 j8 k8 n8
    go_wp2_with fail
    go_at_call 86
    refine cr.mono ?_
    rintro e w9 ⟨rfl, h9⟩
    go_wp2_with fail
    go_ret
    exact ⟨rfl, HQ.out _ h9⟩
set_option maxRecDepth 100000 in
theorem begin_any (tp : Option Addr) (w : World) : Calls Tryz.prog 9 #[.pointer tp] w fun e w' => ∃ u, e = .returned (.pointer (some ⟨u, 0, none⟩)) ∧ ∃ G, Bn u tp w' G [] ∧ (∀ g, G g → w.heap.size ≤ g) ∧ Below w.heap.size w w' := by
  have HB := Lib.hid (((Below.refl w.heap.size w).alloc (Nat.le_refl _) (.map #[] 0)).alloc (by simp) (.cells #[.pointer tp, .slice none 0 0, .map (some w.heap.size)] 76))
  have hP : Pp ((w.alloc (.map #[] 0)).alloc (.cells #[.pointer tp, .slice none 0 0, .map (some w.heap.size)] 76)) w.heap.size [] := (pp_made w).kept (((Below.refl (w.alloc (.map #[] 0)).heap.size _).alloc (Nat.le_refl _) _).block _ (by simp))
  have hb := new_at (w.alloc (.map #[] 0)) (.cells #[.pointer tp, .slice none 0 0, .map (some w.heap.size)] 76) (g := w.heap.size + 1) (by simp)
  have hbn : BAt (w.heap.size + 1) w.heap.size tp (.slice none 0 0) ((w.alloc (.map #[] 0)).alloc (.cells #[.pointer tp, .slice none 0 0, .map (some w.heap.size)] 76)) (fun i => i = w.heap.size + 1 ∨ (Value.slice none 0 0).ownBlock = some i ∨ i = w.heap.size) [] :=
    ⟨hb, nil_OwnC _ _, hP, (fun e => by cases e), List.Pairwise.nil, fun i => Iff.rfl⟩
  have HN := Lib.hid hbn
  have hmm := @run_makeMap Tryz.prog
  clear hbn hP hb
  go_enter Tryz.func9, Tryz.ntmps9
  go_wp2_with fail
  go_ret
  refine ⟨w.heap.size + 1, rfl, _, ⟨_, _, HN.out⟩, ?_, HB.out⟩
  rintro g (rfl | hg | rfl)
  · omega
  · cases hg
  · omega
end Go.Proofs.YtdkgkomjbpggeaaGreatDoor.Tb

namespace Go.Proofs.YtdkgkomjbpggeaaGreatDoor.Tb
open Go.RowKit Tx Pm Dk Wm Wr Wl Pl
set_option linter.unusedVariables false
set_option linter.unusedSimpArgs false
set_option linter.unnecessarySimpa false
def TB (b j t m : Nat) (p q : ByteArray) (u : Nat) (w : World) (H : Nat → Prop) (z : Tst × List Ch) : Prop := ∃ F G, Tn b j t m p q w F z.1 ∧ Bn u (some ⟨t, 0, none⟩) w G z.2 ∧ (∀ i, F i → ¬ G i) ∧ ∀ i, H i ↔ F i ∨ G i
theorem bat_beside {b j t m u pm : Nat} {p q : ByteArray} {tp : Option Addr} {vO : Value} {w w1 : World} {F F1 G : Nat → Prop} {x y : Tst} {l : List Ch} (hB : BAt u pm tp vO w G l) (hd : ∀ i, F i → ¬ G i) (hc : Chg F w w1) (hn : ∀ g, F1 g → F g ∨ w.heap.size ≤ g) :
    BAt u pm tp vO w1 G l ∧ ∀ i, F1 i → ¬ G i :=
  ⟨hB.kept (fun i hi => hc.block i (hB.lt i hi) (fun hf => hd i hf hi)), fun i hi hg => by
    rcases hn i hi with hh | hh
    · exact hd i hh hg
    · have := hB.lt i hg; omega⟩
def CommitOk (x : Tst) (l : List Ch) (p q : ByteArray) : Prop := wt l ≤ 1000000000 ∧ AddOk x.j q (rec7 l) ∧ x.L.length + l.length ≤ 1000000000 ∧ q.size ≤ 1000 ∧ (addS x.j q (rec7 l)).2.R.length ≤ 10000000000 ∧ (16 ≤ (addS x.j q (rec7 l)).2.R.length → PackOk ⟨(addS x.j q (rec7 l)).2, all7 x.L l⟩ p q)
theorem commit_0 {x : Tst} {p q : ByteArray} : commitS x [] p q = (0, x) := rfl
theorem commit_1 {x : Tst} {l : List Ch} {p q : ByteArray} {k : Nat} {y : Jst} (hl : l ≠ []) (h : addS x.j q (rec7 l) = (k, y)) (hk : k ≠ 0) : commitS x l p q = (k, ⟨y, x.L⟩) := by
  unfold commitS; rw [if_neg hl, h]; exact if_pos hk
theorem commit_2 {x : Tst} {l : List Ch} {p q : ByteArray} {y : Jst} (hl : l ≠ []) (h : addS x.j q (rec7 l) = (0, y)) (h16 : ¬ 16 ≤ y.R.length) : commitS x l p q = (0, ⟨y, all7 x.L l⟩) := by
  unfold commitS; rw [if_neg hl, h]; simp only; rw [if_neg (fun hh => hh rfl), if_neg h16]
theorem commit_3 {x : Tst} {l : List Ch} {p q : ByteArray} {y : Jst} (hl : l ≠ []) (h : addS x.j q (rec7 l) = (0, y)) (h16 : 16 ≤ y.R.length) : commitS x l p q = packS ⟨y, all7 x.L l⟩ p q := by
  unfold commitS; rw [if_neg hl, h]; simp only; rw [if_neg (fun hh => hh rfl), if_pos h16]
theorem cleared {u pm : Nat} {tp : Option Addr} {vO : Value} {w : World} {G : Nat → Prop} {l : List Ch} (h : BAt u pm tp vO w G l) :
    ((w.alloc (.map #[] 0)).cell? ⟨u, 1, none⟩ = some vO ∧ (w.alloc (.map #[] 0)).frozen? ⟨u, 1, none⟩ = false) ∧
    (((w.alloc (.map #[] 0)).setCell ⟨u, 1, none⟩ (.slice none 0 0)).cell? ⟨u, 2, none⟩ = some (.map (some pm)) ∧ ((w.alloc (.map #[] 0)).setCell ⟨u, 1, none⟩ (.slice none 0 0)).frozen? ⟨u, 2, none⟩ = false) ∧
    BAt u w.heap.size tp (.slice none 0 0) (((w.alloc (.map #[] 0)).setCell ⟨u, 1, none⟩ (.slice none 0 0)).setCell ⟨u, 2, none⟩ (.map (some w.heap.size))) (fun i => i = u ∨ (Value.slice none 0 0).ownBlock = some i ∨ i = w.heap.size) [] ∧
    Chg (· = u) w (((w.alloc (.map #[] 0)).setCell ⟨u, 1, none⟩ (.slice none 0 0)).setCell ⟨u, 2, none⟩ (.map (some w.heap.size))) := by
  have hul : u < w.heap.size := h.lt u ((h.foot u).2 (.inl rfl))
  have hb0 : (w.alloc (.map #[] 0)).heap[u]? = some (.cells #[.pointer tp, vO, .map (some pm)] 76 (0, 0)) := (((Below.refl w.heap.size w).alloc (Nat.le_refl _) _).block u hul).trans h.blk
  have hb1 : ((w.alloc (.map #[] 0)).setCell ⟨u, 1, none⟩ (.slice none 0 0)).heap[u]? = some (.cells #[.pointer tp, .slice none 0 0, .map (some pm)] 76 (0, 0)) := by rw [set_block hb0]; rfl
  have hb2 : (((w.alloc (.map #[] 0)).setCell ⟨u, 1, none⟩ (.slice none 0 0)).setCell ⟨u, 2, none⟩ (.map (some w.heap.size))).heap[u]? = some (.cells #[.pointer tp, .slice none 0 0, .map (some w.heap.size)] 76 (0, 0)) := by rw [set_block hb1]; rfl
  refine ⟨⟨?_, ?_⟩, ⟨?_, ?_⟩, ⟨hb2, nil_OwnC _ _, ?_, (fun e => by cases e), List.Pairwise.nil, fun i => Iff.rfl⟩, ((Chg.of_below ((Below.refl w.heap.size w).alloc (Nat.le_refl _) _)).then (chg_set (b := u) (k := 1) _)).then (chg_set (b := u) (k := 2) _)⟩
  · unfold World.cell?; rw [hb0]; rfl
  · unfold World.frozen?; rw [hb0]; simp
  · unfold World.cell?; rw [hb1]; rfl
  · unfold World.frozen?; rw [hb1]; simp
  · exact ((pp_made w).kept (set_other _ (by omega))).kept (set_other _ (by omega))
def CommitTo (b j t m : Nat) (p q : ByteArray) (u : Nat) (w : World) (H : Nat → Prop) (r : Nat × Tst) (e : Ending) (w' : World) : Prop :=
  e = .returned (.int .i64 (r.1 : Nat)) ∧ LeftA (Tn b j t m p q) w H r.2 w' ∧ (r.1 = 0 → LeftA (TB b j t m p q u) w H (r.2, []) w')
theorem left_wide {α : Type} {Obj : World → (Nat → Prop) → α → Prop} {w w1 : World} {F H : Nat → Prop} {y : α} (hF : ∀ i, F i → H i) (h : LeftA Obj w F y w1) : LeftA Obj w H y w1 := by
  obtain ⟨F', h1, h2, h3⟩ := h
  exact ⟨F', h1, h2.mono hF, fun g hg => (h3 g hg).imp (fun hh => hF g hh) id⟩
theorem not_nil_len {l : List Ch} {n : Nat} (h : l ≠ []) (hn : n = l.length) : 0 < n := by
  cases l with
  | nil => exact absurd rfl h
  | cons x l => simp at hn; omega
set_option maxRecDepth 100000 in
set_option maxHeartbeats 4000000 in
theorem commit_any (b j t m u : Nat) {H : Nat → Prop} {x : Tst} {l : List Ch} (p q : ByteArray) (w : World) (h : TB b j t m p q u w H (x, l)) (o : CommitOk x l p q) :
    Calls Tryz.prog 18 #[.pointer (some ⟨u, 0, none⟩)] w (CommitTo b j t m p q u w H (commitS x l p q)) := by
  have h0 := h
  obtain ⟨F, G, ⟨Fj, hT⟩, ⟨pm, vO, hB⟩, hd, hH⟩ := h
  obtain ⟨o1, o2, o3, o4, o5, o6⟩ := o
  obtain ⟨c0, c1, c2⟩ := hB.cell
  obtain ⟨aO, cO, hvO, hO1, hO2, _⟩ := hB.ops.form
  obtain ⟨n, hn⟩ : ∃ n, n = l.length := ⟨_, rfl⟩
  rw [← hn] at hvO hO1 hO2
  by_cases hl : l = []
  · subst hl
    obtain rfl : n = 0 := hn
    rw [hvO] at c1
    have HE := Lib.hid (show CommitTo b j t m p q u w H (commitS x [] p q) (.returned (.int .i64 0)) w from ⟨rfl, ⟨F, ⟨Fj, hT⟩, Chg.refl _ _, fun g hg => .inl ((hH g).2 (.inl hg))⟩, fun _ => LeftA.of h0 (Chg.refl _ _)⟩)
    clear h0 hT hB hd hH o1 o2 o3 o4 o5 o6 hvO hO1
    go_enter Tryz.func18, Tryz.ntmps18
    go_wp2_with fail
    go_ret
    exact HE.out
  · have hpos := not_nil_len hl hn
    have hd1 := (Below.refl w.heap.size w).drew
    obtain ⟨k, y, hadd⟩ : ∃ k y, addS x.j q (rec7 l) = (k, y) := ⟨_, _, rfl⟩
    have hrec : ∀ W, Below w.heap.size w W → Calls Tryz.prog 47 #[.slice aO n cO] W fun e w' => e = .returned (.string (rec7 l)) ∧ Below w.heap.size w w' := fun W hW =>
      (record_any aO n cO l W (hO1.below hW) (by omega) hO2).mono fun e w' hh => ⟨hh.1, Tx.below_call hW hh.2⟩
    have hcall : ∀ W, Below w.heap.size w W → Calls Tryz.prog 46 #[.pointer (some ⟨j, 0, none⟩), .string (rec7 l)] W fun e w' => e = .returned (.int .i64 (k : Nat)) ∧ LeftA (Tn b j t m p q) w F ⟨y, x.L⟩ w' := fun W hW => by
      have hW2 := hT.below hW
      obtain ⟨v, Fd, hj⟩ := hW2.jn
      have c := iAdd_any b j q (rec7 l) W hj o2 o4
      rw [hadd] at c
      exact c.mono fun e w' hh => ⟨hh.1, left_trans7 (Chg.of_below hW) (fun g hg => .inl hg) (hW2.jleft (y := y) hh.2)⟩
    have hS : ∀ W, Below w.heap.size w W → TwoC t j u n cO aO W := fun W hW => ⟨(hT.below hW).cell.2.2.1, (hB.below hW).cell.2.1.trans (by rw [hvO])⟩
    have hS8 : ∀ W, LeftA (Tn b j t m p q) w F ⟨y, x.L⟩ W → TwoC t j u n cO aO W := fun W hW => by
      obtain ⟨F8, ⟨Fj8, h8⟩, k8, n8⟩ := hW
      exact ⟨h8.cell.2.2.1, (bat_beside (b := b) (j := j) (t := t) (m := m) (p := p) (q := q) (x := x) (y := x) hB hd k8 n8).1.cell.2.1.trans (by rw [hvO])⟩
    have HS := Lib.hid hS
    have HS8 := Lib.hid hS8
    have HREC := Lib.hid hrec
    have HCALL := Lib.hid hcall
    have hs0 := Lib.hid (hS w (Below.refl _ _))
    have hnz : ((n : Int) == 0) = false := by simp; omega
    have c1' := c1
    rw [hvO] at c1'
    by_cases hk : k ≠ 0
    · rw [commit_1 hl hadd hk]
      have nk := neZ hk
      have HK := Lib.hid hk
      have HH := Lib.hid hH
      clear h0 hT hB hd hH o1 o2 o3 o4 o5 o6 hvO hO1 hn hS hS8 hrec hcall hadd hk hl hd1 c1
      go_enter Tryz.func18, Tryz.ntmps18
      go_wp2_with fail
      refine Rg.wp_only ?_ (commitReg _ (by kernel_rfl) _ t j u n cO k aO (rec7 l) _ _ _ hs0.out (HREC.out _ (Below.refl w.heap.size w).drew) (fun W hW => HS.out W hW) HCALL.out HS8.out)
      rintro _ w8 ⟨rfl, h8⟩
      go_wp2_with fail
      go_ret
      exact ⟨rfl, left_wide (fun i hi => (HH.out i).2 (.inl hi)) h8, fun hh => absurd hh HK.out⟩
    · obtain rfl : k = 0 := by omega
      rw [hadd] at o5 o6
      simp only at o5 o6
      have hwl := wt_len l
      -- behind Add
      have hnext : ∀ w8, LeftA (Tn b j t m p q) w F ⟨y, x.L⟩ w8 → ∃ F8, (∃ Fj8, TAt b j t m p q Fj8 w8 F8 ⟨y, x.L⟩) ∧ BAt u pm (some ⟨t, 0, none⟩) vO w8 G l ∧ (∀ i, F8 i → ¬ G i) ∧ Chg F w w8 ∧ (∀ g, F8 g → F g ∨ w.heap.size ≤ g) := fun w8 hW => by
        obtain ⟨F8, h8, k8, n8⟩ := hW
        obtain ⟨a1, a2⟩ := bat_beside (b := b) (j := j) (t := t) (m := m) (p := p) (q := q) (x := x) (y := x) hB hd k8 n8
        exact ⟨F8, h8, a1, a2, k8, n8⟩
      have HNX := Lib.hid hnext
      have HH := Lib.hid hH
      have HN := Lib.hid hn
      have HV := Lib.hid hvO
      have HO3 := Lib.hid (show x.L.length + n ≤ 1000000000 by omega)
      have HKS := Lib.hid (show ∀ z ∈ l, z.key.size ≤ 1000000000000 from fun z hz => by have := wt_mem hz; omega)
      have HL := Lib.hid hl
      have HADD := Lib.hid hadd
      have H5 := Lib.hid o5
      have H6 := Lib.hid o6
      clear h0 hT hB hd hH o1 o2 o3 o4 o5 o6 hvO hO1 hn hS hS8 hrec hcall hadd hk hl hd1 c1 hnext hwl
      go_enter Tryz.func18, Tryz.ntmps18
      go_wp2_with fail
      refine Rg.wp_only ?_ (commitReg _ (by kernel_rfl) _ t j u n cO 0 aO (rec7 l) _ _ _ hs0.out (HREC.out _ (Below.refl w.heap.size w).drew) (fun W hW => HS.out W hW) HCALL.out HS8.out)
      rintro _ w8 ⟨rfl, h8⟩
      obtain ⟨F8, ⟨Fj8, hT8⟩, hB8, hd8, k8, n8⟩ := HNX.out _ h8
      obtain ⟨_, _, _, t83⟩ := hT8.cell
      obtain ⟨_, b81, _⟩ := hB8.cell
      obtain ⟨aP, cP, hvP, hOP, hcP, _⟩ := hB8.ops.form
      rw [HV.out, ← HN.out] at hvP
      injection hvP with e1 e2 e3
      subst e1 e3
      rw [← HN.out] at hOP
      have cd := do_any t m x.L aO n cO l w8 t83 hT8.rows hT8.rises hOP HO3.out HKS.out (by rw [HN.out]; exact hcP)
      rw [HV.out] at b81
      have HT8 := Lib.hid hT8
      have HB8 := Lib.hid hB8
      have HD8 := Lib.hid hd8
      have HK8 := Lib.hid k8
      have HN8 := Lib.hid n8
      clear hT8 hB8 hd8 k8 n8 hOP hcP h8 e2
      go_wp2_with fail
      go_at_call 48
      refine cd.mono ?_
      rintro e w9 ⟨rfl, hm9, hc9⟩
      have hT9 := HT8.out.turned hm9 hc9 (rises_all HT8.out.rises l) (plain_all HT8.out.plain l)
      have hm8 : F8 m := (HT8.out.foot m).2 (.inr (.inr rfl))
      have hB9 := HB8.out.kept (fun i hi => hc9.block i (HB8.out.lt i hi) (fun e => HD8.out m hm8 (e ▸ hi)))
      obtain ⟨⟨s1, s2⟩, ⟨s3, s4⟩, hBn, hcu⟩ := cleared hB9
      rw [HV.out] at s1
      have huG : G u := (HB8.out.foot u).2 (.inl rfl)
      have hT11 := hT9.kept (fun i hi => hcu.block i (hT9.lt i hi) (fun e => HD8.out i hi (e ▸ huG)))
      obtain ⟨_, _, t112, _⟩ := hT11.cell
      have hmm := @run_makeMap Tryz.prog
      have hz9 : w8.heap.size ≤ w9.heap.size := hc9.size
      have hz8 : w.heap.size ≤ w8.heap.size := HK8.out.size
      have hch9 : Chg H w w9 := (HK8.out.mono (fun i hi => (HH.out i).2 (.inl hi))).trans (hc9.mono (G := F8) (fun i hi => hi ▸ hm8)) (fun i hi => (HN8.out i hi).imp (fun hh => (HH.out i).2 (.inl hh)) id)
      have hch11 := hch9.then (hcu.mono (fun i hi => (HH.out i).2 (.inr (hi ▸ huG))))
      have hdis : ∀ i, F8 i → ¬ (i = u ∨ (Value.slice none 0 0).ownBlock = some i ∨ i = w9.heap.size) := fun i hi hh => by
        rcases hh with rfl | hh | rfl
        · exact HD8.out _ hi huG
        · cases hh
        · exact absurd (hT9.lt _ hi) (Nat.lt_irrefl _)
      obtain ⟨v11, Fd11, j11⟩ := hT11.jn
      have cr := iRecords_any (imp_kind b) b j q _ j11 H5.out
      have HT11 := Lib.hid hT11
      have HBn := Lib.hid hBn
      have HCH := Lib.hid hch11
      have HDIS := Lib.hid hdis
      have HSZ := Lib.hid (show w.heap.size ≤ w9.heap.size by omega)
      clear hT9 hB9 hBn hT11 hm9 hc9 hch9 hch11 hdis j11 hcu hz9 hz8 cd
      have HG8 := Lib.hid (show ∀ g, F8 g → H g ∨ w.heap.size ≤ g from fun g hg => (HN8.out g hg).imp (fun hh => (HH.out g).2 (.inl hh)) id)
      have HGB := Lib.hid (show ∀ g, (g = u ∨ (Value.slice none 0 0).ownBlock = some g ∨ g = w9.heap.size) → H g ∨ w.heap.size ≤ g from fun g hg => by
        rcases hg with rfl | hg | rfl
        · exact .inl ((HH.out _).2 (.inr huG))
        · cases hg
        · exact .inr HSZ.out)
      obtain ⟨N, hN⟩ : ∃ N, N = y.R.length := ⟨_, rfl⟩
      have HNN := Lib.hid hN
      clear hN
      go_wp2_with fail
      generalize ((w9.alloc (.map #[] 0)).setCell ⟨u, 1, none⟩ (.slice none 0 0)).setCell ⟨u, 2, none⟩ (.map (some w9.heap.size)) = W at HT11 HBn HCH cr t112 ⊢
      go_at_call 49
      refine cr.mono ?_
      rintro e w12 ⟨v12, rfl, h12, hb12⟩
      obtain ⟨a12, c12, hv12, _⟩ := h12.form
      rw [show (⟨y, all7 x.L l⟩ : Tst).j.R.length = N from HNN.out.symm] at hv12
      have hT12 := HT11.out.below hb12
      have hB12 := HBn.out.below hb12
      have hC12 : Chg H w w12 := HCH.out.then (Chg.of_below hb12)
      clear h12
      subst hv12
      by_cases h16 : 16 ≤ y.R.length
      · have hz16 : (16 : Int) ≤ (N : Int) := by rw [HNN.out]; omega
        have hcs : commitS x l p q = packS ⟨y, all7 x.L l⟩ p q := commit_3 HL.out HADD.out h16
        have cp := pack_any b j t m p q w12 hT12 (H6.out h16)
        have HCS := Lib.hid hcs
        have HP := Lib.hid (fun w' (hl : LeftA (Tn b j t m p q) w12 F8 (packS ⟨y, all7 x.L l⟩ p q).2 w') => (⟨left_trans7 hC12 HG8.out (left_wide (fun i hi => hi) hl), fun _ => by
          obtain ⟨F13, h13, k13, n13⟩ := hl
          obtain ⟨b1, b2⟩ := bat_beside (b := b) (j := j) (t := t) (m := m) (p := p) (q := q) (x := x) (y := x) hB12 HDIS.out k13 n13
          have hs12 := hC12.size
          refine ⟨fun i => F13 i ∨ (i = u ∨ (Value.slice none 0 0).ownBlock = some i ∨ i = w9.heap.size), ⟨F13, _, h13, ⟨_, _, b1⟩, b2, fun i => Iff.rfl⟩, hC12.trans k13 HG8.out, fun g hg => ?_⟩
          rcases hg with hg | hg
          · rcases n13 g hg with hh | hh
            · exact HG8.out g hh
            · exact .inr (by omega)
          · exact HGB.out g hg⟩ : LeftA (Tn b j t m p q) w H (packS ⟨y, all7 x.L l⟩ p q).2 w' ∧ ((packS ⟨y, all7 x.L l⟩ p q).1 = 0 → LeftA (TB b j t m p q u) w H ((packS ⟨y, all7 x.L l⟩ p q).2, []) w')))
        clear hT12 hB12 hC12 hcs h16
        go_wp2_with fail
        go_at_call 50
        refine cp.mono ?_
        rintro e w13 ⟨rfl, h13⟩
        obtain ⟨q1, q2⟩ := HP.out _ h13
        clear h13
        go_wp2_with fail
        go_ret
        rw [HCS.out]
        exact ⟨rfl, q1, q2⟩
      · have hz16 : ¬ (16 : Int) ≤ (N : Int) := by rw [HNN.out]; omega
        have hcs : commitS x l p q = (0, ⟨y, all7 x.L l⟩) := commit_2 HL.out HADD.out h16
        have HCS := Lib.hid hcs
        have HE := Lib.hid (show CommitTo b j t m p q u w H (0, ⟨y, all7 x.L l⟩) (.returned (.int .i64 0)) w12 from
          ⟨rfl, ⟨F8, ⟨_, hT12⟩, hC12, HG8.out⟩, fun _ => ⟨fun i => F8 i ∨ (i = u ∨ (Value.slice none 0 0).ownBlock = some i ∨ i = w9.heap.size), ⟨F8, _, ⟨_, hT12⟩, ⟨_, _, hB12⟩, HDIS.out, fun i => Iff.rfl⟩, hC12, fun g hg => hg.elim (HG8.out g) (HGB.out g)⟩⟩)
        clear hT12 hB12 hC12 hcs h16
        go_wp2_with fail
        go_ret
        rw [HCS.out]
        exact HE.out
end Go.Proofs.YtdkgkomjbpggeaaGreatDoor.Tb

namespace Go.Proofs.YtdkgkomjbpggeaaGreatDoor.Tb
open Go.RowKit Tx Pm Dk Wm Wr Wl Pl
set_option linter.unusedVariables false
set_option linter.unusedSimpArgs false
set_option linter.unnecessarySimpa false
def RecOk (L : List It) (R : List ByteArray) : Prop := (∀ r ∈ R, (opsS r).2 = 0 ∧ r.size ≤ 500000000) ∧ L.length + (R.map (·.size)).sum ≤ 500000000 ∧ R.length ≤ 10000000000
theorem sum_take (R : List ByteArray) (k : Nat) : ((R.take k).map (·.size)).sum ≤ (R.map (·.size)).sum := by
  conv => rhs; rw [← List.take_append_drop k R]
  rw [List.map_append, List.sum_append]
  omega
def LogTo (b t m : Nat) (p q : ByteArray) (w : World) (Fd : Nat → Prop) (L : List It) (r : Nat × Jst) (e : Ending) (w' : World) : Prop :=
  (r.1 = 0 ∧ e = .returned (.int .i64 0) ∧ ∃ j, LeftA (Tn b j t m p q) w (fun i => Fd i ∨ i = t ∨ i = m) ⟨r.2, rows7 L r.2.R⟩ w') ∨ (r.1 ≠ 0 ∧ e = .returned (.int .i64 (r.1 : Nat)) ∧ Dk.Left (ImpAt b) w Fd r.2.s w')
set_option maxRecDepth 100000 in
set_option maxHeartbeats 4000000 in
theorem takeLog_any (b t m : Nat) {Fd : Nat → Prop} {s : St} {L : List It} (p q : ByteArray) (w : World) (hblk : w.heap[t]? = some (.cells #[.pointer (some ⟨b, 0, none⟩), .string p, .pointer none, .map (some m)] 69 (0, 0)))
    (hm : Mo w m L) (hD : ImpAt b w Fd s) (hoff : ¬ Fd t ∧ ¬ Fd m) (hR : Rises L) (hP : Plain L) (o : OpenOk s q) (hq : q.size ≤ 1000) (hrec : (openS s q).1 = 0 → RecOk L (openS s q).2.R) :
    Calls Tryz.prog 28 #[.pointer (some ⟨t, 0, none⟩), .string q] w (LogTo b t m p q w Fd L (openS s q)) := by
  have co := iOpen_any b q w hD o hq
  have htl : t < w.heap.size := (Array.getElem?_eq_some_iff.1 hblk).1
  have t0 : w.cell? ⟨t, 0, none⟩ = some (.pointer (some ⟨b, 0, none⟩)) := by unfold World.cell?; rw [hblk]; rfl
  have htm : t ≠ m := fun e => hm.nb (e ▸ hblk)
  have hml := hm.lt
  obtain ⟨k, x, hx⟩ : ∃ k x, openS s q = (k, x) := ⟨_, _, rfl⟩
  unfold LogTo
  rw [hx] at co hrec ⊢
  simp only at hrec ⊢
  by_cases hk : k ≠ 0
  · have nk := neZ hk
    have HK := Lib.hid hk
    have c1 : Calls Tryz.prog 65 #[.pointer (some ⟨b, 0, none⟩), .string q] w fun e w' => e = .returned (.tuple #[.pointer none, .int .i64 (k : Nat)]) ∧ Dk.Left (ImpAt b) w Fd x.s w' := co.mono fun e w' hh => by
      rcases hh with ⟨h0, _⟩ | ⟨_, he, hl⟩
      · exact absurd h0 hk
      · exact ⟨he, hl⟩
    clear hblk hm hD hoff o hrec co htm hk hx
    go_enter Tryz.func28, Tryz.ntmps28
    go_wp2_with fail
    go_at_call 65
    refine c1.mono ?_
    rintro e w1 ⟨rfl, h1⟩
    go_wp2_with fail
    go_ret
    exact .inr ⟨HK.out, rfl, h1⟩
  · obtain rfl : k = 0 := by omega
    obtain ⟨hr1, hr2, hr3⟩ := hrec rfl
    have c1 : Calls Tryz.prog 65 #[.pointer (some ⟨b, 0, none⟩), .string q] w fun e w' => ∃ j, e = .returned (.tuple #[.pointer (some ⟨j, 0, none⟩), .int .i64 0]) ∧ LeftA (JnT b j q) w Fd x w' := co.mono fun e w' hh => by
      rcases hh with ⟨_, j, he, hl⟩ | ⟨h0, _⟩
      · exact ⟨j, he, hl⟩
      · exact absurd rfl h0
    have HBLK := Lib.hid hblk
    have HM := Lib.hid hm
    have HOFF := Lib.hid hoff
    have HR := Lib.hid hR
    have HP := Lib.hid hP
    have HR1 := Lib.hid hr1
    obtain ⟨n, hn⟩ : ∃ n, n = x.R.length := ⟨_, rfl⟩
    have HN := Lib.hid hn
    have HSUM := Lib.hid hr2
    clear hblk hm hD hoff o hrec co hx hR hP hr1 hn hr2 hk
    go_enter Tryz.func28, Tryz.ntmps28
    go_wp2_with fail
    go_at_call 65
    refine c1.mono ?_
    rintro e w1 ⟨j, rfl, Fj, hj, k1, n1⟩
    have hb1 : w1.heap[t]? = _ := (k1.block t htl HOFF.out.1).trans HBLK.out
    have hm1 := HM.out.kept (k1.block m hml HOFF.out.2)
    have hjt : ¬ Fj t := fun hh => by rcases n1 t hh with h | h; exact HOFF.out.1 h; omega
    have hjm : ¬ Fj m := fun hh => by rcases n1 m hh with h | h; exact HOFF.out.2 h; omega
    have s0 : w1.cell? ⟨t, 2, none⟩ = some (.pointer none) := by unfold World.cell?; rw [hb1]; rfl
    have s1 : w1.frozen? ⟨t, 2, none⟩ = false := by unfold World.frozen?; rw [hb1]; simp
    have hb2 : (w1.setCell ⟨t, 2, none⟩ (.pointer (some ⟨j, 0, none⟩))).heap[t]? = some (.cells #[.pointer (some ⟨b, 0, none⟩), .string p, .pointer (some ⟨j, 0, none⟩), .map (some m)] 69 (0, 0)) := by rw [set_block hb1]; rfl
    have kt2 : Chg (· = t) w1 (w1.setCell ⟨t, 2, none⟩ (.pointer (some ⟨j, 0, none⟩))) := chg_set (b := t) (k := 2) _
    have hjlt := (jn_kind (imp_kind b) 132 b j q).1 hj
    have hj2 : JnT b j q (w1.setCell ⟨t, 2, none⟩ (.pointer (some ⟨j, 0, none⟩))) Fj x := (jn_kind (imp_kind b) 132 b j q).2 hj (fun i hi => kt2.block i (hjlt i hi) (fun e => hjt (e ▸ hi)))
    have hm2 := hm1.kept (kt2.block m hm1.lt (fun e => htm e.symm))
    have hTA : TAt b j t m p q Fj (w1.setCell ⟨t, 2, none⟩ (.pointer (some ⟨j, 0, none⟩))) (fun i => Fj i ∨ i = t ∨ i = m) ⟨x, L⟩ := ⟨hj2, hb2, hm2, ⟨hjt, hjm⟩, fun i => Iff.rfl, HR.out, HP.out⟩
    have hch2 : Chg (fun i => Fd i ∨ i = t ∨ i = m) w (w1.setCell ⟨t, 2, none⟩ (.pointer (some ⟨j, 0, none⟩))) := (k1.mono (fun i hi => .inl hi)).then (kt2.mono (fun i hi => .inr (.inl hi)))
    have hnew : ∀ g, (Fj g ∨ g = t ∨ g = m) → (Fd g ∨ g = t ∨ g = m) ∨ w.heap.size ≤ g := fun g hg => by
      rcases hg with hg | hg
      · exact (n1 g hg).imp (fun hh => .inl hh) id
      · exact .inl (.inr hg)
    obtain ⟨v2, Fd2, jj⟩ := hj2
    have cr := iRecords_any (imp_kind b) b j q _ jj hr3
    have HTA := Lib.hid hTA
    have HCH := Lib.hid hch2
    have HNEW := Lib.hid hnew
    clear hj jj hm1 hm2 hb1 hb2 kt2 hTA hch2 hnew k1 n1 hjlt hjt hjm
    go_wp2_with fail
    generalize w1.setCell ⟨t, 2, none⟩ (.pointer (some ⟨j, 0, none⟩)) = W at HTA HCH cr ⊢
    go_at_call 49
    refine cr.mono ?_
    rintro e w3 ⟨vR, rfl, hK, hb3⟩
    obtain ⟨aK, cK, hv, hsK, hcK, _⟩ := hK.form
    rw [← HN.out] at hv hsK hcK
    have hT3 := HTA.out.below hb3
    have hgm : ∀ g off, aK = some ⟨g, off, none⟩ → g ≠ m := fun g off e => by
      have hgb := hK.lt g (by rw [hv, e]; rfl)
      have := HTA.out.rows.lt
      omega
    have HSK := Lib.hid hsK
    have HGM := Lib.hid hgm
    have HT3 := Lib.hid hT3
    have HB3 := Lib.hid hb3
    have hm3 := hT3.rows
    clear hK hsK hT3 hgm hb3 cr s0 s1
    subst hv
    go_wp2_with fail
    go_loopw [29] (fun iv wr => ∃ k : Nat, k ≤ n ∧ iv = .int .i64 k ∧ Mo wr m (rows7 L (x.R.take k)) ∧ Chg (· = m) w3 wr) (fun iv _ => n - (intOf iv).toNat)
    case atStart => exact ⟨0, Nat.zero_le _, rfl, hm3, Chg.refl _ _⟩
    case round =>
      obtain ⟨i, hik, rfl, hmo, hch⟩ := hrel
      by_cases hlt : i < n
      · obtain ⟨r, hr⟩ : ∃ r, x.R[i]? = some r := ⟨_, List.getElem?_eq_getElem (by rw [← HN.out]; exact hlt)⟩
        obtain ⟨_, hne⟩ := HSK.out
        obtain ⟨g, off, rfl, hg, hcc⟩ := hne.resolve_left (by omega)
        have g0' := hcc i r hr
        have hbg := hch.block g hg (HGM.out g off rfl)
        have g0 : wr.cell? ⟨g, off + i, none⟩ = some (.string r) := by unfold World.cell? at g0' ⊢; rw [hbg]; exact g0'
        have hiz : (i : Int) < (n : Int) := by omega
        obtain ⟨hre, hrs⟩ := HR1.out r (List.mem_of_getElem? hr)
        have htc := HT3.out.cell.2.2.2
        have htl3 := World.block_lt_of_cell? w3 _ htc
        have hbt := hch.block t htl3 HT3.out.tm
        have htr : wr.cell? ⟨t, 3, none⟩ = some (.map (some m)) := by unfold World.cell? at htc ⊢; rw [hbt]; exact htc
        have hln := len_rows L (x.R.take i)
        have hst := sum_take x.R i
        have hsum := HSUM.out
        have ct := take_any t m (rows7 L (x.R.take i)) r wr htr hmo (rises_rows HR.out _) hrs (by omega)
        unfold taken at ct
        rw [hre, if_pos rfl] at ct
        have htk : rows7 L (x.R.take (i + 1)) = all7 (rows7 L (x.R.take i)) (opsS r).1 := by
          have hkl := (List.getElem?_eq_some_iff.1 hr).1
          rw [List.take_succ_eq_append_getElem hkl, rows7_snoc]
          rw [List.getElem?_eq_getElem hkl] at hr
          injection hr with hr
          rw [hr]
        rw [← htk] at ct
        clear hmo hr hne hcc g0' hbg hbt hre hln hst hsum htk htc
        go_wp2_with fail
        go_at_call 64
        refine ct.mono ?_
        rintro e w5 ⟨rfl, hm5, hc5⟩
        have hch5 := hch.then hc5
        clear hch hc5
        go_wp2_with fail
        go_roundw
        case rel => exact ⟨i + 1, by omega, by go_num, hm5, hch5⟩
        case measure => simp [intOf]; omega
      · obtain rfl : i = n := by omega
        have e : x.R.take i = x.R := List.take_of_length_le (by rw [← HN.out]; exact Nat.le_refl _)
        rw [e] at hmo
        have hfin := HT3.out.turned hmo hch (rises_rows HR.out _) (plain_rows HP.out _)
        have hcf : Chg (fun i => Fd i ∨ i = t ∨ i = m) w wr := (HCH.out.then (Chg.of_below HB3.out)).then (hch.mono (fun i hi => .inr (.inr hi)))
        have HE := Lib.hid (show LeftA (Tn b j t m p q) w (fun i => Fd i ∨ i = t ∨ i = m) ⟨x, rows7 L x.R⟩ wr from ⟨_, ⟨_, hfin⟩, hcf, HNEW.out⟩)
        clear hfin hcf hmo hch
        go_wp2_with fail
        go_ret
        exact .inl ⟨trivial, rfl, j, HE.out⟩
end Go.Proofs.YtdkgkomjbpggeaaGreatDoor.Tb

namespace Go.Proofs.YtdkgkomjbpggeaaGreatDoor.Dk
open Go.RowKit Tx Pm Pl Pr
set_option linter.unusedVariables false
end Go.Proofs.YtdkgkomjbpggeaaGreatDoor.Dk

namespace Go.Proofs.YtdkgkomjbpggeaaGreatDoor.Dk
open Go.RowKit Tx Pm
set_option linter.unusedVariables false
end Go.Proofs.YtdkgkomjbpggeaaGreatDoor.Dk

namespace Go.Proofs.YtdkgkomjbpggeaaGreatDoor.Dk
open Go.RowKit Tx Pm Pl Pr
set_option linter.unusedVariables false
structure SoundW (s : St) : Prop where
  rises : Rises s.L
  kept : ∀ x ∈ s.L, x.anew = false → x.kept.size ≤ x.data.size
  size : ∀ x ∈ s.L, x.data.size ≤ 1000000000000000000 ∧ x.kept.size ≤ 1000000000000000000
  stamps : s.stamps + s.L.length ≤ 1000000000000
end Go.Proofs.YtdkgkomjbpggeaaGreatDoor.Dk

namespace Go.Proofs.YtdkgkomjbpggeaaGreatDoor.Dk
open Go.RowKit Tx Pm Pl Pr
set_option linter.unusedVariables false
end Go.Proofs.YtdkgkomjbpggeaaGreatDoor.Dk

namespace Go.Proofs.YtdkgkomjbpggeaaGreatDoor.Dk
open Go.RowKit Tx Pm Pl Pr
set_option linter.unusedVariables false
end Go.Proofs.YtdkgkomjbpggeaaGreatDoor.Dk

namespace Go.Proofs.YtdkgkomjbpggeaaGreatDoor.Dk
open Go.RowKit Tx Pm Pl Pr
set_option linter.unusedVariables false
def Own1 (w0 : World) (b bi bl : Nat) (s : St) (W : World) : Prop := ∃ l, Ia b bi bl l W s ∧ Good s ∧ (∀ i, Ft b bi bl i → w0.heap.size ≤ i) ∧ Below w0.heap.size w0 W
theorem Own1.bel {w0 W : World} {b bi bl : Nat} {s : St} (h : Own1 w0 b bi bl s W) : Below w0.heap.size w0 W := by
  obtain ⟨_, _, _, _, h⟩ := h
  exact h
theorem Own1.lt {w0 W : World} {b bi bl : Nat} {s : St} (h : Own1 w0 b bi bl s W) : ∀ i, Ft b bi bl i → i < W.heap.size := by
  obtain ⟨_, h, _⟩ := h
  exact h.lt
theorem Own1.good {w0 W : World} {b bi bl : Nat} {s : St} (h : Own1 w0 b bi bl s W) : Good s := by
  obtain ⟨_, _, h, _⟩ := h
  exact h
theorem Own1.below {w0 W W1 : World} {b bi bl : Nat} {s : St} (h : Own1 w0 b bi bl s W) (hb : Below W.heap.size W W1) : Own1 w0 b bi bl s W1 := by
  obtain ⟨l, h1, h2, h3, h4⟩ := h
  exact ⟨l, h1.below hb, h2, h3, below_call h4 hb⟩
section
variable {w0 W : World} {b bi bl k : Nat} {s s' : St}
end
theorem ok_small {s : St} (hl : s.L.length ≤ 1000) (hp : ∀ x ∈ s.L, x.path.size ≤ 1000) (hd : ∀ x ∈ s.L, x.data.size ≤ 1000000000000000) (hr : s.rooms.length ≤ 1000) (hst : s.steps ≤ 1000) (hsm : s.stamps ≤ 1000) (ha : -1 ≤ s.armed ∧ s.armed ≤ 9223372036854775807) : Ok s := by
  have hw := whole_le (B := 1000000000000000) hd
  have hm : s.L.length * 1000000000000000 ≤ 1000000000000000000 := Nat.le_trans (Nat.mul_le_mul_right _ hl) (by decide)
  exact ⟨⟨by omega, fun x hx => by have := hp x hx; omega, by omega⟩, by omega, by omega, by omega, by omega⟩
end Go.Proofs.YtdkgkomjbpggeaaGreatDoor.Dk

namespace Go.Proofs.YtdkgkomjbpggeaaGreatDoor.Tb
open Go.RowKit Tx Pm Dk Wm Wr Wl Pl Pr
set_option linter.unusedVariables false
set_option linter.unusedSimpArgs false
set_option linter.unnecessarySimpa false
def Open1Ok (s : St) (p q : ByteArray) : Prop := (readS s p).1.size ≤ 500000000 ∧ ((base0 s p).2 = 0 → OpenOk s q ∧ ((openS s q).1 = 0 → RecOk (base0 s p).1 (openS s q).2.R))
def Open7Ok (s : St) (f p q : ByteArray) : Prop := Ok s ∧ ((opened s f).1 = 0 → Open1Ok (opened s f).2 p q) ∧ f.size ≤ 500 ∧ p.size ≤ 1000 ∧ q.size ≤ 1000
def Open7To (b : Nat) (p q : ByteArray) (w : World) (F : Nat → Prop) (r : Nat × Tst) (e : Ending) (w' : World) : Prop :=
  (r.1 = 0 ∧ ∃ t j m, e = .returned (.tuple #[.pointer (some ⟨t, 0, none⟩), .int .i64 0]) ∧ LeftA (Tn b j t m p q) w F r.2 w') ∨ (r.1 ≠ 0 ∧ e = .returned (.tuple #[.pointer none, .int .i64 (r.1 : Nat)]) ∧ Dk.Left (ImpAt b) w F r.2.j.s w')
theorem open_m {s s1 : St} {f p q : ByteArray} {k : Nat} (h : opened s f = (k, s1)) (hk : k ≠ 0) : open7 s f p q = (k, ⟨⟨s1, [], false⟩, []⟩) := by
  unfold open7; rw [h]; exact if_pos hk
theorem open_n {s s1 : St} {f p q : ByteArray} (h : opened s f = (0, s1)) : open7 s f p q = open1 s1 p q := by
  unfold open7; rw [h]; exact if_neg (fun hh => hh rfl)
theorem open1_b {s : St} {p q : ByteArray} {L : List It} {k : Nat} (h : base0 s p = (L, k)) (hk : k ≠ 0) : open1 s p q = (k, ⟨⟨s, [], false⟩, []⟩) := by
  unfold open1; rw [h]; exact if_pos hk
theorem open1_l {s : St} {p q : ByteArray} {L : List It} {k : Nat} {y : Jst} (h : base0 s p = (L, 0)) (h2 : openS s q = (k, y)) (hk : k ≠ 0) : open1 s p q = (k, ⟨y, []⟩) := by
  unfold open1; rw [h]; simp only [h2]; rw [if_neg (fun hh => hh rfl)]; exact if_pos hk
theorem open1_o {s : St} {p q : ByteArray} {L : List It} {y : Jst} (h : base0 s p = (L, 0)) (h2 : openS s q = (0, y)) : open1 s p q = (0, ⟨y, rows7 L y.R⟩) := by
  unfold open1; rw [h]; simp only [h2]; rw [if_neg (fun hh => hh rfl)]; exact if_neg (fun hh => hh rfl)
theorem base_rises (s : St) (p : ByteArray) : Rises (base0 s p).1 ∧ Plain (base0 s p).1 := by
  have h0 : Rises ([] : List It) := List.Pairwise.nil
  have h1 : Plain ([] : List It) := fun x hx => by cases hx
  by_cases hk : kind s.L p = 0
  · rw [base_0 hk]; exact ⟨h0, h1⟩
  · obtain ⟨d, e1, hrd⟩ : ∃ d e, readS s p = (d, e) := ⟨_, _, rfl⟩
    by_cases he1 : e1 = 0
    · subst he1
      obtain ⟨r, n, e2, hfr⟩ := Fm.trip (Fm.fr d)
      by_cases he2 : e2 = 0
      · subst he2
        by_cases hn : n < d.size
        · rw [base_3 hk hrd hfr hn]; exact ⟨h0, h1⟩
        · obtain ⟨l, e3, h3⟩ : ∃ l e, opsS r = (l, e) := ⟨_, _, rfl⟩
          by_cases he3 : e3 = 0
          · subst he3
            rw [base_5 hk hrd hfr hn h3]
            exact ⟨rises_all h0 l, plain_all h1 l⟩
          · rw [base_4 hk hrd hfr hn h3 he3]; exact ⟨h0, h1⟩
      · rw [base_2 hk hrd hfr he2]; exact ⟨h0, h1⟩
    · rw [base_1 hk hrd he1]; exact ⟨h0, h1⟩
def New2 (W : World) (b : Nat) (p : ByteArray) : World := (W.alloc (.map #[] 0)).alloc (.cells #[.pointer (some ⟨b, 0, none⟩), .string p, .pointer none, .map (some W.heap.size)] 69)
theorem new2 (W : World) (b : Nat) (p : ByteArray) : Below W.heap.size W (New2 W b p) ∧ (New2 W b p).heap[W.heap.size + 1]? = some (.cells #[.pointer (some ⟨b, 0, none⟩), .string p, .pointer none, .map (some W.heap.size)] 69 (0, 0)) ∧ Mo (New2 W b p) W.heap.size [] := by
  refine ⟨((Below.refl _ W).alloc (Nat.le_refl _) _).alloc (by simp) _, new_at _ _ (by simp), (mo_made W).kept (((Below.refl (W.alloc (.map #[] 0)).heap.size _).alloc (Nat.le_refl _) _).block _ (by simp))⟩
theorem imp_mkdir {b : Nat} {F : Nat → Prop} {s s' : St} {w : World} {k : Nat} (P : ByteArray) (h : ImpAt b w F s) (ok : Ok s) (hP : P.size ≤ 8000000000000) (hk : mkdirS s P = (k, s')) : Calls Tryz.prog 25 #[.pointer (some ⟨b, 0, none⟩), .string P] w (Dos (ImpAt b) w F k s') := by
  obtain ⟨bi, bl, l, hI, hg, hF⟩ := h
  have c := iMkdir_any b bi bl l _ P _ hI hg ok hP
  have hg' := good_mkdir (p := P) hg
  rw [hk] at c hg'
  exact c.mono fun e w' ht => does_of' (r := (k, s')) hg' hF ht
def At1 (b : Nat) (w : World) (F : Nat → Prop) (s1 : St) (W : World) : Prop := ∃ F1, ImpAt b W F1 s1 ∧ Chg F w W ∧ ∀ g, F1 g → F g ∨ w.heap.size ≤ g
theorem At1.below {b : Nat} {w W W2 : World} {F : Nat → Prop} {s1 : St} (h : At1 b w F s1 W) (hb : Below W.heap.size W W2) : At1 b w F s1 W2 := by
  obtain ⟨F1, h1, h2, h3⟩ := h
  exact ⟨F1, (imp_kind b).kept h1 (fun i hi => hb.block i ((imp_kind b).lt h1 i hi)), h2.then (Chg.of_below hb), h3⟩
theorem At1.left {b : Nat} {w W : World} {F : Nat → Prop} {s1 : St} (h : At1 b w F s1 W) : Dk.Left (ImpAt b) w F s1 W := h
theorem At1.based {b t m : Nat} {p : ByteArray} {w W W2 : World} {F : Nat → Prop} {s1 : St} (h : At1 b w F s1 W) (hm : W.heap.size ≤ m) (hc : Chg (· = m) (New2 W b p) W2) : At1 b w F s1 W2 := by
  have hb := (new2 W b p).1
  obtain ⟨F1, h1, h2, h3⟩ := h
  have hlt := (imp_kind b).lt h1
  have hs := hb.size
  have hs2 := h2.size
  exact ⟨F1, (imp_kind b).kept h1 (fun i hi => (hc.block i (by have := hlt i hi; have := (Chg.of_below (F := F) hb).size; omega) (fun e => by have := hlt i hi; omega)).trans (hb.block i (hlt i hi))), (h2.then (Chg.of_below hb)).trans hc (fun i hi => .inr (by omega)), h3⟩
theorem base_call {b : Nat} {w W : World} {F : Nat → Prop} {s1 : St} {p : ByteArray} (h : At1 b w F s1 W) (hp : p.size ≤ 1000) (hs : (readS s1 p).1.size ≤ 500000000) :
    Calls Tryz.prog 27 #[.pointer (some ⟨W.heap.size + 1, 0, none⟩)] (New2 W b p) fun e w' => e = .returned (.int .i64 ((base0 s1 p).2 : Nat)) ∧ Mo w' W.heap.size (based s1 p) ∧ Chg (· = W.heap.size) (New2 W b p) w' := by
  obtain ⟨n1, n2, n3⟩ := new2 W b p
  obtain ⟨F1, h1, h2, h3⟩ := h.below n1
  refine takeBase_any b (W.heap.size + 1) W.heap.size p _ ?_ ?_ ?_ n3 h1 hp hs
  all_goals unfold World.cell?; rw [n2]; rfl
theorem log_call {b : Nat} {w W W2 W3 : World} {F : Nat → Prop} {s1 : St} {L : List It} {p q : ByteArray} (h : At1 b w F s1 W) (hm : Mo W2 W.heap.size L) (hc : Chg (· = W.heap.size) (New2 W b p) W2) (hb : Below W2.heap.size W2 W3) (hL : Rises L ∧ Plain L) (o : OpenOk s1 q) (hq : q.size ≤ 1000) (hrec : (openS s1 q).1 = 0 → RecOk L (openS s1 q).2.R) :
    Calls Tryz.prog 28 #[.pointer (some ⟨W.heap.size + 1, 0, none⟩), .string q] W3 fun e w' =>
      ((openS s1 q).1 = 0 ∧ e = .returned (.int .i64 0) ∧ ∃ j, LeftA (Tn b j (W.heap.size + 1) W.heap.size p q) w F ⟨(openS s1 q).2, rows7 L (openS s1 q).2.R⟩ w') ∨ ((openS s1 q).1 ≠ 0 ∧ e = .returned (.int .i64 ((openS s1 q).1 : Nat)) ∧ Dk.Left (ImpAt b) w F (openS s1 q).2.s w') := by
  obtain ⟨n1, n2, n3⟩ := new2 W b p
  obtain ⟨F1, h1, h2, h3⟩ := h
  have hlt := (imp_kind b).lt h1
  have hsN : (New2 W b p).heap.size = W.heap.size + 1 + 1 := by unfold New2; simp
  have hsz := hc.size
  have hs0 := h2.size
  have hA := (At1.based (t := W.heap.size + 1) (m := W.heap.size) (p := p) ⟨F1, h1, h2, h3⟩ (Nat.le_refl _) hc).below hb
  have h1' : ImpAt b W3 F1 s1 := (imp_kind b).kept h1 (fun i hi => (hb.block i (by have := hlt i hi; omega)).trans ((hc.block i (by have := hlt i hi; omega) (fun e => by have := hlt i hi; omega)).trans (n1.block i (hlt i hi))))
  have hblk : W3.heap[W.heap.size + 1]? = _ := (hb.block _ (by omega)).trans ((hc.block _ (by omega) (by omega)).trans n2)
  have hm3 := hm.below hb
  have hch : Chg F w W3 := ((h2.then (Chg.of_below n1)).trans hc (fun i hi => .inr (by omega))).then (Chg.of_below hb)
  refine (takeLog_any b (W.heap.size + 1) W.heap.size p q W3 hblk hm3 h1' ⟨fun hh => by have := hlt _ hh; omega, fun hh => by have := hlt _ hh; omega⟩ hL.1 hL.2 o hq hrec).mono ?_
  intro e w' hh
  rcases hh with ⟨e0, he, j, hl⟩ | ⟨e0, he, hl⟩
  · exact .inl ⟨e0, he, j, left_trans7 hch (F1 := fun i => F1 i ∨ i = W.heap.size + 1 ∨ i = W.heap.size) (fun g hg => by
      rcases hg with hg | rfl | rfl
      · exact h3 g hg
      · exact .inr (by omega)
      · exact .inr hs0) hl⟩
  · exact .inr ⟨e0, he, Wl.left_trans hch h3 hl⟩
set_option maxRecDepth 100000 in
set_option maxHeartbeats 4000000 in
theorem open_any (b : Nat) {F : Nat → Prop} {s : St} (f p q : ByteArray) (w : World) (h : ImpAt b w F s) (hp : tb (joi f.data.toList [98, 97, 115, 101]) = p) (hq : tb (joi f.data.toList [108, 111, 103]) = q) (o : Open7Ok s f p q) :
    Calls Tryz.prog 7 #[.pointer (some ⟨b, 0, none⟩), .string f] w (Open7To b p q w F (open7 s f p q)) := by
  obtain ⟨o1, o2, o3, o4, o5⟩ := o
  have ck := iw_kind f h (by omega)
  have cjp := fun W => pJoin_any f ⟨#[98, 97, 115, 101]⟩ W (by show f.size + 4 ≤ _; omega)
  have cjq := fun W => pJoin_any f ⟨#[108, 111, 103]⟩ W (by show f.size + 3 ≤ _; omega)
  have hmm := @run_makeMap Tryz.prog
  rw [show (⟨#[98, 97, 115, 101]⟩ : ByteArray).data.toList = [98, 97, 115, 101] from rfl, hp] at cjp
  rw [show (⟨#[108, 111, 103]⟩ : ByteArray).data.toList = [108, 111, 103] from rfl, hq] at cjq
  obtain ⟨k1, s1, hop⟩ : ∃ k s1, opened s f = (k, s1) := ⟨_, _, rfl⟩
  unfold Open7To
  by_cases hk : kind s.L f = 0
  · have hmk : mkdirS s f = (k1, s1) := by unfold opened at hop; rwa [if_pos hk] at hop
    have cm := fun W (hW : w = W) => imp_mkdir f (hW ▸ h) o1 (by omega) hmk
    rw [hk] at ck
    by_cases hk1 : k1 ≠ 0
    · rw [open_m hop hk1]
      have nk := neZ hk1
      have HK := Lib.hid hk1
      clear h hp hq o1 o2 o3 o4 o5 hk hk1 hop hmk cjp cjq hmm
      go_enter Tryz.func7, Tryz.ntmps7
      go_wp2_with fail
      go_at_call 24
      refine ck.mono ?_
      rintro e w1 ⟨rfl, rfl⟩
      go_wp2_with fail
      go_at_call 25
      refine (cm _ rfl).mono ?_
      rintro e w2 ⟨rfl, h2⟩
      go_wp2_with fail
      go_ret2
      exact .inr ⟨HK.out, rfl, h2⟩
    · obtain rfl : k1 = 0 := by omega
      rw [hop] at o2
      obtain ⟨q1, q2⟩ := o2 rfl
      simp only at q1 q2
      rw [open_n hop]
      clear h hp hq o1 o2 hk hk1 hop hmk
      obtain ⟨L, kb, hbase⟩ : ∃ L k, base0 s1 p = (L, k) := ⟨_, _, rfl⟩
      have hrp := base_rises s1 p
      rw [hbase] at q2 hrp
      simp only at q2 hrp
      by_cases hkb : kb = 0
      · subst hkb
        obtain ⟨q3, q4⟩ := q2 rfl
        have hbd : based s1 p = L := by unfold based; rw [hbase]; rfl
        have HBA := Lib.hid hbase
        have HBD := Lib.hid hbd
        have HRP := Lib.hid hrp
        have HQ3 := Lib.hid q3
        have HQ4 := Lib.hid q4
        clear hbase hbd hrp q2 q3 q4
        go_enter Tryz.func7, Tryz.ntmps7
        go_wp2_with fail
        go_at_call 24
        refine ck.mono ?_
        rintro e w1 ⟨rfl, rfl⟩
        go_wp2_with fail
        go_at_call 25
        refine (cm _ rfl).mono ?_
        rintro e w2 ⟨rfl, h2⟩
        have hA2 : At1 b w F s1 w2 := h2
        go_wp2_with fail
        go_at_call 26
        refine (cjp _).mono ?_
        rintro e w3 ⟨rfl, hb3⟩
        have hA3 := hA2.below hb3
        have cb := base_call hA3 o4 q1
        rw [HBA.out, HBD.out] at cb
        unfold New2 at cb
        go_wp2_with fail
        go_at_call 27
        refine cb.mono ?_
        rintro e w5 ⟨rfl, hm5, hc5⟩
        have HC5 := Lib.hid (show Chg (· = w3.heap.size) (New2 w3 b p) w5 from hc5)
        have HM5 := Lib.hid hm5
        have HA3 := Lib.hid hA3
        clear hm5 hc5 hA3 cb
        go_wp2_with fail
        go_at_call 26
        refine (cjq _).mono ?_
        rintro e w6 ⟨rfl, hb6⟩
        have cl := log_call HA3.out HM5.out HC5.out hb6 HRP.out HQ3.out o5 HQ4.out
        clear hb6
        obtain ⟨kl, y, hol⟩ : ∃ k y, openS s1 q = (k, y) := ⟨_, _, rfl⟩
        rw [hol] at cl
        simp only at cl
        by_cases hkl : kl = 0
        · subst hkl
          have cl2 := cl.mono (R' := fun e w' => e = .returned (.int .i64 0) ∧ ∃ j, LeftA (Tn b j (w3.heap.size + 1) w3.heap.size p q) w F ⟨y, rows7 L y.R⟩ w') (fun e w' hh => by
            rcases hh with ⟨_, he, hl⟩ | ⟨h0, _⟩
            · exact ⟨he, hl⟩
            · exact absurd rfl h0)
          have HO := Lib.hid (open1_o HBA.out hol)
          clear cl hol
          go_wp2_with fail
          go_at_call 28
          refine cl2.mono ?_
          rintro e w7 ⟨rfl, j, h7⟩
          go_wp2_with fail
          go_ret2
          rw [HO.out]
          exact .inl ⟨rfl, _, _, _, rfl, h7⟩
        · have cl2 := cl.mono (R' := fun e w' => e = .returned (.int .i64 (kl : Nat)) ∧ Dk.Left (ImpAt b) w F y.s w') (fun e w' hh => by
            rcases hh with ⟨h0, _⟩ | ⟨_, he, hl⟩
            · exact absurd h0 hkl
            · exact ⟨he, hl⟩)
          have HO := Lib.hid (open1_l HBA.out hol hkl)
          have nl := neZ hkl
          have HKL := Lib.hid hkl
          clear cl hol hkl
          go_wp2_with fail
          go_at_call 28
          refine cl2.mono ?_
          rintro e w7 ⟨rfl, h7⟩
          go_wp2_with fail
          go_ret2
          rw [HO.out]
          exact .inr ⟨HKL.out, rfl, h7⟩
      · have HO := Lib.hid (open1_b (q := q) hbase hkb)
        have nb := neZ hkb
        have HKB := Lib.hid hkb
        have HBA := Lib.hid hbase
        clear hbase hrp q2 hkb
        go_enter Tryz.func7, Tryz.ntmps7
        go_wp2_with fail
        go_at_call 24
        refine ck.mono ?_
        rintro e w1 ⟨rfl, rfl⟩
        go_wp2_with fail
        go_at_call 25
        refine (cm _ rfl).mono ?_
        rintro e w2 ⟨rfl, h2⟩
        have hA2 : At1 b w F s1 w2 := h2
        go_wp2_with fail
        go_at_call 26
        refine (cjp _).mono ?_
        rintro e w3 ⟨rfl, hb3⟩
        have hA3 := hA2.below hb3
        have cb := base_call hA3 o4 q1
        rw [HBA.out] at cb
        unfold New2 at cb
        go_wp2_with fail
        go_at_call 27
        refine cb.mono ?_
        rintro e w5 ⟨rfl, hm5, hc5⟩
        have HE := Lib.hid (At1.based (t := w3.heap.size + 1) hA3 (Nat.le_refl _) (show Chg (· = w3.heap.size) (New2 w3 b p) w5 from hc5))
        clear hm5 hc5 hA3 cb
        go_wp2_with fail
        go_ret2
        rw [HO.out]
        exact .inr ⟨HKB.out, rfl, HE.out⟩
  · have hk1 : k1 = 0 ∧ s1 = s := by
      unfold opened at hop
      rw [if_neg hk] at hop
      simp only [Prod.mk.injEq] at hop
      exact ⟨hop.1.symm, hop.2.symm⟩
    obtain ⟨rfl, rfl⟩ := hk1
    rw [hop] at o2
    obtain ⟨q1, q2⟩ := o2 rfl
    simp only at q1 q2
    rw [open_n hop]
    have nk := neZ hk
    have hA : At1 b w F s1 w := ⟨F, h, Chg.refl _ _, fun g hg => .inl hg⟩
    have HA := Lib.hid (fun W (hW : w = W) => (hW ▸ hA : At1 b w F s1 W))
    generalize kind s1.L f = K at ck nk
    clear h hp hq o1 o2 hk hop hA
    obtain ⟨L, kb, hbase⟩ : ∃ L k, base0 s1 p = (L, k) := ⟨_, _, rfl⟩
    have hrp := base_rises s1 p
    rw [hbase] at q2 hrp
    simp only at q2 hrp
    by_cases hkb : kb = 0
    · subst hkb
      obtain ⟨q3, q4⟩ := q2 rfl
      have hbd : based s1 p = L := by unfold based; rw [hbase]; rfl
      have HBA := Lib.hid hbase
      have HBD := Lib.hid hbd
      have HRP := Lib.hid hrp
      have HQ3 := Lib.hid q3
      have HQ4 := Lib.hid q4
      clear hbase hbd hrp q2 q3 q4
      go_enter Tryz.func7, Tryz.ntmps7
      go_wp2_with fail
      go_at_call 24
      refine ck.mono ?_
      rintro e w1 ⟨rfl, rfl⟩
      have hA2 := HA.out _ rfl
      go_wp2_with fail
      go_at_call 26
      refine (cjp _).mono ?_
      rintro e w3 ⟨rfl, hb3⟩
      have hA3 := hA2.below hb3
      have cb := base_call hA3 o4 q1
      rw [HBA.out, HBD.out] at cb
      unfold New2 at cb
      go_wp2_with fail
      go_at_call 27
      refine cb.mono ?_
      rintro e w5 ⟨rfl, hm5, hc5⟩
      have HC5 := Lib.hid (show Chg (· = w3.heap.size) (New2 w3 b p) w5 from hc5)
      have HM5 := Lib.hid hm5
      have HA3 := Lib.hid hA3
      clear hm5 hc5 hA3 cb
      go_wp2_with fail
      go_at_call 26
      refine (cjq _).mono ?_
      rintro e w6 ⟨rfl, hb6⟩
      have cl := log_call HA3.out HM5.out HC5.out hb6 HRP.out HQ3.out o5 HQ4.out
      clear hb6
      obtain ⟨kl, y, hol⟩ : ∃ k y, openS s1 q = (k, y) := ⟨_, _, rfl⟩
      rw [hol] at cl
      simp only at cl
      by_cases hkl : kl = 0
      · subst hkl
        have cl2 := cl.mono (R' := fun e w' => e = .returned (.int .i64 0) ∧ ∃ j, LeftA (Tn b j (w3.heap.size + 1) w3.heap.size p q) w F ⟨y, rows7 L y.R⟩ w') (fun e w' hh => by
          rcases hh with ⟨_, he, hl⟩ | ⟨h0, _⟩
          · exact ⟨he, hl⟩
          · exact absurd rfl h0)
        have HO := Lib.hid (open1_o HBA.out hol)
        clear cl hol
        go_wp2_with fail
        go_at_call 28
        refine cl2.mono ?_
        rintro e w7 ⟨rfl, j, h7⟩
        go_wp2_with fail
        go_ret2
        rw [HO.out]
        exact .inl ⟨rfl, _, _, _, rfl, h7⟩
      · have cl2 := cl.mono (R' := fun e w' => e = .returned (.int .i64 (kl : Nat)) ∧ Dk.Left (ImpAt b) w F y.s w') (fun e w' hh => by
          rcases hh with ⟨h0, _⟩ | ⟨_, he, hl⟩
          · exact absurd h0 hkl
          · exact ⟨he, hl⟩)
        have HO := Lib.hid (open1_l HBA.out hol hkl)
        have nl := neZ hkl
        have HKL := Lib.hid hkl
        clear cl hol hkl
        go_wp2_with fail
        go_at_call 28
        refine cl2.mono ?_
        rintro e w7 ⟨rfl, h7⟩
        go_wp2_with fail
        go_ret2
        rw [HO.out]
        exact .inr ⟨HKL.out, rfl, h7⟩
    · have HO := Lib.hid (open1_b (q := q) hbase hkb)
      have nb := neZ hkb
      have HKB := Lib.hid hkb
      have HBA := Lib.hid hbase
      clear hbase hrp q2 hkb
      go_enter Tryz.func7, Tryz.ntmps7
      go_wp2_with fail
      go_at_call 24
      refine ck.mono ?_
      rintro e w1 ⟨rfl, rfl⟩
      have hA2 := HA.out _ rfl
      go_wp2_with fail
      go_at_call 26
      refine (cjp _).mono ?_
      rintro e w3 ⟨rfl, hb3⟩
      have hA3 := hA2.below hb3
      have cb := base_call hA3 o4 q1
      rw [HBA.out] at cb
      unfold New2 at cb
      go_wp2_with fail
      go_at_call 27
      refine cb.mono ?_
      rintro e w5 ⟨rfl, hm5, hc5⟩
      have HE := Lib.hid (At1.based (t := w3.heap.size + 1) hA3 (Nat.le_refl _) (show Chg (· = w3.heap.size) (New2 w3 b p) w5 from hc5))
      clear hm5 hc5 hA3 cb
      go_wp2_with fail
      go_ret2
      rw [HO.out]
      exact .inr ⟨HKB.out, rfl, HE.out⟩
end Go.Proofs.YtdkgkomjbpggeaaGreatDoor.Tb

namespace Go.Proofs.YtdkgkomjbpggeaaGreatDoor.Wl
open Go.RowKit Tx Pm Pl Pr Dk Fr
set_option linter.unusedVariables false
def Own {α : Type} (Obj : World → (Nat → Prop) → α → Prop) (w0 : World) (x : α) (W : World) : Prop := ∃ F, Obj W F x ∧ (∀ i, F i → w0.heap.size ≤ i) ∧ Below w0.heap.size w0 W
section
variable {α β : Type} {Obj : World → (Nat → Prop) → α → Prop} {Obj' : World → (Nat → Prop) → β → Prop} {w0 W : World} {x : α} {y : β}
theorem Own.bel (h : Own Obj w0 x W) : Below w0.heap.size w0 W := by
  obtain ⟨_, _, _, h⟩ := h
  exact h
theorem own_left {F : Nat → Prop} {w' : World} (h1 : ∀ i, F i → w0.heap.size ≤ i) (h2 : Below w0.heap.size w0 W) (h : LeftA Obj' W F y w') : Own Obj' w0 y w' := by
  obtain ⟨F', h3, h4, h5⟩ := h
  have hs := h2.size
  exact ⟨F', h3, fun i hi => (h5 i hi).elim (fun hh => h1 i hh) (fun hh => by omega), h2.trans ⟨h4.os, h4.tape, h4.output, h4.size, fun i hi => h4.block i (Nat.lt_of_lt_of_le hi hs) (fun hf => by have := h1 i hf; omega)⟩⟩
theorem Own.call {f : FuncId} {args : Array Value} {P : Ending → Prop} (h : Own Obj w0 x W) (hc : ∀ F, Obj W F x → Calls Tryz.prog f args W fun e w' => P e ∧ LeftA Obj' W F y w') : Calls Tryz.prog f args W fun e w' => P e ∧ Own Obj' w0 y w' := by
  obtain ⟨F, h1, h2, h3⟩ := h
  exact (hc F h1).mono fun e w' hh => ⟨hh.1, own_left h2 h3 hh.2⟩
theorem Own.kept (hk : ∀ {w w1 : World} {F : Nat → Prop} {x : α}, Obj w F x → Below w.heap.size w w1 → Obj w1 F x) {w' : World} (h : Own Obj w0 x W) (hb : Below W.heap.size W w') : Own Obj w0 x w' := by
  obtain ⟨F, h1, h2, h3⟩ := h
  exact ⟨F, hk h1 hb, h2, below_call h3 hb⟩
end
abbrev Jb (b j : Nat) : World → (Nat → Prop) → Jst → Prop := Jn (ImpAt b) 132 b j pL
section
variable {w0 W : World} {b j k : Nat} {s s' : St} {x y : Jst}
theorem Own.disk (h : Own (Jb b j) w0 x W) : Own (ImpAt b) w0 x.s W := by
  obtain ⟨F, ⟨v, Fd, h1⟩, h2, h3⟩ := h
  exact ⟨Fd, h1.dsk, fun i hi => h2 i ((h1.foot i).2 (.inl hi)), h3⟩
theorem w_new (w0 : World) {W : World} (hb : Below w0.heap.size w0 W) : Calls Tryz.prog 6 #[] W fun e w' => ∃ b, e = .returned (.pointer (some ⟨b, 0, none⟩)) ∧ Own (ImpAt b) w0 newS w' :=
  (iNew_any W).mono fun e w' ⟨b, bi, bl, he, hI, hF, hb1⟩ => ⟨b, he, Ft b bi bl, ⟨bi, bl, -1, hI, good_new, fun _ => Iff.rfl⟩, fun i hi => Nat.le_trans hb.size (hF i hi), below_call hb hb1⟩
end
theorem ok_new : Ok newS := ok_small (by decide) (by decide) (by decide) (by decide) (by decide) (by decide) (by decide)
end Go.Proofs.YtdkgkomjbpggeaaGreatDoor.Wl

namespace Go.Proofs.YtdkgkomjbpggeaaGreatDoor.Wl
open Go.RowKit Tx Pm Pl Pr Dk
set_option linter.unusedVariables false
end Go.Proofs.YtdkgkomjbpggeaaGreatDoor.Wl

namespace Go.Proofs.YtdkgkomjbpggeaaGreatDoor.Wl
open Go.RowKit Tx Pm Pl Pr Dk Fr
set_option linter.unusedVariables false
structure Stop (l : List ByteArray) (n k : Nat) (loss : Int) (s : St) : Prop where
  sound : SoundW s
  fit : s.L.length ≤ 1000000000 ∧ ∀ x ∈ s.L, x.path.size ≤ 8000000000000
  back : ∃ (c : ByteArray) (sn st sm : Nat), restartS s loss = J c sn st sm (-1) ∧ OpenOk (J c sn st sm (-1)) pL ∧ ∃ (R : List ByteArray) (sn' st' sm' : Nat), (R = l.take k ∨ (k < n ∧ R = l.take (k + 1))) ∧ openS (J c sn st sm (-1)) pL = (0, ⟨J (PK R) sn' st' sm' (-1), R, false⟩) ∧ st' ≤ 1000 ∧ sm' ≤ 1000
end Go.Proofs.YtdkgkomjbpggeaaGreatDoor.Wl

namespace Go.Proofs.YtdkgkomjbpggeaaGreatDoor.Tb
open Go.RowKit Tx Pm Dk Wm Wr Wl
set_option linter.unusedVariables false
set_option linter.unusedSimpArgs false
set_option linter.unnecessarySimpa false
def pS : ByteArray := ⟨#[115, 121, 115]⟩
def pB : ByteArray := ⟨#[115, 121, 115, 47, 98, 97, 115, 101]⟩
def pBT : ByteArray := ⟨#[115, 121, 115, 47, 98, 97, 115, 101, 95, 116]⟩
def pG : ByteArray := ⟨#[115, 121, 115, 47, 108, 111, 103]⟩
def pGT : ByteArray := ⟨#[115, 121, 115, 47, 108, 111, 103, 95, 116]⟩
theorem pB_tT : pB ++ tT = pBT := by decide +kernel
theorem pG_tT : pG ++ tT = pGT := by decide +kernel
def dirS : It := ⟨pS, true, ⟨#[]⟩, ⟨#[]⟩, false, false, 0⟩
structure Fi where
  data : ByteArray
  kept : ByteArray
  loose : Bool
  anew : Bool
  stamp : Nat
def sy (d : ByteArray) (n : Nat) : Fi := ⟨d, d, false, false, n⟩
def oit (p : ByteArray) : Option Fi → List It
  | none => []
  | some f => [⟨p, false, f.data, f.kept, f.loose, f.anew, f.stamp⟩]
def keptOf : Option Fi → ByteArray
  | none => ⟨#[]⟩
  | some f => f.kept
def T7 (B BT G GT : Option Fi) (st sm : Nat) (a : Int) (dn : Bool) : St := ⟨dirS :: (oit pB B ++ (oit pBT BT ++ (oit pG G ++ oit pGT GT))), [], st, sm, a, dn⟩
section
variable {B BT G GT : Option Fi} {g f : Fi} {d : ByteArray} {st sm : Nat} {a : Int} {dn : Bool}
theorem k_sys : kind (T7 B BT G GT st sm a dn).L pS = 1 := by cases B <;> cases BT <;> cases G <;> cases GT <;> kernel_rfl
theorem k_base0 : kind (T7 none BT G GT st sm a dn).L pB = 0 := by cases BT <;> cases G <;> cases GT <;> kernel_rfl
theorem k_base : kind (T7 (some f) BT G GT st sm a dn).L pB = 2 := by cases BT <;> cases G <;> cases GT <;> kernel_rfl
theorem k_log0 : kind (T7 B BT none GT st sm a dn).L pG = 0 := by cases B <;> cases BT <;> cases GT <;> kernel_rfl
theorem k_log : kind (T7 B BT (some g) GT st sm a dn).L pG = 2 := by cases B <;> cases BT <;> cases GT <;> kernel_rfl
theorem r_base : readS (T7 (some f) BT G GT st sm a false) pB = (f.data, 0) := by cases BT <;> cases G <;> cases GT <;> kernel_rfl
theorem r_base0 : readS (T7 none BT G GT st sm a false) pB = (⟨#[]⟩, 11) := by cases BT <;> cases G <;> cases GT <;> kernel_rfl
theorem r_log : readS (T7 B BT (some g) GT st sm a false) pG = (g.data, 0) := by cases B <;> cases BT <;> cases GT <;> kernel_rfl
theorem o_log : (old (T7 B BT (some g) GT st sm a dn).L pG).data = g.data := by cases B <;> cases BT <;> cases GT <;> kernel_rfl
theorem t_append (ha : a ≠ 0) : appendS (T7 B BT (some g) GT st sm a false) pG d = (0, T7 B BT (some ⟨g.data ++ d, g.kept, true, g.anew, sm + 1⟩) GT (st + 1) (sm + 1) (dec a) false) := by
  unfold appendS
  rw [fits_none rfl]
  unfold T7
  rw [done_open ha]
  cases B <;> cases BT <;> cases GT <;> kernel_rfl
theorem t_append0 : appendS (T7 B BT (some g) GT st sm 0 false) pG d = (14, T7 B BT (some g) GT st sm (-1) true) := by
  unfold appendS
  rw [fits_none rfl]
  cases B <;> cases BT <;> cases GT <;> kernel_rfl
theorem t_sync (ha : a ≠ 0) : syncS (T7 B BT (some g) GT st sm a false) pG = (0, T7 B BT (some ⟨g.data, g.data, false, false, g.stamp⟩) GT (st + 1) sm (dec a) false) := by
  unfold syncS T7
  rw [done_open ha]
  cases B <;> cases BT <;> cases GT <;> kernel_rfl
theorem t_sync0 : syncS (T7 B BT (some g) GT st sm 0 false) pG = (14, T7 B BT (some g) GT st sm (-1) true) := by
  unfold syncS
  cases B <;> cases BT <;> cases GT <;> kernel_rfl
theorem b_write (ha : a ≠ 0) : writeS (T7 B BT G GT st sm a false) pBT d = (0, T7 B (some ⟨d, keptOf BT, true, true, sm + 1⟩) G GT (st + 1) (sm + 1) (dec a) false) := by
  unfold writeS
  rw [fits_none rfl]
  unfold T7
  rw [done_open ha]
  cases B <;> cases BT <;> cases G <;> cases GT <;> kernel_rfl
theorem b_write0 : writeS (T7 B BT G GT st sm 0 false) pBT d = (14, T7 B BT G GT st sm (-1) true) := by
  unfold writeS
  rw [fits_none rfl]
  cases B <;> cases BT <;> cases G <;> cases GT <;> kernel_rfl
theorem b_sync (ha : a ≠ 0) : syncS (T7 B (some f) G GT st sm a false) pBT = (0, T7 B (some ⟨f.data, f.data, false, false, f.stamp⟩) G GT (st + 1) sm (dec a) false) := by
  unfold syncS T7
  rw [done_open ha]
  cases B <;> cases G <;> cases GT <;> kernel_rfl
theorem b_sync0 : syncS (T7 B (some f) G GT st sm 0 false) pBT = (14, T7 B (some f) G GT st sm (-1) true) := by
  unfold syncS
  cases B <;> cases G <;> cases GT <;> kernel_rfl
theorem b_rename (ha : a ≠ 0) : renameS (T7 B (some f) G GT st sm a false) pBT pB = (0, T7 (some ⟨f.data, f.kept, f.loose, f.anew, sm + 1⟩) none G GT (st + 1) (sm + 1) (dec a) false) := by
  unfold renameS
  rw [fits_none rfl]
  unfold T7
  rw [done_open ha]
  cases B <;> cases G <;> cases GT <;> kernel_rfl
theorem b_rename0 : renameS (T7 B (some f) G GT st sm 0 false) pBT pB = (14, T7 B (some f) G GT st sm (-1) true) := by
  unfold renameS
  rw [fits_none rfl]
  cases B <;> cases G <;> cases GT <;> kernel_rfl
theorem g_write (ha : a ≠ 0) : writeS (T7 B BT G GT st sm a false) pGT d = (0, T7 B BT G (some ⟨d, keptOf GT, true, true, sm + 1⟩) (st + 1) (sm + 1) (dec a) false) := by
  unfold writeS
  rw [fits_none rfl]
  unfold T7
  rw [done_open ha]
  cases B <;> cases BT <;> cases G <;> cases GT <;> kernel_rfl
theorem g_write0 : writeS (T7 B BT G GT st sm 0 false) pGT d = (14, T7 B BT G GT st sm (-1) true) := by
  unfold writeS
  rw [fits_none rfl]
  cases B <;> cases BT <;> cases G <;> cases GT <;> kernel_rfl
theorem g_sync (ha : a ≠ 0) : syncS (T7 B BT G (some f) st sm a false) pGT = (0, T7 B BT G (some ⟨f.data, f.data, false, false, f.stamp⟩) (st + 1) sm (dec a) false) := by
  unfold syncS T7
  rw [done_open ha]
  cases B <;> cases BT <;> cases G <;> kernel_rfl
theorem g_sync0 : syncS (T7 B BT G (some f) st sm 0 false) pGT = (14, T7 B BT G (some f) st sm (-1) true) := by
  unfold syncS
  cases B <;> cases BT <;> cases G <;> kernel_rfl
theorem g_rename (ha : a ≠ 0) : renameS (T7 B BT G (some f) st sm a false) pGT pG = (0, T7 B BT (some ⟨f.data, f.kept, f.loose, f.anew, sm + 1⟩) none (st + 1) (sm + 1) (dec a) false) := by
  unfold renameS
  rw [fits_none rfl]
  unfold T7
  rw [done_open ha]
  cases B <;> cases BT <;> cases G <;> kernel_rfl
theorem g_rename0 : renameS (T7 B BT G (some f) st sm 0 false) pGT pG = (14, T7 B BT G (some f) st sm (-1) true) := by
  unfold renameS
  rw [fits_none rfl]
  cases B <;> cases BT <;> cases G <;> kernel_rfl
theorem n_mkdir : mkdirS newS pS = (0, T7 none none none none 1 0 (-1) false) := by kernel_rfl
end
end Go.Proofs.YtdkgkomjbpggeaaGreatDoor.Tb

namespace Go.Proofs.YtdkgkomjbpggeaaGreatDoor.Tb
open Go.RowKit Tx Pm Dk Wm Wr Wl
set_option linter.unusedVariables false
set_option linter.unusedSimpArgs false
set_option linter.unnecessarySimpa false
def Fok (f : Fi) : Prop := f.data.size ≤ 20000000000 ∧ f.kept.size ≤ 20000000000 ∧ (f.anew = false → f.kept.size ≤ f.data.size) ∧ (f.loose = false → f.kept = f.data ∧ f.anew = false)
def Ook (o : Option Fi) : Prop := ∀ f, o = some f → Fok f
theorem ook_none : Ook none := fun f h => by cases h
theorem ook_sy {d : ByteArray} {n : Nat} (h : d.size ≤ 20000000000) : Ook (some (sy d n)) := fun f hf => by
  injection hf with hf
  subst hf
  exact ⟨h, h, fun _ => Nat.le_refl _, fun _ => ⟨rfl, rfl⟩⟩
theorem ook_raw {d k : ByteArray} {n : Nat} (h : d.size ≤ 20000000000) (hk : k.size ≤ 20000000000) : Ook (some ⟨d, k, true, true, n⟩) := fun f hf => by
  injection hf with hf
  subst hf
  exact ⟨h, hk, fun e => (by cases e), fun e => (by cases e)⟩
theorem ook_app {d k : ByteArray} {n : Nat} (h : d.size ≤ 20000000000) (hk : k.size ≤ d.size) : Ook (some ⟨d, k, true, false, n⟩) := fun f hf => by
  injection hf with hf
  subst hf
  exact ⟨h, by show k.size ≤ _; omega, fun _ => hk, fun e => (by cases e)⟩
theorem kept_ook {o : Option Fi} (h : Ook o) : (keptOf o).size ≤ 20000000000 := by
  cases o with
  | none => exact Nat.zero_le _
  | some f => exact (h f rfl).2.1
def Rng (a : Int) : Prop := -1 ≤ a ∧ a ≤ 9223372036854775807
theorem rng_dec {a : Int} (h : Rng a) : Rng (dec a) := dec_in h
theorem rng_m1 : Rng (-1) := ⟨by decide, by decide⟩
structure Sz (B BT G GT : Option Fi) (st sm : Nat) : Prop where
  b : Ook B
  bt : Ook BT
  g : Ook G
  gt : Ook GT
  st : st ≤ 1000000
  sm : sm ≤ 1000000
theorem oit_len (p : ByteArray) (o : Option Fi) : (oit p o).length ≤ 1 := by cases o <;> simp [oit]
theorem oit_mem {p : ByteArray} {o : Option Fi} {x : It} (h : x ∈ oit p o) : x.path = p ∧ ∃ f, o = some f ∧ x = ⟨p, false, f.data, f.kept, f.loose, f.anew, f.stamp⟩ := by
  cases o with
  | none => cases h
  | some f =>
    have h := List.mem_singleton.1 h
    exact ⟨by rw [h], f, rfl, h⟩
section
variable {B BT G GT : Option Fi} {g f : Fi} {d : ByteArray} {st sm : Nat} {a : Int} {dn : Bool}
theorem t7_mem {x : It} (h : Sz B BT G GT st sm) (hx : x ∈ (T7 B BT G GT st sm a dn).L) : x.path.size ≤ 1000 ∧ x.data.size ≤ 20000000000 ∧ x.kept.size ≤ 20000000000 ∧ (x.anew = false → x.kept.size ≤ x.data.size) := by
  unfold T7 at hx
  rcases List.mem_cons.1 hx with rfl | hx
  · exact ⟨by decide, by decide, by decide, fun _ => Nat.le_refl _⟩
  · have one : ∀ {p : ByteArray} {o : Option Fi}, p.size ≤ 1000 → Ook o → x ∈ oit p o → x.path.size ≤ 1000 ∧ x.data.size ≤ 20000000000 ∧ x.kept.size ≤ 20000000000 ∧ (x.anew = false → x.kept.size ≤ x.data.size) := fun hp ho hx => by
      obtain ⟨_, f, hf, rfl⟩ := oit_mem hx
      obtain ⟨a1, a2, a3, _⟩ := ho f hf
      exact ⟨hp, a1, a2, a3⟩
    rcases List.mem_append.1 hx with hx | hx
    · exact one (by decide) h.b hx
    · rcases List.mem_append.1 hx with hx | hx
      · exact one (by decide) h.bt hx
      · rcases List.mem_append.1 hx with hx | hx
        · exact one (by decide) h.g hx
        · exact one (by decide) h.gt hx
theorem t7_len : (T7 B BT G GT st sm a dn).L.length ≤ 5 := by
  unfold T7
  have h1 := oit_len pB B
  have h2 := oit_len pBT BT
  have h3 := oit_len pG G
  have h4 := oit_len pGT GT
  simp only [List.length_cons, List.length_append]
  omega
theorem whole_le : ∀ {l : List It} {N : Nat}, (∀ x ∈ l, x.data.size ≤ N) → whole l ≤ l.length * N
  | [], _, _ => Nat.zero_le _
  | x :: l, N, h => by
    have h1 := h x List.mem_cons_self
    have h2 := whole_le (l := l) (fun y hy => h y (List.mem_cons_of_mem _ hy))
    unfold whole at h2 ⊢
    rw [List.map_cons, List.sum_cons, List.length_cons, Nat.succ_mul]
    omega
theorem t7_ok (h : Sz B BT G GT st sm) (ha : Rng a) : Ok (T7 B BT G GT st sm a dn) := by
  have hl := t7_len (B := B) (BT := BT) (G := G) (GT := GT) (st := st) (sm := sm) (a := a) (dn := dn)
  have hw := whole_le (l := (T7 B BT G GT st sm a dn).L) (N := 20000000000) (fun x hx => (t7_mem h hx).2.1)
  have hst := h.st
  have hsm := h.sm
  obtain ⟨a1, a2⟩ := ha
  refine ⟨⟨by omega, fun x hx => by have := (t7_mem h hx).1; omega, ?_⟩, by show 0 ≤ _; omega, by show st ≤ _; omega, by show sm ≤ _; omega, by show _ ≤ a ∧ a ≤ _; omega⟩
  have := Nat.mul_le_mul_right 20000000000 hl
  omega
end
section
variable {B BT G GT : Option Fi} {d : ByteArray} {st sm : Nat} {a : Int}
theorem dec_m1 {a : Int} (h : a = -1) : dec a = -1 := by subst h; rfl
theorem fillB (h : Sz B BT G GT st sm) (hd : d.size ≤ 20000000000) (ha : Rng a) : ∃ k s', fillS (T7 B BT G GT st sm a false) pB d = (k, s') ∧
    ((k = 0 ∧ ∃ a', s' = T7 (some (sy d (sm + 2))) none G GT (st + 3) (sm + 2) a' false ∧ Rng a' ∧ (a = -1 → a' = -1)) ∨ (k = 14 ∧ a ≠ -1 ∧ ∃ BT' st' sm', s' = T7 B BT' G GT st' sm' (-1) true ∧ Ook BT' ∧ st' ≤ st + 3 ∧ sm' ≤ sm + 2)) := by
  have hk := kept_ook h.bt
  unfold fillS
  rw [pB_tT]
  by_cases h1 : a = 0
  · subst h1
    rw [b_write0]
    exact ⟨14, _, rfl, .inr ⟨rfl, by decide, BT, st, sm, rfl, h.bt, by omega, by omega⟩⟩
  · rw [b_write h1]
    by_cases h2 : dec a = 0
    · simp only [h2, b_sync0]
      exact ⟨14, _, rfl, .inr ⟨rfl, fun e => (by rw [dec_m1 e] at h2; cases h2), _, st + 1, sm + 1, rfl, ook_raw hd hk, by omega, by omega⟩⟩
    · simp only [b_sync h2]
      by_cases h3 : dec (dec a) = 0
      · simp only [h3, b_rename0]
        exact ⟨14, _, rfl, .inr ⟨rfl, fun e => (by rw [dec_m1 (dec_m1 e)] at h3; cases h3), _, st + 1 + 1, sm + 1, rfl, ook_sy (n := sm + 1) hd, by omega, by omega⟩⟩
      · simp only [b_rename h3]
        exact ⟨0, _, rfl, .inl ⟨rfl, _, rfl, rng_dec (rng_dec (rng_dec ha)), fun e => dec_m1 (dec_m1 (dec_m1 e))⟩⟩
theorem fillG (h : Sz B BT G GT st sm) (hd : d.size ≤ 20000000000) (ha : Rng a) : ∃ k s', fillS (T7 B BT G GT st sm a false) pG d = (k, s') ∧
    ((k = 0 ∧ ∃ a', s' = T7 B BT (some (sy d (sm + 2))) none (st + 3) (sm + 2) a' false ∧ Rng a' ∧ (a = -1 → a' = -1)) ∨ (k = 14 ∧ a ≠ -1 ∧ ∃ GT' st' sm', s' = T7 B BT G GT' st' sm' (-1) true ∧ Ook GT' ∧ st' ≤ st + 3 ∧ sm' ≤ sm + 2)) := by
  have hk := kept_ook h.gt
  unfold fillS
  rw [pG_tT]
  by_cases h1 : a = 0
  · subst h1
    rw [g_write0]
    exact ⟨14, _, rfl, .inr ⟨rfl, by decide, GT, st, sm, rfl, h.gt, by omega, by omega⟩⟩
  · rw [g_write h1]
    by_cases h2 : dec a = 0
    · simp only [h2, g_sync0]
      exact ⟨14, _, rfl, .inr ⟨rfl, fun e => (by rw [dec_m1 e] at h2; cases h2), _, st + 1, sm + 1, rfl, ook_raw hd hk, by omega, by omega⟩⟩
    · simp only [g_sync h2]
      by_cases h3 : dec (dec a) = 0
      · simp only [h3, g_rename0]
        exact ⟨14, _, rfl, .inr ⟨rfl, fun e => (by rw [dec_m1 (dec_m1 e)] at h3; cases h3), _, st + 1 + 1, sm + 1, rfl, ook_sy (n := sm + 1) hd, by omega, by omega⟩⟩
      · simp only [g_rename h3]
        exact ⟨0, _, rfl, .inl ⟨rfl, _, rfl, rng_dec (rng_dec (rng_dec ha)), fun e => dec_m1 (dec_m1 (dec_m1 e))⟩⟩
theorem fillokB (h : Sz B BT G GT st sm) (hd : d.size ≤ 20000000000) (ha : Rng a) (hst : st ≤ 900000) (hsm : sm ≤ 900000) : FillOk (T7 B BT G GT st sm a false) pB d := by
  have hk := kept_ook h.bt
  refine ⟨t7_ok h ha, ?_, ?_⟩
  · rw [pB_tT]
    by_cases h1 : a = 0
    · subst h1; rw [b_write0]; exact t7_ok h rng_m1
    · rw [b_write h1]; exact t7_ok ⟨h.b, ook_raw hd hk, h.g, h.gt, by omega, by omega⟩ (rng_dec ha)
  · rw [pB_tT]
    by_cases h1 : a = 0
    · subst h1
      rw [b_write0]
      have e : syncS (T7 B BT G GT st sm (-1) true) pBT = (14, T7 B BT G GT st sm (-1) true) := by
        unfold syncS
        cases B <;> cases BT <;> cases G <;> cases GT <;> kernel_rfl
      show Ok (syncS (T7 B BT G GT st sm (-1) true) pBT).2
      rw [e]
      exact t7_ok h rng_m1
    · rw [b_write h1]
      show Ok (syncS (T7 B (some ⟨d, keptOf BT, true, true, sm + 1⟩) G GT (st + 1) (sm + 1) (dec a) false) pBT).2
      by_cases h2 : dec a = 0
      · rw [h2, b_sync0]; exact t7_ok ⟨h.b, ook_raw hd hk, h.g, h.gt, by omega, by omega⟩ rng_m1
      · rw [b_sync h2]; exact t7_ok ⟨h.b, ook_sy (n := sm + 1) hd, h.g, h.gt, by omega, by omega⟩ (rng_dec (rng_dec ha))
theorem fillokG (h : Sz B BT G GT st sm) (hd : d.size ≤ 20000000000) (ha : Rng a) (hst : st ≤ 900000) (hsm : sm ≤ 900000) : FillOk (T7 B BT G GT st sm a false) pG d := by
  have hk := kept_ook h.gt
  refine ⟨t7_ok h ha, ?_, ?_⟩
  · rw [pG_tT]
    by_cases h1 : a = 0
    · subst h1; rw [g_write0]; exact t7_ok h rng_m1
    · rw [g_write h1]; exact t7_ok ⟨h.b, h.bt, h.g, ook_raw hd hk, by omega, by omega⟩ (rng_dec ha)
  · rw [pG_tT]
    by_cases h1 : a = 0
    · subst h1
      rw [g_write0]
      have e : syncS (T7 B BT G GT st sm (-1) true) pGT = (14, T7 B BT G GT st sm (-1) true) := by
        unfold syncS
        cases B <;> cases BT <;> cases G <;> cases GT <;> kernel_rfl
      show Ok (syncS (T7 B BT G GT st sm (-1) true) pGT).2
      rw [e]
      exact t7_ok h rng_m1
    · rw [g_write h1]
      show Ok (syncS (T7 B BT G (some ⟨d, keptOf GT, true, true, sm + 1⟩) (st + 1) (sm + 1) (dec a) false) pGT).2
      by_cases h2 : dec a = 0
      · rw [h2, g_sync0]; exact t7_ok ⟨h.b, h.bt, h.g, ook_raw hd hk, by omega, by omega⟩ rng_m1
      · rw [g_sync h2]; exact t7_ok ⟨h.b, h.bt, h.g, ook_sy (n := sm + 1) hd, by omega, by omega⟩ (rng_dec (rng_dec ha))
end
theorem add7 {B BT GT : Option Fi} {c r : ByteArray} {n st sm : Nat} {a : Int} {R : List ByteArray} {dm : Bool} (ha : Rng a) : ∃ k x', addS ⟨T7 B BT (some (sy c n)) GT st sm a false, R, dm⟩ pG r = (k, x') ∧
    ((k = 0 ∧ ∃ a', x' = ⟨T7 B BT (some (sy (c ++ Fm.pk r) (sm + 1))) GT (st + 2) (sm + 1) a' false, R ++ [r], dm⟩ ∧ Rng a' ∧ (a = -1 → a' = -1)) ∨
     (k = 14 ∧ a ≠ -1 ∧ ∃ G' st' sm', x' = ⟨T7 B BT G' GT st' sm' (-1) true, R, dm⟩ ∧ (G' = some (sy c n) ∨ G' = some ⟨c ++ Fm.pk r, c, true, false, sm + 1⟩) ∧ st' ≤ st + 2 ∧ sm' ≤ sm + 1)) := by
  unfold addS
  by_cases h1 : a = 0
  · subst h1
    simp only [t_append0]
    exact ⟨14, _, rfl, .inr ⟨rfl, by decide, _, st, sm, rfl, .inl rfl, by omega, by omega⟩⟩
  · simp only [t_append h1]
    by_cases h2 : dec a = 0
    · simp only [h2, t_sync0]
      exact ⟨14, _, rfl, .inr ⟨rfl, fun e => (by rw [dec_m1 e] at h2; cases h2), _, st + 1, sm + 1, rfl, .inr rfl, by omega, by omega⟩⟩
    · simp only [t_sync h2]
      exact ⟨0, _, rfl, .inl ⟨rfl, _, rfl, rng_dec (rng_dec ha), fun e => dec_m1 (dec_m1 e)⟩⟩
theorem addok7 {B BT GT : Option Fi} {c r : ByteArray} {n st sm : Nat} {a : Int} {R : List ByteArray} {dm : Bool} (h : Sz B BT (some (sy c n)) GT st sm) (ha : Rng a) (hr : r.size ≤ 1000000000) (hc : c.size + (Fm.pk r).size ≤ 20000000000) (hR : R.length ≤ 1000) (hst : st ≤ 900000) (hsm : sm ≤ 900000) :
    AddOk ⟨T7 B BT (some (sy c n)) GT st sm a false, R, dm⟩ pG r := by
  have hs : (c ++ Fm.pk r).size = c.size + (Fm.pk r).size := ByteArray.size_append
  refine ⟨t7_ok h ha, ?_, ?_, by omega, by show R.length ≤ _; omega⟩
  · show Ok (appendS (T7 B BT (some (sy c n)) GT st sm a false) pG (Fm.pk r)).2
    by_cases h1 : a = 0
    · subst h1; rw [t_append0]; exact t7_ok h rng_m1
    · rw [t_append h1]; exact t7_ok ⟨h.b, h.bt, ook_app (by show (c ++ Fm.pk r).size ≤ _; omega) (by show c.size ≤ (c ++ Fm.pk r).size; omega), h.gt, by omega, by omega⟩ (rng_dec ha)
  · show (old (T7 B BT (some (sy c n)) GT st sm a false).L pG).data.size + _ ≤ _
    rw [o_log]
    show c.size + _ ≤ _
    omega
def Re (o o' : Option Fi) : Prop := match o with
  | none => o' = none
  | some f => ∃ c m, o' = some (sy c m) ∧ c.size ≤ 20000000000 ∧ (f.loose = false → c = f.data ∧ m = f.stamp) ∧ (f.anew = false → f.loose = true → f.kept.size ≤ c.size ∧ c = f.data.extract 0 c.size)
theorem fr_whole (r : ByteArray) (h : r.size ≤ 9223372036854775807) : Fm.fr (Fm.pk r) = (r, (Fm.pk r).size, 0) := by
  have := Fr.fr_pk r [] h
  rwa [List.append_nil] at this
def Torn (l : List ByteArray) (r c : ByteArray) : Prop := (PK l).size ≤ c.size ∧ c = (PK (l ++ [r])).extract 0 c.size
end Go.Proofs.YtdkgkomjbpggeaaGreatDoor.Tb

namespace Go.Proofs.YtdkgkomjbpggeaaGreatDoor.Tb
open Go.RowKit Tx Pm Dk Wm Wr Wl Pl
set_option linter.unusedVariables false
set_option linter.unusedSimpArgs false
set_option linter.unnecessarySimpa false
abbrev Tt (b j t m : Nat) := Tn b j t m pB pG
abbrev Tu (b j t m u : Nat) := TB b j t m pB pG u
section
variable {w0 W : World} {b j t m u k : Nat} {s s' : St} {x y : Tst} {l : List Ch}
theorem tb_below {w w1 : World} {F : Nat → Prop} {z : Tst × List Ch} (h : Tu b j t m u w F z) (hb : Below w.heap.size w w1) : Tu b j t m u w1 F z := by
  obtain ⟨F1, G, ⟨Fj, h1⟩, ⟨pm, vO, h2⟩, hd, hH⟩ := h
  exact ⟨F1, G, ⟨Fj, h1.below hb⟩, ⟨pm, vO, h2.below hb⟩, hd, hH⟩
theorem sys_base : tb (joi pS.data.toList [98, 97, 115, 101]) = pB := by decide +kernel
theorem sys_log : tb (joi pS.data.toList [108, 111, 103]) = pG := by decide +kernel
end
end Go.Proofs.YtdkgkomjbpggeaaGreatDoor.Tb

namespace Go.Proofs.YtdkgkomjbpggeaaGreatDoor.Tb
open Go.RowKit Tx Pm Dk Wm Wr Wl Pl
set_option linter.unusedVariables false
set_option linter.unusedSimpArgs false
set_option linter.unnecessarySimpa false
def Based (B : Option Fi) (L0 : List It) : Prop := (B = none ∧ L0 = []) ∨ ∃ r n ops, B = some (sy (Fm.pk r) n) ∧ opsS r = (ops, 0) ∧ r.size ≤ 100000000 ∧ L0 = all7 [] ops
theorem base_T {B BT G GT : Option Fi} {L0 : List It} {st sm : Nat} {a : Int} (hb : Based B L0) : base0 (T7 B BT G GT st sm a false) pB = (L0, 0) ∧ (readS (T7 B BT G GT st sm a false) pB).1.size ≤ 500000000 := by
  rcases hb with ⟨rfl, rfl⟩ | ⟨r, n, ops, rfl, ho, hr, rfl⟩
  · have hk : kind (T7 none BT G GT st sm a false).L pB = 0 := k_base0
    refine ⟨base_0 hk, ?_⟩
    rw [r_base0]
    decide
  · have hk : kind (T7 (some (sy (Fm.pk r) n)) BT G GT st sm a false).L pB ≠ 0 := by rw [k_base]; decide
    have hrd : readS (T7 (some (sy (Fm.pk r) n)) BT G GT st sm a false) pB = (Fm.pk r, 0) := r_base
    refine ⟨base_5 hk hrd (fr_whole r (by omega)) (Nat.lt_irrefl _) ho, ?_⟩
    rw [hrd]
    show (Fm.pk r).size ≤ _
    rw [Fm.pk_size]
    have := vb_len (x := r.size) (by omega)
    omega
theorem recok_wide {L : List It} {l : List ByteArray} (h : RecOk L l) : ∀ x ∈ l, x.size ≤ 140737488351232 := fun x hx => by have := (h.1 x hx).2; omega
section
variable {B BT GT : Option Fi} {L0 : List It} {l : List ByteArray} {r c : ByteArray} {n st sm : Nat} {a : Int}
end
theorem open_W {B BT GT : Option Fi} {L0 : List It} {l : List ByteArray} {n st sm : Nat} {a : Int} (hb : Based B L0) (h : Sz B BT (some (sy (PK l) n)) GT st sm) (ha : Rng a) (hrec : RecOk L0 l) (hll : l.length ≤ 1000) (hst : st ≤ 900000) (hsm : sm ≤ 900000) :
    Open7Ok (T7 B BT (some (sy (PK l) n)) GT st sm a false) pS pB pG ∧ open7 (T7 B BT (some (sy (PK l) n)) GT st sm a false) pS pB pG = (0, ⟨⟨T7 B BT (some (sy (PK l) n)) GT st sm a false, l, false⟩, rows7 L0 l⟩) := by
  obtain ⟨hb1, hb2⟩ := base_T (BT := BT) (G := some (sy (PK l) n)) (GT := GT) (st := st) (sm := sm) (a := a) hb
  have hop : opened (T7 B BT (some (sy (PK l) n)) GT st sm a false) pS = (0, T7 B BT (some (sy (PK l) n)) GT st sm a false) := by
    unfold opened
    rw [if_neg (by rw [k_sys]; decide)]
  have hw := recok_wide hrec
  have hs := scan_all l hw
  have hk : kind (T7 B BT (some (sy (PK l) n)) GT st sm a false).L pG ≠ 0 := by rw [k_log]; decide
  have hr : readS (T7 B BT (some (sy (PK l) n)) GT st sm a false) pG = (PK l, 0) := r_log
  have hcs : (PK l).size ≤ 20000000000 := (h.g _ rfl).1
  have ho := open_2 hk hr hs
  refine ⟨⟨t7_ok h ha, fun _ => ?_, by decide, by decide, by decide⟩, (open_n hop).trans (open1_o hb1 ho)⟩
  rw [hop]
  refine ⟨hb2, fun _ => ⟨⟨fun h0 => absurd h0 hk, fun _ => ?_⟩, fun _ => ?_⟩⟩
  · rw [hr]
    refine ⟨by show (PK l).size ≤ _; omega, by rw [hs]; show l.length ≤ _; omega, fun h0 => ?_⟩
    rw [hs] at h0
    exact absurd rfl h0
  · rw [hb1, ho]
    exact hrec
def s0T : St := T7 none none (some (sy ⟨#[]⟩ 2)) none 4 2 (-1) false
theorem sz0 : Sz none none none none 1 0 := ⟨ook_none, ook_none, ook_none, ook_none, by omega, by omega⟩
theorem new_open7 : open7 newS pS pB pG = (0, ⟨⟨s0T, [], false⟩, []⟩) := by
  have hop : opened newS pS = (0, T7 none none none none 1 0 (-1) false) := by
    unfold opened
    rw [if_pos (by decide +kernel), n_mkdir]
  have hb := (base_T (B := none) (BT := none) (G := none) (GT := none) (L0 := []) (st := 1) (sm := 0) (a := -1) (.inl ⟨rfl, rfl⟩)).1
  have hf : fillS (T7 none none none none 1 0 (-1) false) pG ⟨#[]⟩ = (0, s0T) := by
    unfold fillS
    rw [pG_tT, g_write (by decide)]
    simp only [dec_neg, g_sync (a := -1) (by decide), g_rename (a := -1) (by decide)]
    rfl
  exact (open_n hop).trans (open1_o hb (open_0 k_log0 hf))
theorem new_ok7 : Open7Ok newS pS pB pG := by
  have hop : opened newS pS = (0, T7 none none none none 1 0 (-1) false) := by
    unfold opened
    rw [if_pos (by decide +kernel), n_mkdir]
  obtain ⟨hb, hb2⟩ := base_T (B := none) (BT := none) (G := none) (GT := none) (L0 := []) (st := 1) (sm := 0) (a := -1) (.inl ⟨rfl, rfl⟩)
  refine ⟨ok_new, fun _ => ?_, by decide, by decide, by decide⟩
  rw [hop]
  refine ⟨hb2, fun _ => ⟨⟨fun _ => fillokG sz0 (by decide) rng_m1 (by decide) (by decide), fun h => absurd k_log0 h⟩, fun h0 => ?_⟩⟩
  have hf : fillS (T7 none none none none 1 0 (-1) false) pG ⟨#[]⟩ = (0, s0T) := by
    unfold fillS
    rw [pG_tT, g_write (by decide)]
    simp only [dec_neg, g_sync (a := -1) (by decide), g_rename (a := -1) (by decide)]
    rfl
  rw [hb, open_0 k_log0 hf]
  exact ⟨fun x hx => (by cases hx), by show 0 + 0 ≤ 500000000; omega, by show 0 ≤ 10000000000; omega⟩
section
variable {B BT GT : Option Fi} {c : ByteArray} {n st sm : Nat} {a : Int} {R : List ByteArray} {dm : Bool} {L : List It} {l : List Ch}
theorem pk_bound {r : ByteArray} (h : r.size ≤ 1000000000) : (Fm.pk r).size ≤ r.size + 14 := by
  have := vb_len (x := r.size) (by omega)
  rw [Fm.pk_size]
  omega
theorem pack_T (h : Sz B BT (some (sy c n)) GT st sm) (ha : Rng a) (hw : wt (whole7 L) ≤ 900000000) (hst : st ≤ 800000) (hsm : sm ≤ 800000) :
    PackOk ⟨⟨T7 B BT (some (sy c n)) GT st sm a false, R, dm⟩, L⟩ pB pG ∧ ∃ k y, packS ⟨⟨T7 B BT (some (sy c n)) GT st sm a false, R, dm⟩, L⟩ pB pG = (k, y) ∧
    ((k = 0 ∧ ∃ a', y = ⟨⟨T7 (some (sy (Fm.pk (rec7 (whole7 L))) (sm + 2))) none (some (sy ⟨#[]⟩ (sm + 4))) none (st + 6) (sm + 4) a' false, [], dm⟩, L⟩ ∧ Rng a' ∧ (a = -1 → a' = -1)) ∨
     (k = 14 ∧ a ≠ -1 ∧ ∃ BT' st' sm', y.j.s = T7 B BT' (some (sy c n)) GT st' sm' (-1) true ∧ Ook BT' ∧ st' ≤ st + 6 ∧ sm' ≤ sm + 4) ∨
     (k = 14 ∧ a ≠ -1 ∧ ∃ GT' st' sm', y.j.s = T7 (some (sy (Fm.pk (rec7 (whole7 L))) (sm + 2))) none (some (sy c n)) GT' st' sm' (-1) true ∧ Ook GT' ∧ st' ≤ st + 6 ∧ sm' ≤ sm + 4)) := by
  have hr := rec7_le (l := whole7 L) (by omega)
  have hp := pk_bound (r := rec7 (whole7 L)) (by omega)
  have hd : (Fm.pk (rec7 (whole7 L))).size ≤ 20000000000 := by omega
  obtain ⟨k1, s1, hf1, hc1⟩ := fillB h hd ha
  have hz2 : ∀ a', Rng a' → Sz (some (sy (Fm.pk (rec7 (whole7 L))) (sm + 2))) none (some (sy c n)) GT (st + 3) (sm + 2) := fun a' _ => ⟨ook_sy hd, ook_none, h.g, h.gt, by omega, by omega⟩
  refine ⟨⟨fillokB h hd ha (by omega) (by omega), fun h0 => ?_, by show wt (whole7 L) ≤ _; omega, by decide, by decide⟩, ?_⟩
  · have hf1' : fillS (T7 B BT (some (sy c n)) GT st sm a false) pB (Fm.pk (rec7 (whole7 L))) = (k1, s1) := hf1
    show FillOk (fillS (T7 B BT (some (sy c n)) GT st sm a false) pB (Fm.pk (rec7 (whole7 L)))).2 pG ⟨#[]⟩
    have h0 : (fillS (T7 B BT (some (sy c n)) GT st sm a false) pB (Fm.pk (rec7 (whole7 L)))).1 = 0 := h0
    rw [hf1'] at h0 ⊢
    rcases hc1 with ⟨_, a', rfl, ra, _⟩ | ⟨hk, _⟩
    · exact fillokG (hz2 a' ra) (by decide) ra (by omega) (by omega)
    · simp only at h0; omega
  · rcases hc1 with ⟨rfl, a', rfl, ra, rm⟩ | ⟨rfl, hne, BT', st', sm', rfl, o1, o2, o3⟩
    · obtain ⟨k2, s2, hf2, hc2⟩ := fillG (d := ⟨#[]⟩) (hz2 a' ra) (by decide) ra
      rcases hc2 with ⟨rfl, a2, rfl, ra2, rm2⟩ | ⟨rfl, hne2, GT', st', sm', rfl, o1, o2, o3⟩
      · refine ⟨0, _, pack_2 hf1 (by unfold resetS; simp only [hf2]; rfl), .inl ⟨rfl, a2, rfl, ra2, fun e => rm2 (rm e)⟩⟩
      · refine ⟨14, _, pack_2 hf1 (k := 14) (y := ⟨T7 (some (sy (Fm.pk (rec7 (whole7 L))) (sm + 2))) none (some (sy c n)) GT' st' sm' (-1) true, R, dm⟩) (by unfold resetS; simp only [hf2]; rfl), .inr (.inr ⟨rfl, fun e => hne2 (rm e), GT', st', sm', rfl, o1, by omega, by omega⟩)⟩
    · exact ⟨14, _, pack_1 hf1 (by decide), .inr (.inl ⟨rfl, hne, BT', st', sm', rfl, o1, by omega, by omega⟩)⟩
end
end Go.Proofs.YtdkgkomjbpggeaaGreatDoor.Tb

namespace Go.Proofs.YtdkgkomjbpggeaaGreatDoor.Tb
open Go.RowKit Tx Pm Dk Wm Wr Wl Pl
set_option linter.unusedVariables false
set_option linter.unusedSimpArgs false
set_option linter.unnecessarySimpa false
end Go.Proofs.YtdkgkomjbpggeaaGreatDoor.Tb

namespace Go.Proofs.YtdkgkomjbpggeaaGreatDoor.Dk
open Go.RowKit Tx Pm Pl Pr
set_option linter.unusedVariables false
end Go.Proofs.YtdkgkomjbpggeaaGreatDoor.Dk

namespace Go.Proofs.YtdkgkomjbpggeaaGreatDoor.Wl
open Go.RowKit Tx Pm Pl Pr Dk Fr
set_option linter.unusedVariables false
end Go.Proofs.YtdkgkomjbpggeaaGreatDoor.Wl

namespace Go.Proofs.YtdkgkomjbpggeaaGreatDoor.Tb
open Go.RowKit Tx Pm Dk Wm Wr Wl Pl
set_option linter.unusedVariables false
set_option linter.unusedSimpArgs false
set_option linter.unnecessarySimpa false
def ws (L : List It) : Nat := (L.map fun x => x.path.size + x.data.size + 40).sum
theorem ws_cons (x : It) (L : List It) : ws (x :: L) = x.path.size + x.data.size + 40 + ws L := by unfold ws; rw [List.map_cons, List.sum_cons]
theorem ws_append (a b : List It) : ws (a ++ b) = ws a + ws b := by unfold ws; rw [List.map_append, List.sum_append]
theorem wt_whole (L : List It) : wt (whole7 L) = ws L := by
  unfold wt whole7 ws
  rw [List.map_map]
  rfl
theorem snoc7 {α : Type} {P : List α → Prop} (h0 : P []) (h1 : ∀ l x, P l → P (l ++ [x])) (l : List α) : P l := by
  rw [← List.reverse_reverse l]
  induction l.reverse with
  | nil => exact h0
  | cons x r ih => rw [List.reverse_cons]; exact h1 _ _ ih
section
variable {B BT GT : Option Fi} {c : ByteArray} {n st sm : Nat} {a : Int} {R : List ByteArray} {dm : Bool} {L : List It} {l : List Ch}
theorem pack_U (h : Sz B BT (some (sy c n)) GT st sm) (hw : ws L ≤ 900000000) (hst : st ≤ 800000) (hsm : sm ≤ 800000) :
    PackOk ⟨⟨T7 B BT (some (sy c n)) GT st sm (-1) false, R, dm⟩, L⟩ pB pG ∧ packS ⟨⟨T7 B BT (some (sy c n)) GT st sm (-1) false, R, dm⟩, L⟩ pB pG = (0, ⟨⟨T7 (some (sy (Fm.pk (rec7 (whole7 L))) (sm + 2))) none (some (sy ⟨#[]⟩ (sm + 4))) none (st + 6) (sm + 4) (-1) false, [], dm⟩, L⟩) := by
  obtain ⟨h1, k, y, h2, hcs⟩ := pack_T (B := B) (BT := BT) (GT := GT) (c := c) (n := n) (st := st) (sm := sm) (a := -1) (R := R) (dm := dm) (L := L) h rng_m1 (by rw [wt_whole]; exact hw) hst hsm
  refine ⟨h1, ?_⟩
  rw [h2]
  rcases hcs with ⟨rfl, a', rfl, _, ha⟩ | ⟨_, hne, _⟩ | ⟨_, hne, _⟩
  · rw [ha rfl]
  · exact absurd rfl hne
  · exact absurd rfl hne
end
section
variable {BT G GT : Option Fi} {f : Fi} {st sm : Nat} {bit : Int}
end
end Go.Proofs.YtdkgkomjbpggeaaGreatDoor.Tb

namespace Go.Proofs.YtdkgkomjbpggeaaGreatDoor.Tb
open Go.RowKit Tx Pm Dk Wm Wr Wl Pl
set_option linter.unusedVariables false
set_option linter.unusedSimpArgs false
set_option linter.unnecessarySimpa false
def overV (L : List It) (l : List Ch) (p : ByteArray) : ByteArray := match lastOf l p with
  | some c => c.val
  | none => (lookC L p).val
def overB (L : List It) (l : List Ch) (p : ByteArray) : Bool := match lastOf l p with
  | some c => !c.gone
  | none => (find L p).isSome
theorem last_at {l : List Ch} (h : Once l) {p : ByteArray} {i : Nat} {c : Ch} (hi : at7 l p = some i) (hc : l[i]? = some c) : lastOf l p = some c := by
  obtain ⟨d, hd, hk, hlt⟩ := at7_lt hi
  rw [hc] at hd
  injection hd with hd
  subst hd
  have hm := List.mem_of_getElem? hc
  unfold lastOf
  have : ∀ (l : List Ch), Once l → c ∈ l → l.find? (fun x => decide (x.key = p)) = some c := by
    intro l
    induction l with
    | nil => intro _ h; cases h
    | cons x l ih =>
      intro ho h
      rcases List.mem_cons.1 h with rfl | h
      · exact List.find?_cons_of_pos (by simpa using hk)
      · have hne : x.key ≠ c.key := (List.pairwise_cons.1 ho).1 c h
        rw [List.find?_cons_of_neg (by rw [← hk]; simpa using hne)]
        exact ih (List.pairwise_cons.1 ho).2 h
  refine this _ ?_ (List.mem_reverse.2 hm)
  exact List.pairwise_reverse.2 (h.imp (fun hab => fun e => hab e.symm))
theorem last_none {l : List Ch} {p : ByteArray} (h : at7 l p = none) : lastOf l p = none := by
  unfold lastOf
  refine List.find?_eq_none.2 (fun x hx he => ?_)
  have := at7_none h
  exact absurd (List.any_eq_true.2 ⟨x, List.mem_reverse.1 hx, he⟩) (by rw [this]; decide)
set_option maxRecDepth 100000 in
set_option maxHeartbeats 4000000 in
theorem bGet_any (u t m pm : Nat) (vO : Value) (L : List It) (l : List Ch) (key : ByteArray) (w : World) {G : Nat → Prop} (hB : BAt u pm (some ⟨t, 0, none⟩) vO w G l) (ht : w.cell? ⟨t, 3, none⟩ = some (.map (some m))) (hm : Mo w m L) (hk : key.size ≤ 1000000000000000) :
    Calls Tryz.prog 38 #[.pointer (some ⟨u, 0, none⟩), .string key] w fun e w' => e = .returned (.tuple #[.string (overV L l key), .bool (overB L l key)]) ∧ Below w.heap.size w w' := by
  obtain ⟨c0, c1, c2⟩ := hB.cell
  have hl := hB.plc.look (p := key) (by unfold maxLen; omega)
  unfold placeV at hl
  have HBl := Lib.hid (fun o => (Below.refl w.heap.size w).alloc (Nat.le_refl _) o)
  cases ha : at7 l key with
  | none =>
    rw [ha] at hl
    have e1 : overV L l key = (lookC L key).val := by unfold overV; rw [last_none ha]
    have e2 : overB L l key = (find L key).isSome := by unfold overB; rw [last_none ha]
    have cg := tGet_any t m L key w ht hm (by unfold maxLen; omega)
    rw [← e1, ← e2] at cg
    generalize overV L l key = V at cg ⊢
    generalize overB L l key = O at cg ⊢
    clear ha hB hm ht e1 e2
    go_enter Tryz.func38, Tryz.ntmps38
    go_wp2_with fail
    go_at_call 77
    refine cg.mono ?_
    rintro e w1 ⟨rfl, hb1⟩
    go_wp2_with fail
    go_ret2
    exact ⟨rfl, hb1⟩
  | some i =>
    obtain ⟨c, hc, hck, hlt⟩ := at7_lt ha
    rw [ha] at hl
    have e1 : overV L l key = c.val := by unfold overV; rw [last_at hB.once ha hc]
    have e2 : overB L l key = !c.gone := by unfold overB; rw [last_at hB.once ha hc]
    rw [e1, e2]
    obtain ⟨a, cp, rfl, hopl, hcp, _⟩ := hB.ops.form
    obtain ⟨g, off, rfl, hg, g0, g1, g2⟩ := hopl.nth hc
    obtain ⟨key1, val1, gone1⟩ := c
    simp only at g0 g1 g2 ⊢
    obtain ⟨N, hN⟩ : ∃ N, N = l.length := ⟨_, rfl⟩
    rw [← hN] at c1 hlt hcp
    have hiz : (i : Int) < (N : Int) := by omega
    clear ha hB hm ht e1 e2 hc hck hopl hN
    go_enter Tryz.func38, Tryz.ntmps38
    go_wp2_with fail
    go_region
    all_goals
      go_wp2_with fail
      go_ret2
      exact ⟨rfl, (HBl.out _).drew⟩
end Go.Proofs.YtdkgkomjbpggeaaGreatDoor.Tb

namespace Go.Proofs.YtdkgkomjbpggeaaGreatDoor.Tb
open Go.RowKit Tx Pm Dk Wm Wr Wl Pl
set_option linter.unusedVariables false
set_option linter.unusedSimpArgs false
set_option linter.unnecessarySimpa false
def beg (p a : ByteArray) : Bool := Lib.hasPrefix a.data.toList p.data.toList
theorem last_mem {l : List Ch} (h : Once l) {p : ByteArray} {c : Ch} : lastOf l p = some c ↔ c ∈ l ∧ c.key = p := by
  constructor
  · intro hl
    have h1 := List.mem_of_find?_eq_some hl
    have h2 := List.find?_some hl
    exact ⟨List.mem_reverse.1 h1, of_decide_eq_true h2⟩
  · rintro ⟨hm, rfl⟩
    obtain ⟨i, hi⟩ := List.getElem?_of_mem hm
    exact last_at h (once_at h hi) hi
theorem last_at7 {l : List Ch} {p : ByteArray} (h : Once l) : (at7 l p).isNone = (lastOf l p).isNone := by
  cases ha : at7 l p with
  | none => rw [last_none ha]; rfl
  | some i =>
    obtain ⟨c, hc, hk, _⟩ := at7_lt ha
    rw [last_at h ha hc]
    rfl
theorem find_has {L : List It} (hR : Rises L) {a : ByteArray} : (∃ x ∈ L, x.path = a) ↔ (find L a).isSome = true := by
  unfold find
  rw [List.find?_isSome]
  constructor
  · rintro ⟨x, hx, h⟩; exact ⟨x, hx, by simpa using h⟩
  · rintro ⟨x, hx, h⟩; exact ⟨x, hx, by simpa using h⟩
theorem mem_held {L : List It} (hR : Rises L) {p a : ByteArray} : a ∈ held (pre7 p) L ↔ (find L a).isSome = true ∧ beg p a = true := by
  unfold held
  rw [List.mem_map, ← find_has hR]
  constructor
  · rintro ⟨x, hx, rfl⟩
    obtain ⟨h1, h2⟩ := List.mem_filter.1 hx
    exact ⟨⟨x, h1, rfl⟩, h2⟩
  · rintro ⟨⟨x, hx, rfl⟩, h⟩
    exact ⟨x, List.mem_filter.2 ⟨hx, h⟩, rfl⟩
theorem nodup_held {L : List It} (hR : Rises L) (p : ByteArray) : (held (pre7 p) L).Nodup := by
  refine (held_rises hR).imp (fun {a b} h e => ?_)
  subst e
  rw [less_irrefl] at h
  cases h
def oldK (l : List Ch) (K : List ByteArray) : List ByteArray := K.filter (fun k => (at7 l k).isNone)
def newK (p : ByteArray) (l : List Ch) : List ByteArray := (l.filter (fun c => !c.gone && beg p c.key)).map (·.key)
theorem newK_snoc (p : ByteArray) (l : List Ch) (c : Ch) : newK p (l ++ [c]) = newK p l ++ (if (!c.gone && beg p c.key) = true then [c.key] else []) := by
  unfold newK
  rw [List.filter_append, List.map_append]
  congr 1
  cases h : (!c.gone && beg p c.key) <;> simp [List.filter_cons, h]
theorem oldK_snoc (l : List Ch) (K : List ByteArray) (k : ByteArray) : oldK l (K ++ [k]) = oldK l K ++ (if (at7 l k).isNone = true then [k] else []) := by
  unfold oldK
  rw [List.filter_append]
  congr 1
  cases h : (at7 l k).isNone <;> simp [List.filter_cons, h]
theorem perm_keys {L : List It} (hR : Rises L) {l : List Ch} (hO : Once l) (p : ByteArray) : (oldK l (held (pre7 p) L) ++ newK p l).Perm (held (pre7 p) (all7 L l)) := by
  have hnew : ∀ a, a ∈ newK p l ↔ ∃ c, lastOf l a = some c ∧ c.gone = false ∧ beg p a = true := by
    intro a
    unfold newK
    rw [List.mem_map]
    constructor
    · rintro ⟨c, hc, rfl⟩
      obtain ⟨h1, h2⟩ := List.mem_filter.1 hc
      rw [Bool.and_eq_true, Bool.not_eq_true'] at h2
      exact ⟨c, (last_mem hO).2 ⟨h1, rfl⟩, h2.1, h2.2⟩
    · rintro ⟨c, hc, h1, h2⟩
      obtain ⟨h3, rfl⟩ := (last_mem hO).1 hc
      exact ⟨c, List.mem_filter.2 ⟨h3, by rw [h1, h2]; rfl⟩, rfl⟩
  refine (List.perm_ext_iff_of_nodup ?_ (nodup_held (rises_all hR l) p)).2 (fun a => ?_)
  · refine List.nodup_append.2 ⟨(nodup_held hR p).filter _, ?_, fun a ha b hb e => ?_⟩
    · unfold newK
      rw [List.Nodup, List.pairwise_map]
      exact List.Pairwise.filter _ hO
    · subst e
      obtain ⟨c, hc, _⟩ := (hnew _).1 hb
      have h1 := (List.mem_filter.1 ha).2
      rw [last_at7 hO, hc] at h1
      cases h1
  · rw [List.mem_append, hnew, mem_held (rises_all hR l), find_all]
    unfold oldK
    rw [List.mem_filter, mem_held hR, last_at7 hO]
    cases hc : lastOf l a with
    | none => simp [after]
    | some c => cases hg : c.gone <;> simp [after, hg]
end Go.Proofs.YtdkgkomjbpggeaaGreatDoor.Tb

namespace Go.Proofs.YtdkgkomjbpggeaaGreatDoor.Bl
open Go.RowKit Tx Pm Dk Wm Wr Wl Pl Tb
set_option linter.unusedVariables false
set_option linter.unusedSimpArgs false
set_option linter.unnecessarySimpa false
structure On where
  low : Nat
  n : Nat
  refs : Nat
  data : ByteArray
def hexd (k : Nat) : UInt8 := if k < 10 then UInt8.ofNat (48 + k) else UInt8.ofNat (87 + k)
def grp (low : Nat) : ByteArray := ⟨#[98, 47, hexd (low / 16), hexd (low % 16), 47]⟩
def decB (n : Nat) : ByteArray := ⟨(Lib.decDigits n).toArray⟩
def keyN (low n : Nat) : ByteArray := grp low ++ decB n
def keyO (x : On) : ByteArray := keyN x.low x.n
def lowO (d : ByteArray) : Nat := Fm.fsum d.data.toList % 256
def pB2 : ByteArray := ⟨#[98, 47]⟩
def enc (h : Nat) (d : ByteArray) : ByteArray := cat [vs h, ts d]
theorem app_l (a b : ByteArray) : (a ++ b).data.toList = a.data.toList ++ b.data.toList := by rw [ByteArray.data_append, Array.toList_append]
theorem ba_ext {a b : ByteArray} (h : a.data.toList = b.data.toList) : a = b := by
  obtain ⟨a⟩ := a
  obtain ⟨b⟩ := b
  congr 1
  exact Array.toList_inj.1 h
theorem keyN_list (low n : Nat) : (keyN low n).data.toList = [98, 47, hexd (low / 16), hexd (low % 16), 47] ++ Lib.decDigits n := by
  unfold keyN
  rw [app_l]
  rfl
theorem hexd_inj : ∀ a b : Fin 16, hexd a.val = hexd b.val → a = b := by decide +kernel
def valD (l : List UInt8) : Nat := l.foldl (fun a b => a * 10 + (b.toNat - 48)) 0
theorem valD_snoc (l : List UInt8) (b : UInt8) : valD (l ++ [b]) = valD l * 10 + (b.toNat - 48) := by unfold valD; rw [List.foldl_append]; rfl
theorem dig_val {k : Nat} (h : k < 10) : (UInt8.ofNat (48 + k)).toNat - 48 = k := by
  rw [UInt8.toNat_ofNat']
  omega
theorem valD_dec (n : Nat) : valD (Lib.decDigits n) = n := by
  induction n using Nat.strongRecOn with
  | _ n ih =>
    by_cases h : n < 10
    · rw [Lib.decDigits_one h]
      show 0 * 10 + ((UInt8.ofNat (48 + n)).toNat - 48) = n
      rw [dig_val h]
      omega
    · rw [Lib.decDigits, dif_neg h, valD_snoc, ih (n / 10) (by omega), dig_val (by omega)]
      omega
theorem dec_inj {a b : Nat} (h : Lib.decDigits a = Lib.decDigits b) : a = b := by rw [← valD_dec a, h, valD_dec]
theorem keyN_inj {a b m n : Nat} (ha : a < 256) (hb : b < 256) (h : keyN a m = keyN b n) : a = b ∧ m = n := by
  have h1 := congrArg (·.data.toList) h
  simp only [keyN_list, List.cons_append, List.nil_append, List.cons.injEq, true_and] at h1
  obtain ⟨h2, h3, h4⟩ := h1
  have e2 := hexd_inj ⟨a / 16, by omega⟩ ⟨b / 16, by omega⟩ h2
  have e3 := hexd_inj ⟨a % 16, by omega⟩ ⟨b % 16, by omega⟩ h3
  injection e2 with e2
  injection e3 with e3
  exact ⟨by omega, dec_inj h4⟩
theorem lowO_lt (d : ByteArray) : lowO d < 256 := Nat.mod_lt _ (by decide)
theorem nDigits_le : ∀ k n : Nat, n < 10 ^ k → 1 ≤ k → Lib.nDigits n ≤ k := by
  intro k
  induction k with
  | zero => intro n _ h; omega
  | succ k ih =>
    intro n h _
    by_cases h1 : n < 10
    · rw [Lib.nDigits_small h1]; omega
    · rw [Lib.nDigits_big h1]
      by_cases hk : k = 0
      · subst hk; simp at h; omega
      · have := ih (n / 10) (by rw [Nat.pow_succ] at h; omega) (by omega)
        omega
theorem decB_size {n : Nat} (h : n < 1000000000) : (decB n).size ≤ 9 := by
  have e : (decB n).size = (Lib.decDigits n).length := by simp [decB, ByteArray.size]
  rw [e, Lib.decDigits_length]
  exact nDigits_le 9 n (by omega) (by omega)
theorem keyN_size (low : Nat) {n : Nat} (h : n < 1000000000) : (keyN low n).size ≤ 14 := by
  have := decB_size h
  unfold keyN
  rw [ByteArray.size_append]
  have e : (grp low).size = 5 := rfl
  omega
theorem beg_iff (p a : ByteArray) : beg p a = true ↔ ∃ r, a.data.toList = p.data.toList ++ r := by
  unfold beg Lib.hasPrefix
  rw [List.isPrefixOf_iff_prefix]
  exact ⟨fun ⟨r, h⟩ => ⟨r, h.symm⟩, fun ⟨r, h⟩ => ⟨r, h.symm⟩⟩
theorem beg_grp (low n : Nat) : beg (grp low) (keyN low n) = true := (beg_iff _ _).2 ⟨Lib.decDigits n, keyN_list low n⟩
theorem beg_two {low : Nat} {a : ByteArray} (h : beg (grp low) a = true) : beg pB2 a = true := by
  obtain ⟨r, hr⟩ := (beg_iff _ _).1 h
  exact (beg_iff _ _).2 ⟨[hexd (low / 16), hexd (low % 16), 47] ++ r, hr⟩
theorem beg_key (low n : Nat) : beg pB2 (keyN low n) = true := beg_two (beg_grp low n)
theorem enc_list (h : Nat) (d : ByteArray) : (enc h d).data.toList = vb h ++ tl d := by
  have e : (enc h d).data.toList = (vs h).data.toList ++ ((ts d).data.toList ++ []) := rfl
  rw [e, List.append_nil, ts_tl, vs_list]
theorem enc_is (h : Nat) (d : ByteArray) : enc h d = ⟨(vb h ++ tl d).toArray⟩ := ba_ext (by rw [enc_list])
theorem enc_rdU {h : Nat} (d : ByteArray) (hh : h ≤ 9223372036854775807) : rdU (enc h d).data.toList = (h, (vb h).length, 0) := by rw [enc_list]; exact rdU_back h (tl d) hh
theorem enc_rest (h : Nat) (d : ByteArray) : (enc h d).extract (vb h).length (enc h d).size = ⟨(tl d).toArray⟩ := by rw [enc_is]; exact ext_at (vb h) (tl d)
theorem enc_rdT {d : ByteArray} (hd : d.size ≤ 9223372036854775807) : rdT ⟨(tl d).toArray⟩ = (d, (tl d).length, 0) := by
  have := rdT_back d [] hd
  rwa [List.append_nil] at this
theorem tl_size {d : ByteArray} (hd : d.size ≤ 9223372036854775807) : (⟨(tl d).toArray⟩ : ByteArray).size ≤ d.size + 10 := by
  have := tl_len hd
  have e : (⟨(tl d).toArray⟩ : ByteArray).size = (tl d).length := List.size_toArray
  omega
theorem enc_size {h : Nat} {d : ByteArray} (hh : h ≤ 9223372036854775807) (hd : d.size ≤ 9223372036854775807) : (enc h d).size ≤ d.size + 20 := by
  have e : (enc h d).size = (vb h ++ tl d).length := by rw [← enc_list, Wm.len_l]
  have h1 := vb_len (x := h) (by omega)
  have h2 := tl_len hd
  rw [e, List.length_append]
  omega
def at8 (C : List On) (p : ByteArray) : Option On := C.find? (fun x => decide (keyO x = p))
def of8 (C : List On) (d : ByteArray) : Option On := C.find? (fun x => decide (x.data = d))
def setR (C : List On) (p : ByteArray) (k : Nat) : List On := C.map (fun y => if keyO y = p then { y with refs := k } else y)
def delR (C : List On) (p : ByteArray) : List On := C.filter (fun y => !decide (keyO y = p))
theorem at8_some {C : List On} {p : ByteArray} {x : On} (h : at8 C p = some x) : x ∈ C ∧ keyO x = p := ⟨List.mem_of_find?_eq_some h, of_decide_eq_true (List.find?_some (p := fun x => decide (keyO x = p)) h)⟩
theorem of8_some {C : List On} {d : ByteArray} {x : On} (h : of8 C d = some x) : x ∈ C ∧ x.data = d := ⟨List.mem_of_find?_eq_some h, of_decide_eq_true (List.find?_some (p := fun x : On => decide (x.data = d)) h)⟩
theorem of8_none {C : List On} {d : ByteArray} (h : of8 C d = none) : ∀ x ∈ C, x.data ≠ d := fun x hx he => by
  have := List.find?_eq_none.1 h x hx
  simp [he] at this
theorem find_uniq {α : Type} {f : α → ByteArray} {C : List α} (h : C.Pairwise (fun x y => f x ≠ f y)) {x : α} (hx : x ∈ C) : C.find? (fun y => decide (f y = f x)) = some x := by
  induction C with
  | nil => cases hx
  | cons y C ih =>
    obtain ⟨h1, h2⟩ := List.pairwise_cons.1 h
    rcases List.mem_cons.1 hx with rfl | hx
    · exact List.find?_cons_of_pos (by simp)
    · rw [List.find?_cons_of_neg (by simpa using h1 x hx)]
      exact ih h2 hx
structure Good8 (C : List On) (M : Nat) : Prop where
  keys : C.Pairwise (fun x y => keyO x ≠ keyO y)
  datas : C.Pairwise (fun x y => x.data ≠ y.data)
  each : ∀ x ∈ C, x.low = lowO x.data ∧ 1 ≤ x.refs ∧ x.refs ≤ M ∧ x.n ≤ M ∧ x.data.size ≤ 140737488351232
  len : C.length ≤ M
structure Rep (R : List It) (C : List On) : Prop where
  rises : Rises R
  look : ∀ p, beg pB2 p = true → find R p = (at8 C p).map (fun x => rw7 (keyO x) (enc x.refs x.data))
section
variable {R : List It} {C : List On} {M k : Nat} {p : ByteArray} {x : On}
theorem Good8.at (h : Good8 C M) (hx : x ∈ C) : at8 C (keyO x) = some x := find_uniq h.keys hx
theorem Good8.of (h : Good8 C M) (hx : x ∈ C) : of8 C x.data = some x := find_uniq h.datas hx
theorem Good8.mono {M' : Nat} (h : Good8 C M) (hM : M ≤ M') : Good8 C M' := ⟨h.keys, h.datas, fun x hx => by obtain ⟨h1, h2, h3, h4, h5⟩ := h.each x hx; exact ⟨h1, h2, by omega, by omega, h5⟩, by have := h.len; omega⟩
theorem setR_keys (C : List On) (p : ByteArray) (k : Nat) : (setR C p k).map keyO = C.map keyO := by
  unfold setR
  rw [List.map_map]
  refine List.map_congr_left (fun y _ => ?_)
  show keyO (if keyO y = p then { y with refs := k } else y) = _
  split <;> rfl
theorem setR_datas (C : List On) (p : ByteArray) (k : Nat) : (setR C p k).map On.data = C.map On.data := by
  unfold setR
  rw [List.map_map]
  refine List.map_congr_left (fun y _ => ?_)
  show On.data (if keyO y = p then { y with refs := k } else y) = _
  split <;> rfl
theorem setR_len (C : List On) (p : ByteArray) (k : Nat) : (setR C p k).length = C.length := by unfold setR; rw [List.length_map]
theorem pair_map {f : On → ByteArray} {C C' : List On} (h : C'.map f = C.map f) (hp : C.Pairwise (fun x y => f x ≠ f y)) : C'.Pairwise (fun x y => f x ≠ f y) := by
  have h1 : (C.map f).Pairwise (· ≠ ·) := List.pairwise_map.2 hp
  rw [← h] at h1
  exact List.pairwise_map.1 h1
theorem good_set (h : Good8 C M) (h1 : 1 ≤ k) (hk : k ≤ M) : Good8 (setR C p k) M := by
  refine ⟨pair_map (setR_keys C p k) h.keys, pair_map (setR_datas C p k) h.datas, fun x hx => ?_, by rw [setR_len]; exact h.len⟩
  obtain ⟨y, hy, rfl⟩ := List.mem_map.1 hx
  obtain ⟨e1, e2, e3, e4, e5⟩ := h.each y hy
  split
  · exact ⟨e1, h1, hk, e4, e5⟩
  · exact ⟨e1, e2, e3, e4, e5⟩
theorem good_del (h : Good8 C M) : Good8 (delR C p) M := by
  unfold delR
  refine ⟨h.keys.filter _, h.datas.filter _, fun x hx => h.each x (List.mem_filter.1 hx).1, ?_⟩
  have := List.length_filter_le (fun y => !decide (keyO y = p)) C
  have := h.len
  omega
theorem at8_set (C : List On) (p q : ByteArray) (k : Nat) : at8 (setR C p k) q = if p = q then (at8 C q).map (fun y => { y with refs := k }) else at8 C q := by
  unfold at8 setR
  rw [List.find?_map]
  have e : ((fun x => decide (keyO x = q)) ∘ fun y => if keyO y = p then { y with refs := k } else y) = (fun y : On => decide (keyO y = q)) := by
    funext y
    show decide (keyO (if keyO y = p then { y with refs := k } else y) = q) = _
    split <;> rfl
  rw [e]
  cases hf : C.find? (fun y : On => decide (keyO y = q)) with
  | none => split <;> rfl
  | some y =>
    have hy : keyO y = q := of_decide_eq_true (List.find?_some (p := fun y : On => decide (keyO y = q)) hf)
    by_cases hp : p = q
    · rw [if_pos hp]
      show some (if keyO y = p then { y with refs := k } else y) = _
      rw [if_pos (hy.trans hp.symm)]
      rfl
    · rw [if_neg hp]
      show some (if keyO y = p then { y with refs := k } else y) = _
      rw [if_neg (fun e => hp (e.symm.trans hy))]
theorem at8_del (C : List On) (p q : ByteArray) : at8 (delR C p) q = if p = q then none else at8 C q := by
  unfold at8 delR
  induction C with
  | nil => split <;> rfl
  | cons y C ih =>
    by_cases hy : keyO y = p
    · rw [List.filter_cons_of_neg (by simp [hy]), ih]
      by_cases hp : p = q
      · rw [if_pos hp, if_pos hp]
      · rw [if_neg hp, if_neg hp, List.find?_cons_of_neg (by simp [hy, hp])]
    · rw [List.filter_cons_of_pos (by simp [hy])]
      by_cases hyq : keyO y = q
      · rw [List.find?_cons_of_pos (by simp [hyq]), List.find?_cons_of_pos (by simp [hyq]), if_neg (fun e => hy (hyq.trans e.symm))]
      · rw [List.find?_cons_of_neg (by simp [hyq]), List.find?_cons_of_neg (by simp [hyq])]
        exact ih
theorem rep_set (h : Rep R C) (hx : x ∈ C) (hg : Good8 C M) : Rep (app R ⟨keyO x, enc k x.data, false⟩) (setR C (keyO x) k) := by
  refine ⟨rises_app h.rises _, fun q hq => ?_⟩
  rw [find_app7, at8_set]
  by_cases hp : keyO x = q
  · subst hp
    rw [if_pos rfl, if_pos rfl, hg.at hx]
    rfl
  · rw [if_neg hp, if_neg hp]
    exact h.look q hq
theorem rep_del (h : Rep R C) : Rep (app R ⟨p, ⟨#[]⟩, true⟩) (delR C p) := by
  refine ⟨rises_app h.rises _, fun q hq => ?_⟩
  rw [find_app7, at8_del]
  by_cases hp : p = q
  · subst hp
    rw [if_pos rfl, if_pos rfl, if_pos rfl]
    rfl
  · rw [if_neg hp, if_neg hp]
    exact h.look q hq
def takenB (C : List On) (low n : Nat) : Bool := C.any (fun x => decide (keyO x = keyN low n))
def freeN (C : List On) (low : Nat) : Nat := (List.range (C.length + 1)).findIdx (fun n => !takenB C low n)
theorem taken_at (C : List On) (low n : Nat) : takenB C low n = (at8 C (keyN low n)).isSome := by
  unfold takenB at8
  rw [Bool.eq_iff_iff, List.any_eq_true, List.find?_isSome]
theorem length_le_of_sub {α : Type} [DecidableEq α] : ∀ {l m : List α}, l.Nodup → (∀ x ∈ l, x ∈ m) → l.length ≤ m.length
  | [], m, _, _ => Nat.zero_le _
  | x :: l, m, hn, hs => by
    obtain ⟨h1, h2⟩ := List.nodup_cons.1 hn
    have hm := hs x (List.mem_cons_self ..)
    have ih := length_le_of_sub (l := l) (m := m.erase x) h2 (fun y hy => by
      refine (List.mem_erase_of_ne (fun e => ?_)).2 (hs y (List.mem_cons_of_mem _ hy))
      subst e
      exact h1 hy)
    have := List.length_erase_of_mem hm
    have := List.length_pos_of_mem hm
    simp only [List.length_cons]
    omega
theorem taken_num (h : Good8 C M) {low n : Nat} (hl : low < 256) (ht : takenB C low n = true) : n ∈ C.map On.n := by
  obtain ⟨x, hx, he⟩ := List.any_eq_true.1 ht
  have hxl : x.low < 256 := by rw [(h.each x hx).1]; exact lowO_lt _
  have := keyN_inj hxl hl (of_decide_eq_true he)
  exact List.mem_map.2 ⟨x, hx, this.2⟩
theorem free_lt (h : Good8 C M) {low : Nat} (hl : low < 256) : freeN C low < C.length + 1 := by
  have hlen : (List.range (C.length + 1)).length = C.length + 1 := List.length_range
  have : freeN C low < (List.range (C.length + 1)).length := by
    refine List.findIdx_lt_length_of_exists ?_
    refine Classical.byContradiction (fun hno => ?_)
    have hall : ∀ n ∈ List.range (C.length + 1), takenB C low n = true := fun n hn => by
      cases ht : takenB C low n with
      | true => rfl
      | false => exact absurd ⟨n, hn, by rw [ht]; rfl⟩ hno
    have := length_le_of_sub (l := List.range (C.length + 1)) (m := C.map On.n) List.nodup_range (fun n hn => taken_num h hl (hall n hn))
    rw [List.length_map, hlen] at this
    omega
  rwa [hlen] at this
theorem free_not (h : Good8 C M) {low : Nat} (hl : low < 256) : takenB C low (freeN C low) = false := by
  have hlt := free_lt h hl
  have hlen : (List.range (C.length + 1)).length = C.length + 1 := List.length_range
  have := List.findIdx_getElem (xs := List.range (C.length + 1)) (p := fun n => !takenB C low n) (w := by rw [hlen]; exact hlt)
  rw [List.getElem_range] at this
  exact (Bool.not_eq_true' _).mp this
theorem free_below {low n : Nat} (h : n < freeN C low) : takenB C low n = true := by
  have hlen : (List.range (C.length + 1)).length = C.length + 1 := List.length_range
  have hle : freeN C low ≤ (List.range (C.length + 1)).length := List.findIdx_le_length
  have := List.not_of_lt_findIdx (xs := List.range (C.length + 1)) (p := fun n => !takenB C low n) h
  rw [List.getElem_range] at this
  cases ht : takenB C low n with
  | true => rfl
  | false => rw [ht] at this; cases this
def newO (C : List On) (d : ByteArray) : On := ⟨lowO d, freeN C (lowO d), 1, d⟩
theorem good_new (h : Good8 C M) {d : ByteArray} (hd : of8 C d = none) (hs : d.size ≤ 140737488351232) : Good8 (C ++ [newO C d]) (M + 1) := by
  have hlen := h.len
  have hfl := free_lt h (lowO_lt d)
  have hfn := free_not h (lowO_lt d)
  refine ⟨?_, ?_, ?_, ?_⟩
  · refine List.pairwise_append.2 ⟨h.keys, List.pairwise_singleton _ _, fun x hx y hy e => ?_⟩
    rw [List.mem_singleton] at hy
    subst hy
    have : takenB C (lowO d) (freeN C (lowO d)) = true := List.any_eq_true.2 ⟨x, hx, decide_eq_true e⟩
    rw [hfn] at this
    cases this
  · refine List.pairwise_append.2 ⟨h.datas, List.pairwise_singleton _ _, fun x hx y hy e => ?_⟩
    rw [List.mem_singleton] at hy
    subst hy
    exact of8_none hd x hx e
  · intro x hx
    rcases List.mem_append.1 hx with hx | hx
    · obtain ⟨h1, h2, h3, h4, h5⟩ := h.each x hx
      exact ⟨h1, h2, by omega, by omega, h5⟩
    · rw [List.mem_singleton] at hx
      subst hx
      exact ⟨rfl, Nat.le_refl _, by show 1 ≤ M + 1; omega, by show freeN C (lowO d) ≤ M + 1; omega, hs⟩
  · rw [List.length_append, List.length_singleton]
    omega
theorem rep_new (h : Rep R C) (hg : Good8 C M) {d : ByteArray} : Rep (app R ⟨keyO (newO C d), enc 1 d, false⟩) (C ++ [newO C d]) := by
  refine ⟨rises_app h.rises _, fun q hq => ?_⟩
  have hfn := free_not hg (lowO_lt d)
  rw [taken_at] at hfn
  have hno : at8 C (keyO (newO C d)) = none := Option.isSome_eq_false_iff.1 hfn |> Option.isNone_iff_eq_none.1
  rw [find_app7]
  have e : at8 (C ++ [newO C d]) q = (at8 C q).or (if keyO (newO C d) = q then some (newO C d) else none) := by
    unfold at8
    rw [List.find?_append]
    congr 1
    by_cases hp : keyO (newO C d) = q <;> simp [List.find?_cons, hp]
  rw [e]
  by_cases hp : keyO (newO C d) = q
  · rw [if_pos hp, if_pos hp, ← hp, hno]
    rfl
  · rw [if_neg hp, if_neg hp, Option.or_none]
    exact h.look q hq
def putC (C : List On) (d : ByteArray) : List On × ByteArray := match of8 C d with
  | some x => (setR C (keyO x) (x.refs + 1), keyO x)
  | none => (C ++ [newO C d], keyO (newO C d))
def relC (C : List On) (p : ByteArray) : List On × Bool := match at8 C p with
  | some x => (if x.refs = 1 then delR C p else setR C p (x.refs - 1), true)
  | none => (C, false)
theorem rep_key (h : Rep R C) (hb : beg pB2 p = true) (hf : (find R p).isSome = true) : ∃ x ∈ C, keyO x = p ∧ find R p = some (rw7 (keyO x) (enc x.refs x.data)) := by
  have := h.look p hb
  cases ha : at8 C p with
  | none => rw [this, ha] at hf; cases hf
  | some x =>
    rw [ha] at this
    obtain ⟨h1, h2⟩ := at8_some ha
    exact ⟨x, h1, h2, this⟩
theorem rep_mem (h : Rep R C) (hg : Good8 C M) (hx : x ∈ C) : find R (keyO x) = some (rw7 (keyO x) (enc x.refs x.data)) := by
  rw [h.look (keyO x) (beg_key x.low x.n), hg.at hx]
  rfl
theorem good_put (h : Good8 C M) {d : ByteArray} (hs : d.size ≤ 140737488351232) : Good8 (putC C d).1 (M + 1) := by
  unfold putC
  cases hd : of8 C d with
  | none => exact good_new h hd hs
  | some x =>
    obtain ⟨hx, _⟩ := of8_some hd
    have := (h.each x hx).2.2.1
    exact good_set (h.mono (Nat.le_succ M)) (by omega) (by omega)
theorem good_rel (h : Good8 C M) : Good8 (relC C p).1 M := by
  unfold relC
  cases hd : at8 C p with
  | none => exact h
  | some x =>
    obtain ⟨hx, _⟩ := at8_some hd
    obtain ⟨_, h2, h3, _⟩ := h.each x hx
    show Good8 (if x.refs = 1 then delR C p else setR C p (x.refs - 1)) M
    split
    · exact good_del h
    · exact good_set h (by omega) (by omega)
end
end Go.Proofs.YtdkgkomjbpggeaaGreatDoor.Bl
