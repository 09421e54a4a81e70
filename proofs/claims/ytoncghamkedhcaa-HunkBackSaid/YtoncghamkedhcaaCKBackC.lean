/-
  HunkBack: for every two lists of lines, every number of lines around and every place: the pieces between the lists make the second of the first, and taken back the first of the second; pieces taken back twice are the pieces; there is no piece just where the lists are alike; a list whose line at the place has changed is refused where a piece stands there, and else changed as long.
  It is said of the code of package hunk as it landed, for every argument of the given row's domain, in the first form; the law returns true, and writes nothing that was there. No other condition.
-/
import Derived.Test.YtoncghamkedhcaaT3
import Derived.ProofKit
import Derived.OpenShut
import Derived.ChangeOld
import Derived.Below
import Derived.JoinedCond
namespace Go.Proofs.Ytoncghamkedhcaa.Kd
open Tx Um Ud Aq Km
set_option linter.unusedVariables false
theorem cut_small {p : Nat} {ra rb : List ByteArray} {H : List (Hk ByteArray)} (h : Cut p ra rb H) : ∀ x, x ∈ H → x.at_ + x.old.length ≤ p + ra.length ∧ x.new.length ≤ rb.length := by
  induction h with
  | nil p l => intro x hx; cases hx
  | cons p c o n h ih =>
    intro x hx
    rcases List.mem_cons.1 hx with rfl | hx
    · simp only [List.length_append]
      omega
    · obtain ⟨h1, h2⟩ := ih x hx
      simp only [List.length_append]
      omega
theorem bk_len (hs : List (Hz ByteArray)) : ∀ s, (bk s hs).length = hs.length := by
  induction hs with
  | nil => intro s; rfl
  | cons h hs ih => intro s; rw [bk, List.length_cons, List.length_cons, ih]
theorem news_le_mul (hs : List (Hz ByteArray)) (N : Nat) (h : ∀ x, x ∈ hs → x.new.length ≤ N) : news hs ≤ hs.length * N := by
  unfold news
  induction hs with
  | nil => exact Nat.zero_le _
  | cons x hs ih =>
    have h1 := h x (by simp)
    have h2 := ih (fun y hy => h y (by simp [hy]))
    rw [List.map_cons, List.sum_cons, List.length_cons, Nat.add_mul]
    omega
structure Facts (a b : List ByteArray) (H : List (Hk ByteArray)) : Prop where
  make : ap a 0 (H.map Hk.z) = (b, 0)
  back : ap b 0 (bk 0 (H.map Hk.z)) = (a, 0)
  twice : bk 0 (bk 0 (H.map Hk.z)) = H.map Hk.z
  none : H.length = 0 ↔ a = b
  small : ∀ x, x ∈ H.map Hk.z → x.old.length ≤ 400 ∧ x.new.length ≤ 400 ∧ 0 ≤ x.at_ ∧ x.at_ ≤ 400
  smallB : ∀ x, x ∈ bk 0 (H.map Hk.z) → x.old.length ≤ 400 ∧ x.new.length ≤ 400 ∧ 0 ≤ x.at_ ∧ x.at_ ≤ 400
  count : H.length ≤ 401
  changed : ∀ (i : Nat) (x : ByteArray) (hi : i < a.length), x ≠ a[i] → (within H i = true → ap (a.set i x) 0 (H.map Hk.z) = ([], 11)) ∧ (within H i = false → (ap (a.set i x) 0 (H.map Hk.z)).2 = 0 ∧ (ap (a.set i x) 0 (H.map Hk.z)).1.length = b.length)
theorem facts (a b : List ByteArray) (ar : Nat) (ha : a.length ≤ 400) (hb : b.length ≤ 400) : Facts a b (btw a b ar (pairs 0 0 (steps a b))) := by
  have hc := pieces_cut a b ar
  have hn := pieces_none a b ar
  have hk : (btw a b ar (pairs 0 0 (steps a b))).length ≤ 401 := by
    have h : (btw a b ar (pairs 0 0 (steps a b))).length ≤ a.length + 1 := by
      unfold btw
      rw [hks_map, List.length_map, List.length_reverse]
      have h1 := rs_len (pairs 0 0 (steps a b) ++ [(a.length, b.length)]) (2 * ar) 0 0 []
      have h2 := pairs_len (steps a b) 0 0
      have h3 := kept a b
      have h4 := lcs_le_left a b
      rw [List.length_append] at h1
      simp at h1
      omega
    omega
  obtain ⟨H, hH⟩ : ∃ H, H = btw a b ar (pairs 0 0 (steps a b)) := ⟨_, rfl⟩
  rw [← hH] at hc hn hk ⊢
  obtain ⟨H', hc', he'⟩ := cut_back hc 0 0 rfl
  refine ⟨cut_ap hc a rfl (Nat.zero_le _), ?_, ?_, ?_, fun x hx => ?_, fun x hx => ?_, hk, fun i x hi hx => cut_changed hc a i x rfl (Nat.zero_le _) hi hx⟩
  · rw [← he']
    exact cut_ap hc' b rfl (Nat.zero_le _)
  · exact bk_back (H.map Hk.z) 0
  · rw [List.length_eq_zero_iff]
    exact hn
  · obtain ⟨y, hy, rfl⟩ := List.mem_map.1 hx
    obtain ⟨h1, h2⟩ := cut_small hc y hy
    show y.old.length ≤ 400 ∧ y.new.length ≤ 400 ∧ 0 ≤ ((y.at_ : Nat) : Int) ∧ ((y.at_ : Nat) : Int) ≤ 400
    omega
  · rw [← he'] at hx
    obtain ⟨y, hy, rfl⟩ := List.mem_map.1 hx
    obtain ⟨h1, h2⟩ := cut_small hc' y hy
    show y.old.length ≤ 400 ∧ y.new.length ≤ 400 ∧ 0 ≤ ((y.at_ : Nat) : Int) ∧ ((y.at_ : Nat) : Int) ≤ 400
    omega
theorem within_take {H : List (Hk ByteArray)} {k i : Nat} {h : Hk ByteArray} (hh : H[k]? = some h) : within (H.take (k + 1)) i = (within (H.take k) i || (decide (h.at_ ≤ i) && decide (i < h.at_ + h.old.length))) := by
  unfold within
  rw [List.take_add_one, hh, List.any_append]
  simp
end Go.Proofs.Ytoncghamkedhcaa.Kd

namespace Go.Proofs.Ytoncghamkedhcaa.Kd
open Go.RowKit Tx
set_option linter.unusedVariables false
def Thr2 (bc oc k p o : Nat) (A1 : Option Addr) (c1 : Nat) (W : World) : Prop := W.cell? ⟨bc, oc + k * 3, none⟩ = some (.int .i64 (p : Int)) ∧ W.cell? ⟨bc, oc + k * 3 + 1, none⟩ = some (.slice A1 o c1)
set_option maxRecDepth 100000 in
set_option maxHeartbeats 4000000 in
theorem backReg1 (ops : Array Oper) (hops : ops = (Rg.opsOf Try.f5 17)) (id : Nat) (bc oc k p o i L vc c1 : Nat) (A1 : Option Addr) {u0 u1 u2 u4 u5 u6 u7 u8 u10 u11 u12 u13 u14 u15 u16 u19 u20 u21 u22 u23 u24 u25 u26 u27 u28 u29 u30 u31 u32 u33 u34 u35 u36 u37 u38 u39 u40 u41 u42 u43 u44 u45 u46 u47 u48 u49 u50 u51 u52 u53 u54 u55 u56 u57 u58 u59 u60 u61 u62 u63 u64 u65 u66 u67 u68 u69 u70 u71 u72 u73 u74 u75 u76 u77 u78 u79 u80 u81 u82 u83 u84 u85 u86 u87 u88 u89 u90 u91 u92 u93 u94 u95 u96 u97 u98 u99 u100 u101 u102 u103 u104 u105 u106 u107 u108 u109 u110 u111 u112 u113 u114 u115 u116 u117 u118 u119 u120 u121 u122 u123 u124 u125 u126 u127 u128 u129 u130 u131 u132 u133 u134 u135 u136 u137 u138 u139 u140 u141 u142 u143 u144 u145 u146 u147 u148 u149 u150 u151 u152 u153 u154 u155 u156 u157 u158 u159 u160 u161 u162 u163 u164 u165 u166 u167 u168 u169 : Value} (w : World) (X0 : World → Prop) (hk : (k : Int) < (L : Int))
    (hX : ∀ W, X0 W → Thr2 bc oc k p o A1 c1 W) (hw : X0 w.drew) :
    (Code.region id ops true).wp Try.prog (Rg.Only fun a' w' => a' = ⟨#[u0, u1, u2, (.int .i64 (i : Int)), u4, u5, u6, u7, u8, (.slice (some ⟨bc, oc, none⟩) L vc), u10, u11, u12, u13, u14, u15, u16, (Value.bool true), (.int .i64 (k : Int)), u19, u20, u21, u22, u23, u24, u25, u26, u27, u28, u29, u30, u31, u32, u33, u34, u35, u36, u37, u38, u39, u40, u41, u42, u43, u44, u45, u46, u47, u48, u49, u50, u51, u52, u53, u54, u55, u56, u57, u58, u59, u60, u61, u62, u63, u64, u65, u66, u67, u68, u69, u70, u71, u72, u73, u74, u75, u76, u77, u78, u79, u80, u81, u82, u83, u84, u85, u86, u87, u88, u89, u90, u91, u92, u93, u94, u95, u96, u97, u98, u99, u100, u101, u102, u103, u104, u105, u106, u107, u108, u109, u110, u111, u112, u113, u114, u115, u116, u117, u118, u119, u120, (.bool true), (.bool true), undef, undef, undef, undef, undef, undef, undef, undef, undef, undef, undef, undef, undef, undef, undef, undef, undef, undef, undef, undef, undef, undef, undef, (Value.bool true), u147, u148, u149, u150, u151, u152, u153, u154, u155, u156, u157, u158, u159, u160, u161, u162, u163, u164, u165, u166, u167, u168, u169], []⟩ ∧ X0 w') ⟨#[u0, u1, u2, (.int .i64 (i : Int)), u4, u5, u6, u7, u8, (.slice (some ⟨bc, oc, none⟩) L vc), u10, u11, u12, u13, u14, u15, u16, (.bool true), (.int .i64 (k : Int)), u19, u20, u21, u22, u23, u24, u25, u26, u27, u28, u29, u30, u31, u32, u33, u34, u35, u36, u37, u38, u39, u40, u41, u42, u43, u44, u45, u46, u47, u48, u49, u50, u51, u52, u53, u54, u55, u56, u57, u58, u59, u60, u61, u62, u63, u64, u65, u66, u67, u68, u69, u70, u71, u72, u73, u74, u75, u76, u77, u78, u79, u80, u81, u82, u83, u84, u85, u86, u87, u88, u89, u90, u91, u92, u93, u94, u95, u96, u97, u98, u99, u100, u101, u102, u103, u104, u105, u106, u107, u108, u109, u110, u111, u112, u113, u114, u115, u116, u117, u118, u119, u120, u121, u122, u123, u124, u125, u126, u127, u128, u129, u130, u131, u132, u133, u134, u135, u136, u137, u138, u139, u140, u141, u142, u143, u144, u145, u146, u147, u148, u149, u150, u151, u152, u153, u154, u155, u156, u157, u158, u159, u160, u161, u162, u163, u164, u165, u166, u167, u168, u169], []⟩ w := by
  subst hops
  have hNS : Region.noSelect (Rg.opsOf Try.f5 17) = true := by kernel_rfl
  refine wp_region_held_drew (S := X0) (by kernel_rfl) hw (fun hHeld => ?_)
  rw [show (Rg.opsOf Try.f5 17).size = 27 by kernel_rfl]
  refine Rg.take (ops := (Rg.opsOf Try.f5 17)) 0 (some 121) ((.bool true)) hNS (by kernel_rfl) (by kernel_rfl) (by kernel_rfl) (by kernel_rfl) (by kernel_rfl) hHeld (Rg.y_move (x := (Operand.tmp 17)) (Or.inl (by kernel_rfl)) (by kernel_rfl)) ?_
  refine Rg.take (ops := (Rg.opsOf Try.f5 17)) 1 (some 122) ((.bool true)) hNS (by kernel_rfl) (by kernel_rfl) (by kernel_rfl) (by kernel_rfl) (by kernel_rfl) hHeld (Rg.y_move (x := (Operand.tmp 121)) (Or.inl (by kernel_rfl)) (by kernel_rfl)) ?_
  refine Rg.skip (ops := (Rg.opsOf Try.f5 17)) 2 (some 123) hNS (by kernel_rfl) (by kernel_rfl) (by kernel_rfl) (by kernel_rfl) (by kernel_rfl) hHeld ?_
  refine Rg.skip (ops := (Rg.opsOf Try.f5 17)) 3 (some 124) hNS (by kernel_rfl) (by kernel_rfl) (by kernel_rfl) (by kernel_rfl) (by kernel_rfl) hHeld ?_
  refine Rg.skip (ops := (Rg.opsOf Try.f5 17)) 4 (some 125) hNS (by kernel_rfl) (by kernel_rfl) (by kernel_rfl) (by kernel_rfl) (by kernel_rfl) hHeld ?_
  refine Rg.skip (ops := (Rg.opsOf Try.f5 17)) 5 (some 126) hNS (by kernel_rfl) (by kernel_rfl) (by kernel_rfl) (by kernel_rfl) (by kernel_rfl) hHeld ?_
  refine Rg.skip (ops := (Rg.opsOf Try.f5 17)) 6 (some 127) hNS (by kernel_rfl) (by kernel_rfl) (by kernel_rfl) (by kernel_rfl) (by kernel_rfl) hHeld ?_
  refine Rg.skip (ops := (Rg.opsOf Try.f5 17)) 7 (some 128) hNS (by kernel_rfl) (by kernel_rfl) (by kernel_rfl) (by kernel_rfl) (by kernel_rfl) hHeld ?_
  refine Rg.skip (ops := (Rg.opsOf Try.f5 17)) 8 (some 129) hNS (by kernel_rfl) (by kernel_rfl) (by kernel_rfl) (by kernel_rfl) (by kernel_rfl) hHeld ?_
  refine Rg.skip (ops := (Rg.opsOf Try.f5 17)) 9 (some 130) hNS (by kernel_rfl) (by kernel_rfl) (by kernel_rfl) (by kernel_rfl) (by kernel_rfl) hHeld ?_
  refine Rg.skip (ops := (Rg.opsOf Try.f5 17)) 10 (some 131) hNS (by kernel_rfl) (by kernel_rfl) (by kernel_rfl) (by kernel_rfl) (by kernel_rfl) hHeld ?_
  refine Rg.skip (ops := (Rg.opsOf Try.f5 17)) 11 (some 132) hNS (by kernel_rfl) (by kernel_rfl) (by kernel_rfl) (by kernel_rfl) (by kernel_rfl) hHeld ?_
  refine Rg.skip (ops := (Rg.opsOf Try.f5 17)) 12 (some 133) hNS (by kernel_rfl) (by kernel_rfl) (by kernel_rfl) (by kernel_rfl) (by kernel_rfl) hHeld ?_
  refine Rg.skip (ops := (Rg.opsOf Try.f5 17)) 13 (some 134) hNS (by kernel_rfl) (by kernel_rfl) (by kernel_rfl) (by kernel_rfl) (by kernel_rfl) hHeld ?_
  refine Rg.skip (ops := (Rg.opsOf Try.f5 17)) 14 (some 135) hNS (by kernel_rfl) (by kernel_rfl) (by kernel_rfl) (by kernel_rfl) (by kernel_rfl) hHeld ?_
  refine Rg.skip (ops := (Rg.opsOf Try.f5 17)) 15 (some 136) hNS (by kernel_rfl) (by kernel_rfl) (by kernel_rfl) (by kernel_rfl) (by kernel_rfl) hHeld ?_
  refine Rg.skip (ops := (Rg.opsOf Try.f5 17)) 16 (some 137) hNS (by kernel_rfl) (by kernel_rfl) (by kernel_rfl) (by kernel_rfl) (by kernel_rfl) hHeld ?_
  refine Rg.skip (ops := (Rg.opsOf Try.f5 17)) 17 (some 138) hNS (by kernel_rfl) (by kernel_rfl) (by kernel_rfl) (by kernel_rfl) (by kernel_rfl) hHeld ?_
  refine Rg.skip (ops := (Rg.opsOf Try.f5 17)) 18 (some 139) hNS (by kernel_rfl) (by kernel_rfl) (by kernel_rfl) (by kernel_rfl) (by kernel_rfl) hHeld ?_
  refine Rg.skip (ops := (Rg.opsOf Try.f5 17)) 19 (some 140) hNS (by kernel_rfl) (by kernel_rfl) (by kernel_rfl) (by kernel_rfl) (by kernel_rfl) hHeld ?_
  refine Rg.skip (ops := (Rg.opsOf Try.f5 17)) 20 (some 141) hNS (by kernel_rfl) (by kernel_rfl) (by kernel_rfl) (by kernel_rfl) (by kernel_rfl) hHeld ?_
  refine Rg.skip (ops := (Rg.opsOf Try.f5 17)) 21 (some 142) hNS (by kernel_rfl) (by kernel_rfl) (by kernel_rfl) (by kernel_rfl) (by kernel_rfl) hHeld ?_
  refine Rg.skip (ops := (Rg.opsOf Try.f5 17)) 22 (some 143) hNS (by kernel_rfl) (by kernel_rfl) (by kernel_rfl) (by kernel_rfl) (by kernel_rfl) hHeld ?_
  refine Rg.skip (ops := (Rg.opsOf Try.f5 17)) 23 (some 144) hNS (by kernel_rfl) (by kernel_rfl) (by kernel_rfl) (by kernel_rfl) (by kernel_rfl) hHeld ?_
  refine Rg.skip (ops := (Rg.opsOf Try.f5 17)) 24 (some 145) hNS (by kernel_rfl) (by kernel_rfl) (by kernel_rfl) (by kernel_rfl) (by kernel_rfl) hHeld ?_
  refine Rg.take (ops := (Rg.opsOf Try.f5 17)) 25 (some 146) ((Value.bool true)) hNS (by kernel_rfl) (by kernel_rfl) (by kernel_rfl) (by kernel_rfl) (by kernel_rfl) hHeld (Rg.y_pick (c := (Operand.tmp 122)) (x := (Operand.const (Value.bool true))) (y := (Operand.tmp 145)) (b := true) (by kernel_rfl) (by kernel_rfl) (by kernel_rfl)) ?_
  refine Rg.take (ops := (Rg.opsOf Try.f5 17)) 26 (some 17) ((Value.bool true)) hNS (by kernel_rfl) (by kernel_rfl) (by kernel_rfl) (by kernel_rfl) (by kernel_rfl) hHeld (Rg.y_move (x := (Operand.tmp 146)) (Or.inr (by kernel_rfl)) (by kernel_rfl)) ?_
  refine Rg.done (ops := (Rg.opsOf Try.f5 17)) (by kernel_rfl) ?_
  exact ⟨by kernel_rfl, hHeld⟩
set_option maxRecDepth 100000 in
set_option maxHeartbeats 4000000 in
theorem backReg2 (ops : Array Oper) (hops : ops = (Rg.opsOf Try.f5 17)) (id : Nat) (bc oc k p o i L vc c1 : Nat) (A1 : Option Addr) {u0 u1 u2 u4 u5 u6 u7 u8 u10 u11 u12 u13 u14 u15 u16 u19 u20 u21 u22 u23 u24 u25 u26 u27 u28 u29 u30 u31 u32 u33 u34 u35 u36 u37 u38 u39 u40 u41 u42 u43 u44 u45 u46 u47 u48 u49 u50 u51 u52 u53 u54 u55 u56 u57 u58 u59 u60 u61 u62 u63 u64 u65 u66 u67 u68 u69 u70 u71 u72 u73 u74 u75 u76 u77 u78 u79 u80 u81 u82 u83 u84 u85 u86 u87 u88 u89 u90 u91 u92 u93 u94 u95 u96 u97 u98 u99 u100 u101 u102 u103 u104 u105 u106 u107 u108 u109 u110 u111 u112 u113 u114 u115 u116 u117 u118 u119 u120 u121 u122 u123 u124 u125 u126 u127 u128 u129 u130 u131 u132 u133 u134 u135 u136 u137 u138 u139 u140 u141 u142 u143 u144 u145 u146 u147 u148 u149 u150 u151 u152 u153 u154 u155 u156 u157 u158 u159 u160 u161 u162 u163 u164 u165 u166 u167 u168 u169 : Value} (w : World) (X0 : World → Prop) (hk : (k : Int) < (L : Int))
    (hX : ∀ W, X0 W → Thr2 bc oc k p o A1 c1 W) (hw : X0 w.drew) (f1 : ¬ (p : Int) ≤ (i : Int)) (f2 : decide ((p : Int) ≤ (i : Int)) = false) :
    (Code.region id ops true).wp Try.prog (Rg.Only fun a' w' => a' = ⟨#[u0, u1, u2, (.int .i64 (i : Int)), u4, u5, u6, u7, u8, (.slice (some ⟨bc, oc, none⟩) L vc), u10, u11, u12, u13, u14, u15, u16, (Value.bool false), (.int .i64 (k : Int)), u19, u20, u21, u22, u23, u24, u25, u26, u27, u28, u29, u30, u31, u32, u33, u34, u35, u36, u37, u38, u39, u40, u41, u42, u43, u44, u45, u46, u47, u48, u49, u50, u51, u52, u53, u54, u55, u56, u57, u58, u59, u60, u61, u62, u63, u64, u65, u66, u67, u68, u69, u70, u71, u72, u73, u74, u75, u76, u77, u78, u79, u80, u81, u82, u83, u84, u85, u86, u87, u88, u89, u90, u91, u92, u93, u94, u95, u96, u97, u98, u99, u100, u101, u102, u103, u104, u105, u106, u107, u108, u109, u110, u111, u112, u113, u114, u115, u116, u117, u118, u119, u120, (.bool false), (.bool false), (.int .i64 (i : Int)), (.slice (some ⟨bc, oc, none⟩) L vc), (.int .i64 (k : Int)), (.pointer (some ⟨bc, oc + k * 3, none⟩)), (.pointer (some ⟨bc, oc + k * 3, none⟩)), (.int .i64 (p : Int)), (.bool false), (.bool false), undef, undef, undef, undef, undef, undef, undef, undef, undef, undef, undef, undef, undef, undef, (Value.bool false), (Value.bool false), u147, u148, u149, u150, u151, u152, u153, u154, u155, u156, u157, u158, u159, u160, u161, u162, u163, u164, u165, u166, u167, u168, u169], []⟩ ∧ X0 w') ⟨#[u0, u1, u2, (.int .i64 (i : Int)), u4, u5, u6, u7, u8, (.slice (some ⟨bc, oc, none⟩) L vc), u10, u11, u12, u13, u14, u15, u16, (.bool false), (.int .i64 (k : Int)), u19, u20, u21, u22, u23, u24, u25, u26, u27, u28, u29, u30, u31, u32, u33, u34, u35, u36, u37, u38, u39, u40, u41, u42, u43, u44, u45, u46, u47, u48, u49, u50, u51, u52, u53, u54, u55, u56, u57, u58, u59, u60, u61, u62, u63, u64, u65, u66, u67, u68, u69, u70, u71, u72, u73, u74, u75, u76, u77, u78, u79, u80, u81, u82, u83, u84, u85, u86, u87, u88, u89, u90, u91, u92, u93, u94, u95, u96, u97, u98, u99, u100, u101, u102, u103, u104, u105, u106, u107, u108, u109, u110, u111, u112, u113, u114, u115, u116, u117, u118, u119, u120, u121, u122, u123, u124, u125, u126, u127, u128, u129, u130, u131, u132, u133, u134, u135, u136, u137, u138, u139, u140, u141, u142, u143, u144, u145, u146, u147, u148, u149, u150, u151, u152, u153, u154, u155, u156, u157, u158, u159, u160, u161, u162, u163, u164, u165, u166, u167, u168, u169], []⟩ w := by
  subst hops
  have hNS : Region.noSelect (Rg.opsOf Try.f5 17) = true := by kernel_rfl
  refine wp_region_held_drew (S := X0) (by kernel_rfl) hw (fun hHeld => ?_)
  rw [show (Rg.opsOf Try.f5 17).size = 27 by kernel_rfl]
  refine Rg.take (ops := (Rg.opsOf Try.f5 17)) 0 (some 121) ((.bool false)) hNS (by kernel_rfl) (by kernel_rfl) (by kernel_rfl) (by kernel_rfl) (by kernel_rfl) hHeld (Rg.y_move (x := (Operand.tmp 17)) (Or.inl (by kernel_rfl)) (by kernel_rfl)) ?_
  refine Rg.take (ops := (Rg.opsOf Try.f5 17)) 1 (some 122) ((.bool false)) hNS (by kernel_rfl) (by kernel_rfl) (by kernel_rfl) (by kernel_rfl) (by kernel_rfl) hHeld (Rg.y_move (x := (Operand.tmp 121)) (Or.inl (by kernel_rfl)) (by kernel_rfl)) ?_
  refine Rg.take (ops := (Rg.opsOf Try.f5 17)) 2 (some 123) ((.int .i64 (i : Int))) hNS (by kernel_rfl) (by kernel_rfl) (by kernel_rfl) (by kernel_rfl) (by kernel_rfl) hHeld (Rg.y_move (x := (Operand.tmp 3)) (Or.inl (by kernel_rfl)) (by kernel_rfl)) ?_
  refine Rg.take (ops := (Rg.opsOf Try.f5 17)) 3 (some 124) ((.slice (some ⟨bc, oc, none⟩) L vc)) hNS (by kernel_rfl) (by kernel_rfl) (by kernel_rfl) (by kernel_rfl) (by kernel_rfl) hHeld (Rg.y_move (x := (Operand.tmp 9)) (Or.inl (by kernel_rfl)) (by kernel_rfl)) ?_
  refine Rg.take (ops := (Rg.opsOf Try.f5 17)) 4 (some 125) ((.int .i64 (k : Int))) hNS (by kernel_rfl) (by kernel_rfl) (by kernel_rfl) (by kernel_rfl) (by kernel_rfl) hHeld (Rg.y_move (x := (Operand.tmp 18)) (Or.inl (by kernel_rfl)) (by kernel_rfl)) ?_
  refine Rg.take (ops := (Rg.opsOf Try.f5 17)) 5 (some 126) ((.pointer (some ⟨bc, oc + k * 3, none⟩))) hNS (by kernel_rfl) (by kernel_rfl) (by kernel_rfl) (by kernel_rfl) (by kernel_rfl) hHeld (Rg.y_at (T := 23) (x := (Operand.tmp 124)) (y := (Operand.tmp 125)) (vx := (.slice (some ⟨bc, oc, none⟩) L vc)) (vy := (.int .i64 (k : Int))) (by kernel_rfl) (by kernel_rfl) (by kernel_rfl) ?_) ?_
  · (intro W hSw; clear hSw hHeld; go_simp)
  refine Rg.take (ops := (Rg.opsOf Try.f5 17)) 6 (some 127) ((.pointer (some ⟨bc, oc + k * 3, none⟩))) hNS (by kernel_rfl) (by kernel_rfl) (by kernel_rfl) (by kernel_rfl) (by kernel_rfl) hHeld (Rg.y_field (T := 33) (k := 0) (x := (Operand.tmp 126)) (vx := (.pointer (some ⟨bc, oc + k * 3, none⟩))) (by kernel_rfl) (by kernel_rfl) ?_) ?_
  · (intro W hSw; clear hSw hHeld; go_simp)
  refine Rg.take (ops := (Rg.opsOf Try.f5 17)) 7 (some 128) ((.int .i64 (p : Int))) hNS (by kernel_rfl) (by kernel_rfl) (by kernel_rfl) (by kernel_rfl) (by kernel_rfl) hHeld (Rg.y_load (T := 3) (x := (Operand.tmp 127)) (vx := (.pointer (some ⟨bc, oc + k * 3, none⟩))) (by kernel_rfl) (by kernel_rfl) ?_) ?_
  · (intro W hSw; obtain ⟨s0, s1⟩ := hX _ hSw; clear hSw hHeld; go_simp)
  refine Rg.take (ops := (Rg.opsOf Try.f5 17)) 8 (some 129) ((.bool false)) hNS (by kernel_rfl) (by kernel_rfl) (by kernel_rfl) (by kernel_rfl) (by kernel_rfl) hHeld (Rg.y_bin (b := BinOp.geq) (T := 3) (R' := 3) (x := (Operand.tmp 123)) (y := (Operand.tmp 128)) (vx := (.int .i64 (i : Int))) (vy := (.int .i64 (p : Int))) (by kernel_rfl) (by kernel_rfl) (by kernel_rfl) ?_) ?_
  · (intro W hSw; clear hSw hHeld; go_simp <;> first | omega | (intro h0; omega))
  refine Rg.take (ops := (Rg.opsOf Try.f5 17)) 9 (some 130) ((.bool false)) hNS (by kernel_rfl) (by kernel_rfl) (by kernel_rfl) (by kernel_rfl) (by kernel_rfl) hHeld (Rg.y_move (x := (Operand.tmp 129)) (Or.inl (by kernel_rfl)) (by kernel_rfl)) ?_
  refine Rg.skip (ops := (Rg.opsOf Try.f5 17)) 10 (some 131) hNS (by kernel_rfl) (by kernel_rfl) (by kernel_rfl) (by kernel_rfl) (by kernel_rfl) hHeld ?_
  refine Rg.skip (ops := (Rg.opsOf Try.f5 17)) 11 (some 132) hNS (by kernel_rfl) (by kernel_rfl) (by kernel_rfl) (by kernel_rfl) (by kernel_rfl) hHeld ?_
  refine Rg.skip (ops := (Rg.opsOf Try.f5 17)) 12 (some 133) hNS (by kernel_rfl) (by kernel_rfl) (by kernel_rfl) (by kernel_rfl) (by kernel_rfl) hHeld ?_
  refine Rg.skip (ops := (Rg.opsOf Try.f5 17)) 13 (some 134) hNS (by kernel_rfl) (by kernel_rfl) (by kernel_rfl) (by kernel_rfl) (by kernel_rfl) hHeld ?_
  refine Rg.skip (ops := (Rg.opsOf Try.f5 17)) 14 (some 135) hNS (by kernel_rfl) (by kernel_rfl) (by kernel_rfl) (by kernel_rfl) (by kernel_rfl) hHeld ?_
  refine Rg.skip (ops := (Rg.opsOf Try.f5 17)) 15 (some 136) hNS (by kernel_rfl) (by kernel_rfl) (by kernel_rfl) (by kernel_rfl) (by kernel_rfl) hHeld ?_
  refine Rg.skip (ops := (Rg.opsOf Try.f5 17)) 16 (some 137) hNS (by kernel_rfl) (by kernel_rfl) (by kernel_rfl) (by kernel_rfl) (by kernel_rfl) hHeld ?_
  refine Rg.skip (ops := (Rg.opsOf Try.f5 17)) 17 (some 138) hNS (by kernel_rfl) (by kernel_rfl) (by kernel_rfl) (by kernel_rfl) (by kernel_rfl) hHeld ?_
  refine Rg.skip (ops := (Rg.opsOf Try.f5 17)) 18 (some 139) hNS (by kernel_rfl) (by kernel_rfl) (by kernel_rfl) (by kernel_rfl) (by kernel_rfl) hHeld ?_
  refine Rg.skip (ops := (Rg.opsOf Try.f5 17)) 19 (some 140) hNS (by kernel_rfl) (by kernel_rfl) (by kernel_rfl) (by kernel_rfl) (by kernel_rfl) hHeld ?_
  refine Rg.skip (ops := (Rg.opsOf Try.f5 17)) 20 (some 141) hNS (by kernel_rfl) (by kernel_rfl) (by kernel_rfl) (by kernel_rfl) (by kernel_rfl) hHeld ?_
  refine Rg.skip (ops := (Rg.opsOf Try.f5 17)) 21 (some 142) hNS (by kernel_rfl) (by kernel_rfl) (by kernel_rfl) (by kernel_rfl) (by kernel_rfl) hHeld ?_
  refine Rg.skip (ops := (Rg.opsOf Try.f5 17)) 22 (some 143) hNS (by kernel_rfl) (by kernel_rfl) (by kernel_rfl) (by kernel_rfl) (by kernel_rfl) hHeld ?_
  refine Rg.skip (ops := (Rg.opsOf Try.f5 17)) 23 (some 144) hNS (by kernel_rfl) (by kernel_rfl) (by kernel_rfl) (by kernel_rfl) (by kernel_rfl) hHeld ?_
  refine Rg.take (ops := (Rg.opsOf Try.f5 17)) 24 (some 145) ((Value.bool false)) hNS (by kernel_rfl) (by kernel_rfl) (by kernel_rfl) (by kernel_rfl) (by kernel_rfl) hHeld (Rg.y_pick (c := (Operand.tmp 130)) (x := (Operand.tmp 144)) (y := (Operand.const (Value.bool false))) (b := false) (by kernel_rfl) (by kernel_rfl) (by kernel_rfl)) ?_
  refine Rg.take (ops := (Rg.opsOf Try.f5 17)) 25 (some 146) ((Value.bool false)) hNS (by kernel_rfl) (by kernel_rfl) (by kernel_rfl) (by kernel_rfl) (by kernel_rfl) hHeld (Rg.y_pick (c := (Operand.tmp 122)) (x := (Operand.const (Value.bool true))) (y := (Operand.tmp 145)) (b := false) (by kernel_rfl) (by kernel_rfl) (by kernel_rfl)) ?_
  refine Rg.take (ops := (Rg.opsOf Try.f5 17)) 26 (some 17) ((Value.bool false)) hNS (by kernel_rfl) (by kernel_rfl) (by kernel_rfl) (by kernel_rfl) (by kernel_rfl) hHeld (Rg.y_move (x := (Operand.tmp 146)) (Or.inr (by kernel_rfl)) (by kernel_rfl)) ?_
  refine Rg.done (ops := (Rg.opsOf Try.f5 17)) (by kernel_rfl) ?_
  exact ⟨by kernel_rfl, hHeld⟩
set_option maxRecDepth 100000 in
set_option maxHeartbeats 4000000 in
theorem backReg3 (ops : Array Oper) (hops : ops = (Rg.opsOf Try.f5 17)) (id : Nat) (bc oc k p o i L vc c1 : Nat) (A1 : Option Addr) {u0 u1 u2 u4 u5 u6 u7 u8 u10 u11 u12 u13 u14 u15 u16 u19 u20 u21 u22 u23 u24 u25 u26 u27 u28 u29 u30 u31 u32 u33 u34 u35 u36 u37 u38 u39 u40 u41 u42 u43 u44 u45 u46 u47 u48 u49 u50 u51 u52 u53 u54 u55 u56 u57 u58 u59 u60 u61 u62 u63 u64 u65 u66 u67 u68 u69 u70 u71 u72 u73 u74 u75 u76 u77 u78 u79 u80 u81 u82 u83 u84 u85 u86 u87 u88 u89 u90 u91 u92 u93 u94 u95 u96 u97 u98 u99 u100 u101 u102 u103 u104 u105 u106 u107 u108 u109 u110 u111 u112 u113 u114 u115 u116 u117 u118 u119 u120 u121 u122 u123 u124 u125 u126 u127 u128 u129 u130 u131 u132 u133 u134 u135 u136 u137 u138 u139 u140 u141 u142 u143 u144 u145 u146 u147 u148 u149 u150 u151 u152 u153 u154 u155 u156 u157 u158 u159 u160 u161 u162 u163 u164 u165 u166 u167 u168 u169 : Value} (w : World) (X0 : World → Prop) (hk : (k : Int) < (L : Int))
    (hX : ∀ W, X0 W → Thr2 bc oc k p o A1 c1 W) (hw : X0 w.drew) (f1 : (p : Int) ≤ (i : Int)) (wp : IntKind.i64.wrap ((p : Int) + (o : Int)) = (p : Int) + (o : Int)) (f3 : (i : Int) < (p : Int) + (o : Int)) :
    (Code.region id ops true).wp Try.prog (Rg.Only fun a' w' => a' = ⟨#[u0, u1, u2, (.int .i64 (i : Int)), u4, u5, u6, u7, u8, (.slice (some ⟨bc, oc, none⟩) L vc), u10, u11, u12, u13, u14, u15, u16, (.bool true), (.int .i64 (k : Int)), u19, u20, u21, u22, u23, u24, u25, u26, u27, u28, u29, u30, u31, u32, u33, u34, u35, u36, u37, u38, u39, u40, u41, u42, u43, u44, u45, u46, u47, u48, u49, u50, u51, u52, u53, u54, u55, u56, u57, u58, u59, u60, u61, u62, u63, u64, u65, u66, u67, u68, u69, u70, u71, u72, u73, u74, u75, u76, u77, u78, u79, u80, u81, u82, u83, u84, u85, u86, u87, u88, u89, u90, u91, u92, u93, u94, u95, u96, u97, u98, u99, u100, u101, u102, u103, u104, u105, u106, u107, u108, u109, u110, u111, u112, u113, u114, u115, u116, u117, u118, u119, u120, (.bool false), (.bool false), (.int .i64 (i : Int)), (.slice (some ⟨bc, oc, none⟩) L vc), (.int .i64 (k : Int)), (.pointer (some ⟨bc, oc + k * 3, none⟩)), (.pointer (some ⟨bc, oc + k * 3, none⟩)), (.int .i64 (p : Int)), (.bool true), (.bool true), (.int .i64 (i : Int)), (.slice (some ⟨bc, oc, none⟩) L vc), (.int .i64 (k : Int)), (.pointer (some ⟨bc, oc + k * 3, none⟩)), (.pointer (some ⟨bc, oc + k * 3, none⟩)), (.int .i64 (p : Int)), (.slice (some ⟨bc, oc, none⟩) L vc), (.int .i64 (k : Int)), (.pointer (some ⟨bc, oc + k * 3, none⟩)), (.pointer (some ⟨bc, oc + k * 3 + 1, none⟩)), (.slice A1 o c1), (.int .i64 (o : Int)), (.int .i64 ((p : Int) + (o : Int))), (.bool true), (.bool true), (.bool true), u147, u148, u149, u150, u151, u152, u153, u154, u155, u156, u157, u158, u159, u160, u161, u162, u163, u164, u165, u166, u167, u168, u169], []⟩ ∧ X0 w') ⟨#[u0, u1, u2, (.int .i64 (i : Int)), u4, u5, u6, u7, u8, (.slice (some ⟨bc, oc, none⟩) L vc), u10, u11, u12, u13, u14, u15, u16, (.bool false), (.int .i64 (k : Int)), u19, u20, u21, u22, u23, u24, u25, u26, u27, u28, u29, u30, u31, u32, u33, u34, u35, u36, u37, u38, u39, u40, u41, u42, u43, u44, u45, u46, u47, u48, u49, u50, u51, u52, u53, u54, u55, u56, u57, u58, u59, u60, u61, u62, u63, u64, u65, u66, u67, u68, u69, u70, u71, u72, u73, u74, u75, u76, u77, u78, u79, u80, u81, u82, u83, u84, u85, u86, u87, u88, u89, u90, u91, u92, u93, u94, u95, u96, u97, u98, u99, u100, u101, u102, u103, u104, u105, u106, u107, u108, u109, u110, u111, u112, u113, u114, u115, u116, u117, u118, u119, u120, u121, u122, u123, u124, u125, u126, u127, u128, u129, u130, u131, u132, u133, u134, u135, u136, u137, u138, u139, u140, u141, u142, u143, u144, u145, u146, u147, u148, u149, u150, u151, u152, u153, u154, u155, u156, u157, u158, u159, u160, u161, u162, u163, u164, u165, u166, u167, u168, u169], []⟩ w := by
  subst hops
  have hNS : Region.noSelect (Rg.opsOf Try.f5 17) = true := by kernel_rfl
  refine wp_region_held_drew (S := X0) (by kernel_rfl) hw (fun hHeld => ?_)
  rw [show (Rg.opsOf Try.f5 17).size = 27 by kernel_rfl]
  refine Rg.take (ops := (Rg.opsOf Try.f5 17)) 0 (some 121) ((.bool false)) hNS (by kernel_rfl) (by kernel_rfl) (by kernel_rfl) (by kernel_rfl) (by kernel_rfl) hHeld (Rg.y_move (x := (Operand.tmp 17)) (Or.inl (by kernel_rfl)) (by kernel_rfl)) ?_
  refine Rg.take (ops := (Rg.opsOf Try.f5 17)) 1 (some 122) ((.bool false)) hNS (by kernel_rfl) (by kernel_rfl) (by kernel_rfl) (by kernel_rfl) (by kernel_rfl) hHeld (Rg.y_move (x := (Operand.tmp 121)) (Or.inl (by kernel_rfl)) (by kernel_rfl)) ?_
  refine Rg.take (ops := (Rg.opsOf Try.f5 17)) 2 (some 123) ((.int .i64 (i : Int))) hNS (by kernel_rfl) (by kernel_rfl) (by kernel_rfl) (by kernel_rfl) (by kernel_rfl) hHeld (Rg.y_move (x := (Operand.tmp 3)) (Or.inl (by kernel_rfl)) (by kernel_rfl)) ?_
  refine Rg.take (ops := (Rg.opsOf Try.f5 17)) 3 (some 124) ((.slice (some ⟨bc, oc, none⟩) L vc)) hNS (by kernel_rfl) (by kernel_rfl) (by kernel_rfl) (by kernel_rfl) (by kernel_rfl) hHeld (Rg.y_move (x := (Operand.tmp 9)) (Or.inl (by kernel_rfl)) (by kernel_rfl)) ?_
  refine Rg.take (ops := (Rg.opsOf Try.f5 17)) 4 (some 125) ((.int .i64 (k : Int))) hNS (by kernel_rfl) (by kernel_rfl) (by kernel_rfl) (by kernel_rfl) (by kernel_rfl) hHeld (Rg.y_move (x := (Operand.tmp 18)) (Or.inl (by kernel_rfl)) (by kernel_rfl)) ?_
  refine Rg.take (ops := (Rg.opsOf Try.f5 17)) 5 (some 126) ((.pointer (some ⟨bc, oc + k * 3, none⟩))) hNS (by kernel_rfl) (by kernel_rfl) (by kernel_rfl) (by kernel_rfl) (by kernel_rfl) hHeld (Rg.y_at (T := 23) (x := (Operand.tmp 124)) (y := (Operand.tmp 125)) (vx := (.slice (some ⟨bc, oc, none⟩) L vc)) (vy := (.int .i64 (k : Int))) (by kernel_rfl) (by kernel_rfl) (by kernel_rfl) ?_) ?_
  · (intro W hSw; clear hSw hHeld; go_simp)
  refine Rg.take (ops := (Rg.opsOf Try.f5 17)) 6 (some 127) ((.pointer (some ⟨bc, oc + k * 3, none⟩))) hNS (by kernel_rfl) (by kernel_rfl) (by kernel_rfl) (by kernel_rfl) (by kernel_rfl) hHeld (Rg.y_field (T := 33) (k := 0) (x := (Operand.tmp 126)) (vx := (.pointer (some ⟨bc, oc + k * 3, none⟩))) (by kernel_rfl) (by kernel_rfl) ?_) ?_
  · (intro W hSw; clear hSw hHeld; go_simp)
  refine Rg.take (ops := (Rg.opsOf Try.f5 17)) 7 (some 128) ((.int .i64 (p : Int))) hNS (by kernel_rfl) (by kernel_rfl) (by kernel_rfl) (by kernel_rfl) (by kernel_rfl) hHeld (Rg.y_load (T := 3) (x := (Operand.tmp 127)) (vx := (.pointer (some ⟨bc, oc + k * 3, none⟩))) (by kernel_rfl) (by kernel_rfl) ?_) ?_
  · (intro W hSw; obtain ⟨s0, s1⟩ := hX _ hSw; clear hSw hHeld; go_simp)
  refine Rg.take (ops := (Rg.opsOf Try.f5 17)) 8 (some 129) ((.bool true)) hNS (by kernel_rfl) (by kernel_rfl) (by kernel_rfl) (by kernel_rfl) (by kernel_rfl) hHeld (Rg.y_bin (b := BinOp.geq) (T := 3) (R' := 3) (x := (Operand.tmp 123)) (y := (Operand.tmp 128)) (vx := (.int .i64 (i : Int))) (vy := (.int .i64 (p : Int))) (by kernel_rfl) (by kernel_rfl) (by kernel_rfl) ?_) ?_
  · (intro W hSw; clear hSw hHeld; go_simp <;> first | omega | (intro h0; omega))
  refine Rg.take (ops := (Rg.opsOf Try.f5 17)) 9 (some 130) ((.bool true)) hNS (by kernel_rfl) (by kernel_rfl) (by kernel_rfl) (by kernel_rfl) (by kernel_rfl) hHeld (Rg.y_move (x := (Operand.tmp 129)) (Or.inl (by kernel_rfl)) (by kernel_rfl)) ?_
  refine Rg.take (ops := (Rg.opsOf Try.f5 17)) 10 (some 131) ((.int .i64 (i : Int))) hNS (by kernel_rfl) (by kernel_rfl) (by kernel_rfl) (by kernel_rfl) (by kernel_rfl) hHeld (Rg.y_move (x := (Operand.tmp 3)) (Or.inl (by kernel_rfl)) (by kernel_rfl)) ?_
  refine Rg.take (ops := (Rg.opsOf Try.f5 17)) 11 (some 132) ((.slice (some ⟨bc, oc, none⟩) L vc)) hNS (by kernel_rfl) (by kernel_rfl) (by kernel_rfl) (by kernel_rfl) (by kernel_rfl) hHeld (Rg.y_move (x := (Operand.tmp 9)) (Or.inl (by kernel_rfl)) (by kernel_rfl)) ?_
  refine Rg.take (ops := (Rg.opsOf Try.f5 17)) 12 (some 133) ((.int .i64 (k : Int))) hNS (by kernel_rfl) (by kernel_rfl) (by kernel_rfl) (by kernel_rfl) (by kernel_rfl) hHeld (Rg.y_move (x := (Operand.tmp 18)) (Or.inl (by kernel_rfl)) (by kernel_rfl)) ?_
  refine Rg.take (ops := (Rg.opsOf Try.f5 17)) 13 (some 134) ((.pointer (some ⟨bc, oc + k * 3, none⟩))) hNS (by kernel_rfl) (by kernel_rfl) (by kernel_rfl) (by kernel_rfl) (by kernel_rfl) hHeld (Rg.y_at (T := 23) (x := (Operand.tmp 132)) (y := (Operand.tmp 133)) (vx := (.slice (some ⟨bc, oc, none⟩) L vc)) (vy := (.int .i64 (k : Int))) (by kernel_rfl) (by kernel_rfl) (by kernel_rfl) ?_) ?_
  · (intro W hSw; clear hSw hHeld; go_simp)
  refine Rg.take (ops := (Rg.opsOf Try.f5 17)) 14 (some 135) ((.pointer (some ⟨bc, oc + k * 3, none⟩))) hNS (by kernel_rfl) (by kernel_rfl) (by kernel_rfl) (by kernel_rfl) (by kernel_rfl) hHeld (Rg.y_field (T := 33) (k := 0) (x := (Operand.tmp 134)) (vx := (.pointer (some ⟨bc, oc + k * 3, none⟩))) (by kernel_rfl) (by kernel_rfl) ?_) ?_
  · (intro W hSw; clear hSw hHeld; go_simp)
  refine Rg.take (ops := (Rg.opsOf Try.f5 17)) 15 (some 136) ((.int .i64 (p : Int))) hNS (by kernel_rfl) (by kernel_rfl) (by kernel_rfl) (by kernel_rfl) (by kernel_rfl) hHeld (Rg.y_load (T := 3) (x := (Operand.tmp 135)) (vx := (.pointer (some ⟨bc, oc + k * 3, none⟩))) (by kernel_rfl) (by kernel_rfl) ?_) ?_
  · (intro W hSw; obtain ⟨s0, s1⟩ := hX _ hSw; clear hSw hHeld; go_simp)
  refine Rg.take (ops := (Rg.opsOf Try.f5 17)) 16 (some 137) ((.slice (some ⟨bc, oc, none⟩) L vc)) hNS (by kernel_rfl) (by kernel_rfl) (by kernel_rfl) (by kernel_rfl) (by kernel_rfl) hHeld (Rg.y_move (x := (Operand.tmp 9)) (Or.inl (by kernel_rfl)) (by kernel_rfl)) ?_
  refine Rg.take (ops := (Rg.opsOf Try.f5 17)) 17 (some 138) ((.int .i64 (k : Int))) hNS (by kernel_rfl) (by kernel_rfl) (by kernel_rfl) (by kernel_rfl) (by kernel_rfl) hHeld (Rg.y_move (x := (Operand.tmp 18)) (Or.inl (by kernel_rfl)) (by kernel_rfl)) ?_
  refine Rg.take (ops := (Rg.opsOf Try.f5 17)) 18 (some 139) ((.pointer (some ⟨bc, oc + k * 3, none⟩))) hNS (by kernel_rfl) (by kernel_rfl) (by kernel_rfl) (by kernel_rfl) (by kernel_rfl) hHeld (Rg.y_at (T := 23) (x := (Operand.tmp 137)) (y := (Operand.tmp 138)) (vx := (.slice (some ⟨bc, oc, none⟩) L vc)) (vy := (.int .i64 (k : Int))) (by kernel_rfl) (by kernel_rfl) (by kernel_rfl) ?_) ?_
  · (intro W hSw; clear hSw hHeld; go_simp)
  refine Rg.take (ops := (Rg.opsOf Try.f5 17)) 19 (some 140) ((.pointer (some ⟨bc, oc + k * 3 + 1, none⟩))) hNS (by kernel_rfl) (by kernel_rfl) (by kernel_rfl) (by kernel_rfl) (by kernel_rfl) hHeld (Rg.y_field (T := 33) (k := 1) (x := (Operand.tmp 139)) (vx := (.pointer (some ⟨bc, oc + k * 3, none⟩))) (by kernel_rfl) (by kernel_rfl) ?_) ?_
  · (intro W hSw; clear hSw hHeld; go_simp)
  refine Rg.take (ops := (Rg.opsOf Try.f5 17)) 20 (some 141) ((.slice A1 o c1)) hNS (by kernel_rfl) (by kernel_rfl) (by kernel_rfl) (by kernel_rfl) (by kernel_rfl) hHeld (Rg.y_load (T := 22) (x := (Operand.tmp 140)) (vx := (.pointer (some ⟨bc, oc + k * 3 + 1, none⟩))) (by kernel_rfl) (by kernel_rfl) ?_) ?_
  · (intro W hSw; obtain ⟨s0, s1⟩ := hX _ hSw; clear hSw hHeld; go_simp)
  refine Rg.take (ops := (Rg.opsOf Try.f5 17)) 21 (some 142) ((.int .i64 (o : Int))) hNS (by kernel_rfl) (by kernel_rfl) (by kernel_rfl) (by kernel_rfl) (by kernel_rfl) hHeld (Rg.y_len (x := (Operand.tmp 141)) (ats := #[22]) (vx := (.slice A1 o c1)) (n := o) (by kernel_rfl) (by kernel_rfl) ?_) ?_
  · (intro ty w hSw; go_simp)
  refine Rg.take (ops := (Rg.opsOf Try.f5 17)) 22 (some 143) ((.int .i64 ((p : Int) + (o : Int)))) hNS (by kernel_rfl) (by kernel_rfl) (by kernel_rfl) (by kernel_rfl) (by kernel_rfl) hHeld (Rg.y_bin (b := BinOp.add) (T := 3) (R' := 3) (x := (Operand.tmp 136)) (y := (Operand.tmp 142)) (vx := (.int .i64 (p : Int))) (vy := (.int .i64 (o : Int))) (by kernel_rfl) (by kernel_rfl) (by kernel_rfl) ?_) ?_
  · (intro W hSw; clear hSw hHeld; go_simp <;> first | omega | (intro h0; omega))
  refine Rg.take (ops := (Rg.opsOf Try.f5 17)) 23 (some 144) ((.bool true)) hNS (by kernel_rfl) (by kernel_rfl) (by kernel_rfl) (by kernel_rfl) (by kernel_rfl) hHeld (Rg.y_bin (b := BinOp.lss) (T := 3) (R' := 3) (x := (Operand.tmp 131)) (y := (Operand.tmp 143)) (vx := (.int .i64 (i : Int))) (vy := (.int .i64 ((p : Int) + (o : Int)))) (by kernel_rfl) (by kernel_rfl) (by kernel_rfl) ?_) ?_
  · (intro W hSw; clear hSw hHeld; go_simp <;> first | omega | (intro h0; omega))
  refine Rg.take (ops := (Rg.opsOf Try.f5 17)) 24 (some 145) ((.bool true)) hNS (by kernel_rfl) (by kernel_rfl) (by kernel_rfl) (by kernel_rfl) (by kernel_rfl) hHeld (Rg.y_pick (c := (Operand.tmp 130)) (x := (Operand.tmp 144)) (y := (Operand.const (Value.bool false))) (b := true) (by kernel_rfl) (by kernel_rfl) (by kernel_rfl)) ?_
  refine Rg.take (ops := (Rg.opsOf Try.f5 17)) 25 (some 146) ((.bool true)) hNS (by kernel_rfl) (by kernel_rfl) (by kernel_rfl) (by kernel_rfl) (by kernel_rfl) hHeld (Rg.y_pick (c := (Operand.tmp 122)) (x := (Operand.const (Value.bool true))) (y := (Operand.tmp 145)) (b := false) (by kernel_rfl) (by kernel_rfl) (by kernel_rfl)) ?_
  refine Rg.take (ops := (Rg.opsOf Try.f5 17)) 26 (some 17) ((.bool true)) hNS (by kernel_rfl) (by kernel_rfl) (by kernel_rfl) (by kernel_rfl) (by kernel_rfl) hHeld (Rg.y_move (x := (Operand.tmp 146)) (Or.inr (by kernel_rfl)) (by kernel_rfl)) ?_
  refine Rg.done (ops := (Rg.opsOf Try.f5 17)) (by kernel_rfl) ?_
  exact ⟨by kernel_rfl, hHeld⟩
set_option maxRecDepth 100000 in
set_option maxHeartbeats 4000000 in
theorem backReg4 (ops : Array Oper) (hops : ops = (Rg.opsOf Try.f5 17)) (id : Nat) (bc oc k p o i L vc c1 : Nat) (A1 : Option Addr) {u0 u1 u2 u4 u5 u6 u7 u8 u10 u11 u12 u13 u14 u15 u16 u19 u20 u21 u22 u23 u24 u25 u26 u27 u28 u29 u30 u31 u32 u33 u34 u35 u36 u37 u38 u39 u40 u41 u42 u43 u44 u45 u46 u47 u48 u49 u50 u51 u52 u53 u54 u55 u56 u57 u58 u59 u60 u61 u62 u63 u64 u65 u66 u67 u68 u69 u70 u71 u72 u73 u74 u75 u76 u77 u78 u79 u80 u81 u82 u83 u84 u85 u86 u87 u88 u89 u90 u91 u92 u93 u94 u95 u96 u97 u98 u99 u100 u101 u102 u103 u104 u105 u106 u107 u108 u109 u110 u111 u112 u113 u114 u115 u116 u117 u118 u119 u120 u121 u122 u123 u124 u125 u126 u127 u128 u129 u130 u131 u132 u133 u134 u135 u136 u137 u138 u139 u140 u141 u142 u143 u144 u145 u146 u147 u148 u149 u150 u151 u152 u153 u154 u155 u156 u157 u158 u159 u160 u161 u162 u163 u164 u165 u166 u167 u168 u169 : Value} (w : World) (X0 : World → Prop) (hk : (k : Int) < (L : Int))
    (hX : ∀ W, X0 W → Thr2 bc oc k p o A1 c1 W) (hw : X0 w.drew) (f1 : (p : Int) ≤ (i : Int)) (wp : IntKind.i64.wrap ((p : Int) + (o : Int)) = (p : Int) + (o : Int)) (f3 : ¬ (i : Int) < (p : Int) + (o : Int)) (f4 : decide ((i : Int) < (p : Int) + (o : Int)) = false) :
    (Code.region id ops true).wp Try.prog (Rg.Only fun a' w' => a' = ⟨#[u0, u1, u2, (.int .i64 (i : Int)), u4, u5, u6, u7, u8, (.slice (some ⟨bc, oc, none⟩) L vc), u10, u11, u12, u13, u14, u15, u16, (.bool false), (.int .i64 (k : Int)), u19, u20, u21, u22, u23, u24, u25, u26, u27, u28, u29, u30, u31, u32, u33, u34, u35, u36, u37, u38, u39, u40, u41, u42, u43, u44, u45, u46, u47, u48, u49, u50, u51, u52, u53, u54, u55, u56, u57, u58, u59, u60, u61, u62, u63, u64, u65, u66, u67, u68, u69, u70, u71, u72, u73, u74, u75, u76, u77, u78, u79, u80, u81, u82, u83, u84, u85, u86, u87, u88, u89, u90, u91, u92, u93, u94, u95, u96, u97, u98, u99, u100, u101, u102, u103, u104, u105, u106, u107, u108, u109, u110, u111, u112, u113, u114, u115, u116, u117, u118, u119, u120, (.bool false), (.bool false), (.int .i64 (i : Int)), (.slice (some ⟨bc, oc, none⟩) L vc), (.int .i64 (k : Int)), (.pointer (some ⟨bc, oc + k * 3, none⟩)), (.pointer (some ⟨bc, oc + k * 3, none⟩)), (.int .i64 (p : Int)), (.bool true), (.bool true), (.int .i64 (i : Int)), (.slice (some ⟨bc, oc, none⟩) L vc), (.int .i64 (k : Int)), (.pointer (some ⟨bc, oc + k * 3, none⟩)), (.pointer (some ⟨bc, oc + k * 3, none⟩)), (.int .i64 (p : Int)), (.slice (some ⟨bc, oc, none⟩) L vc), (.int .i64 (k : Int)), (.pointer (some ⟨bc, oc + k * 3, none⟩)), (.pointer (some ⟨bc, oc + k * 3 + 1, none⟩)), (.slice A1 o c1), (.int .i64 (o : Int)), (.int .i64 ((p : Int) + (o : Int))), (.bool false), (.bool false), (.bool false), u147, u148, u149, u150, u151, u152, u153, u154, u155, u156, u157, u158, u159, u160, u161, u162, u163, u164, u165, u166, u167, u168, u169], []⟩ ∧ X0 w') ⟨#[u0, u1, u2, (.int .i64 (i : Int)), u4, u5, u6, u7, u8, (.slice (some ⟨bc, oc, none⟩) L vc), u10, u11, u12, u13, u14, u15, u16, (.bool false), (.int .i64 (k : Int)), u19, u20, u21, u22, u23, u24, u25, u26, u27, u28, u29, u30, u31, u32, u33, u34, u35, u36, u37, u38, u39, u40, u41, u42, u43, u44, u45, u46, u47, u48, u49, u50, u51, u52, u53, u54, u55, u56, u57, u58, u59, u60, u61, u62, u63, u64, u65, u66, u67, u68, u69, u70, u71, u72, u73, u74, u75, u76, u77, u78, u79, u80, u81, u82, u83, u84, u85, u86, u87, u88, u89, u90, u91, u92, u93, u94, u95, u96, u97, u98, u99, u100, u101, u102, u103, u104, u105, u106, u107, u108, u109, u110, u111, u112, u113, u114, u115, u116, u117, u118, u119, u120, u121, u122, u123, u124, u125, u126, u127, u128, u129, u130, u131, u132, u133, u134, u135, u136, u137, u138, u139, u140, u141, u142, u143, u144, u145, u146, u147, u148, u149, u150, u151, u152, u153, u154, u155, u156, u157, u158, u159, u160, u161, u162, u163, u164, u165, u166, u167, u168, u169], []⟩ w := by
  subst hops
  have hNS : Region.noSelect (Rg.opsOf Try.f5 17) = true := by kernel_rfl
  refine wp_region_held_drew (S := X0) (by kernel_rfl) hw (fun hHeld => ?_)
  rw [show (Rg.opsOf Try.f5 17).size = 27 by kernel_rfl]
  refine Rg.take (ops := (Rg.opsOf Try.f5 17)) 0 (some 121) ((.bool false)) hNS (by kernel_rfl) (by kernel_rfl) (by kernel_rfl) (by kernel_rfl) (by kernel_rfl) hHeld (Rg.y_move (x := (Operand.tmp 17)) (Or.inl (by kernel_rfl)) (by kernel_rfl)) ?_
  refine Rg.take (ops := (Rg.opsOf Try.f5 17)) 1 (some 122) ((.bool false)) hNS (by kernel_rfl) (by kernel_rfl) (by kernel_rfl) (by kernel_rfl) (by kernel_rfl) hHeld (Rg.y_move (x := (Operand.tmp 121)) (Or.inl (by kernel_rfl)) (by kernel_rfl)) ?_
  refine Rg.take (ops := (Rg.opsOf Try.f5 17)) 2 (some 123) ((.int .i64 (i : Int))) hNS (by kernel_rfl) (by kernel_rfl) (by kernel_rfl) (by kernel_rfl) (by kernel_rfl) hHeld (Rg.y_move (x := (Operand.tmp 3)) (Or.inl (by kernel_rfl)) (by kernel_rfl)) ?_
  refine Rg.take (ops := (Rg.opsOf Try.f5 17)) 3 (some 124) ((.slice (some ⟨bc, oc, none⟩) L vc)) hNS (by kernel_rfl) (by kernel_rfl) (by kernel_rfl) (by kernel_rfl) (by kernel_rfl) hHeld (Rg.y_move (x := (Operand.tmp 9)) (Or.inl (by kernel_rfl)) (by kernel_rfl)) ?_
  refine Rg.take (ops := (Rg.opsOf Try.f5 17)) 4 (some 125) ((.int .i64 (k : Int))) hNS (by kernel_rfl) (by kernel_rfl) (by kernel_rfl) (by kernel_rfl) (by kernel_rfl) hHeld (Rg.y_move (x := (Operand.tmp 18)) (Or.inl (by kernel_rfl)) (by kernel_rfl)) ?_
  refine Rg.take (ops := (Rg.opsOf Try.f5 17)) 5 (some 126) ((.pointer (some ⟨bc, oc + k * 3, none⟩))) hNS (by kernel_rfl) (by kernel_rfl) (by kernel_rfl) (by kernel_rfl) (by kernel_rfl) hHeld (Rg.y_at (T := 23) (x := (Operand.tmp 124)) (y := (Operand.tmp 125)) (vx := (.slice (some ⟨bc, oc, none⟩) L vc)) (vy := (.int .i64 (k : Int))) (by kernel_rfl) (by kernel_rfl) (by kernel_rfl) ?_) ?_
  · (intro W hSw; clear hSw hHeld; go_simp)
  refine Rg.take (ops := (Rg.opsOf Try.f5 17)) 6 (some 127) ((.pointer (some ⟨bc, oc + k * 3, none⟩))) hNS (by kernel_rfl) (by kernel_rfl) (by kernel_rfl) (by kernel_rfl) (by kernel_rfl) hHeld (Rg.y_field (T := 33) (k := 0) (x := (Operand.tmp 126)) (vx := (.pointer (some ⟨bc, oc + k * 3, none⟩))) (by kernel_rfl) (by kernel_rfl) ?_) ?_
  · (intro W hSw; clear hSw hHeld; go_simp)
  refine Rg.take (ops := (Rg.opsOf Try.f5 17)) 7 (some 128) ((.int .i64 (p : Int))) hNS (by kernel_rfl) (by kernel_rfl) (by kernel_rfl) (by kernel_rfl) (by kernel_rfl) hHeld (Rg.y_load (T := 3) (x := (Operand.tmp 127)) (vx := (.pointer (some ⟨bc, oc + k * 3, none⟩))) (by kernel_rfl) (by kernel_rfl) ?_) ?_
  · (intro W hSw; obtain ⟨s0, s1⟩ := hX _ hSw; clear hSw hHeld; go_simp)
  refine Rg.take (ops := (Rg.opsOf Try.f5 17)) 8 (some 129) ((.bool true)) hNS (by kernel_rfl) (by kernel_rfl) (by kernel_rfl) (by kernel_rfl) (by kernel_rfl) hHeld (Rg.y_bin (b := BinOp.geq) (T := 3) (R' := 3) (x := (Operand.tmp 123)) (y := (Operand.tmp 128)) (vx := (.int .i64 (i : Int))) (vy := (.int .i64 (p : Int))) (by kernel_rfl) (by kernel_rfl) (by kernel_rfl) ?_) ?_
  · (intro W hSw; clear hSw hHeld; go_simp <;> first | omega | (intro h0; omega))
  refine Rg.take (ops := (Rg.opsOf Try.f5 17)) 9 (some 130) ((.bool true)) hNS (by kernel_rfl) (by kernel_rfl) (by kernel_rfl) (by kernel_rfl) (by kernel_rfl) hHeld (Rg.y_move (x := (Operand.tmp 129)) (Or.inl (by kernel_rfl)) (by kernel_rfl)) ?_
  refine Rg.take (ops := (Rg.opsOf Try.f5 17)) 10 (some 131) ((.int .i64 (i : Int))) hNS (by kernel_rfl) (by kernel_rfl) (by kernel_rfl) (by kernel_rfl) (by kernel_rfl) hHeld (Rg.y_move (x := (Operand.tmp 3)) (Or.inl (by kernel_rfl)) (by kernel_rfl)) ?_
  refine Rg.take (ops := (Rg.opsOf Try.f5 17)) 11 (some 132) ((.slice (some ⟨bc, oc, none⟩) L vc)) hNS (by kernel_rfl) (by kernel_rfl) (by kernel_rfl) (by kernel_rfl) (by kernel_rfl) hHeld (Rg.y_move (x := (Operand.tmp 9)) (Or.inl (by kernel_rfl)) (by kernel_rfl)) ?_
  refine Rg.take (ops := (Rg.opsOf Try.f5 17)) 12 (some 133) ((.int .i64 (k : Int))) hNS (by kernel_rfl) (by kernel_rfl) (by kernel_rfl) (by kernel_rfl) (by kernel_rfl) hHeld (Rg.y_move (x := (Operand.tmp 18)) (Or.inl (by kernel_rfl)) (by kernel_rfl)) ?_
  refine Rg.take (ops := (Rg.opsOf Try.f5 17)) 13 (some 134) ((.pointer (some ⟨bc, oc + k * 3, none⟩))) hNS (by kernel_rfl) (by kernel_rfl) (by kernel_rfl) (by kernel_rfl) (by kernel_rfl) hHeld (Rg.y_at (T := 23) (x := (Operand.tmp 132)) (y := (Operand.tmp 133)) (vx := (.slice (some ⟨bc, oc, none⟩) L vc)) (vy := (.int .i64 (k : Int))) (by kernel_rfl) (by kernel_rfl) (by kernel_rfl) ?_) ?_
  · (intro W hSw; clear hSw hHeld; go_simp)
  refine Rg.take (ops := (Rg.opsOf Try.f5 17)) 14 (some 135) ((.pointer (some ⟨bc, oc + k * 3, none⟩))) hNS (by kernel_rfl) (by kernel_rfl) (by kernel_rfl) (by kernel_rfl) (by kernel_rfl) hHeld (Rg.y_field (T := 33) (k := 0) (x := (Operand.tmp 134)) (vx := (.pointer (some ⟨bc, oc + k * 3, none⟩))) (by kernel_rfl) (by kernel_rfl) ?_) ?_
  · (intro W hSw; clear hSw hHeld; go_simp)
  refine Rg.take (ops := (Rg.opsOf Try.f5 17)) 15 (some 136) ((.int .i64 (p : Int))) hNS (by kernel_rfl) (by kernel_rfl) (by kernel_rfl) (by kernel_rfl) (by kernel_rfl) hHeld (Rg.y_load (T := 3) (x := (Operand.tmp 135)) (vx := (.pointer (some ⟨bc, oc + k * 3, none⟩))) (by kernel_rfl) (by kernel_rfl) ?_) ?_
  · (intro W hSw; obtain ⟨s0, s1⟩ := hX _ hSw; clear hSw hHeld; go_simp)
  refine Rg.take (ops := (Rg.opsOf Try.f5 17)) 16 (some 137) ((.slice (some ⟨bc, oc, none⟩) L vc)) hNS (by kernel_rfl) (by kernel_rfl) (by kernel_rfl) (by kernel_rfl) (by kernel_rfl) hHeld (Rg.y_move (x := (Operand.tmp 9)) (Or.inl (by kernel_rfl)) (by kernel_rfl)) ?_
  refine Rg.take (ops := (Rg.opsOf Try.f5 17)) 17 (some 138) ((.int .i64 (k : Int))) hNS (by kernel_rfl) (by kernel_rfl) (by kernel_rfl) (by kernel_rfl) (by kernel_rfl) hHeld (Rg.y_move (x := (Operand.tmp 18)) (Or.inl (by kernel_rfl)) (by kernel_rfl)) ?_
  refine Rg.take (ops := (Rg.opsOf Try.f5 17)) 18 (some 139) ((.pointer (some ⟨bc, oc + k * 3, none⟩))) hNS (by kernel_rfl) (by kernel_rfl) (by kernel_rfl) (by kernel_rfl) (by kernel_rfl) hHeld (Rg.y_at (T := 23) (x := (Operand.tmp 137)) (y := (Operand.tmp 138)) (vx := (.slice (some ⟨bc, oc, none⟩) L vc)) (vy := (.int .i64 (k : Int))) (by kernel_rfl) (by kernel_rfl) (by kernel_rfl) ?_) ?_
  · (intro W hSw; clear hSw hHeld; go_simp)
  refine Rg.take (ops := (Rg.opsOf Try.f5 17)) 19 (some 140) ((.pointer (some ⟨bc, oc + k * 3 + 1, none⟩))) hNS (by kernel_rfl) (by kernel_rfl) (by kernel_rfl) (by kernel_rfl) (by kernel_rfl) hHeld (Rg.y_field (T := 33) (k := 1) (x := (Operand.tmp 139)) (vx := (.pointer (some ⟨bc, oc + k * 3, none⟩))) (by kernel_rfl) (by kernel_rfl) ?_) ?_
  · (intro W hSw; clear hSw hHeld; go_simp)
  refine Rg.take (ops := (Rg.opsOf Try.f5 17)) 20 (some 141) ((.slice A1 o c1)) hNS (by kernel_rfl) (by kernel_rfl) (by kernel_rfl) (by kernel_rfl) (by kernel_rfl) hHeld (Rg.y_load (T := 22) (x := (Operand.tmp 140)) (vx := (.pointer (some ⟨bc, oc + k * 3 + 1, none⟩))) (by kernel_rfl) (by kernel_rfl) ?_) ?_
  · (intro W hSw; obtain ⟨s0, s1⟩ := hX _ hSw; clear hSw hHeld; go_simp)
  refine Rg.take (ops := (Rg.opsOf Try.f5 17)) 21 (some 142) ((.int .i64 (o : Int))) hNS (by kernel_rfl) (by kernel_rfl) (by kernel_rfl) (by kernel_rfl) (by kernel_rfl) hHeld (Rg.y_len (x := (Operand.tmp 141)) (ats := #[22]) (vx := (.slice A1 o c1)) (n := o) (by kernel_rfl) (by kernel_rfl) ?_) ?_
  · (intro ty w hSw; go_simp)
  refine Rg.take (ops := (Rg.opsOf Try.f5 17)) 22 (some 143) ((.int .i64 ((p : Int) + (o : Int)))) hNS (by kernel_rfl) (by kernel_rfl) (by kernel_rfl) (by kernel_rfl) (by kernel_rfl) hHeld (Rg.y_bin (b := BinOp.add) (T := 3) (R' := 3) (x := (Operand.tmp 136)) (y := (Operand.tmp 142)) (vx := (.int .i64 (p : Int))) (vy := (.int .i64 (o : Int))) (by kernel_rfl) (by kernel_rfl) (by kernel_rfl) ?_) ?_
  · (intro W hSw; clear hSw hHeld; go_simp <;> first | omega | (intro h0; omega))
  refine Rg.take (ops := (Rg.opsOf Try.f5 17)) 23 (some 144) ((.bool false)) hNS (by kernel_rfl) (by kernel_rfl) (by kernel_rfl) (by kernel_rfl) (by kernel_rfl) hHeld (Rg.y_bin (b := BinOp.lss) (T := 3) (R' := 3) (x := (Operand.tmp 131)) (y := (Operand.tmp 143)) (vx := (.int .i64 (i : Int))) (vy := (.int .i64 ((p : Int) + (o : Int)))) (by kernel_rfl) (by kernel_rfl) (by kernel_rfl) ?_) ?_
  · (intro W hSw; clear hSw hHeld; go_simp <;> first | omega | (intro h0; omega))
  refine Rg.take (ops := (Rg.opsOf Try.f5 17)) 24 (some 145) ((.bool false)) hNS (by kernel_rfl) (by kernel_rfl) (by kernel_rfl) (by kernel_rfl) (by kernel_rfl) hHeld (Rg.y_pick (c := (Operand.tmp 130)) (x := (Operand.tmp 144)) (y := (Operand.const (Value.bool false))) (b := true) (by kernel_rfl) (by kernel_rfl) (by kernel_rfl)) ?_
  refine Rg.take (ops := (Rg.opsOf Try.f5 17)) 25 (some 146) ((.bool false)) hNS (by kernel_rfl) (by kernel_rfl) (by kernel_rfl) (by kernel_rfl) (by kernel_rfl) hHeld (Rg.y_pick (c := (Operand.tmp 122)) (x := (Operand.const (Value.bool true))) (y := (Operand.tmp 145)) (b := false) (by kernel_rfl) (by kernel_rfl) (by kernel_rfl)) ?_
  refine Rg.take (ops := (Rg.opsOf Try.f5 17)) 26 (some 17) ((.bool false)) hNS (by kernel_rfl) (by kernel_rfl) (by kernel_rfl) (by kernel_rfl) (by kernel_rfl) hHeld (Rg.y_move (x := (Operand.tmp 146)) (Or.inr (by kernel_rfl)) (by kernel_rfl)) ?_
  refine Rg.done (ops := (Rg.opsOf Try.f5 17)) (by kernel_rfl) ?_
  exact ⟨by kernel_rfl, hHeld⟩
end Go.Proofs.Ytoncghamkedhcaa.Kd

namespace Go.Proofs.Ytoncghamkedhcaa.hunkBack
open Go.ChangeShapes Go.WideShapes Go.ChangeAt Go.RowKit Tx Um Ud Aq Km Kd
set_option linter.unusedVariables false
theorem per_cases2 (a b : List ByteArray) (ar : Int) : (per a b ar = 0 ∧ 0 ≤ ar ∧ lng a b = false) ∨ (pcs a b ar = [] ∧ (per a b ar = 1 ∨ per a b ar = 4)) := by
  unfold per pcs
  by_cases h : ar < 0
  · rw [if_pos h, if_pos h]; exact .inr ⟨rfl, .inl rfl⟩
  · rw [if_neg h, if_neg h]
    cases hl : lng a b
    · exact .inl ⟨rfl, by omega, rfl⟩
    · exact .inr ⟨rfl, .inr rfl⟩
theorem lo_strs {w : World} {B : Nat} {A : Option Addr} {n c : Nat} {l : List ByteArray} (h : Lo w B (.slice A n c) l) : n = l.length ∧ Strs w A l.length l ∧ l.length ≤ c ∧ (A = none → c = 0) := by
  rcases h.2 with ⟨h0, h1⟩ | ⟨g, cap, cur, hv, hg, hh, hn, hc, hs, ht⟩
  · injection h0 with h2 h3 h4
    subst h2 h3 h4
    refine ⟨by omega, ⟨rfl, .inl (by omega)⟩, by omega, fun _ => rfl⟩
  · injection hv with h2 h3 h4
    subst h2 h3 h4
    refine ⟨rfl, ⟨rfl, .inr ⟨g, 0, rfl, (Array.getElem?_eq_some_iff.1 hh).1, fun k x hx => ?_⟩⟩, hn, fun h => by cases h⟩
    rw [Nat.zero_add]
    exact own_cell h (by rw [List.getElem?_map, hx]; rfl)
theorem lo_some {w : World} {B : Nat} {v : Value} {l : List ByteArray} (h : Lo w B v l) (hl : 0 < l.length) : ∃ g cap, v = .slice (some ⟨g, 0, none⟩) l.length cap ∧ B ≤ g ∧ g < w.heap.size ∧ l.length ≤ cap := by
  rcases h.2 with ⟨_, h1⟩ | ⟨g, cap, cur, rfl, hg, hh, hn, hc, hs, ht⟩
  · omega
  · exact ⟨g, cap, rfl, hg, (Array.getElem?_eq_some_iff.1 hh).1, hn⟩
theorem lo_made (w : World) : Lo (w.alloc (.cells #[] 9)) w.heap.size (.slice (some ⟨w.heap.size, 0, none⟩) 0 0) [] := made0 w
theorem lo_store {w : World} {B g cap : Nat} {l : List ByteArray} (h : Lo w B (.slice (some ⟨g, 0, none⟩) l.length cap) l) (i : Nat) (Y : ByteArray) (hi : i < l.length) : Lo (w.setCell ⟨g, i, none⟩ (.string Y)) B (.slice (some ⟨g, 0, none⟩) l.length cap) (l.set i Y) := by
  unfold Lo
  rw [List.length_set, List.map_set]
  exact own_store h hi (sv Y)
theorem more_ne (X : ByteArray) : X ++ (⟨#[33]⟩ : ByteArray) ≠ X := by
  intro h
  have := congrArg ByteArray.size h
  rw [ByteArray.size_append] at this
  have e : (⟨#[33]⟩ : ByteArray).size = 1 := rfl
  omega
set_option maxRecDepth 100000 in
set_option maxHeartbeats 2000000 in
theorem walk (hM : Impl) (A B : Option Addr) (ca cb : Nat) (ar at_ : Int) (a b : List ByteArray) (w : World) (hA : In w A ca a) (hB : In w B cb b) (har : int64 ar) (hwa : Wid a) :
    Calls Try.prog 5 #[.slice A a.length ca, .slice B b.length cb, .int .i64 ar, .int .i64 at_] w fun e w' => e = .returned (.bool true) ∧ Below w.heap.size w w' := by
  have c1 := Lib.hid (hM.between A B ca cb ar a b w hA hB har)
  unfold BetTo at c1
  rcases per_cases2 a b ar with ⟨hp, hge, hl⟩ | ⟨hpn, hp⟩
  · obtain ⟨hm4, hn4⟩ := lng_small hl
    have HWA := Lib.hid hwa
    clear hwa
    rw [hp] at c1
    obtain ⟨H, hH⟩ : ∃ H, H = btw a b (min ar.toNat 400) (pairs 0 0 (steps a b)) := ⟨_, rfl⟩
    have hpc : pcs a b ar = H.map Hk.z := by unfold pcs; rw [if_neg (by omega), hl, hH]; rfl
    have FX : Hid (Facts a b H) := by show Facts a b H; rw [hH]; exact facts a b _ hm4 hn4
    rw [hpc] at c1
    obtain ⟨hs, hhs⟩ : ∃ hs, hs = H.map Hk.z := ⟨_, rfl⟩
    have HS := Lib.hid hhs
    have hsl : hs.length = H.length := by rw [hhs, List.length_map]
    have hcount := FX.out.count
    rw [← hhs] at c1
    obtain ⟨L, hL⟩ : ∃ L, L = hs.length := ⟨_, rfl⟩
    have HL := Lib.hid hL
    have HLH : Hid (L = H.length) := hL.trans hsl
    have hL4 : L ≤ 401 := by omega
    have F1 : ap a 0 hs = (b, 0) := by rw [hhs]; exact FX.out.make
    have F2 : ap b 0 (bk 0 hs) = (a, 0) := by rw [hhs]; exact FX.out.back
    have F3 : bk 0 (bk 0 hs) = hs := by rw [hhs]; exact FX.out.twice
    have hsm : ∀ x, x ∈ hs → x.old.length ≤ 400 ∧ x.new.length ≤ 400 ∧ 0 ≤ x.at_ ∧ x.at_ ≤ 400 := by rw [hhs]; exact FX.out.small
    have hsb : ∀ x, x ∈ bk 0 hs → x.old.length ≤ 400 ∧ x.new.length ≤ 400 ∧ 0 ≤ x.at_ ∧ x.at_ ≤ 400 := by rw [hhs]; exact FX.out.smallB
    have hn1 := news_le_mul hs 400 (fun x hx => (hsm x hx).2.1)
    have hn2 := news_le_mul (bk 0 hs) 400 (fun x hx => (hsb x hx).2.1)
    have hbl := bk_len hs 0
    have hbl2 := bk_len (bk 0 hs) 0
    have CA := fun (C : Option Addr) (cc : Nat) (l : List ByteArray) (X : Option Addr) (cx : Nat) (w1 : World) (hi : In0 w1 X cx l) (hz : HzR w1 C hs.length hs) (hll : l.length ≤ 400) => hM.apply X C cx cc l hs w1 hi hz (by omega) (fun h hh => ⟨by have := hsm h hh; omega, by have := hsm h hh; unfold int64; omega⟩) (by omega)
    have CB := fun (C : Option Addr) (cc : Nat) (X : Option Addr) (cx : Nat) (w1 : World) (hi : In0 w1 X cx b) (hz : HzR w1 C (bk 0 hs).length (bk 0 hs)) => hM.apply X C cx cc b (bk 0 hs) w1 hi hz (by omega) (fun h hh => ⟨by have := hsb h hh; omega, by have := hsb h hh; unfold int64; omega⟩) (by omega)
    have CK := fun (C : Option Addr) (cc : Nat) (w1 : World) (hz : HzR w1 C hs.length hs) => hM.back C cc hs w1 hz (by omega) (fun h hh => by have := hsm h hh; omega)
    have CK2 := fun (C : Option Addr) (cc : Nat) (w1 : World) (hz : HzR w1 C (bk 0 hs).length (bk 0 hs)) => hM.back C cc (bk 0 hs) w1 hz (by omega) (fun h hh => by have := hsb h hh; omega)
    have CAA := fun C cc X cx w1 hi hz => CA C cc a X cx w1 hi hz hm4
    unfold ApTo at CA CB CAA
    unfold BackTo at CK CK2
    rw [F1] at CAA
    rw [F2] at CB
    rw [F3] at CK2
    obtain ⟨bs, hbs⟩ : ∃ bs, bs = bk 0 hs := ⟨_, rfl⟩
    rw [← hbs] at CB CK CK2 hbl
    rw [hbl, ← hL] at CB CK2
    rw [← hL] at CA CAA CK
    simp only at CAA CB
    have HBS := Lib.hid hbs
    have HBL : Hid (bs.length = L) := hbl.trans hL.symm
    have CS := fun (X Y : Option Addr) (cx cy : Nat) (l l' : List ByteArray) (w1 : World) (h1 : Strs w1 X l.length l) (h2 : Strs w1 Y l'.length l') (h3 : l.length ≤ 400) (h4 : l'.length ≤ 400) => same_any X Y cx cy l l' w1 h1 h2 (by omega) (by omega)
    unfold SameT at CS
    have CSS := fun (X Y : Option Addr) (cx cy : Nat) (w1 : World) (h1 : HzR w1 X L hs) (h2 : HzR w1 Y L hs) => same13s_any X Y cx cy L hs w1 h1 h2 (by omega) (fun h hh => by have := hsm h hh; omega)
    have HSM := Lib.hid hsm
    have CA' := Lib.hid CA
    have CAA' := Lib.hid CAA
    have CB' := Lib.hid CB
    have CK' := Lib.hid CK
    have CK2' := Lib.hid CK2
    have CS' := Lib.hid CS
    have CSS' := Lib.hid CSS
    have HA := Lib.hid hA
    have HB := Lib.hid hB
    have hne := FX.out.none
    rw [← HLH.out] at hne
    have HNE := Lib.hid hne
    clear hH hpc hl hp CA CAA CB CK CK2 CS CSS hhs hsl hcount hL F1 F2 F3 hsm hsb hn1 hn2 hbl hbl2 hbs hA hB hne
    obtain ⟨m, hm⟩ : ∃ m, m = a.length := ⟨_, rfl⟩
    obtain ⟨n, hn⟩ : ∃ n, n = b.length := ⟨_, rfl⟩
    rw [← hm] at c1 hm4 ⊢
    rw [← hn] at c1 hn4 ⊢
    have HM := Lib.hid hm
    have HN := Lib.hid hn
    clear hm hn
    go_enter Try.func5, Try.ntmps5
    go_wp2_with fail
    go_at_call 7
    refine c1.out.mono ?_
    rintro e w1 ⟨v, cs, rfl, hu, hi, _, hb1⟩
    obtain ⟨va, vc, rfl, hz⟩ := hu.form hi
    rw [← HL.out] at hz ⊢
    have HZ := Lib.hid hz
    clear hu hi hz c1
    go_wp2_with fail
    go_at_call 9
    refine (awake_any13 hM _).mono ?_
    rintro e w2 ⟨rfl, hb2⟩
    have HB2 := Lib.hid (below_call hb1 hb2)
    have HZ2 := Lib.hid (HZ.out.below hb2)
    clear hb1 hb2 HZ
    go_wp2_with fail
    go_at_call 13
    have hA2 := (HA.out.below HB2.out).in0
    have ka := CAA'.out va vc A ca w2 hA2 HZ2.out
    rw [← HM.out] at ka
    refine ka.mono ?_
    rintro e w3 ⟨v3, rfl, hl3, hb3⟩
    obtain ⟨A3, c3, rfl⟩ := hl3.form
    obtain ⟨hx3, s3, hy3, hz3⟩ := lo_strs hl3
    clear hx3 hy3 hz3
    rw [← HN.out] at s3 ⊢
    have S3 := Lib.hid s3
    have HB3 := Lib.hid (below_call HB2.out hb3)
    have HZ3 := Lib.hid (HZ2.out.below hb3)
    clear hA2 ka hl3 hb3 s3 HB2 HZ2 CAA'
    go_wp2_with fail
    go_at_call 15
    refine (CK'.out va vc w3 HZ3.out).mono ?_
    rintro e w4 ⟨v4, cs4, rfl, hu4, hi4, hb4⟩
    obtain ⟨A4, c4, rfl, hz4⟩ := hu4.form hi4
    rw [HBL.out] at hz4 ⊢
    have HZ4 := Lib.hid hz4
    have HB4 := Lib.hid (below_call HB3.out hb4)
    have HZh4 := Lib.hid (HZ3.out.below hb4)
    have S4 := Lib.hid (S3.out.below hb4)
    clear hu4 hi4 hz4 hb4 HB3 HZ3 S3 CK'
    go_wp2_with fail
    go_at_call 13
    have kb := CB'.out A4 c4 B cb w4 ((HB.out.below HB4.out).in0) HZ4.out
    rw [← HN.out] at kb
    refine kb.mono ?_
    rintro e w5 ⟨v5, rfl, hl5, hb5⟩
    obtain ⟨A5, c5, rfl⟩ := hl5.form
    obtain ⟨hx5, s5, hy5, hz5⟩ := lo_strs hl5
    clear hx5 hy5 hz5
    rw [← HM.out] at s5 ⊢
    have T5 := Lib.hid s5
    have HB5 := Lib.hid (below_call HB4.out hb5)
    have HZ5 := Lib.hid (HZ4.out.below hb5)
    have HZh5 := Lib.hid (HZh4.out.below hb5)
    have S5 := Lib.hid (S4.out.below hb5)
    clear kb hl5 hb5 s5 HB4 HZ4 HZh4 S4 CB'
    go_wp2_with fail
    go_at_call 11
    have k1 := CS'.out A3 B c3 cb b b w5 (by rw [← HN.out]; exact S5.out) (HB.out.1.below HB5.out) (by rw [← HN.out]; exact hn4) (by rw [← HN.out]; exact hn4)
    rw [← HN.out] at k1
    refine k1.mono ?_
    rintro e w6 ⟨b6, h6, rfl, hb6⟩
    obtain rfl : b6 = true := h6.2 rfl
    have HB6 := Lib.hid (below_call HB5.out hb6)
    have HZ6 := Lib.hid (HZ5.out.below hb6)
    have HZh6 := Lib.hid (HZh5.out.below hb6)
    have T6 := Lib.hid (T5.out.below hb6)
    clear k1 h6 hb6 HB5 HZ5 HZh5 S5 T5
    go_wp2_with fail
    go_at_call 11
    have k1 := CS'.out A5 A c5 ca a a w6 (by rw [← HM.out]; exact T6.out) (HA.out.1.below HB6.out) (by rw [← HM.out]; exact hm4) (by rw [← HM.out]; exact hm4)
    rw [← HM.out] at k1
    refine k1.mono ?_
    rintro e w7 ⟨b7, h7, rfl, hb7⟩
    obtain rfl : b7 = true := h7.2 rfl
    have HB7 := Lib.hid (below_call HB6.out hb7)
    have HZ7 := Lib.hid (HZ6.out.below hb7)
    have HZh7 := Lib.hid (HZh6.out.below hb7)
    clear k1 h7 hb7 HB6 HZ6 HZh6 T6
    go_wp2_with fail
    go_at_call 15
    refine (CK2'.out A4 c4 w7 HZ7.out).mono ?_
    rintro e w8 ⟨v8, cs8, rfl, hu8, hi8, hb8⟩
    obtain ⟨A8, c8, rfl, hz8⟩ := hu8.form hi8
    rw [← HL.out] at hz8 ⊢
    have HZ8 := Lib.hid hz8
    have HB8 := Lib.hid (below_call HB7.out hb8)
    have HZh8 := Lib.hid (HZh7.out.below hb8)
    clear hu8 hi8 hz8 hb8 HB7 HZ7 HZh7 CK2'
    go_wp2_with fail
    go_at_call 10
    refine (CSS'.out A8 va c8 vc w8 HZ8.out HZh8.out).mono ?_
    rintro e w9 ⟨rfl, hb9⟩
    have HB9 := Lib.hid (below_call HB8.out hb9)
    have HZh9 := Lib.hid (HZh8.out.below hb9)
    clear hb9 HB8 HZ8 HZh8 CSS'
    go_wp2_with fail
    go_at_call 11
    have k1 := CS'.out A B ca cb a b w9 (HA.out.1.below HB9.out) (HB.out.1.below HB9.out) (by rw [← HM.out]; exact hm4) (by rw [← HN.out]; exact hn4)
    rw [← HM.out, ← HN.out] at k1
    refine k1.mono ?_
    rintro e w10 ⟨b10, h10, rfl, hb10⟩
    have HB10 := Lib.hid (below_call HB9.out hb10)
    have HZ10 := Lib.hid (HZh9.out.below hb10)
    have h11 : b10 = decide (L = 0) := by
      cases b10
      · symm
        apply decide_eq_false
        intro h
        have := h10.2 (HNE.out.1 h)
        cases this
      · symm
        exact decide_eq_true (HNE.out.2 (h10.1 rfl))
    clear k1 h10 hb10 HB9 HZh9 CS' HNE
    have q0 : ((L : Int) == 0) = b10 := by
      rw [h11]
      by_cases h : L = 0
      · rw [decide_eq_true h]; exact beq_iff_eq.2 (by omega)
      · rw [decide_eq_false h]; exact beq_eq_false_iff_ne.2 (by omega)
    have q1 : (L == 0) = b10 := by
      rw [h11]
      by_cases h : L = 0
      · rw [decide_eq_true h]; exact beq_iff_eq.2 h
      · rw [decide_eq_false h]; exact beq_eq_false_iff_ne.2 h
    have HBX : Hid (Below w.heap.size w w10) := HB10
    clear h11
    by_cases hat0 : at_ < 0
    · clear HA HB HZ10
      go_wp2_with fail
      go_ret
      exact ⟨rfl, HBX.out⟩
    · by_cases hatm : (m : Int) ≤ at_
      · clear HA HB HZ10
        go_wp2_with fail
        go_ret
        exact ⟨rfl, HBX.out⟩
      · obtain ⟨i, hi⟩ : ∃ i : Nat, at_ = (i : Int) := ⟨at_.toNat, by omega⟩
        subst hi
        have him : i < m := by omega
        have hia : i < a.length := by rw [← HM.out]; exact him
        have f1 : ¬ (i : Int) < 0 := by omega
        have f2 : ¬ (m : Int) ≤ (i : Int) := by omega
        have f3 : (i : Int) < (m : Int) := by omega
        have hal : Below w10.heap.size w10 (w10.alloc (.cells #[] 9)) := (Below.refl _ w10).alloc (Nat.le_refl _) _
        have sA : Strs (w10.alloc (.cells #[] 9)) A m a := by
          have := ((HA.out.1.below HBX.out).below hal)
          rw [← HM.out] at this
          exact this
        have hnA : A = none → ca = 0 := HA.out.2.2.1
        have hsz0 : w10.heap.size ≤ (w10.alloc (.cells #[] 9)).heap.size := hal.size
        have hbig : (([] : List ByteArray).length + m) * 16 ≤ 140737488355328 := by simp; omega
        have HNA := Lib.hid hnA
        have HBG := Lib.hid hbig
        clear hat0 hatm hnA hbig
        go_wp2_with (at_builtin; refine wp_append_any rfl _ _ rfl w10.heap.size rfl (lo_made w10) rfl sA HNA.out HBG.out hsz0 ?_)
        intro v3 w11 hlo hgr
        obtain ⟨g, cap, hv, hgB, hgl, hcap⟩ := lo_some hlo (by omega)
        subst hv
        have hb11 : Below w10.heap.size w10 w11 := hal.grown hgr hsz0 (fun k hk => by simp [Value.ownBlock] at hk; omega)
        have hown : w11.ownsRow w10.heap.size 9 1 (.slice (some ⟨g, 0, none⟩) a.length cap) a.length (a.map sv) := hlo
        obtain ⟨X, hX⟩ : ∃ X, X = a[i] := ⟨_, rfl⟩
        have c0 : w11.cell? ⟨g, i, none⟩ = some (.string X) := own_cell hown (by rw [List.getElem?_map, List.getElem?_eq_getElem hia, hX]; rfl)
        have hfz := own_frozen hown i
        have HLS := Lib.hid (lo_store hlo i (X ++ ⟨#[33]⟩) hia)
        have HBW : Hid (Below w10.heap.size w10 (w11.setCell ⟨g, i, none⟩ (.string (X ++ ⟨#[33]⟩)))) := hb11.setCell (p := ⟨g, i, none⟩) hgB _
        have HCH : Hid ((within H i = true → ap (a.set i (X ++ ⟨#[33]⟩)) 0 hs = ([], 11)) ∧ (within H i = false → (ap (a.set i (X ++ ⟨#[33]⟩)) 0 hs).2 = 0 ∧ (ap (a.set i (X ++ ⟨#[33]⟩)) 0 hs).1.length = b.length)) := by
          have := FX.out.changed i (X ++ ⟨#[33]⟩) hia (by rw [← hX]; exact more_ne X)
          rw [← HS.out] at this
          exact this
        rw [← HM.out] at HLS hcap ⊢
        have hXs : X.size ≤ 140737488351232 := by rw [hX]; exact HWA.out _ (List.getElem_mem hia)
        have hcat : ∀ W' : World, (Op.stringOp .add X (⟨#[33]⟩ : ByteArray)).run Try.prog W' = .ok (.string (X ++ ⟨#[33]⟩)) W' := fun W' => run_string_add_sum (P := Try.prog) (w := W') X ⟨#[33]⟩ (by
          have e : (⟨#[33]⟩ : ByteArray).size = 1 := rfl
          omega)
        clear hlo hgr hown hb11 hal sA hX hXs
        go_wp2_with fail
        generalize w11.setCell ⟨g, i, none⟩ (.string (X ++ ⟨#[33]⟩)) = W at HLS HBW ⊢
        have HZW := Lib.hid (HZ10.out.below HBW.out)
        obtain ⟨Cl, hCl⟩ : ∃ Cl, Cl = a.set i (X ++ ⟨#[33]⟩) := ⟨_, rfl⟩
        rw [← hCl] at HLS HCH
        have hCll : Cl.length = a.length := by rw [hCl, List.length_set]
        rw [← HM.out] at hCll
        have HBW0 : Hid (Below w.heap.size w W) := HBX.out.trans (HBW.out.mono HBX.out.size)
        clear hCl c0 hfz HZ10 HBX HBW HA HB FX
        have hwt0 : within (H.take 0) i = false := rfl
        go_loopw [17, 18] (fun b17 i18 wr => ∃ k : Nat, i18 = .int .i64 (k : Int) ∧ k ≤ L ∧ b17 = .bool (within (H.take k) i) ∧ Hid (Below W.heap.size W wr)) (fun _ i18 _ => L - (intOf i18).toNat)
        case atStart => exact ⟨0, rfl, Nat.zero_le _, rfl, Below.refl _ _⟩
        case round =>
          obtain ⟨k, rfl, hk, rfl, HBR⟩ := hrel
          clear hwt0
          by_cases hlt : k < L
          · have e1 : (k : Int) < (L : Int) := by omega
            obtain ⟨h, hh⟩ : ∃ h, H[k]? = some h := ⟨_, List.getElem?_eq_getElem (by rw [← HLH.out]; exact hlt)⟩
            have hwn := within_take (i := i) hh
            have hhz : hs[k]? = some h.z := by rw [HS.out, List.getElem?_map, hh]; rfl
            obtain ⟨bc, oc, rfl, hbc, hcc⟩ := HZW.out.2.resolve_left (by omega)
            obtain ⟨uo, un, b0, b1, _, ⟨A1, c1, rfl, _⟩, _⟩ := hcc k h.z hhz
            have b0' : W.cell? ⟨bc, oc + k * 3, none⟩ = some (.int .i64 ((h.at_ : Nat) : Int)) := b0
            have b1' : W.cell? ⟨bc, oc + k * 3 + 1, none⟩ = some (.slice A1 h.old.length c1) := b1
            obtain ⟨ho4, _, _, hp4⟩ := HSM.out h.z (List.mem_iff_getElem?.2 ⟨k, hhz⟩)
            have ho5 : h.old.length ≤ 400 := ho4
            have hp5 : ((h.at_ : Nat) : Int) ≤ 400 := hp4
            obtain ⟨p, hp⟩ : ∃ p, p = h.at_ := ⟨_, rfl⟩
            obtain ⟨o, ho⟩ : ∃ o, o = h.old.length := ⟨_, rfl⟩
            rw [← hp] at b0' hp5 hwn
            rw [← ho] at b1' ho5 hwn
            have HX : Hid (∀ W', Below W.heap.size W W' → Thr2 bc oc k p o A1 c1 W') := fun W' hb => ⟨(hb.cell (p := ⟨bc, _, none⟩) hbc).trans b0', (hb.cell (p := ⟨bc, _, none⟩) hbc).trans b1'⟩
            have wp : IntKind.i64.wrap ((p : Int) + (o : Int)) = (p : Int) + (o : Int) := IntWalk.i64_in _ (by omega)
            obtain ⟨bw, hbw⟩ : ∃ bw, bw = within (H.take k) i := ⟨_, rfl⟩
            obtain ⟨bw2, hbw2⟩ : ∃ bw2, bw2 = within (H.take (k + 1)) i := ⟨_, rfl⟩
            rw [← hbw, ← hbw2] at hwn
            rw [← hbw]
            have HW2 := Lib.hid hbw2
            clear hcc b0 b1 b0' b1' hh hhz hp ho ho4 hp4 hbw hbw2
            cases bw
            · by_cases hpi : p ≤ i
              · by_cases hio : i < p + o
                · have hv : Hid (bw2 = true) := by
                    show bw2 = true
                    rw [hwn, decide_eq_true hpi, decide_eq_true hio]
                    rfl
                  clear hwn
                  go_wp2_with fail
                  refine Rg.wp_only ?_ (backReg3 _ (by kernel_rfl) _ bc oc k p o i L vc c1 A1 _ (Below W.heap.size W) e1 HX.out HBR.out.drew (by omega) wp (by omega))
                  rintro _ w9 ⟨rfl, h9⟩
                  go_wp2_with fail
                  go_roundw
                  case rel => exact ⟨k + 1, by go_num, by omega, by rw [← HW2.out, hv.out], h9⟩
                  case measure => simp only [intOf]; omega
                · have hv : Hid (bw2 = false) := by
                    show bw2 = false
                    rw [hwn, decide_eq_false hio, Bool.and_false]
                    rfl
                  clear hwn
                  go_wp2_with fail
                  refine Rg.wp_only ?_ (backReg4 _ (by kernel_rfl) _ bc oc k p o i L vc c1 A1 _ (Below W.heap.size W) e1 HX.out HBR.out.drew (by omega) wp (by omega) (decide_eq_false (by omega)))
                  rintro _ w9 ⟨rfl, h9⟩
                  go_wp2_with fail
                  go_roundw
                  case rel => exact ⟨k + 1, by go_num, by omega, by rw [← HW2.out, hv.out], h9⟩
                  case measure => simp only [intOf]; omega
              · have hv : Hid (bw2 = false) := by
                  show bw2 = false
                  rw [hwn, decide_eq_false hpi, Bool.false_and]
                  rfl
                clear hwn
                go_wp2_with fail
                refine Rg.wp_only ?_ (backReg2 _ (by kernel_rfl) _ bc oc k p o i L vc c1 A1 _ (Below W.heap.size W) e1 HX.out HBR.out.drew (by omega) (decide_eq_false (by omega)))
                rintro _ w9 ⟨rfl, h9⟩
                go_wp2_with fail
                go_roundw
                case rel => exact ⟨k + 1, by go_num, by omega, by rw [← HW2.out, hv.out], h9⟩
                case measure => simp only [intOf]; omega
            · have hv : Hid (bw2 = true) := by
                show bw2 = true
                rw [hwn]
                rfl
              clear hwn
              go_wp2_with fail
              refine Rg.wp_only ?_ (backReg1 _ (by kernel_rfl) _ bc oc k p o i L vc c1 A1 _ (Below W.heap.size W) e1 HX.out HBR.out.drew)
              rintro _ w9 ⟨rfl, h9⟩
              go_wp2_with fail
              go_roundw
              case rel => exact ⟨k + 1, by go_num, by omega, by rw [← HW2.out, hv.out], h9⟩
              case measure => simp only [intOf]; omega
          · have hkL : k = L := by omega
            have e1 : ¬ (k : Int) < (L : Int) := by omega
            have hHk : H.take k = H := by rw [hkL, HLH.out, List.take_length]
            rw [hHk]
            have hlw : Lo W w10.heap.size (.slice (some ⟨g, 0, none⟩) m cap) Cl := HLS.out
            obtain ⟨hxx, sW, cW, nW⟩ := lo_strs hlw
            have hi0 : In0 wr (some ⟨g, 0, none⟩) cap Cl := ⟨sW.below HBR.out, cW, nW⟩
            have kc := CA'.out va vc Cl (some ⟨g, 0, none⟩) cap wr hi0 (HZW.out.below HBR.out) (by omega)
            rw [hCll] at kc
            have KC := Lib.hid kc
            have HBE := Lib.hid (HBW0.out.trans (HBR.out.mono HBW0.out.size))
            clear hHk hlw sW cW nW hi0 kc hkL hxx hCll
            cases hwb : within H i
            · obtain ⟨r2, r1⟩ := HCH.out.2 hwb
              rw [r2] at KC
              rw [← HN.out] at r1
              have R1 := Lib.hid r1
              clear hwb r1 r2
              go_wp2_with fail
              go_at_call 13
              refine KC.out.mono ?_
              rintro e w12 ⟨v12, rfl, hl12, hb12⟩
              obtain ⟨A12, c12, rfl⟩ := hl12.form
              rw [R1.out]
              have hE := below_call HBE.out hb12
              clear hl12
              go_wp2_with fail
              go_ret
              exact ⟨rfl, hE⟩
            · have r := HCH.out.1 hwb
              rw [r] at KC
              simp only at KC
              clear hwb r
              go_wp2_with fail
              go_at_call 13
              refine KC.out.mono ?_
              rintro e w12 ⟨v12, rfl, hl12, hb12⟩
              obtain ⟨A12, c12, rfl⟩ := hl12.form
              have hE := below_call HBE.out hb12
              clear hl12
              go_wp2_with fail
              go_ret
              exact ⟨rfl, hE⟩
  · rw [hpn] at c1
    obtain ⟨er, her⟩ : ∃ er, er = per a b ar := ⟨_, rfl⟩
    rw [← her] at hp c1
    have hpe : ((er : Int) == 0) = false := beq_eq_false_iff_ne.2 (by omega)
    have hpe2 : (er == 0) = false := beq_eq_false_iff_ne.2 (by omega)
    clear her hpn hA hB hwa
    rcases hp with hp | hp
    all_goals
      subst hp
      go_enter Try.func5, Try.ntmps5
      go_wp2_with fail
      go_at_call 7
      refine c1.out.mono ?_
      rintro e w1 ⟨v, cs, rfl, hu, hi, _, hb1⟩
      obtain ⟨va, vc, rfl, _⟩ := hu.form hi
      clear hu hi
      go_wp2_with fail
      go_at_call 9
      refine (awake_any13 hM _).mono ?_
      rintro e w2 ⟨rfl, hb2⟩
      have hB2 := below_call hb1 hb2
      go_wp2_with fail
      go_at_call 9
      refine (awake_any13 hM _).mono ?_
      rintro e w3 ⟨rfl, hb3⟩
      have hB3 := below_call hB2 hb3
      go_wp2_with fail
      go_ret
      exact ⟨rfl, hB3⟩
theorem own : ownKnob Try.prog.godebug = none := by kernel_rfl
theorem laidOut : laidOutB Try.prog = true := by kernel_rfl
set_option maxRecDepth 100000 in
theorem contract (hM : Impl) (H : Type) (enc : TypeId × Value → H) (W : World) (base : Nat) (args : Array Value) (ds gs : List (DataW H)) (before : List MemPlace)
    (hval0 : ∀ (j : Nat) t v, Try.f5.params[j]? = some t → args[j]? = some v → Value.okWide Try.prog W .any base t v)
    (hW : DataW.Whole enc Try.prog Try.f5.params.toList Rows.hunkBackSpec.vars false W args.toList ds gs before)
    (hsz0 : (DataW.weightsEach Try.prog (Try.f5.params.toList ++ Rows.hunkBackSpec.plain.varTypes Try.prog) (ds ++ gs)).all (· ≤ reachBytes) = true) :
    Calls Try.prog 5 args W fun e W' => ∃ v, e = .returned v ∧ Rows.hunkBackSpec.post enc Try.prog Try.f5 false true false false W args v W' := by
  have hval : ∀ (j : Nat) t v, Try.f5.params[j]? = some t → args[j]? = some v → Value.okWide Try.prog W .any base t v := hval0
  have hsz := hsz0
  clear hsz0
  have hW' := hW
  obtain ⟨p, q, hA0, hV, rfl, hfz, hnd⟩ := hW
  have hA : DataW.TrodAll enc Try.prog W 0 (fun _ => true) true Try.f5.params.toList args.toList ds p := hA0
  rw [Try.params5] at hA hval hsz
  obtain ⟨v0, vs0, d0, ds0, p0, q0, hargs, rfl, rfl, h0, r0⟩ := trodAll_cons hA
  obtain ⟨v1, vs1, d1, ds1, p1, q1, rfl, rfl, rfl, h1, r1⟩ := trodAll_cons r0
  obtain ⟨v2, vs2, d2, ds2, p2, q2, rfl, rfl, rfl, h2, r2⟩ := trodAll_cons r1
  obtain ⟨v3, vs3, d3, ds3, p3, q3, rfl, rfl, rfl, h3, r3⟩ := trodAll_cons r2
  obtain ⟨rfl, rfl, rfl⟩ := trodAll_nil r3
  obtain rfl : args = #[v0, v1, v2, v3] := by cases args; simp_all
  obtain ⟨rfl, rfl⟩ := trodVars_none hV
  obtain ⟨A0, n0, c0, rfl⟩ := okWide_slice Try.underlying22 (hval 0 22 v0 rfl rfl)
  have k0 := h0
  have lt0 : ∀ x ∈ p0, x.block < W.heap.size := by obtain ⟨m, hm⟩ := k0; exact DataW.trod_lt m _ _ _ hm
  obtain ⟨A1, n1, c1, rfl⟩ := okWide_slice Try.underlying22 (hval 1 22 v1 rfl rfl)
  have k1 := h1
  have lt1 : ∀ x ∈ p1, x.block < W.heap.size := by obtain ⟨m, hm⟩ := k1; exact DataW.trod_lt m _ _ _ hm
  obtain ⟨a2, rfl, rfl, rfl, w2⟩ := open_int Try.underlying3 (hval 2 3 v2 rfl rfl) h2
  have bd2 : -9223372036854775808 ≤ a2 ∧ a2 ≤ 9223372036854775807 := by simpa [Lit.wf, IntKind.min, IntKind.max, IntKind.signed, IntKind.bits] using w2
  obtain ⟨a3, rfl, rfl, rfl, w3⟩ := open_int Try.underlying3 (hval 3 3 v3 rfl rfl) h3
  have bd3 : -9223372036854775808 ≤ a3 ∧ a3 ≤ 9223372036854775807 := by simpa [Lit.wf, IntKind.min, IntKind.max, IntKind.signed, IntKind.bits] using w3
  clear hA0 hval0
  obtain ⟨l0, hl0⟩ := arg_in h0 (j := 0) hsz rfl rfl
  obtain ⟨l1, hl1⟩ := arg_in h1 (j := 1) hsz rfl rfl
  obtain rfl := hl0.2.1
  obtain rfl := hl1.2.1
  refine (walk hM A0 A1 c0 c1 a2 a3 l0 l1 W hl0.1 hl1.1 bd2 hl0.2.2.2).mono fun e W' ⟨he, bel⟩ => ?_
  subst he
  exact ⟨_, rfl, _, _, _, [], _, [], hW', trodAll_mk1 (shut_bool Try.underlying4 _), (trodAll_cons_mk (Below.trod laidOut (by kernel_rfl) (of_decide_eq_true (by kernel_rfl)) k0 bel lt0) (trodAll_cons_mk (Below.trod laidOut (by kernel_rfl) (of_decide_eq_true (by kernel_rfl)) k1 bel lt1) (trodAll_cons_mk (shut_int Try.underlying3 w2) (trodAll_cons_mk (shut_int Try.underlying3 w3) trodAll_mk0)))), rfl, bel.frame _, fun h => by cases h⟩
set_option maxRecDepth 100000 in
theorem lifted (hM : Impl) (os : Os) (started : os.Started) (H : Type) (enc : TypeId × Value → H) :
    ReturnsInHanded {} Try.checked os 5 .any (Rows.hunkBackSpec.pre6 enc Try.prog Try.f5 Rows.hunkBackRow.domain false) (Rows.hunkBackSpec.post enc Try.prog Try.f5 false true false false) := by
  refine returnsInHanded_of_change_sized (C := Try.checked) own started (by kernel_rfl) Try.func5
    (ChangeSpec.witness6 (enc := enc) (C := Try.checked) false ⟨#[], #[.slice none 0 0, .slice none 0 0, .int .i64 0, .int .i64 0], []⟩ 8 (by kernel_rfl) (by kernel_rfl) (by kernel_rfl) (by kernel_rfl)) ?_
  intro W base args ds gs before hval0 hW _ hsz0 _
  exact contract hM H enc W base args ds gs before hval0 hW hsz0
theorem over (hM : Impl) : Rows.hunkBackRow.holds Try.pinned (OpenSpec.ofChange Rows.hunkBackSpec) :=
  OpenClaim.holds_of_wide 5 Try.f5 rfl rfl rfl rfl rfl rfl rfl ⟨rfl, rfl, rfl, rfl, rfl⟩ rfl rfl rfl rfl rfl (by kernel_rfl) Try.func5 (by kernel_rfl)
    (of_decide_eq_true (by kernel_rfl)) (by unfold Func.isWrapper; first | (rw [if_pos (by decide +kernel)]; kernel_rfl) | (rw [if_neg (by decide +kernel)]; exact ⟨rfl, rfl⟩))
    (fun os started H enc _ => lifted hM os started H enc)
end Go.Proofs.Ytoncghamkedhcaa.hunkBack

namespace Go.Proofs.Ytoncghamkedhcaa
theorem hunkBack_holds : Rows.HunkBackSaid := hunkBack.over Kd.impl
#print axioms hunkBack_holds
end Go.Proofs.Ytoncghamkedhcaa
