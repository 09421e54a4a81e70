/-
  BlobKeys: the key of a content tells the low byte of its checksum, and the least number that was free: the law returns true, and writes nothing that was there. No condition beside the sizes that every first form has; the library's tables are those of the program's text (the card's tie).
-/
import Derived.Test.YthejpojmmokinaaGreatDoorT4
namespace Go.Proofs.YthejpojmmokinaaGreatDoor.Bl
open Go.RowKit Tx Pm Dk Wm Wr Wl Pl Tb
set_option linter.unusedVariables false
set_option linter.unusedSimpArgs false
set_option linter.unnecessarySimpa false
def Numb (C : List On) : Prop := ∀ k x, C[k]? = some x → x.n = (C.take k).countP (fun y => decide (y.low = x.low))
theorem nth_count {α : Type} (p : α → Bool) : ∀ (C : List α) (m : Nat), m < C.countP p → ∃ k x, C[k]? = some x ∧ p x = true ∧ (C.take k).countP p = m
  | [], m, h => by simp at h
  | y :: C, m, h => by
    by_cases hy : p y = true
    · cases m with
      | zero => exact ⟨0, y, rfl, hy, rfl⟩
      | succ m =>
        rw [List.countP_cons_of_pos hy] at h
        obtain ⟨k, x, h1, h2, h3⟩ := nth_count p C m (by omega)
        exact ⟨k + 1, x, h1, h2, by rw [List.take_succ_cons, List.countP_cons_of_pos hy, h3]⟩
    · rw [List.countP_cons_of_neg hy] at h
      obtain ⟨k, x, h1, h2, h3⟩ := nth_count p C m h
      exact ⟨k + 1, x, h1, h2, by rw [List.take_succ_cons, List.countP_cons_of_neg hy, h3]⟩
theorem count_take_lt {α : Type} (p : α → Bool) {C : List α} {k : Nat} {x : α} (h : C[k]? = some x) (hp : p x = true) : (C.take k).countP p < C.countP p := by
  have h1 := take_snoc h
  have h2 : (C.take (k + 1)).countP p ≤ C.countP p := List.Sublist.countP_le (List.take_sublist _ _)
  rw [h1, List.countP_append, List.countP_cons_of_pos hp] at h2
  simp at h2
  omega
theorem free_count {C : List On} {M : Nat} (hg : Good8 C M) (hn : Numb C) {low : Nat} (hl : low < 256) : freeN C low = C.countP (fun y => decide (y.low = low)) := by
  refine free_is hg hl ?_ (fun m hm => ?_)
  · cases ht : takenB C low (C.countP (fun y => decide (y.low = low))) with
    | false => rfl
    | true =>
      obtain ⟨x, hx, he⟩ := List.any_eq_true.1 ht
      have hxl : x.low < 256 := by rw [(hg.each x hx).1]; exact lowO_lt _
      obtain ⟨e1, e2⟩ := keyN_inj hxl hl (of_decide_eq_true he)
      obtain ⟨k, hk⟩ := List.getElem?_of_mem hx
      have e3 := hn k x hk
      rw [e1] at e3
      have := count_take_lt (fun y : On => decide (y.low = low)) hk (by simpa using e1)
      omega
  · obtain ⟨k, x, h1, h2, h3⟩ := nth_count (fun y : On => decide (y.low = low)) C m hm
    have hx : x.low = low := of_decide_eq_true h2
    have e := hn k x h1
    rw [hx, h3] at e
    refine List.any_eq_true.2 ⟨x, List.mem_of_getElem? h1, ?_⟩
    unfold keyO
    rw [hx, e]
    simp
theorem numb_set {C : List On} (h : Numb C) (p : ByteArray) (k : Nat) : Numb (setR C p k) := by
  intro i x hx
  unfold setR at hx
  rw [List.getElem?_map] at hx
  obtain ⟨y, hy, rfl⟩ := Option.map_eq_some_iff.1 hx
  have e := h i y hy
  have hc : ∀ z : On, (if keyO z = p then { z with refs := k } else z).low = z.low := fun z => by split <;> rfl
  have hn : (if keyO y = p then { y with refs := k } else y).n = y.n := by split <;> rfl
  refine Eq.trans hn (Eq.trans e ?_)
  simp only [hc]
  unfold setR
  rw [← List.map_take, List.countP_map]
  refine List.countP_congr (fun z _ => ?_)
  show _ ↔ decide ((if keyO z = p then { z with refs := k } else z).low = y.low) = true
  rw [hc z]
theorem numb_new {C : List On} {M : Nat} (hg : Good8 C M) (h : Numb C) (t : ByteArray) : Numb (C ++ [newO C t]) := by
  intro i x hx
  by_cases hi : i < C.length
  · rw [List.getElem?_append_left hi] at hx
    rw [List.take_append_of_le_length (by omega)]
    exact h i x hx
  · have hlen := (List.getElem?_eq_some_iff.1 hx).1
    rw [List.length_append, List.length_singleton] at hlen
    have hi2 : i = C.length := by omega
    subst hi2
    rw [List.getElem?_append_right (Nat.le_refl _), Nat.sub_self] at hx
    injection hx with hx
    subst hx
    rw [List.take_left]
    exact free_count hg h (lowO_lt t)
theorem numb_puts (l : List ByteArray) (h : ∀ x ∈ l, x.size ≤ 140737488351232) : Numb (puts l) := by
  refine snoc7 (P := fun l => (∀ x ∈ l, x.size ≤ 140737488351232) → Numb (puts l)) (fun _ k x hx => by cases hx) (fun l t ih h => ?_) l h
  have h1 : ∀ x ∈ l, x.size ≤ 140737488351232 := fun x hx => h x (List.mem_append_left _ hx)
  rw [puts_snoc]
  unfold putC
  cases hd : of8 (puts l) t with
  | none => exact numb_new (good_puts l h1) (ih h1) t
  | some x => exact numb_set (ih h1) _ _
def inL (l : List ByteArray) (s : ByteArray) : Bool := l.any (fun x => decide (x = s))
theorem inL_iff {l : List ByteArray} {s : ByteArray} : inL l s = true ↔ s ∈ l := by
  unfold inL
  rw [List.any_eq_true]
  constructor
  · rintro ⟨x, hx, e⟩
    rw [decide_eq_true_iff] at e
    exact e ▸ hx
  · intro h
    exact ⟨s, h, by simp⟩
theorem inL_snoc (l : List ByteArray) (y s : ByteArray) : inL (l ++ [y]) s = (inL l s || decide (y = s)) := by
  unfold inL
  rw [List.any_append]
  simp
def cntF (l : List ByteArray) (t : ByteArray) : Nat := (puts l).countP (fun y => decide (y.data ≠ t) && decide (lowO y.data = lowO t))
theorem cntF_snoc (l : List ByteArray) (s t : ByteArray) (h : ∀ x ∈ l, x.size ≤ 140737488351232) : cntF (l ++ [s]) t = cntF l t + if (inL l s = false ∧ s ≠ t ∧ lowO s = lowO t) then 1 else 0 := by
  unfold cntF
  rw [puts_snoc]
  have hh := puts_has l h s
  unfold putC
  cases hd : of8 (puts l) s with
  | some x =>
    rw [hd] at hh
    rw [if_neg (fun hc => by have := inL_iff.2 (hh.1 rfl); rw [hc.1] at this; cases this)]
    show (setR (puts l) (keyO x) (x.refs + 1)).countP _ = _
    unfold setR
    rw [List.countP_map]
    refine List.countP_congr (fun z _ => ?_)
    have e : (if keyO z = keyO x then { z with refs := x.refs + 1 } else z).data = z.data := by split <;> rfl
    show (decide ((if keyO z = keyO x then { z with refs := x.refs + 1 } else z).data ≠ t) && decide (lowO (if keyO z = keyO x then { z with refs := x.refs + 1 } else z).data = lowO t)) = true ↔ _
    rw [e]
  | none =>
    rw [hd] at hh
    have hn : inL l s = false := by
      cases hi : inL l s with
      | false => rfl
      | true => have := hh.2 (inL_iff.1 hi); cases this
    show (puts l ++ [newO (puts l) s]).countP _ = _
    rw [List.countP_append, List.countP_singleton]
    congr 1
    show (if (decide (s ≠ t) && decide (lowO s = lowO t)) = true then 1 else 0) = _
    by_cases h1 : s ≠ t <;> by_cases h2 : lowO s = lowO t <;> simp [hn, h1, h2]
theorem key_fresh (l : List ByteArray) (t : ByteArray) (h : ∀ x ∈ l, x.size ≤ 140737488351232) (ht : t ∉ l) : keyD (puts (l ++ [t])) t = keyN (lowO t) (cntF l t) := by
  have hg := good_puts l h
  rw [puts_snoc, ← put_key hg]
  have hd : of8 (puts l) t = none := by
    cases hd : of8 (puts l) t with
    | none => rfl
    | some x => exact absurd ((puts_has l h t).1 (by rw [hd]; rfl)) ht
  unfold putC
  rw [hd]
  show keyN (lowO t) (freeN (puts l) (lowO t)) = _
  rw [free_count hg (numb_puts l h) (lowO_lt t)]
  congr 1
  unfold cntF
  refine List.countP_congr (fun z hz => ?_)
  have e1 := (hg.each z hz).1
  have e2 := of8_none hd z hz
  simp [e1, e2]
theorem key_head (l : List ByteArray) (t : ByteArray) (h : ∀ x ∈ l ++ [t], x.size ≤ 140737488351232) : ∃ m, m ≤ l.length + 1 ∧ keyD (puts (l ++ [t])) t = keyN (lowO t) m := by
  have hg := good_puts (l ++ [t]) h
  obtain ⟨y, hy, h1, h2, _⟩ := of8_mem ((puts_has (l ++ [t]) h t).2 (List.mem_append_right _ (List.mem_singleton.2 rfl)))
  refine ⟨y.n, ?_, ?_⟩
  · have := (hg.each y hy).2.2.2.1
    rw [List.length_append, List.length_singleton] at this
    exact this
  · rw [h2]
    unfold keyO
    rw [(hg.each y hy).1, h1]
set_option maxRecDepth 100000 in
set_option maxHeartbeats 1000000 in
theorem dec_any : ∀ (n : Nat) (w : World), n ≤ 1000000000 → Calls Tryz.prog 29 #[.int .i64 n] w fun e w' => e = .returned (.string (decB n)) ∧ Below w.heap.size w w' := by
  intro n
  induction n using Nat.strongRecOn with
  | _ n ih =>
    intro w hn
    have hB := Lib.hid (fun o => ((Below.refl w.heap.size w).alloc (Nat.le_refl _) o))
    obtain ⟨B, hB0⟩ : ∃ B, B = UInt8.ofNat (48 + n % 10) := ⟨_, rfl⟩
    have e0 : (B.toNat : Int) = 48 + (n : Int) % 10 := by rw [hB0, UInt8.toNat_ofNat']; omega
    have hc := conv_one B (w.alloc (.cells #[bv B] 5)) w.heap.size (by go_simp)
    unfold bv at hc
    rw [e0] at hc
    clear e0
    by_cases h : n < 10
    · have hz : (n : Int) < 10 := by omega
      have e1 : decB n = b1 B := by
        rw [hB0]
        unfold decB b1
        rw [Lib.decDigits_one h, Nat.mod_eq_of_lt h]
      rw [e1]
      clear ih hB0
      go_enter Tryz.func29, Tryz.ntmps29
      go_wp2_with fail
      go_ret
      exact ⟨rfl, hB.out _⟩
    · have hz : ¬ (n : Int) < 10 := by omega
      have e1 : decB n = decB (n / 10) ++ b1 B := by
        refine ba_ext ?_
        rw [app_l, hB0]
        show Lib.decDigits n = Lib.decDigits (n / 10) ++ [UInt8.ofNat (48 + n % 10)]
        rw [Lib.decDigits, dif_neg h]
      have ci := fun V => ih (n / 10) (by omega) V (by omega)
      have e2 : ((n / 10 : Nat) : Int) = (n : Int) / 10 := by omega
      rw [e2] at ci
      have hsz := decB_size (n := n / 10) (by omega)
      have hb1 : (b1 B).size = 1 := rfl
      have hsum : (decB (n / 10)).size + (b1 B).size ≤ 9223372036854775807 := by omega
      rw [e1]
      clear ih e2 e1 hB0
      go_enter Tryz.func29, Tryz.ntmps29
      go_wp2_with fail
      go_at_call 29
      refine (ci _).mono ?_
      rintro e w1 ⟨rfl, hb⟩
      go_wp2_with fail
      go_ret
      exact ⟨rfl, Tx.below_call (hB.out _) hb⟩
end Go.Proofs.YthejpojmmokinaaGreatDoor.Bl

namespace Go.Proofs.YthejpojmmokinaaGreatDoor.Rg
open Go.RowKit
set_option linter.unusedVariables false
section
variable {P : Program} {S : World → Prop}
theorem y_conv {o : Oper} {a : Act} {T R : TypeId} {x : Operand} {vx v : Value} (ho : o.op = .convert T R x) (hx : a.eval x = vx)
    (hv : ∀ w, S w → (convert T R vx).run P w = .ok v w) : ∀ w, S w → (execOp a.eval o).run P w = .ok (.value v) w := by
  intro w hw
  obtain ⟨dst, op, ty, pos, after, guard⟩ := o
  simp only at ho
  subst ho
  have := hv w hw
  simp only [execOp, hx, Sem.run_bind]
  rw [this]
  rfl
end
end Go.Proofs.YthejpojmmokinaaGreatDoor.Rg
namespace Go.Proofs.YthejpojmmokinaaGreatDoor.Bl
open Go.RowKit Tx
set_option linter.unusedVariables false
set_option maxRecDepth 100000 in
set_option maxHeartbeats 2000000 in
theorem regSum (ops : Array Oper) (hops : ops = (Rg.opsOf Tryz.f7 19)) (id : Nat) (bk off n c i low mm X : Nat) (B : Bool) (y d : ByteArray) {u1 u2 u3 u4 u6 u8 u11 u12 u13 u14 u15 u16 u17 u18 u19 u20 u21 u22 u23 u24 u25 u26 u27 u28 u29 u30 u31 u32 u33 u34 u35 u36 u37 u38 u39 u40 u41 u42 u43 u44 u45 u46 u47 u48 u49 u50 u51 u52 u53 u54 u55 u56 u57 u58 u59 u60 u61 u62 u63 u64 u65 u66 u67 u68 u69 u70 u71 u72 u73 u74 u75 u76 u77 u78 u79 u80 u81 u82 u83 u84 u85 u86 u87 u88 u89 u90 u91 u92 u93 u94 u95 u96 u97 u98 u99 u100 u101 u102 u103 u104 u105 u106 u107 u108 u109 u110 u111 u112 u113 u114 u115 u116 u117 u118 u119 u120 u121 u122 u123 u124 u125 u126 u127 u128 u129 u130 u131 u132 u133 u134 u135 u136 u137 u138 u139 u140 u141 u142 u143 u144 u145 u146 u147 u148 u149 u150 u151 u152 u153 : Value} (w : World) (hmn : (mm : Int) < (n : Int)) (hin : (i : Int) < (n : Int)) (hX : X < 4294967296) (hb : (y.toList == d.toList) = false) (hq : ((X : Int) % 256 == (low : Int)) = B)
    (gy : w.cell? ⟨bk, off + mm, none⟩ = some (.string y)) (gd : w.cell? ⟨bk, off + i, none⟩ = some (.string d))
    (cy : ∀ V, Calls Tryz.prog 28 #[.string y] V fun e w' => e = .returned (.int .u32 (X : Nat)) ∧ V = w') :
    (Code.region id ops true).wp Tryz.prog (Rg.Only fun a' w' => a' = ⟨#[(.slice (some ⟨bk, off, none⟩) n c), u1, u2, u3, u4, (.int .i64 (i : Nat)), u6, (.int .i64 (low : Nat)), u8, (.int .i64 (mm : Nat)), (.bool true), u11, u12, u13, u14, u15, u16, u17, u18, u19, u20, u21, u22, u23, u24, u25, u26, u27, u28, u29, u30, u31, u32, u33, u34, u35, u36, u37, u38, u39, u40, u41, u42, u43, u44, u45, u46, u47, u48, u49, u50, u51, u52, u53, u54, u55, u56, u57, u58, u59, u60, u61, u62, u63, u64, u65, u66, u67, u68, u69, u70, u71, u72, (.bool true), (.bool true), (.slice (some ⟨bk, off, none⟩) n c), (.int .i64 (mm : Nat)), (.pointer (some ⟨bk, off + mm, none⟩)), (.string y), (.slice (some ⟨bk, off, none⟩) n c), (.int .i64 (i : Nat)), (.pointer (some ⟨bk, off + i, none⟩)), (.string d), (.bool true), (.bool true), (.bool true), (.slice (some ⟨bk, off, none⟩) n c), (.int .i64 (mm : Nat)), (.pointer (some ⟨bk, off + mm, none⟩)), (.string y), (.int .u32 (X : Nat)), (.int .u32 ((X : Int) % 256)), (.int .i64 ((X : Int) % 256)), (.int .i64 (low : Nat)), (.bool B), (.bool B), u96, u97, u98, u99, u100, u101, u102, u103, u104, u105, u106, u107, u108, u109, u110, u111, u112, u113, u114, u115, u116, u117, u118, u119, u120, u121, u122, u123, u124, u125, u126, u127, u128, u129, u130, u131, u132, u133, u134, u135, u136, u137, u138, u139, u140, u141, u142, u143, u144, u145, u146, u147, u148, u149, u150, u151, u152, u153], []⟩ ∧ w' = w.drew) ⟨#[(.slice (some ⟨bk, off, none⟩) n c), u1, u2, u3, u4, (.int .i64 (i : Nat)), u6, (.int .i64 (low : Nat)), u8, (.int .i64 (mm : Nat)), (.bool true), u11, u12, u13, u14, u15, u16, u17, u18, u19, u20, u21, u22, u23, u24, u25, u26, u27, u28, u29, u30, u31, u32, u33, u34, u35, u36, u37, u38, u39, u40, u41, u42, u43, u44, u45, u46, u47, u48, u49, u50, u51, u52, u53, u54, u55, u56, u57, u58, u59, u60, u61, u62, u63, u64, u65, u66, u67, u68, u69, u70, u71, u72, u73, u74, u75, u76, u77, u78, u79, u80, u81, u82, u83, u84, u85, u86, u87, u88, u89, u90, u91, u92, u93, u94, u95, u96, u97, u98, u99, u100, u101, u102, u103, u104, u105, u106, u107, u108, u109, u110, u111, u112, u113, u114, u115, u116, u117, u118, u119, u120, u121, u122, u123, u124, u125, u126, u127, u128, u129, u130, u131, u132, u133, u134, u135, u136, u137, u138, u139, u140, u141, u142, u143, u144, u145, u146, u147, u148, u149, u150, u151, u152, u153], []⟩ w := by
  subst hops
  have hNS : Region.noSelect (Rg.opsOf Tryz.f7 19) = true := by kernel_rfl
  refine wp_region_held_drew (S := fun V => V.cell? ⟨bk, off + mm, none⟩ = some (.string y) ∧ V.cell? ⟨bk, off + i, none⟩ = some (.string d)) (by kernel_rfl) ⟨by go_simp, by go_simp⟩ (fun hHeld => ?_)
  rw [show (Rg.opsOf Tryz.f7 19).size = 23 by kernel_rfl]
  refine Rg.take (ops := (Rg.opsOf Tryz.f7 19)) 0 (some 73) ((.bool true)) hNS (by kernel_rfl) (by kernel_rfl) (by kernel_rfl) (by kernel_rfl) (by kernel_rfl) hHeld (Rg.y_move (x := (Operand.tmp 10)) (Or.inl (by kernel_rfl)) (by kernel_rfl)) ?_
  refine Rg.take (ops := (Rg.opsOf Tryz.f7 19)) 1 (some 74) ((.bool true)) hNS (by kernel_rfl) (by kernel_rfl) (by kernel_rfl) (by kernel_rfl) (by kernel_rfl) hHeld (Rg.y_move (x := (Operand.tmp 73)) (Or.inl (by kernel_rfl)) (by kernel_rfl)) ?_
  refine Rg.take (ops := (Rg.opsOf Tryz.f7 19)) 2 (some 75) ((.slice (some ⟨bk, off, none⟩) n c)) hNS (by kernel_rfl) (by kernel_rfl) (by kernel_rfl) (by kernel_rfl) (by kernel_rfl) hHeld (Rg.y_move (x := (Operand.tmp 0)) (Or.inl (by kernel_rfl)) (by kernel_rfl)) ?_
  refine Rg.take (ops := (Rg.opsOf Tryz.f7 19)) 3 (some 76) ((.int .i64 (mm : Nat))) hNS (by kernel_rfl) (by kernel_rfl) (by kernel_rfl) (by kernel_rfl) (by kernel_rfl) hHeld (Rg.y_move (x := (Operand.tmp 9)) (Or.inl (by kernel_rfl)) (by kernel_rfl)) ?_
  refine Rg.take (ops := (Rg.opsOf Tryz.f7 19)) 4 (some 77) ((.pointer (some ⟨bk, off + mm, none⟩))) hNS (by kernel_rfl) (by kernel_rfl) (by kernel_rfl) (by kernel_rfl) (by kernel_rfl) hHeld (Rg.y_at (T := 38) (x := (Operand.tmp 75)) (y := (Operand.tmp 76)) (vx := (.slice (some ⟨bk, off, none⟩) n c)) (vy := (.int .i64 (mm : Nat))) (by kernel_rfl) (by kernel_rfl) (by kernel_rfl) ?_) ?_
  · (intro w hSw; have h1 := hmn; have h2 := hin; go_simp)
  refine Rg.take (ops := (Rg.opsOf Tryz.f7 19)) 5 (some 78) ((.string y)) hNS (by kernel_rfl) (by kernel_rfl) (by kernel_rfl) (by kernel_rfl) (by kernel_rfl) hHeld (Rg.y_load (T := 9) (x := (Operand.tmp 77)) (vx := (.pointer (some ⟨bk, off + mm, none⟩))) (by kernel_rfl) (by kernel_rfl) ?_) ?_
  · (intro w hSw; have h1 := hSw.1; have h2 := hSw.2; go_simp)
  refine Rg.take (ops := (Rg.opsOf Tryz.f7 19)) 6 (some 79) ((.slice (some ⟨bk, off, none⟩) n c)) hNS (by kernel_rfl) (by kernel_rfl) (by kernel_rfl) (by kernel_rfl) (by kernel_rfl) hHeld (Rg.y_move (x := (Operand.tmp 0)) (Or.inl (by kernel_rfl)) (by kernel_rfl)) ?_
  refine Rg.take (ops := (Rg.opsOf Tryz.f7 19)) 7 (some 80) ((.int .i64 (i : Nat))) hNS (by kernel_rfl) (by kernel_rfl) (by kernel_rfl) (by kernel_rfl) (by kernel_rfl) hHeld (Rg.y_move (x := (Operand.tmp 5)) (Or.inl (by kernel_rfl)) (by kernel_rfl)) ?_
  refine Rg.take (ops := (Rg.opsOf Tryz.f7 19)) 8 (some 81) ((.pointer (some ⟨bk, off + i, none⟩))) hNS (by kernel_rfl) (by kernel_rfl) (by kernel_rfl) (by kernel_rfl) (by kernel_rfl) hHeld (Rg.y_at (T := 38) (x := (Operand.tmp 79)) (y := (Operand.tmp 80)) (vx := (.slice (some ⟨bk, off, none⟩) n c)) (vy := (.int .i64 (i : Nat))) (by kernel_rfl) (by kernel_rfl) (by kernel_rfl) ?_) ?_
  · (intro w hSw; have h1 := hmn; have h2 := hin; go_simp)
  refine Rg.take (ops := (Rg.opsOf Tryz.f7 19)) 9 (some 82) ((.string d)) hNS (by kernel_rfl) (by kernel_rfl) (by kernel_rfl) (by kernel_rfl) (by kernel_rfl) hHeld (Rg.y_load (T := 9) (x := (Operand.tmp 81)) (vx := (.pointer (some ⟨bk, off + i, none⟩))) (by kernel_rfl) (by kernel_rfl) ?_) ?_
  · (intro w hSw; have h1 := hSw.1; have h2 := hSw.2; go_simp)
  refine Rg.take (ops := (Rg.opsOf Tryz.f7 19)) 10 (some 83) ((.bool true)) hNS (by kernel_rfl) (by kernel_rfl) (by kernel_rfl) (by kernel_rfl) (by kernel_rfl) hHeld (Rg.y_bin (b := BinOp.neq) (T := 9) (R' := 9) (x := (Operand.tmp 78)) (y := (Operand.tmp 82)) (vx := (.string y)) (vy := (.string d)) (by kernel_rfl) (by kernel_rfl) (by kernel_rfl) ?_) ?_
  · (intro w hSw; have h1 := hb; go_simp)
  refine Rg.take (ops := (Rg.opsOf Tryz.f7 19)) 11 (some 84) ((.bool true)) hNS (by kernel_rfl) (by kernel_rfl) (by kernel_rfl) (by kernel_rfl) (by kernel_rfl) hHeld (Rg.y_pick (c := (Operand.tmp 74)) (x := (Operand.tmp 83)) (y := (Operand.const (Value.bool false))) (b := true) (by kernel_rfl) (by kernel_rfl) (by kernel_rfl)) ?_
  refine Rg.take (ops := (Rg.opsOf Tryz.f7 19)) 12 (some 85) ((.bool true)) hNS (by kernel_rfl) (by kernel_rfl) (by kernel_rfl) (by kernel_rfl) (by kernel_rfl) hHeld (Rg.y_move (x := (Operand.tmp 84)) (Or.inl (by kernel_rfl)) (by kernel_rfl)) ?_
  refine Rg.take (ops := (Rg.opsOf Tryz.f7 19)) 13 (some 86) ((.slice (some ⟨bk, off, none⟩) n c)) hNS (by kernel_rfl) (by kernel_rfl) (by kernel_rfl) (by kernel_rfl) (by kernel_rfl) hHeld (Rg.y_move (x := (Operand.tmp 0)) (Or.inl (by kernel_rfl)) (by kernel_rfl)) ?_
  refine Rg.take (ops := (Rg.opsOf Tryz.f7 19)) 14 (some 87) ((.int .i64 (mm : Nat))) hNS (by kernel_rfl) (by kernel_rfl) (by kernel_rfl) (by kernel_rfl) (by kernel_rfl) hHeld (Rg.y_move (x := (Operand.tmp 9)) (Or.inl (by kernel_rfl)) (by kernel_rfl)) ?_
  refine Rg.take (ops := (Rg.opsOf Tryz.f7 19)) 15 (some 88) ((.pointer (some ⟨bk, off + mm, none⟩))) hNS (by kernel_rfl) (by kernel_rfl) (by kernel_rfl) (by kernel_rfl) (by kernel_rfl) hHeld (Rg.y_at (T := 38) (x := (Operand.tmp 86)) (y := (Operand.tmp 87)) (vx := (.slice (some ⟨bk, off, none⟩) n c)) (vy := (.int .i64 (mm : Nat))) (by kernel_rfl) (by kernel_rfl) (by kernel_rfl) ?_) ?_
  · (intro w hSw; have h1 := hmn; have h2 := hin; go_simp)
  refine Rg.take (ops := (Rg.opsOf Tryz.f7 19)) 16 (some 89) ((.string y)) hNS (by kernel_rfl) (by kernel_rfl) (by kernel_rfl) (by kernel_rfl) (by kernel_rfl) hHeld (Rg.y_load (T := 9) (x := (Operand.tmp 88)) (vx := (.pointer (some ⟨bk, off + mm, none⟩))) (by kernel_rfl) (by kernel_rfl) ?_) ?_
  · (intro w hSw; have h1 := hSw.1; have h2 := hSw.2; go_simp)
  refine Rg.take (ops := (Rg.opsOf Tryz.f7 19)) 20 (some 93) ((.int .i64 (low : Nat))) hNS (by kernel_rfl) (by kernel_rfl) (by kernel_rfl) (by kernel_rfl) (by kernel_rfl) hHeld (Rg.y_move (x := (Operand.tmp 7)) (Or.inl (by kernel_rfl)) (by kernel_rfl)) ?_
  refine Rg.call (ops := (Rg.opsOf Tryz.f7 19)) (fn := Tryz.f28) (xs := #[Operand.tmp 89]) (ats := #[9]) 17 (some 90) 28 #[(.string y)] (by kernel_rfl) (by kernel_rfl) (by kernel_rfl) (by kernel_rfl) (by kernel_rfl) Tryz.func28 (by kernel_rfl) (by kernel_rfl) (by kernel_rfl) ?_
  refine (cy _).mono ?_
  rintro e w9 ⟨rfl, rfl⟩
  refine ⟨_, rfl, hHeld, fun hHeld => ?_⟩
  refine Rg.take (ops := (Rg.opsOf Tryz.f7 19)) 18 (some 91) ((.int .u32 ((X : Int) % 256))) hNS (by kernel_rfl) (by kernel_rfl) (by kernel_rfl) (by kernel_rfl) (by kernel_rfl) hHeld (Rg.y_bin (b := BinOp.rem) (T := 59) (R' := 59) (x := (Operand.tmp 90)) (y := (Operand.const (Value.int IntKind.u32 256))) (vx := (.int .u32 (X : Nat))) (vy := (Value.int IntKind.u32 256)) (by kernel_rfl) (by kernel_rfl) (by kernel_rfl) ?_) ?_
  · (intro w hSw; have h1 := hX; have ht : (X : Int).tmod 256 = (X : Int) % 256 := Int.tmod_eq_emod_of_nonneg (by omega); go_simp)
  refine Rg.take (ops := (Rg.opsOf Tryz.f7 19)) 19 (some 92) ((.int .i64 ((X : Int) % 256))) hNS (by kernel_rfl) (by kernel_rfl) (by kernel_rfl) (by kernel_rfl) (by kernel_rfl) hHeld (Rg.y_conv (T := 59) (R := 3) (x := (Operand.tmp 91)) (vx := (.int .u32 ((X : Int) % 256))) (by kernel_rfl) (by kernel_rfl) ?_) ?_
  · (intro w hSw; have h1 := hX; have h2 : 0 ≤ (X : Int) % 256 := (by omega); go_simp; rw [IntKind.wrap_i64]; omega)
  refine Rg.take (ops := (Rg.opsOf Tryz.f7 19)) 21 (some 94) ((.bool B)) hNS (by kernel_rfl) (by kernel_rfl) (by kernel_rfl) (by kernel_rfl) (by kernel_rfl) hHeld (Rg.y_bin (b := BinOp.eql) (T := 3) (R' := 3) (x := (Operand.tmp 92)) (y := (Operand.tmp 93)) (vx := (.int .i64 ((X : Int) % 256))) (vy := (.int .i64 (low : Nat))) (by kernel_rfl) (by kernel_rfl) (by kernel_rfl) ?_) ?_
  · (intro w hSw; have h1 := hq; go_simp)
  refine Rg.take (ops := (Rg.opsOf Tryz.f7 19)) 22 (some 95) ((.bool B)) hNS (by kernel_rfl) (by kernel_rfl) (by kernel_rfl) (by kernel_rfl) (by kernel_rfl) hHeld (Rg.y_pick (c := (Operand.tmp 85)) (x := (Operand.tmp 94)) (y := (Operand.const (Value.bool false))) (b := true) (by kernel_rfl) (by kernel_rfl) (by kernel_rfl)) ?_
  refine Rg.done (ops := (Rg.opsOf Tryz.f7 19)) (by kernel_rfl) ?_
  exact ⟨by kernel_rfl, rfl⟩
end Go.Proofs.YthejpojmmokinaaGreatDoor.Bl

namespace Go.Proofs.YthejpojmmokinaaGreatDoor.blobKeys
open Go.ChangeMaps (open_string shut_string)
open Go.ChangeShapes Go.WideShapes Go.ChangeAt Go.RowKit Tx Pm Dk Wm Wr Tb Wl Bl
set_option linter.unusedVariables false
set_option linter.unusedSimpArgs false
set_option linter.unnecessarySimpa false
theorem low_cast (X : Nat) : (X : Int) % 256 = ((X % 256 : Nat) : Int) := by omega
theorem hex_piece (k : Nat) (h : k < 16) : hexB.extract k (k + 1) = ⟨#[hexd k]⟩ := by
  have : ∀ i : Fin 16, hexB.extract i.val (i.val + 1) = ⟨#[hexd i.val]⟩ := by decide +kernel
  exact this ⟨k, h⟩
theorem head_is (low : Nat) (h : low < 256) : (⟨#[98, 47]⟩ : ByteArray) ++ hexB.extract (low / 16) (low / 16 + 1) ++ hexB.extract (low % 16) (low % 16 + 1) ++ ⟨#[47]⟩ = grp low := by
  rw [hex_piece _ (by omega), hex_piece _ (by omega)]
  exact ba_ext (by rw [app_l, app_l, app_l]; rfl)
theorem key_pre (low m : Nat) : (keyN low m).extract 0 5 = grp low := by
  refine ba_ext ?_
  have e : ((keyN low m).extract 0 5).data.toList = ((keyN low m).data.toList).take 5 := by
    rw [ByteArray.data_extract, Array.toList_extract]
    simp [List.extract_eq_take_drop]
  rw [e, keyN_list]
  rfl
theorem key_len (low : Nat) {m : Nat} : 5 < (keyN low m).size := by
  unfold keyN
  rw [ByteArray.size_append]
  have e : (decB m).size = (Lib.decDigits m).length := by simp [decB, ByteArray.size]
  rw [e, Lib.decDigits_length]
  have := Lib.nDigits_pos m
  show 5 < 5 + _
  omega
set_option maxRecDepth 100000 in
set_option maxHeartbeats 16000000 in
theorem walk (A : Option Addr) (n c : Nat) (l : List ByteArray) (w : World) (hS : Strs w A n l) (hW : ∀ x ∈ l, x.size ≤ 140737488351232) (hc : n ≤ c) (ht : Tab w) :
    Calls Tryz.prog 7 #[.slice A n c] w fun e w' => e = .returned (.bool true) ∧ Below w.heap.size w w' := by
  have HST := Lib.hid (fun V (hV : Below w.heap.size w V) => hS.below hV)
  have HL := Lib.hid hS.1
  have HW := Lib.hid hW
  have HT := Lib.hid ht
  have HWT := Lib.hid (fun k (y : ByteArray) (hy : y ∈ l.take k) => hW y (List.mem_of_mem_take hy))
  clear hS hW ht
  go_enter Tryz.func7, Tryz.ntmps7
  go_wp2_with fail
  go_at_call 8
  refine (made_any8 w w (Below.refl _ _)).mono ?_
  rintro e w1 ⟨b, j, t, m, u, F, rfl, hb1, hF, o1⟩
  have HF := Lib.hid hF
  clear hF
  by_cases hn : n ≤ 120
  · have hnz : ¬ (120 : Int) < (n : Int) := by omega
    go_wp2_with fail
    go_at_call 9
    refine (awake_any8 w1 w1 (Below.refl _ _) (HT.out.below hb1)).mono ?_
    rintro e w2 ⟨rfl, hb2⟩
    have o2 := Bw.first (o1.below hb2) HF.out hb1.size (Tx.below_call hb1 hb2)
    clear o1 hb2
    go_wp2_with fail
    go_loopw [5] (fun iv wr => ∃ i V : Nat, i ≤ n ∧ iv = .int .i64 i ∧ Bw b j t m u x0 [] w (puts (l.take i)) i i V (.slice none 0 0) 0 [] wr) (fun iv _ => n - (intOf iv).toNat)
    case atStart => exact ⟨0, 0, Nat.zero_le _, rfl, o2⟩
    case round =>
      clear o2
      obtain ⟨i, V, hin, rfl, o⟩ := hrel
      by_cases hlt : i < n
      · obtain ⟨d, hd⟩ : ∃ d, l[i]? = some d := ⟨_, List.getElem?_eq_getElem (by rw [HL.out]; exact hlt)⟩
        obtain ⟨bk, off, rfl, _, g0⟩ := Strs.at2 (HST.out _ o.bel) hd hlt
        have hiz : (i : Int) < (n : Int) := by omega
        have hdw := HW.out d (List.mem_of_getElem? hd)
        have htk := take_snoc hd
        have cp := o.call HT.out (fun F hT hB => put_put (l := l.take i) (d := d) hB xk0 (by omega) (by omega) hdw hT)
        rw [← htk] at cp
        obtain ⟨q, hq1, hq2⟩ := key_head (l.take i) d (by rw [← htk]; exact HWT.out (i + 1))
        rw [← htk] at hq2
        have hfr := fun hh => key_fresh (l.take i) d (HWT.out i) hh
        rw [← htk] at hfr
        obtain ⟨KX, hKX⟩ : ∃ K, K = keyD (puts (l.take (i + 1))) d := ⟨_, rfl⟩
        rw [← hKX] at cp hq2 hfr
        have HQ := Lib.hid hq2
        have HFR := Lib.hid hfr
        have HQ1 := Lib.hid hq1
        have HD := Lib.hid hd
        have hi32 : i ≤ 120 := by omega
        clear hd htk hq1 hq2 hfr hKX o
        go_wp2_with fail
        go_at_call 13
        refine cp.mono ?_
        rintro e w3 ⟨rfl, o3⟩
        have HB3 := Lib.hid (fun V (hV : Below w3.heap.size w3 V) => HST.out V (Tx.below_call o3.bel hV))
        have g3 := Strs.at1 (HB3.out _ (Below.refl _ _)) HD.out
        have cs := Fr.fSum_w d w3 (by omega)
        clear cp g0
        go_wp2_with fail
        go_at_call 28
        refine cs.mono ?_
        rintro e w3' ⟨rfl, rfl⟩
        clear cs g3
        go_wp2_with fail
        rw [low_cast]
        obtain ⟨low, hlow⟩ : ∃ x, x = Fm.fsum d.data.toList % 256 := ⟨_, rfl⟩
        rw [← hlow]
        have HLOW := Lib.hid (show low = lowO d from hlow)
        have hl256 : low < 256 := by rw [hlow]; omega
        clear hlow
        go_wp2_with fail
        go_loopw [8, 9] (fun nv mv wr => ∃ mm N : Nat, mm ≤ i ∧ mv = .int .i64 mm ∧ Hid (N = cntF (l.take mm) d) ∧ N ≤ mm ∧ nv = .int .i64 N ∧ Below w3.heap.size w3 wr) (fun _ mv _ => i - (intOf mv).toNat)
        case atStart => exact ⟨0, 0, Nat.zero_le _, rfl, rfl, Nat.le_refl _, rfl, Below.refl _ _⟩
        case round =>
          obtain ⟨mm, N, hmi, rfl, hN, hNm, rfl, hB⟩ := hrel
          by_cases hlm : mm < i
          · obtain ⟨y, hy⟩ : ∃ y, l[mm]? = some y := ⟨_, List.getElem?_eq_getElem (by rw [HL.out]; omega)⟩
            have hmz : (mm : Int) < (i : Int) := by omega
            have hmn : (mm : Int) < (n : Int) := by omega
            have HY := Lib.hid hy
            clear hy
            go_wp2_with fail
            go_loopw [10, 11] (fun bv xv wr2 => ∃ (x : Nat) (B : Bool), x ≤ mm ∧ xv = .int .i64 x ∧ bv = .bool B ∧ Hid (B = !inL (l.take x) y) ∧ Below w3.heap.size w3 wr2) (fun _ xv _ => mm - (intOf xv).toNat)
            case atStart => exact ⟨0, true, Nat.zero_le _, rfl, rfl, rfl, hB⟩
            case round =>
              clear hB
              obtain ⟨x, B, hxm, rfl, rfl, hBB, hB⟩ := hrel
              by_cases hlx : x < mm
              · obtain ⟨z, hz⟩ : ∃ z, l[x]? = some z := ⟨_, List.getElem?_eq_getElem (by rw [HL.out]; omega)⟩
                have hxz : (x : Int) < (mm : Int) := by omega
                have hxn : (x : Int) < (n : Int) := by omega
                have gz := Strs.at1 (HB3.out _ hB) hz
                have gy := Strs.at1 (HB3.out _ hB) HY.out
                have htk := take_snoc hz
                have hin := inL_snoc (l.take x) z y
                rw [← htk] at hin
                have hB2 := Tx.below_call hB (Below.refl _ wr).drew
                cases B
                · have HBN := Lib.hid (show false = !inL (l.take (x + 1)) y by
                    have := hBB.out
                    rw [hin]
                    cases h : inL (l.take x) y <;> simp [h] at this ⊢)
                  clear hin htk hz hBB
                  go_wp2_with fail
                  go_region
                  all_goals
                    go_wp2_with fail
                    go_roundw
                    case rel => exact ⟨x + 1, false, by omega, by go_num, rfl, HBN.out, hB2⟩
                    case measure => simp [intOf]; omega
                · by_cases he : z = y
                  · subst he
                    have hb : (z.toList == z.toList) = true := beq_self_eq_true _
                    have HBN := Lib.hid (show false = !inL (l.take (x + 1)) z by rw [hin]; simp)
                    clear hin htk hz hBB
                    go_wp2_with fail
                    go_region
                    all_goals
                      go_wp2_with fail
                      go_roundw
                      case rel => exact ⟨x + 1, false, by omega, by go_num, rfl, HBN.out, hB2⟩
                      case measure => simp [intOf]; omega
                  · have hb : (z.toList == y.toList) = false := bytes_ne he
                    have HBN := Lib.hid (show true = !inL (l.take (x + 1)) y by
                      have := hBB.out
                      rw [hin]
                      cases h : inL (l.take x) y <;> simp [h, he] at this ⊢)
                    clear hin htk hz hBB he
                    go_wp2_with fail
                    go_region
                    all_goals
                      go_wp2_with fail
                      go_roundw
                      case rel => exact ⟨x + 1, true, by omega, by go_num, rfl, HBN.out, hB2⟩
                      case measure => simp [intOf]; omega
              · obtain rfl : x = mm := by omega
                have gy := Strs.at1 (HB3.out _ hB) HY.out
                have gd := Strs.at1 (HB3.out _ hB) HD.out
                have htk := take_snoc HY.out
                have hcn := cntF_snoc (l.take x) y d (HWT.out x)
                rw [← htk, ← hN.out] at hcn
                have hB2 := Tx.below_call hB (Below.refl _ wr).drew
                have hyw := HW.out y (List.mem_of_getElem? HY.out)
                cases B
                · have hi : inL (l.take x) y = true := by
                    have := hBB.out
                    cases h : inL (l.take x) y <;> simp [h] at this ⊢
                  rw [if_neg (fun hh => by rw [hi] at hh; cases hh.1)] at hcn
                  have HCN := Lib.hid hcn.symm
                  clear hcn htk hBB hi hB
                  go_wp2_with fail
                  go_region
                  all_goals
                    go_wp2_with fail
                    go_roundw
                    case rel => exact ⟨x + 1, N, by omega, by go_num, HCN.out, by omega, rfl, hB2⟩
                    case measure => simp [intOf]; omega
                · have hi : inL (l.take x) y = false := by
                    have := hBB.out
                    cases h : inL (l.take x) y <;> simp [h] at this ⊢
                  by_cases he : y = d
                  · rw [if_neg (fun hh => hh.2.1 he)] at hcn
                    have HCN := Lib.hid hcn.symm
                    have hb : (y.toList == d.toList) = true := by rw [he]; exact beq_self_eq_true _
                    clear hcn htk hBB hi hB he
                    go_wp2_with fail
                    go_region
                    all_goals
                      go_wp2_with fail
                      go_roundw
                      case rel => exact ⟨x + 1, N, by omega, by go_num, HCN.out, by omega, rfl, hB2⟩
                      case measure => simp [intOf]; omega
                  · have hb : (y.toList == d.toList) = false := bytes_ne he
                    have cy := fun V => Fr.fSum_w y V (by omega)
                    by_cases hq : lowO y = low
                    · rw [if_pos ⟨hi, he, hq.trans HLOW.out⟩] at hcn
                      have HCN := Lib.hid hcn.symm
                      unfold lowO at hq
                      have hXl := Fm.fsum_lt y.data.toList
                      generalize Fm.fsum y.data.toList = X at cy hq hXl
                      have hbq : ((X : Int) % 256 == (low : Int)) = true := by simp; omega
                      clear hcn htk hBB hi hB he hq
                      go_wp2_with fail
                      refine Rg.wp_only ?_ (regSum _ (by kernel_rfl) _ bk off n c i low x X _ y d wr (by omega) (by omega) hXl hb hbq gy gd cy)
                      rintro _ w9 ⟨rfl, rfl⟩
                      go_wp2_with fail
                      go_roundw
                      case rel => exact ⟨x + 1, N + 1, by omega, by go_num, HCN.out, by omega, by go_num, hB2⟩
                      case measure => simp [intOf]; omega
                    · rw [if_neg (fun hh => hq (hh.2.2.trans HLOW.out.symm))] at hcn
                      have HCN := Lib.hid hcn.symm
                      unfold lowO at hq
                      have hXl := Fm.fsum_lt y.data.toList
                      generalize Fm.fsum y.data.toList = X at cy hq hXl
                      have hbq : ((X : Int) % 256 == (low : Int)) = false := by simp; omega
                      clear hcn htk hBB hi hB he hq
                      go_wp2_with fail
                      refine Rg.wp_only ?_ (regSum _ (by kernel_rfl) _ bk off n c i low x X _ y d wr (by omega) (by omega) hXl hb hbq gy gd cy)
                      rintro _ w9 ⟨rfl, rfl⟩
                      go_wp2_with fail
                      go_roundw
                      case rel => exact ⟨x + 1, N, by omega, by go_num, HCN.out, by omega, rfl, hB2⟩
                      case measure => simp [intOf]; omega
          · obtain rfl : mm = i := by omega
            have hx1 : (low : Int) / 16 + 1 ≤ 16 := by omega
            have hx2 : (low : Int) % 16 + 1 ≤ 16 := by omega
            have hx3 : 0 ≤ (low : Int) / 16 := by omega
            have hx4 : 0 ≤ (low : Int) % 16 := by omega
            have hH := head_is low hl256
            unfold hexB at hH
            obtain ⟨H, hHe⟩ : ∃ H, H = grp low := ⟨_, rfl⟩
            rw [← hHe] at hH
            have hHs : H.size = 5 := by rw [hHe]; rfl
            have hKQ : KX = keyN low q := by rw [HQ.out, HLOW.out]
            have hKs : 5 < KX.size := by rw [hKQ]; exact key_len low
            have hKm : KX.size ≤ 14 := by rw [hKQ]; exact keyN_size low (by have := HQ1.out; have := List.length_take_le mm l; omega)
            have hpre : KX.extract 0 5 = H := by rw [hKQ, hHe]; exact key_pre low q
            rw [← hHs] at hpre
            have HFRN := Lib.hid (show inL (l.take mm) d = false → KX = H ++ decB N from fun hi => by
              rw [HFR.out (fun hm => by rw [inL_iff.2 hm] at hi; cases hi), ← hN.out, hHe, HLOW.out]
              rfl)
            have hle : ¬ (KX.size : Int) ≤ (H.size : Int) := by omega
            have hle2 : (H.size : Int) ≤ (KX.size : Int) := by omega
            have hbH : (H.toList == H.toList) = true := beq_self_eq_true _
            have hNb : N ≤ 120 := by omega
            have HHS := Lib.hid hHs
            have hB2 := Tx.below_call hB (Below.refl _ wr).drew
            clear hHe hKQ hKs hN hHs HFR HQ HQ1 hlm hB
            go_wp2_with fail
            go_region
            all_goals
              try rw [hH]
              clear hH
              go_wp2_with fail
              go_loopw [13, 14] (fun bv xv wr2 => ∃ (x : Nat) (B : Bool), x ≤ mm ∧ xv = .int .i64 x ∧ bv = .bool B ∧ Hid (B = !inL (l.take x) d) ∧ Below w3.heap.size w3 wr2) (fun _ xv _ => mm - (intOf xv).toNat)
              case atStart => exact ⟨0, true, Nat.zero_le _, rfl, rfl, rfl, hB2⟩
              case round =>
                clear hB2
                obtain ⟨x, B, hxm, rfl, rfl, hBB, hB⟩ := hrel
                by_cases hlx : x < mm
                · obtain ⟨z, hz⟩ : ∃ z, l[x]? = some z := ⟨_, List.getElem?_eq_getElem (by rw [HL.out]; omega)⟩
                  have hxz : (x : Int) < (mm : Int) := by omega
                  have hxn : (x : Int) < (n : Int) := by omega
                  have gz := Strs.at1 (HB3.out _ hB) hz
                  have gd := Strs.at1 (HB3.out _ hB) HD.out
                  have htk := take_snoc hz
                  have hin := inL_snoc (l.take x) z d
                  rw [← htk] at hin
                  have hB2 := Tx.below_call hB (Below.refl _ wr).drew
                  cases B
                  · have HBN := Lib.hid (show false = !inL (l.take (x + 1)) d by
                      have := hBB.out
                      rw [hin]
                      cases h : inL (l.take x) d <;> simp [h] at this ⊢)
                    clear hin htk hz hBB
                    go_wp2_with fail
                    go_region
                    all_goals
                      go_wp2_with fail
                      go_roundw
                      case rel => exact ⟨x + 1, false, by omega, by go_num, rfl, HBN.out, hB2⟩
                      case measure => simp [intOf]; omega
                  · by_cases he : z = d
                    · have hb : (z.toList == d.toList) = true := by rw [he]; exact beq_self_eq_true _
                      have HBN := Lib.hid (show false = !inL (l.take (x + 1)) d by rw [hin]; simp [he])
                      clear hin htk hz hBB he
                      go_wp2_with fail
                      go_region
                      all_goals
                        go_wp2_with fail
                        go_roundw
                        case rel => exact ⟨x + 1, false, by omega, by go_num, rfl, HBN.out, hB2⟩
                        case measure => simp [intOf]; omega
                    · have hb : (z.toList == d.toList) = false := bytes_ne he
                      have HBN := Lib.hid (show true = !inL (l.take (x + 1)) d by
                        have := hBB.out
                        rw [hin]
                        cases h : inL (l.take x) d <;> simp [h, he] at this ⊢)
                      clear hin htk hz hBB he
                      go_wp2_with fail
                      go_region
                      all_goals
                        go_wp2_with fail
                        go_roundw
                        case rel => exact ⟨x + 1, true, by omega, by go_num, rfl, HBN.out, hB2⟩
                        case measure => simp [intOf]; omega
                · obtain rfl : x = mm := by omega
                  have o9 := o3.below hB
                  clear o3 hB hlx hle hle2 hbH hpre
                  cases B
                  · clear HFRN
                    go_wp2_with fail
                    go_roundw
                    case rel => exact ⟨x + 1, _, by omega, by go_num, o9⟩
                    case measure => simp [intOf]; omega
                  · have hKN : KX = H ++ decB N := HFRN.out (by
                      have := hBB.out
                      cases h : inL (l.take x) d <;> simp [h] at this ⊢)
                    have cd := dec_any N wr (by omega)
                    have hsd := decB_size (n := N) (by omega)
                    have hsum : H.size + (decB N).size ≤ 9223372036854775807 := by have := HHS.out; omega
                    have hbK : (KX.toList == (H ++ decB N).toList) = true := by rw [hKN]; exact beq_self_eq_true _
                    clear hKN HFRN
                    go_wp2_with fail
                    go_at_call 29
                    refine cd.mono ?_
                    rintro e w4 ⟨rfl, hb4⟩
                    have o10 := o9.below hb4
                    clear cd o9 hb4
                    go_wp2_with fail
                    go_roundw
                    case rel => exact ⟨x + 1, _, by omega, by go_num, o10⟩
                    case measure => simp [intOf]; omega
      · obtain rfl : i = n := by omega
        go_wp2_with fail
        go_ret
        exact ⟨rfl, o.bel⟩
  · have hnz : (120 : Int) < (n : Int) := by omega
    go_wp2_with fail
    go_at_call 9
    refine (awake_any8 w1 w1 (Below.refl _ _) (HT.out.below hb1)).mono ?_
    rintro e w2 ⟨rfl, hb2⟩
    have hB2 := Tx.below_call hb1 hb2
    go_wp2_with fail
    go_at_call 9
    refine (awake_any8 w2 w2 (Below.refl _ _) (HT.out.below hB2)).mono ?_
    rintro e w3 ⟨rfl, hb3⟩
    go_wp2_with fail
    go_ret
    exact ⟨rfl, Tx.below_call hB2 hb3⟩
theorem tab_of {W : World} (h : laidMetH Tryz.prog Rows.blobKeysRow.laid W) : Tab W := tab_laid h
theorem own : ownKnob Tryz.prog.godebug = none := by kernel_rfl
theorem laidOut : laidOutB Tryz.prog = true := by kernel_rfl
set_option maxRecDepth 100000 in
theorem contract (H : Type) (enc : TypeId × Value → H) (W : World) (base : Nat) (args : Array Value) (ds gs : List (DataW H)) (before : List MemPlace)
    (hval0 : ∀ (j : Nat) t v, Tryz.f7.params[j]? = some t → args[j]? = some v → Value.okWide Tryz.prog W .any base t v)
    (hW : DataW.Whole enc Tryz.prog Tryz.f7.params.toList Rows.blobKeysSpec.vars false W args.toList ds gs before)
    (hsz0 : (DataW.weightsEach Tryz.prog (Tryz.f7.params.toList ++ Rows.blobKeysSpec.plain.varTypes Tryz.prog) (ds ++ gs)).all (· ≤ reachBytes) = true)
    (hL : laidMetH Tryz.prog Rows.blobKeysRow.laid W) :
    Calls Tryz.prog 7 args W fun e W' => ∃ v, e = .returned v ∧ Rows.blobKeysSpec.post enc Tryz.prog Tryz.f7 false true false false W args v W' := by
  have hval : ∀ (j : Nat) t v, Tryz.f7.params[j]? = some t → args[j]? = some v → Value.okWide Tryz.prog W .any base t v := hval0
  have hsz := hsz0
  clear hsz0
  have hW' := hW
  obtain ⟨p, q, hA0, hV, rfl, hfz, hnd⟩ := hW
  have hA : DataW.TrodAll enc Tryz.prog W 0 (fun _ => true) true Tryz.f7.params.toList args.toList ds p := hA0
  rw [Tryz.params7] at hA hval hsz
  obtain ⟨v0, vs0, d0, ds0, p0, q0, hargs, rfl, rfl, h0, r0⟩ := trodAll_cons hA
  obtain ⟨rfl, rfl, rfl⟩ := trodAll_nil r0
  obtain rfl : args = #[v0] := by cases args; simp_all
  obtain ⟨rfl, rfl⟩ := trodVars_none hV
  obtain ⟨A0, n0, c0, rfl⟩ := okWide_slice Tryz.underlying38 (hval 0 38 v0 rfl rfl)
  have k0 := h0
  have lt0 : ∀ x ∈ p0, x.block < W.heap.size := by obtain ⟨m, hm⟩ := k0; exact DataW.trod_lt m _ _ _ hm
  clear hA0 hval0
  obtain ⟨l0, hS0, _, _, hc0, hm0, hwd⟩ := arg_texts k0
  have hw0 : Wide1 l0 := hwd hsz (j := 0) rfl rfl
  refine (walk A0 n0 c0 l0 W hS0 hw0 hc0 (tab_of hL)).mono fun e W' ⟨he, bel⟩ => ?_
  subst he
  exact ⟨_, rfl, _, _, _, [], _, [], hW', trodAll_mk1 (shut_bool Tryz.underlying4 _), (trodAll_cons_mk (Below.trod laidOut (by kernel_rfl) (of_decide_eq_true (by kernel_rfl)) k0 bel lt0) trodAll_mk0), rfl, bel.frame _, fun h => by cases h⟩
theorem door_met (os : Os) : laidMetH Tryz.prog Rows.blobKeysRow.laid ((World.doorLaid Tryz.prog 400 os).forCall (fun _ _ => 0) ⟨#[], #[.slice none 0 0], []⟩).memory :=
  laidMetH_of_parts3 (fuel := 8) (laidMet_of_run' 8 (by kernel_rfl) (by kernel_rfl)) (by kernel_rfl) (by kernel_rfl)
theorem reads (os : Os) {H : Type} (enc : TypeId × Value → H) : ∃ places, DataW.whole enc Tryz.prog ((World.doorLaid Tryz.prog 400 os).forCall (fun _ _ => 0) ⟨#[], #[.slice none 0 0], []⟩).memory Tryz.f7.params.toList Rows.blobKeysSpec.vars false (#[.slice none 0 0] : Array Value).toList 8 = some ([.nil], [], places) :=
  ⟨[], by kernel_rfl⟩
set_option maxRecDepth 100000 in
theorem lifted (os : Os) (started : os.Started) (H : Type) (enc : TypeId × Value → H) (F : Stop.Interp) :
    ReturnsInHanded {} Tryz.checked os 7 .any ((OpenSpec.ofChange Rows.blobKeysSpec).preRow enc Tryz.prog Tryz.f7 Rows.blobKeysRow.domain false Rows.blobKeysRow.laid) (((OpenSpec.ofChange Rows.blobKeysSpec).at F).post enc Tryz.prog Tryz.f7 false true false false) := by
  obtain ⟨places, hx⟩ := reads os enc
  refine returnsInHanded_of_row (C := Tryz.checked) (s := (OpenSpec.ofChange Rows.blobKeysSpec)) own started (by kernel_rfl) Tryz.func7
    (witness_row_at (enc := enc) (C := Tryz.checked) false (World.doorLaid Tryz.prog 400 os) #[.slice none 0 0] rfl (by kernel_rfl) (by kernel_rfl) (by kernel_rfl)
      (OpenSpec.preRow_of_cond 8 hx (by kernel_rfl) (fun k hk => by cases hk) (by kernel_rfl) (door_met os))) ?_
  intro W base args ds gs before hval hW _ hcond hsz0 hL _ _
  exact contract H enc W base args ds gs before hval hW hsz0 hL
theorem over : Rows.blobKeysRow.holds Tryz.pinned (OpenSpec.ofChange Rows.blobKeysSpec) :=
  OpenClaim.holds_of_cond 7 Tryz.f7 rfl rfl rfl rfl rfl rfl rfl ⟨rfl, rfl, rfl, rfl, rfl⟩ rfl rfl rfl rfl rfl (by kernel_rfl) Tryz.func7 (by kernel_rfl)
    (of_decide_eq_true (by kernel_rfl)) (by unfold Func.isWrapper; first | (rw [if_pos (by decide +kernel)]; kernel_rfl) | (rw [if_neg (by decide +kernel)]; exact ⟨rfl, rfl⟩))
    (fun os started H enc _ F => by rw [OpenClaim.pre_eq_preRow]; exact lifted os started H enc F)
theorem plain (f : FuncId) (fn : Func) (hf : Tryz.pinned.checked.prog.funcNamed "tether/tetherlaw08.BlobKeys" = some f) (hfn : Tryz.pinned.checked.prog.funcs[f]? = some fn) :
    false = Tryz.pinned.checked.prog.looks [] ∧ ∀ (j : Nat) t, fn.params[j]? = some t → Tryz.pinned.checked.prog.wantsStandIn t = false := by
  obtain rfl : f = 7 := Option.some.inj ((show Tryz.prog.funcNamed "tether/tetherlaw08.BlobKeys" = some 7 by kernel_rfl).symm.trans hf) |>.symm
  obtain rfl : fn = Tryz.f7 := (Option.some.inj (Tryz.func7.symm.trans hfn)).symm
  refine ⟨by kernel_rfl, fun j t ht => ?_⟩
  rw [Tryz.params7] at ht
  have hm : t ∈ [38] := by simpa using Array.mem_of_getElem? ht
  have hall : ([38].all fun u => !Tryz.prog.wantsStandIn u) = true := by kernel_rfl
  exact (show Tryz.prog.wantsStandIn t = false by simpa using List.all_eq_true.1 hall t hm)
theorem card : Rows.BlobKeysCardSaid :=
  Claim7.holds_tied_plain_at .later [] _ _ _ _ over (fun _ h => by cases h) (by kernel_rfl) (fun _ h => by cases h) blobKeys_row_tie rfl ⟨rfl, rfl⟩ (by kernel_rfl) rfl plain (by kernel_rfl)
end Go.Proofs.YthejpojmmokinaaGreatDoor.blobKeys
namespace Go.Proofs.YthejpojmmokinaaGreatDoor
theorem blobKeysCard_holds : Rows.BlobKeysCardSaid := blobKeys.card
#print axioms blobKeysCard_holds
end Go.Proofs.YthejpojmmokinaaGreatDoor
