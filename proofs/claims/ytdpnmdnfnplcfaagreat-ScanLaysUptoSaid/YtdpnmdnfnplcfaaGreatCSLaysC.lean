/-
  ScanLays, of the landed code: a volume that is made to hold a tree is walked as that tree, whatever stood there, and survives every loss; other volumes stay; what is alike is not written again. Condition: the bound of the second form (the trees and the loss hold at most 1048576 values and letters).
-/
import Derived.Test.YtdpnmdnfnplcfaaGreatT6
import Derived.RangeFuncNested
import Derived.RangeFuncBound
import Derived.RangeFuncCalls
import Derived.RangeFuncLeaves
import Derived.Shelf.Abstract
import Derived.Shelf.RegionOpen
import Derived.WalkKit
import Derived.OwnWalkIn
import Derived.TacticsInMore
import Derived.LoopNIn
import Derived.LoopIn
import Derived.ProofKit
import Derived.OpenShut
import Derived.ShutString
import Derived.Deep.Slices
import Derived.Deep.Fields
import Derived.ChangeSame
import Derived.Shelf.SlSorted.Search
import Derived.Test.YtdpnmdnfnplcfaaGreatProg
import Derived.OrdersIn
import Derived.TacticsIn
import Derived.Deep.QuietTactic
import Derived.BigQuiet
import Derived.Test.YtdpnmdnfnplcfaaGreatRows
import Derived.JoinedCond
import Derived.SizedLaws
import Derived.ChangeOld
import Derived.Deep.CondSized
namespace Go.Proofs.YtdpnmdnfnplcfaaGreat.Sc
open Go.RowKit Tx Pm Pl Pr Dk
set_option linter.unusedVariables false
def Nx (b : Nat) (w : World) (F : Nat → Prop) (s : St) (w' : World) : Prop := ImpAt b w' F s ∧ Chg F w w'
theorem nx_of {b bi bl : Nat} {w w' : World} {F : Nat → Prop} {s : St} (hg : Dk.Good s) (hF : ∀ i, F i ↔ Ft b bi bl i) (h : Ip b bi bl w s w') : Nx b w F s w' := by
  obtain ⟨l, h1, h2⟩ := h
  exact ⟨⟨bi, bl, l, h1, hg, hF⟩, h2.mono (fun i hi => (hF i).2 hi)⟩
theorem Nx.after {b : Nat} {w w1 w' : World} {F : Nat → Prop} {s : St} (h : Nx b w1 F s w') (hb : Below w.heap.size w w1) : Nx b w F s w' := ⟨h.1, (Chg.of_below hb).then h.2⟩
theorem Nx.then {b : Nat} {w w1 w' : World} {F : Nat → Prop} {s s1 : St} (h : Nx b w F s1 w1) (k : Nx b w1 F s w') : Nx b w F s w' := ⟨k.1, h.2.then k.2⟩
theorem nx_below {b : Nat} {w w' : World} {F : Nat → Prop} {s : St} (h : ImpAt b w F s) (hb : Below w.heap.size w w') : Nx b w F s w' := ⟨imp_below h hb, Chg.of_below hb⟩
section
variable {b : Nat} {w : World} {F : Nat → Prop} {s : St}
theorem nx_mkdir {p : ByteArray} (h : ImpAt b w F s) (ok : Ok s) (hp : p.size ≤ 8000000000000) : Calls Tryz.prog 27 #[.pointer (some ⟨b, 0, none⟩), .string p] w fun e w' => e = .returned (.int .i64 ((mkdirS s p).1 : Nat)) ∧ Nx b w F (mkdirS s p).2 w' := by
  obtain ⟨bi, bl, l, hI, hg, hF⟩ := h
  exact (iMkdir_any b bi bl l _ p _ hI hg ok hp).mono fun e w' ht => ⟨ht.1, nx_of (good_mkdir hg) hF ht.2⟩
theorem nx_write {p q : ByteArray} (h : ImpAt b w F s) (ok : Ok s) (hp : p.size ≤ 8000000000000) (hq : q.size ≤ 1000000000000000000) : Calls Tryz.prog 28 #[.pointer (some ⟨b, 0, none⟩), .string p, .string q] w fun e w' => e = .returned (.int .i64 ((writeS s p q).1 : Nat)) ∧ Nx b w F (writeS s p q).2 w' := by
  obtain ⟨bi, bl, l, hI, hg, hF⟩ := h
  exact (iWrite_any b bi bl l _ p q _ hI hg ok hp hq).mono fun e w' ht => ⟨ht.1, nx_of (good_write hg) hF ht.2⟩
theorem nx_sync {p : ByteArray} (h : ImpAt b w F s) (ok : Ok s) (hp : p.size ≤ 8000000000000) : Calls Tryz.prog 99 #[.pointer (some ⟨b, 0, none⟩), .string p] w fun e w' => e = .returned (.int .i64 ((syncS s p).1 : Nat)) ∧ Nx b w F (syncS s p).2 w' := by
  obtain ⟨bi, bl, l, hI, hg, hF⟩ := h
  exact (iSync_any b bi bl l _ p _ hI hg ok hp).mono fun e w' ht => ⟨ht.1, nx_of (good_sync hg) hF ht.2⟩
theorem nx_remove {p : ByteArray} (h : ImpAt b w F s) (ok : Ok s) (hp : p.size ≤ 8000000000000) : Calls Tryz.prog 31 #[.pointer (some ⟨b, 0, none⟩), .string p] w fun e w' => e = .returned (.int .i64 ((removeS s p).1 : Nat)) ∧ Nx b w F (removeS s p).2 w' := by
  obtain ⟨bi, bl, l, hI, hg, hF⟩ := h
  exact (iRemove_any b bi bl l _ p _ hI hg ok hp).mono fun e w' ht => ⟨ht.1, nx_of (good_remove hg) hF ht.2⟩
end
theorem node_same (K : Int) (D : ByteArray) (W : World) : (binOp .eql 52 (.agg #[.int .i64 K, .string D]) (.agg #[.int .i64 K, .string D])).run Tryz.prog W = .ok (.bool true) W := by
  go_simp
theorem node_other {K K2 : Int} {D D2 : ByteArray} (h : ¬ (K = K2 ∧ D = D2)) (W : World) : (binOp .eql 52 (.agg #[.int .i64 K, .string D]) (.agg #[.int .i64 K2, .string D2])).run Tryz.prog W = .ok (.bool false) W := by
  by_cases h1 : K = K2
  · have h2 : (D.toList == D2.toList) = false := bytes_ne (fun e => h ⟨h1, e⟩)
    go_simp
  · have h2 : (K == K2) = false := beq_eq_false_iff_ne.2 h1
    go_simp
set_option maxRecDepth 100000 in
set_option maxHeartbeats 2000000 in
theorem put_dir {b : Nat} {w : World} {F : Nat → Prop} {s : St} {p D : ByteArray} (h : ImpAt b w F s) (ok : Ok s) (hp : p.size ≤ 8000000000000) :
    Calls Tryz.prog 55 #[.pointer (some ⟨b, 0, none⟩), .string p, .agg #[.int .i64 1, .string D]] w fun e w' => e = .returned (.int .i64 ((mkdirS s p).1 : Nat)) ∧ Nx b w F (mkdirS s p).2 w' := by
  have hB : Below w.heap.size w (w.alloc (.cells #[.int .i64 1, .string D] 52)) := (Below.refl _ _).alloc (Nat.le_refl _) _
  have c := nx_mkdir (p := p) (imp_below h hB) ok hp
  have HB := Lib.hid hB
  clear h ok hB
  go_enter Tryz.func55, Tryz.ntmps55
  go_wp2_with fail
  go_at_call 27
  refine c.mono ?_
  rintro e w1 ⟨rfl, h1⟩
  have H1 := Lib.hid h1
  clear h1 c
  go_wp2_with fail
  go_ret
  exact ⟨rfl, H1.out.after HB.out⟩
set_option maxRecDepth 100000 in
set_option maxHeartbeats 2000000 in
theorem put_same {b : Nat} {w : World} {F : Nat → Prop} {s : St} {p D : ByteArray} (h : ImpAt b w F s) (hp : p.size ≤ 8000000000000) (hk : Dk.kind s.L p = 2) (hd : (readS s p).1 = D) :
    Calls Tryz.prog 55 #[.pointer (some ⟨b, 0, none⟩), .string p, .agg #[.int .i64 2, .string D]] w fun e w' => e = .returned (.int .i64 0) ∧ Below w.heap.size w w' := by
  have hB : Below w.heap.size w (w.alloc (.cells #[.int .i64 2, .string D] 52)) := (Below.refl _ _).alloc (Nat.le_refl _) _
  have hN : (w.alloc (.cells #[.int .i64 2, .string D] 52)).heap[w.heap.size]? = some (.cells #[.int .i64 2, .string D] 52) := heap_alloc_new _ _
  have c := fun W (hW : Below w.heap.size w W) => stands_at (p := p) (imp_below h hW) hp
  rw [hk, hd] at c
  have HB := Lib.hid hB
  have HN := Lib.hid hN
  have C : Hid (∀ W, (Below w.heap.size w W ∧ W.heap[w.heap.size]? = some (.cells #[.int .i64 2, .string D] 52)) → Calls Tryz.prog 48 #[.pointer (some ⟨b, 0, none⟩), .string p] W fun e w' => e = .returned (.agg #[.int .i64 ((2 : Nat) : Int), .string D]) ∧ (Below w.heap.size w w' ∧ w'.heap[w.heap.size]? = some (.cells #[.int .i64 2, .string D] 52))) := fun W hW =>
    (c W hW.1).mono fun e w' h2 => ⟨h2.1, hW.1.trans (h2.2.mono hW.1.size), (h2.2.block _ (Array.getElem?_eq_some_iff.1 hW.2).1).trans hW.2⟩
  clear h hB hN c hk hd
  go_enter Tryz.func55, Tryz.ntmps55
  go_wp2_with fail
  refine Rg.wp_only ?_ (putReg _ (by kernel_rfl) _ w.heap.size 2 p D D 2 true _ _ (fun W => Below w.heap.size w W ∧ W.heap[w.heap.size]? = some (.cells #[.int .i64 2, .string D] 52)) (fun W hW => by obtain ⟨a1, a2, _⟩ := cells_twoS hW.2; exact ⟨a1, a2⟩) ⟨HB.out.drew, HN.out⟩ (fun W => node_same 2 D W) C.out)
  rintro _ w1 ⟨rfl, h1, _⟩
  have H1 := Lib.hid h1
  clear h1
  go_wp2_with fail
  go_ret
  exact ⟨rfl, H1.out⟩
set_option maxRecDepth 100000 in
set_option maxHeartbeats 2000000 in
theorem put_file {b : Nat} {w : World} {F : Nat → Prop} {s : St} {p D : ByteArray} (h : ImpAt b w F s) (ok : Ok s) (hp : p.size ≤ 8000000000000) (hq : D.size ≤ 1000000) (hne : ¬ (((Dk.kind s.L p : Nat) : Int) = 2 ∧ (readS s p).1 = D)) (h1 : (writeS s p D).1 = 0) (ok1 : Ok (writeS s p D).2) :
    Calls Tryz.prog 55 #[.pointer (some ⟨b, 0, none⟩), .string p, .agg #[.int .i64 2, .string D]] w fun e w' => e = .returned (.int .i64 ((syncS (writeS s p D).2 p).1 : Nat)) ∧ Nx b w F (syncS (writeS s p D).2 p).2 w' := by
  have hB : Below w.heap.size w (w.alloc (.cells #[.int .i64 2, .string D] 52)) := (Below.refl _ _).alloc (Nat.le_refl _) _
  have hN : (w.alloc (.cells #[.int .i64 2, .string D] 52)).heap[w.heap.size]? = some (.cells #[.int .i64 2, .string D] 52) := heap_alloc_new _ _
  have c := fun W (hW : Below w.heap.size w W) => stands_at (p := p) (imp_below h hW) hp
  have HB := Lib.hid hB
  have HN := Lib.hid hN
  have C : Hid (∀ W, (Below w.heap.size w W ∧ W.heap[w.heap.size]? = some (.cells #[.int .i64 2, .string D] 52)) → Calls Tryz.prog 48 #[.pointer (some ⟨b, 0, none⟩), .string p] W fun e w' => e = .returned (.agg #[.int .i64 ((Dk.kind s.L p : Nat) : Int), .string (readS s p).1]) ∧ (Below w.heap.size w w' ∧ w'.heap[w.heap.size]? = some (.cells #[.int .i64 2, .string D] 52))) := fun W hW =>
    (c W hW.1).mono fun e w' h2 => ⟨h2.1, hW.1.trans (h2.2.mono hW.1.size), (h2.2.block _ (Array.getElem?_eq_some_iff.1 hW.2).1).trans hW.2⟩
  have CW : Hid (∀ W, Below w.heap.size w W → Calls Tryz.prog 28 #[.pointer (some ⟨b, 0, none⟩), .string p, .string D] W fun e w' => e = .returned (.int .i64 0) ∧ Nx b W F (writeS s p D).2 w') := fun W hW => by
    have := nx_write (p := p) (q := D) (imp_below h hW) ok hp (by omega)
    rw [h1] at this
    exact this
  have CS : Hid (∀ W, ImpAt b W F (writeS s p D).2 → Calls Tryz.prog 99 #[.pointer (some ⟨b, 0, none⟩), .string p] W fun e w' => e = .returned (.int .i64 ((syncS (writeS s p D).2 p).1 : Nat)) ∧ Nx b W F (syncS (writeS s p D).2 p).2 w') := fun W hW => nx_sync hW ok1 hp
  have HNE := Lib.hid hne
  clear h hB hN c h1 ok ok1 hne
  go_enter Tryz.func55, Tryz.ntmps55
  go_wp2_with fail
  refine Rg.wp_only ?_ (putReg _ (by kernel_rfl) _ w.heap.size (Dk.kind s.L p) p D (readS s p).1 2 false _ _ (fun W => Below w.heap.size w W ∧ W.heap[w.heap.size]? = some (.cells #[.int .i64 2, .string D] 52)) (fun W hW => by obtain ⟨a1, a2, _⟩ := cells_twoS hW.2; exact ⟨a1, a2⟩) ⟨HB.out.drew, HN.out⟩ (fun W => node_other HNE.out W) C.out)
  rintro _ w1 ⟨rfl, h1, h2⟩
  obtain ⟨d0, d1, d2⟩ := cells_twoS h2
  have H1 := Lib.hid h1
  clear h1 h2
  go_wp2_with fail
  go_at_call 28
  refine (CW.out _ H1.out).mono ?_
  rintro e w2 ⟨rfl, h2⟩
  have H2 := Lib.hid h2
  clear h2 d0 d1 d2
  go_wp2_with fail
  go_at_call 99
  refine (CS.out _ H2.out.1).mono ?_
  rintro e w3 ⟨rfl, h3⟩
  have H3 := Lib.hid h3
  clear h3
  go_wp2_with fail
  go_ret
  exact ⟨rfl, (H2.out.then H3.out).after H1.out⟩
end Go.Proofs.YtdpnmdnfnplcfaaGreat.Sc

namespace Go.Proofs.YtdpnmdnfnplcfaaGreat.Sc
open Go.RowKit Go.Shelf Tx Pm Pr Dk
set_option linter.unusedVariables false
attribute [local go_sem] Oper.semAt_some
def down (N k : Nat) : List Nat := (List.range k).map fun j => N - 1 - j
theorem down_succ (N k : Nat) : down N (k + 1) = down N k ++ [N - 1 - k] := by simp [down, List.range_succ]
theorem down_length (N k : Nat) : (down N k).length = k := by simp [down]
def KpF (n₀ : Nat) (Fd : Nat → Prop) (A B : World) : Prop := A.heap.size ≤ B.heap.size ∧ ∀ q, q < n₀ → ¬ Fd q → B.heap[q]? = A.heap[q]?
theorem KpF.trans {n₀ : Nat} {Fd : Nat → Prop} {A B C : World} (h : KpF n₀ Fd A B) (k : KpF n₀ Fd B C) : KpF n₀ Fd A C := ⟨Nat.le_trans h.1 k.1, fun q hq hn => (k.2 q hq hn).trans (h.2 q hq hn)⟩
theorem KpF.refl (n₀ : Nat) (Fd : Nat → Prop) (A : World) : KpF n₀ Fd A A := ⟨Nat.le_refl _, fun _ _ _ => rfl⟩
theorem KpF.cell {n₀ : Nat} {Fd : Nat → Prop} {A B : World} (h : KpF n₀ Fd A B) {q k : Nat} (hq : q < n₀) (hn : ¬ Fd q) : B.cell? ⟨q, k, none⟩ = A.cell? ⟨q, k, none⟩ := World.cell?_of_block (a := ⟨q, k, none⟩) (h.2 q hq hn)
def EtsB (n₀ : Nat) (Fd : Nat → Prop) (W : World) (a : Option Addr) (N : Nat) (E : Nat → En.Et) : Prop := N = 0 ∨ ∃ g off, a = some ⟨g, off, none⟩ ∧ g < n₀ ∧ ¬ Fd g ∧ ∀ j, j < N →
  W.cell? ⟨g, off + j * 3, none⟩ = some (.string (E j).path) ∧ W.cell? ⟨g, off + j * 3 + 1, none⟩ = some (.int .i64 (E j).node.kind) ∧ W.cell? ⟨g, off + j * 3 + 2, none⟩ = some (.string (E j).node.data)
set_option maxRecDepth 100000 in
set_option maxHeartbeats 4000000 in
theorem back1_in (F : Fence) (n : Nat) (hf : F.fn 96) (hro : F.round = none) (hn : 1 ≤ n) (l Bs n₀ N cap : Nat) (a : Option Addr) (E : Nat → En.Et) (Fd : Nat → Prop) (hN : N ≤ 1000000) (J Jx : List Nat → World → Prop)
    (hY : ∀ (pre : List Nat) (x : Nat) (W : World), J pre W → pre.length < N → YieldAt F (n - 1) Tryz.prog l #[.int .i64 (x : Int), .agg #[.string (E x).path, .int .i64 (E x).node.kind, .string (E x).node.data]] W fun e W' =>
      (e = .returned (.bool true) ∧ J (pre ++ [x]) W' ∧ KpF n₀ Fd W W') ∨ (e = .returned (.bool false) ∧ Jx (pre ++ [x]) W'))
    (W : World) (hBn : Bs < n₀) (hBf : ¬ Fd Bs) (hBs : W.cell? ⟨Bs, 0, none⟩ = some (.slice a N cap)) (hS : EtsB n₀ Fd W a N E) (h0 : J [] W) :
    CallsIn F n Tryz.prog 96 #[.func (.yield l) #[] #[], .pointer (some ⟨Bs, 0, none⟩)] W fun e W' => (∃ v, e = .returned v) ∧
      ((∃ ys, ys = down N N ∧ J ys W') ∨ (∃ pre, (∃ k, k ≤ N ∧ pre = down N k) ∧ Jx pre W')) := by
  have HS := Lib.hid hS
  have HBS : Hid (∀ X, KpF n₀ Fd W X → X.cell? ⟨Bs, 0, none⟩ = some (.slice a N cap)) := fun X hX => (hX.cell hBn hBf).trans hBs
  clear hS
  refine callsIn_of_wp Tryz.func96 rfl hf ?_ hro
  simp only [Tryz.ntmps96, List.size_toArray, List.length_cons, List.length_nil, Nat.reduceAdd, Nat.reduceSub, Array.replicate_succ, Array.replicate_zero, List.push_toArray, List.append_toArray, List.nil_append, List.cons_append]
  gi_wp2
  gi_loopw [3] (fun i wr => ∃ k : Nat, k ≤ N ∧ i = .int .i64 ((N : Int) - 1 - (k : Int)) ∧ J (down N k) wr ∧ KpF n₀ Fd W wr) (fun i _ => ((intOf i) + 1).toNat)
  case atStart => exact ⟨0, Nat.zero_le _, by go_num, h0, KpF.refl _ _ _⟩
  case round =>
    obtain ⟨k, hk, rfl, hJ, hK⟩ := hrel
    have hbx := HBS.out _ hK
    by_cases hlt : k < N
    · obtain ⟨g, off, rfl, hg, hgf, hc⟩ := HS.out.resolve_left (by omega)
      obtain ⟨x, hx⟩ : ∃ x, x = N - 1 - k := ⟨_, rfl⟩
      have hxz : (N : Int) - 1 - (k : Int) = (x : Int) := by omega
      obtain ⟨c0, c1, c2⟩ := hc x (by omega)
      have d0 := (hK.cell (k := off + x * 3) hg hgf).trans c0
      have d1 := (hK.cell (k := off + x * 3 + 1) hg hgf).trans c1
      have d2 := (hK.cell (k := off + x * 3 + 2) hg hgf).trans c2
      obtain ⟨fn, tmps, assign, body, hy, hR⟩ := hY _ x wr hJ (by rw [down_length]; exact hlt)
      have hxn : (x : Int) < (N : Int) := by omega
      have hx0 : (0 : Int) ≤ (x : Int) := by omega
      have hdn := down_succ N k
      rw [← hx] at hdn
      rw [hxz]
      clear hc c0 c1 c2 hBs hx
      gi_wp2
      refine hR.mono ?_
      rintro e W3 (⟨rfl, hJ3, hk3⟩ | ⟨rfl, hJx3⟩)
      · gi_wp2
        go_roundw
        case rel => exact ⟨k + 1, by omega, by go_num, by rw [hdn]; exact hJ3, hK.trans hk3⟩
        case measure => simp only [intOf]; omega
      · gi_wp2
        refine bodyPost_ret (results_none rfl _ _ _) rfl ?_
        exact ⟨⟨_, rfl⟩, .inr ⟨_, ⟨k + 1, by omega, hdn.symm⟩, hJx3⟩⟩
    · obtain rfl : k = N := by omega
      have hxz : (k : Int) - 1 - (k : Int) = -1 := by omega
      rw [hxz]
      gi_wp2
      go_end0
      exact ⟨⟨_, rfl⟩, .inl ⟨_, rfl, hJ⟩⟩
set_option maxRecDepth 100000 in
set_option maxHeartbeats 1000000 in
theorem back_in (F : Fence) (n : Nat) (hf : F.fn 52) (hro : F.round = none) (a : Option Addr) (len cap : Nat) (w : World) :
    CallsIn F n Tryz.prog 52 #[.slice a len cap] w fun e w' => e = .returned (.func (.func 96) #[] #[.pointer (some ⟨w.heap.size, 0, none⟩)]) ∧ w' = w.alloc (.cells #[.slice a len cap] 32) := by
  refine callsIn_of_wp Tryz.func52 rfl hf ?_ hro
  simp only [Tryz.ntmps52, List.size_toArray, List.length_cons, List.length_nil, Nat.reduceAdd, Nat.reduceSub, Array.replicate_succ, Array.replicate_zero, List.push_toArray, List.append_toArray, List.nil_append, List.cons_append]
  gi_wp2
  go_ret
  exact ⟨rfl, rfl⟩
theorem back_stops (F : Fence) (n : Nat) (hf : F.fn 96) (hro : F.round = none) (hn : 1 ≤ n) (Bs n₀ N cap : Nat) (a : Option Addr) (E : Nat → En.Et) (Fd : Nat → Prop) (hN : N ≤ 1000000) (w : World) (hBn : Bs < n₀) (hBf : ¬ Fd Bs) (hn₀ : n₀ ≤ w.heap.size)
    (hBs : w.cell? ⟨Bs, 0, none⟩ = some (.slice a N cap)) (hS : EtsB n₀ Fd w a N E) :
    SeqStopsK F n Tryz.prog 96 #[.pointer (some ⟨Bs, 0, none⟩)] (fun x : Nat => #[.int .i64 (x : Int), .agg #[.string (E x).path, .int .i64 (E x).node.kind, .string (E x).node.data]]) (KpF n₀ Fd) (fun ys => ys = down N N) (fun pre => ∃ k, k ≤ N ∧ pre = down N k) N w :=
  fun l J Jx W hW _ _ hY h0 => by
    have hkp : KpF n₀ Fd w W := ⟨hW.size, fun q hq _ => hW.block q (Nat.lt_of_lt_of_le hq hn₀)⟩
    have hS2 : EtsB n₀ Fd W a N E := by
      rcases hS with h | ⟨g, off, ha, hg, hgf, hc⟩
      · exact .inl h
      · refine .inr ⟨g, off, ha, hg, hgf, fun j hj => ?_⟩
        obtain ⟨c0, c1, c2⟩ := hc j hj
        exact ⟨(hkp.cell hg hgf).trans c0, (hkp.cell hg hgf).trans c1, (hkp.cell hg hgf).trans c2⟩
    exact back1_in F n hf hro hn l Bs n₀ N cap a E Fd hN J Jx hY W hBn hBf ((hkp.cell hBn hBf).trans hBs) hS2 h0
end Go.Proofs.YtdpnmdnfnplcfaaGreat.Sc

namespace Go.Proofs.YtdpnmdnfnplcfaaGreat.En
open Go.ChangeMaps (open_string shut_string)
open Go.ChangeShapes Go.WideShapes Go.ChangeAt Go.RowKit Tx
set_option linter.unusedVariables false
def dN {H : Type} (n : Nd) : DataW H := .agg [.lit (.int .i64 n.kind), .lit (.string n.data.data.toList)]
def dE {H : Type} (x : Et) : DataW H := .agg [.lit (.string x.path.data.toList), dN x.node]
theorem cells9 : Tryz.prog.cellsOf 9 = 1 := by kernel_rfl
theorem cells3 : Tryz.prog.cellsOf 3 = 1 := by kernel_rfl
theorem cellsN : Tryz.prog.cellsOf 52 = 2 := by kernel_rfl
theorem cellsE : Tryz.prog.cellsOf 54 = 3 := by kernel_rfl
theorem wf_int {k : Int} (h : (Lit.int .i64 k).wf = true) : isInt k := by
  unfold isInt
  simpa [Lit.wf, IntKind.min, IntKind.max, IntKind.signed, IntKind.bits] using h
theorem node_open {H : Type} {enc : TypeId × Value → H} {w : World} {base : Nat} {spare : Nat → Bool} {held : Bool} {m : Nat} {c1 c2 : Value} {y : DataW H × List MemPlace} (h : DataW.trod enc Tryz.prog w base spare held m 52 [c1, c2] = some y) :
    ∃ n : Nd, c1 = .int .i64 n.kind ∧ c2 = .string n.data ∧ y = (dN n, []) ∧ isInt n.kind ∧ n.data.size ≤ maxLen := by
  obtain ⟨ys, m2, _, hy, _, hyl, hf⟩ := DataW.trod_struct Tryz.underlying52 h
  have h0 := hf 0 _ rfl
  have h1 := hf 1 _ rfl
  match ys, hyl with
  | [y0, y1], _ =>
    have h0 : DataW.trod enc Tryz.prog w base spare held m2 3 (([c1, c2].drop 0).take (Tryz.prog.cellsOf 3)) = some y0 := h0
    have h1 : DataW.trod enc Tryz.prog w base spare held m2 9 (([c1, c2].drop 1).take (Tryz.prog.cellsOf 9)) = some y1 := h1
    rw [cells3] at h0
    rw [cells9] at h1
    obtain ⟨k, hk, hx0, hw⟩ := DataW.trod_int Tryz.underlying3 h0
    obtain ⟨s, hs, hx1, hl⟩ := DataW.trod_string Tryz.underlying9 h1
    simp at hk hs
    refine ⟨⟨k, s⟩, hk, hs, ?_, wf_int hw, hl⟩
    rw [hy, hx0, hx1]
    rfl
theorem ent_open {H : Type} {enc : TypeId × Value → H} {w : World} {base : Nat} {spare : Nat → Bool} {held : Bool} {m : Nat} {a : Addr} {cs' : List Value} {y : DataW H × List MemPlace} (hc : w.cells? base a 3 = some cs') (h : DataW.trod enc Tryz.prog w base spare held m 54 cs' = some y) :
    ∃ x : Et, w.cell? a = some (.string x.path) ∧ w.cell? (a.add 1) = some (.int .i64 x.node.kind) ∧ w.cell? (a.add 2) = some (.string x.node.data) ∧ y = (dE x, []) ∧ isInt x.node.kind ∧ x.path.size ≤ maxLen ∧ x.node.data.size ≤ maxLen := by
  obtain ⟨_, hcl, hat⟩ := World.cells?_some hc
  match cs', hcl with
  | [c0, c1, c2], _ =>
    obtain ⟨ys, m2, _, hy, _, hyl, hf⟩ := DataW.trod_struct Tryz.underlying54 h
    have h0 := hf 0 _ rfl
    have h1 := hf 1 _ rfl
    match ys, hyl with
    | [y0, y1], _ =>
      have h0 : DataW.trod enc Tryz.prog w base spare held m2 9 (([c0, c1, c2].drop 0).take (Tryz.prog.cellsOf 9)) = some y0 := h0
      have h1 : DataW.trod enc Tryz.prog w base spare held m2 52 (([c0, c1, c2].drop 1).take (Tryz.prog.cellsOf 52)) = some y1 := h1
      rw [cells9] at h0
      rw [cellsN] at h1
      obtain ⟨s, hs, hx0, hl⟩ := DataW.trod_string Tryz.underlying9 h0
      obtain ⟨n, hn1, hn2, hx1, hi, hl2⟩ := node_open h1
      simp at hs
      have a0 := hat 0 (by omega)
      have a1 := hat 1 (by omega)
      have a2 := hat 2 (by omega)
      refine ⟨⟨s, n⟩, ?_, ?_, ?_, ?_, hi, hl, hl2⟩
      · have e : a.add 0 = a := by simp [Addr.add]
        rw [e] at a0
        rw [a0, hs]
        rfl
      · rw [a1, hn1]
        rfl
      · rw [a2, hn2]
        rfl
      · rw [hy, hx0, hx1]
        rfl
theorem open_ents {H : Type} {enc : TypeId × Value → H} {w : World} {base : Nat} {spare : Nat → Bool} {held : Bool} {fuel : Nat} {cs : List Value} {x : DataW H × List MemPlace} (h : DataW.trod enc Tryz.prog w base spare held fuel 32 cs = some x) :
    (cs = [.slice none 0 0] ∧ x = (.nil, [])) ∨ ∃ (a : Addr) (len cap : Nat) (l : List Et) (rest : List (DataW H)) (pl : List MemPlace), cs = [.slice (some a) len cap] ∧ len ≤ cap ∧ cap ≤ maxLen ∧ x = (.slice (l.map dE) rest, pl) ∧ Ents w (some a) len l ∧ ∀ e ∈ l, isInt e.node.kind ∧ e.path.size ≤ maxLen ∧ e.node.data.size ≤ maxLen := by
  rcases Go.Deep.open_slice Tryz.underlying32 h with h0 | ⟨a, len, cap, m, n, D, Pl, rfl, hb, hl, hm, hmm, hx, hi⟩
  · exact .inl h0
  · right
    have hlm : len ≤ m := by
      rw [hmm]
      split
      · exact hl
      · exact Nat.le_refl _
    have hex : ∀ i, i < len → ∃ e : Et, w.cell? (a.add (i * 3)) = some (.string e.path) ∧ w.cell? ((a.add (i * 3)).add 1) = some (.int .i64 e.node.kind) ∧ w.cell? ((a.add (i * 3)).add 2) = some (.string e.node.data) ∧ D i = dE e ∧ isInt e.node.kind ∧ e.path.size ≤ maxLen ∧ e.node.data.size ≤ maxLen := by
      intro i him
      obtain ⟨cs', hc, ht⟩ := hi i (by omega)
      rw [cellsE] at hc
      obtain ⟨e, h1, h2, h3, h4, h5, h6, h7⟩ := ent_open hc ht
      exact ⟨e, h1, h2, h3, congrArg Prod.fst h4, h5, h6, h7⟩
    have : Inhabited Et := ⟨⟨⟨#[]⟩, ⟨0, ⟨#[]⟩⟩⟩⟩
    obtain ⟨X, hX⟩ := Go.Deep.choose_lt hex
    have hget : ∀ k y, ((List.range len).map X)[k]? = some y → k < len ∧ y = X k := by
      intro k y hk
      have hk2 := (List.getElem?_eq_some_iff.1 hk).1
      simp at hk2
      rw [List.getElem?_map, List.getElem?_range hk2] at hk
      injection hk with hk
      exact ⟨hk2, hk.symm⟩
    refine ⟨a, len, cap, (List.range len).map X, (List.range (m - len)).map fun j => D (len + j), x.2, rfl, hl, hm, ?_, ⟨by simp, ?_⟩, ?_⟩
    · rw [hx]
      refine Prod.ext ?_ rfl
      show DataW.slice _ _ = DataW.slice _ _
      congr 1
      rw [List.map_map]
      refine List.map_congr_left (fun i hi' => ?_)
      exact (hX i (List.mem_range.1 hi')).2.2.2.1
    · by_cases h0 : len = 0
      · exact .inl h0
      · right
        obtain ⟨b, off, spot⟩ := a
        have hc0 := (hX 0 (by omega)).1
        rw [Nat.zero_mul] at hc0
        have hspot : spot = none := by simpa [Addr.add] using World.cell?_spot hc0
        subst hspot
        refine ⟨b, off, rfl, ?_, fun k y hk => ?_⟩
        · have := World.block_lt_of_cell? w _ hc0
          simpa [Addr.add] using this
        · obtain ⟨hk2, rfl⟩ := hget k y hk
          obtain ⟨h1, h2, h3, _⟩ := hX k hk2
          rw [add_plain] at h1 h2 h3
          rw [add_plain] at h2 h3
          exact ⟨h1, h2, h3⟩
    · intro e he
      obtain ⟨k, hk⟩ := List.getElem?_of_mem he
      obtain ⟨hk2, rfl⟩ := hget k e hk
      exact (hX k hk2).2.2.2.2
end Go.Proofs.YtdpnmdnfnplcfaaGreat.En

namespace Go.Proofs.YtdpnmdnfnplcfaaGreat.En
open Go.RowKit Tx Pm Pr
set_option linter.unusedVariables false
def tplace (l : List Et) (p : ByteArray) : Nat := l.countP (fun x => less x.path p)
def Rise (l : List Et) : Prop := (l.map (·.path)).Pairwise (fun a b => less a b = true)
end Go.Proofs.YtdpnmdnfnplcfaaGreat.En

namespace Go.Proofs
open Go.Shelf
def Tryz.search_ren : Go.Shelf.Ren := ⟨fun | 16 => 110 | n => n, fun | 3 => 3 | 35 => 128 | 4 => 4 | 38 => 119 | n => n, fun | n => n⟩
theorem Tryz.search : Go.Proofs.SlLaysO.n16 Tryz.prog Tryz.search_ren := {
  mixed := by kernel_rfl
  f16 := Tryz.func110.trans (congrArg some (by kernel_rfl))
  t3 := Tryz.underlying3
  a3 := Tryz.isAgg3
  z3 := Tryz.sizeOf3
  v3 := Tryz.zeroValue3
  t4 := Tryz.underlying4
  a4 := Tryz.isAgg4
  z4 := Tryz.sizeOf4
  v4 := Tryz.zeroValue4
  t35 := Tryz.underlying128
  a35 := Tryz.isAgg128
  z35 := Tryz.sizeOf128
  v35 := Tryz.zeroValue128
  t38 := Tryz.underlying119
  a38 := Tryz.isAgg119
  z38 := Tryz.sizeOf119
  v38 := Tryz.zeroValue119 }
end Go.Proofs

namespace Go.Proofs.YtdpnmdnfnplcfaaGreat.En
open Go.RowKit Tx Pm Pr Go.Sort Go.Lib Go.Shelf
set_option linter.unusedVariables false
theorem Ents.nth {w : World} {a : Option Addr} {n : Nat} {l : List Et} (h : Ents w a n l) {k : Nat} {x : Et} (hx : l[k]? = some x) : ∃ b off, a = some ⟨b, off, none⟩ ∧ b < w.heap.size ∧ w.cell? ⟨b, off + k * 3, none⟩ = some (.string x.path) ∧ w.cell? ⟨b, off + k * 3 + 1, none⟩ = some (.int .i64 x.node.kind) ∧ w.cell? ⟨b, off + k * 3 + 1 + 1, none⟩ = some (.string x.node.data) := by
  have hk := (List.getElem?_eq_some_iff.1 hx).1
  rcases h.2 with h0 | ⟨b, off, ha, hlt, hc⟩
  · rw [h.1] at hk; omega
  · exact ⟨b, off, ha, hlt, hc k x hx⟩
set_option maxRecDepth 100000 in
set_option maxHeartbeats 1000000 in
theorem placeC_any (ba bx : Nat) (a : Option Addr) (n c : Nat) (l : List Et) (p : ByteArray) (W : World) (i : Nat) (x : Et) (hi : l[i]? = some x) (ha : W.cell? ⟨ba, 0, none⟩ = some (.slice a n c)) (hx : W.cell? ⟨bx, 0, none⟩ = some (.string p)) (hl : Ents W a n l) :
    Calls Tryz.prog 111 (#[.int .i64 i] ++ #[.pointer (some ⟨ba, 0, none⟩), .pointer (some ⟨bx, 0, none⟩)]) W fun e w' => e = .returned (.bool (!less x.path p)) ∧ ∃ q, w' = W.drewN q := by
  obtain ⟨b, off, rfl, hb, c1, _⟩ := hl.nth hi
  have hlt : i < n := by rw [← hl.1]; exact (List.getElem?_eq_some_iff.1 hi).1
  have hiz : (i : Int) < (n : Int) := by omega
  obtain ⟨P, N⟩ := x
  simp only at c1
  unfold less
  clear hi hl
  go_enter Tryz.func111, Tryz.ntmps111
  go_wp2
  go_region
  all_goals go_wp2
  all_goals go_ret
  all_goals exact ⟨rfl, 1, rfl⟩
theorem rise_le {l : List Et} (h : Rise l) (p : ByteArray) {i j : Nat} {x y : Et} (hi : l[i]? = some x) (hj : l[j]? = some y) (hij : i ≤ j) (hx : less x.path p = false) : less y.path p = false := by
  rcases Nat.lt_or_eq_of_le hij with hlt | rfl
  · have hm := List.pairwise_iff_getElem.1 h i j (by rw [List.length_map]; exact (List.getElem?_eq_some_iff.1 hi).1) (by rw [List.length_map]; exact (List.getElem?_eq_some_iff.1 hj).1) hlt
    rw [List.getElem_map, List.getElem_map, (List.getElem?_eq_some_iff.1 hi).2, (List.getElem?_eq_some_iff.1 hj).2] at hm
    cases hc : less y.path p with
    | false => rfl
    | true => rw [lt_trans hm hc] at hx; cases hx
  · rw [hi] at hj
    injection hj with hj
    rw [← hj]
    exact hx
theorem count_at (l : List Et) (f : Et → Bool) (g : Nat → Bool) (hg : ∀ i x, l[i]? = some x → g i = f x) : (List.range l.length).countP g = l.countP f := by
  have h : (List.range l.length).map g = l.map f := by
    apply List.ext_getElem
    · simp
    · intro i h1 h2
      simp only [List.getElem_map, List.getElem_range]
      exact hg i _ (List.getElem?_eq_getElem (by simpa using h2))
  have e1 : (List.range l.length).countP g = ((List.range l.length).map g).countP id := by rw [List.countP_map]; rfl
  have e2 : l.countP f = (l.map f).countP id := by rw [List.countP_map]; rfl
  rw [e1, e2, h]
theorem below_boxes {w : World} (o1 o2 : Obj) : Below w.heap.size w ((w.alloc o1).alloc o2) := ((Below.refl _ w).alloc (Nat.le_refl _) o1).alloc (by simp) o2
set_option maxRecDepth 100000 in
set_option maxHeartbeats 2000000 in
theorem place_any (a : Option Addr) (n c : Nat) (l : List Et) (p : ByteArray) (w : World) (hl : Ents w a n l) (hr : Rise l) (hn : n ≤ 1000000000000) :
    Calls Tryz.prog 97 #[.slice a n c, .string p] w fun e w' => e = .returned (.int .i64 (tplace l p : Nat)) ∧ Below w.heap.size w w' := by
  obtain ⟨W0, hW0⟩ : ∃ W0, W0 = (w.alloc (.cells #[.slice a n c] 32)).alloc (.cells #[.string p] 9) := ⟨_, rfl⟩
  have hsize : W0.heap.size = w.heap.size + 1 + 1 := by rw [hW0]; simp
  have ca : W0.cell? ⟨w.heap.size, 0, none⟩ = some (.slice a n c) := by rw [hW0]; exact cell_alloc_sl _ (cell_new_sl w _ _)
  have cx : W0.cell? ⟨w.heap.size + 1, 0, none⟩ = some (.string p) := by rw [hW0]; have := cell_new_sl (w.alloc (.cells #[.slice a n c] 32)) (.string p) 9; rwa [World.size_alloc] at this
  have hB0 : Below w.heap.size w W0 := by rw [hW0]; exact below_boxes _ _
  have eg : ∀ args w, (callFunc 111 args).run Tryz.prog w = .ok (.enter 111 args) w := enters_of Tryz.func111 (by kernel_rfl) rfl
  have hln := hl.1
  have hS := Any.sort_Search Tryz.search 111 #[.pointer (some ⟨w.heap.size, 0, none⟩), .pointer (some ⟨w.heap.size + 1, 0, none⟩)] n (fun i => match l[i]? with | some x => !less x.path p | none => true) W0 eg (by omega)
    (fun m os i hi => by
      obtain ⟨x, hx⟩ : ∃ x, l[i]? = some x := ⟨_, List.getElem?_eq_getElem (by omega)⟩
      have hg := below_grown_sl w.heap.size W0 m os (by omega)
      have h := placeC_any w.heap.size (w.heap.size + 1) a n c l p (grow (W0.drewN m) os) i x hx (cell_grown (by simp [hsize]; omega) ca m os) (cell_grown (by simp [hsize]) cx m os) (hl.below (hB0.trans hg))
      rw [hx]
      exact h.mono fun _ _ ⟨he, q, hq⟩ => ⟨he, q, #[], by rw [hq, grow_empty]⟩)
    (fun i j hij hj h => by
      obtain ⟨x, hx⟩ : ∃ x, l[i]? = some x := ⟨_, List.getElem?_eq_getElem (by omega)⟩
      obtain ⟨y, hy⟩ : ∃ y, l[j]? = some y := ⟨_, List.getElem?_eq_getElem (by omega)⟩
      rw [hx] at h
      rw [hy]
      simp only [Bool.not_eq_true'] at h ⊢
      exact rise_le hr p hx hy hij h)
  have hcnt : (List.range n).countP (fun i => !(match l[i]? with | some x => !less x.path p | none => true)) = tplace l p := by
    rw [← hln]
    exact count_at l _ _ (fun i x hx => by simp only [hx, Bool.not_not])
  rw [hcnt] at hS
  change Calls Tryz.prog 110 _ _ _ at hS
  clear ca cx hcnt hr hl
  generalize tplace l p = r at hS ⊢
  go_enter Tryz.func97, Tryz.ntmps97
  go_wp2_with (go_at_call 110; rw [← hW0]; refine hS.mono ?_; rintro e w' ⟨rfl, q, os, rfl⟩)
  go_ret
  rw [← hW0]
  exact ⟨rfl, hB0.trans (below_grown_sl w.heap.size W0 q os (by omega))⟩
def tstands (l : List Et) (k : Nat) (p : ByteArray) : Bool := match l[k]? with
  | some x => decide (x.path = p)
  | none => false
set_option maxRecDepth 100000 in
set_option maxHeartbeats 1000000 in
theorem stands_any (a : Option Addr) (n c : Nat) (l : List Et) (k : Nat) (p : ByteArray) (w : World) (hl : Ents w a n l) (hn : n ≤ 1000000000000) (hk : k ≤ 1000000000000) :
    Calls Tryz.prog 98 #[.slice a n c, .int .i64 (k : Nat), .string p] w fun e w' => e = .returned (.bool (tstands l k p)) ∧ w = w' := by
  have hln := hl.1
  by_cases hlt : k < n
  · obtain ⟨x, hx⟩ : ∃ x, l[k]? = some x := ⟨_, List.getElem?_eq_getElem (by omega)⟩
    obtain ⟨b, off, rfl, hb, c1, _⟩ := hl.nth hx
    obtain ⟨P, N⟩ := x
    simp only at c1
    have hlz : (k : Int) < (n : Int) := by omega
    have hv : tstands l k p = decide (P = p) := by rw [tstands, hx]
    rw [hv]
    by_cases hp : P = p
    · have e : (P.toList == p.toList) = true := by rw [hp]; exact beq_self_eq_true _
      rw [decide_eq_true hp]
      clear hv hx hl hln hp
      go_enter Tryz.func98, Tryz.ntmps98
      go_wp2
      go_ret
      exact ⟨rfl, rfl⟩
    · have e := bytes_ne hp
      rw [decide_eq_false hp]
      clear hv hx hl hln hp
      go_enter Tryz.func98, Tryz.ntmps98
      go_wp2
      go_ret
      exact ⟨rfl, rfl⟩
  · have hv : tstands l k p = false := by rw [tstands, List.getElem?_eq_none (by omega)]
    rw [hv]
    clear hv hl hln
    go_enter Tryz.func98, Tryz.ntmps98
    go_wp2
    go_ret
    exact ⟨rfl, rfl⟩
theorem count_cut (f : Et → Bool) : ∀ (l : List Et), (∀ (i j : Nat) (x y : Et), l[i]? = some x → l[j]? = some y → i ≤ j → f x = false → f y = false) → ∀ (i : Nat) (x : Et), l[i]? = some x → f x = decide (i < l.countP f)
  | [], _, i, x, h => by cases h
  | z :: r, hm, i, x, h => by
    have hr := count_cut f r (fun i j x y hx hy hij => hm (i + 1) (j + 1) x y hx hy (by omega))
    cases hz : f z with
    | true =>
      rw [List.countP_cons_of_pos hz]
      cases i with
      | zero => injection h with h; rw [← h, hz]; rw [decide_eq_true (by omega)]
      | succ i => rw [hr i x h]; exact decide_eq_decide.2 (by omega)
    | false =>
      have h0 : r.countP f = 0 := by
        rw [List.countP_eq_zero]
        intro y hy
        obtain ⟨j, hj⟩ := List.getElem?_of_mem hy
        rw [hm 0 (j + 1) z y rfl hj (by omega) hz]
        exact Bool.false_ne_true
      rw [List.countP_cons_of_neg (by rw [hz]; exact Bool.false_ne_true), h0, decide_eq_false (by omega)]
      exact hm 0 i z x rfl h (by omega) hz
theorem place_cut {l : List Et} (hr : Rise l) (p : ByteArray) {i : Nat} {x : Et} (hx : l[i]? = some x) : less x.path p = decide (i < tplace l p) :=
  count_cut (fun x => less x.path p) l (fun i j x y hi hj hij h => rise_le hr p hi hj hij h) i x hx
theorem place_le (l : List Et) (p : ByteArray) : tplace l p ≤ l.length := List.countP_le_length
theorem rise_lt {l : List Et} (h : Rise l) {i j : Nat} {x y : Et} (hi : l[i]? = some x) (hj : l[j]? = some y) (hij : i < j) : less x.path y.path = true := by
  have hm := List.pairwise_iff_getElem.1 h i j (by rw [List.length_map]; exact (List.getElem?_eq_some_iff.1 hi).1) (by rw [List.length_map]; exact (List.getElem?_eq_some_iff.1 hj).1) hij
  rwa [List.getElem_map, List.getElem_map, (List.getElem?_eq_some_iff.1 hi).2, (List.getElem?_eq_some_iff.1 hj).2] at hm
theorem place_of {l : List Et} (hr : Rise l) {i : Nat} {x : Et} (hx : l[i]? = some x) : tplace l x.path = i := by
  have h1 := place_cut hr x.path hx
  rw [lt_irr] at h1
  have h2 := of_decide_eq_false h1.symm
  rcases Nat.lt_or_ge (tplace l x.path) i with h | h
  · obtain ⟨y, hy⟩ : ∃ y, l[tplace l x.path]? = some y := ⟨_, List.getElem?_eq_getElem (by have := (List.getElem?_eq_some_iff.1 hx).1; omega)⟩
    have h3 := place_cut hr x.path hy
    rw [rise_lt hr hy hx h] at h3
    have := of_decide_eq_true h3.symm
    omega
  · omega
theorem get_place {l : List Et} (hr : Rise l) (p : ByteArray) : (∃ x, l[tplace l p]? = some x ∧ x.path = p ∧ tstands l (tplace l p) p = true ∧ tget l p = x.node) ∨ (tstands l (tplace l p) p = false ∧ tget l p = ⟨0, ⟨#[]⟩⟩) := by
  cases hs : tstands l (tplace l p) p with
  | true =>
    left
    rw [tstands] at hs
    cases hx : l[tplace l p]? with
    | none => rw [hx] at hs; cases hs
    | some x =>
      rw [hx] at hs
      refine ⟨x, rfl, of_decide_eq_true hs, rfl, tget_hit l p _ x hx (of_decide_eq_true hs) ?_⟩
      intro y hy he
      obtain ⟨j, hj⟩ := List.getElem?_of_mem hy
      have hjk : j < tplace l p := by
        have := (List.getElem?_eq_some_iff.1 hj).1
        rw [List.length_take] at this
        omega
      rw [List.getElem?_take, if_pos hjk] at hj
      have := place_of hr hj
      rw [he] at this
      omega
  | false =>
    right
    refine ⟨rfl, tget_none l p ?_⟩
    intro y hy he
    obtain ⟨j, hj⟩ := List.getElem?_of_mem hy
    have h := place_of hr hj
    rw [he] at h
    rw [tstands, h, hj] at hs
    exact of_decide_eq_false hs he
theorem cells_two {w1 : World} {b : Nat} {u v : Value} {t : TypeId} (h : w1.heap[b]? = some (.cells #[u, v] t)) : w1.cell? ⟨b, 0, none⟩ = some u ∧ w1.cell? ⟨b, 1, none⟩ = some v ∧ ∀ k, w1.frozen? ⟨b, k, none⟩ = false := by
  refine ⟨?_, ?_, fun k => frozen_of_row w1 b k _ _ h⟩ <;> simp [World.cell?, h]
theorem two_set {w1 : World} {b : Nat} {u v x y : Value} {t : TypeId} (h : w1.heap[b]? = some (.cells #[u, v] t)) : ((w1.setCell ⟨b, 0, none⟩ x).setCell ⟨b, 1, none⟩ y).heap[b]? = some (.cells #[x, y] t) :=
  Go.heap_setCell_same _ b 1 _ _ _ (Go.heap_setCell_same _ b 0 _ _ x h)
set_option maxRecDepth 100000 in
set_option maxHeartbeats 2000000 in
theorem getR_any (a : Option Addr) (n c : Nat) (l : List Et) (p : ByteArray) (w : World) (hl : Ents w a n l) (hr : Rise l) (hn : n ≤ 1000000000000) :
    Calls Tryz.prog 53 #[.slice a n c, .string p] w fun e w' => e = .returned (nv (tget l p)) ∧ Below w.heap.size w w' := by
  have hB : ∀ o, Below w.heap.size w (w.alloc o) := fun o => (Below.refl _ _).alloc (Nat.le_refl _) _
  have hln := hl.1
  have hle := place_le l p
  have cp := fun W (h : Below w.heap.size w W) => place_any a n c l p W (hl.below h) hr hn
  have cs := fun W (h : Below w.heap.size w W) => stands_any a n c l (tplace l p) p W (hl.below h) hn (by omega)
  have hgp := get_place hr p
  have HL := Lib.hid hl
  obtain ⟨r, hR⟩ : ∃ r, r = tplace l p := ⟨_, rfl⟩
  rw [← hR] at cp cs hgp hle
  have HR := Lib.hid hr
  clear hr hR hl
  rcases hgp with ⟨x, hx, hp, hs, hg⟩ | ⟨hs, hg⟩
  · obtain ⟨b, off, rfl, hb, c1, c2, c3⟩ := HL.out.nth hx
    have hlt : r < n := by rw [← hln]; exact (List.getElem?_eq_some_iff.1 hx).1
    have hltz : (r : Int) < (n : Int) := by omega
    rw [hg]
    rw [hs] at cs
    obtain ⟨P, K, D⟩ := x
    simp only at c1 c2 c3
    clear hx hp hg hs hln
    go_enter Tryz.func53, Tryz.ntmps53
    go_wp2_with fail
    go_at_call 97
    refine (cp _ (hB _)).mono ?_
    rintro e w1 ⟨rfl, hb1⟩
    have hB1 := below_call (hB _) hb1
    have hblk := hb1.block w.heap.size (by simp)
    rw [heap_alloc_new] at hblk
    obtain ⟨e1, e2, e3⟩ := cells_two hblk
    have d2 := (hB1.cell (p := ⟨b, _, none⟩) hb).trans c2
    have d3 := (hB1.cell (p := ⟨b, _, none⟩) hb).trans c3
    clear c1 c2 c3
    go_wp2_with fail
    go_at_call 98
    refine (cs _ hB1).mono ?_
    rintro e w2 ⟨rfl, rfl⟩
    go_wp2_with fail
    refine bodyPost_ret (results_cell_row rfl _ _ _ _ _ _ _ rfl (two_set hblk) Tryz.underlying52 rfl infoN) rfl ?_
    exact ⟨rfl, (hB1.setCell (Nat.le_refl _) _).setCell (Nat.le_refl _) _⟩
  · rw [hg]
    rw [hs] at cs
    clear hg hs hln
    go_enter Tryz.func53, Tryz.ntmps53
    go_wp2_with fail
    go_at_call 97
    refine (cp _ (hB _)).mono ?_
    rintro e w1 ⟨rfl, hb1⟩
    have hB1 := below_call (hB _) hb1
    have hblk := hb1.block w.heap.size (by simp)
    rw [heap_alloc_new] at hblk
    obtain ⟨e1, e2, e3⟩ := cells_two hblk
    go_wp2_with fail
    go_at_call 98
    refine (cs _ hB1).mono ?_
    rintro e w2 ⟨rfl, rfl⟩
    go_wp2_with fail
    refine bodyPost_ret (results_cell_row rfl _ _ _ _ _ _ _ rfl (two_set hblk) Tryz.underlying52 rfl infoN) rfl ?_
    exact ⟨rfl, (hB1.setCell (Nat.le_refl _) _).setCell (Nat.le_refl _) _⟩
end Go.Proofs.YtdpnmdnfnplcfaaGreat.En

namespace Go.Proofs.YtdpnmdnfnplcfaaGreat.Rg
open Go.RowKit
set_option linter.unusedVariables false
section
variable {P : Program} {ops : Array Oper} {R : Act → World → Prop} {l n : Nat}
def noDefer (ops : Array Oper) : Bool := ops.all fun o => match o.op with | .defer _ => false | _ => true
theorem noDefer_at (h : noDefer ops = true) {i : Nat} {o : Oper} (ho : ops[i]? = some o) (c : Call) : o.op ≠ .defer c := by
  intro e
  obtain ⟨hi, hx⟩ := Array.getElem?_eq_some_iff.1 ho
  have := Array.all_eq_true.1 h i hi
  rw [hx, e] at this
  cases this
theorem lets_only : ¬ LetsOut (Only R) := by rintro ⟨a, w, h⟩; exact h
theorem rows_in {row : String} {args : Array Value} {w : World} {Q : Value → World → Prop} (h : Rows P row args w Q) : RowsIn (Fence.wide.inRound l) n P row args w Q :=
  fun c cs _ => by
    obtain ⟨v, w', r, s⟩ := h c cs
    exact ⟨v, w', r, stepsIn_wide.2 s⟩
theorem upon_in {o : Oper} {a : Act} {K K' : Act → World → Prop} {Q : Exit → Act → World → Prop} {x : Result Next} (hK : ∀ a w, K a w → K' a w) (h : o.upon P a K Q x) : o.uponIn (Fence.wide.inRound l) n P a K' Q x := by
  cases x with
  | ok x w' =>
    cases x with
    | value v => exact hK _ _ h
    | skip => exact hK _ _ h
    | defer d => exact hK _ _ h
    | enter f args =>
      refine ⟨(fun h => by cases h), (CallsIn.inRound l (callsIn_wide.2 h)).mono fun e w'' he => ?_⟩
      cases e with
      | returned v => exact hK _ _ he
      | panicked chain => exact he
      | outgrown => exact he
    | row r args => exact ⟨(fun h => by cases h), rows_in (h.mono fun v w'' he => hK _ _ he)⟩
    | _ => exact (h : False).elim
  | halt x w' =>
    cases x with
    | panic v => exact h
    | _ => exact (h : False).elim
theorem op_in {i : Nat} {K K' : Act → World → Prop} {a : Act} {w : World} (hn : noDefer ops = true) (hK : ∀ a w, K a w → K' a w) (h : wpOp P ops (Only R) i K a w) : wpOpIn (Fence.wide.inRound l) n P ops (Only R) i K' a w := by
  unfold wpOp at h
  unfold wpOpIn
  split at h
  · rename_i ho
    simp only [ho]
    exact hK _ _ h
  · rename_i o ho
    simp only [ho]
    split
    · rename_i hw
      rw [if_pos hw] at h
      rcases h with h | h
      · refine ⟨fun _ _ => trivial, ?_⟩
        rw [show (Fence.wide.inRound l).round = some l from rfl, Oper.semAt_some l _ _ (noDefer_at hn ho)]
        exact upon_in hK h
      · exact absurd h.2 lets_only
    · rename_i hw
      rw [if_neg hw] at h
      exact ⟨fun _ _ => trivial, hK _ _ h⟩
theorem any_in {md : Region.Mode} (hn : noDefer ops = true) : ∀ (fuel : Nat) (listed : Array Bool) (a : Act) (w : World), wpAny P md ops (Only R) fuel listed a w → wpAnyIn (Fence.wide.inRound l) n P md ops (Only R) fuel listed a w
  | 0, _, _, _, h => h
  | fuel + 1, listed, a, w, h => ⟨h.1, fun i hi => op_in hn (fun a' w' h' => any_in hn fuel _ a' w' h') (h.2 i hi)⟩
theorem only_in {F : Fence} {c : Code} {Q : Exit → Act → World → Prop} {a : Act} {w : World} (hR : ∀ a w, R a w → Q .normal a w) (h : c.wpIn F n P (Only R) a w) : c.wpIn F n P Q a w :=
  wpIn_mono h (fun e a w h => by cases e <;> first | exact hR _ _ h | exact (h : False).elim)
theorem held_in {S : World → Prop} {id : Nat} {a : Act} {w : World} (hm : P.follows .mixedOrders = true) (hn : noDefer ops = true) (h : wpAnyH P .any ops (Only R) S ops.size (Array.replicate ops.size false) a w.drew) : (Code.region id ops true).wpIn (Fence.wide.inRound l) n P (Only R) a w :=
  wpIn_region_any hm (any_in hn _ _ _ _ (wpAny_of_held _ _ _ _ h))
end
end Go.Proofs.YtdpnmdnfnplcfaaGreat.Rg

namespace Go.Proofs.YtdpnmdnfnplcfaaGreat.Sc
open Go.RowKit Tx Pm Pr Dk
set_option linter.unusedVariables false
theorem field0 (K : Int) (D : ByteArray) (W : World) : (Instr.field 52 (.agg #[.int .i64 K, .string D]) 0).run Tryz.prog W = .ok (.int .i64 K) W := by kernel_rfl
structure BxF (q b : Nat) (v : ByteArray) (vt : Value) (g : Nat) (P : ByteArray) (K : Int) (D : ByteArray) (W : World) : Prop where
  d : W.cell? ⟨q, 0, none⟩ = some (.pointer (some ⟨b, 0, none⟩))
  v : W.cell? ⟨q + 1, 0, none⟩ = some (.string v)
  t : W.cell? ⟨q + 1 + 1, 0, none⟩ = some vt
  p : W.cell? ⟨g, 0, none⟩ = some (.string P)
  k : W.cell? ⟨g, 1, none⟩ = some (.int .i64 K)
  n : W.cell? ⟨g, 2, none⟩ = some (.string D)
set_option maxRecDepth 100000 in
set_option maxHeartbeats 4000000 in
theorem layReg6 (ops : Array Oper) (hops : ops = (Rg.opsOf Tryz.f20 6)) (id : Nat) (q b g : Nat) (v P D d0 : ByteArray) (vt : Value) (K k0 : Int) (bb : Bool) {u1 u2 u6 u7 u8 u9 u11 u12 u13 u14 u15 u16 u17 u18 u19 u20 u21 u22 u23 u24 u25 u26 u27 u28 u29 u30 u31 u32 u33 u34 u35 u36 u37 u38 u39 u40 u41 u42 u43 u44 u45 u46 u47 u48 u49 u50 u51 u52 u53 u54 u55 u56 u57 u58 u59 u60 u61 u62 u63 : Value} {ds : List Deferred} (w : World) (X : World → Prop) (hX : ∀ W, X W → BxF q b v vt g P K D W) (hw : X w.drew) (S1 : (k0 == K) = bb)
    (hA : ∀ W, X W → Calls Tryz.prog 53 #[vt, .string P] W fun e w' => e = .returned (.agg #[.int .i64 k0, .string d0]) ∧ X w') :
    wpAnyH Tryz.prog .any ops (Rg.Only (fun a' w' => a' = ⟨#[(.pointer (some ⟨b, 0, none⟩)), u1, u2, (.pointer (some ⟨q, 0, none⟩)), (.pointer (some ⟨q + 1, 0, none⟩)), (.pointer (some ⟨q + 1 + 1, 0, none⟩)), u6, u7, u8, u9, (.pointer (some ⟨g, 0, none⟩)), u11, u12, u13, u14, u15, u16, u17, u18, u19, u20, u21, u22, u23, u24, u25, u26, u27, vt, (.pointer (some ⟨g, 0, none⟩)), (.string P), (.agg #[.int .i64 k0, .string d0]), (.int .i64 k0), (.pointer (some ⟨g, 1, none⟩)), (.pointer (some ⟨g, 1, none⟩)), (.int .i64 K), (.bool bb), u37, u38, u39, u40, u41, u42, u43, u44, u45, u46, u47, u48, u49, u50, u51, u52, u53, u54, u55, u56, u57, u58, u59, u60, u61, u62, u63], ds⟩ ∧ X w')) X ops.size (Array.replicate ops.size false) ⟨#[(.pointer (some ⟨b, 0, none⟩)), u1, u2, (.pointer (some ⟨q, 0, none⟩)), (.pointer (some ⟨q + 1, 0, none⟩)), (.pointer (some ⟨q + 1 + 1, 0, none⟩)), u6, u7, u8, u9, (.pointer (some ⟨g, 0, none⟩)), u11, u12, u13, u14, u15, u16, u17, u18, u19, u20, u21, u22, u23, u24, u25, u26, u27, u28, u29, u30, u31, u32, u33, u34, u35, u36, u37, u38, u39, u40, u41, u42, u43, u44, u45, u46, u47, u48, u49, u50, u51, u52, u53, u54, u55, u56, u57, u58, u59, u60, u61, u62, u63], ds⟩ w.drew := by
  subst hops
  have hNS : Region.noSelect (Rg.opsOf Tryz.f20 6) = true := by kernel_rfl
  have hHeld : X w.drew := hw
  rw [show (Rg.opsOf Tryz.f20 6).size = 9 by kernel_rfl]
  refine Rg.take (ops := (Rg.opsOf Tryz.f20 6)) 0 (some 28) (vt) hNS (by kernel_rfl) (by kernel_rfl) (by kernel_rfl) (by kernel_rfl) (by kernel_rfl) hHeld (Rg.y_load (T := 32) (x := (Operand.tmp 5)) (vx := (.pointer (some ⟨q + 1 + 1, 0, none⟩))) (by kernel_rfl) (by kernel_rfl) ?_) ?_
  · (intro W hSw; obtain ⟨s0, s1, s2, s3, s4, s5⟩ := hX _ hSw; clear hSw hHeld; go_simp)
  refine Rg.take (ops := (Rg.opsOf Tryz.f20 6)) 1 (some 29) ((.pointer (some ⟨g, 0, none⟩))) hNS (by kernel_rfl) (by kernel_rfl) (by kernel_rfl) (by kernel_rfl) (by kernel_rfl) hHeld (Rg.y_field (T := 54) (k := 0) (x := (Operand.tmp 10)) (vx := (.pointer (some ⟨g, 0, none⟩))) (by kernel_rfl) (by kernel_rfl) ?_) ?_
  · (intro W hSw; clear hSw hHeld; go_simp)
  refine Rg.take (ops := (Rg.opsOf Tryz.f20 6)) 2 (some 30) ((.string P)) hNS (by kernel_rfl) (by kernel_rfl) (by kernel_rfl) (by kernel_rfl) (by kernel_rfl) hHeld (Rg.y_load (T := 9) (x := (Operand.tmp 29)) (vx := (.pointer (some ⟨g, 0, none⟩))) (by kernel_rfl) (by kernel_rfl) ?_) ?_
  · (intro W hSw; obtain ⟨s0, s1, s2, s3, s4, s5⟩ := hX _ hSw; clear hSw hHeld; go_simp)
  refine Rg.take (ops := (Rg.opsOf Tryz.f20 6)) 5 (some 33) ((.pointer (some ⟨g, 1, none⟩))) hNS (by kernel_rfl) (by kernel_rfl) (by kernel_rfl) (by kernel_rfl) (by kernel_rfl) hHeld (Rg.y_field (T := 54) (k := 1) (x := (Operand.tmp 10)) (vx := (.pointer (some ⟨g, 0, none⟩))) (by kernel_rfl) (by kernel_rfl) ?_) ?_
  · (intro W hSw; clear hSw hHeld; go_simp)
  refine Rg.take (ops := (Rg.opsOf Tryz.f20 6)) 6 (some 34) ((.pointer (some ⟨g, 1, none⟩))) hNS (by kernel_rfl) (by kernel_rfl) (by kernel_rfl) (by kernel_rfl) (by kernel_rfl) hHeld (Rg.y_field (T := 52) (k := 0) (x := (Operand.tmp 33)) (vx := (.pointer (some ⟨g, 1, none⟩))) (by kernel_rfl) (by kernel_rfl) ?_) ?_
  · (intro W hSw; clear hSw hHeld; go_simp)
  refine Rg.take (ops := (Rg.opsOf Tryz.f20 6)) 7 (some 35) ((.int .i64 K)) hNS (by kernel_rfl) (by kernel_rfl) (by kernel_rfl) (by kernel_rfl) (by kernel_rfl) hHeld (Rg.y_load (T := 3) (x := (Operand.tmp 34)) (vx := (.pointer (some ⟨g, 1, none⟩))) (by kernel_rfl) (by kernel_rfl) ?_) ?_
  · (intro W hSw; obtain ⟨s0, s1, s2, s3, s4, s5⟩ := hX _ hSw; clear hSw hHeld; go_simp)
  refine Rg.call (ops := (Rg.opsOf Tryz.f20 6)) (fn := Tryz.f53) (xs := #[Operand.tmp 28, Operand.tmp 30]) (ats := #[32, 9]) 3 (some 31) 53 #[vt, (.string P)] (by kernel_rfl) (by kernel_rfl) (by kernel_rfl) (by kernel_rfl) (by kernel_rfl) Tryz.func53 (by kernel_rfl) (by kernel_rfl) (by kernel_rfl) ?_
  refine (hA _ hHeld).mono ?_
  rintro e w5 ⟨rfl, k5⟩
  refine ⟨_, rfl, k5, fun hHeld => ?_⟩
  refine Rg.take (ops := (Rg.opsOf Tryz.f20 6)) 4 (some 32) ((.int .i64 k0)) hNS (by kernel_rfl) (by kernel_rfl) (by kernel_rfl) (by kernel_rfl) (by kernel_rfl) hHeld (Rg.y_fld (T := 52) (k := 0) (x := (Operand.tmp 31)) (vx := (.agg #[.int .i64 k0, .string d0])) (by kernel_rfl) (by kernel_rfl) ?_) ?_
  · (intro W hSw; exact field0 _ _ W)
  refine Rg.take (ops := (Rg.opsOf Tryz.f20 6)) 8 (some 36) ((.bool bb)) hNS (by kernel_rfl) (by kernel_rfl) (by kernel_rfl) (by kernel_rfl) (by kernel_rfl) hHeld (Rg.y_bin (b := BinOp.eql) (T := 3) (R' := 3) (x := (Operand.tmp 32)) (y := (Operand.tmp 35)) (vx := (.int .i64 k0)) (vy := (.int .i64 K)) (by kernel_rfl) (by kernel_rfl) (by kernel_rfl) ?_) ?_
  · (intro W hSw; clear hSw hHeld; have h1 := S1; go_simp)
  refine Rg.done (ops := (Rg.opsOf Tryz.f20 6)) (by kernel_rfl) ?_
  exact ⟨by kernel_rfl, hHeld⟩
set_option maxRecDepth 100000 in
set_option maxHeartbeats 4000000 in
theorem layReg7 (ops : Array Oper) (hops : ops = (Rg.opsOf Tryz.f20 7)) (id : Nat) (q b g r : Nat) (v P p D : ByteArray) (vt : Value) (K : Int) {u1 u2 u6 u7 u8 u9 u11 u12 u13 u14 u15 u16 u17 u18 u19 u20 u21 u22 u23 u24 u25 u26 u27 u28 u29 u30 u31 u32 u33 u34 u35 u36 u37 u38 u39 u40 u41 u42 u43 u44 u45 u46 u47 u48 u49 u50 u51 u52 u53 u54 u55 u56 u57 u58 u59 u60 u61 u62 u63 : Value} {ds : List Deferred} (w : World) (X : World → Prop) (hX : ∀ W, X W → BxF q b v vt g P K D W) (hw : X w.drew) (Z : World → Prop)
    (hA : ∀ W, X W → Calls Tryz.prog 54 #[.string v, .string P] W fun e w' => e = .returned (.string p) ∧ X w' ∧ Below W.heap.size W w')
    (hB : ∀ W, X W → Below w.drew.heap.size w.drew W → Calls Tryz.prog 31 #[.pointer (some ⟨b, 0, none⟩), .string p] W fun e w' => e = .returned (.int .i64 (r : Int)) ∧ X w' ∧ Z w') :
    wpAnyH Tryz.prog .any ops (Rg.Only (fun a' w' => a' = ⟨#[(.pointer (some ⟨b, 0, none⟩)), u1, u2, (.pointer (some ⟨q, 0, none⟩)), (.pointer (some ⟨q + 1, 0, none⟩)), (.pointer (some ⟨q + 1 + 1, 0, none⟩)), u6, u7, u8, u9, (.pointer (some ⟨g, 0, none⟩)), (.int .i64 (r : Int)), u12, u13, u14, u15, u16, u17, u18, u19, u20, u21, u22, u23, u24, u25, u26, u27, u28, u29, u30, u31, u32, u33, u34, u35, u36, (.pointer (some ⟨b, 0, none⟩)), (.string v), (.pointer (some ⟨g, 0, none⟩)), (.string P), (.string p), (.int .i64 (r : Int)), u43, u44, u45, u46, u47, u48, u49, u50, u51, u52, u53, u54, u55, u56, u57, u58, u59, u60, u61, u62, u63], ds⟩ ∧ Z w')) X ops.size (Array.replicate ops.size false) ⟨#[(.pointer (some ⟨b, 0, none⟩)), u1, u2, (.pointer (some ⟨q, 0, none⟩)), (.pointer (some ⟨q + 1, 0, none⟩)), (.pointer (some ⟨q + 1 + 1, 0, none⟩)), u6, u7, u8, u9, (.pointer (some ⟨g, 0, none⟩)), u11, u12, u13, u14, u15, u16, u17, u18, u19, u20, u21, u22, u23, u24, u25, u26, u27, u28, u29, u30, u31, u32, u33, u34, u35, u36, u37, u38, u39, u40, u41, u42, u43, u44, u45, u46, u47, u48, u49, u50, u51, u52, u53, u54, u55, u56, u57, u58, u59, u60, u61, u62, u63], ds⟩ w.drew := by
  subst hops
  have hNS : Region.noSelect (Rg.opsOf Tryz.f20 7) = true := by kernel_rfl
  have hHeld : X w.drew := hw
  rw [show (Rg.opsOf Tryz.f20 7).size = 7 by kernel_rfl]
  refine Rg.take (ops := (Rg.opsOf Tryz.f20 7)) 0 (some 37) ((.pointer (some ⟨b, 0, none⟩))) hNS (by kernel_rfl) (by kernel_rfl) (by kernel_rfl) (by kernel_rfl) (by kernel_rfl) hHeld (Rg.y_load (T := 23) (x := (Operand.tmp 3)) (vx := (.pointer (some ⟨q, 0, none⟩))) (by kernel_rfl) (by kernel_rfl) ?_) ?_
  · (intro W hSw; obtain ⟨s0, s1, s2, s3, s4, s5⟩ := hX _ hSw; clear hSw hHeld; go_simp)
  refine Rg.take (ops := (Rg.opsOf Tryz.f20 7)) 1 (some 38) ((.string v)) hNS (by kernel_rfl) (by kernel_rfl) (by kernel_rfl) (by kernel_rfl) (by kernel_rfl) hHeld (Rg.y_load (T := 9) (x := (Operand.tmp 4)) (vx := (.pointer (some ⟨q + 1, 0, none⟩))) (by kernel_rfl) (by kernel_rfl) ?_) ?_
  · (intro W hSw; obtain ⟨s0, s1, s2, s3, s4, s5⟩ := hX _ hSw; clear hSw hHeld; go_simp)
  refine Rg.take (ops := (Rg.opsOf Tryz.f20 7)) 2 (some 39) ((.pointer (some ⟨g, 0, none⟩))) hNS (by kernel_rfl) (by kernel_rfl) (by kernel_rfl) (by kernel_rfl) (by kernel_rfl) hHeld (Rg.y_field (T := 54) (k := 0) (x := (Operand.tmp 10)) (vx := (.pointer (some ⟨g, 0, none⟩))) (by kernel_rfl) (by kernel_rfl) ?_) ?_
  · (intro W hSw; clear hSw hHeld; go_simp)
  refine Rg.take (ops := (Rg.opsOf Tryz.f20 7)) 3 (some 40) ((.string P)) hNS (by kernel_rfl) (by kernel_rfl) (by kernel_rfl) (by kernel_rfl) (by kernel_rfl) hHeld (Rg.y_load (T := 9) (x := (Operand.tmp 39)) (vx := (.pointer (some ⟨g, 0, none⟩))) (by kernel_rfl) (by kernel_rfl) ?_) ?_
  · (intro W hSw; obtain ⟨s0, s1, s2, s3, s4, s5⟩ := hX _ hSw; clear hSw hHeld; go_simp)
  refine Rg.call (ops := (Rg.opsOf Tryz.f20 7)) (fn := Tryz.f54) (xs := #[Operand.tmp 38, Operand.tmp 40]) (ats := #[9, 9]) 4 (some 41) 54 #[(.string v), (.string P)] (by kernel_rfl) (by kernel_rfl) (by kernel_rfl) (by kernel_rfl) (by kernel_rfl) Tryz.func54 (by kernel_rfl) (by kernel_rfl) (by kernel_rfl) ?_
  refine (hA _ hHeld).mono ?_
  rintro e w5 ⟨rfl, k5, h5⟩
  refine ⟨_, rfl, k5, fun hHeld => ?_⟩
  refine Rg.call (ops := (Rg.opsOf Tryz.f20 7)) (fn := Tryz.f31) (xs := #[Operand.tmp 37, Operand.tmp 41]) (ats := #[23, 9]) 5 (some 42) 31 #[(.pointer (some ⟨b, 0, none⟩)), (.string p)] (by kernel_rfl) (by kernel_rfl) (by kernel_rfl) (by kernel_rfl) (by kernel_rfl) Tryz.func31 (by kernel_rfl) (by kernel_rfl) (by kernel_rfl) ?_
  refine (hB _ hHeld h5).mono ?_
  rintro e w6 ⟨rfl, k6, h6⟩
  refine ⟨_, rfl, k6, fun hHeld => ?_⟩
  refine Rg.take (ops := (Rg.opsOf Tryz.f20 7)) 6 (some 11) ((.int .i64 (r : Int))) hNS (by kernel_rfl) (by kernel_rfl) (by kernel_rfl) (by kernel_rfl) (by kernel_rfl) hHeld (Rg.y_move (x := (Operand.tmp 42)) (Or.inr (by kernel_rfl)) (by kernel_rfl)) ?_
  refine Rg.done (ops := (Rg.opsOf Tryz.f20 7)) (by kernel_rfl) ?_
  exact ⟨by kernel_rfl, h6⟩
set_option maxRecDepth 100000 in
set_option maxHeartbeats 4000000 in
theorem layReg13 (ops : Array Oper) (hops : ops = (Rg.opsOf Tryz.f20 13)) (id : Nat) (q b g r : Nat) (v P p D : ByteArray) (vt : Value) (K : Int) {u1 u2 u6 u7 u8 u9 u10 u11 u12 u14 u15 u16 u17 u18 u19 u20 u21 u22 u23 u24 u25 u26 u27 u28 u29 u30 u31 u32 u33 u34 u35 u36 u37 u38 u39 u40 u41 u42 u43 u44 u45 u46 u47 u48 u49 u50 u51 u52 u53 u54 u55 u56 u57 u58 u59 u60 u61 u62 u63 : Value} {ds : List Deferred} (w : World) (X : World → Prop) (hX : ∀ W, X W → BxF q b v vt g P K D W) (hw : X w.drew) (Z : World → Prop)
    (hA : ∀ W, X W → Calls Tryz.prog 54 #[.string v, .string P] W fun e w' => e = .returned (.string p) ∧ X w' ∧ Below W.heap.size W w')
    (hB : ∀ W, X W → Below w.drew.heap.size w.drew W → Calls Tryz.prog 55 #[.pointer (some ⟨b, 0, none⟩), .string p, .agg #[.int .i64 K, .string D]] W fun e w' => e = .returned (.int .i64 (r : Int)) ∧ X w' ∧ Z w') :
    (Code.region id ops true).wp Tryz.prog (Rg.Only fun a' w' => a' = ⟨#[(.pointer (some ⟨b, 0, none⟩)), u1, u2, (.pointer (some ⟨q, 0, none⟩)), (.pointer (some ⟨q + 1, 0, none⟩)), (.pointer (some ⟨q + 1 + 1, 0, none⟩)), u6, u7, u8, u9, u10, u11, u12, (.pointer (some ⟨g, 0, none⟩)), (.int .i64 (r : Int)), u15, u16, u17, u18, u19, u20, u21, u22, u23, u24, u25, u26, u27, u28, u29, u30, u31, u32, u33, u34, u35, u36, u37, u38, u39, u40, u41, u42, u43, u44, u45, u46, u47, u48, u49, u50, u51, (.pointer (some ⟨b, 0, none⟩)), (.string v), (.pointer (some ⟨g, 0, none⟩)), (.string P), (.string p), (.pointer (some ⟨g, 1, none⟩)), (.agg #[.int .i64 K, .string D]), (.int .i64 (r : Int)), u60, u61, u62, u63], ds⟩ ∧ Z w') ⟨#[(.pointer (some ⟨b, 0, none⟩)), u1, u2, (.pointer (some ⟨q, 0, none⟩)), (.pointer (some ⟨q + 1, 0, none⟩)), (.pointer (some ⟨q + 1 + 1, 0, none⟩)), u6, u7, u8, u9, u10, u11, u12, (.pointer (some ⟨g, 0, none⟩)), u14, u15, u16, u17, u18, u19, u20, u21, u22, u23, u24, u25, u26, u27, u28, u29, u30, u31, u32, u33, u34, u35, u36, u37, u38, u39, u40, u41, u42, u43, u44, u45, u46, u47, u48, u49, u50, u51, u52, u53, u54, u55, u56, u57, u58, u59, u60, u61, u62, u63], ds⟩ w := by
  subst hops
  have hNS : Region.noSelect (Rg.opsOf Tryz.f20 13) = true := by kernel_rfl
  refine wp_region_held_drew (S := X) (by kernel_rfl) hw (fun hHeld => ?_)
  rw [show (Rg.opsOf Tryz.f20 13).size = 9 by kernel_rfl]
  refine Rg.take (ops := (Rg.opsOf Tryz.f20 13)) 0 (some 52) ((.pointer (some ⟨b, 0, none⟩))) hNS (by kernel_rfl) (by kernel_rfl) (by kernel_rfl) (by kernel_rfl) (by kernel_rfl) hHeld (Rg.y_load (T := 23) (x := (Operand.tmp 3)) (vx := (.pointer (some ⟨q, 0, none⟩))) (by kernel_rfl) (by kernel_rfl) ?_) ?_
  · (intro W hSw; obtain ⟨s0, s1, s2, s3, s4, s5⟩ := hX _ hSw; clear hSw hHeld; go_simp)
  refine Rg.take (ops := (Rg.opsOf Tryz.f20 13)) 1 (some 53) ((.string v)) hNS (by kernel_rfl) (by kernel_rfl) (by kernel_rfl) (by kernel_rfl) (by kernel_rfl) hHeld (Rg.y_load (T := 9) (x := (Operand.tmp 4)) (vx := (.pointer (some ⟨q + 1, 0, none⟩))) (by kernel_rfl) (by kernel_rfl) ?_) ?_
  · (intro W hSw; obtain ⟨s0, s1, s2, s3, s4, s5⟩ := hX _ hSw; clear hSw hHeld; go_simp)
  refine Rg.take (ops := (Rg.opsOf Tryz.f20 13)) 2 (some 54) ((.pointer (some ⟨g, 0, none⟩))) hNS (by kernel_rfl) (by kernel_rfl) (by kernel_rfl) (by kernel_rfl) (by kernel_rfl) hHeld (Rg.y_field (T := 54) (k := 0) (x := (Operand.tmp 13)) (vx := (.pointer (some ⟨g, 0, none⟩))) (by kernel_rfl) (by kernel_rfl) ?_) ?_
  · (intro W hSw; clear hSw hHeld; go_simp)
  refine Rg.take (ops := (Rg.opsOf Tryz.f20 13)) 3 (some 55) ((.string P)) hNS (by kernel_rfl) (by kernel_rfl) (by kernel_rfl) (by kernel_rfl) (by kernel_rfl) hHeld (Rg.y_load (T := 9) (x := (Operand.tmp 54)) (vx := (.pointer (some ⟨g, 0, none⟩))) (by kernel_rfl) (by kernel_rfl) ?_) ?_
  · (intro W hSw; obtain ⟨s0, s1, s2, s3, s4, s5⟩ := hX _ hSw; clear hSw hHeld; go_simp)
  refine Rg.take (ops := (Rg.opsOf Tryz.f20 13)) 5 (some 57) ((.pointer (some ⟨g, 1, none⟩))) hNS (by kernel_rfl) (by kernel_rfl) (by kernel_rfl) (by kernel_rfl) (by kernel_rfl) hHeld (Rg.y_field (T := 54) (k := 1) (x := (Operand.tmp 13)) (vx := (.pointer (some ⟨g, 0, none⟩))) (by kernel_rfl) (by kernel_rfl) ?_) ?_
  · (intro W hSw; clear hSw hHeld; go_simp)
  refine Rg.take (ops := (Rg.opsOf Tryz.f20 13)) 6 (some 58) ((.agg #[.int .i64 K, .string D])) hNS (by kernel_rfl) (by kernel_rfl) (by kernel_rfl) (by kernel_rfl) (by kernel_rfl) hHeld (Rg.y_load (T := 52) (x := (Operand.tmp 57)) (vx := (.pointer (some ⟨g, 1, none⟩))) (by kernel_rfl) (by kernel_rfl) ?_) ?_
  · (intro W hSw; obtain ⟨s0, s1, s2, s3, s4, s5⟩ := hX _ hSw; clear hSw hHeld; go_simp)
  refine Rg.call (ops := (Rg.opsOf Tryz.f20 13)) (fn := Tryz.f54) (xs := #[Operand.tmp 53, Operand.tmp 55]) (ats := #[9, 9]) 4 (some 56) 54 #[(.string v), (.string P)] (by kernel_rfl) (by kernel_rfl) (by kernel_rfl) (by kernel_rfl) (by kernel_rfl) Tryz.func54 (by kernel_rfl) (by kernel_rfl) (by kernel_rfl) ?_
  refine (hA _ hHeld).mono ?_
  rintro e w5 ⟨rfl, k5, h5⟩
  refine ⟨_, rfl, k5, fun hHeld => ?_⟩
  refine Rg.call (ops := (Rg.opsOf Tryz.f20 13)) (fn := Tryz.f55) (xs := #[Operand.tmp 52, Operand.tmp 56, Operand.tmp 58]) (ats := #[23, 9, 52]) 7 (some 59) 55 #[(.pointer (some ⟨b, 0, none⟩)), (.string p), (.agg #[.int .i64 K, .string D])] (by kernel_rfl) (by kernel_rfl) (by kernel_rfl) (by kernel_rfl) (by kernel_rfl) Tryz.func55 (by kernel_rfl) (by kernel_rfl) (by kernel_rfl) ?_
  refine (hB _ hHeld h5).mono ?_
  rintro e w6 ⟨rfl, k6, h6⟩
  refine ⟨_, rfl, k6, fun hHeld => ?_⟩
  refine Rg.take (ops := (Rg.opsOf Tryz.f20 13)) 8 (some 14) ((.int .i64 (r : Int))) hNS (by kernel_rfl) (by kernel_rfl) (by kernel_rfl) (by kernel_rfl) (by kernel_rfl) hHeld (Rg.y_move (x := (Operand.tmp 59)) (Or.inr (by kernel_rfl)) (by kernel_rfl)) ?_
  refine Rg.done (ops := (Rg.opsOf Tryz.f20 13)) (by kernel_rfl) ?_
  exact ⟨by kernel_rfl, h6⟩
end Go.Proofs.YtdpnmdnfnplcfaaGreat.Sc

namespace Go.Proofs.YtdpnmdnfnplcfaaGreat.Sc
open Go.RowKit Go.Shelf Tx Pm Pl Pr Dk
open En (tcheck)
set_option linter.unusedVariables false
attribute [local go_sem] Oper.semAt_some
theorem tree_len0 {l : List En.Et} (h : tcheck l = 0) : l.length ≤ 200 := by
  unfold tcheck at h
  split at h
  · cases h
  · omega
def entE (s : St) (v : ByteArray) (i : Nat) : En.Et := (((inside s v).map fun x => (⟨tl v x.path, nodeOf x⟩ : En.Et))[i]?).getD ⟨⟨#[]⟩, ⟨0, ⟨#[]⟩⟩⟩
theorem entE_at {s : St} {v : ByteArray} {i : Nat} {x : It} (h : (inside s v)[i]? = some x) : entE s v i = ⟨tl v x.path, nodeOf x⟩ := by
  unfold entE
  rw [List.getElem?_map, h]
  rfl
theorem entE_small {s : St} {v : ByteArray} (hp : ∀ x ∈ s.L, x.path.size ≤ 1048576) (i : Nat) : (entE s v i).path.size ≤ 1048576 := by
  unfold entE
  cases h : (inside s v)[i]? with
  | none => rw [List.getElem?_map, h]; exact Nat.zero_le _
  | some x =>
    rw [List.getElem?_map, h]
    show (tl v x.path).size ≤ _
    have := hp x (List.mem_filter.1 (List.mem_of_getElem? h)).1
    unfold tl
    rw [ByteArray.size_extract]
    omega
structure RmI (b n N : Nat) (F : Nat → Prop) (s : St) (v : ByteArray) (t : List En.Et) (W2 : World) (pre : List Nat) (W : World) (sx : St) : Prop where
  at_ : ImpAt b W F sx
  chg : Chg F W2 W
  inv : Inv sx (n + pre.length) ((n + pre.length) * 1048576)
  wf : Wf sx.L
  le : pre.length ≤ N
  rem : pre = down N pre.length → Rem (n + pre.length) s sx v t (N - pre.length)
theorem down_snoc {N : Nat} {pre : List Nat} {x : Nat} (h : pre ++ [x] = down N (pre ++ [x]).length) : pre = down N pre.length ∧ x = N - 1 - pre.length := by
  rw [List.length_append, List.length_singleton, down_succ] at h
  have h2 := List.append_inj' h rfl
  exact ⟨h2.1, by injection h2.2⟩
theorem RmI.turn {b n N B : Nat} {F : Nat → Prop} {s : St} {v : ByteArray} {t : List En.Et} {W2 W W' : World} {pre : List Nat} {sx : St} {row : Option Nat} (h : RmI b n N F s v t W2 pre W sx) (hF : ∀ i, F i → i < B) (hB : W2.heap.size = B) (hg : W.grownBy W' row) (hr : ∀ r, row = some r → B ≤ r) : RmI b n N F s v t W2 pre W' sx := by
  have hlt := (imp_kind b).lt h.at_
  refine ⟨(imp_kind b).kept h.at_ (fun i hi => hg.block i (hlt i hi) (fun e => by have := hr i e.symm; have := hF i hi; omega)), ?_, h.inv, h.wf, h.le, h.rem⟩
  refine ⟨hg.os.trans h.chg.os, hg.tape.trans h.chg.tape, hg.output.trans h.chg.output, Nat.le_trans h.chg.size hg.size, fun i hi hn => ?_⟩
  exact (hg.block i (Nat.lt_of_lt_of_le hi h.chg.size) (fun e => by have := hr i e.symm; omega)).trans (h.chg.block i hi hn)
theorem inv_ok {s : St} {i : Nat} (h : Inv s i (i * 1048576)) (hi : i ≤ 100000) : Ok s := by
  have hl := h.len
  have hw := whole_le (B := i * 1048576) (fun x hx => (h.size x hx).1)
  have hm : s.L.length * (i * 1048576) ≤ 100000 * (100000 * 1048576) := Nat.mul_le_mul (Nat.le_trans hl hi) (Nat.mul_le_mul_right _ hi)
  exact ⟨⟨by omega, fun x hx => by have := h.path x hx; omega, by omega⟩, by have := h.rooms; omega, by have := h.steps; omega, by have := h.stamps; omega, by have := h.armed; omega⟩
theorem keeps_below {B : Nat} {W W' : World} (h : Below W.heap.size W W') : KeepsFrom B W W' := ⟨h.size, fun k o _ hk _ => (h.block k (Array.getElem?_eq_some_iff.1 hk).1).trans hk⟩
theorem kp_below {n₀ : Nat} {F : Nat → Prop} {W W' : World} (h : Below W.heap.size W W') (hn : n₀ ≤ W.heap.size) : KpF n₀ F W W' := ⟨h.size, fun q hq _ => h.block q (Nat.lt_of_lt_of_le hq hn)⟩
theorem keeps_chg {B : Nat} {F : Nat → Prop} {W W' : World} (h : Chg F W W') (hF : ∀ i, F i → i < B) : KeepsFrom B W W' := ⟨h.size, fun k o hB hk _ => (h.block k (Array.getElem?_eq_some_iff.1 hk).1 (fun hf => by have := hF k hf; omega)).trans hk⟩
theorem kp_chg {n₀ : Nat} {F : Nat → Prop} {W W' : World} (h : Chg F W W') (hn : n₀ ≤ W.heap.size) : KpF n₀ F W W' := ⟨h.size, fun q hq hf => h.block q (Nat.lt_of_lt_of_le hq hn) hf⟩
theorem Rem.more {N M : Nat} {s0 s : St} {v : ByteArray} {t : List En.Et} {i : Nat} (h : Rem N s0 s v t i) (hM : N ≤ M) (hm : M ≤ 100000) : Rem M s0 s v t i := ⟨h.rb.mono hM hm, h.stamps, h.vol, h.others, h.mem⟩
theorem down_in {N : Nat} {s : St} {v : ByteArray} {pre : List Nat} {x : Nat} (hN : N = (inside s v).length) (hlt : pre.length < N) (h : pre ++ [x] = down N (pre ++ [x]).length) : pre = down N pre.length ∧ N - pre.length = x + 1 ∧ N - (pre ++ [x]).length = x ∧ ∃ y, (inside s v)[x]? = some y ∧ entE s v x = ⟨tl v y.path, nodeOf y⟩ := by
  obtain ⟨h1, h2⟩ := down_snoc h
  refine ⟨h1, by omega, by rw [List.length_append, List.length_singleton]; omega, ?_⟩
  obtain ⟨y, hy⟩ : ∃ y, (inside s v)[x]? = some y := ⟨_, List.getElem?_eq_getElem (by omega)⟩
  exact ⟨y, hy, entE_at hy⟩
theorem RmI.stay {b n N : Nat} {F : Nat → Prop} {s : St} {v : ByteArray} {t : List En.Et} {W2 W W' : World} {pre : List Nat} {x : Nat} {sx : St} (h : RmI b n N F s v t W2 pre W sx) (hN : N = (inside s v).length) (hlt : pre.length < N) (hn : n + N ≤ 100000) (hb : Below W.heap.size W W')
    (hk : (En.tget t (entE s v x).path).kind = (entE s v x).node.kind) : RmI b n N F s v t W2 (pre ++ [x]) W' sx := by
  have hl : (pre ++ [x]).length = pre.length + 1 := by simp
  refine ⟨imp_below h.at_ hb, h.chg.then (Chg.of_below hb), ?_, h.wf, by omega, fun hg => ?_⟩
  · have := h.inv.more
    rw [hl, ← Nat.add_assoc, step_mul]
    exact this
  · obtain ⟨g1, g2, g3, y, hy, hey⟩ := down_in hN hlt hg
    have hr := h.rem g1
    rw [g2] at hr
    rw [g3, hl]
    rw [hey] at hk
    exact (rem_stay hr hy hk).more (by omega) (by omega)
theorem joi_vp {v P : ByteArray} (hv : v ≠ ⟨#[]⟩) (hP : P ≠ ⟨#[]⟩) : tb (joi v.data.toList P.data.toList) = vp v P := by
  rw [joi_ne (list_ne hv) (list_ne hP)]
  apply ByteArray.ext
  apply Array.toList_inj.1
  rw [vp_list]
  rfl
theorem rem_step {b n N : Nat} {F : Nat → Prop} {s : St} {v : ByteArray} {t : List En.Et} {W2 W : World} {pre : List Nat} {x : Nat} {sx : St} (h : RmI b n N F s v t W2 pre W sx) (hv : chk v.data.toList 1 = 0) (ht : tcheck t = 0) (h0 : Rb n s) (hw : Wf s.L) (hN : N = (inside s v).length) (hlt : pre.length < N) (hn : n + N ≤ 100000)
    (hk : ¬ (En.tget t (entE s v x).path).kind = (entE s v x).node.kind) (hg : pre ++ [x] = down N (pre ++ [x]).length) :
    (removeS sx (tb (joi v.data.toList (entE s v x).path.data.toList))).1 = 0 ∧ Rem (n + (pre ++ [x]).length) s (removeS sx (tb (joi v.data.toList (entE s v x).path.data.toList))).2 v t (N - (pre ++ [x]).length) := by
  have hl : (pre ++ [x]).length = pre.length + 1 := by simp
  obtain ⟨g1, g2, g3, y, hy, hey⟩ := down_in hN hlt hg
  have hr := h.rem g1
  rw [g2] at hr
  rw [hey] at hk
  obtain ⟨hy1, hy2⟩ := List.mem_filter.1 (List.mem_of_getElem? hy)
  have hv0 := vol_name hv
  have hyp := inV_at hv0 hy2
  have hne : tl v y.path ≠ ⟨#[]⟩ := fun e => by
    have h1 := hw.names y hy1
    rw [hyp, e, vp_list] at h1
    obtain ⟨_, h2⟩ := ok_of h1
    exact good_ne (good_cut h2).2 rfl
  have e2 : tb (joi v.data.toList (entE s v x).path.data.toList) = y.path := by
    rw [hey]
    show tb (joi v.data.toList (tl v y.path).data.toList) = _
    rw [joi_vp hv0 hne]
    exact hyp.symm
  rw [e2, g3, hl]
  have hs : ¬ stays v t y := hk
  exact rem_go (N := n + pre.length) hv ht (h0.mono (by omega) (by omega)) hr hy hs (hw.names y hy1) (by omega)
theorem RmI.go {b n N : Nat} {F : Nat → Prop} {s : St} {v : ByteArray} {t : List En.Et} {W2 W W' : World} {pre : List Nat} {x : Nat} {sx : St} {p : ByteArray} (h : RmI b n N F s v t W2 pre W sx) (hlt : pre.length < N) (hx : Nx b W F (removeS sx p).2 W')
    (hr : pre ++ [x] = down N (pre ++ [x]).length → Rem (n + (pre ++ [x]).length) s (removeS sx p).2 v t (N - (pre ++ [x]).length)) : RmI b n N F s v t W2 (pre ++ [x]) W' (removeS sx p).2 := by
  have hl : (pre ++ [x]).length = pre.length + 1 := by simp
  refine ⟨hx.1, h.chg.then hx.2, ?_, wf_remove p h.wf, by omega, hr⟩
  have := inv_remove (p := p) h.inv
  rw [hl, ← Nat.add_assoc, step_mul]
  exact this
theorem cells_threeS {w1 : World} {b : Nat} {u v x : Value} {t : TypeId} (h : w1.heap[b]? = some (.cells #[u, v, x] t)) : w1.cell? ⟨b, 0, none⟩ = some u ∧ w1.cell? ⟨b, 1, none⟩ = some v ∧ w1.cell? ⟨b, 2, none⟩ = some x ∧ ∀ k, w1.frozen? ⟨b, k, none⟩ = false := by
  refine ⟨?_, ?_, ?_, fun k => frozen_of_row w1 b k _ _ h⟩ <;> simp [World.cell?, h]
theorem BxF.below {q b g : Nat} {v P D : ByteArray} {vt : Value} {K : Int} {W W' : World} (h : BxF q b v vt g P K D W) (hb : Below W.heap.size W W') (hq : q + 1 + 1 < W.heap.size) (hg : g < W.heap.size) : BxF q b v vt g P K D W' :=
  ⟨(hb.cell (p := ⟨q, 0, none⟩) (by show q < _; omega)).trans h.d, (hb.cell (p := ⟨q + 1, 0, none⟩) (by show q + 1 < _; omega)).trans h.v, (hb.cell (p := ⟨q + 1 + 1, 0, none⟩) hq).trans h.t, (hb.cell (p := ⟨g, 0, none⟩) hg).trans h.p, (hb.cell (p := ⟨g, 1, none⟩) hg).trans h.k, (hb.cell (p := ⟨g, 2, none⟩) hg).trans h.n⟩
theorem BxF.drew {q b g : Nat} {v P D : ByteArray} {vt : Value} {K : Int} {W : World} (h : BxF q b v vt g P K D W) : BxF q b v vt g P K D W.drew := ⟨h.d, h.v, h.t, h.p, h.k, h.n⟩
theorem BxF.chg {q b g : Nat} {v P D : ByteArray} {vt : Value} {K : Int} {F : Nat → Prop} {W W' : World} (h : BxF q b v vt g P K D W) (hb : Chg F W W') (hF : ∀ i, F i → i < q) (hq : q + 1 + 1 < W.heap.size) (hg : g < W.heap.size) (hqg : q ≤ g) : BxF q b v vt g P K D W' := by
  have key : ∀ x k, x < W.heap.size → q ≤ x → W'.cell? ⟨x, k, none⟩ = W.cell? ⟨x, k, none⟩ := fun x k hx hqx => World.cell?_of_block (a := ⟨x, k, none⟩) (hb.block x hx (fun hf => by have := hF x hf; omega))
  exact ⟨(key q 0 (by omega) (Nat.le_refl _)).trans h.d, (key (q + 1) 0 (by omega) (by omega)).trans h.v, (key (q + 1 + 1) 0 hq (by omega)).trans h.t, (key g 0 hg hqg).trans h.p, (key g 1 hg hqg).trans h.k, (key g 2 hg hqg).trans h.n⟩
theorem Mid.more {N M : Nat} {s0 s : St} {v : ByteArray} {t : List En.Et} {k : Nat} (h : Mid N s0 s v t k) (hM : N ≤ M) (hm : M ≤ 100000) : Mid M s0 s v t k := ⟨h.rb.mono hM hm, h.up, h.vol, h.others, h.done, h.rest, h.keep⟩
theorem put_mid {b M : Nat} {s sx : St} {v : ByteArray} {t : List En.Et} {k : Nat} {e : En.Et} (hv : chk v.data.toList 1 = 0) (ht : tcheck t = 0) (h : Mid M s sx v t k) (hM : M + 2 ≤ 100000) (he : t[k]? = some e) (wf : Wf sx.L) :
    ∃ sx', (∀ F W, ImpAt b W F sx → Calls Tryz.prog 55 #[.pointer (some ⟨b, 0, none⟩), .string (vp v e.path), .agg #[.int .i64 e.node.kind, .string e.node.data]] W fun e w' => e = .returned (.int .i64 ((0 : Nat) : Int)) ∧ Nx b W F sx' w') ∧ Mid (M + 2) s sx' v t (k + 1) ∧ Wf sx'.L := by
  obtain ⟨hc, hw, hk0, _⟩ := En.tree_at ht he
  obtain ⟨c1, c2⟩ := chk_vp hv hc
  have hps : (vp v e.path).size ≤ 1000 := chk_short c1 (by omega)
  have hM2 := h.rb.n
  obtain ⟨P, ⟨K, Dt⟩⟩ := e
  simp only at hps hw hk0 ⊢
  by_cases hk : K = 2
  · subst hk
    have hd4 : Dt.size ≤ 4096 := by
      unfold En.whole at hw
      rw [if_pos rfl] at hw
      exact of_decide_eq_true hw
    by_cases hs : ∃ x ∈ sx.L, x.path = vp v P ∧ nodeOf x = ⟨2, Dt⟩
    · have hs2 := hs
      obtain ⟨x, hx, hxp, hxn⟩ := hs2
      have hxd : x.dir = false ∧ x.data = Dt := by
        unfold nodeOf at hxn
        cases hd : x.dir
        · rw [hd] at hxn
          exact ⟨rfl, by injection hxn⟩
        · rw [hd] at hxn
          injection hxn with h1 _
          cases h1
      have hf : find sx.L (vp v P) = some x := by rw [← hxp]; exact Sc.find_one wf.rises hx
      have hkd : Dk.kind sx.L (vp v P) = 2 := by rw [Dk.kind, hf]; show (if x.dir then 1 else 2) = 2; rw [hxd.1]; rfl
      have hrd : (readS sx (vp v P)).1 = Dt := by unfold readS; rw [h.rb.up, if_neg (by decide), hf]; simp only [hxd.1]; exact hxd.2
      exact ⟨sx, fun F W hI => (put_same hI (by omega) hkd hrd).mono fun e w' ⟨h1, h2⟩ => ⟨h1, nx_below hI h2⟩, (mid_has h he hs).more (by omega) (by omega), wf⟩
    · obtain ⟨w1, w2, w3, w4⟩ := mid_file hv ht h (by omega) he rfl (fun y hy hd hp hn => hs ⟨y, hy, hp, hn⟩)
      simp only at w1 w2 w3 w4
      refine ⟨_, fun F W hI => (put_file hI (inv_ok h.rb.inv h.rb.n) (by omega) (by omega) ?_ w1 (inv_ok w2.inv w2.n)).mono fun e w' ⟨h1, h2⟩ => ⟨by rw [h1, w3], h2⟩, w4, wf_sync _ (wf_write _ _ wf)⟩
      rintro ⟨h1, h2⟩
      have h1 : Dk.kind sx.L (vp v P) = 2 := by omega
      rw [Dk.kind] at h1
      cases hf : find sx.L (vp v P) with
      | none => rw [hf] at h1; cases h1
      | some y =>
        rw [hf] at h1
        have hyd : y.dir = false := by
          cases hd : y.dir
          · rfl
          · exact absurd h1 (by show ¬ (if y.dir then 1 else 2) = 2; rw [hd]; decide)
        unfold readS at h2
        rw [h.rb.up, if_neg (by decide), hf] at h2
        simp only [hyd] at h2
        refine hs ⟨y, (find_mem hf).1, (find_mem hf).2, ?_⟩
        unfold nodeOf
        rw [hyd]
        show (⟨2, y.data⟩ : En.Nd) = ⟨2, Dt⟩
        rw [show y.data = Dt from h2]
  · have hK1 : K = 1 := by
      unfold En.whole at hw
      rw [if_neg hk] at hw
      simp only [Bool.and_eq_true, Bool.or_eq_true, decide_eq_true_eq] at hw
      exact hw.1.resolve_left hk0
    subst hK1
    obtain ⟨m1, m2⟩ := mid_dir hv ht h (by omega) he rfl
    simp only at m1 m2
    exact ⟨_, fun F W hI => (put_dir hI (inv_ok h.rb.inv h.rb.n) (by omega)).mono fun e w' ⟨h1, h2⟩ => ⟨by rw [h1, m1], h2⟩, m2.more (by omega) (by omega), wf_mkdir _ wf⟩
structure MdI (b M : Nat) (F : Nat → Prop) (s : St) (v : ByteArray) (t : List En.Et) (W2 : World) (D k : Nat) (W : World) (sx : St) : Prop where
  at_ : ImpAt b W F sx
  chg : Chg F W2 W
  mid : Mid M s sx v t k
  wf : Wf sx.L
  dfr : W.heap[D]? = some (.deferred (some []))
theorem chg_grown {B : Nat} {F : Nat → Prop} {w W W' : World} {row : Option Nat} (h : Chg F w W) (hw : w.heap.size ≤ B) (hg : W.grownBy W' row) (hr : ∀ r, row = some r → B ≤ r) : Chg F w W' :=
  ⟨hg.os.trans h.os, hg.tape.trans h.tape, hg.output.trans h.output, Nat.le_trans h.size hg.size, fun i hi hn => (hg.block i (Nat.lt_of_lt_of_le hi h.size) (fun e => by have := hr i e.symm; omega)).trans (h.block i hi hn)⟩
theorem cell_of {W : World} {q : Nat} {u : Value} {T : TypeId} (h : W.heap[q]? = some (.cells #[u] T)) : W.cell? ⟨q, 0, none⟩ = some u := by simp [World.cell?, h]
set_option maxRecDepth 100000 in
set_option maxHeartbeats 4000000 in
theorem lay_any {b : Nat} {w : World} {F : Nat → Prop} {s : St} {n : Nat} (v : ByteArray) (A : Option Addr) (m c : Nat) (t : List En.Et) (h : ImpAt b w F s) (lk : Lk s) (rb : Rb n s) (hn : n ≤ 50000) (hv : chk v.data.toList 1 = 0) (hk : Dk.kind s.L v = 1) (hE : En.Ents w A m t) (ht : tcheck t = 0)
    (hd : m = 0 ∨ ∀ x, A = some x → ¬ F x.block) (hin : (inside s v).length ≤ 200) :
    Calls Tryz.prog 20 #[.pointer (some ⟨b, 0, none⟩), .string v, .slice A m c] w fun e w' => e = .returned (.int .i64 0) ∧ ∃ s', Laid n s s' v t ∧ Nx b w F s' w' ∧ Wf s'.L := by
  have hvs : v.size ≤ 1048576 := Nat.le_trans (chk_short hv (by omega)) (by omega)
  have he : err15 s v = 0 := by unfold err15; rw [if_neg (by rw [hv]; decide), if_neg (by rw [rb.up]; decide), if_neg (by rw [hk]; decide)]
  have hwk : wkS s v = ((inside s v).map (fun x => ⟨tl v x.path, nodeOf x⟩), 0) := by unfold wkS; rw [if_neg (by rw [he]; decide)]; rfl
  have cw := fun W (hW : Below w.heap.size w W) => walk_any (v := v) (imp_below h hW) lk rb.stp hvs
  rw [hwk] at cw
  obtain ⟨W0, hW0⟩ : ∃ W0, (((w.alloc (.cells #[.pointer (some ⟨b, 0, none⟩)] 23)).alloc (.cells #[.string v] 9)).alloc (.cells #[.slice A m c] 32)).alloc (.cells #[.int .i64 0] 33) = W0 := ⟨_, rfl⟩
  have hB0 : Below w.heap.size w W0 := by rw [← hW0]; exact ((((Below.refl _ w).alloc (Nat.le_refl _) _).alloc (by simp) _).alloc (by simp; omega) _).alloc (by simp; omega) _
  have hs0 : W0.heap.size = w.heap.size + 4 := by rw [← hW0]; simp
  have x3 : W0.heap[w.heap.size]? = some (.cells #[.pointer (some ⟨b, 0, none⟩)] 23) := by
    rw [← hW0]
    exact (Below.heap_alloc _ _ _ (by simp <;> omega)).trans ((Below.heap_alloc _ _ _ (by simp <;> omega)).trans ((Below.heap_alloc _ _ _ (by simp)).trans (heap_alloc_new _ _)))
  have x4 : W0.heap[w.heap.size + 1]? = some (.cells #[.string v] 9) := by
    rw [← hW0]
    have := heap_alloc_new (w.alloc (.cells #[.pointer (some ⟨b, 0, none⟩)] 23)) (.cells #[.string v] 9)
    rw [World.size_alloc] at this
    exact (Below.heap_alloc _ _ _ (by simp <;> omega)).trans ((Below.heap_alloc _ _ _ (by simp)).trans this)
  have x5 : W0.heap[w.heap.size + 1 + 1]? = some (.cells #[.slice A m c] 32) := by
    rw [← hW0]
    have := heap_alloc_new ((w.alloc (.cells #[.pointer (some ⟨b, 0, none⟩)] 23)).alloc (.cells #[.string v] 9)) (.cells #[.slice A m c] 32)
    rw [World.size_alloc, World.size_alloc] at this
    exact (Below.heap_alloc _ _ _ (by simp)).trans this
  have x6 : W0.heap[w.heap.size + 1 + 1 + 1]? = some (.cells #[.int .i64 0] 33) := by
    rw [← hW0]
    have := heap_alloc_new (((w.alloc (.cells #[.pointer (some ⟨b, 0, none⟩)] 23)).alloc (.cells #[.string v] 9)).alloc (.cells #[.slice A m c] 32)) (.cells #[.int .i64 0] 33)
    rw [World.size_alloc, World.size_alloc, World.size_alloc] at this
    exact this
  have HW : Hid (∀ W, Below w.heap.size w W → CallsIn Fence.wide 8 Tryz.prog 9 #[.pointer (some ⟨b, 0, none⟩), .string v] W fun e w' => ∃ v', e = .returned (.tuple #[v', .int .i64 0]) ∧ En.Own w' W.heap.size v' ((inside s v).map fun x => ⟨tl v x.path, nodeOf x⟩) ∧ Below W.heap.size W w') := fun W hW => callsIn_wide.2 (cw W hW)
  clear cw
  refine (callsIn_wide (n := 9)).1 ?_
  refine callsIn_of_wp_marks Tryz.func20 rfl trivial ?_ rfl
  simp only [Tryz.ntmps20, List.size_toArray, List.length_cons, List.length_nil, Nat.reduceAdd, Nat.reduceSub, Array.replicate_succ, Array.replicate_zero, List.push_toArray, List.append_toArray, List.nil_append, List.cons_append]
  have y3 := cell_of x3
  have y4 := cell_of x4
  have y5 := cell_of x5
  have hcur := HW.out _ hB0
  gi_wp2
  refine ⟨trivial, hcur.mono ?_⟩
  rintro e w1 ⟨vs, rfl, ho1, hb1⟩
  clear hcur hW0
  obtain ⟨a, cap, rfl, hEn, _, _⟩ := En.Own.form ho1
  rw [List.length_map] at hEn ⊢
  obtain ⟨N, hN⟩ : ∃ N, N = (inside s v).length := ⟨_, rfl⟩
  have HN := Lib.hid hN
  rw [← hN] at hEn hin ⊢
  clear hN
  have z3 := (hb1.block w.heap.size (by omega)).trans x3
  have z4 := (hb1.block (w.heap.size + 1) (by omega)).trans x4
  have z5 := (hb1.block (w.heap.size + 1 + 1) (by omega)).trans x5
  have z6 := (hb1.block (w.heap.size + 1 + 1 + 1) (by omega)).trans x6
  clear x3 x4 x5 x6 y3 y4 y5
  gi_wp2
  refine ⟨trivial, (back_in Fence.wide _ trivial rfl _ _ _ _).mono ?_⟩
  rintro e w2 ⟨rfl, rfl⟩
  gi_wp2
  obtain ⟨W2, hW2⟩ : ∃ W2, w1.alloc (.cells #[.slice a N cap] 32) = W2 := ⟨_, rfl⟩
  have hs2 : W2.heap.size = w1.heap.size + 1 := by rw [← hW2]; simp
  have hb2 : Below w1.heap.size w1 W2 := by rw [← hW2]; exact (Below.refl _ _).alloc (Nat.le_refl _) _
  have hbs : W2.heap[w1.heap.size]? = some (.cells #[.slice a N cap] 32) := by rw [← hW2]; exact heap_alloc_new _ _
  have hbw : Below w.heap.size w W2 := (hB0.trans (hb1.mono hB0.size)).trans (hb2.mono (Nat.le_trans hB0.size hb1.size))
  have hs1 : W0.heap.size ≤ w1.heap.size := hb1.size
  have hF : ∀ i, F i → i < w.heap.size := (imp_kind b).lt h
  have hEt : EtsB W2.heap.size F W2 a N (entE s v) := by
    rcases hEn.2 with h0 | ⟨g, off, ha, hg, hc⟩
    · exact .inl h0
    · refine .inr ⟨g, off, ha, by omega, fun hf => ?_, fun j hj => ?_⟩
      · have h1 := hF g hf
        have h2 := (World.ownsRow.lt ho1 g (by rw [ha]; rfl)).1
        omega
      · obtain ⟨x, hx⟩ : ∃ x, (inside s v)[j]? = some x := ⟨_, List.getElem?_eq_getElem (by rw [← HN.out]; exact hj)⟩
        obtain ⟨c0, c1, c2⟩ := hc j ⟨tl v x.path, nodeOf x⟩ (by rw [List.getElem?_map, hx]; rfl)
        rw [entE_at hx]
        exact ⟨(hb2.cell (p := ⟨g, _, none⟩) hg).trans c0, (hb2.cell (p := ⟨g, _, none⟩) hg).trans c1, (hb2.cell (p := ⟨g, _, none⟩) hg).trans c2⟩
  have hw4 : w.heap.size + 4 ≤ W2.heap.size := by omega
  have HQ : Hid (∀ W, Chg F W2 W → W.heap[w.heap.size]? = some (.cells #[.pointer (some ⟨b, 0, none⟩)] 23) ∧ W.heap[w.heap.size + 1]? = some (.cells #[.string v] 9) ∧ W.heap[w.heap.size + 1 + 1]? = some (.cells #[.slice A m c] 32) ∧ W.heap[w.heap.size + 1 + 1 + 1]? = some (.cells #[.int .i64 0] 33)) := fun W hW =>
    have key : ∀ q, w.heap.size ≤ q → q < w1.heap.size → W.heap[q]? = w1.heap[q]? := fun q hq hlt => (hW.block q (by omega) (fun hf => by have := hF q hf; omega)).trans (hb2.block q hlt)
    ⟨(key _ (by omega) (by omega)).trans z3, (key _ (by omega) (by omega)).trans z4, (key _ (by omega) (by omega)).trans z5, (key _ (by omega) (by omega)).trans z6⟩
  have HE : Hid (∀ W, Chg F W2 W → En.Ents W A m t) := fun W hW => by
    refine ⟨hE.1, ?_⟩
    rcases hE.2 with h0 | ⟨g, off, ha, hg, hc⟩
    · exact .inl h0
    · refine .inr ⟨g, off, ha, by have := hW.size; have := hbw.size; omega, fun k x hx => ?_⟩
      obtain ⟨c0, c1, c2⟩ := hc k x hx
      have hgf : m ≠ 0 → ¬ F g := fun hm => hd.resolve_left hm _ ha
      have hm0 : m ≠ 0 := by have := (List.getElem?_eq_some_iff.1 hx).1; have := hE.1; omega
      have key : ∀ o, W.cell? ⟨g, o, none⟩ = w.cell? ⟨g, o, none⟩ := fun o => (World.cell?_of_block (a := ⟨g, o, none⟩) (hW.block g (by have := hbw.size; omega) (hgf hm0))).trans (hbw.cell (p := ⟨g, o, none⟩) hg)
      exact ⟨(key _).trans c0, (key _).trans c1, (key _).trans c2⟩
  have HI0 : Hid (RmI b n N F s v t W2 [] W2 s) := by
    refine ⟨imp_below h hbw, ⟨rfl, rfl, rfl, Nat.le_refl _, fun _ _ _ => rfl⟩, rb.inv, lk.wf, Nat.zero_le _, fun _ => ?_⟩
    have := rem_start (v := v) (t := t) rb hk
    rw [← HN.out] at this
    exact this
  have hGet : Hid (∀ (p : ByteArray) (W : World), Chg F W2 W → Calls Tryz.prog 53 #[.slice A m c, .string p] W fun e w' => e = .returned (.agg #[.int .i64 (En.tget t p).kind, .string (En.tget t p).data]) ∧ Below W.heap.size W w') := fun p W hW => En.getR_any A m c t p W (HE.out W hW) (En.tree_paths ht) (by have := tree_len0 ht; rw [hE.1] at this; omega)
  have hJoin : Hid (∀ (p : ByteArray) (W : World), p.size ≤ 1048576 → Calls Tryz.prog 54 #[.string v, .string p] W fun e w' => e = .returned (.string (tb (joi v.data.toList p.data.toList))) ∧ Below W.heap.size W w') := fun p W hp => pJoin_any v p W (by omega)
  rw [hW2]
  clear hW2 z3 z4 z5 z6 hEn ho1 hb1 hb2 hs0
  refine wpIn_rangeFunc_ownH rfl (by omega) (gf := 96) (lb := #[.pointer (some ⟨w1.heap.size, 0, none⟩)]) rfl trivial (enters_of Tryz.func96 (by kernel_rfl) rfl)
    (back_stops Fence.wide 8 trivial rfl (by omega) w1.heap.size W2.heap.size N cap a (entE s v) F (by omega) W2 (by omega) (fun hf => by have := hF _ hf; have := hB0.size; omega) (Nat.le_refl _) (cell_of hbs) hEt)
    KpF.trans (fun W l o o' hl ho _ _ => ⟨by simp [World.putObj], fun q hq _ => World.putObj_heap_other (by omega)⟩) (Below.refl _ _) (fun _ => rfl)
    (fun pre W => ∃ sx, RmI b n N F s v t W2 pre W sx) (fun _ pre _ => ¬ pre = down N pre.length)
    (fun pre W W' row hs hg hr => by obtain ⟨sx, hs⟩ := hs; exact ⟨sx, hs.turn (fun i hi => by have := hF i hi; have := hbw.size; omega) rfl hg (fun r e => (hr r e).1)⟩)
    (fun _ => ownFrom_pure _ _) ⟨s, HI0.out⟩
    (fun x a' W => ∃ Bx, W2.heap.size ≤ Bx ∧ W.heap[Bx]? = some (.cells #[.string (entE s v x).path, .int .i64 (entE s v x).node.kind, .string (entE s v x).node.data] 54) ∧ a' = { tmps := #[(.pointer (some ⟨b, 0, none⟩)), (.string v), (.slice A m c), (.pointer (some ⟨w.heap.size, 0, none⟩)), (.pointer (some ⟨w.heap.size + 1, 0, none⟩)), (.pointer (some ⟨w.heap.size + 1 + 1, 0, none⟩)), (.pointer (some ⟨w.heap.size + 1 + 1 + 1, 0, none⟩)), (.slice a N cap), (.int .i64 0), undef, (.pointer (some ⟨Bx, 0, none⟩)), undef, undef, undef, undef, (.tuple #[.slice a N cap, .int .i64 0]), (.pointer (some ⟨b, 0, none⟩)), (.string v), (.tuple #[.slice a N cap, .int .i64 0]), (.slice a N cap), (.int .i64 0), (.int .i64 0), (.bool false), undef, (.slice a N cap), (.func (.func 96) #[] #[.pointer (some ⟨w1.heap.size, 0, none⟩)]), (.int .i64 (x : Int)), (.agg #[.string (entE s v x).path, .int .i64 (entE s v x).node.kind, .string (entE s v x).node.data]), undef, undef, undef, undef, undef, undef, undef, undef, undef, undef, undef, undef, undef, undef, undef, undef, undef, undef, undef, undef, undef, undef, undef, undef, undef, undef, undef, undef, undef, undef, undef, undef, undef, undef, undef, undef], defers := [] })
    (fun x a' _ X Y row hs hg hr => by
      obtain ⟨Bx, e1, e2, e3⟩ := hs
      exact ⟨Bx, e1, (hg.block Bx (Array.getElem?_eq_some_iff.1 e2).1 (fun e => by obtain ⟨_, o, ho, hc⟩ := hr Bx e.symm; rw [e2] at ho; cases ho; cases hc)).trans e2, e3⟩)
    ?assign ?body ?done ?stop
  case assign =>
    rintro l pre x W K ⟨sx, hi⟩ hK
    have hsz := hi.chg.size
    gi_wp2
    exact hK _ _ ((KeepsOthers.alloc _ _).from _) ⟨by simp, fun q hq _ => Below.heap_alloc _ _ _ (by omega)⟩ ⟨sx, hi.turn (fun i hi => by have := hF i hi; have := hbw.size; omega) rfl (World.grownBy_alloc W _ none) (fun r e => by cases e)⟩ ⟨W.heap.size, hsz, heap_alloc_new _ _, rfl⟩
  case body =>
    rintro l pre x a' W hl hr ⟨sx, hi⟩ ⟨Bx, hBx, hbx, rfl⟩ hlt
    obtain ⟨y3, y4, y5, y6⟩ := HQ.out W hi.chg
    have hszW := hi.chg.size
    have hsz0 := hbw.size
    have hq4 : w.heap.size + 1 + 1 + 1 < W.heap.size := (Array.getElem?_eq_some_iff.1 y6).1
    have hbxl := (Array.getElem?_eq_some_iff.1 hbx).1
    have hps := entE_small rb.inv.path x (v := v)
    obtain ⟨e0, e1, e2, e3⟩ := cells_threeS hbx
    have HX : Hid (BxF w.heap.size b v (.slice A m c) Bx (entE s v x).path (entE s v x).node.kind (entE s v x).node.data W) := ⟨cell_of y3, cell_of y4, cell_of y5, e0, e1, e2⟩
    have hmx : Tryz.prog.follows .mixedOrders = true := by kernel_rfl
    have HI := Lib.hid hi
    have HY := Lib.hid y6
    have HP := Lib.hid hps
    clear hi y3 y4 y5 y6 e0 e1 e2 e3 hbx hps
    by_cases hkk : (En.tget t (entE s v x).path).kind = (entE s v x).node.kind
    · have f1 : ((En.tget t (entE s v x).path).kind == (entE s v x).node.kind) = true := beq_iff_eq.2 hkk
      have HKK := Lib.hid hkk
      clear hkk
      gi_wp2
      refine Rg.only_in ?_ (Rg.held_in hmx (by kernel_rfl) (layReg6 _ (by kernel_rfl) 0 w.heap.size b Bx v (entE s v x).path (entE s v x).node.data (En.tget t (entE s v x).path).data (.slice A m c) (entE s v x).node.kind (En.tget t (entE s v x).path).kind true W
        (fun W' => Below W.heap.size W W' ∧ BxF w.heap.size b v (.slice A m c) Bx (entE s v x).path (entE s v x).node.kind (entE s v x).node.data W') (fun W' h => h.2) ⟨(Below.refl _ _).drew, HX.out.drew⟩ f1
        (fun W' h => (hGet.out _ W' (HI.out.chg.then (Chg.of_below h.1))).mono fun e w' ⟨he, hb⟩ => ⟨he, h.1.trans (hb.mono h.1.size), h.2.below hb (by have := h.1.size; omega) (by have := h.1.size; omega)⟩)))
      rintro _ w9 ⟨rfl, hb9, hx9⟩
      gi_wp2
      exact ⟨keeps_below hb9, kp_below hb9 hszW, sx, HI.out.stay HN.out hlt (by omega) hb9 HKK.out⟩
    · have f1 : ((En.tget t (entE s v x).path).kind == (entE s v x).node.kind) = false := beq_eq_false_iff_ne.2 hkk
      have HKK := Lib.hid hkk
      clear hkk
      gi_wp2
      refine Rg.only_in ?_ (Rg.held_in hmx (by kernel_rfl) (layReg6 _ (by kernel_rfl) 0 w.heap.size b Bx v (entE s v x).path (entE s v x).node.data (En.tget t (entE s v x).path).data (.slice A m c) (entE s v x).node.kind (En.tget t (entE s v x).path).kind false W
        (fun W' => Below W.heap.size W W' ∧ BxF w.heap.size b v (.slice A m c) Bx (entE s v x).path (entE s v x).node.kind (entE s v x).node.data W') (fun W' h => h.2) ⟨(Below.refl _ _).drew, HX.out.drew⟩ f1
        (fun W' h => (hGet.out _ W' (HI.out.chg.then (Chg.of_below h.1))).mono fun e w' ⟨he, hb⟩ => ⟨he, h.1.trans (hb.mono h.1.size), h.2.below hb (by have := h.1.size; omega) (by have := h.1.size; omega)⟩)))
      rintro _ w9 ⟨rfl, hb9, hx9⟩
      have hsz9 := hb9.size
      have HX9 := Lib.hid hx9
      have HB9 := Lib.hid hb9
      obtain ⟨p, hp⟩ : ∃ p, p = tb (joi v.data.toList (entE s v x).path.data.toList) := ⟨_, rfl⟩
      obtain ⟨r, hr2⟩ : ∃ r, r = (removeS sx p).1 := ⟨_, rfl⟩
      have hpz : p.size ≤ 3000000 := by
        rw [hp, tb_size, joi]
        have := HP.out
        split
        · rw [List.length_append, List.length_cons, len_l, len_l]; omega
        · rw [List.length_append, len_l, len_l]; omega
      have HJ : Hid (∀ W', BxF w.heap.size b v (.slice A m c) Bx (entE s v x).path (entE s v x).node.kind (entE s v x).node.data W' ∧ W.heap.size ≤ W'.heap.size → Calls Tryz.prog 54 #[.string v, .string (entE s v x).path] W' fun e w' => e = .returned (.string p) ∧ (BxF w.heap.size b v (.slice A m c) Bx (entE s v x).path (entE s v x).node.kind (entE s v x).node.data w' ∧ W.heap.size ≤ w'.heap.size) ∧ Below W'.heap.size W' w') := fun W' h =>
        (hJoin.out _ W' HP.out).mono fun e w' ⟨he, hb⟩ => ⟨by rw [he, hp], ⟨h.1.below hb (by omega) (by omega), Nat.le_trans h.2 hb.size⟩, hb⟩
      have hok := inv_ok HI.out.inv (by omega)
      have HR : Hid (∀ W', BxF w.heap.size b v (.slice A m c) Bx (entE s v x).path (entE s v x).node.kind (entE s v x).node.data W' ∧ W.heap.size ≤ W'.heap.size → Below w9.drew.heap.size w9.drew W' → Calls Tryz.prog 31 #[.pointer (some ⟨b, 0, none⟩), .string p] W' fun e w' => e = .returned (.int .i64 (r : Int)) ∧ (BxF w.heap.size b v (.slice A m c) Bx (entE s v x).path (entE s v x).node.kind (entE s v x).node.data w' ∧ W.heap.size ≤ w'.heap.size) ∧ Nx b W F (removeS sx p).2 w') := fun W' h hb => by
        have hbb : Below W.heap.size W W' := HB9.out.trans (((Below.refl _ w9).drew.trans hb).mono HB9.out.size)
        refine (nx_remove (p := p) (imp_below HI.out.at_ hbb) hok (by omega)).mono fun e w' ⟨he, hn⟩ => ⟨by rw [he, hr2], ⟨h.1.chg hn.2 hF (by omega) (by omega) (by omega), Nat.le_trans h.2 hn.2.size⟩, hn.after hbb⟩
      have hst : pre ++ [x] = down N (pre ++ [x]).length → r = 0 ∧ Rem (n + (pre ++ [x]).length) s (removeS sx p).2 v t (N - (pre ++ [x]).length) := fun hg => by
        have := rem_step HI.out hv ht rb lk.wf HN.out hlt (by omega) HKK.out hg
        rw [← hp, ← hr2] at this
        exact this
      have HST := Lib.hid hst
      clear hb9 hx9 hp hr2 hst hok
      by_cases hr0 : r = 0
      · subst hr0
        gi_wp2
        refine Rg.only_in ?_ (Rg.held_in hmx (by kernel_rfl) (layReg7 _ (by kernel_rfl) 0 w.heap.size b Bx 0 v (entE s v x).path p (entE s v x).node.data (.slice A m c) (entE s v x).node.kind w9
          (fun W' => BxF w.heap.size b v (.slice A m c) Bx (entE s v x).path (entE s v x).node.kind (entE s v x).node.data W' ∧ W.heap.size ≤ W'.heap.size) (fun W' h => h.1) ⟨HX9.out.drew, hsz9⟩ (fun W' => Nx b W F (removeS sx p).2 W') HJ.out HR.out))
        rintro _ w10 ⟨rfl, hz⟩
        have HZ := Lib.hid hz
        clear hz
        gi_wp2
        exact ⟨keeps_chg HZ.out.2 (fun i hi => by have := hF i hi; omega), kp_chg HZ.out.2 hszW, _, HI.out.go hlt HZ.out (fun hg => (HST.out hg).2)⟩
      · have e1 : ¬ ((r : Nat) : Int) = 0 := by omega
        gi_wp2
        refine Rg.only_in ?_ (Rg.held_in hmx (by kernel_rfl) (layReg7 _ (by kernel_rfl) 0 w.heap.size b Bx r v (entE s v x).path p (entE s v x).node.data (.slice A m c) (entE s v x).node.kind w9
          (fun W' => BxF w.heap.size b v (.slice A m c) Bx (entE s v x).path (entE s v x).node.kind (entE s v x).node.data W' ∧ W.heap.size ≤ W'.heap.size) (fun W' h => h.1) ⟨HX9.out.drew, hsz9⟩ (fun W' => Nx b W F (removeS sx p).2 W') HJ.out HR.out))
        rintro _ w10 ⟨rfl, hz⟩
        have y6 := (hz.2.block _ hq4 (fun hf => by have := hF _ hf; omega)).trans HY.out
        have c6 := cell_of y6
        have d6 : w10.frozen? ⟨w.heap.size + 1 + 1 + 1, 0, none⟩ = false := frozen_of_row w10 _ 0 _ _ y6
        have HZ := Lib.hid hz
        clear hz y6
        gi_wp2
        exact ⟨(keeps_chg HZ.out.2 (fun i hi => by have := hF i hi; omega)).trans ((KeepsOthers.setCell _ _ _).from _), fun hg => hr0 (HST.out hg).1⟩
  case done =>
    rintro D xs W hD rfl ⟨sx, hi⟩ hK
    have hrm := hi.rem (by rw [down_length])
    rw [down_length, Nat.sub_self] at hrm
    have hmid := rem_end hv ht hrm
    have hm2 := hE.1
    have hm200 := tree_len0 ht
    rw [hm2] at hm200
    have HM : Hid (MdI b (n + N) F s v t W2 D 0 W sx) := ⟨hi.at_, hi.chg, hmid, hi.wf, hK⟩
    obtain ⟨y3, y4, y5, y6⟩ := HQ.out W hi.chg
    have c5 := cell_of y5
    have hsz0 := hbw.size
    have HE2 := HE
    clear hrm hmid hi y3 y4 y5 y6
    gi_wp2
    clear c5
    gi_loopw [13, 14, 48] (fun _ _ i wr => ∃ (k : Nat) (sz : St), k ≤ m ∧ i = .int .i64 (k : Int) ∧ Hid (MdI b (n + N + 2 * k) F s v t W2 D k wr sz)) (fun _ _ i _ => m - (intOf i).toNat)
    case atStart => exact ⟨0, sx, Nat.zero_le _, rfl, HM⟩
    case round =>
      obtain ⟨k, sz, hk, rfl, HZ⟩ := hrel
      clear HM
      obtain ⟨y3, y4, y5, y6⟩ := HQ.out wr HZ.out.chg
      have hszr := HZ.out.chg.size
      by_cases hlt : k < m
      · have hltz : (k : Int) < (m : Int) := by omega
        obtain ⟨ge, off, rfl, hg, hcs⟩ := (HE.out wr HZ.out.chg).2.resolve_left (by omega)
        obtain ⟨e, he⟩ : ∃ e, t[k]? = some e := ⟨_, List.getElem?_eq_getElem (by omega)⟩
        obtain ⟨d0, d1, d2⟩ := hcs k e he
        obtain ⟨sy, hput, hmid, hwf⟩ := put_mid (b := b) hv ht HZ.out.mid (by omega) he HZ.out.wf
        have hep : e.path.size ≤ 1000 := chk_short (En.tree_at ht he).1 (by omega)
        have hne : e.path ≠ ⟨#[]⟩ := chk_ne (En.tree_at ht he).1
        have hjv := joi_vp (vol_name hv) hne
        have hDl := (Array.getElem?_eq_some_iff.1 HZ.out.dfr).1
        obtain ⟨P, ⟨K, Dt⟩⟩ := e
        simp only at d0 d1 d2 hput hep hjv
        obtain ⟨W5, hW5⟩ : ∃ W5, W5 = wr.alloc (.cells #[.string P, .int .i64 K, .string Dt] 54) := ⟨_, rfl⟩
        have hb5 : Below wr.heap.size wr W5 := by rw [hW5]; exact (Below.refl _ _).alloc (Nat.le_refl _) _
        have hs5 : W5.heap.size = wr.heap.size + 1 := by rw [hW5]; simp
        have hbx : W5.heap[wr.heap.size]? = some (.cells #[.string P, .int .i64 K, .string Dt] 54) := by rw [hW5]; exact heap_alloc_new _ _
        obtain ⟨e0, e1, e2, e3⟩ := cells_threeS hbx
        have hq4 : w.heap.size + 1 + 1 + 1 < wr.heap.size := (Array.getElem?_eq_some_iff.1 y6).1
        have HX : Hid (BxF w.heap.size b v (.slice (some ⟨ge, off, none⟩) m c) wr.heap.size P K Dt W5) :=
          ⟨(hb5.cell (p := ⟨w.heap.size, 0, none⟩) (by show w.heap.size < _; omega)).trans (cell_of y3), (hb5.cell (p := ⟨w.heap.size + 1, 0, none⟩) (by show w.heap.size + 1 < _; omega)).trans (cell_of y4), (hb5.cell (p := ⟨w.heap.size + 1 + 1, 0, none⟩) (by show w.heap.size + 1 + 1 < _; omega)).trans (cell_of y5), e0, e1, e2⟩
        have HB5 := Lib.hid hb5
        have HPT := Lib.hid hput
        have HMD := Lib.hid hmid
        have HWF := Lib.hid hwf
        have HS5 := Lib.hid hs5
        have HJ : Hid (∀ W', BxF w.heap.size b v (.slice (some ⟨ge, off, none⟩) m c) wr.heap.size P K Dt W' ∧ W5.heap.size ≤ W'.heap.size → Calls Tryz.prog 54 #[.string v, .string P] W' fun e w' => e = .returned (.string (vp v P)) ∧ (BxF w.heap.size b v (.slice (some ⟨ge, off, none⟩) m c) wr.heap.size P K Dt w' ∧ W5.heap.size ≤ w'.heap.size) ∧ Below W'.heap.size W' w') := fun W' h =>
          (hJoin.out _ W' (by omega)).mono fun e w' ⟨he, hb⟩ => ⟨by rw [he, hjv], ⟨h.1.below hb (by omega) (by omega), Nat.le_trans h.2 hb.size⟩, hb⟩
        have HR : Hid (∀ W', BxF w.heap.size b v (.slice (some ⟨ge, off, none⟩) m c) wr.heap.size P K Dt W' ∧ W5.heap.size ≤ W'.heap.size → Below W5.drew.heap.size W5.drew W' → Calls Tryz.prog 55 #[.pointer (some ⟨b, 0, none⟩), .string (vp v P), .agg #[.int .i64 K, .string Dt]] W' fun e w' => e = .returned (.int .i64 ((0 : Nat) : Int)) ∧ (BxF w.heap.size b v (.slice (some ⟨ge, off, none⟩) m c) wr.heap.size P K Dt w' ∧ W5.heap.size ≤ w'.heap.size) ∧ Nx b wr F sy w') := fun W' h hb => by
          have hbb : Below wr.heap.size wr W' := HB5.out.trans (((Below.refl _ W5).drew.trans hb).mono HB5.out.size)
          exact (HPT.out F W' (imp_below HZ.out.at_ hbb)).mono fun e w' ⟨he, hn⟩ => ⟨he, ⟨h.1.chg hn.2 hF (by omega) (by omega) (by omega), Nat.le_trans h.2 hn.2.size⟩, hn.after hbb⟩
        clear y3 y4 y5 y6 hcs he hput hmid hwf hep hne hjv hb5 hs5 hbx e0 e1 e2 e3
        gi_wp2
        rw [← hW5]
        clear hW5 d0 d1 d2
        refine wpIn_wide.2 (Rg.wp_only ?_ (layReg13 _ (by kernel_rfl) _ w.heap.size b wr.heap.size 0 v P (vp v P) Dt (.slice (some ⟨ge, off, none⟩) m c) K W5
          (fun W' => BxF w.heap.size b v (.slice (some ⟨ge, off, none⟩) m c) wr.heap.size P K Dt W' ∧ W5.heap.size ≤ W'.heap.size) (fun W' h => h.1) ⟨HX.out.drew, Nat.le_refl _⟩ (fun W' => Nx b wr F sy W') HJ.out HR.out))
        rintro _ w6 ⟨rfl, hz⟩
        have HZ6 : Hid (MdI b (n + N + 2 * (k + 1)) F s v t W2 D (k + 1) w6 sy) := ⟨hz.1, HZ.out.chg.then hz.2, by have := HMD.out; rw [show n + N + 2 * (k + 1) = n + N + 2 * k + 2 by omega]; exact this, HWF.out, (hz.2.block D hDl (fun hf => by have := hF D hf; omega)).trans HZ.out.dfr⟩
        clear hz
        gi_wp2
        go_roundw
        case rel => exact ⟨k + 1, sy, by omega, by go_num, HZ6⟩
        case measure => simp only [intOf]; omega
      · have hkm : k = m := by omega
        have e2 : ¬ (k : Int) < (m : Int) := by omega
        have c6 := cell_of y6
        have d6 : wr.frozen? ⟨w.heap.size + 1 + 1 + 1, 0, none⟩ = false := frozen_of_row wr _ 0 _ _ y6
        have hq4 : w.heap.size + 1 + 1 + 1 < wr.heap.size := (Array.getElem?_eq_some_iff.1 y6).1
        have hDq : D ≠ w.heap.size + 1 + 1 + 1 := by omega
        have HKM := Lib.hid hkm
        have HY6 := Lib.hid y6
        clear y3 y4 y5 y6 hkm
        gi_wp2
        have hK' := (KeepsOthers.setCell wr ⟨w.heap.size + 1 + 1 + 1, 0, none⟩ (.int .i64 0)).same D _ HZ.out.dfr rfl
        refine ⟨by simp, .inl ⟨_, _, rfl, run_takeDeferred hK', ?_⟩⟩
        have hg1 := grownBy_setCell' wr (w.heap.size + 1 + 1 + 1) (.int .i64 0)
        have hg2 := grownBy_putObj' (wr.setCell ⟨w.heap.size + 1 + 1 + 1, 0, none⟩ (.int .i64 0)) D (.deferred none)
        have hc6 : ((wr.setCell ⟨w.heap.size + 1 + 1 + 1, 0, none⟩ (.int .i64 0)).putObj D (.deferred none)).cell? ⟨w.heap.size + 1 + 1 + 1, 0, none⟩ = some (.int .i64 0) := by
          refine (World.cell?_of_block (a := ⟨w.heap.size + 1 + 1 + 1, 0, none⟩) (World.putObj_heap_other (by show ¬ _ = _; simp only; omega))).trans ?_
          exact World.cell?_setCell_same' _ _ _ (by rw [c6]; rfl)
        have hFn : ∀ r, (some (w.heap.size + 1 + 1 + 1) = some r ∨ some D = some r) → w.heap.size ≤ r := fun r e => by
          rcases e with e | e
          · have := Option.some.inj e; omega
          · have := Option.some.inj e; omega
        have hch : Chg F w ((wr.setCell ⟨w.heap.size + 1 + 1 + 1, 0, none⟩ (.int .i64 0)).putObj D (.deferred none)) :=
          chg_grown (chg_grown ((Chg.of_below hbw).then HZ.out.chg) (Nat.le_refl _) hg1 (fun r e => hFn r (.inl e))) (Nat.le_refl _) hg2 (fun r e => hFn r (.inr e))
        have hat : ImpAt b ((wr.setCell ⟨w.heap.size + 1 + 1 + 1, 0, none⟩ (.int .i64 0)).putObj D (.deferred none)) F sz := by
          have hl := (imp_kind b).lt HZ.out.at_
          have h1 := (imp_kind b).kept HZ.out.at_ (fun i hi => hg1.block i (hl i hi) (fun e => by injection e with e; have := hF i hi; omega))
          exact (imp_kind b).kept h1 (fun i hi => hg2.block i ((imp_kind b).lt h1 i hi) (fun e => by injection e with e; have := hF i hi; omega))
        refine ⟨.int .i64 0, ?_, rfl, sz, ?_, ⟨hat, hch⟩, HZ.out.wf⟩
        · simp [results, go_sem, hc6]
        · have := HZ.out.mid
          rw [HKM.out, ← hm2] at this
          exact mid_end hv ht this (by omega) (by omega)
  case stop =>
    rintro D c pre W _ ⟨k, hk, rfl⟩ hi _
    exact absurd (by rw [down_length]) hi
end Go.Proofs.YtdpnmdnfnplcfaaGreat.Sc

namespace Go.Proofs.YtdpnmdnfnplcfaaGreat.Sc
open Go.RowKit Tx Pm Pr Dk Od
set_option linter.unusedVariables false
theorem restart_filter (loss : Nat) (q : It → Bool) (hq : ∀ x y : It, x.path = y.path → q x = q y) : ∀ (l : List It) (n st : Nat), (∀ x ∈ l, q x = true → x.loose = false) → (restartL loss l n st).1.filter q = l.filter q
  | [], n, st, _ => rfl
  | y :: l, n, st, h => by
    have hl := fun x hx => h x (List.mem_cons_of_mem y hx)
    rw [restartL]
    split
    · rename_i hy
      have hqy : q y = false := by
        cases e : q y
        · rfl
        · rw [h y (List.mem_cons_self ..) e] at hy; cases hy
      have hq2 : ∀ z : It, z.path = y.path → ¬ q z = true := fun z hz hh => by
        rw [hq z y hz, hqy] at hh
        cases hh
      show List.filter q (_ :: (restartL loss l (n + 1) (st + 1)).1) = _
      refine Eq.trans (List.filter_cons_of_neg (hq2 _ ?_)) ?_
      · exact (lose_is (mix loss (n + 1)) y).1
      rw [List.filter_cons_of_neg (by rw [hqy]; decide)]
      exact restart_filter loss q hq l (n + 1) (st + 1) hl
    · show List.filter q (y :: (restartL loss l n st).1) = _
      have ih := restart_filter loss q hq l n st hl
      cases e : q y
      · rw [List.filter_cons_of_neg (by rw [e]; decide), List.filter_cons_of_neg (by rw [e]; decide), ih]
      · rw [List.filter_cons_of_pos e, List.filter_cons_of_pos e, ih]
theorem map_filter (q : It → Bool) (g : ByteArray → Bool) (hq : ∀ x, q x = g x.path) (l m : List It) (h : l.map (·.path) = m.map (·.path)) : (l.filter q).map (·.path) = (m.filter q).map (·.path) := by
  have e : ∀ k : List It, (k.filter q).map (·.path) = (k.map (·.path)).filter g := fun k => by
    rw [List.filter_map]
    congr 1
    exact List.filter_congr fun x _ => hq x
  rw [e, e, h]
theorem restart_dirs (loss : Nat) : ∀ (l : List It) (n st : Nat), (restartL loss l n st).1.map (fun x => (x.path, x.dir)) = l.map (fun x => (x.path, x.dir))
  | [], n, st => rfl
  | y :: l, n, st => by
    rw [restartL]
    split
    · refine Eq.trans (List.map_cons ..) ?_
      rw [List.map_cons, restart_dirs loss l (n + 1) (st + 1)]
      rfl
    · refine Eq.trans (List.map_cons ..) ?_
      rw [List.map_cons, restart_dirs loss l n st]
theorem homes_of {l m : List It} (h : Homes l) (e : m.map (fun x => (x.path, x.dir)) = l.map (fun x => (x.path, x.dir))) : Homes m := by
  intro y hy hp
  have h1 : (y.path, y.dir) ∈ l.map (fun x => (x.path, x.dir)) := by rw [← e]; exact List.mem_map.2 ⟨y, hy, rfl⟩
  obtain ⟨z, hz, hzy⟩ := List.mem_map.1 h1
  injection hzy with e1 e2
  rw [← e1] at hp ⊢
  obtain ⟨x, hx, hxp, hxd⟩ := h z hz hp
  have h2 : (x.path, x.dir) ∈ m.map (fun x => (x.path, x.dir)) := by rw [e]; exact List.mem_map.2 ⟨x, hx, rfl⟩
  obtain ⟨u, hu, hux⟩ := List.mem_map.1 h2
  injection hux with f1 f2
  exact ⟨u, hu, f1.trans hxp, f2.trans hxd⟩
theorem homes_restart (loss n st : Nat) {l : List It} (h : Homes l) : Homes (restartL loss l n st).1 := homes_of h (restart_dirs loss l n st)
def gV (v p : ByteArray) : Bool := und p.data.toList v.data.toList && !decide (p = v)
theorem inV_g (v : ByteArray) (x : It) : inV v x = gV v x.path := rfl
theorem hub_restart {a : List En.Et} {n : Nat} {s : St} (loss : Int) (h : Hub a n s) (hn : n ≤ 50000) : Hub a (2 * n) (restartS s loss) := by
  obtain ⟨r1, r2, r3⟩ := restartL_is (u64 loss) (n * 1048576) s.L 0 s.stamps h.rb.inv.path h.rb.inv.size h.rb.inv.kept
  have hst := h.rb.stamps
  have hlen := h.rb.inv.len
  have hf := restart_filter (u64 loss) (inV pH) (fun x y e => by rw [inV_g, inV_g, e]) s.L 0 s.stamps (fun x hx hv => (h.files x hx hv).1)
  have hll : (restartL (u64 loss) s.L 0 s.stamps).1.length = s.L.length := by
    have := congrArg List.length r1
    simpa using this
  have hs0 := h.rb.inv.steps
  have hw2 : n * 1048576 ≤ 2 * n * 1048576 := Nat.mul_le_mul_right _ (by omega)
  have hw3 : 2 * n ≤ 2 * n * 1048576 := Nat.le_mul_of_pos_right _ (by decide)
  refine ⟨⟨⟨?_, ?_, fun x hx => (r3 x hx).1, fun x hx => ⟨Nat.le_trans (r3 x hx).2.1 hw2, Nat.le_trans (r3 x hx).2.2.1 hw2⟩, fun x hx => (r3 x hx).2.2.2, ?_, ?_, ?_, ?_⟩, ?_, by omega, rfl, rfl, h.rb.rooms, h.rb.stp.keep (keeps_restart s loss), homes_restart (u64 loss) 0 s.stamps h.rb.homes⟩, ?_, ?_, fun x hx hv => ?_⟩
  · show Rises _
    have h1 : (s.L.map (·.path)).Pairwise (fun p q => Op.bytesLess p.toList q.toList = true) := List.pairwise_map.2 h.rb.inv.rises
    rw [← r1] at h1
    exact List.pairwise_map.1 h1
  · show (restartL (u64 loss) s.L 0 s.stamps).1.length ≤ _
    omega
  · show s.rooms.length ≤ _
    rw [h.rb.rooms]; exact Nat.zero_le _
  · show s.steps ≤ _
    omega
  · show (restartL (u64 loss) s.L 0 s.stamps).2 ≤ 2 * n * 1048576
    exact Nat.le_trans (by omega) hw3
  · show (-1 : Int) ≤ -1 ∧ (-1 : Int) ≤ 9223372036854775807
    omega
  · show (restartL (u64 loss) s.L 0 s.stamps).2 ≤ _
    omega
  · show entS (restartL (u64 loss) s.L 0 s.stamps).1 pH = a
    rw [← h.tree]
    unfold entS
    rw [hf]
  · obtain ⟨z, hz, ho⟩ := h.oth
    have hp := map_filter (fun x => !inV pH x) (fun p => !gV pH p) (fun x => rfl) _ _ r1
    rw [ho] at hp
    have h2 := restart_filter (u64 loss) (fun x => !decide (x.path = pWX) && !inV pH x) (fun x y e => by rw [inV_g, inV_g, e]) s.L 0 s.stamps (fun x hx hq => by
      rw [Bool.and_eq_true] at hq
      have hx2 : x ∈ s.L.filter (fun x => !inV pH x) := List.mem_filter.2 ⟨hx, hq.2⟩
      rw [ho] at hx2
      simp only [List.mem_cons, List.not_mem_nil, or_false] at hx2
      rcases hx2 with rfl | rfl | rfl
      · rfl
      · rfl
      · have := hq.1
        rw [hz] at this
        simp at this)
    rw [← List.filter_filter, ← List.filter_filter, ho] at h2
    show ∃ z : It, z.path = pWX ∧ (restartL (u64 loss) s.L 0 s.stamps).1.filter (fun x => !inV pH x) = [hubI, wI, z]
    obtain ⟨M, hM⟩ : ∃ M, M = (restartL (u64 loss) s.L 0 s.stamps).1.filter (fun x => !inV pH x) := ⟨_, rfl⟩
    rw [← hM] at hp h2 ⊢
    rcases M with _ | ⟨m1, _ | ⟨m2, _ | ⟨m3, _ | ⟨m4, M⟩⟩⟩⟩
    · simp at hp
    · simp at hp
    · simp at hp
    · simp only [List.map_cons, List.map_nil, List.cons.injEq, and_true] at hp
      obtain ⟨p1, p2, p3⟩ := hp
      have d1 : ¬ hubI.path = pWX := by decide
      have d2 : ¬ wI.path = pWX := by decide
      have n1 : (!decide (m1.path = pWX)) = true := by rw [p1, decide_eq_false d1]; rfl
      have n2 : (!decide (m2.path = pWX)) = true := by rw [p2, decide_eq_false d2]; rfl
      have n3 : ¬ (!decide (m3.path = pWX)) = true := by rw [p3, hz]; simp
      have k1 : (!decide (hubI.path = pWX)) = true := by rw [decide_eq_false d1]; rfl
      have k2 : (!decide (wI.path = pWX)) = true := by rw [decide_eq_false d2]; rfl
      have k3 : ¬ (!decide (z.path = pWX)) = true := by rw [hz]; simp
      rw [List.filter_cons_of_pos (p := fun x : It => !decide (x.path = pWX)) n1, List.filter_cons_of_pos (p := fun x : It => !decide (x.path = pWX)) n2, List.filter_cons_of_neg (p := fun x : It => !decide (x.path = pWX)) n3, List.filter_cons_of_pos (p := fun x : It => !decide (x.path = pWX)) k1, List.filter_cons_of_pos (p := fun x : It => !decide (x.path = pWX)) k2, List.filter_cons_of_neg (p := fun x : It => !decide (x.path = pWX)) k3] at h2
      injection h2 with e1 h2
      injection h2 with e2 h2
      exact ⟨m3, p3.trans hz, by rw [e1, e2]⟩
    · simp at hp
  · have h1 : x ∈ (restartL (u64 loss) s.L 0 s.stamps).1.filter (inV pH) := List.mem_filter.2 ⟨hx, hv⟩
    rw [hf] at h1
    exact h.files x (List.mem_filter.1 h1).1 hv
theorem used_split (l : List It) (v : ByteArray) (q : It → Bool) : used l v = used (l.filter q) v + used (l.filter fun x => !q x) v := by
  unfold used
  induction l with
  | nil => rfl
  | cons x l ih =>
    cases e : q x
    · rw [List.filter_cons_of_neg (by rw [e]; decide), List.filter_cons_of_pos (by rw [e]; rfl), List.map_cons, List.sum_cons, List.map_cons, List.sum_cons, ih]
      omega
    · rw [List.filter_cons_of_pos e, List.filter_cons_of_neg (by rw [e]; decide), List.map_cons, List.sum_cons, List.map_cons, List.sum_cons, ih]
      omega
theorem used_ents (v : ByteArray) : ∀ l : List It, (∀ x ∈ l, vol x.path = v ∧ (x.dir = true → x.data = ⟨#[]⟩)) → used l v = En.tsize (l.map fun x => (⟨tl v x.path, nodeOf x⟩ : En.Et))
  | [], _ => rfl
  | x :: l, h => by
    obtain ⟨h1, h2⟩ := h x (List.mem_cons_self ..)
    have ih := used_ents v l (fun y hy => h y (List.mem_cons_of_mem x hy))
    have e : x.data.size = (nodeOf x).data.size := by
      unfold nodeOf
      cases hd : x.dir
      · rfl
      · rw [h2 hd]; rfl
    unfold used at ih ⊢
    rw [List.map_cons, List.sum_cons, ih, if_pos h1, e]
    rfl
theorem vol_in {x : It} (h : inV pH x = true) : vol x.path = pH := by
  obtain ⟨r, hp⟩ : ∃ r, x.path = pH ++ ⟨#[47]⟩ ++ r := ⟨_, (inV_long (by decide) h).2⟩
  have e : x.path.data.toList = pH.data.toList ++ 47 :: r.data.toList := by
    rw [hp, ByteArray.data_append, ByteArray.data_append, Array.toList_append, Array.toList_append, List.append_assoc]
    rfl
  unfold vol
  rw [e, spl_app, show spl pH.data.toList = [pH.data.toList] by decide +kernel]
  rfl
theorem hub_used {a : List En.Et} {n : Nat} {s : St} (h : Hub a n s) : used s.L pH = En.tsize a := by
  obtain ⟨z, hz, ho⟩ := h.oth
  rw [used_split s.L pH (inV pH), ho]
  have e1 : used [hubI, wI, z] pH = 0 := by
    unfold used
    simp only [List.map_cons, List.map_nil, List.sum_cons, List.sum_nil]
    rw [if_neg (show ¬ vol wI.path = pH by decide +kernel), hz, if_neg (show ¬ vol pWX = pH by decide +kernel)]
    decide +kernel
  rw [e1, ← h.tree]
  unfold entS
  exact used_ents pH _ fun x hx => ⟨vol_in (List.mem_filter.1 hx).2, (h.files x (List.mem_filter.1 hx).1 (List.mem_filter.1 hx).2).2⟩
theorem par_in {x : It} (h : inV pH x = true) : tb (par x.path.data.toList) ≠ pW := by
  obtain ⟨r, hp⟩ : ∃ r, x.path = pH ++ ⟨#[47]⟩ ++ r := ⟨_, (inV_long (by decide) h).2⟩
  intro e
  have e1 : par x.path.data.toList = [119] := by
    have := congrArg (fun b : ByteArray => b.data.toList) e
    rw [show (tb (par x.path.data.toList)).data.toList = par x.path.data.toList from tb_list _ ▸ rfl] at this
    exact this
  have e2 : x.path.data.toList = 104 :: ([117, 98, 47] ++ r.data.toList) := by
    rw [hp, ByteArray.data_append, ByteArray.data_append, Array.toList_append, Array.toList_append, List.append_assoc]
    rfl
  rw [par, e2] at e1
  cases hk : lastN (104 :: ([117, 98, 47] ++ r.data.toList)) - 1 with
  | zero => rw [hk] at e1; cases e1
  | succ k =>
    rw [hk, List.take_succ_cons] at e1
    injection e1 with e1 _
    exact absurd e1 (by decide)
theorem hub_list {a : List En.Et} {n : Nat} {s : St} (h : Hub a n s) : (list s.L pW).length = 1 := by
  obtain ⟨z, hz, ho⟩ := h.oth
  unfold list
  rw [List.length_map]
  have e : s.L.filter (fun x => decide (tb (par x.path.data.toList) = pW)) = (s.L.filter (fun x => !inV pH x)).filter (fun x => decide (tb (par x.path.data.toList) = pW)) := by
    rw [List.filter_filter]
    refine List.filter_congr fun x _ => ?_
    cases hv : inV pH x
    · simp
    · rw [decide_eq_false (par_in hv)]; rfl
  rw [e, ho]
  have k1 : ¬ decide (tb (par hubI.path.data.toList) = pW) = true := by decide +kernel
  have k2 : ¬ decide (tb (par wI.path.data.toList) = pW) = true := by decide +kernel
  have k3 : decide (tb (par z.path.data.toList) = pW) = true := by rw [hz]; decide +kernel
  rw [List.filter_cons_of_neg (p := fun x : It => decide (tb (par x.path.data.toList) = pW)) k1, List.filter_cons_of_neg (p := fun x : It => decide (tb (par x.path.data.toList) = pW)) k2, List.filter_cons_of_pos (p := fun x : It => decide (tb (par x.path.data.toList) = pW)) k3]
  rfl
end Go.Proofs.YtdpnmdnfnplcfaaGreat.Sc

namespace Go.Proofs.YtdpnmdnfnplcfaaGreat.Sc
open Go.RowKit Tx
set_option linter.unusedVariables false
set_option maxRecDepth 100000 in
set_option maxHeartbeats 4000000 in
theorem layA (ops : Array Oper) (hops : ops = (Rg.opsOf Tryz.f4 16)) (id : Nat) (va : Value) (g off n c k : Nat) (K : Int) (q Dt : ByteArray) {u2 u3 u4 u5 u6 u7 u8 u9 u10 u11 u12 u13 u14 u15 u16 u17 u18 u19 u21 u22 u23 u24 u25 u26 u27 u28 u29 u30 u31 u32 u33 u34 u35 u36 u37 u38 u39 u40 u41 u42 u43 u44 u45 u46 u47 u48 u49 u50 u51 u52 u53 u54 u55 u56 u57 u58 u59 u60 u61 u62 u63 u64 u65 u66 u67 u68 u69 u70 u71 u72 u73 u74 u75 u76 u77 u78 u79 u80 u81 u82 u83 u84 u85 u86 u87 u88 u89 u90 u91 u92 u93 u94 u95 u96 u97 u98 u99 u100 u101 u102 u103 u104 u105 u106 u107 u108 u109 u110 u111 u112 u113 u114 u115 u116 u117 u118 u119 u120 u121 u122 u123 u124 u125 u126 u127 u128 u129 u130 u131 u132 u133 u134 u135 u136 u137 u138 u139 u140 u141 u142 u143 u144 u145 u146 u147 u148 u149 u150 u151 u152 u153 u154 u155 u156 u157 u158 u159 : Value} (w : World) (X : World → Prop) (hlt : (k : Int) < (n : Int))
    (hX : ∀ W, X W → W.cell? ⟨g, off + k * 3, none⟩ = some (.string q) ∧ W.cell? ⟨g, off + k * 3 + 1, none⟩ = some (.int .i64 K) ∧ W.cell? ⟨g, off + k * 3 + 2, none⟩ = some (.string Dt)) (hw : X w.drew)
    (S0 : ∀ W : World, (binOp .eql 3 (.int .i64 K) (.int .i64 2)).run Tryz.prog W = .ok (.bool false) W) :
    (Code.region id ops true).wp Tryz.prog (Rg.Only fun a' w' => a' = ⟨#[va, (.slice (some ⟨g, off, none⟩) n c), u2, u3, u4, u5, u6, u7, u8, u9, u10, u11, u12, u13, u14, u15, u16, u17, u18, u19, (.int .i64 (k : Int)), u21, u22, u23, u24, u25, u26, u27, u28, u29, u30, u31, u32, u33, u34, u35, u36, u37, u38, u39, u40, u41, u42, u43, u44, u45, u46, u47, u48, u49, u50, u51, u52, u53, u54, u55, u56, u57, u58, u59, u60, u61, u62, u63, u64, u65, u66, u67, u68, u69, u70, u71, u72, u73, u74, u75, u76, u77, u78, u79, u80, u81, u82, u83, u84, u85, u86, u87, u88, u89, u90, u91, (.slice (some ⟨g, off, none⟩) n c), (.int .i64 (k : Int)), (.pointer (some ⟨g, off + k * 3, none⟩)), (.pointer (some ⟨g, off + k * 3 + 1, none⟩)), (.pointer (some ⟨g, off + k * 3 + 1, none⟩)), (.int .i64 K), (.bool false), (.bool false), undef, undef, undef, undef, undef, undef, undef, undef, undef, undef, undef, undef, undef, (Value.bool false), u114, u115, u116, u117, u118, u119, u120, u121, u122, u123, u124, u125, u126, u127, u128, u129, u130, u131, u132, u133, u134, u135, u136, u137, u138, u139, u140, u141, u142, u143, u144, u145, u146, u147, u148, u149, u150, u151, u152, u153, u154, u155, u156, u157, u158, u159], []⟩ ∧ X w') ⟨#[va, (.slice (some ⟨g, off, none⟩) n c), u2, u3, u4, u5, u6, u7, u8, u9, u10, u11, u12, u13, u14, u15, u16, u17, u18, u19, (.int .i64 (k : Int)), u21, u22, u23, u24, u25, u26, u27, u28, u29, u30, u31, u32, u33, u34, u35, u36, u37, u38, u39, u40, u41, u42, u43, u44, u45, u46, u47, u48, u49, u50, u51, u52, u53, u54, u55, u56, u57, u58, u59, u60, u61, u62, u63, u64, u65, u66, u67, u68, u69, u70, u71, u72, u73, u74, u75, u76, u77, u78, u79, u80, u81, u82, u83, u84, u85, u86, u87, u88, u89, u90, u91, u92, u93, u94, u95, u96, u97, u98, u99, u100, u101, u102, u103, u104, u105, u106, u107, u108, u109, u110, u111, u112, u113, u114, u115, u116, u117, u118, u119, u120, u121, u122, u123, u124, u125, u126, u127, u128, u129, u130, u131, u132, u133, u134, u135, u136, u137, u138, u139, u140, u141, u142, u143, u144, u145, u146, u147, u148, u149, u150, u151, u152, u153, u154, u155, u156, u157, u158, u159], []⟩ w := by
  subst hops
  have hNS : Region.noSelect (Rg.opsOf Tryz.f4 16) = true := by kernel_rfl
  refine wp_region_held_drew (S := X) (by kernel_rfl) hw (fun hHeld => ?_)
  rw [show (Rg.opsOf Tryz.f4 16).size = 22 by kernel_rfl]
  refine Rg.take (ops := (Rg.opsOf Tryz.f4 16)) 0 (some 92) ((.slice (some ⟨g, off, none⟩) n c)) hNS (by kernel_rfl) (by kernel_rfl) (by kernel_rfl) (by kernel_rfl) (by kernel_rfl) hHeld (Rg.y_move (x := (Operand.tmp 1)) (Or.inl (by kernel_rfl)) (by kernel_rfl)) ?_
  refine Rg.take (ops := (Rg.opsOf Tryz.f4 16)) 1 (some 93) ((.int .i64 (k : Int))) hNS (by kernel_rfl) (by kernel_rfl) (by kernel_rfl) (by kernel_rfl) (by kernel_rfl) hHeld (Rg.y_move (x := (Operand.tmp 20)) (Or.inl (by kernel_rfl)) (by kernel_rfl)) ?_
  refine Rg.take (ops := (Rg.opsOf Tryz.f4 16)) 2 (some 94) ((.pointer (some ⟨g, off + k * 3, none⟩))) hNS (by kernel_rfl) (by kernel_rfl) (by kernel_rfl) (by kernel_rfl) (by kernel_rfl) hHeld (Rg.y_at (T := 32) (x := (Operand.tmp 92)) (y := (Operand.tmp 93)) (vx := (.slice (some ⟨g, off, none⟩) n c)) (vy := (.int .i64 (k : Int))) (by kernel_rfl) (by kernel_rfl) (by kernel_rfl) ?_) ?_
  · (intro W hSw; clear hSw hHeld; go_simp <;> first | omega | (intro h0; omega))
  refine Rg.take (ops := (Rg.opsOf Tryz.f4 16)) 3 (some 95) ((.pointer (some ⟨g, off + k * 3 + 1, none⟩))) hNS (by kernel_rfl) (by kernel_rfl) (by kernel_rfl) (by kernel_rfl) (by kernel_rfl) hHeld (Rg.y_field (T := 54) (k := 1) (x := (Operand.tmp 94)) (vx := (.pointer (some ⟨g, off + k * 3, none⟩))) (by kernel_rfl) (by kernel_rfl) ?_) ?_
  · (intro W hSw; clear hSw hHeld; go_simp)
  refine Rg.take (ops := (Rg.opsOf Tryz.f4 16)) 4 (some 96) ((.pointer (some ⟨g, off + k * 3 + 1, none⟩))) hNS (by kernel_rfl) (by kernel_rfl) (by kernel_rfl) (by kernel_rfl) (by kernel_rfl) hHeld (Rg.y_field (T := 52) (k := 0) (x := (Operand.tmp 95)) (vx := (.pointer (some ⟨g, off + k * 3 + 1, none⟩))) (by kernel_rfl) (by kernel_rfl) ?_) ?_
  · (intro W hSw; clear hSw hHeld; go_simp)
  refine Rg.take (ops := (Rg.opsOf Tryz.f4 16)) 5 (some 97) ((.int .i64 K)) hNS (by kernel_rfl) (by kernel_rfl) (by kernel_rfl) (by kernel_rfl) (by kernel_rfl) hHeld (Rg.y_load (T := 3) (x := (Operand.tmp 96)) (vx := (.pointer (some ⟨g, off + k * 3 + 1, none⟩))) (by kernel_rfl) (by kernel_rfl) ?_) ?_
  · (intro W hSw; obtain ⟨s0, s1, s2⟩ := hX _ hSw; clear hSw hHeld; go_simp)
  refine Rg.take (ops := (Rg.opsOf Tryz.f4 16)) 6 (some 98) ((.bool false)) hNS (by kernel_rfl) (by kernel_rfl) (by kernel_rfl) (by kernel_rfl) (by kernel_rfl) hHeld (Rg.y_bin (b := BinOp.eql) (T := 3) (R' := 3) (x := (Operand.tmp 97)) (y := (Operand.const (Value.int IntKind.i64 2))) (vx := (.int .i64 K)) (vy := (Value.int IntKind.i64 2)) (by kernel_rfl) (by kernel_rfl) (by kernel_rfl) ?_) ?_
  · (intro W hSw; clear hSw hHeld; exact S0 W)
  refine Rg.take (ops := (Rg.opsOf Tryz.f4 16)) 7 (some 99) ((.bool false)) hNS (by kernel_rfl) (by kernel_rfl) (by kernel_rfl) (by kernel_rfl) (by kernel_rfl) hHeld (Rg.y_move (x := (Operand.tmp 98)) (Or.inl (by kernel_rfl)) (by kernel_rfl)) ?_
  refine Rg.skip (ops := (Rg.opsOf Tryz.f4 16)) 8 (some 100) hNS (by kernel_rfl) (by kernel_rfl) (by kernel_rfl) (by kernel_rfl) (by kernel_rfl) hHeld ?_
  refine Rg.skip (ops := (Rg.opsOf Tryz.f4 16)) 9 (some 101) hNS (by kernel_rfl) (by kernel_rfl) (by kernel_rfl) (by kernel_rfl) (by kernel_rfl) hHeld ?_
  refine Rg.skip (ops := (Rg.opsOf Tryz.f4 16)) 10 (some 102) hNS (by kernel_rfl) (by kernel_rfl) (by kernel_rfl) (by kernel_rfl) (by kernel_rfl) hHeld ?_
  refine Rg.skip (ops := (Rg.opsOf Tryz.f4 16)) 11 (some 103) hNS (by kernel_rfl) (by kernel_rfl) (by kernel_rfl) (by kernel_rfl) (by kernel_rfl) hHeld ?_
  refine Rg.skip (ops := (Rg.opsOf Tryz.f4 16)) 12 (some 104) hNS (by kernel_rfl) (by kernel_rfl) (by kernel_rfl) (by kernel_rfl) (by kernel_rfl) hHeld ?_
  refine Rg.skip (ops := (Rg.opsOf Tryz.f4 16)) 13 (some 105) hNS (by kernel_rfl) (by kernel_rfl) (by kernel_rfl) (by kernel_rfl) (by kernel_rfl) hHeld ?_
  refine Rg.skip (ops := (Rg.opsOf Tryz.f4 16)) 14 (some 106) hNS (by kernel_rfl) (by kernel_rfl) (by kernel_rfl) (by kernel_rfl) (by kernel_rfl) hHeld ?_
  refine Rg.skip (ops := (Rg.opsOf Tryz.f4 16)) 15 (some 107) hNS (by kernel_rfl) (by kernel_rfl) (by kernel_rfl) (by kernel_rfl) (by kernel_rfl) hHeld ?_
  refine Rg.skip (ops := (Rg.opsOf Tryz.f4 16)) 16 (some 108) hNS (by kernel_rfl) (by kernel_rfl) (by kernel_rfl) (by kernel_rfl) (by kernel_rfl) hHeld ?_
  refine Rg.skip (ops := (Rg.opsOf Tryz.f4 16)) 17 (some 109) hNS (by kernel_rfl) (by kernel_rfl) (by kernel_rfl) (by kernel_rfl) (by kernel_rfl) hHeld ?_
  refine Rg.skip (ops := (Rg.opsOf Tryz.f4 16)) 18 (some 110) hNS (by kernel_rfl) (by kernel_rfl) (by kernel_rfl) (by kernel_rfl) (by kernel_rfl) hHeld ?_
  refine Rg.skip (ops := (Rg.opsOf Tryz.f4 16)) 19 (some 111) hNS (by kernel_rfl) (by kernel_rfl) (by kernel_rfl) (by kernel_rfl) (by kernel_rfl) hHeld ?_
  refine Rg.skip (ops := (Rg.opsOf Tryz.f4 16)) 20 (some 112) hNS (by kernel_rfl) (by kernel_rfl) (by kernel_rfl) (by kernel_rfl) (by kernel_rfl) hHeld ?_
  refine Rg.take (ops := (Rg.opsOf Tryz.f4 16)) 21 (some 113) ((Value.bool false)) hNS (by kernel_rfl) (by kernel_rfl) (by kernel_rfl) (by kernel_rfl) (by kernel_rfl) hHeld (Rg.y_pick (c := (Operand.tmp 99)) (x := (Operand.tmp 112)) (y := (Operand.const (Value.bool false))) (b := false) (by kernel_rfl) (by kernel_rfl) (by kernel_rfl)) ?_
  refine Rg.done (ops := (Rg.opsOf Tryz.f4 16)) (by kernel_rfl) ?_
  exact ⟨by kernel_rfl, hHeld⟩
set_option maxRecDepth 100000 in
set_option maxHeartbeats 4000000 in
theorem layB (ops : Array Oper) (hops : ops = (Rg.opsOf Tryz.f4 16)) (id : Nat) (va : Value) (g off n c k : Nat) (K : Int) (q Dt : ByteArray) (GK : Int) (GD : ByteArray) (Bq : Bool) {u2 u3 u4 u5 u6 u7 u8 u9 u10 u11 u12 u13 u14 u15 u16 u17 u18 u19 u21 u22 u23 u24 u25 u26 u27 u28 u29 u30 u31 u32 u33 u34 u35 u36 u37 u38 u39 u40 u41 u42 u43 u44 u45 u46 u47 u48 u49 u50 u51 u52 u53 u54 u55 u56 u57 u58 u59 u60 u61 u62 u63 u64 u65 u66 u67 u68 u69 u70 u71 u72 u73 u74 u75 u76 u77 u78 u79 u80 u81 u82 u83 u84 u85 u86 u87 u88 u89 u90 u91 u92 u93 u94 u95 u96 u97 u98 u99 u100 u101 u102 u103 u104 u105 u106 u107 u108 u109 u110 u111 u112 u113 u114 u115 u116 u117 u118 u119 u120 u121 u122 u123 u124 u125 u126 u127 u128 u129 u130 u131 u132 u133 u134 u135 u136 u137 u138 u139 u140 u141 u142 u143 u144 u145 u146 u147 u148 u149 u150 u151 u152 u153 u154 u155 u156 u157 u158 u159 : Value} (w : World) (X : World → Prop) (hlt : (k : Int) < (n : Int))
    (hX : ∀ W, X W → W.cell? ⟨g, off + k * 3, none⟩ = some (.string q) ∧ W.cell? ⟨g, off + k * 3 + 1, none⟩ = some (.int .i64 K) ∧ W.cell? ⟨g, off + k * 3 + 2, none⟩ = some (.string Dt)) (hw : X w.drew)
    (S0 : ∀ W : World, (binOp .eql 3 (.int .i64 K) (.int .i64 2)).run Tryz.prog W = .ok (.bool true) W) (S1 : ∀ W : World, (binOp .neq 52 (.agg #[.int .i64 GK, .string GD]) (.agg #[.int .i64 K, .string Dt])).run Tryz.prog W = .ok (.bool Bq) W)
    (hA : ∀ W, X W → Calls Tryz.prog 22 #[va, .string q] W fun e w' => e = .returned (.agg #[.int .i64 GK, .string GD]) ∧ X w') :
    (Code.region id ops true).wp Tryz.prog (Rg.Only fun a' w' => a' = ⟨#[va, (.slice (some ⟨g, off, none⟩) n c), u2, u3, u4, u5, u6, u7, u8, u9, u10, u11, u12, u13, u14, u15, u16, u17, u18, u19, (.int .i64 (k : Int)), u21, u22, u23, u24, u25, u26, u27, u28, u29, u30, u31, u32, u33, u34, u35, u36, u37, u38, u39, u40, u41, u42, u43, u44, u45, u46, u47, u48, u49, u50, u51, u52, u53, u54, u55, u56, u57, u58, u59, u60, u61, u62, u63, u64, u65, u66, u67, u68, u69, u70, u71, u72, u73, u74, u75, u76, u77, u78, u79, u80, u81, u82, u83, u84, u85, u86, u87, u88, u89, u90, u91, (.slice (some ⟨g, off, none⟩) n c), (.int .i64 (k : Int)), (.pointer (some ⟨g, off + k * 3, none⟩)), (.pointer (some ⟨g, off + k * 3 + 1, none⟩)), (.pointer (some ⟨g, off + k * 3 + 1, none⟩)), (.int .i64 K), (.bool true), (.bool true), va, (.slice (some ⟨g, off, none⟩) n c), (.int .i64 (k : Int)), (.pointer (some ⟨g, off + k * 3, none⟩)), (.pointer (some ⟨g, off + k * 3, none⟩)), (.string q), (.agg #[.int .i64 GK, .string GD]), (.slice (some ⟨g, off, none⟩) n c), (.int .i64 (k : Int)), (.pointer (some ⟨g, off + k * 3, none⟩)), (.pointer (some ⟨g, off + k * 3 + 1, none⟩)), (.agg #[.int .i64 K, .string Dt]), (.bool Bq), (.bool Bq), u114, u115, u116, u117, u118, u119, u120, u121, u122, u123, u124, u125, u126, u127, u128, u129, u130, u131, u132, u133, u134, u135, u136, u137, u138, u139, u140, u141, u142, u143, u144, u145, u146, u147, u148, u149, u150, u151, u152, u153, u154, u155, u156, u157, u158, u159], []⟩ ∧ X w') ⟨#[va, (.slice (some ⟨g, off, none⟩) n c), u2, u3, u4, u5, u6, u7, u8, u9, u10, u11, u12, u13, u14, u15, u16, u17, u18, u19, (.int .i64 (k : Int)), u21, u22, u23, u24, u25, u26, u27, u28, u29, u30, u31, u32, u33, u34, u35, u36, u37, u38, u39, u40, u41, u42, u43, u44, u45, u46, u47, u48, u49, u50, u51, u52, u53, u54, u55, u56, u57, u58, u59, u60, u61, u62, u63, u64, u65, u66, u67, u68, u69, u70, u71, u72, u73, u74, u75, u76, u77, u78, u79, u80, u81, u82, u83, u84, u85, u86, u87, u88, u89, u90, u91, u92, u93, u94, u95, u96, u97, u98, u99, u100, u101, u102, u103, u104, u105, u106, u107, u108, u109, u110, u111, u112, u113, u114, u115, u116, u117, u118, u119, u120, u121, u122, u123, u124, u125, u126, u127, u128, u129, u130, u131, u132, u133, u134, u135, u136, u137, u138, u139, u140, u141, u142, u143, u144, u145, u146, u147, u148, u149, u150, u151, u152, u153, u154, u155, u156, u157, u158, u159], []⟩ w := by
  subst hops
  have hNS : Region.noSelect (Rg.opsOf Tryz.f4 16) = true := by kernel_rfl
  refine wp_region_held_drew (S := X) (by kernel_rfl) hw (fun hHeld => ?_)
  rw [show (Rg.opsOf Tryz.f4 16).size = 22 by kernel_rfl]
  refine Rg.take (ops := (Rg.opsOf Tryz.f4 16)) 0 (some 92) ((.slice (some ⟨g, off, none⟩) n c)) hNS (by kernel_rfl) (by kernel_rfl) (by kernel_rfl) (by kernel_rfl) (by kernel_rfl) hHeld (Rg.y_move (x := (Operand.tmp 1)) (Or.inl (by kernel_rfl)) (by kernel_rfl)) ?_
  refine Rg.take (ops := (Rg.opsOf Tryz.f4 16)) 1 (some 93) ((.int .i64 (k : Int))) hNS (by kernel_rfl) (by kernel_rfl) (by kernel_rfl) (by kernel_rfl) (by kernel_rfl) hHeld (Rg.y_move (x := (Operand.tmp 20)) (Or.inl (by kernel_rfl)) (by kernel_rfl)) ?_
  refine Rg.take (ops := (Rg.opsOf Tryz.f4 16)) 2 (some 94) ((.pointer (some ⟨g, off + k * 3, none⟩))) hNS (by kernel_rfl) (by kernel_rfl) (by kernel_rfl) (by kernel_rfl) (by kernel_rfl) hHeld (Rg.y_at (T := 32) (x := (Operand.tmp 92)) (y := (Operand.tmp 93)) (vx := (.slice (some ⟨g, off, none⟩) n c)) (vy := (.int .i64 (k : Int))) (by kernel_rfl) (by kernel_rfl) (by kernel_rfl) ?_) ?_
  · (intro W hSw; clear hSw hHeld; go_simp <;> first | omega | (intro h0; omega))
  refine Rg.take (ops := (Rg.opsOf Tryz.f4 16)) 3 (some 95) ((.pointer (some ⟨g, off + k * 3 + 1, none⟩))) hNS (by kernel_rfl) (by kernel_rfl) (by kernel_rfl) (by kernel_rfl) (by kernel_rfl) hHeld (Rg.y_field (T := 54) (k := 1) (x := (Operand.tmp 94)) (vx := (.pointer (some ⟨g, off + k * 3, none⟩))) (by kernel_rfl) (by kernel_rfl) ?_) ?_
  · (intro W hSw; clear hSw hHeld; go_simp)
  refine Rg.take (ops := (Rg.opsOf Tryz.f4 16)) 4 (some 96) ((.pointer (some ⟨g, off + k * 3 + 1, none⟩))) hNS (by kernel_rfl) (by kernel_rfl) (by kernel_rfl) (by kernel_rfl) (by kernel_rfl) hHeld (Rg.y_field (T := 52) (k := 0) (x := (Operand.tmp 95)) (vx := (.pointer (some ⟨g, off + k * 3 + 1, none⟩))) (by kernel_rfl) (by kernel_rfl) ?_) ?_
  · (intro W hSw; clear hSw hHeld; go_simp)
  refine Rg.take (ops := (Rg.opsOf Tryz.f4 16)) 5 (some 97) ((.int .i64 K)) hNS (by kernel_rfl) (by kernel_rfl) (by kernel_rfl) (by kernel_rfl) (by kernel_rfl) hHeld (Rg.y_load (T := 3) (x := (Operand.tmp 96)) (vx := (.pointer (some ⟨g, off + k * 3 + 1, none⟩))) (by kernel_rfl) (by kernel_rfl) ?_) ?_
  · (intro W hSw; obtain ⟨s0, s1, s2⟩ := hX _ hSw; clear hSw hHeld; go_simp)
  refine Rg.take (ops := (Rg.opsOf Tryz.f4 16)) 6 (some 98) ((.bool true)) hNS (by kernel_rfl) (by kernel_rfl) (by kernel_rfl) (by kernel_rfl) (by kernel_rfl) hHeld (Rg.y_bin (b := BinOp.eql) (T := 3) (R' := 3) (x := (Operand.tmp 97)) (y := (Operand.const (Value.int IntKind.i64 2))) (vx := (.int .i64 K)) (vy := (Value.int IntKind.i64 2)) (by kernel_rfl) (by kernel_rfl) (by kernel_rfl) ?_) ?_
  · (intro W hSw; clear hSw hHeld; exact S0 W)
  refine Rg.take (ops := (Rg.opsOf Tryz.f4 16)) 7 (some 99) ((.bool true)) hNS (by kernel_rfl) (by kernel_rfl) (by kernel_rfl) (by kernel_rfl) (by kernel_rfl) hHeld (Rg.y_move (x := (Operand.tmp 98)) (Or.inl (by kernel_rfl)) (by kernel_rfl)) ?_
  refine Rg.take (ops := (Rg.opsOf Tryz.f4 16)) 8 (some 100) (va) hNS (by kernel_rfl) (by kernel_rfl) (by kernel_rfl) (by kernel_rfl) (by kernel_rfl) hHeld (Rg.y_move (x := (Operand.tmp 0)) (Or.inl (by kernel_rfl)) (by kernel_rfl)) ?_
  refine Rg.take (ops := (Rg.opsOf Tryz.f4 16)) 9 (some 101) ((.slice (some ⟨g, off, none⟩) n c)) hNS (by kernel_rfl) (by kernel_rfl) (by kernel_rfl) (by kernel_rfl) (by kernel_rfl) hHeld (Rg.y_move (x := (Operand.tmp 1)) (Or.inl (by kernel_rfl)) (by kernel_rfl)) ?_
  refine Rg.take (ops := (Rg.opsOf Tryz.f4 16)) 10 (some 102) ((.int .i64 (k : Int))) hNS (by kernel_rfl) (by kernel_rfl) (by kernel_rfl) (by kernel_rfl) (by kernel_rfl) hHeld (Rg.y_move (x := (Operand.tmp 20)) (Or.inl (by kernel_rfl)) (by kernel_rfl)) ?_
  refine Rg.take (ops := (Rg.opsOf Tryz.f4 16)) 11 (some 103) ((.pointer (some ⟨g, off + k * 3, none⟩))) hNS (by kernel_rfl) (by kernel_rfl) (by kernel_rfl) (by kernel_rfl) (by kernel_rfl) hHeld (Rg.y_at (T := 32) (x := (Operand.tmp 101)) (y := (Operand.tmp 102)) (vx := (.slice (some ⟨g, off, none⟩) n c)) (vy := (.int .i64 (k : Int))) (by kernel_rfl) (by kernel_rfl) (by kernel_rfl) ?_) ?_
  · (intro W hSw; clear hSw hHeld; go_simp <;> first | omega | (intro h0; omega))
  refine Rg.take (ops := (Rg.opsOf Tryz.f4 16)) 12 (some 104) ((.pointer (some ⟨g, off + k * 3, none⟩))) hNS (by kernel_rfl) (by kernel_rfl) (by kernel_rfl) (by kernel_rfl) (by kernel_rfl) hHeld (Rg.y_field (T := 54) (k := 0) (x := (Operand.tmp 103)) (vx := (.pointer (some ⟨g, off + k * 3, none⟩))) (by kernel_rfl) (by kernel_rfl) ?_) ?_
  · (intro W hSw; clear hSw hHeld; go_simp)
  refine Rg.take (ops := (Rg.opsOf Tryz.f4 16)) 13 (some 105) ((.string q)) hNS (by kernel_rfl) (by kernel_rfl) (by kernel_rfl) (by kernel_rfl) (by kernel_rfl) hHeld (Rg.y_load (T := 9) (x := (Operand.tmp 104)) (vx := (.pointer (some ⟨g, off + k * 3, none⟩))) (by kernel_rfl) (by kernel_rfl) ?_) ?_
  · (intro W hSw; obtain ⟨s0, s1, s2⟩ := hX _ hSw; clear hSw hHeld; go_simp)
  refine Rg.take (ops := (Rg.opsOf Tryz.f4 16)) 15 (some 107) ((.slice (some ⟨g, off, none⟩) n c)) hNS (by kernel_rfl) (by kernel_rfl) (by kernel_rfl) (by kernel_rfl) (by kernel_rfl) hHeld (Rg.y_move (x := (Operand.tmp 1)) (Or.inl (by kernel_rfl)) (by kernel_rfl)) ?_
  refine Rg.take (ops := (Rg.opsOf Tryz.f4 16)) 16 (some 108) ((.int .i64 (k : Int))) hNS (by kernel_rfl) (by kernel_rfl) (by kernel_rfl) (by kernel_rfl) (by kernel_rfl) hHeld (Rg.y_move (x := (Operand.tmp 20)) (Or.inl (by kernel_rfl)) (by kernel_rfl)) ?_
  refine Rg.take (ops := (Rg.opsOf Tryz.f4 16)) 17 (some 109) ((.pointer (some ⟨g, off + k * 3, none⟩))) hNS (by kernel_rfl) (by kernel_rfl) (by kernel_rfl) (by kernel_rfl) (by kernel_rfl) hHeld (Rg.y_at (T := 32) (x := (Operand.tmp 107)) (y := (Operand.tmp 108)) (vx := (.slice (some ⟨g, off, none⟩) n c)) (vy := (.int .i64 (k : Int))) (by kernel_rfl) (by kernel_rfl) (by kernel_rfl) ?_) ?_
  · (intro W hSw; clear hSw hHeld; go_simp <;> first | omega | (intro h0; omega))
  refine Rg.take (ops := (Rg.opsOf Tryz.f4 16)) 18 (some 110) ((.pointer (some ⟨g, off + k * 3 + 1, none⟩))) hNS (by kernel_rfl) (by kernel_rfl) (by kernel_rfl) (by kernel_rfl) (by kernel_rfl) hHeld (Rg.y_field (T := 54) (k := 1) (x := (Operand.tmp 109)) (vx := (.pointer (some ⟨g, off + k * 3, none⟩))) (by kernel_rfl) (by kernel_rfl) ?_) ?_
  · (intro W hSw; clear hSw hHeld; go_simp)
  refine Rg.take (ops := (Rg.opsOf Tryz.f4 16)) 19 (some 111) ((.agg #[.int .i64 K, .string Dt])) hNS (by kernel_rfl) (by kernel_rfl) (by kernel_rfl) (by kernel_rfl) (by kernel_rfl) hHeld (Rg.y_load (T := 52) (x := (Operand.tmp 110)) (vx := (.pointer (some ⟨g, off + k * 3 + 1, none⟩))) (by kernel_rfl) (by kernel_rfl) ?_) ?_
  · (intro W hSw; obtain ⟨s0, s1, s2⟩ := hX _ hSw; clear hSw hHeld; go_simp)
  refine Rg.call (ops := (Rg.opsOf Tryz.f4 16)) (fn := Tryz.f22) (xs := #[Operand.tmp 100, Operand.tmp 105]) (ats := #[32, 9]) 14 (some 106) 22 #[va, (.string q)] (by kernel_rfl) (by kernel_rfl) (by kernel_rfl) (by kernel_rfl) (by kernel_rfl) Tryz.func22 (by kernel_rfl) (by kernel_rfl) (by kernel_rfl) ?_
  refine (hA _ hHeld).mono ?_
  rintro e w5 ⟨rfl, k5⟩
  refine ⟨_, rfl, k5, fun hHeld => ?_⟩
  refine Rg.take (ops := (Rg.opsOf Tryz.f4 16)) 20 (some 112) ((.bool Bq)) hNS (by kernel_rfl) (by kernel_rfl) (by kernel_rfl) (by kernel_rfl) (by kernel_rfl) hHeld (Rg.y_bin (b := BinOp.neq) (T := 52) (R' := 52) (x := (Operand.tmp 106)) (y := (Operand.tmp 111)) (vx := (.agg #[.int .i64 GK, .string GD])) (vy := (.agg #[.int .i64 K, .string Dt])) (by kernel_rfl) (by kernel_rfl) (by kernel_rfl) ?_) ?_
  · (intro W hSw; clear hSw hHeld; have hg : Tryz.prog.eqGuardType Tryz.prog.depth 52 = false := (by kernel_rfl); have h1 := S1 W; go_simp)
  refine Rg.take (ops := (Rg.opsOf Tryz.f4 16)) 21 (some 113) ((.bool Bq)) hNS (by kernel_rfl) (by kernel_rfl) (by kernel_rfl) (by kernel_rfl) (by kernel_rfl) hHeld (Rg.y_pick (c := (Operand.tmp 99)) (x := (Operand.tmp 112)) (y := (Operand.const (Value.bool false))) (b := true) (by kernel_rfl) (by kernel_rfl) (by kernel_rfl)) ?_
  refine Rg.done (ops := (Rg.opsOf Tryz.f4 16)) (by kernel_rfl) ?_
  exact ⟨by kernel_rfl, hHeld⟩
end Go.Proofs.YtdpnmdnfnplcfaaGreat.Sc

namespace Go.Proofs.YtdpnmdnfnplcfaaGreat.Ea
open Go.RowKit Tx En Ap
set_option linter.unusedVariables false
def wasE (j : Nat) : Et := ⟨⟨#[]⟩, ⟨1000 + (j : Int), ⟨#[]⟩⟩⟩
def newE (j : Nat) : Et := ⟨⟨#[]⟩, ⟨2000 + (j : Int), ⟨#[]⟩⟩⟩
structure Ls where
  m : Nat
  A : Nat → Option Addr
  N : Nat → Nat
  C : Nat → Nat
  bo : Nat
  B : Nat
namespace Ls
variable (L : Ls)
def val (j : Nat) : Value := .slice (L.A j) (L.N j) (L.C j)
def cells (w : World) : Prop := ∀ j, j < L.m → w.cell? ⟨L.bo, j, none⟩ = some (.slice (L.A j) (L.N j) (L.C j))
def far : Prop := (∀ i j, i < L.m → j < L.m → i ≠ j → ∀ x, L.A i = some x → L.A j ≠ some x) ∧ ∀ j, j < L.m → ∀ g, L.A j = some ⟨g, 0, none⟩ → g ≠ L.bo
def marked (w : World) (i k : Nat) : Prop := ∀ j, j < L.m → ∃ xs : List Et, w.ownsRow L.B 54 3 (.slice (L.A j) (L.N j) (L.C j)) (L.N j) (xs.flatMap En.cells) ∧ ∀ l, l < L.N j → (j < i ∨ j = i ∧ l < k) → xs[l]? = some (wasE j)
end Ls
theorem marked_next {L : Ls} {w : World} {i : Nat} (h : L.marked w i (L.N i)) : L.marked w (i + 1) 0 := by
  intro j hj
  obtain ⟨xs, h1, h2⟩ := h j hj
  refine ⟨xs, h1, fun l hl hh => h2 l hl ?_⟩
  rcases hh with hh | ⟨_, hh⟩
  · by_cases e : j = i
    · subst e; exact .inr ⟨rfl, hl⟩
    · exact .inl (by omega)
  · omega
theorem addr_eq {A : Option Addr} {n c : Nat} {w : World} {B size : Nat} {e : TypeId} {xs : List Value} (h : w.ownsRow B e size (.slice A n c) n xs) (hn : 0 < n) : ∃ g, A = some ⟨g, 0, none⟩ ∧ B ≤ g := by
  obtain ⟨g, cap, hv, hg, _⟩ := h.form hn
  injection hv with ha
  exact ⟨g, ha, hg⟩
def put3 (w : World) (g k : Nat) (x : Et) : World := ((w.setCell ⟨g, k * 3, none⟩ (.string x.path)).setCell ⟨g, k * 3 + 1, none⟩ (.int .i64 x.node.kind)).setCell ⟨g, k * 3 + 1 + 1, none⟩ (.string x.node.data)
theorem marked_store {L : Ls} {w : World} {i k g : Nat} (hf : L.far) (h : L.marked w i k) (hi : i < L.m) (hk : k < L.N i) (ha : L.A i = some ⟨g, 0, none⟩) : L.marked (put3 w g k (wasE i)) i (k + 1) := by
  intro j hj
  obtain ⟨xs, h1, h2⟩ := h j hj
  have hxl : xs.length = L.N j := by have := h1.1; rw [flat_len] at this; omega
  by_cases e : j = i
  · subst e
    rw [ha] at h1 ⊢
    have hl2 : k < xs.length := by omega
    refine ⟨xs.set k (wasE j), own_store h1 hl2 _, fun l hl hh => ?_⟩
    by_cases e2 : l = k
    · subst e2
      exact List.getElem?_set_self hl2
    · rw [List.getElem?_set_ne (fun e => e2 e.symm)]
      exact h2 l hl (.inr ⟨rfl, by rcases hh with hh | ⟨_, hh⟩ <;> omega⟩)
  · have hb : (Value.slice (L.A j) (L.N j) (L.C j)).ownBlock ≠ some g := by
      intro hb
      cases hA : L.A j with
      | none => rw [hA] at hb; simp [Value.ownBlock] at hb
      | some x =>
        by_cases h0 : L.N j = 0
        · rcases h1.2 with ⟨hv, _⟩ | ⟨g', cap', cur, hv, _⟩
          · rw [hA] at hv; cases hv
          · rw [hA] at hv hb
            injection hv with hx
            injection hx with hx
            subst hx
            simp only [Value.ownBlock, Option.some.injEq] at hb
            subst hb
            exact hf.1 j i hj hi e _ hA ha
        · obtain ⟨g', ha', _⟩ := addr_eq h1 (by omega)
          rw [hA] at ha' hb
          injection ha' with hx
          subst hx
          simp only [Value.ownBlock, Option.some.injEq] at hb
          subst hb
          exact hf.1 j i hj hi e _ hA ha
    refine ⟨xs, own_far (own_far (own_far h1 hb _) hb _) hb _, fun l hl hh => h2 l hl ?_⟩
    rcases hh with hh | ⟨hh, _⟩
    · exact .inl hh
    · exact absurd hh e
theorem cells_store {L : Ls} {w : World} {i k g : Nat} (hf : L.far) (h : L.cells w) (hi : i < L.m) (ha : L.A i = some ⟨g, 0, none⟩) (x : Et) : L.cells (put3 w g k x) := by
  intro j hj
  have hne := hf.2 i hi g ha
  unfold put3
  rw [World.cell?_setCell_other _ _ _ _ (fun e => hne (by injection e)), World.cell?_setCell_other _ _ _ _ (fun e => hne (by injection e)), World.cell?_setCell_other _ _ _ _ (fun e => hne (by injection e))]
  exact h j hj
def sw (j : Nat) : Value := .int .i64 (1000 + (j : Int))
def row (L : Ls) (j k : Nat) : List Et := List.replicate (L.N j) (wasE j) ++ List.replicate k (newE j)
theorem row_was {L : Ls} {j k l : Nat} (h : l < L.N j) : (row L j k)[l]? = some (wasE j) := by
  rw [row, List.getElem?_append_left (by simpa using h), List.getElem?_replicate, if_pos h]
theorem row_new {L : Ls} {j k l : Nat} (h : ¬ l < L.N j) (h2 : l < L.N j + k) : (row L j k)[l]? = some (newE j) := by
  rw [row, List.getElem?_append_right (by simp; omega), List.length_replicate, List.getElem?_replicate, if_pos (by omega)]
theorem row_zero (L : Ls) (j : Nat) : row L j 0 = List.replicate (L.N j) (wasE j) := by simp [row]
theorem row_step (L : Ls) (j k : Nat) : row L j k ++ [newE j] = row L j (k + 1) := by
  rw [row, row, List.append_assoc, List.replicate_succ']
theorem own_kind {w : World} {base g n cap : Nat} {xs : List Et} (h : w.ownsRow base 54 3 (.slice (some ⟨g, 0, none⟩) n cap) n (xs.flatMap En.cells)) {l : Nat} {x : Et} (hl : xs[l]? = some x) : w.cell? ⟨g, l * 3 + 1, none⟩ = some (.int .i64 x.node.kind) :=
  own_cell h (flat_at xs l x 1 hl (by omega))
theorem own_same {w w1 : World} {base n size : Nat} {e : TypeId} {v : Value} {xs : List Value} (h : w.ownsRow base e size v n xs) (hk : ∀ q, q < w.heap.size → v.ownBlock = some q → w1.heap[q]? = w.heap[q]?) : w1.ownsRow base e size v n xs := by
  refine ⟨h.1, ?_⟩
  rcases h.2 with h0 | ⟨g, cap, cur, rfl, hb, hh, r⟩
  · exact .inl h0
  · exact .inr ⟨g, cap, cur, rfl, hb, (hk g (Array.getElem?_eq_some_iff.1 hh).1 rfl).trans hh, r⟩
theorem own_lt {w : World} {base n size : Nat} {e : TypeId} {v : Value} {xs : List Value} (h : w.ownsRow base e size v n xs) {g : Nat} (hg : v.ownBlock = some g) : base ≤ g ∧ g < w.heap.size := h.lt g hg
theorem cell_same {w w1 : World} {g k : Nat} {u : Value} (h : w.cell? ⟨g, k, none⟩ = some u) (hk : w1.heap[g]? = w.heap[g]?) : w1.cell? ⟨g, k, none⟩ = some u := (World.cell?_of_block (a := ⟨g, k, none⟩) hk).trans h
structure Inv (L : Ls) (w0 : World) (H i r : Nat) (w : World) (v6 : Value) (vs : List Value) (b c : Nat → Nat) : Prop where
  cells : L.cells w
  held : ∀ j, j < L.m → ∀ l, l < L.N j → ∃ g, L.A j = some ⟨g, 0, none⟩ ∧ w.cell? ⟨g, l * 3 + 1, none⟩ = some (sw j)
  rows : ∀ j, r ≤ j → j < L.m → w.ownsRow L.B 54 3 (.slice (L.A j) (L.N j) (L.C j)) (L.N j) ((row L j 0).flatMap En.cells)
  outer : w.ownsRow L.B 32 1 v6 i vs
  high : ∀ g, v6.ownBlock = some g → H ≤ g
  long : ∀ j, j < i → vs[j]? = some (.slice (some ⟨b j, 0, none⟩) (L.N j + 20) (c j)) ∧ w.ownsRow L.B 54 3 (.slice (some ⟨b j, 0, none⟩) (L.N j + 20) (c j)) (L.N j + 20) ((row L j 20).flatMap En.cells) ∧ (L.A j = some ⟨b j, 0, none⟩ ∨ H ≤ b j)
  apart : ∀ j k, j < i → k < i → j ≠ k → b j ≠ b k
  low : ∀ j, j < L.m → ∀ g, L.A j = some ⟨g, 0, none⟩ → g < H
  bo : L.bo < H
  size : H ≤ w.heap.size
  below : Below L.B w0 w
  base : L.B ≤ H
structure Cur (L : Ls) (H i k : Nat) (w : World) (v : Value) (b : Nat → Nat) : Prop where
  own : w.ownsRow L.B 54 3 v (L.N i + k) ((row L i k).flatMap En.cells)
  at_ : ∀ g, v.ownBlock = some g → (L.A i = some ⟨g, 0, none⟩ ∨ H ≤ g) ∧ ∀ j, j < i → b j ≠ g
theorem inv_start {L : Ls} {w0 w : World} (hf : L.far) (hc : L.cells w) (hm : L.marked w L.m 0) (hbo : L.bo < w.heap.size) (hB : L.B ≤ w.heap.size) (hb : Below L.B w0 w) : Inv L w0 w.heap.size 0 0 w (.slice none 0 0) [] (fun _ => 0) (fun _ => 0) := by
  have hrow : ∀ j, j < L.m → w.ownsRow L.B 54 3 (.slice (L.A j) (L.N j) (L.C j)) (L.N j) ((row L j 0).flatMap En.cells) := by
    intro j hj
    obtain ⟨xs, h1, h2⟩ := hm j hj
    have e : xs = row L j 0 := by
      rw [row_zero]
      apply List.ext_getElem?
      intro l
      rw [List.getElem?_replicate]
      have hxl : xs.length = L.N j := by have := h1.1; rw [flat_len] at this; omega
      by_cases hl : l < L.N j
      · rw [if_pos hl]; exact h2 l hl (.inl hj)
      · rw [if_neg hl, List.getElem?_eq_none (by omega)]
    rw [← e]
    exact h1
  refine ⟨hc, ?_, fun j _ hj => hrow j hj, World.ownsRow_nil _ _ _ _, fun g hg => by simp [Value.ownBlock] at hg, fun j hj => absurd hj (by omega), fun j k hj => absurd hj (by omega), ?_, hbo, Nat.le_refl _, hb, hB⟩
  · intro j hj l hl
    have h1 := hrow j hj
    obtain ⟨g, ha, _⟩ := addr_eq h1 (by omega)
    rw [ha] at h1
    exact ⟨g, ha, own_kind h1 (row_was hl)⟩
  · intro j hj g ha
    have h1 := hrow j hj
    rw [ha] at h1
    exact (own_lt h1 rfl).2
theorem cur_start {L : Ls} {w0 w : World} {H i r : Nat} {v6 : Value} {vs : List Value} {b c : Nat → Nat} (hf : L.far) (h : Inv L w0 H i r w v6 vs b c) (hr : r ≤ i) (hi : i < L.m) : Cur L H i 0 w (.slice (L.A i) (L.N i) (L.C i)) b := by
  have h1 := h.rows i hr hi
  refine ⟨h1, fun g hg => ?_⟩
  have ha : L.A i = some ⟨g, 0, none⟩ := by
    rcases h1.2 with ⟨hv, _⟩ | ⟨g', cap', cur, hv, _⟩
    · rw [hv] at hg; simp [Value.ownBlock] at hg
    · rw [hv] at hg
      simp only [Value.ownBlock, Option.some.injEq] at hg
      subst hg
      injection hv
  refine ⟨.inl ha, fun j hj e => ?_⟩
  rcases (h.long j hj).2.2 with h2 | h2
  · rw [e] at h2
    exact hf.1 j i (by omega) hi (by omega) _ h2 ha
  · have := h.low i hi g ha
    omega
theorem cur_step {L : Ls} {w0 w w1 : World} {H i k r : Nat} {v v1 v6 : Value} {vs : List Value} {b c : Nat → Nat} {o : Obj} (hf : L.far) (h : Inv L w0 H i r w v6 vs b c) (hi : i < L.m) (hc : Cur L H i k w v b)
    (hown : w1.ownsRow L.B 54 3 v1 (L.N i + k + 1) ((row L i k).flatMap En.cells ++ En.cells (newE i)))
    (hg : (v1.ownBlock = v.ownBlock ∧ (w.alloc o).grownBy w1 v.ownBlock) ∨ (v1.ownBlock = some (w.heap.size + 1) ∧ (w.alloc o).grownBy w1 none)) :
    (∀ q, q < w.heap.size → (∀ g, v.ownBlock = some g → q ≠ g) → w1.heap[q]? = w.heap[q]?) ∧ Cur L H i (k + 1) w1 v1 b ∧ w.heap.size ≤ w1.heap.size ∧ Below L.B w0 w1 ∧
      (∀ q, L.A i = some ⟨q, 0, none⟩ → ∀ l, l < L.N i → w1.cell? ⟨q, l * 3 + 1, none⟩ = some (sw i)) := by
  have hB : L.B ≤ w.heap.size := Nat.le_trans h.base h.size
  have hal : w.heap.size + 1 = (w.alloc o).heap.size := (World.size_alloc _ _).symm
  have hk : ∀ q, q < w.heap.size → (∀ g, v.ownBlock = some g → q ≠ g) → w1.heap[q]? = w.heap[q]? := by
    intro q hq hne
    rcases hg with ⟨_, hg⟩ | ⟨_, hg⟩
    · exact (hg.block q (by omega) (fun e => hne q e.symm rfl)).trans (Below.heap_alloc w o q hq)
    · exact (hg.block q (by omega) (by simp)).trans (Below.heap_alloc w o q hq)
  have hown2 : w1.ownsRow L.B 54 3 v1 (L.N i + (k + 1)) ((row L i (k + 1)).flatMap En.cells) := by
    rw [← row_step, List.flatMap_append, List.flatMap_cons, List.flatMap_nil, List.append_nil]
    exact hown
  have hsz : w.heap.size ≤ w1.heap.size := by
    rcases hg with ⟨_, hg⟩ | ⟨_, hg⟩
    · have := hg.size; omega
    · have := hg.size; omega
  have hbel : Below L.B w0 w1 := by
    have h2 := h.below.alloc hB o
    rcases hg with ⟨_, hg⟩ | ⟨_, hg⟩
    · exact h2.grown hg (by omega) (fun q hq => (own_lt hc.own hq).1)
    · exact h2.grown hg (by omega) (fun q hq => by cases hq)
  refine ⟨hk, ⟨hown2, fun g hg1 => ?_⟩, hsz, hbel, fun q hq l hl => ?_⟩
  · rcases hg with ⟨he, _⟩ | ⟨he, _⟩
    · exact hc.at_ g (by rw [← he]; exact hg1)
    · rw [he] at hg1
      injection hg1 with hg1
      have hs := h.size
      refine ⟨.inr (by omega), fun j hj e => ?_⟩
      have h9 : b j < w.heap.size := (own_lt (h.long j hj).2.1 rfl).2
      omega
  · by_cases hv : v.ownBlock = some q
    · rcases hg with ⟨he, _⟩ | ⟨_, hg⟩
      · obtain ⟨g', cap', hv', _, _⟩ := hown2.form (by omega)
        rw [hv'] at he hown2
        rw [hv] at he
        simp only [Value.ownBlock, Option.some.injEq] at he
        subst he
        exact own_kind hown2 (row_was hl)
      · obtain ⟨g', hA, hcell⟩ := h.held i hi l hl
        rw [hq] at hA
        injection hA with hA
        injection hA with hA
        subst hA
        have hq' := World.block_lt_of_cell? w _ hcell
        exact cell_same hcell ((hg.block q (by have : q < w.heap.size := hq'; omega) (by simp)).trans (Below.heap_alloc w o q hq'))
    · obtain ⟨g', hA, hcell⟩ := h.held i hi l hl
      rw [hq] at hA
      injection hA with hA
      injection hA with hA
      subst hA
      exact cell_same hcell (hk q (World.block_lt_of_cell? w _ hcell) (fun g hg e => hv (by rw [hg, e])))
theorem inv_step {L : Ls} {w0 w w1 : World} {H i k r : Nat} {v v6 : Value} {vs : List Value} {b c : Nat → Nat} (hf : L.far) (h : Inv L w0 H i r w v6 vs b c) (hi : i < L.m) (hc : Cur L H i k w v b) (rowsi : ∀ j, i < j → j < L.m → w.ownsRow L.B 54 3 (.slice (L.A j) (L.N j) (L.C j)) (L.N j) ((row L j 0).flatMap En.cells))
    (hk : ∀ q, q < w.heap.size → (∀ g, v.ownBlock = some g → q ≠ g) → w1.heap[q]? = w.heap[q]?) (hsz : w.heap.size ≤ w1.heap.size) (hbel : Below L.B w0 w1)
    (hi1 : ∀ q, L.A i = some ⟨q, 0, none⟩ → ∀ l, l < L.N i → w1.cell? ⟨q, l * 3 + 1, none⟩ = some (sw i)) :
    L.cells w1 ∧ (∀ j, j < L.m → ∀ l, l < L.N j → ∃ g, L.A j = some ⟨g, 0, none⟩ ∧ w1.cell? ⟨g, l * 3 + 1, none⟩ = some (sw j)) ∧
      (∀ j, i < j → j < L.m → w1.ownsRow L.B 54 3 (.slice (L.A j) (L.N j) (L.C j)) (L.N j) ((row L j 0).flatMap En.cells)) ∧ w1.ownsRow L.B 32 1 v6 i vs ∧
      (∀ j, j < i → vs[j]? = some (.slice (some ⟨b j, 0, none⟩) (L.N j + 20) (c j)) ∧ w1.ownsRow L.B 54 3 (.slice (some ⟨b j, 0, none⟩) (L.N j + 20) (c j)) (L.N j + 20) ((row L j 20).flatMap En.cells) ∧ (L.A j = some ⟨b j, 0, none⟩ ∨ H ≤ b j)) := by
  have hs := h.size
  have hbo := h.bo
  refine ⟨fun j hj => ?_, fun j hj l hl => ?_, fun j hij hj => ?_, ?_, fun j hj => ?_⟩
  · refine cell_same (h.cells j hj) (hk L.bo (by omega) (fun g hg e => ?_))
    subst e
    rcases (hc.at_ _ hg).1 with ha | ha
    · exact hf.2 i hi _ ha rfl
    · omega
  · by_cases e : j = i
    · subst e
      obtain ⟨g, ha, _⟩ := h.held j hj l hl
      exact ⟨g, ha, hi1 g ha l hl⟩
    · obtain ⟨g, ha, hcell⟩ := h.held j hj l hl
      refine ⟨g, ha, cell_same hcell (hk g (World.block_lt_of_cell? w _ hcell) (fun q hq e2 => ?_))⟩
      subst e2
      rcases (hc.at_ _ hq).1 with h2 | h2
      · exact hf.1 j i hj hi e _ ha h2
      · have := h.low j hj _ ha
        omega
  · have h1 := rowsi j hij hj
    refine own_same h1 (fun q hq hv => hk q hq (fun g hg e => ?_))
    subst e
    have ha : L.A j = some ⟨q, 0, none⟩ := by
      rcases h1.2 with ⟨hv2, _⟩ | ⟨g', cap', cur, hv2, _⟩
      · rw [hv2] at hv; simp [Value.ownBlock] at hv
      · rw [hv2] at hv
        simp only [Value.ownBlock, Option.some.injEq] at hv
        subst hv
        injection hv2
    rcases (hc.at_ _ hg).1 with h2 | h2
    · exact hf.1 j i hj hi (by omega) _ ha h2
    · have := h.low j hj _ ha
      omega
  · exact own_same h.outer (fun q hq hv => hk q hq (fun g hg e => by
      subst e
      exact types_ne hc.own h.outer (by decide) hg hv))
  · obtain ⟨h1, h2, h3⟩ := h.long j hj
    refine ⟨h1, own_same h2 (fun q hq hv => hk q hq (fun g hg e => ?_)), h3⟩
    simp only [Value.ownBlock, Option.some.injEq] at hv
    subst hv
    exact (hc.at_ g hg).2 j hj e
theorem inv_next {L : Ls} {w0 w w1 : World} {H i bv cv r : Nat} {v6 v7 : Value} {vs : List Value} {b c : Nat → Nat} {o : Obj} (hf : L.far) (h : Inv L w0 H i r w v6 vs b c) (hi : i < L.m) (hc : Cur L H i 20 w (.slice (some ⟨bv, 0, none⟩) (L.N i + 20) cv) b)
    (rowsi : ∀ j, i < j → j < L.m → w.ownsRow L.B 54 3 (.slice (L.A j) (L.N j) (L.C j)) (L.N j) ((row L j 0).flatMap En.cells))
    (hown : w1.ownsRow L.B 32 1 v7 (i + 1) (vs ++ [.slice (some ⟨bv, 0, none⟩) (L.N i + 20) cv]))
    (hg : (v7.ownBlock = v6.ownBlock ∧ (w.alloc o).grownBy w1 v6.ownBlock) ∨ (v7.ownBlock = some (w.heap.size + 1) ∧ (w.alloc o).grownBy w1 none)) :
    Inv L w0 H (i + 1) (i + 1) w1 v7 (vs ++ [.slice (some ⟨bv, 0, none⟩) (L.N i + 20) cv]) (fun j => if j = i then bv else b j) (fun j => if j = i then cv else c j) := by
  have hB : L.B ≤ w.heap.size := Nat.le_trans h.base h.size
  have hal : w.heap.size + 1 = (w.alloc o).heap.size := (World.size_alloc _ _).symm
  have hs := h.size
  have hbo := h.bo
  have hvl : vs.length = i := by have := h.outer.1; omega
  have hk : ∀ q, q < w.heap.size → (∀ g, v6.ownBlock = some g → q ≠ g) → w1.heap[q]? = w.heap[q]? := by
    intro q hq hne
    rcases hg with ⟨_, hg⟩ | ⟨_, hg⟩
    · exact (hg.block q (by omega) (fun e => hne q e.symm rfl)).trans (Below.heap_alloc w o q hq)
    · exact (hg.block q (by omega) (by simp)).trans (Below.heap_alloc w o q hq)
  have hsz : w.heap.size ≤ w1.heap.size := by
    rcases hg with ⟨_, hg⟩ | ⟨_, hg⟩
    · have := hg.size; omega
    · have := hg.size; omega
  have hbel : Below L.B w0 w1 := by
    have h2 := h.below.alloc hB o
    rcases hg with ⟨_, hg⟩ | ⟨_, hg⟩
    · exact h2.grown hg (by omega) (fun q hq => (own_lt h.outer hq).1)
    · exact h2.grown hg (by omega) (fun q hq => by cases hq)
  have hrow : ∀ {n : Nat} {v : Value} {xs : List Value}, w.ownsRow L.B 54 3 v n xs → w1.ownsRow L.B 54 3 v n xs := by
    intro n v xs h1
    exact own_same h1 (fun q hq hv => hk q hq (fun g hg e => by
      subst e
      exact types_ne h1 h.outer (by decide) hv hg))
  refine ⟨fun j hj => ?_, fun j hj l hl => ?_, fun j hij hj => hrow (rowsi j (by omega) hj), hown, fun g hg7 => ?_, fun j hj => ?_, fun j k hj hk2 hne => ?_, h.low, hbo, by omega, hbel, h.base⟩
  · refine cell_same (h.cells j hj) (hk L.bo (by omega) (fun g hg e => ?_))
    have := h.high g hg
    omega
  · obtain ⟨g, ha, hcell⟩ := h.held j hj l hl
    refine ⟨g, ha, cell_same hcell (hk g (World.block_lt_of_cell? w _ hcell) (fun q hq e2 => ?_))⟩
    have h1 := h.high q hq
    have h2 := h.low j hj g ha
    omega
  · rcases hg with ⟨he, _⟩ | ⟨he, _⟩
    · exact h.high g (by rw [← he]; exact hg7)
    · rw [he] at hg7
      injection hg7 with hg7
      omega
  · by_cases e : j = i
    · subst e
      rw [if_pos rfl, if_pos rfl]
      refine ⟨?_, hrow hc.own, (hc.at_ bv rfl).1⟩
      rw [List.getElem?_append_right (by omega), hvl, Nat.sub_self]
      rfl
    · rw [if_neg e, if_neg e]
      obtain ⟨h1, h2, h3⟩ := h.long j (by omega)
      refine ⟨?_, hrow h2, h3⟩
      rw [List.getElem?_append_left (by omega)]
      exact h1
  · by_cases e : j = i
    · by_cases e2 : k = i
      · omega
      · rw [if_pos e, if_neg e2]
        exact fun hh => (hc.at_ bv rfl).2 k (by omega) hh.symm
    · by_cases e2 : k = i
      · rw [if_neg e, if_pos e2]
        exact fun hh => (hc.at_ bv rfl).2 j (by omega) hh
      · rw [if_neg e, if_neg e2]
        exact h.apart j k (by omega) (by omega) hne
theorem both_step {L : Ls} {w0 w w1 : World} {H i k r : Nat} {v v1 v6 : Value} {vs : List Value} {b c : Nat → Nat} {o : Obj} (hf : L.far) (h : Inv L w0 H i r w v6 vs b c) (hr : r ≤ i + 1) (hi : i < L.m) (hc : Cur L H i k w v b)
    (hown : w1.ownsRow L.B 54 3 v1 (L.N i + k + 1) ((row L i k).flatMap En.cells ++ En.cells (newE i)))
    (hg : (v1.ownBlock = v.ownBlock ∧ (w.alloc o).grownBy w1 v.ownBlock) ∨ (v1.ownBlock = some (w.heap.size + 1) ∧ (w.alloc o).grownBy w1 none)) :
    Inv L w0 H i (i + 1) w1 v6 vs b c ∧ Cur L H i (k + 1) w1 v1 b := by
  obtain ⟨hk, hc1, hsz, hbel, hi1⟩ := cur_step hf h hi hc hown hg
  have rowsi := fun j (hij : i < j) (hj : j < L.m) => h.rows j (by omega) hj
  obtain ⟨a1, a2, a3, a4, a5⟩ := inv_step hf h hi hc rowsi hk hsz hbel hi1
  exact ⟨⟨a1, a2, fun j hij hj => a3 j (by omega) hj, a4, h.high, a5, h.apart, h.low, h.bo, Nat.le_trans h.size hsz, hbel, h.base⟩, hc1⟩
theorem outer_next {L : Ls} {w0 w w1 : World} {H i bv cv r : Nat} {v6 v7 : Value} {vs : List Value} {b c : Nat → Nat} {o : Obj} (hf : L.far) (h : Inv L w0 H i r w v6 vs b c) (hr : r ≤ i + 1) (hi : i < L.m) (hc : Cur L H i 20 w (.slice (some ⟨bv, 0, none⟩) (L.N i + 20) cv) b)
    (hown : w1.ownsRow L.B 32 1 v7 (i + 1) (vs ++ [.slice (some ⟨bv, 0, none⟩) (L.N i + 20) cv]))
    (hg : (v7.ownBlock = v6.ownBlock ∧ (w.alloc o).grownBy w1 v6.ownBlock) ∨ (v7.ownBlock = some (w.heap.size + 1) ∧ (w.alloc o).grownBy w1 none)) :
    ∃ b2 c2, Inv L w0 H (i + 1) (i + 1) w1 v7 (vs ++ [.slice (some ⟨bv, 0, none⟩) (L.N i + 20) cv]) b2 c2 :=
  ⟨_, _, inv_next hf h hi hc (fun j hij hj => h.rows j (by omega) hj) hown hg⟩
theorem inv_more {L : Ls} {w0 w : World} {H i r : Nat} {v6 : Value} {vs : List Value} {b c : Nat → Nat} (h : Inv L w0 H i r w v6 vs b c) (hr : r ≤ i + 1) : Inv L w0 H i (i + 1) w v6 vs b c :=
  ⟨h.cells, h.held, fun j hij hj => h.rows j (by omega) hj, h.outer, h.high, h.long, h.apart, h.low, h.bo, h.size, h.below, h.base⟩
end Go.Proofs.YtdpnmdnfnplcfaaGreat.Ea

namespace Go.Proofs.YtdpnmdnfnplcfaaGreat.Ea
open Go.RowKit Tx En Ap
set_option linter.unusedVariables false
theorem infoL : (Tryz.prog.info? 32).map (fun i => (i.zero, i.size, i.bytes)) = some (some (.slice none 0 0), 1, 24) := by kernel_rfl
theorem below_put3 {B g k : Nat} {x : Et} {w0 w : World} (h : Below B w0 w) (hg : B ≤ g) : Below B w0 (put3 w g k x) :=
  ((h.setCell (p := ⟨g, _, none⟩) hg _).setCell (p := ⟨g, _, none⟩) hg _).setCell (p := ⟨g, _, none⟩) hg _
set_option maxRecDepth 100000 in
set_option maxHeartbeats 4000000 in
theorem apart_any (L : Ls) (co : Nat) (w : World) (hm : L.m ≤ 1048576) (hN : ∀ j, j < L.m → L.N j ≤ 1048576) (hB : L.B ≤ w.heap.size) (hbo : L.bo < w.heap.size) (hbB : L.B ≤ L.bo) (hf : L.far) (hc : L.cells w) (hr : L.marked w 0 0) :
    Calls Tryz.prog 16 #[.slice (some ⟨L.bo, 0, none⟩) L.m co] w fun e w' => e = .returned (.bool true) ∧ Below L.B w w' := by
  obtain ⟨i0, hi0, hz0, hz1, hz2⟩ := info_parts infoE
  obtain ⟨i33, hi33, hy0, hy1, hy2⟩ := info_parts infoL
  have HN := Lib.hid hN
  have HF := Lib.hid hf
  have HC := Lib.hid hc
  have HR := Lib.hid hr
  clear hN hf hc hr
  go_enter Tryz.func16, Tryz.ntmps16
  go_wp2
  go_loopw [3, 4] (fun i _ wr => ∃ j : Nat, j ≤ L.m ∧ i = .int .i64 j ∧ Hid (L.cells wr) ∧ Hid (L.marked wr j 0) ∧ Below L.B w wr ∧ w.heap.size ≤ wr.heap.size) (fun i _ _ => L.m - (intOf i).toNat)
  case atStart => exact ⟨0, Nat.zero_le _, rfl, HC, HR, Below.refl _ _, Nat.le_refl _⟩
  case round =>
    obtain ⟨i, hi, rfl, hcells, hmark, hb, hsz⟩ := hrel
    by_cases hlt : i < L.m
    · have hcell := hcells.out i hlt
      have hNi := HN.out i hlt
      obtain ⟨n, hn⟩ : ∃ n, n = L.N i := ⟨_, rfl⟩
      rw [← hn] at hcell hNi
      have HNN := Lib.hid hn
      clear hn
      go_wp2
      go_loopw [4] (fun x wx => ∃ k : Nat, k ≤ n ∧ x = .int .i64 k ∧ Hid (L.cells wx) ∧ Hid (L.marked wx i k) ∧ Below L.B w wx ∧ w.heap.size ≤ wx.heap.size) (fun x _ => n - (intOf x).toNat)
      case atStart => exact ⟨0, Nat.zero_le _, rfl, hcells, hmark, hb, hsz⟩
      case round =>
        obtain ⟨k, hk, rfl, hcells2, hmark2, hb2, hsz2⟩ := hrel
        have hcell2 := hcells2.out i hlt
        rw [← HNN.out] at hcell2
        clear hcell hcells hmark hb hsz
        by_cases hkn : k < n
        · obtain ⟨xs, hx1, hx2⟩ := hmark2.out i hlt
          rw [← HNN.out] at hx1
          have hxl : xs.length = n := by have := hx1.1; rw [flat_len] at this; omega
          obtain ⟨g, ha, hg⟩ := addr_eq hx1 (by omega)
          rw [ha] at hcell2 hx1
          have hf0 := own_frozen hx1 (k * 3)
          have hf1 := own_frozen hx1 (k * 3 + 1)
          have hf2 := own_frozen hx1 (k * 3 + 1 + 1)
          obtain ⟨y, hy⟩ : ∃ y, xs[k]? = some y := ⟨_, List.getElem?_eq_getElem (by omega)⟩
          have hs0 := own_cell hx1 (k := k * 3 + 0) (flat_at xs k y 0 hy (by omega))
          have hs1 := own_cell hx1 (k := k * 3 + 1) (flat_at xs k y 1 hy (by omega))
          have hs2 := own_cell hx1 (k := k * 3 + 1 + 1) (flat_at xs k y 2 hy (by omega))
          simp only [Nat.add_zero] at hs0
          have hkn' : (k : Int) < (n : Int) := by omega
          have hlt' : (i : Int) < (L.m : Int) := by omega
          clear hx1 hx2 hy hxl
          go_wp2
          go_roundw
          case rel => exact ⟨k + 1, by omega, by go_num, cells_store (k := k) HF.out hcells2.out hlt ha (wasE i), marked_store HF.out hmark2.out hlt (by rw [← HNN.out]; exact hkn) ha, below_put3 (k := k) (x := wasE i) hb2 hg, by simpa [World.setCell] using hsz2⟩
          case measure => simp [intOf]; omega
        · obtain rfl : k = n := by omega
          have hdone : Hid (L.marked wr (i + 1) 0) := marked_next (by rw [← HNN.out]; exact hmark2.out)
          go_wp2
          go_roundw
          case rel => exact ⟨i + 1, by omega, by go_num, hcells2, hdone, hb2, hsz2⟩
          case measure => simp [intOf]; omega
    · obtain rfl : i = L.m := by omega
      clear HC HR
      have hinv := inv_start HF.out hcells.out hmark.out (by omega) (by omega) hb
      have HI := Lib.hid hinv
      obtain ⟨H, hH⟩ : ∃ H, H = wr.heap.size := ⟨_, rfl⟩
      rw [← hH] at HI
      clear hinv hH hcells hmark hb hsz hlt
      go_wp2
      go_loopw [5, 6, 7, 8] (fun v6 i _ _ wx => ∃ (k : Nat) (vs : List Value) (b c : Nat → Nat), k ≤ L.m ∧ i = .int .i64 k ∧ Hid (Inv L w H k k wx v6 vs b c)) (fun _ i _ _ _ => L.m - (intOf i).toNat)
      case atStart => exact ⟨0, [], _, _, Nat.zero_le _, rfl, HI⟩
      case round =>
        obtain ⟨i, vs, b, c, hi, rfl, HV⟩ := hrel
        clear HI
        by_cases hlt : i < L.m
        · have hcell := HV.out.cells i hlt
          have hcur := Lib.hid (cur_start HF.out HV.out (Nat.le_refl _) hlt)
          have hmore := Lib.hid (inv_more HV.out (by omega))
          have hNi := HN.out i hlt
          have hlt' : (i : Int) < (L.m : Int) := by omega
          go_wp2
          go_loopw [7, 8] (fun v x wy => ∃ k : Nat, k ≤ 20 ∧ x = .int .i64 k ∧ Hid (Inv L w H i (i + 1) wy u5 vs b c) ∧ Hid (Cur L H i k wy v b)) (fun _ x _ => 20 - (intOf x).toNat)
          case atStart => exact ⟨0, by omega, rfl, hmore, hcur⟩
          case round =>
            obtain ⟨k, hk, rfl, hI, hC⟩ := hrel
            clear HV hcell hcur hmore
            have hsz := hI.out.size
            have hbs := hI.out.base
            by_cases hk20 : k < 20
            · have hown := hC.out.own
              go_wp2_with (at_builtin; refine wpList_append_two _ rfl _ _ 32 rfl L.B 54 i0 (.agg #[.string ⟨#[]⟩, .int .i64 0, .string ⟨#[]⟩]) 3 40 Tryz.underlying32 hi0 hz0 hz1 hz2 rfl (by decide) (by decide) _ _ _ rfl (hown.alloc _) ⟨wr.heap.size, 0, none⟩ 1 (En.cells (newE i)) rfl rfl ?c1 ?c2 ?c3 ?c4 ?c5 ?_)
              case c1 => exact cell_three_new _ _ _ _ _
              case c2 => exact cells_one (newE i)
              case c3 => omega
              case c4 => omega
              case c5 => simp; omega
              intro v1 w1 hown1 hg1
              have hst := both_step HF.out hI.out (Nat.le_refl _) hlt hC.out hown1 hg1
              have h1 := Lib.hid hst.1
              have h2 := Lib.hid hst.2
              clear hst hown hown1 hg1
              go_wp2
              go_roundw
              case rel => exact ⟨k + 1, by omega, by go_num, h1, h2⟩
              case measure => simp [intOf]; omega
            · obtain rfl : k = 20 := by omega
              obtain ⟨bv, cv, hv, _, _⟩ := hC.out.own.form (by omega)
              rw [hv] at hC ⊢
              clear hv
              have hout := hI.out.outer
              go_wp2_with (at_builtin; refine wpList_append_two _ rfl _ _ 45 rfl L.B 32 i33 (.slice none 0 0) 1 24 Tryz.underlying45 hi33 hy0 hy1 hy2 rfl (by decide) (by decide) _ _ _ rfl (hout.alloc _) ⟨wr.heap.size, 0, none⟩ 1 [.slice (some ⟨bv, 0, none⟩) (L.N i + 20) cv] rfl rfl ?c1 ?c2 ?c3 ?c4 ?c5 ?_)
              case c1 => exact cell_one_new _ _ _
              case c2 => intro u hu; simp at hu; subst hu; rfl
              case c3 => omega
              case c4 => omega
              case c5 => simp; omega
              intro v7 w1 hown1 hg1
              obtain ⟨b2, c2, hst⟩ := outer_next HF.out hI.out (Nat.le_refl _) hlt hC.out hown1 hg1
              have h1 := Lib.hid hst
              clear hst hout hown1 hg1
              go_wp2
              go_roundw
              case rel => exact ⟨i + 1, _, b2, c2, by omega, by go_num, h1⟩
              case measure => simp [intOf]; omega
        · obtain rfl : i = L.m := by omega
          have hbelow := HV.out.below
          by_cases hm0 : L.m = 0
          · have hm0' : (L.m : Int) ≤ 0 := by omega
            go_wp2
            go_loop [9] (fun i => i = .int .i64 0) (fun _ => 0)
            case atStart => exact rfl
            case round =>
              obtain rfl := hrel
              go_wp2
              go_ret
              exact ⟨rfl, hbelow⟩
          · obtain ⟨g6, c6, hv6, _, _⟩ := HV.out.outer.form (by omega)
            rw [hv6] at HV ⊢
            clear hv6 hm0
            go_wp2
            go_loop [9, 10, 11] (fun i _ _ => ∃ j : Nat, j ≤ L.m ∧ i = .int .i64 j) (fun i _ _ => L.m - (intOf i).toNat)
            case atStart => exact ⟨0, Nat.zero_le _, rfl⟩
            case round =>
              obtain ⟨j, hj, rfl⟩ := hrel
              by_cases hjm : j < L.m
              · obtain ⟨hlv, hlo, _⟩ := HV.out.long j hjm
                have hcl := own_cell HV.out.outer hlv
                have hcj := HV.out.cells j hjm
                have HLO := Lib.hid hlo
                have HH := Lib.hid (HV.out.held j hjm)
                have hNj := HN.out j hjm
                have hjm' : (j : Int) < (L.m : Int) := by omega
                obtain ⟨n, hn⟩ : ∃ n, n = L.N j := ⟨_, rfl⟩
                obtain ⟨bj, hbj⟩ : ∃ x, x = b j := ⟨_, rfl⟩
                obtain ⟨cj, hcj2⟩ : ∃ x, x = c j := ⟨_, rfl⟩
                rw [← hn, ← hbj, ← hcj2] at hcl HLO
                rw [← hn] at hcj hNj HH
                have HNN := Lib.hid hn
                clear hn hbj hcj2 hlo hlv
                go_wp2
                go_loop [10, 11] (fun x _ => ∃ l : Nat, l ≤ n + 20 ∧ x = .int .i64 l) (fun x _ => n + 20 - (intOf x).toNat)
                case atStart => exact ⟨0, Nat.zero_le _, rfl⟩
                case round =>
                  obtain ⟨l, hl, rfl⟩ := hrel
                  by_cases hln : l < n
                  · obtain ⟨g, ha, hcg⟩ := HH.out l hln
                    have hcb := own_kind HLO.out (row_was (L := L) (j := j) (k := 20) (l := l) (by rw [← HNN.out]; exact hln))
                    unfold sw at hcg
                    unfold wasE at hcb
                    simp only at hcb
                    rw [ha] at hcj
                    have hln1 : (l : Int) < (n : Int) := by omega
                    have hln2 : (l : Int) < (n : Int) + 20 := by omega
                    go_wp2
                    go_round
                    case rel => exact ⟨l + 1, by omega, by go_num⟩
                    case measure => simp [intOf]; omega
                  · by_cases hl20 : l < n + 20
                    · have hcb := own_kind HLO.out (row_new (L := L) (j := j) (k := 20) (l := l) (by rw [← HNN.out]; exact hln) (by rw [← HNN.out]; exact hl20))
                      unfold newE at hcb
                      simp only at hcb
                      have hln1 : (n : Int) ≤ (l : Int) := by omega
                      have hln2 : (l : Int) < (n : Int) + 20 := by omega
                      go_wp2
                      go_round
                      case rel => exact ⟨l + 1, by omega, by go_num⟩
                      case measure => simp [intOf]; omega
                    · obtain rfl : l = n + 20 := by omega
                      go_wp2
                      go_round
                      case rel => exact ⟨j + 1, by omega, by go_num⟩
                      case measure => simp [intOf]; omega
              · go_wp2
                go_ret
                exact ⟨rfl, hbelow⟩
end Go.Proofs.YtdpnmdnfnplcfaaGreat.Ea

namespace Go.Proofs.YtdpnmdnfnplcfaaGreat.En
open Go.RowKit Tx Pm Pr
set_option linter.unusedVariables false
set_option maxRecDepth 100000 in
set_option maxHeartbeats 1000000 in
theorem roomy_zero (x : Addr) (c : Nat) (w : World) :
    Calls Tryz.prog 18 #[.slice (some x) 0 c] w (RoomyTo [] w) := by
  obtain ⟨i0, hi, hz0, hz1, hz2⟩ := info_parts infoE
  have hB : ∀ o, Below w.heap.size w (w.alloc o) := fun o => (Below.refl _ _).alloc (Nat.le_refl _) _
  have hown0 := World.ownsRow_made (base := w.heap.size) (e := 54) (size := 3) w #[] 0 (Nat.le_refl _) (Nat.zero_le _) rfl
  have hB0 := hB (.cells #[] 54)
  have he : (w.alloc (.cells #[] 54)).heap.size = w.heap.size + 1 := by simp
  go_enter Tryz.func18, Tryz.ntmps18
  go_wp2_with ((at_builtin; refine wpList_append_own _ rfl _ _ 32 rfl w.heap.size 54 i0 (.agg #[.string ⟨#[]⟩, .int .i64 0, .string ⟨#[]⟩]) 3 40 Tryz.underlying32 hi hz0 hz1 hz2 rfl (by decide) _ _ _ rfl (hown0.alloc _) ⟨w.heap.size + 1, 0, none⟩ 1 1 (cells spare) rfl rfl ?c1 ?c2 ?c3 ?c4 ?c5 ?_))
  case c1 =>
    rw [← he]
    exact cell_three_new _ _ _ _ _
  case c2 => exact cells_one spare
  case c3 => unfold maxLen; omega
  case c4 => omega
  case c5 => simp; omega
  intro v2 w2 hown2 hgrow2 _
  have hB2 := below_step hB0 hown0 hgrow2
  obtain ⟨g, cap, rfl, hcap, hcap2⟩ := own_shape hown2 (by omega)
  have hO : Own w2 w.heap.size (.slice (some ⟨g, 0, none⟩) (([] : List Et).length + 1) cap) ([] ++ [spare]) := by
    unfold Own
    exact hown2
  have hR := hB2
  unfold maxLen at hcap2
  clear hown2 hgrow2 hB2 hB hown0
  go_wp2_with fail
  go_ret
  exact ⟨g, cap, rfl, hO, hR⟩
theorem refRoomy_all (a : Option Addr) (n c : Nat) (l : List Et) (w : World) (hl : Ents w a n l) (hnil : a = none → c = 0) (hn : n ≤ 1000000000000) :
    Calls Tryz.prog 18 #[.slice a n c] w (RoomyTo l w) := by
  by_cases h0 : n = 0
  · subst h0
    obtain rfl : l = [] := List.length_eq_zero_iff.1 hl.1
    cases a with
    | none =>
      obtain rfl := hnil rfl
      exact roomy_none w
    | some x => exact roomy_zero x c w
  · obtain ⟨b, off, rfl, hb, hc⟩ := hl.2.resolve_left h0
    exact roomy_some b off n c l w hl.1 (.inl hb) hc hn
theorem roomy_form {l : List Et} {w w' : World} {e : Ending} (h : RoomyTo l w e w') : ∃ g cap, e = .returned (.slice (some ⟨g, 0, none⟩) l.length cap) ∧ Own w' w.heap.size (.slice (some ⟨g, 0, none⟩) (l.length + 1) cap) (l ++ [spare]) ∧ Ents w' (some ⟨g, 0, none⟩) (l.length + 1) (l ++ [spare]) ∧ Ents w' (some ⟨g, 0, none⟩) l.length l ∧ l.length + 1 ≤ cap ∧ cap ≤ 9223372036854775807 ∧ w.heap.size ≤ g ∧ g < w'.heap.size ∧ Below w.heap.size w w' := by
  obtain ⟨g, cap, he, ho, hb⟩ := h
  obtain ⟨a, k, hv, hen, h1, h2⟩ := Own.form ho
  injection hv with hv1 hv2 hv3
  subst hv1
  subst hv3
  rw [List.length_append] at hen h1
  have hen2 := hen.take (m := l.length) (by simp)
  rw [List.take_append_of_le_length (Nat.le_refl _), List.take_of_length_le (Nat.le_refl _)] at hen2
  unfold maxLen at h2
  refine ⟨g, cap, he, ho, hen, hen2, h1, h2, ?_, ?_, hb⟩
  · rcases ho.2 with ⟨hv, _⟩ | ⟨g', cap', cur, hv, hg, hh, _⟩
    · cases hv
    · injection hv with hv
      injection hv with hv
      injection hv with hv
      subst hv
      exact hg
  · rcases ho.2 with ⟨hv, _⟩ | ⟨g', cap', cur, hv, hg, hh, _⟩
    · cases hv
    · injection hv with hv
      injection hv with hv
      injection hv with hv
      subst hv
      exact (Array.getElem?_eq_some_iff.1 hh).1
end Go.Proofs.YtdpnmdnfnplcfaaGreat.En

namespace Go.Proofs.YtdpnmdnfnplcfaaGreat.En
open Go.ChangeShapes Go.WideShapes Go.ChangeAt Go.RowKit Tx
set_option linter.unusedVariables false
theorem bulk_node {H : Type} (n : Nd) : Rows.uptoBulk (dN (H := H) n) = n.data.size + 3 := by
  have e : Rows.uptoBulk (dN (H := H) n) = 1 + (n.data.data.toList.length + 1 + 0) + 1 := rfl
  rw [e, len_l]
  omega
theorem bulk_ent {H : Type} (x : Et) : Rows.uptoBulk (dE (H := H) x) = x.path.size + x.node.data.size + 5 := by
  have e : Rows.uptoBulk (dE (H := H) x) = (x.path.data.toList.length + 1) + (Rows.uptoBulk (dN (H := H) x.node) + 0) + 1 := rfl
  rw [e, len_l, bulk_node]
  omega
theorem bulk_ents {H : Type} : ∀ l : List Et, l.length ≤ Rows.uptoBulkAll (l.map (dE (H := H))) ∧ ∀ x ∈ l, x.path.size ≤ Rows.uptoBulkAll (l.map (dE (H := H))) ∧ x.node.data.size ≤ Rows.uptoBulkAll (l.map (dE (H := H)))
  | [] => ⟨Nat.zero_le _, fun x hx => by cases hx⟩
  | y :: l => by
    obtain ⟨h1, h2⟩ := bulk_ents (H := H) l
    have e : Rows.uptoBulkAll ((y :: l).map (dE (H := H))) = Rows.uptoBulk (dE (H := H) y) + Rows.uptoBulkAll (l.map (dE (H := H))) := rfl
    rw [e, bulk_ent]
    refine ⟨by rw [List.length_cons]; omega, fun x hx => ?_⟩
    rcases List.mem_cons.1 hx with rfl | hx
    · exact ⟨by omega, by omega⟩
    · obtain ⟨a, b⟩ := h2 x hx
      exact ⟨by omega, by omega⟩
theorem arg_ents {H : Type} {enc : TypeId × Value → H} {w : World} {base : Nat} {spare : Nat → Bool} {held : Bool} {a : Option Addr} {n c : Nat} {d : DataW H} {p : List MemPlace} (h : DataW.Trod enc Tryz.prog w base spare held 32 (.slice a n c) d p) :
    ∃ l : List Et, Ents w a n l ∧ (a = none → c = 0) ∧ (∀ e ∈ l, isInt e.node.kind ∧ e.path.size ≤ maxLen ∧ e.node.data.size ≤ maxLen) ∧ n ≤ Rows.uptoBulk d ∧ ∀ e ∈ l, e.path.size ≤ Rows.uptoBulk d ∧ e.node.data.size ≤ Rows.uptoBulk d := by
  obtain ⟨fuel, hf⟩ := h
  rcases open_ents hf with ⟨hcs, _⟩ | ⟨x, len, cap, l, rest, pl, hcs, _, _, hx, he, hall⟩
  · simp [Value.cells] at hcs
    obtain ⟨rfl, rfl, rfl⟩ := hcs
    exact ⟨[], ⟨rfl, .inl rfl⟩, fun _ => rfl, (fun e he => by cases he), Nat.zero_le _, (fun e he => by cases he)⟩
  · simp [Value.cells] at hcs
    obtain ⟨rfl, rfl, rfl⟩ := hcs
    have hd : d = .slice (l.map dE) rest := congrArg Prod.fst hx
    have e : Rows.uptoBulk d = Rows.uptoBulkAll (l.map (dE (H := H))) + Rows.uptoBulkAll rest + 1 := by rw [hd]; rfl
    obtain ⟨h1, h2⟩ := bulk_ents (H := H) l
    rw [he.1] at h1
    refine ⟨l, he, (fun h => by cases h), hall, by omega, fun y hy => ?_⟩
    obtain ⟨h3, h4⟩ := h2 y hy
    exact ⟨by omega, by omega⟩
theorem arg_cap {H : Type} {enc : TypeId × Value → H} {w : World} {base : Nat} {spare : Nat → Bool} {held : Bool} {a : Option Addr} {n c : Nat} {d : DataW H} {p : List MemPlace} (h : DataW.Trod enc Tryz.prog w base spare held 32 (.slice a n c) d p) : n ≤ c ∧ c ≤ 9223372036854775807 := by
  obtain ⟨fuel, hf⟩ := h
  rcases open_ents hf with ⟨hcs, _⟩ | ⟨x, len, cap, l, rest, pl, hcs, hc, hm, _⟩
  · simp [Value.cells] at hcs
    obtain ⟨rfl, rfl, rfl⟩ := hcs
    omega
  · simp [Value.cells] at hcs
    obtain ⟨rfl, rfl, rfl⟩ := hcs
    unfold maxLen at hm
    omega
end Go.Proofs.YtdpnmdnfnplcfaaGreat.En

namespace Go.Proofs.YtdpnmdnfnplcfaaGreat.scanLays
open Go.ChangeMaps (open_string shut_string)
open Go.ChangeShapes Go.WideShapes Go.ChangeAt Go.RowKit Tx Pm Pr Dk Sc
open En (Ents Own Small tcheck nv)
set_option linter.unusedVariables false
structure LaysI (O : Nat → World → (Nat → Prop) → St → Prop) : Prop where
  mini : Mini O
  kind : ∀ b, Kind (O b)
  lay : ∀ b {w F s n} (v : ByteArray) (A : Option Addr) (m c : Nat) (t : List En.Et), O b w F s → Rb n s → n ≤ 50000 → chk v.data.toList 1 = 0 → Dk.kind s.L v = 1 → Ents w A m t → m ≤ c → tcheck t = 0 → (entS s.L v).length ≤ 200 → (m = 0 ∨ ∀ x, A = some x → ¬ F x.block) →
    Calls Tryz.prog 20 #[.pointer (some ⟨b, 0, none⟩), .string v, .slice A m c] w fun e w' => e = .returned (.int .i64 0) ∧ ∃ s', Laid n s s' v t ∧ Dk.Left (O b) w F s' w'
  walk : ∀ b {w F s n} (v : ByteArray), O b w F s → Rb n s → v.size ≤ 1048576 → Calls Tryz.prog 9 #[.pointer (some ⟨b, 0, none⟩), .string v] w (WkA (wkS s v) w)
  scan : ∀ b {w F s n} (v : ByteArray) (A : Option Addr) (m c : Nat) (seen : List Sn), O b w F s → Rb n s → v.size ≤ 1048576 → Sns w A m seen → m ≤ 1000000 → Sc.Good s v seen → Szn seen →
    Calls Tryz.prog 11 #[.pointer (some ⟨b, 0, none⟩), .string v, .slice A m c] w (ScTo s v seen w)
  restart : ∀ b {w F s n} (M : Int), O b w F s → Rb n s → -9223372036854775808 ≤ M ∧ M ≤ 9223372036854775807 → Calls Tryz.prog 23 #[.pointer (some ⟨b, 0, none⟩), .int .i64 M] w (Does (O b) w F (0, restartS s M))
  used : ∀ b {w F s n} (v : ByteArray), O b w F s → Rb n s → v.size ≤ 1048576 → Calls Tryz.prog 24 #[.pointer (some ⟨b, 0, none⟩), .string v] w fun e w' => e = .returned (.int .i64 (used s.L v : Nat)) ∧ Below w.heap.size w w'
  list : ∀ b {w F s n} (v : ByteArray), O b w F s → Rb n s → v.size ≤ 1048576 → Calls Tryz.prog 26 #[.pointer (some ⟨b, 0, none⟩), .string v] w (ListTo (Dk.list s.L v) w)
theorem c2_ok : (mkdirS b1S pW).1 = 0 := by decide +kernel
theorem c3_ok : (writeS c2S pWX tOth).1 = 0 := by decide +kernel
theorem farc2 : Far c2S 2 (2 * 1048576) := farb1.step (K := 1) (M := 0) (P := pW) (Q := ⟨#[]⟩) (by omega) (by decide) (by decide) (by omega)
theorem hub_kind {a : List En.Et} {n : Nat} {s : St} (h : Hub a n s) : Dk.kind s.L pH = 1 := by
  have := find_one h.rb.inv.rises (hub_item h)
  rw [Dk.kind, show pH = hubI.path from rfl, this]
  rfl
set_option maxRecDepth 100000 in
set_option maxHeartbeats 4000000 in
theorem laid_any {O : Nat → World → (Nat → Prop) → St → Prop} (hI : LaysI O) (A : Option Addr) (n c : Nat) (l : List En.Et) (w : World) (hl : Ents w A n l) (ht : tcheck l = 0) (hnc : n ≤ c) :
    Calls Tryz.prog 19 #[.slice A n c] w fun e w' => ∃ b F s, e = .returned (.pointer (some ⟨b, 0, none⟩)) ∧ O b w' F s ∧ (∀ i, F i → w.heap.size ≤ i) ∧ Below w.heap.size w w' ∧ Hub l 1010 s := by
  have cn := hI.mini.new
  have c1 : ∀ b {W F}, O b W F newS → Calls Tryz.prog 27 #[.pointer (some ⟨b, 0, none⟩), .string ⟨#[104, 117, 98]⟩] W fun e w' => e = .returned (.int .i64 0) ∧ Dk.Left (O b) W F b1S w' := fun b W F h => by
    have := hI.mini.mkdir b pH h far_new (by decide)
    unfold Does at this
    rw [b1_ok] at this
    exact this
  have c2 : ∀ b {W F}, O b W F b1S → Calls Tryz.prog 27 #[.pointer (some ⟨b, 0, none⟩), .string ⟨#[119]⟩] W fun e w' => e = .returned (.int .i64 0) ∧ Dk.Left (O b) W F c2S w' := fun b W F h => by
    have := hI.mini.mkdir b pW h farb1 (by decide)
    unfold Does at this
    rw [c2_ok] at this
    exact this
  have c3 : ∀ b {W F}, O b W F c2S → Calls Tryz.prog 28 #[.pointer (some ⟨b, 0, none⟩), .string ⟨#[119, 47, 120]⟩, .string ⟨#[111, 116, 104, 101, 114]⟩] W fun e w' => e = .returned (.int .i64 0) ∧ Dk.Left (O b) W F c3S w' := fun b W F h => by
    have := hI.mini.write b pWX tOth h farc2 (by decide) (by decide)
    unfold Does at this
    rw [c3_ok] at this
    exact this
  have c4 : ∀ b {W F}, O b W F c3S → Below w.heap.size w W → (∀ i, F i → w.heap.size ≤ i) → Calls Tryz.prog 20 #[.pointer (some ⟨b, 0, none⟩), .string ⟨#[104, 117, 98]⟩, .slice A n c] W fun e w' => e = .returned (.int .i64 0) ∧ ∃ s', Laid 10 c3S s' pH l ∧ Dk.Left (O b) W F s' w' := fun b W F h hb hF => by
    refine hI.lay b pH A n c l h c3_hub.rb (by omega) (by decide +kernel) (hub_kind c3_hub) (hl.below hb) hnc ht (by rw [c3_hub.tree]; exact Nat.zero_le _) ?_
    rcases hl.2 with h0 | ⟨g, off, rfl, hg, _⟩
    · exact .inl h0
    · refine .inr fun x hx hh => ?_
      injection hx with hx
      subst hx
      have := hF _ hh
      exact absurd hg (by show ¬ g < _; exact Nat.not_lt.2 this)
  clear hI hl
  go_enter Tryz.func19, Tryz.ntmps19
  go_wp2_with fail
  go_at_call 5
  refine (cn _).mono ?_
  rintro e w1 ⟨b, F1, rfl, o1, hF1, hb1⟩
  go_wp2_with fail
  go_at_call 27
  refine (c1 b o1).mono ?_
  rintro e w2 ⟨rfl, hl⟩
  obtain ⟨F2, o2, hF2, hb2⟩ := left_own hl hF1 hb1
  clear hl
  go_wp2_with fail
  go_at_call 27
  refine (c2 b o2).mono ?_
  rintro e w3 ⟨rfl, hl⟩
  obtain ⟨F3, o3, hF3, hb3⟩ := left_own hl hF2 hb2
  clear hl
  go_wp2_with fail
  go_at_call 28
  refine (c3 b o3).mono ?_
  rintro e w4 ⟨rfl, hl⟩
  obtain ⟨F4, o4, hF4, hb4⟩ := left_own hl hF3 hb3
  clear hl o1 o2 o3 hF1 hF2 hF3 hb1 hb2 hb3
  go_wp2_with fail
  go_at_call 20
  refine (c4 b o4 hb4 hF4).mono ?_
  rintro e w5 ⟨rfl, s', hL, hl⟩
  obtain ⟨F5, o5, hF5, hb5⟩ := left_own hl hF4 hb4
  have hH := Lib.hid (hub_lay c3_hub hL)
  clear hl o4 hF4 hb4 cn c1 c2 c3 c4 hL
  go_wp2_with fail
  go_ret
  exact ⟨b, F5, s', rfl, o5, hF5, hb5, hH.out⟩
theorem tree_len {l : List En.Et} (h : tcheck l = 0) : l.length ≤ 200 := by
  unfold tcheck at h
  split at h
  · cases h
  · omega
theorem ents_whole {l : List En.Et} (h : tcheck l = 0) : ∀ x ∈ l, x.node.data.size ≤ 4096 := by
  intro x hx
  obtain ⟨i, hi, rfl⟩ := List.getElem_of_mem hx
  have hw : En.okAt l i = true := by
    cases e : En.okAt l i
    · have := En.tcheck_bad hi e (tree_len h)
      omega
    · rfl
  unfold En.okAt at hw
  rw [List.getElem?_eq_getElem hi] at hw
  simp only [Bool.and_eq_true] at hw
  have h2 := hw.1.1.1.2
  unfold En.whole at h2
  split at h2
  · exact of_decide_eq_true h2
  · rw [Bool.and_eq_true] at h2
    have := of_decide_eq_true h2.2
    omega
theorem tsize_sum : ∀ (l : List En.Et), (∀ x ∈ l, x.node.data.size ≤ 4096) → En.tsize l ≤ l.length * 4096
  | [], _ => Nat.zero_le _
  | x :: l, h => by
    have h1 := h x (List.mem_cons_self ..)
    have h2 := tsize_sum l (fun y hy => h y (List.mem_cons_of_mem x hy))
    show x.node.data.size + En.tsize l ≤ _
    rw [List.length_cons]
    omega
theorem tsize_tree {l : List En.Et} (h : tcheck l = 0) : En.tsize l ≤ 819200 := by
  have h1 := tsize_sum l (ents_whole h)
  have h2 := tree_len h
  omega
theorem own_on {w w1 : World} {B size n : Nat} {e : TypeId} {v : Value} {xs : List Value} (h : w.ownsRow B e size v n xs) (hb : Below w.heap.size w w1) : w1.ownsRow B e size v n xs := own_kept h (fun g hg => hb.block g (h.lt g hg).2)
def flK (a b : List En.Et) (k : Nat) : Nat := fls a (b.take k)
def other (a : List En.Et) (e : En.Et) : Bool := decide (e.node.kind = 2) && !(decide ((En.tget a e.path).kind = e.node.kind) && decide ((En.tget a e.path).data = e.node.data))
theorem flK_next {a b : List En.Et} {k : Nat} {e : En.Et} (h : b[k]? = some e) : flK a b (k + 1) = flK a b k + if other a e = true then 1 else 0 := by
  unfold flK fls
  rw [List.take_add_one, h, List.filter_append, List.length_append]
  congr 1
  show (List.filter (other a) [e]).length = _
  cases ho : other a e
  · rw [List.filter_cons_of_neg (by rw [ho]; decide)]; rfl
  · rw [List.filter_cons_of_pos ho]; rfl
theorem flK_le (a b : List En.Et) (k : Nat) : flK a b k ≤ b.length := by
  unfold flK fls
  exact Nat.le_trans (List.length_filter_le _ _) (by rw [List.length_take]; exact Nat.min_le_right _ _)
theorem run_eq_i (a b : Int) (W : World) : (binOp .eql 3 (.int .i64 a) (.int .i64 b)).run Tryz.prog W = .ok (.bool (a == b)) W := by go_simp
theorem run_ne_n (K1 K2 : Int) (D1 D2 : ByteArray) (W : World) : (binOp .neq 52 (.agg #[.int .i64 K1, .string D1]) (.agg #[.int .i64 K2, .string D2])).run Tryz.prog W = .ok (.bool (!(decide (K1 = K2) && decide (D1 = D2)))) W := by
  have hg := En.guardN
  by_cases h1 : K1 = K2
  · by_cases h2 : D1 = D2
    · subst h1; subst h2
      rw [decide_eq_true rfl, decide_eq_true rfl]
      go_simp
    · have h3 : ¬ D1.toList = D2.toList := fun e => h2 (En.to_list.1 e)
      rw [decide_eq_false h2, Bool.and_false]
      go_simp
  · rw [decide_eq_false h1, Bool.false_and]
    go_simp
set_option maxRecDepth 100000 in
set_option maxHeartbeats 8000000 in
theorem walk {O : Nat → World → (Nat → Prop) → St → Prop} (hI : LaysI O) (a : Option Addr) (n c : Nat) (la : List En.Et) (b : Option Addr) (m c2 : Nat) (lb : List En.Et) (M : Int) (w : World) (hla : Ents w a n la) (hlb : Ents w b m lb) (hn : n ≤ 1048576) (hm : m ≤ 1048576) (hs : Small la) (hs2 : Small lb) (hca : n ≤ c) (hcb : m ≤ c2) (hnil : b = none → c2 = 0) (hM : -9223372036854775808 ≤ M ∧ M ≤ 9223372036854775807) :
    Calls Tryz.prog 4 #[.slice a n c, .slice b m c2, .int .i64 M] w fun e w' => e = .returned (.bool true) ∧ Below w.heap.size w w' := by
  have caw := fun W => awake_mini hI.mini W
  have ccha := fun W (h : Below w.heap.size w W) => En.refCheckT_any a n c la W (hla.below h) (by omega) hs
  have cchb := fun W (h : Below w.heap.size w W) => En.refCheckT_any b m c2 lb W (hlb.below h) (by omega) hs2
  by_cases hTa : tcheck la = 0
  rotate_left
  · have e1 : (((tcheck la : Nat) : Int) == 0) = false := beq_eq_false_iff_ne.2 (by omega)
    have e2 : (((tcheck la : Nat) : Int) != 0) = true := by unfold bne; rw [e1]; rfl
    clear hTa
    clear hI
    go_enter Tryz.func4, Tryz.ntmps4
    go_wp2_with fail
    go_at_call 7
    refine (caw _).mono ?_
    rintro e w1 ⟨rfl, hb1⟩
    go_wp2_with fail
    go_at_call 17
    refine (ccha _ hb1).mono ?_
    rintro e w2 ⟨rfl, hb2⟩
    go_wp2_with fail
    go_at_call 7
    refine (caw _).mono ?_
    rintro e w4 ⟨rfl, hb4⟩
    go_wp2_with fail
    go_ret
    exact ⟨rfl, below_call (below_call hb1 hb2) hb4⟩
  rw [hTa] at ccha
  by_cases hTb : tcheck lb = 0
  rotate_left
  · have e1 : (((tcheck lb : Nat) : Int) == 0) = false := beq_eq_false_iff_ne.2 (by omega)
    have e2 : (((tcheck lb : Nat) : Int) != 0) = true := by unfold bne; rw [e1]; rfl
    clear hTb
    clear hI
    go_enter Tryz.func4, Tryz.ntmps4
    go_wp2_with fail
    go_at_call 7
    refine (caw _).mono ?_
    rintro e w1 ⟨rfl, hb1⟩
    go_wp2_with fail
    go_at_call 17
    refine (ccha _ hb1).mono ?_
    rintro e w2 ⟨rfl, hb2⟩
    go_wp2_with fail
    go_at_call 17
    refine (cchb _ (below_call hb1 hb2)).mono ?_
    rintro e w3 ⟨rfl, hb3⟩
    go_wp2_with fail
    go_at_call 7
    refine (caw _).mono ?_
    rintro e w4 ⟨rfl, hb4⟩
    go_wp2_with fail
    go_ret
    exact ⟨rfl, below_call (below_call (below_call hb1 hb2) hb3) hb4⟩
  rw [hTb] at cchb
  have HI := Lib.hid hI
  have HLA := Lib.hid hla
  have HLB := Lib.hid hlb
  have HTA := Lib.hid hTa
  have HTB := Lib.hid hTb
  have HS2 := Lib.hid hs2
  have HNIL := Lib.hid hnil
  clear hI hla hlb hTa hTb hs hs2 hnil
  go_enter Tryz.func4, Tryz.ntmps4
  go_wp2_with fail
  go_at_call 7
  refine (caw _).mono ?_
  rintro e w1 ⟨rfl, hb1⟩
  go_wp2_with fail
  go_at_call 17
  refine (ccha _ hb1).mono ?_
  rintro e w2 ⟨rfl, hb2'⟩
  have hb2 := below_call hb1 hb2'
  go_wp2_with fail
  go_at_call 17
  refine (cchb _ hb2).mono ?_
  rintro e w3 ⟨rfl, hb3'⟩
  have HB3 := Lib.hid (below_call hb2 hb3')
  clear hb1 hb2' hb2 hb3' ccha cchb caw
  go_wp2_with fail
  go_at_call 18
  refine (En.refRoomy_all b m c2 lb _ (HLB.out.below HB3.out) HNIL.out (by omega)).mono ?_
  intro e w4 hr
  obtain ⟨g, cap, rfl, hro, he1, he0, hcap, hcm, hg1, hg2, hb4'⟩ := En.roomy_form hr
  have HB4 := Lib.hid (below_call HB3.out hb4')
  have hlm := HLB.out.1
  rw [hlm] at he1 he0 hcap ⊢
  have HE1 := Lib.hid he1
  have HE0 := Lib.hid he0
  have HLM := Lib.hid hlm
  clear hr hro he1 he0 hb4' hg1 hlm
  have CL := Lib.hid (laid_any HI.out a n c la w4 (HLA.out.below HB4.out) HTA.out hca)
  go_wp2_with fail
  go_at_call 19
  refine CL.out.mono ?_
  rintro e w5 ⟨bd, F1, s1, rfl, o1, hF1, hb5, hH1⟩
  have HO1 := Lib.hid o1
  have HF1 := Lib.hid hF1
  have HB5 := Lib.hid hb5
  have HH1 := Lib.hid hH1
  have kd := HI.out.kind bd
  clear CL o1 hF1 hb5 hH1
  have CW := Lib.hid (HI.out.walk bd pH HO1.out HH1.out.rb (by decide))
  rw [hub_walk HH1.out] at CW
  unfold WkA at CW
  go_wp2_with fail
  go_at_call 9
  refine CW.out.mono ?_
  rintro e w6 ⟨v6, rfl, x6, hb6⟩
  obtain ⟨a6, c6, rfl, e6, _, _⟩ := x6.form
  have HE6 := Lib.hid e6
  have HB6 := Lib.hid (below_call HB5.out hb6)
  have o6 := kd.kept HO1.out (fun i hi => hb6.block i (kd.lt HO1.out i hi))
  have HO6 := Lib.hid o6
  have CS := Lib.hid (HI.out.scan bd pH none 0 0 [] o6 HH1.out.rb (by decide) (sns_nil _ _) (by omega) (good_none _ _) szn_nil)
  clear x6 e6 hb6 o6 CW
  unfold ScTo at CS
  rw [hub_walk HH1.out] at CS
  go_wp2_with fail
  go_at_call 11
  refine CS.out.mono ?_
  rintro e w7 ⟨v7, v7s, rfl, x7, y7, hb7⟩
  obtain ⟨a7, c7, rfl, _, _, _⟩ := x7.form
  obtain ⟨p7, q7, rfl, _, _⟩ := y7.form
  have HY7 := Lib.hid y7
  have HB7 := Lib.hid (below_call HB6.out hb7)
  have o7 := kd.kept HO6.out (fun i hi => hb7.block i (kd.lt HO6.out i hi))
  have HO7 := Lib.hid o7
  have HFB := Lib.hid (fun i (hi : F1 i) => kd.lt HO6.out i hi)
  have hla1 := HLA.out.1
  have HSA := Lib.hid (En.refSame_any a6 a la.length n c6 c la la w7 (HE6.out.below hb7) ((HLA.out.below HB4.out).below HB7.out) (by omega) (by omega))
  clear x7 y7 hb7 o7 CS hla1
  go_wp2_with fail
  go_at_call 12
  refine HSA.out.mono ?_
  rintro e w8 ⟨B8, hB8, rfl, hb8⟩
  obtain rfl : B8 = true := hB8.2 rfl
  have HB8 := Lib.hid (below_call HB7.out hb8)
  have o8 := kd.kept HO7.out (fun i hi => hb8.block i (kd.lt HO7.out i hi))
  have HO8 := Lib.hid o8
  have HY8 : Hid (OwnN w8 w6.heap.size (.slice p7 (snS s1 pH).length q7) (snS s1 pH)) := HY7.out.below hb8
  have CY := Lib.hid (HI.out.lay bd pH (some ⟨g, 0, none⟩) m cap lb o8 HH1.out.rb (by omega) (by decide +kernel) (hub_kind HH1.out) (HE0.out.below HB8.out) (by omega) HTB.out (by rw [HH1.out.tree]; exact tree_len HTA.out) (.inr fun x hx hh => by
    injection hx with hx
    subst hx
    have := HF1.out _ hh
    exact absurd hg2 (Nat.not_lt.2 this)))
  clear hB8 hb8 o8 HSA HY7 HE6
  go_wp2_with fail
  go_at_call 20
  refine CY.out.mono ?_
  rintro e w9 ⟨rfl, s2, hL2, F2, o9, hc9, n9⟩
  have HL2 := Lib.hid hL2
  have HH2 := Lib.hid (hub_lay HH1.out hL2)
  have HB9 := Lib.hid (HB8.out.trans (Sc.below_chg hc9 HF1.out HB8.out.size))
  have hs8 := HB8.out.size
  have HF2 : Hid (∀ i, F2 i → w4.heap.size ≤ i) := fun i hi => (n9 i hi).elim (HF1.out i) (fun h => by omega)
  have HO9 := Lib.hid o9
  have HY9 : Hid (OwnN w9 w6.heap.size (.slice p7 (snS s1 pH).length q7) (snS s1 pH)) := own_kept HY8.out (fun g hg => hc9.block g (World.ownsRow.lt HY8.out g hg).2 (fun hh => by
    have h1 := HFB.out g hh
    have h2 := (World.ownsRow.lt HY8.out g hg).1
    omega))
  have CH := Lib.hid (En.refHeld_any g cap c2 m b lb w9 (HE1.out.below HB9.out) ((HLB.out.below HB4.out).below HB9.out) hcap hcm (by omega))
  clear hL2 o9 hc9 n9 hs8 HY8 CY HO8 HFB
  go_wp2_with fail
  go_at_call 21
  refine CH.out.mono ?_
  rintro e w10 ⟨rfl, hb10⟩
  have HB10 := Lib.hid (below_call HB9.out hb10)
  have o10 := kd.kept HO9.out (fun i hi => hb10.block i (kd.lt HO9.out i hi))
  have HO10 := Lib.hid o10
  have hkp := HL2.out.keeps
  have hsn1 : (snS s1 pH).length = la.length := by
    unfold snS
    rw [hub_walk HH1.out, List.length_map]
  have hlan : la.length ≤ 200 := tree_len HTA.out
  have y10 := HY9.out.below hb10
  obtain ⟨p7', q7', hv, hS10, _⟩ := y10.form
  injection hv with hv1 hv2 hv3
  subst hv1
  subst hv3
  have CS := Lib.hid (HI.out.scan bd pH p7 (snS s1 pH).length q7 (snS s1 pH) o10 HH2.out.rb (by decide) hS10 (by omega) ((good_new HH1.out.rb.inv.rises HH1.out.rb.stp).keep hkp) (szn_sn HH1.out.rb.inv.path HH1.out.rb.stp (by have := HH1.out.rb.stamps; omega)))
  unfold ScTo at CS
  rw [hub_walk HH2.out, hub_reads HH1.out HL2.out] at CS
  clear hkp hsn1 hlan hS10 y10 hb10 o10 HY9 CH
  go_wp2_with fail
  go_at_call 11
  refine CS.out.mono ?_
  rintro e w11 ⟨v11, v11s, rfl, x11, y11, hb11⟩
  obtain ⟨a11, c11, rfl, e11, _, _⟩ := x11.form
  obtain ⟨p11, q11, rfl, _, _⟩ := y11.form
  have HE11 := Lib.hid e11
  have HB11 := Lib.hid (below_call HB10.out hb11)
  have o11 := kd.kept HO10.out (fun i hi => hb11.block i (kd.lt HO10.out i hi))
  have HO11 := Lib.hid o11
  clear x11 y11 e11 hb11 o11 CS HO10 HO9
  have HA11 := Lib.hid ((HLA.out.below HB4.out).below HB11.out)
  have HB11' := Lib.hid ((HLB.out.below HB4.out).below HB11.out)
  have hm2 : m ≤ 200 := by have := tree_len HTB.out; have := HLM.out; omega
  go_wp2_with fail
  go_loopw [19, 20] (fun f i wr => ∃ k : Nat, k ≤ m ∧ i = .int .i64 (k : Int) ∧ f = .int .i64 ((flK la lb k : Nat) : Int) ∧ Hid (Below w11.heap.size w11 wr)) (fun _ i _ => m - (intOf i).toNat)
  case atStart => exact ⟨0, Nat.zero_le _, rfl, rfl, Below.refl _ _⟩
  case round =>
    obtain ⟨k, hk, rfl, rfl, HW⟩ := hrel
    have hfl := flK_le la lb k
    rw [HLM.out] at hfl
    by_cases hlt : k < m
    · have hltz : (k : Int) < (m : Int) := by omega
      obtain ⟨gb, ob, rfl, hgb, hcb2⟩ := HB11'.out.2.resolve_left (by omega)
      obtain ⟨x, hx⟩ : ∃ x, lb[k]? = some x := ⟨_, List.getElem?_eq_getElem (by rw [HLM.out]; exact hlt)⟩
      obtain ⟨x0, x1, x2⟩ := hcb2 k x hx
      have hnx := flK_next (a := la) hx
      have HX := Lib.hid (fun W (h : Below w11.heap.size w11 W) => show (W.cell? ⟨gb, ob + k * 3, none⟩ = some (.string x.path) ∧ W.cell? ⟨gb, ob + k * 3 + 1, none⟩ = some (.int .i64 x.node.kind) ∧ W.cell? ⟨gb, ob + k * 3 + 2, none⟩ = some (.string x.node.data)) from
        ⟨(h.cell (p := ⟨gb, _, none⟩) hgb).trans x0, (h.cell (p := ⟨gb, _, none⟩) hgb).trans x1, (h.cell (p := ⟨gb, _, none⟩) hgb).trans x2⟩)
      have CG := Lib.hid (fun W (h : Below w11.heap.size w11 W) => show Calls Tryz.prog 22 #[.slice a n c, .string x.path] W (fun e w' => e = .returned (nv (En.tget la x.path)) ∧ Below w11.heap.size w11 w') from (En.refGet_any a n c la x.path W (HA11.out.below h) (by omega)).mono fun e w' ⟨h1, h2⟩ => ⟨h1, below_call h h2⟩)
      obtain ⟨NX, hNX⟩ : ∃ NX, NX = flK la lb (k + 1) := ⟨_, rfl⟩
      have HNX := Lib.hid hNX
      rw [← hNX] at hnx
      obtain ⟨CK, hCK⟩ : ∃ CK, CK = flK la lb k := ⟨_, rfl⟩
      rw [← hCK] at hnx hfl ⊢
      have wc : IntKind.i64.wrap ((CK : Nat) + 1 : Int) = ((CK + 1 : Nat) : Int) := IntWalk.i64_in _ (by omega)
      clear hx x0 x1 x2 hcb2 hgb hNX hCK
      by_cases hkd : x.node.kind = 2
      · have s0 : ∀ W : World, (binOp .eql 3 (.int .i64 x.node.kind) (.int .i64 2)).run Tryz.prog W = .ok (.bool true) W := fun W => by rw [run_eq_i, hkd]; rfl
        obtain ⟨Bq, hBq⟩ : ∃ Bq, Bq = !(decide ((En.tget la x.path).kind = x.node.kind) && decide ((En.tget la x.path).data = x.node.data)) := ⟨_, rfl⟩
        have s1 := fun W => run_ne_n (En.tget la x.path).kind x.node.kind (En.tget la x.path).data x.node.data W
        rw [← hBq] at s1
        have hot : other la x = Bq := by unfold other; rw [decide_eq_true hkd, Bool.true_and, hBq]
        rw [hot] at hnx
        have HNX2 := Lib.hid hnx
        clear hot hnx hBq
        go_wp2_with fail
        refine Rg.wp_only ?_ (layB _ (by kernel_rfl) _ (.slice a n c) gb ob m c2 k x.node.kind x.path x.node.data (En.tget la x.path).kind (En.tget la x.path).data Bq wr (Below w11.heap.size w11) hltz HX.out HW.out.drew s0 s1 CG.out)
        rintro _ w12 ⟨rfl, hb12⟩
        have HB12 := Lib.hid hb12
        clear hb12 s0 s1 CG HX
        cases Bq
        · have hq : CK = NX := by have h := HNX2.out; rw [if_neg (by decide)] at h; exact h.symm
          go_wp2_with fail
          go_roundw
          case rel => exact ⟨k + 1, by omega, by go_num, by rw [← HNX.out, ← hq], HB12⟩
          case measure => simp only [intOf]; omega
        · have hq : NX = CK + 1 := by have h := HNX2.out; rw [if_pos rfl] at h; exact h
          go_wp2_with fail
          go_roundw
          case rel => exact ⟨k + 1, by omega, by go_num, by rw [← HNX.out, hq]; go_num, HB12⟩
          case measure => simp only [intOf]; omega
      · have s0 : ∀ W : World, (binOp .eql 3 (.int .i64 x.node.kind) (.int .i64 2)).run Tryz.prog W = .ok (.bool false) W := fun W => by rw [run_eq_i, beq_eq_false_iff_ne.2 hkd]
        have hot : other la x = false := by unfold other; rw [decide_eq_false hkd, Bool.false_and]
        rw [hot, if_neg (by decide)] at hnx
        have HNX2 := Lib.hid hnx
        clear hot hnx CG
        go_wp2_with fail
        refine Rg.wp_only ?_ (layA _ (by kernel_rfl) _ (.slice a n c) gb ob m c2 k x.node.kind x.path x.node.data wr (Below w11.heap.size w11) hltz HX.out HW.out.drew s0)
        rintro _ w12 ⟨rfl, hb12⟩
        have HB12 := Lib.hid hb12
        clear hb12 s0 HX
        go_wp2_with fail
        go_roundw
        case rel => exact ⟨k + 1, by omega, by go_num, by rw [← HNX.out, HNX2.out]; rfl, HB12⟩
        case measure => simp only [intOf]; omega
    · have hltz : ¬ (k : Int) < (m : Int) := by omega
      have hkm : k = m := by omega
      have hfe : flK la lb k = fls la lb := by unfold flK; rw [List.take_of_length_le (by rw [HLM.out]; omega)]
      rw [hfe]
      obtain ⟨NF, hNF⟩ : ∃ NF, NF = fls la lb := ⟨_, rfl⟩
      rw [← hNF]
      have q0 : (((NF : Nat) : Int) == ((NF : Nat) : Int)) = true := beq_self_eq_true _
      clear hkm hfe hNF hfl hlt
      have o12 := kd.kept HO11.out (fun i hi => HW.out.block i (kd.lt HO11.out i hi))
      have HO12 := Lib.hid o12
      have HB12 := Lib.hid (below_call HB11.out HW.out)
      have CS1 := Lib.hid (En.refSame_any a11 b lb.length m c11 c2 lb lb wr (HE11.out.below HW.out) (HB11'.out.below HW.out) (by have := HLM.out; omega) (by omega))
      clear o12 HA11 HW HO11
      go_wp2_with fail
      go_at_call 12
      refine CS1.out.mono ?_
      rintro e w13 ⟨B13, hB13, rfl, hb13⟩
      obtain rfl : B13 = true := hB13.2 rfl
      have HB13 := Lib.hid (below_call HB12.out hb13)
      have o13 := kd.kept HO12.out (fun i hi => hb13.block i (kd.lt HO12.out i hi))
      have HO13 := Lib.hid o13
      have cr := HI.out.restart bd M o13 HH2.out.rb hM
      unfold Does at cr
      have CR := Lib.hid cr
      clear hB13 hb13 o13 CS1 HO12 HE11 cr
      go_wp2_with fail
      go_at_call 23
      refine CR.out.mono ?_
      rintro e w14 ⟨rfl, F3, o14, hc14, n14⟩
      have HB14 := Lib.hid (HB13.out.trans (Sc.below_chg hc14 HF2.out HB13.out.size))
      have HH3 := Lib.hid (hub_restart M HH2.out (by omega))
      have HO14 := Lib.hid o14
      have CW := Lib.hid (HI.out.walk bd pH o14 HH3.out.rb (by decide))
      rw [hub_walk HH3.out] at CW
      unfold WkA at CW
      clear o14 hc14 n14 CR HO13
      go_wp2_with fail
      go_at_call 9
      refine CW.out.mono ?_
      rintro e w15 ⟨v15, rfl, x15, hb15⟩
      obtain ⟨a15, c15, rfl, e15, _, _⟩ := x15.form
      have HB15 := Lib.hid (below_call HB14.out hb15)
      have o15 := kd.kept HO14.out (fun i hi => hb15.block i (kd.lt HO14.out i hi))
      have HO15 := Lib.hid o15
      have CS2 := Lib.hid (En.refSame_any a15 b lb.length m c15 c2 lb lb w15 e15 ((HLB.out.below HB4.out).below HB15.out) (by have := HLM.out; omega) (by omega))
      clear x15 e15 hb15 o15 CW HO14
      go_wp2_with fail
      go_at_call 12
      refine CS2.out.mono ?_
      rintro e w16 ⟨B16, hB16, rfl, hb16⟩
      obtain rfl : B16 = true := hB16.2 rfl
      have HB16 := Lib.hid (below_call HB15.out hb16)
      have o16 := kd.kept HO15.out (fun i hi => hb16.block i (kd.lt HO15.out i hi))
      have HO16 := Lib.hid o16
      have cu := HI.out.used bd pH o16 HH3.out.rb (by decide)
      rw [hub_used HH3.out] at cu
      have hz : En.tsize lb ≤ 1000000000 := by
        have := tsize_tree HTB.out
        omega
      obtain ⟨Z, hZ⟩ : ∃ Z, Z = En.tsize lb := ⟨_, rfl⟩
      rw [← hZ] at cu hz
      have CU := Lib.hid cu
      have q1 : (((Z : Nat) : Int) == ((Z : Nat) : Int)) = true := beq_self_eq_true _
      have HZ := Lib.hid hZ
      clear hB16 hb16 o16 cu CS2 HO15 hZ
      go_wp2_with fail
      go_at_call 24
      refine CU.out.mono ?_
      rintro e w17 ⟨rfl, hb17⟩
      have HB17 := Lib.hid (below_call HB16.out hb17)
      have o17 := kd.kept HO16.out (fun i hi => hb17.block i (kd.lt HO16.out i hi))
      have cz := En.refSize_any b m c2 lb w17 ((HLB.out.below HB4.out).below HB17.out) (by omega) (by rw [← HZ.out]; omega)
      rw [← HZ.out] at cz
      have CZ := Lib.hid cz
      have CT := Lib.hid (HI.out.list bd pW o17 HH3.out.rb (by decide))
      unfold ListTo at CT
      have hl1 := Lib.hid (hub_list HH3.out)
      clear hb17 o17 cz CU HO16
      go_wp2_with fail
      go_at_call 25
      refine CZ.out.mono ?_
      rintro e w17' ⟨rfl, rfl⟩
      clear CZ
      go_wp2_with fail
      go_at_call 26
      refine CT.out.mono ?_
      rintro e w18 ⟨v18, rfl, x18, hb18⟩
      obtain ⟨a18, c18, hv, _, _, _⟩ := Texts.form x18
      subst hv
      rw [hl1.out]
      have HBZ := Lib.hid (below_call HB17.out hb18)
      have HBF := Lib.hid (below_call HB4.out HBZ.out)
      clear x18 hb18 CT
      go_wp2_with fail
      go_ret
      exact ⟨rfl, HBF.out⟩
theorem own : ownKnob Tryz.prog.godebug = none := by kernel_rfl
theorem laidOut : laidOutB Tryz.prog = true := by kernel_rfl
set_option maxRecDepth 100000 in
theorem contract {O : Nat → World → (Nat → Prop) → St → Prop} (hI : LaysI O) (H : Type) (enc : TypeId × Value → H) (W : World) (base : Nat) (args : Array Value) (ds gs : List (DataW H)) (before : List MemPlace)
    (hval0 : ∀ (j : Nat) t v, Tryz.f4.params[j]? = some t → args[j]? = some v → Value.okWide Tryz.prog W .any base t v)
    (hW : DataW.Whole enc Tryz.prog Tryz.f4.params.toList Rows.scanLaysSpec.vars false W args.toList ds gs before)
    (hk : Rows.uptoSmall H (ds ++ gs) = true)
    (hsz0 : (DataW.weightsEach Tryz.prog (Tryz.f4.params.toList ++ Rows.scanLaysSpec.plain.varTypes Tryz.prog) (ds ++ gs)).all (· ≤ reachBytes) = true) :
    Calls Tryz.prog 4 args W fun e W' => ∃ v, e = .returned v ∧ Rows.scanLaysSpec.post enc Tryz.prog Tryz.f4 false true false false W args v W' := by
  have hval : ∀ (j : Nat) t v, Tryz.f4.params[j]? = some t → args[j]? = some v → Value.okWide Tryz.prog W .any base t v := hval0
  have hsz := hsz0
  clear hsz0
  have hW' := hW
  obtain ⟨p, q, hA0, hV, rfl, hfz, hnd⟩ := hW
  have hA : DataW.TrodAll enc Tryz.prog W 0 (fun _ => true) true Tryz.f4.params.toList args.toList ds p := hA0
  rw [Tryz.params4] at hA hval hsz
  obtain ⟨v0, vs0, d0, ds0, p0, q0, hargs, rfl, rfl, h0, r0⟩ := trodAll_cons hA
  obtain ⟨v1, vs1, d1, ds1, p1, q1, rfl, rfl, rfl, h1, r1⟩ := trodAll_cons r0
  obtain ⟨v2, vs2, d2, ds2, p2, q2, rfl, rfl, rfl, h2, r2⟩ := trodAll_cons r1
  obtain ⟨rfl, rfl, rfl⟩ := trodAll_nil r2
  obtain rfl : args = #[v0, v1, v2] := by cases args; simp_all
  obtain ⟨rfl, rfl⟩ := trodVars_none hV
  obtain ⟨A0, n0, c0, rfl⟩ := okWide_slice Tryz.underlying32 (hval 0 32 v0 rfl rfl)
  have k0 := h0
  have lt0 : ∀ x ∈ p0, x.block < W.heap.size := by obtain ⟨m, hm⟩ := k0; exact DataW.trod_lt m _ _ _ hm
  obtain ⟨A1, n1, c1, rfl⟩ := okWide_slice Tryz.underlying32 (hval 1 32 v1 rfl rfl)
  have k1 := h1
  have lt1 : ∀ x ∈ p1, x.block < W.heap.size := by obtain ⟨m, hm⟩ := k1; exact DataW.trod_lt m _ _ _ hm
  obtain ⟨a2, rfl, rfl, rfl, w2⟩ := open_int Tryz.underlying3 (hval 2 3 v2 rfl rfl) h2
  have bd2 : -9223372036854775808 ≤ a2 ∧ a2 ≤ 9223372036854775807 := by simpa [Lit.wf, IntKind.min, IntKind.max, IntKind.signed, IntKind.bits] using w2
  clear hA0 hval0
  obtain ⟨l0, e0, z0, _, m0, sm0⟩ := En.arg_ents k0
  obtain ⟨l1, e1, z1, _, m1, sm1⟩ := En.arg_ents k1
  have hbulk : Rows.uptoBulk d0 ≤ 1048576 ∧ Rows.uptoBulk d1 ≤ 1048576 := by
    have h := of_decide_eq_true hk
    rw [List.append_nil] at h
    have x : Rows.uptoBulkAll [d0, d1, DataW.lit (H := H) (.int .i64 a2)] = Rows.uptoBulk d0 + (Rows.uptoBulk d1 + (1 + 0)) := rfl
    rw [x] at h
    omega
  refine (walk hI A0 n0 c0 l0 A1 n1 c1 l1 a2 W e0 e1 (by omega) (by omega) (fun x hx => by have := sm0 x hx; omega) (fun x hx => by have := sm1 x hx; omega) (En.arg_cap k0).1 (En.arg_cap k1).1 z1 bd2).mono fun e W' ⟨he, bel⟩ => ?_
  subst he
  exact ⟨_, rfl, _, _, _, [], _, [], hW', trodAll_mk1 (shut_bool Tryz.underlying4 _), (trodAll_cons_mk (Below.trod laidOut (by kernel_rfl) (of_decide_eq_true (by kernel_rfl)) k0 bel lt0) (trodAll_cons_mk (Below.trod laidOut (by kernel_rfl) (of_decide_eq_true (by kernel_rfl)) k1 bel lt1) (trodAll_cons_mk (shut_int Tryz.underlying3 w2) trodAll_mk0))), rfl, bel.frame _, fun h => by cases h⟩
set_option maxRecDepth 100000 in
theorem lifted {O : Nat → World → (Nat → Prop) → St → Prop} (hI : LaysI O) (os : Os) (started : os.Started) (H : Type) (enc : TypeId × Value → H) (F : Stop.Interp) :
    ReturnsInHanded {} Tryz.checked os 4 .any ((Rows.OpenSpec.upto Rows.scanLaysSpec).pre6 enc Tryz.prog Tryz.f4 Rows.scanLaysUptoRow.domain false) (((Rows.OpenSpec.upto Rows.scanLaysSpec).at F).post enc Tryz.prog Tryz.f4 false true false false) := by
  refine returnsInHanded_of_cond_sized (C := Tryz.checked) (s := Rows.OpenSpec.upto Rows.scanLaysSpec) (k := Rows.uptoSmall) rfl own started (by kernel_rfl) Tryz.func4
    (OpenSpec.witness (enc := enc) (C := Tryz.checked) (s := Rows.OpenSpec.upto Rows.scanLaysSpec) (k := Rows.uptoSmall) rfl false ⟨#[], #[.slice none 0 0, .slice none 0 0, .int .i64 0], []⟩ 8 (by kernel_rfl) (by kernel_rfl) (by kernel_rfl)
      (x := ([.nil, .nil, .lit (.int .i64 0)], [], [])) (by kernel_rfl) rfl (by kernel_rfl)) ?_
  intro W base args ds gs before hval hW _ hk hsz0 _
  exact contract hI H enc W base args ds gs before hval hW hk hsz0
theorem over {O : Nat → World → (Nat → Prop) → St → Prop} (hI : LaysI O) : Rows.scanLaysUptoRow.holds Tryz.pinned (Rows.OpenSpec.upto Rows.scanLaysSpec) :=
  OpenClaim.holds_of_cond 4 Tryz.f4 rfl rfl rfl rfl rfl rfl rfl ⟨rfl, rfl, rfl, rfl, rfl⟩ rfl rfl rfl rfl rfl (by kernel_rfl) Tryz.func4 (by kernel_rfl)
    (of_decide_eq_true (by kernel_rfl)) (by unfold Func.isWrapper; first | (rw [if_pos (by decide +kernel)]; kernel_rfl) | (rw [if_neg (by decide +kernel)]; exact ⟨rfl, rfl⟩))
    (fun os started H enc _ F => lifted hI os started H enc F)
end Go.Proofs.YtdpnmdnfnplcfaaGreat.scanLays

namespace Go.Proofs.YtdpnmdnfnplcfaaGreat.Sc
open Go.RowKit Tx Pm Pr Dk
set_option linter.unusedVariables false
theorem rb_lk {n : Nat} {s : St} (h : Rb n s) (hw : Wf s.L) : Lk s := ⟨h.ok, hw, by have := h.inv.len; have := h.n; omega⟩
theorem inside_len {s : St} {v : ByteArray} (h : (entS s.L v).length ≤ 200) : (inside s v).length ≤ 200 := by
  have e : (entS s.L v).length = (inside s v).length := by unfold entS inside; rw [List.length_map]
  omega
theorem oi_lays : scanLays.LaysI Oi where
  mini := oi_impl.mini
  kind := oi_kind
  lay := fun b {w F s n} v A m c t h rb hn hv hk hE hmc ht hl hd => (lay_any v A m c t h.1 (rb_lk rb h.2.1) rb hn hv hk hE ht hd (inside_len hl)).mono fun e w' ⟨h1, s', h2, h3, h4⟩ => ⟨h1, s', h2, F, ⟨h3.1, h4, h2.rb.stp⟩, h3.2, fun g hg => .inl hg⟩
  walk := fun b {w F s n} v h rb hv => walk_any h.1 (rb_lk rb h.2.1) h.2.2 hv
  scan := fun b {w F s n} v A m c seen h rb hv hS hm hg hz => scan_any A m c seen h.1 (rb_lk rb h.2.1) h.2.2 hv hS hm hg hz
  restart := fun b {w F s n} M h rb hM => (ok_restart h.1 rb.ok rb.sound hM).mono fun e w' hd => oi_does hd (wf_restart M h.2.1) (h.2.2.keep (keeps_restart _ M))
  used := fun b {w F s n} v h rb hv => ok_used h.1 rb.ok
  list := fun b {w F s n} v h rb hv => ok_list h.1 rb.ok
end Go.Proofs.YtdpnmdnfnplcfaaGreat.Sc

namespace Go.Proofs.YtdpnmdnfnplcfaaGreat
theorem scanLaysUpto_holds : Rows.ScanLaysUptoSaid := scanLays.over Sc.oi_lays
#print axioms scanLaysUpto_holds
end Go.Proofs.YtdpnmdnfnplcfaaGreat
