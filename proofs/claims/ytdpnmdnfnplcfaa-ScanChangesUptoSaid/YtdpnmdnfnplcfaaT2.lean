/- Texts of this seat, one behind the other. -/
import Derived.Test.YtdpnmdnfnplcfaaT1
import Derived.Deep.QuietTactic
import Derived.BigQuiet
import Derived.Laws.Rows
import Derived.Laws.NewBlocks
import Derived.WalkSmall
import Derived.Laws.StructEq
import Derived.Laws.AppendOwn
import Derived.Laws.AppendOwnNone
import Derived.Deep.AppendLies
import Derived.Deep.RegionLaw
import Derived.Laws.OwnMore
import Derived.Deep.CutBlock
import Derived.Deep.CutRange
import Derived.Deep.Cut
import Derived.Maps.OwnSet
import Derived.DeepKeys4
import Derived.Carry
import Derived.ProofKit
import Derived.OpenShut
import Derived.ShutString
import Derived.Deep.Slices
import Derived.Deep.Fields
import Derived.ChangeSame
import Derived.Shelf.SlSorted.Search
import Derived.Test.YtdpnmdnfnplcfaaProg
namespace Go.Proofs.Ytdpnmdnfnplcfaa.Dk
open Go.RowKit Tx Pm Pl Pr
set_option linter.unusedVariables false
theorem own_base {w : World} {B C n size : Nat} {e : TypeId} {v : Value} {xs : List Value} (h : w.ownsRow C e size v n xs) (hB : B ≤ C) : w.ownsRow B e size v n xs := by
  refine ⟨h.1, ?_⟩
  rcases h.2 with h0 | ⟨g, cap, cur, hv, hg, hh, r⟩
  · exact .inl h0
  · exact .inr ⟨g, cap, cur, hv, Nat.le_trans hB hg, hh, r⟩
theorem grown_below {w w1 : World} (h : Below w.heap.size w w1) : w.grownBy w1 none := ⟨h.os, h.tape, h.output, h.size, fun i hi _ => h.block i hi⟩
theorem own_belowT {w w1 : World} {B n size : Nat} {e : TypeId} {v : Value} {xs : List Value} (h : w.ownsRow B e size v n xs) (hb : Below w.heap.size w w1) : w1.ownsRow B e size v n xs := own_kept h (fun g hg => hb.block g (h.lt g hg).2)
def held (φ : It → Bool) (l : List It) : List ByteArray := (l.filter φ).map (·.path)
theorem held_cons (φ : It → Bool) (x : It) (l : List It) : held φ (x :: l) = (if φ x = true then [x.path] else []) ++ held φ l := by
  unfold held
  cases h : φ x <;> simp [h]
theorem held_perm {φ : It → Bool} {a b : List It} (h : a.Perm b) : (held φ a).Perm (held φ b) := (h.filter φ).map _
theorem held_rises {φ : It → Bool} {l : List It} (h : Rises l) : (held φ l).Pairwise (fun a b => Op.bytesLess a.toList b.toList = true) := by
  unfold held
  rw [List.pairwise_map]
  exact List.Pairwise.filter _ h
theorem held_len (φ : It → Bool) (l : List It) : (held φ l).length ≤ l.length := by
  unfold held
  rw [List.length_map]
  exact List.length_filter_le _ _
set_option maxRecDepth 100000 in
set_option maxHeartbeats 2000000 in
theorem iPaths_any (b bi bl : Nat) (l : Int) (s : St) (f : FuncId) (cap : Array Value) (φ : It → Bool) (w : World) (h : Ia b bi bl l w s) (hR : Rises s.L) (hn : s.L.length ≤ 1000000000) (hps : ∀ x ∈ s.L, x.path.size ≤ 8000000000000)
    (hen : ∀ a1 a2 W, (callFunc f (#[a1, a2] ++ cap)).run Try.prog W = .ok (.enter f (#[a1, a2] ++ cap)) W)
    (cf : ∀ W x, Below w.heap.size w W → x ∈ s.L → Calls Try.prog f (#[.string x.path, .agg #[.int .i64 (kOf x), .string x.data, .string x.kept, .int .i64 (stOf x), .int .i64 x.stamp]] ++ cap) W fun e w' => e = .returned (.bool (φ x)) ∧ Below W.heap.size W w') :
    Calls Try.prog 71 #[.pointer (some ⟨b, 0, none⟩), .func (.func f) #[] cap] w (ListTo (held φ s.L) w) := by
  obtain ⟨i0, hi, hz0, hz1, hz2⟩ := info_parts info9
  obtain ⟨c0, _⟩ := h.cell
  have hm := h.items
  go_enter Try.func71, Try.ntmps71
  go_wp2_with (at_range; refine range_items _ rfl _ rfl bi s.L rfl hm ?_; intro D w0 hD hrg0 hg0 hs0)
  go_frame
  have HD := Lib.hid hD
  have HR := Lib.hid hR
  have HP := Lib.hid hps
  have HF := Lib.hid cf
  have HH := Lib.hid (fun left => Nat.le_trans (held_len φ (came s.L left)) (List.Sublist.length_le (came_sub s.L left)))
  have hsm : w.heap.size < w0.heap.size := by omega
  have HS := Lib.hid hs0
  clear hD hR hps hs0 cf
  go_loopw [5] (fun v wr => ∃ (left : Lit → Bool) (cnt T : Nat) (out : List ByteArray), wr.ranges Try.prog 9 itemR bi w.heap.size s.L.length D left cnt ∧ Hid (out.Perm (held φ (came s.L left))) ∧ Hid (out.length = T) ∧ T ≤ 1000000000 ∧ wr.ownsRow (w.heap.size + 1) 9 1 v T (out.map sv) ∧ Below w.heap.size w wr ∧ w.heap.size < wr.heap.size) (fun _ wr => wr.rangeLeft bi w.heap.size)
  case atStart => exact ⟨_, _, 0, [], hrg0, by show List.Perm _ _; rw [came_start HD.out]; exact List.Perm.refl _, rfl, by omega, World.ownsRow_nil _ _ _ _, (Below.refl _ _).grown hg0 (Nat.le_refl _) (fun j hj => by cases hj), hsm⟩
  case round =>
    obtain ⟨left, cnt, T, out, hrg, hout, hlen, hT, hown, hB, hlt⟩ := hrel
    go_wp2_with (at_next; refine next_items _ rfl _ rfl bi w.heap.size s.L.length D left cnt s.L rfl hrg HD.out ?_ ?_)
    · intro hl
      have hp := hout.out
      rw [came_end s.L hl] at hp
      have hO : Texts wr w.heap.size _ out := own_toT (own_base hown (Nat.le_succ _)) hlen.out
      have hol : out.length ≤ 4000000000 := by rw [hlen.out]; omega
      have cs := sortS_any _ out wr w.heap.size hO hB.size hol
      have HPM := Lib.hid hp
      clear hl hp hO hrg h hout hlen hown hol
      go_wp2_with (go_at_call 30; refine cs.mono ?_; rintro e w5 ⟨rfl, ts, hts, hso, htx, hb5⟩)
      go_ret
      obtain rfl : ts = held φ s.L := rising_perm (hts.trans HPM.out) hso (held_rises HR.out)
      exact ⟨_, rfl, htx, hB.trans hb5⟩
    · intro x w1 cnt1 hx hlx hrg1 hlt1 hg1 hs1 hen1
      have hst := held_perm (φ := φ) (came_step hlx HR.out hx)
      rw [held_cons] at hst
      have hbd := HH.out (less left x.path)
      have hlen2 := hst.length_eq
      have hme : cnt1 < wr.rangeLeft bi w.heap.size := by rw [hrg.left_eq]; exact hlt1
      have hb1 : Below w.heap.size w w1 := below_grown hB hg1 (Nat.le_of_lt hlt) (Nat.le_refl _)
      have hs2 : w.heap.size < w1.heap.size := by omega
      have hrg2 := hrg1.alloc (.cells #[.int .i64 (kOf x), .string x.data, .string x.kept, .int .i64 (stOf x), .int .i64 x.stamp] 53)
      have hb3 := hb1.alloc (Nat.le_of_lt hs2) (.cells #[.int .i64 (kOf x), .string x.data, .string x.kept, .int .i64 (stOf x), .int .i64 x.stamp] 53)
      have cx := HF.out _ x hb3 hx
      have hown1 := hown.kept hg1 (.inr (fun e => by have := (hown.lt _ e).1; omega))
      have HME := Lib.hid hme
      have HS1 := Lib.hid hs1
      clear hs1
      cases hφ : φ x with
      | true =>
        rw [hφ] at cx
        rw [hφ, if_pos rfl, List.length_append, List.length_singleton] at hlen2
        rw [hφ, if_pos rfl] at hst
        have hT2 : T + 1 ≤ 1000000000 := by have := hout.out.length_eq; have := hlen.out; omega
        have hpm : (out ++ [x.path]).Perm (held φ (came s.L (less left x.path))) := (List.perm_append_comm.trans (hout.out.append_left [x.path])).trans hst.symm
        have HPM := Lib.hid hpm
        have HSZ := Lib.hid (show w.heap.size + 1 ≤ w1.heap.size by omega)
        have HLN := Lib.hid (show (out ++ [x.path]).length = T + 1 by rw [List.length_append, hlen.out]; rfl)
        have HB3 := Lib.hid hb3
        clear hst hlen2 hbd hlx hx hpm hout hlen hrg hrg1 hlt1 hg1 hme hown h
        go_wp2_with fail
        refine cx.mono ?_
        rintro e w5 ⟨rfl, hb5⟩
        have hown5 := own_belowT (hown1.alloc (.cells #[.int .i64 (kOf x), .string x.data, .string x.kept, .int .i64 (stOf x), .int .i64 x.stamp] 53)) hb5
        have hB5 := below_call HB3.out hb5
        have hrg5 := hrg2.kept (grown_below hb5) (by simp) (by simp)
        have hz5 : w1.heap.size + 1 ≤ w5.heap.size := by have := hb5.size; simpa using this
        have hS := HSZ.out
        go_wp2_with (at_builtin; refine wpList_append_own _ rfl _ _ 25 rfl (w.heap.size + 1) 9 i0 (.string ⟨#[]⟩) 1 16 Try.underlying25 hi hz0 hz1 hz2 rfl (by decide) _ _ _ rfl (hown5.alloc _) ⟨w5.heap.size, 0, none⟩ 1 1 [sv x.path] rfl rfl ?c1_2 ?c2_2 ?c3_2 ?c4_2 ?c5_2 ?_)
        case c1_2 => exact cell_one_new _ _ _
        case c2_2 => exact sv_one [x.path]
        case c3_2 => unfold maxLen; omega
        case c4_2 => omega
        case c5_2 => first | (simp; omega) | omega
        intro v' w6 hown' hgrow _
        have ho6 : w6.ownsRow (w.heap.size + 1) 9 1 v' (T + 1) ((out ++ [x.path]).map sv) := by
          rw [List.map_append]
          exact hown'
        have hB6 : Below w.heap.size w w6 := (hB5.alloc hB5.size _).grown hgrow (by have := hB5.size; simp; omega) (fun k hk => by have := (hown5.lt k hk).1; omega)
        have hlb : bi < w.heap.size := hm.lt
        have hrg6 := (hrg5.alloc (.cells #[.string x.path] 9)).kept hgrow (fun e => by have := (hown5.lt _ e.symm).1; omega) (fun e => by have := (hown5.lt _ e.symm).1; omega)
        have hle6 : w.heap.size < w6.heap.size := by have := hgrow.size; simp at this; omega
        have hme6 : w6.rangeLeft bi w.heap.size < wr.rangeLeft bi w.heap.size := by rw [hrg6.left_eq]; exact HME.out
        have HM6 := Lib.hid hme6
        have HO6 := Lib.hid ho6
        clear hown5 hrg5 hown' hgrow hme6 hown1 hrg2 ho6
        go_wp2_with fail
        go_roundw
        case rel => exact ⟨less left x.path, cnt1, T + 1, out ++ [x.path], hrg6, HPM, HLN, hT2, HO6.out, hB6, hle6⟩
        case measure => exact HM6.out
      | false =>
        rw [hφ] at cx
        rw [hφ, if_neg (by decide), List.nil_append] at hst
        have hpm : out.Perm (held φ (came s.L (less left x.path))) := hout.out.trans hst.symm
        have HPM := Lib.hid hpm
        have HB3 := Lib.hid hb3
        clear hst hlen2 hbd hlx hx hpm hout hrg hrg1 hlt1 hg1 hme hown h
        go_wp2_with fail
        refine cx.mono ?_
        rintro e w5 ⟨rfl, hb5⟩
        have hown5 := own_belowT (hown1.alloc (.cells #[.int .i64 (kOf x), .string x.data, .string x.kept, .int .i64 (stOf x), .int .i64 x.stamp] 53)) hb5
        have hB5 := below_call HB3.out hb5
        have hrg5 := hrg2.kept (grown_below hb5) (by simp) (by simp)
        have hz5 : w1.heap.size + 1 ≤ w5.heap.size := by have := hb5.size; simpa using this
        have hme5 : w5.rangeLeft bi w.heap.size < wr.rangeLeft bi w.heap.size := by rw [hrg5.left_eq]; exact HME.out
        have HM5 := Lib.hid hme5
        clear hme5 hown1 hrg2
        go_wp2_with fail
        go_roundw
        case rel => exact ⟨less left x.path, cnt1, T, out, hrg5, HPM, hlen, hT, hown5, hB5, by omega⟩
        case measure => exact HM5.out
def inP (p : ByteArray) (x : It) : Bool := decide (tb (par x.path.data.toList) = p)
theorem held_list (l : List It) (p : ByteArray) : held (inP p) l = list l p := rfl
set_option maxRecDepth 100000 in
set_option maxHeartbeats 1000000 in
theorem iParent_any (s : ByteArray) (w : World) (hs : s.size ≤ 562949953421312) :
    Calls Try.prog 47 #[.string s] w fun e w' => e = .returned (.string (tb (par s.data.toList))) ∧ w' = w := by
  have cl := fun W => lastStroke_any s W hs
  have hL := lastN_le s.data.toList
  rw [len_l] at hL
  rw [← par_ext]
  obtain ⟨L, hLe⟩ : ∃ L, L = lastN s.data.toList := ⟨_, rfl⟩
  rw [← hLe] at cl hL ⊢
  clear hLe
  by_cases h0 : L = 0
  · subst h0
    go_enter Try.func47, Try.ntmps47
    go_wp2_with (go_at_call 68; refine (cl _).mono ?_; rintro e w1 ⟨rfl, rfl⟩)
    go_ret
    exact ⟨by simp; exact .inl (by decide), rfl⟩
  · obtain ⟨K, rfl⟩ : ∃ K, L = K + 1 := ⟨L - 1, by omega⟩
    have e1 : ((K + 1 : Nat) : Int) - 1 = K := by omega
    rw [e1] at cl
    rw [Nat.add_sub_cancel]
    clear h0
    go_enter Try.func47, Try.ntmps47
    go_wp2_with (go_at_call 68; refine (cl _).mono ?_; rintro e w1 ⟨rfl, rfl⟩)
    go_ret
    exact ⟨rfl, rfl⟩
set_option maxRecDepth 100000 in
set_option maxHeartbeats 1000000 in
theorem iListC_any (g : Nat) (p : ByteArray) (x : It) (w : World) (hp : w.cell? ⟨g, 0, none⟩ = some (.string p)) (hx : x.path.size ≤ 8000000000000) :
    Calls Try.prog 72 #[.string x.path, .agg #[.int .i64 (kOf x), .string x.data, .string x.kept, .int .i64 (stOf x), .int .i64 x.stamp], .pointer (some ⟨g, 0, none⟩)] w fun e w' => e = .returned (.bool (inP p x)) ∧ Below w.heap.size w w' := by
  have cp := fun W => iParent_any x.path W (by omega)
  have hg := World.block_lt_of_cell? w _ hp
  unfold inP
  generalize tb (par x.path.data.toList) = V at cp ⊢
  have hb := fun o n => below_call ((Below.refl _ w).alloc (Nat.le_refl _) o) (below_drewN _ n)
  have HB := Lib.hid hb
  clear hb
  by_cases hv : V = p
  · have e1 : (V.toList == p.toList) = true := by rw [hv]; exact beq_self_eq_true _
    rw [decide_eq_true hv]
    clear hv
    go_enter Try.func72, Try.ntmps72
    go_wp2_with fail
    go_quiet ((go_at_call 47; exact Calls.quiet_of_same (cp _)))
    go_wp2
    go_ret
    exact ⟨rfl, HB.out _ _⟩
  · have e1 : (V.toList == p.toList) = false := bytes_ne hv
    rw [decide_eq_false hv]
    clear hv
    go_enter Try.func72, Try.ntmps72
    go_wp2_with fail
    go_quiet ((go_at_call 47; exact Calls.quiet_of_same (cp _)))
    go_wp2
    go_ret
    exact ⟨rfl, HB.out _ _⟩
set_option maxRecDepth 100000 in
set_option maxHeartbeats 1000000 in
theorem iList_any (b bi bl : Nat) (l : Int) (s : St) (p : ByteArray) (w : World) (h : Ia b bi bl l w s) (hR : Rises s.L) (hn : s.L.length ≤ 1000000000) (hps : ∀ x ∈ s.L, x.path.size ≤ 8000000000000) :
    Calls Try.prog 52 #[.pointer (some ⟨b, 0, none⟩), .string p] w (ListTo (list s.L p) w) := by
  have hb := (Below.refl _ w).alloc (Nat.le_refl _) (.cells #[.string p] 9)
  have hc : (w.alloc (.cells #[.string p] 9)).cell? ⟨w.heap.size, 0, none⟩ = some (.string p) := by rw [World.cell?_alloc_at _ _ _ _ rfl]; rfl
  have cp := iPaths_any b bi bl l s 72 #[.pointer (some ⟨w.heap.size, 0, none⟩)] (inP p) _ (h.below hb) hR hn hps (fun a1 a2 W => Rg.enters Try.func72 (by kernel_rfl) (by kernel_rfl) _ W)
    (fun W x hW hx => iListC_any w.heap.size p x W ((hW.cell (p := ⟨w.heap.size, 0, none⟩) (by simp)).trans hc) (hps x hx))
  rw [held_list] at cp
  clear hc h
  go_enter Try.func52, Try.ntmps52
  go_wp2_with (go_at_call 71; refine cp.mono ?_; rintro e w1 ⟨v, rfl, hT, hb1⟩)
  go_ret
  exact ⟨_, rfl, own_base hT (by simp), below_call hb hb1⟩
end Go.Proofs.Ytdpnmdnfnplcfaa.Dk

namespace Go.Proofs.Ytdpnmdnfnplcfaa.Dk
open Go.RowKit Tx Pm Pl Pr
set_option linter.unusedVariables false
end Go.Proofs.Ytdpnmdnfnplcfaa.Dk

namespace Go.Proofs.Ytdpnmdnfnplcfaa.Dk
open Go.RowKit Tx Pm Pl Pr
set_option linter.unusedVariables false
end Go.Proofs.Ytdpnmdnfnplcfaa.Dk

namespace Go.Proofs.Ytdpnmdnfnplcfaa.Dk
open Go.RowKit Tx Pm Pl Pr
set_option linter.unusedVariables false
theorem read_old {s : St} (hg : Good s) (p : ByteArray) (hd : s.down = false) : readS s p = ((old s.L p).data, mbf s.L p) := by
  unfold readS mbf kind old
  rw [hd, if_neg (by decide)]
  cases hf : find s.L p with
  | none => rfl
  | some x =>
    unfold kindOf
    simp only [Option.getD_some]
    by_cases hx : x.dir = true
    · rw [(hg.dirs x (find_mem hf).1 hx).1]
      simp [hx]
    · simp [hx]
set_option maxRecDepth 100000 in
set_option maxHeartbeats 1000000 in
theorem iRead_any (b bi bl : Nat) (l : Int) (s : St) (p : ByteArray) (w : World) (h : Ia b bi bl l w s) (hg : Good s) (hp : p.size ≤ 8000000000000) :
    Calls Try.prog 53 #[.pointer (some ⟨b, 0, none⟩), .string p] w fun e w' => e = .returned (.tuple #[.string (readS s p).1, .int .i64 ((readS s p).2 : Nat)]) ∧ Below w.heap.size w w' := by
  have cm := fun n => iMbf_any b bi bl l s p (w.drewN n) (h.below (below_drewN _ _)) hp
  have hl := fun n => (h.below (below_drewN w n)).look (maxLen_of hp)
  obtain ⟨c0, c1, c2, c3, c4, c5⟩ := h.cell
  have hro := read_old hg p
  have hrd : s.down = true → readS s p = (⟨#[]⟩, 14) := fun e => by unfold readS; rw [if_pos e]
  have f1 := fld1
  generalize (old s.L p).data = X0 at hl hro
  generalize (old s.L p).kept = X1 at hl
  generalize stOf (old s.L p) = X2 at hl
  generalize ((old s.L p).stamp : Int) = X3 at hl
  generalize kind s.L p = K at hl
  generalize mbf s.L p = M at cm hro
  generalize readS s p = R at hro hrd ⊢
  generalize s.down = D at c5 hro hrd
  clear h hg c1 c2 c3 c4
  have HB := Lib.hid (fun n => below_drewN w n)
  cases D with
  | true =>
    rw [hrd rfl]
    clear hro hrd cm hl
    go_enter Try.func53, Try.ntmps53
    go_wp2
    go_ret2
    exact ⟨rfl, Below.refl _ _⟩
  | false =>
    rw [hro rfl]
    clear hro hrd
    go_enter Try.func53, Try.ntmps53
    go_wp2_with fail
    have hl0 := hl
    go_quiet ((go_at_call 73; exact (cm _).mono (fun _ _ ⟨he, hw⟩ => ⟨he, _, hw.symm⟩)))
    go_wp2
    go_ret2
    exact ⟨rfl, HB.out _⟩
set_option maxRecDepth 100000 in
theorem iNew_any (w : World) : Calls Try.prog 11 #[] w fun e w' => ∃ b bi bl, e = .returned (.pointer (some ⟨b, 0, none⟩)) ∧ Ia b bi bl (-1) w' newS ∧ (∀ i, Ft b bi bl i → w.heap.size ≤ i) ∧ Below w.heap.size w w' := by
  have hmm := @run_makeMap Try.prog
  have b1 := (Below.refl w.heap.size w).alloc (Nat.le_refl _) (.map #[] 0)
  have b2 := b1.alloc (by simp) (.map #[] 0)
  have b3 := b2.alloc (by simp; omega) (.cells #[.map (some w.heap.size), .map (some (w.heap.size + 1)), .int .i64 (-1), .int .i64 0, .int .i64 0, .bool false] 50)
  have hI : Ia (w.heap.size + 1 + 1) w.heap.size (w.heap.size + 1) (-1) (((w.alloc (.map #[] 0)).alloc (.map #[] 0)).alloc (.cells #[.map (some w.heap.size), .map (some (w.heap.size + 1)), .int .i64 (-1), .int .i64 0, .int .i64 0, .bool false] 50)) newS := by
    refine ⟨new_at _ _ (by simp), ?_, ?_, by omega, .inr rfl, by omega⟩
    · refine (mp_made w).kept ?_
      have := (((Below.refl _ (w.alloc (.map #[] 0))).alloc (Nat.le_refl _) (.map #[] 0)).alloc (by simp) (.cells #[.map (some w.heap.size), .map (some (w.heap.size + 1)), .int .i64 (-1), .int .i64 0, .int .i64 0, .bool false] 50)).block w.heap.size (by simp)
      exact this
    · have hl := lm_made (w.alloc (.map #[] 0))
      have e : (w.alloc (.map #[] 0)).heap.size = w.heap.size + 1 := by simp
      rw [e] at hl
      refine hl.kept ?_
      have := ((Below.refl _ ((w.alloc (.map #[] 0)).alloc (.map #[] 0))).alloc (Nat.le_refl _) (.cells #[.map (some w.heap.size), .map (some (w.heap.size + 1)), .int .i64 (-1), .int .i64 0, .int .i64 0, .bool false] 50)).block (w.heap.size + 1) (by simp)
      exact this
  have HE := Lib.hid (show ∃ b bi bl, (Ending.returned (.pointer (some ⟨w.heap.size + 1 + 1, 0, none⟩))) = .returned (.pointer (some ⟨b, 0, none⟩)) ∧ Ia b bi bl (-1) (((w.alloc (.map #[] 0)).alloc (.map #[] 0)).alloc (.cells #[.map (some w.heap.size), .map (some (w.heap.size + 1)), .int .i64 (-1), .int .i64 0, .int .i64 0, .bool false] 50)) newS ∧ (∀ i, Ft b bi bl i → w.heap.size ≤ i) ∧ Below w.heap.size w (((w.alloc (.map #[] 0)).alloc (.map #[] 0)).alloc (.cells #[.map (some w.heap.size), .map (some (w.heap.size + 1)), .int .i64 (-1), .int .i64 0, .int .i64 0, .bool false] 50)) from
    ⟨_, _, _, rfl, hI, fun i hi => by rcases hi with rfl | rfl | rfl <;> omega, b3⟩)
  clear hI b1 b2 b3
  go_enter Try.func11, Try.ntmps11
  go_wp2
  go_ret
  exact HE.out
end Go.Proofs.Ytdpnmdnfnplcfaa.Dk

namespace Go.Proofs.Ytdpnmdnfnplcfaa.Dk
open Go.RowKit Tx Pm
set_option linter.unusedVariables false
end Go.Proofs.Ytdpnmdnfnplcfaa.Dk

namespace Go.Proofs.Ytdpnmdnfnplcfaa.Fr
open Go.RowKit Wm Wr Fm
set_option linter.unusedVariables false
end Go.Proofs.Ytdpnmdnfnplcfaa.Fr

namespace Go.Proofs.Ytdpnmdnfnplcfaa.Dk
open Go.RowKit Tx Pm Pl Pr
set_option linter.unusedVariables false
structure SoundW (s : St) : Prop where
  rises : Rises s.L
  kept : ∀ x ∈ s.L, x.anew = false → x.kept.size ≤ x.data.size
  size : ∀ x ∈ s.L, x.data.size ≤ 1000000000000000000 ∧ x.kept.size ≤ 1000000000000000000
  stamps : s.stamps + s.L.length ≤ 1000000000000
end Go.Proofs.Ytdpnmdnfnplcfaa.Dk

namespace Go.Proofs.Ytdpnmdnfnplcfaa.Dk
open Go.RowKit Tx Pm Pl Pr
set_option linter.unusedVariables false
end Go.Proofs.Ytdpnmdnfnplcfaa.Dk

namespace Go.Proofs.Ytdpnmdnfnplcfaa.En
open Go.RowKit Tx
set_option linter.unusedVariables false
structure Nd where
  kind : Int
  data : ByteArray
structure Et where
  path : ByteArray
  node : Nd
def nv (n : Nd) : Value := .agg #[.int .i64 n.kind, .string n.data]
def cells (x : Et) : List Value := [.string x.path, .int .i64 x.node.kind, .string x.node.data]
def isInt (k : Int) : Prop := -9223372036854775808 ≤ k ∧ k ≤ 9223372036854775807
def Ents (w : World) (a : Option Addr) (n : Nat) (l : List Et) : Prop := l.length = n ∧ (n = 0 ∨ ∃ b off, a = some ⟨b, off, none⟩ ∧ b < w.heap.size ∧ ∀ k x, l[k]? = some x → w.cell? ⟨b, off + k * 3, none⟩ = some (.string x.path) ∧ w.cell? ⟨b, off + k * 3 + 1, none⟩ = some (.int .i64 x.node.kind) ∧ w.cell? ⟨b, off + k * 3 + 1 + 1, none⟩ = some (.string x.node.data))
theorem Ents.below {w w1 : World} {a : Option Addr} {n : Nat} {l : List Et} (h : Ents w a n l) (hb : Below w.heap.size w w1) : Ents w1 a n l := by
  refine ⟨h.1, ?_⟩
  rcases h.2 with h0 | ⟨b, off, ha, hlt, hc⟩
  · exact .inl h0
  · exact .inr ⟨b, off, ha, Nat.lt_of_lt_of_le hlt hb.size, fun k x hx => ⟨(hb.cell (p := ⟨b, _, none⟩) hlt).trans (hc k x hx).1, (hb.cell (p := ⟨b, _, none⟩) hlt).trans (hc k x hx).2.1, (hb.cell (p := ⟨b, _, none⟩) hlt).trans (hc k x hx).2.2⟩⟩
theorem sz_zero (d : ByteArray) : ((d.size : Int) == 0) = decide (d.size = 0) := by
  by_cases h : d.size = 0
  · rw [decide_eq_true h, h]; rfl
  · rw [decide_eq_false h]
    exact beq_eq_false_iff_ne.2 (by omega)
def whole (n : Nd) : Bool := if n.kind = 2 then decide (n.data.size ≤ 4096) else (decide (n.kind = 0) || decide (n.kind = 1)) && decide (n.data.size = 0)
set_option maxRecDepth 100000 in
set_option maxHeartbeats 1000000 in
theorem refWhole_any (n : Nd) (w : World) (hs : n.data.size ≤ 9223372036854775807) :
    Calls Try.prog 15 #[nv n] w fun e w' => e = .returned (.bool (whole n)) ∧ Below w.heap.size w w' := by
  obtain ⟨k, d⟩ := n
  by_cases h2 : k = 2
  · have hw : whole ⟨k, d⟩ = decide (d.size ≤ 4096) := by unfold whole; rw [if_pos h2]
    have e2 : ((k : Int) == 2) = true := by simp [h2]
    rw [hw]
    unfold nv
    clear h2 hw
    go_enter Try.func15, Try.ntmps15
    go_wp2
    go_ret
    exact ⟨congrArg (fun b => Ending.returned (Value.bool b)) (decide_eq_decide.2 (by omega)), (Below.refl _ _).alloc (Nat.le_refl _) _⟩
  · have hw : whole ⟨k, d⟩ = ((decide (k = 0) || decide (k = 1)) && decide (d.size = 0)) := by unfold whole; rw [if_neg h2]
    have e2 : ((k : Int) == 2) = false := beq_eq_false_iff_ne.2 h2
    rw [hw]
    unfold nv
    clear hw
    by_cases h0 : k = 0
    · subst h0
      clear h2
      rw [show (decide ((0 : Int) = 0) || decide ((0 : Int) = 1)) = true from rfl, Bool.true_and, ← sz_zero d]
      go_enter Try.func15, Try.ntmps15
      go_wp2
      go_ret
      exact ⟨rfl, (Below.refl _ _).alloc (Nat.le_refl _) _⟩
    · have e0 : ((k : Int) == 0) = false := beq_eq_false_iff_ne.2 h0
      by_cases h1 : k = 1
      · subst h1
        clear h2 h0
        rw [show (decide ((1 : Int) = 0) || decide ((1 : Int) = 1)) = true from rfl, Bool.true_and, ← sz_zero d]
        go_enter Try.func15, Try.ntmps15
        go_wp2
        go_ret
        exact ⟨rfl, (Below.refl _ _).alloc (Nat.le_refl _) _⟩
      · have e1 : ((k : Int) == 1) = false := beq_eq_false_iff_ne.2 h1
        rw [decide_eq_false h0, decide_eq_false h1, Bool.or_false, Bool.false_and]
        clear h2 h0 h1
        go_enter Try.func15, Try.ntmps15
        go_wp2
        go_ret
        exact ⟨rfl, (Below.refl _ _).alloc (Nat.le_refl _) _⟩
theorem infoN : (Try.prog.info? 29).map (·.size) = some 2 := by kernel_rfl
def tget (l : List Et) (p : ByteArray) : Nd := match l.find? (fun x => decide (x.path = p)) with
  | some x => x.node
  | none => ⟨0, ⟨#[]⟩⟩
theorem tget_hit (l : List Et) (p : ByteArray) (k : Nat) (x : Et) (h : l[k]? = some x) (hp : x.path = p) (hn : ∀ y ∈ l.take k, y.path ≠ p) : tget l p = x.node := by
  induction l generalizing k with
  | nil => cases h
  | cons y l ih =>
    cases k with
    | zero =>
      injection h with h
      subst h
      rw [tget, List.find?_cons_of_pos (by exact decide_eq_true hp)]
    | succ k =>
      have hy : y.path ≠ p := hn y (by simp)
      have := ih k h (fun z hz => hn z (by rw [List.take_succ_cons]; exact List.mem_cons_of_mem _ hz))
      rw [tget] at this ⊢
      rw [List.find?_cons_of_neg (by simp [hy])]
      exact this
theorem tget_none (l : List Et) (p : ByteArray) (hn : ∀ y ∈ l, y.path ≠ p) : tget l p = ⟨0, ⟨#[]⟩⟩ := by
  rw [tget, List.find?_eq_none.2 (fun y hy => by simp [hn y hy])]
set_option maxRecDepth 100000 in
set_option maxHeartbeats 1000000 in
theorem refGet_any (a : Option Addr) (n c : Nat) (l : List Et) (p : ByteArray) (w : World) (hl : Ents w a n l) (hn : n ≤ 9223372036854775806) :
    Calls Try.prog 8 #[.slice a n c, .string p] w fun e w' => e = .returned (nv (tget l p)) ∧ Below w.heap.size w w' := by
  obtain ⟨hln, hc⟩ := hl
  by_cases h0 : n = 0
  · subst h0
    obtain rfl : l = [] := List.length_eq_zero_iff.1 hln
    clear hc
    go_enter Try.func8, Try.ntmps8
    go_wp2
    go_loop [5] (fun i => i = .int .i64 0) (fun _ => 0)
    case atStart => exact rfl
    case round =>
      obtain rfl := hrel
      go_wp2
      refine bodyPost_ret (results_cell_row rfl _ _ _ _ _ _ _ rfl (heap_alloc_new _ _) Try.underlying29 rfl infoN) rfl ?_
      exact ⟨rfl, (Below.refl _ _).alloc (Nat.le_refl _) _⟩
  · obtain ⟨b, off, rfl, hb, hc⟩ := hc.resolve_left h0
    have HC := Lib.hid hc
    have hB : ∀ o, Below w.heap.size w (w.alloc o) := fun o => (Below.refl _ _).alloc (Nat.le_refl _) _
    clear hc h0
    go_enter Try.func8, Try.ntmps8
    go_wp2
    go_loop [5] (fun i => ∃ k : Nat, k ≤ n ∧ i = .int .i64 k ∧ Hid (∀ y ∈ l.take k, y.path ≠ p)) (fun i => n - (intOf i).toNat)
    case atStart => exact ⟨0, Nat.zero_le _, rfl, fun y hy => by simp at hy⟩
    case round =>
      obtain ⟨k, hk, rfl, hT⟩ := hrel
      by_cases hlt : k < n
      · obtain ⟨x, hx⟩ : ∃ x, l[k]? = some x := ⟨_, List.getElem?_eq_getElem (by omega)⟩
        obtain ⟨c1, c2, c3⟩ := HC.out k x hx
        have d1 := ((hB (.cells #[.int .i64 0, .string ⟨#[]⟩] 29)).cell (p := ⟨b, _, none⟩) hb).trans c1
        have d2 := ((hB (.cells #[.int .i64 0, .string ⟨#[]⟩] 29)).cell (p := ⟨b, _, none⟩) hb).trans c2
        have d3 := ((hB (.cells #[.int .i64 0, .string ⟨#[]⟩] 29)).cell (p := ⟨b, _, none⟩) hb).trans c3
        have hhit := tget_hit l p k x hx
        have hmiss : x.path ≠ p → ∀ y ∈ l.take (k + 1), y.path ≠ p := by
          intro hne y hy
          have hk2 : k < l.length := by omega
          rw [List.take_succ_eq_append_getElem hk2] at hy
          rcases List.mem_append.1 hy with hy | hy
          · exact hT.out y hy
          · rw [List.getElem?_eq_getElem hk2] at hx
            injection hx with hx
            rw [List.mem_singleton.1 hy, hx]
            exact hne
        obtain ⟨P, N⟩ := x
        obtain ⟨K, D⟩ := N
        simp only at c1 c2 c3 d1 d2 d3 hhit hmiss
        by_cases hp : P = p
        · have HR := Lib.hid (hhit hp hT.out)
          have e : (P.toList == p.toList) = true := by rw [hp]; exact beq_self_eq_true _
          clear hhit hmiss hT c1 c2 c3 hx hp hln
          go_wp2
          refine bodyPost_ret (results_cell_row rfl _ _ _ _ _ _ _ rfl (heap_alloc_new _ _) Try.underlying29 rfl infoN) rfl ?_
          exact ⟨by rw [HR.out]; rfl, (Below.refl _ _).alloc (Nat.le_refl _) _⟩
        · have HM := Lib.hid (hmiss hp)
          have e := bytes_ne hp
          clear hhit hmiss hT c1 c2 c3 hx hp hln
          go_wp2
          go_round
          case rel => exact ⟨k + 1, by omega, by go_num, HM⟩
          case measure => simp [intOf]; omega
      · obtain rfl : k = n := by omega
        have h := hT.out
        rw [List.take_of_length_le (by omega)] at h
        have HR := Lib.hid (tget_none l p h)
        clear hT hln h
        go_wp2
        refine bodyPost_ret (results_cell_row rfl _ _ _ _ _ _ _ rfl (heap_alloc_new _ _) Try.underlying29 rfl infoN) rfl ?_
        exact ⟨by rw [HR.out]; rfl, (Below.refl _ _).alloc (Nat.le_refl _) _⟩
end Go.Proofs.Ytdpnmdnfnplcfaa.En

namespace Go.Proofs.Ytdpnmdnfnplcfaa.Sc
open Go.RowKit Tx Pm Dk
set_option linter.unusedVariables false
structure Keeps (s s' : St) : Prop where
  up : s.stamps ≤ s'.stamps
  items : ∀ x ∈ s'.L, (∃ y ∈ s.L, y.path = x.path ∧ y.stamp = x.stamp ∧ y.data = x.data ∧ y.dir = x.dir) ∨ (s.stamps < x.stamp ∧ x.stamp ≤ s'.stamps) ∨ (x.dir = true ∧ x.stamp = 0)
theorem Keeps.refl (s : St) : Keeps s s := ⟨Nat.le_refl _, fun x hx => .inl ⟨x, hx, rfl, rfl, rfl, rfl⟩⟩
theorem Keeps.trans {a b c : St} (h : Keeps a b) (k : Keeps b c) : Keeps a c := by
  refine ⟨Nat.le_trans h.up k.up, fun x hx => ?_⟩
  rcases k.items x hx with ⟨y, hy, e1, e2, e3, e4⟩ | ⟨h1, h2⟩ | h1
  · rcases h.items y hy with ⟨z, hz, f1, f2, f3, f4⟩ | ⟨g1, g2⟩ | ⟨g1, g2⟩
    · exact .inl ⟨z, hz, f1.trans e1, f2.trans e2, f3.trans e3, f4.trans e4⟩
    · exact .inr (.inl ⟨by omega, by have := k.up; omega⟩)
    · exact .inr (.inr ⟨by rw [← e4]; exact g1, by rw [← e2]; exact g2⟩)
  · exact .inr (.inl ⟨by have := h.up; omega, h2⟩)
  · exact .inr (.inr h1)
theorem keeps_sub {s s' : St} (h : ∀ x ∈ s'.L, x ∈ s.L) (hs : s.stamps = s'.stamps) : Keeps s s' := ⟨Nat.le_of_eq hs, fun x hx => .inl ⟨x, h x hx, rfl, rfl, rfl, rfl⟩⟩
theorem keeps_done (s : St) : Keeps s (done s).2 := keeps_sub (fun x hx => by rw [done_L] at hx; exact hx) (done_stamps s).symm
theorem keeps_ins {s s' : St} {l : List It} {x : It} (hl : ∀ y ∈ l, y ∈ s.L) (hL : s'.L = ins l x) (hs : s.stamps ≤ s'.stamps)
    (hx : (∃ y ∈ s.L, y.path = x.path ∧ y.stamp = x.stamp ∧ y.data = x.data ∧ y.dir = x.dir) ∨ (s.stamps < x.stamp ∧ x.stamp ≤ s'.stamps) ∨ (x.dir = true ∧ x.stamp = 0)) : Keeps s s' := by
  refine ⟨hs, fun y hy => ?_⟩
  rw [hL] at hy
  rcases mem_ins hy with rfl | hy
  · exact hx
  · exact .inl ⟨y, hl y hy, rfl, rfl, rfl, rfl⟩
theorem keeps_put0 {s : St} {x : It} : Keeps s (putS (done s).2 x) := by
  refine keeps_ins (l := s.L) (x := stamped (done s).2 x) (fun _ h => h) ?_ ?_ (.inr (.inl ⟨?_, ?_⟩))
  · show ins (done s).2.L _ = _
    rw [done_L]
  · show s.stamps ≤ (done s).2.stamps + 1
    rw [done_stamps]; omega
  · show s.stamps < (done s).2.stamps + 1
    rw [done_stamps]; omega
  · exact Nat.le_refl _
theorem keeps_mkdir (s : St) (p : ByteArray) : Keeps s (mkdirS s p).2 := by
  unfold mkdirS
  split
  · exact .refl s
  split
  · exact .refl s
  split
  · exact .refl s
  split
  · exact keeps_done s
  · refine keeps_ins (l := s.L) (fun _ h => h) (by show ins (done s).2.L _ = _; rw [done_L]) (by show _ ≤ (done s).2.stamps; rw [done_stamps]; omega) (.inr (.inr ⟨rfl, rfl⟩))
theorem keeps_write (s : St) (p d : ByteArray) : Keeps s (writeS s p d).2 := by
  unfold writeS
  split
  · exact .refl s
  split
  · exact .refl s
  split
  · exact .refl s
  split
  · exact .refl s
  split
  · exact keeps_done s
  · exact keeps_put0
def Stp (s : St) : Prop := ∀ x ∈ s.L, x.stamp ≤ s.stamps
theorem stp_new : Stp newS := fun x hx => by cases hx
theorem Stp.keep {s s' : St} (h : Stp s) (k : Keeps s s') : Stp s' := fun x hx => by
  rcases k.items x hx with ⟨y, hy, _, e, _, _⟩ | ⟨_, h2⟩ | ⟨_, h2⟩
  · have := h y hy
    have := k.up
    omega
  · exact h2
  · omega
structure Sn where
  path : ByteArray
  stamp : Nat
  node : En.Nd
def Good (s : St) (v : ByteArray) (seen : List Sn) : Prop := ∀ x ∈ seen, x.node.kind = 2 → x.stamp ≤ s.stamps ∧ ∀ y ∈ s.L, y.path = v ++ ⟨#[47]⟩ ++ x.path → y.stamp = x.stamp → y.dir = false → y.data = x.node.data
theorem good_none (s : St) (v : ByteArray) : Good s v [] := fun x hx => by cases hx
theorem Good.keep {s s' : St} {v : ByteArray} {seen : List Sn} (h : Good s v seen) (k : Keeps s s') : Good s' v seen := fun x hx hk => by
  obtain ⟨h1, h2⟩ := h x hx hk
  refine ⟨by have := k.up; omega, fun y hy e1 e2 e3 => ?_⟩
  rcases k.items y hy with ⟨z, hz, f1, f2, f3, f4⟩ | ⟨g1, g2⟩ | ⟨g1, g2⟩
  · rw [← f3]
    exact h2 z hz (f1.trans e1) (f2.trans e2) (f4.trans e3)
  · omega
  · rw [g1] at e3
    cases e3
def nodeOf (x : It) : En.Nd := if x.dir then ⟨1, ⟨#[]⟩⟩ else ⟨2, x.data⟩
end Go.Proofs.Ytdpnmdnfnplcfaa.Sc

namespace Go.Proofs.Ytdpnmdnfnplcfaa.En
open Go.RowKit Tx
set_option linter.unusedVariables false
theorem guardE : Try.prog.eqGuardType Try.prog.depth 42 = false := by kernel_rfl
theorem guardN : Try.prog.eqGuardType Try.prog.depth 29 = false := by kernel_rfl
theorem to_list {a b : ByteArray} : a.toList = b.toList ↔ a = b := by
  rw [ByteArray.toList_eq, ByteArray.toList_eq]
  exact ⟨fun h => ByteArray.ext (Array.toList_inj.1 h), fun h => by rw [h]⟩
theorem at_next {la lb : List Et} {k : Nat} {x : Et} (hx : la[k]? = some x) (hy : lb[k]? = some x) (h : la.take k = lb.take k) : la.take (k + 1) = lb.take (k + 1) := by
  obtain ⟨ha, ea⟩ := List.getElem?_eq_some_iff.1 hx
  obtain ⟨hb, eb⟩ := List.getElem?_eq_some_iff.1 hy
  rw [List.take_succ_eq_append_getElem ha, List.take_succ_eq_append_getElem hb, h, ea, eb]
theorem not_same {la lb : List Et} {k : Nat} {x y : Et} (hx : la[k]? = some x) (hy : lb[k]? = some y) (h : x ≠ y) : la ≠ lb := by
  rintro rfl
  rw [hx] at hy
  injection hy with hy
  exact h hy
def SameTo (la lb : List Et) (w : World) (e : Ending) (w' : World) : Prop := ∃ B, (B = true ↔ la = lb) ∧ e = .returned (.bool B) ∧ Below w.heap.size w w'
set_option maxRecDepth 100000 in
set_option maxHeartbeats 1000000 in
theorem refSame_any (a b : Option Addr) (n m ca cb : Nat) (la lb : List Et) (w : World) (ha : Ents w a n la) (hb : Ents w b m lb) (hn : n ≤ 9223372036854775806) (hm : m ≤ 9223372036854775806) :
    Calls Try.prog 10 #[.slice a n ca, .slice b m cb] w (SameTo la lb w) := by
  obtain ⟨hla, hca⟩ := ha
  obtain ⟨hlb, hcb⟩ := hb
  by_cases hnm : n = m
  · subst hnm
    have e0 : ((n : Int) == n) = true := beq_self_eq_true _
    by_cases h0 : n = 0
    · subst h0
      obtain rfl : la = [] := List.length_eq_zero_iff.1 hla
      obtain rfl : lb = [] := List.length_eq_zero_iff.1 hlb
      clear hca hcb
      go_enter Try.func10, Try.ntmps10
      go_wp2
      go_loop [5] (fun i => i = .int .i64 0) (fun _ => 0)
      case atStart => exact rfl
      case round =>
        obtain rfl := hrel
        go_wp2
        go_ret
        exact ⟨true, Iff.intro (fun _ => rfl) (fun _ => rfl), rfl, Below.refl _ _⟩
    · obtain ⟨ba, oa, rfl, hba, hca⟩ := hca.resolve_left h0
      obtain ⟨bb, ob, rfl, hbb, hcb⟩ := hcb.resolve_left h0
      have HA := Lib.hid hca
      have HB := Lib.hid hcb
      clear hca hcb h0
      go_enter Try.func10, Try.ntmps10
      go_wp2_with fail
      go_loopw [5] (fun i wr => ∃ k : Nat, k ≤ n ∧ i = .int .i64 k ∧ Hid (la.take k = lb.take k) ∧ Below w.heap.size w wr) (fun i _ => n - (intOf i).toNat)
      case atStart => exact ⟨0, Nat.zero_le _, rfl, rfl, Below.refl _ _⟩
      case round =>
        obtain ⟨k, hk, rfl, hT, hW⟩ := hrel
        by_cases hlt : k < n
        · obtain ⟨x, hx⟩ : ∃ x, la[k]? = some x := ⟨_, List.getElem?_eq_getElem (by omega)⟩
          obtain ⟨y, hy⟩ : ∃ y, lb[k]? = some y := ⟨_, List.getElem?_eq_getElem (by omega)⟩
          obtain ⟨c1, c2, c3⟩ := HA.out k x hx
          obtain ⟨d1, d2, d3⟩ := HB.out k y hy
          have f1 := (hW.cell (p := ⟨ba, _, none⟩) hba).trans c1
          have f2 := (hW.cell (p := ⟨ba, _, none⟩) hba).trans c2
          have f3 := (hW.cell (p := ⟨ba, _, none⟩) hba).trans c3
          have g1 := (hW.cell (p := ⟨bb, _, none⟩) hbb).trans d1
          have g2 := (hW.cell (p := ⟨bb, _, none⟩) hbb).trans d2
          have g3 := (hW.cell (p := ⟨bb, _, none⟩) hbb).trans d3
          have hlt1 : (k : Int) < (n : Int) := by omega
          have hgE := guardE
          clear c1 c2 c3 d1 d2 d3
          obtain ⟨P, K, D⟩ := x
          obtain ⟨P', K', D'⟩ := y
          simp only at f1 f2 f3 g1 g2 g3
          by_cases e1 : P.toList = P'.toList
          · by_cases e2 : K = K'
            · by_cases e3 : D.toList = D'.toList
              · obtain rfl := to_list.1 e1
                obtain rfl := to_list.1 e3
                subst e2
                have HN := Lib.hid (at_next hx hy hT.out)
                clear hx hy hT hla hlb e1 e3
                go_wp2_with fail
                go_quiet (fail)
                go_wp2_with fail
                go_roundw
                case rel => exact ⟨k + 1, by omega, by go_num, HN, below_drewN hW _⟩
                case measure => simp [intOf]; omega
              · have HE := Lib.hid (not_same hx hy (fun h => by injection h with h1 h2; injection h2 with h2 h3; exact e3 (to_list.2 h3)))
                clear hx hy hT hla hlb
                go_wp2_with fail
                go_quiet (fail)
                go_wp2_with fail
                go_ret
                exact ⟨false, Iff.intro (fun h => by cases h) (fun h => absurd h HE.out), rfl, below_drewN hW _⟩
            · have HE := Lib.hid (not_same hx hy (fun h => by injection h with h1 h2; injection h2 with h2 h3; exact e2 h2))
              clear hx hy hT hla hlb
              go_wp2_with fail
              go_quiet (fail)
              go_wp2_with fail
              go_ret
              exact ⟨false, Iff.intro (fun h => by cases h) (fun h => absurd h HE.out), rfl, below_drewN hW _⟩
          · have HE := Lib.hid (not_same hx hy (fun h => by injection h with h1 h2; exact e1 (to_list.2 h1)))
            clear hx hy hT hla hlb
            go_wp2_with fail
            go_quiet (fail)
            go_wp2_with fail
            go_ret
            exact ⟨false, Iff.intro (fun h => by cases h) (fun h => absurd h HE.out), rfl, below_drewN hW _⟩
        · obtain rfl : k = n := by omega
          have h := hT.out
          rw [List.take_of_length_le (by omega), List.take_of_length_le (by omega)] at h
          have HE := Lib.hid h
          clear hT h hla hlb
          go_wp2_with fail
          go_ret
          exact ⟨true, Iff.intro (fun _ => HE.out) (fun _ => rfl), rfl, hW⟩
  · have e0 : ((n : Int) == m) = false := beq_eq_false_iff_ne.2 (by omega)
    have HE : Hid (la ≠ lb) := fun h => hnm (by rw [← hla, ← hlb, h])
    clear hnm hca hcb hla hlb
    go_enter Try.func10, Try.ntmps10
    go_wp2
    go_ret
    exact ⟨false, Iff.intro (fun h => by cases h) (fun h => absurd h HE.out), rfl, Below.refl _ _⟩
end Go.Proofs.Ytdpnmdnfnplcfaa.En

namespace Go.Proofs.Ytdpnmdnfnplcfaa.En
open Go.RowKit Tx Pm Pr
set_option linter.unusedVariables false
theorem infoE : (Try.prog.info? 42).map (fun i => (i.zero, i.size, i.bytes)) = some (some (.agg #[.string ⟨#[]⟩, .int .i64 0, .string ⟨#[]⟩]), 3, 40) := by kernel_rfl
def Own (w : World) (B : Nat) (v : Value) (l : List Et) : Prop := w.ownsRow B 42 3 v l.length (l.flatMap cells)
theorem Own.below {w w1 : World} {B : Nat} {v : Value} {l : List Et} (h : Own w B v l) (hb : Below w.heap.size w w1) : Own w1 B v l := by
  refine ⟨h.1, ?_⟩
  rcases h.2 with h0 | ⟨g', cap', cur, hv, hg, hh, r⟩
  · exact .inl h0
  · exact .inr ⟨g', cap', cur, hv, hg, (hb.block g' (Array.getElem?_eq_some_iff.1 hh).1).trans hh, r⟩
theorem cell_three_new (w : World) (a b c : Value) (t : TypeId) : ∀ j u, [a, b, c][j]? = some u → (w.alloc (.cells #[a, b, c] t)).cell? ((⟨w.heap.size, 0, none⟩ : Addr).add j) = some u := by
  intro j u hj
  match j, hj with
  | 0, hj => simp at hj; subst hj; simp [Addr.add]
  | 1, hj => simp at hj; subst hj; simp [Addr.add]
  | 2, hj => simp at hj; subst hj; simp [Addr.add]
  | j + 3, hj => simp at hj
theorem cells_one (x : Et) : ∀ u ∈ cells x, u.oneCell' = true := by
  intro u hu
  simp [cells] at hu
  rcases hu with rfl | rfl | rfl <;> rfl
theorem flat_at : ∀ (l : List Et) (k : Nat) (x : Et) (j : Nat), l[k]? = some x → j < 3 → (l.flatMap cells)[k * 3 + j]? = (cells x)[j]?
  | [], k, x, j, h, _ => by cases h
  | y :: l, 0, x, j, h, hj => by
    injection h with h
    subst h
    rw [List.flatMap_cons, List.getElem?_append_left (by rw [Nat.zero_mul, Nat.zero_add]; exact hj), Nat.zero_mul, Nat.zero_add]
  | y :: l, k + 1, x, j, h, hj => by
    have e : (k + 1) * 3 + j = (cells y).length + (k * 3 + j) := by
      show _ = 3 + _
      omega
    rw [List.flatMap_cons, e, List.getElem?_append_right (by omega), Nat.add_sub_cancel_left]
    exact flat_at l k x j h hj
theorem Own.form {w : World} {B : Nat} {v : Value} {l : List Et} (h : Own w B v l) : ∃ a c, v = .slice a l.length c ∧ Ents w a l.length l ∧ l.length ≤ c ∧ c ≤ maxLen := by
  have hh := h
  rcases h.2 with ⟨rfl, h0⟩ | ⟨g, cap, cur, rfl, hg, hh2, hn, hc, _⟩
  · exact ⟨none, 0, by rw [h0], ⟨rfl, .inl h0⟩, by omega, Nat.zero_le _⟩
  · refine ⟨some ⟨g, 0, none⟩, cap, rfl, ⟨rfl, .inr ⟨g, 0, rfl, (Array.getElem?_eq_some_iff.1 hh2).1, fun k x hx => ?_⟩⟩, hn, hc⟩
    have h1 := hh.cells (g := g) rfl (k * 3 + 0) (.string x.path) (flat_at l k x 0 hx (by omega))
    have h2 := hh.cells (g := g) rfl (k * 3 + 1) (.int .i64 x.node.kind) (flat_at l k x 1 hx (by omega))
    have h3 := hh.cells (g := g) rfl (k * 3 + 2) (.string x.node.data) (flat_at l k x 2 hx (by omega))
    rw [WideShapes.add_plain] at h1 h2 h3
    exact ⟨h1, h2, h3⟩
end Go.Proofs.Ytdpnmdnfnplcfaa.En

namespace Go.Proofs.Ytdpnmdnfnplcfaa.Sc
open Go.RowKit Tx Pm Pr Dk
set_option linter.unusedVariables false
def tl (v p : ByteArray) : ByteArray := p.extract (v.size + 1) p.size
def inV (v : ByteArray) (x : It) : Bool := und x.path.data.toList v.data.toList && !decide (x.path = v)
def entS (L : List It) (v : ByteArray) : List En.Et := (L.filter (inV v)).map fun x => ⟨tl v x.path, nodeOf x⟩
def err15 (s : St) (v : ByteArray) : Nat := if chk v.data.toList 1 ≠ 0 then 10 else if s.down then 14 else if kind s.L v ≠ 1 then 11 else 0
def wkS (s : St) (v : ByteArray) : List En.Et × Nat := if err15 s v ≠ 0 then ([], err15 s v) else (entS s.L v, 0)
def snOf (s : St) (v : ByteArray) (e : En.Et) : Sn := ⟨e.path, stampS s (v ++ ⟨#[47]⟩ ++ e.path), e.node⟩
def snS (s : St) (v : ByteArray) : List Sn := (wkS s v).1.map (snOf s v)
def known (seen : List Sn) (x : Sn) : Bool := decide (x.node.kind = 1) || seen.any fun y => decide (y.path = x.path) && decide (y.stamp = x.stamp) && decide (y.node.kind = 2)
def rdS (s : St) (v : ByteArray) (seen : List Sn) : Nat := ((snS s v).filter fun x => !known seen x).length
theorem inV_long {v : ByteArray} {x : It} (h0 : v ≠ ⟨#[]⟩) (h : inV v x = true) : v.size + 1 ≤ x.path.size ∧ x.path = v ++ ⟨#[47]⟩ ++ tl v x.path := by
  unfold inV at h
  rw [Bool.and_eq_true] at h
  obtain ⟨h1, h2⟩ := h
  have hne : x.path ≠ v := fun e => by rw [e] at h2; simp at h2
  rw [und_eq h0 hne, List.isPrefixOf_iff_prefix] at h1
  obtain ⟨r, hr⟩ := h1
  have hl := congrArg List.length hr
  simp only [List.length_append, List.length_singleton, len_l] at hl
  refine ⟨by omega, ?_⟩
  apply ByteArray.ext
  apply Array.toList_inj.1
  rw [ByteArray.data_append, ByteArray.data_append, Array.toList_append, Array.toList_append]
  unfold tl
  rw [ByteArray.data_extract, Array.toList_extract, List.extract_eq_take_drop, ← hr]
  have e1 : (v.data.toList ++ [47] ++ r).drop (v.size + 1) = r := by
    rw [List.drop_left' (by simp only [List.length_append, List.length_singleton, len_l])]
  rw [e1, List.take_of_length_le (by omega)]
theorem infoS : (Try.prog.info? 67).map (fun i => (i.zero, i.size, i.bytes)) = some (some (.agg #[.string ⟨#[]⟩, .int .i64 0, .int .i64 0, .string ⟨#[]⟩]), 4, 48) := by kernel_rfl
def cellsN (x : Sn) : List Value := [.string x.path, .int .i64 (x.stamp : Int), .int .i64 x.node.kind, .string x.node.data]
theorem cellsN_one (x : Sn) : ∀ u ∈ cellsN x, u.oneCell' = true := by
  intro u hu
  simp only [cellsN, List.mem_cons, List.not_mem_nil, or_false] at hu
  rcases hu with rfl | rfl | rfl | rfl <;> rfl
def OwnN (w : World) (B : Nat) (v : Value) (l : List Sn) : Prop := w.ownsRow B 67 4 v l.length (l.flatMap cellsN)
theorem OwnN.below {w w1 : World} {B : Nat} {v : Value} {l : List Sn} (h : OwnN w B v l) (hb : Below w.heap.size w w1) : OwnN w1 B v l := by
  refine ⟨h.1, ?_⟩
  rcases h.2 with h0 | ⟨g', cap', cur, hv, hg, hh, r⟩
  · exact .inl h0
  · exact .inr ⟨g', cap', cur, hv, hg, (hb.block g' (Array.getElem?_eq_some_iff.1 hh).1).trans hh, r⟩
def Sns (w : World) (a : Option Addr) (n : Nat) (l : List Sn) : Prop := l.length = n ∧ (n = 0 ∨ ∃ b off, a = some ⟨b, off, none⟩ ∧ b < w.heap.size ∧ ∀ (k : Nat) x, l[k]? = some x →
  w.cell? ⟨b, off + k * 4, none⟩ = some (.string x.path) ∧ w.cell? ⟨b, off + k * 4 + 1, none⟩ = some (.int .i64 (x.stamp : Int)) ∧ w.cell? ⟨b, off + k * 4 + 2, none⟩ = some (.int .i64 x.node.kind) ∧ w.cell? ⟨b, off + k * 4 + 3, none⟩ = some (.string x.node.data))
theorem Sns.below {w w1 : World} {a : Option Addr} {n : Nat} {l : List Sn} (h : Sns w a n l) (hb : Below w.heap.size w w1) : Sns w1 a n l := by
  refine ⟨h.1, ?_⟩
  rcases h.2 with h0 | ⟨b, off, ha, hlt, hc⟩
  · exact .inl h0
  · refine .inr ⟨b, off, ha, Nat.lt_of_lt_of_le hlt hb.size, fun k x hx => ?_⟩
    obtain ⟨c0, c1, c2, c3⟩ := hc k x hx
    exact ⟨(hb.cell (p := ⟨b, _, none⟩) hlt).trans c0, (hb.cell (p := ⟨b, _, none⟩) hlt).trans c1, (hb.cell (p := ⟨b, _, none⟩) hlt).trans c2, (hb.cell (p := ⟨b, _, none⟩) hlt).trans c3⟩
theorem sns_nil (w : World) (a : Option Addr) : Sns w a 0 [] := ⟨rfl, .inl rfl⟩
theorem flatN_at (l : List Sn) (k : Nat) (x : Sn) (h : l[k]? = some x) (j : Nat) (u : Value) (hj : (cellsN x)[j]? = some u) : (l.flatMap cellsN)[k * 4 + j]? = some u := by
  induction l generalizing k with
  | nil => cases h
  | cons y l ih =>
    rw [List.flatMap_cons]
    cases k with
    | zero =>
      injection h with h
      subst h
      have hlt : j < (cellsN y).length := (List.getElem?_eq_some_iff.1 hj).1
      rw [Nat.zero_mul, Nat.zero_add, List.getElem?_append_left hlt]
      exact hj
    | succ k =>
      have e : (cellsN y).length = 4 := rfl
      rw [List.getElem?_append_right (by omega), e, show (k + 1) * 4 + j - 4 = k * 4 + j by omega]
      exact ih k h
theorem OwnN.form {w : World} {B : Nat} {v : Value} {l : List Sn} (h : OwnN w B v l) : ∃ a c, v = .slice a l.length c ∧ Sns w a l.length l ∧ l.length ≤ c := by
  have hh := h
  rcases h.2 with ⟨rfl, h0⟩ | ⟨g, cap, cur, rfl, hg, hh2, hn, hc, _⟩
  · exact ⟨none, 0, by rw [h0], ⟨rfl, .inl h0⟩, by omega⟩
  · refine ⟨some ⟨g, 0, none⟩, cap, rfl, ⟨rfl, .inr ⟨g, 0, rfl, (Array.getElem?_eq_some_iff.1 hh2).1, fun k x hx => ?_⟩⟩, hn⟩
    have key : ∀ j u, (cellsN x)[j]? = some u → w.cell? ⟨g, 0 + k * 4 + j, none⟩ = some u := fun j u hj => by
      have e := World.ownsRow.cells (g := g) hh rfl _ _ (flatN_at l k x hx j u hj)
      rw [WideShapes.add_plain, ← Nat.add_assoc] at e
      exact e
    exact ⟨key 0 _ rfl, key 1 _ rfl, key 2 _ rfl, key 3 _ rfl⟩
theorem own_nilE (w : World) (B : Nat) : En.Own w B (.slice none 0 0) [] := World.ownsRow_nil _ _ _ _
theorem own_nilN (w : World) (B : Nat) : OwnN w B (.slice none 0 0) [] := World.ownsRow_nil _ _ _ _
theorem cell_four (w : World) (a b c d : Value) (e : TypeId) : ∀ (j : Nat) u, [a, b, c, d][j]? = some u → (w.alloc (.cells #[a, b, c, d] e)).cell? ((⟨w.heap.size, 0, none⟩ : Addr).add j) = some u := by
  intro j u hj
  match j, hj with
  | 0, hj => simp at hj; subst hj; simp [Addr.add]
  | 1, hj => simp at hj; subst hj; simp [Addr.add]
  | 2, hj => simp at hj; subst hj; simp [Addr.add]
  | 3, hj => simp at hj; subst hj; simp [Addr.add]
  | j + 4, hj => simp at hj
end Go.Proofs.Ytdpnmdnfnplcfaa.Sc

namespace Go.Proofs.Ytdpnmdnfnplcfaa.Rg
open Go.RowKit
set_option linter.unusedVariables false
section
variable {P : Program} {S : World → Prop}
end
section
variable {P : Program} {ops : Array Oper} {R : Act → World → Prop} {S : World → Prop}
end
end Go.Proofs.Ytdpnmdnfnplcfaa.Rg

namespace Go.Proofs.Ytdpnmdnfnplcfaa.Rg
open Go.RowKit
set_option linter.unusedVariables false
set_option linter.unusedSimpArgs false
set_option linter.unnecessarySimpa false
section
variable {P : Program} {ops : Array Oper} {R : Act → World → Prop} {S : World → Prop}
end
end Go.Proofs.Ytdpnmdnfnplcfaa.Rg



namespace Go.Proofs.Ytdpnmdnfnplcfaa.Sc
open Go.RowKit Tx Pm Dk
set_option linter.unusedVariables false
end Go.Proofs.Ytdpnmdnfnplcfaa.Sc



namespace Go.Proofs.Ytdpnmdnfnplcfaa.Pm
set_option linter.unusedVariables false
theorem spl_app (a b : List UInt8) : spl (a ++ 47 :: b) = spl a ++ spl b := by
  induction a with
  | nil => rw [List.nil_append]; exact if_pos rfl
  | cons c r ih =>
    rw [List.cons_append, spl, spl, ih]
    split
    · rfl
    · cases h : spl r with
      | nil => exact absurd h (spl_ne r)
      | cons x xs => rfl
theorem spl_one {l : List UInt8} (h : lastN l = 0) : spl l = [l] := by
  induction l with
  | nil => rfl
  | cons c r ih =>
    rw [lastN] at h
    split at h
    · rename_i h0
      split at h
      · cases h
      · rename_i hc
        rw [spl, if_neg hc, ih h0]
    · cases h
theorem cut_last {l : List UInt8} {k : Nat} (h : lastN l = k + 1) : l = l.take k ++ 47 :: l.drop (k + 1) := by
  induction l generalizing k with
  | nil => cases h
  | cons c r ih =>
    rw [lastN] at h
    split at h
    · split at h
      · rename_i hc
        obtain rfl : k = 0 := by omega
        rw [hc]
        rfl
      · cases h
    · rename_i h0
      obtain ⟨k', rfl⟩ : ∃ k', k = k' + 1 := ⟨k - 1, by omega⟩
      have := ih (k := k') (by omega)
      rw [List.take_succ_cons, List.drop_succ_cons, List.cons_append, ← this]
theorem par_bas (l : List UInt8) : (lastN l = 0 ∧ par l = [] ∧ bas l = l) ∨ (l = par l ++ 47 :: bas l) := by
  by_cases h : lastN l = 0
  · left
    rw [par, bas, h]
    exact ⟨rfl, rfl, rfl⟩
  · right
    obtain ⟨k, hk⟩ : ∃ k, lastN l = k + 1 := ⟨lastN l - 1, by omega⟩
    have := cut_last hk
    rw [par, bas, hk, Nat.add_sub_cancel]
    exact this
def good (l : List UInt8) : Prop := (spl l).all isName = true
theorem ok_of {l : List UInt8} {d : Int} (h : chk l d = 0) : ((spl l).length : Int) ≤ d ∧ good l := by
  rw [chk] at h
  split at h
  · rename_i hp
    rw [isPath, Bool.and_eq_true] at hp
    exact ⟨of_decide_eq_true hp.1, hp.2⟩
  · cases h
theorem chk_two (l : List UInt8) (d : Int) : chk l d = 0 ∨ chk l d = 10 := by
  rw [chk]
  split
  · exact .inl rfl
  · exact .inr rfl
theorem good_ne {l : List UInt8} (h : good l) : l ≠ [] := by
  rintro rfl
  exact absurd (show (spl []).all isName = true from h) (by decide)
theorem spl_pos (l : List UInt8) : 0 < (spl l).length := List.length_pos_iff.2 (spl_ne l)
theorem und_below (a b : List UInt8) : und (a ++ 47 :: b) a = true := by
  have : (a ++ [47]).isPrefixOf (a ++ 47 :: b) = true := by
    rw [List.isPrefixOf_iff_prefix]
    exact ⟨b, by simp⟩
  rw [und, this, Bool.or_true]
theorem par_len (l : List UInt8) : (par l).length ≤ l.length := by rw [par, List.length_take]; omega
theorem less_irr (a : List UInt8) : Op.bytesLess a a = false := by
  induction a with
  | nil => rfl
  | cons x a ih => rw [Op.bytesLess, ih]; simp
theorem less_asymm : ∀ (a b : List UInt8), Op.bytesLess a b = true → Op.bytesLess b a = false
  | [], [], _ => rfl
  | [], _ :: _, _ => by rw [Op.bytesLess]
  | _ :: _, [], h => by rw [Op.bytesLess] at h; cases h
  | x :: a, y :: b, h => by
    have ih := less_asymm a b
    rw [Op.bytesLess] at h ⊢
    by_cases h1 : x < y
    · have h2 : ¬ y < x := by rw [UInt8.lt_iff_toNat_lt] at h1 ⊢; omega
      have h3 : ¬ y = x := by rintro rfl; rw [UInt8.lt_iff_toNat_lt] at h1; omega
      simp [h2, h3]
    · by_cases h2 : x = y
      · subst h2
        simp at h ⊢
        exact ih h
      · simp [h1, h2] at h
theorem letters {l : List UInt8} (h : ∀ x ∈ spl l, x.all okC = true) : ∀ c ∈ l, okC c = true ∨ c = 47 := by
  induction l with
  | nil => intro c hc; cases hc
  | cons d r ih =>
    intro c hc
    by_cases hd : d = 47
    · rw [spl, if_pos hd] at h
      rcases List.mem_cons.1 hc with rfl | hc
      · exact .inr hd
      · exact ih (fun x hx => h x (List.mem_cons_of_mem _ hx)) c hc
    · rw [spl, if_neg hd] at h
      cases hs : spl r with
      | nil => exact absurd hs (spl_ne r)
      | cons x xs =>
        rw [hs] at h ih
        have h0 := h (d :: x) (List.mem_cons_self ..)
        rw [List.all_cons, Bool.and_eq_true] at h0
        rcases List.mem_cons.1 hc with rfl | hc
        · exact .inl h0.1
        · refine ih (fun y hy => ?_) c hc
          rcases List.mem_cons.1 hy with rfl | hy
          · exact h0.2
          · exact h y (List.mem_cons_of_mem _ hy)
theorem good_letters {l : List UInt8} (h : good l) : ∀ c ∈ l, okC c = true ∨ c = 47 := by
  apply letters
  intro x hx
  unfold good at h
  have := List.all_eq_true.1 h x hx
  rw [isName, Bool.and_eq_true] at this
  exact this.2
theorem above {c : UInt8} (h : okC c = true) : (47 : UInt8) < c := by
  rw [UInt8.lt_iff_toNat_lt]
  show 47 < c.toNat
  simp [okC] at h
  omega
theorem sorts : ∀ (t o b : List UInt8), (∀ c ∈ o, okC c = true ∨ c = 47) → o ≠ t → (t ++ [47]).isPrefixOf o = false → Op.bytesLess o t = true ∨ Op.bytesLess (t ++ 47 :: b) o = true
  | [], [], b, _, hne, _ => absurd rfl hne
  | [], c :: r, b, hl, _, hp => by
    right
    have hc : c ≠ 47 := by
      rintro rfl
      simp at hp
    have := above ((hl c (List.mem_cons_self ..)).resolve_right hc)
    rw [List.nil_append, Op.bytesLess]
    simp [this]
  | x :: t, [], b, _, _, _ => .inl rfl
  | x :: t, c :: r, b, hl, hne, hp => by
    rw [List.cons_append, Op.bytesLess, Op.bytesLess]
    by_cases h1 : c < x
    · left; simp [h1]
    · by_cases h2 : c = x
      · subst h2
        have := sorts t r b (fun d hd => hl d (List.mem_cons_of_mem _ hd)) (fun e => hne (by rw [e])) (by simpa using hp)
        simpa using this
      · right
        have : x < c := by
          rw [UInt8.lt_iff_toNat_lt] at h1 ⊢
          have : c.toNat ≠ x.toNat := fun e => h2 (UInt8.toNat_inj.1 e)
          omega
        simp [this]
theorem und_split {o t : List UInt8} (h : und o t = false) : o ≠ t ∧ (t ++ [47]).isPrefixOf o = false := by
  rw [und, Bool.or_eq_false_iff, Bool.or_eq_false_iff] at h
  exact ⟨of_decide_eq_false h.1.2, h.2⟩
theorem order {t o b : List UInt8} (ho : good o) (h : und o t = false) : Op.bytesLess o t = true ∨ (Op.bytesLess o (t ++ 47 :: b) = false ∧ o ≠ t ++ 47 :: b) := by
  obtain ⟨h1, h2⟩ := und_split h
  rcases sorts t o b (good_letters ho) h1 h2 with h3 | h3
  · exact .inl h3
  · refine .inr ⟨less_asymm _ _ h3, ?_⟩
    rintro rfl
    rw [less_irr] at h3
    cases h3
end Go.Proofs.Ytdpnmdnfnplcfaa.Pm

namespace Go.Proofs.Ytdpnmdnfnplcfaa.Sc
open Go.RowKit Tx Pm Pr Dk
set_option linter.unusedVariables false
theorem vol_name {v : ByteArray} (h : chk v.data.toList 1 = 0) : v ≠ ⟨#[]⟩ := by
  rintro rfl
  exact absurd h (by decide)
theorem cut_text (p : ByteArray) (m : Nat) (h : m ≤ p.size) (W : World) : (Instr.sliceAt 9 (.string p) (some (.int .i64 (m : Int))) none none).run Try.prog W = .ok (.string (p.extract m p.size)) W := by
  rw [run_sliceAt_string _ _ _ _ _ _ (by kernel_rfl), run_slice_string_from_if _ _ _ _ _ (by kernel_rfl), if_pos (by omega)]
  rfl
theorem own_low {w : World} {e : TypeId} {B B2 size n : Nat} {v : Value} {xs : List Value} (h : w.ownsRow B e size v n xs) (hb : B2 ≤ B) : w.ownsRow B2 e size v n xs := by
  refine ⟨h.1, ?_⟩
  rcases h.2 with h0 | ⟨g', cap', cur, hv, hg, r⟩
  · exact .inl h0
  · exact .inr ⟨g', cap', cur, hv, Nat.le_trans hb hg, r⟩
end Go.Proofs.Ytdpnmdnfnplcfaa.Sc

namespace Go.Proofs.Ytdpnmdnfnplcfaa.Sc
open Go.RowKit Tx Pm Pr Dk
set_option linter.unusedVariables false
end Go.Proofs.Ytdpnmdnfnplcfaa.Sc

namespace Go.Proofs.Ytdpnmdnfnplcfaa.Sc
open Go.RowKit Tx Pm Pr Dk
set_option linter.unusedVariables false
end Go.Proofs.Ytdpnmdnfnplcfaa.Sc

namespace Go.Proofs.Ytdpnmdnfnplcfaa.Sc
open Go.RowKit Tx Pm Pr Dk
set_option linter.unusedVariables false
def WkA (r : List En.Et × Nat) (w : World) (e : Ending) (w' : World) : Prop := ∃ v, e = .returned (.tuple #[v, .int .i64 (r.2 : Int)]) ∧ En.Own w' w.heap.size v r.1 ∧ Below w.heap.size w w'
structure Mini (O : Nat → World → (Nat → Prop) → St → Prop) : Prop where
  new : ∀ w, Calls Try.prog 11 #[] w fun e w' => ∃ b F, e = .returned (.pointer (some ⟨b, 0, none⟩)) ∧ O b w' F newS ∧ (∀ i, F i → w.heap.size ≤ i) ∧ Below w.heap.size w w'
  mkdir : ∀ b {w F s i T} (P : ByteArray), O b w F s → Far s i T → P.size ≤ 1048576 → Calls Try.prog 12 #[.pointer (some ⟨b, 0, none⟩), .string P] w (Does (O b) w F (mkdirS s P))
  write : ∀ b {w F s i T} (P : ByteArray) (Q : ByteArray), O b w F s → Far s i T → P.size ≤ 1048576 → Q.size ≤ 1048576 → Calls Try.prog 13 #[.pointer (some ⟨b, 0, none⟩), .string P, .string Q] w (Does (O b) w F (writeS s P Q))
  walk : ∀ b {w F s i T} (V : ByteArray), O b w F s → Far s i T → V.size ≤ 1048576 → Calls Try.prog 14 #[.pointer (some ⟨b, 0, none⟩), .string V] w (WkA (wkS s V) w)
theorem below_chg {w w1 : World} {F : Nat → Prop} {B : Nat} (hc : Chg F w w1) (hF : ∀ i, F i → B ≤ i) (hB : B ≤ w.heap.size) : Below B w w1 :=
  ⟨hc.os, hc.tape, hc.output, hc.size, fun k hk => hc.block k (by omega) (fun h => by have := hF k h; omega)⟩
theorem left_own {O : World → (Nat → Prop) → St → Prop} {w0 w w1 : World} {F : Nat → Prop} {s : St} (h : Dk.Left O w F s w1) (hF : ∀ i, F i → w0.heap.size ≤ i) (hb : Below w0.heap.size w0 w) : ∃ F', O w1 F' s ∧ (∀ i, F' i → w0.heap.size ≤ i) ∧ Below w0.heap.size w0 w1 := by
  obtain ⟨F', h1, h2, h3⟩ := h
  have hs := hb.size
  exact ⟨F', h1, fun i hi => by
    rcases h3 i hi with hh | hh
    · exact hF i hh
    · omega, hb.trans (below_chg h2 hF hs)⟩
def pH : ByteArray := ⟨#[104, 117, 98]⟩
def pHA : ByteArray := ⟨#[104, 117, 98, 47, 97]⟩
def pHAX : ByteArray := ⟨#[104, 117, 98, 47, 97, 47, 120]⟩
def tHi : ByteArray := ⟨#[104, 105]⟩
def b1S : St := (mkdirS newS pH).2
def b2S : St := (mkdirS b1S pHA).2
def b3S : St := (writeS b2S pHAX tHi).2
theorem b1_ok : (mkdirS newS pH).1 = 0 := by decide +kernel
theorem b2_ok : (mkdirS b1S pHA).1 = 0 := by decide +kernel
theorem b3_ok : (writeS b2S pHAX tHi).1 = 0 := by decide +kernel
theorem b3_walk : wkS b3S pH = ([⟨⟨#[97]⟩, ⟨1, ⟨#[]⟩⟩⟩, ⟨⟨#[97, 47, 120]⟩, ⟨2, tHi⟩⟩], 0) := by kernel_rfl
theorem farb1 : Far b1S 1 (1 * 1048576) := far_new.step (K := 1) (M := 0) (P := pH) (Q := ⟨#[]⟩) (by omega) (by decide) (by decide) (by omega)
theorem farb2 : Far b2S 2 (2 * 1048576) := farb1.step (K := 1) (M := 0) (P := pHA) (Q := ⟨#[]⟩) (by omega) (by decide) (by decide) (by omega)
theorem farb3 : Far b3S 3 (3 * 1048576) := farb2.step (K := 2) (M := 0) (P := pHAX) (Q := tHi) (by omega) (by decide) (by decide) (by omega)
set_option maxRecDepth 100000 in
set_option maxHeartbeats 4000000 in
theorem awake_mini {O : Nat → World → (Nat → Prop) → St → Prop} (hI : Mini O) (w : World) :
    Calls Try.prog 4 #[] w fun e w' => e = .returned (.bool true) ∧ Below w.heap.size w w' := by
  have cn := hI.new
  have c1 : ∀ b {W F}, O b W F newS → Calls Try.prog 12 #[.pointer (some ⟨b, 0, none⟩), .string ⟨#[104, 117, 98]⟩] W fun e w' => e = .returned (.int .i64 0) ∧ Dk.Left (O b) W F b1S w' := fun b W F h => by
    have := hI.mkdir b pH h far_new (by decide)
    unfold Does at this
    rw [b1_ok] at this
    exact this
  have c2 : ∀ b {W F}, O b W F b1S → Calls Try.prog 12 #[.pointer (some ⟨b, 0, none⟩), .string ⟨#[104, 117, 98, 47, 97]⟩] W fun e w' => e = .returned (.int .i64 0) ∧ Dk.Left (O b) W F b2S w' := fun b W F h => by
    have := hI.mkdir b pHA h farb1 (by decide)
    unfold Does at this
    rw [b2_ok] at this
    exact this
  have c3 : ∀ b {W F}, O b W F b2S → Calls Try.prog 13 #[.pointer (some ⟨b, 0, none⟩), .string ⟨#[104, 117, 98, 47, 97, 47, 120]⟩, .string ⟨#[104, 105]⟩] W fun e w' => e = .returned (.int .i64 0) ∧ Dk.Left (O b) W F b3S w' := fun b W F h => by
    have := hI.write b pHAX tHi h farb2 (by decide) (by decide)
    unfold Does at this
    rw [b3_ok] at this
    exact this
  have c4 : ∀ b {W F}, O b W F b3S → Calls Try.prog 14 #[.pointer (some ⟨b, 0, none⟩), .string ⟨#[104, 117, 98]⟩] W (WkA ([⟨⟨#[97]⟩, ⟨1, ⟨#[]⟩⟩⟩, ⟨⟨#[97, 47, 120]⟩, ⟨2, tHi⟩⟩], 0) W) := fun b W F h => by
    have := hI.walk b pH h farb3 (by decide)
    rw [b3_walk] at this
    exact this
  have hG := En.guardE
  have hG2 := En.guardN
  unfold WkA at c4
  clear hI
  go_enter Try.func4, Try.ntmps4
  go_wp2_with fail
  go_at_call 11
  refine (cn _).mono ?_
  rintro e w1 ⟨b, F1, rfl, o1, hF1, hb1⟩
  go_wp2_with fail
  go_at_call 12
  refine (c1 b o1).mono ?_
  rintro e w2 ⟨rfl, hl⟩
  obtain ⟨F2, o2, hF2, hb2⟩ := left_own hl hF1 hb1
  clear hl
  go_wp2_with fail
  go_at_call 12
  refine (c2 b o2).mono ?_
  rintro e w3 ⟨rfl, hl⟩
  obtain ⟨F3, o3, hF3, hb3⟩ := left_own hl hF2 hb2
  clear hl
  go_wp2_with fail
  go_at_call 13
  refine (c3 b o3).mono ?_
  rintro e w4 ⟨rfl, hl⟩
  obtain ⟨F4, o4, hF4, hb4⟩ := left_own hl hF3 hb3
  clear hl o1 o2 o3 hF1 hF2 hF3 hb1 hb2 hb3
  go_wp2_with fail
  go_at_call 14
  refine (c4 b o4).mono ?_
  rintro e w5 ⟨v, rfl, hv, hb5⟩
  obtain ⟨a, c, rfl, hE, _, _⟩ := hv.form
  obtain ⟨g, off, ha, hg, hc⟩ := hE.2.resolve_left (by decide)
  cases ha
  obtain ⟨x0, x1, x2⟩ := hc 1 _ rfl
  rw [show off + 1 * 3 = off + 3 by omega] at x0 x1 x2
  have hb6 := below_call hb4 hb5
  clear hv hE hc o4 hF4 hb4 hb5 cn c1 c2 c3 c4
  unfold tHi at x2
  simp only at x0 x1 x2
  go_wp2_with fail
  go_ret
  exact ⟨rfl, hb6⟩
end Go.Proofs.Ytdpnmdnfnplcfaa.Sc

namespace Go.Proofs.Ytdpnmdnfnplcfaa.Sc
open Go.RowKit Tx Pm Pr Dk
set_option linter.unusedVariables false
def ScTo (s : St) (v : ByteArray) (seen : List Sn) (w : World) (e : Ending) (w' : World) : Prop := ∃ v1 v2, e = .returned (.tuple #[v1, v2, .int .i64 (rdS s v seen : Nat), .int .i64 ((wkS s v).2 : Nat)]) ∧ En.Own w' w.heap.size v1 (wkS s v).1 ∧ OwnN w' w.heap.size v2 (snS s v) ∧ Below w.heap.size w w'
def Szn (seen : List Sn) : Prop := ∀ x ∈ seen, x.path.size ≤ 1048576 ∧ x.stamp ≤ 1048576000
theorem szn_nil : Szn [] := fun x hx => by cases hx
end Go.Proofs.Ytdpnmdnfnplcfaa.Sc

namespace Go.Proofs.Ytdpnmdnfnplcfaa.Sc
open Go.RowKit Tx Pm Pr Dk Od
set_option linter.unusedVariables false
theorem less_irr (a : List UInt8) : Op.bytesLess a a = false := by
  induction a with
  | nil => rfl
  | cons x a ih => simp [Op.bytesLess, ih]
theorem rises_one {l : List It} (h : Rises l) : ∀ x ∈ l, ∀ y ∈ l, x.path = y.path → x = y := by
  unfold Rises at h
  induction l with
  | nil => intro x hx; cases hx
  | cons z l ih =>
    obtain ⟨h1, h2⟩ := List.pairwise_cons.1 h
    intro x hx y hy e
    rcases List.mem_cons.1 hx with ex | hx2
    · rcases List.mem_cons.1 hy with ey | hy2
      · rw [ex, ey]
      · have := h1 y hy2
        rw [← ex, e, less_irr] at this
        cases this
    · rcases List.mem_cons.1 hy with ey | hy2
      · have := h1 x hx2
        rw [← ey, e, less_irr] at this
        cases this
      · exact ih h2 x hx2 y hy2 e
theorem find_one {l : List It} (h : Rises l) {x : It} (hx : x ∈ l) : find l x.path = some x := by
  cases hf : find l x.path with
  | none =>
    have := List.find?_eq_none.1 hf x hx
    simp at this
  | some y =>
    obtain ⟨h1, h2⟩ := find_mem hf
    rw [rises_one h y h1 x hx h2]
theorem good_new {s : St} {v : ByteArray} (hr : Rises s.L) (hs : Stp s) : Good s v (snS s v) := by
  intro x hx hk
  unfold snS at hx
  obtain ⟨e, he, rfl⟩ := List.mem_map.1 hx
  unfold wkS at he
  split at he
  · cases he
  · rename_i h0
    have h1 : chk v.data.toList 1 = 0 := by
      unfold err15 at h0
      by_cases hc : chk v.data.toList 1 = 0
      · exact hc
      · rw [if_pos hc] at h0
        exact absurd h0 (by decide)
    unfold entS at he
    obtain ⟨y0, hy0, rfl⟩ := List.mem_map.1 he
    obtain ⟨hm, hin⟩ := List.mem_filter.1 hy0
    obtain ⟨_, hp⟩ := inV_long (vol_name h1) hin
    have hst : stampS s (v ++ ⟨#[47]⟩ ++ tl v y0.path) = y0.stamp := by
      rw [← hp]
      unfold stampS
      rw [find_one hr hm]
    have hkd : nodeOf y0 = ⟨2, y0.data⟩ := by
      have : (nodeOf y0).kind = 2 := hk
      unfold nodeOf at this ⊢
      split at this
      · cases this
      · rename_i hd
        rw [if_neg hd]
    refine ⟨?_, fun y hy e1 e2 e3 => ?_⟩
    · show stampS s (v ++ ⟨#[47]⟩ ++ tl v y0.path) ≤ _
      rw [hst]
      exact hs y0 hm
    · have e4 : y.path = y0.path := e1.trans hp.symm
      rw [rises_one hr y hy y0 hm e4]
      show y0.data = (nodeOf y0).data
      rw [hkd]
theorem wk_err {s : St} {v : ByteArray} (h : (wkS s v).2 ≠ 0) : (wkS s v).1 = [] ∧ snS s v = [] ∧ ∀ seen, rdS s v seen = 0 := by
  have h1 : (wkS s v).1 = [] := by
    unfold wkS at h ⊢
    split
    · rfl
    · rename_i h0
      rw [if_neg h0] at h
      exact absurd rfl h
  refine ⟨h1, by unfold snS; rw [h1]; rfl, fun seen => by unfold rdS snS; rw [h1]; rfl⟩
end Go.Proofs.Ytdpnmdnfnplcfaa.Sc

namespace Go.Proofs.Ytdpnmdnfnplcfaa.En
open Go.RowKit Tx Pm Pr
set_option linter.unusedVariables false
def okAt (l : List Et) (i : Nat) : Bool := match l[i]? with
  | none => true
  | some x => decide (chk x.path.data.toList 5 = 0) && whole x.node && !decide (x.node.kind = 0) && (decide (i = 0) || (match l[i - 1]? with | some y => Op.bytesLess y.path.toList x.path.toList | none => true)) && (decide (par x.path.data.toList = []) || decide ((tget l (tb (par x.path.data.toList))).kind = 1))
def tcheck (l : List Et) : Nat := if 200 < l.length then 4 else if (List.range l.length).all (okAt l) then 0 else 3
theorem tcheck_bad {l : List Et} {i : Nat} (hi : i < l.length) (h : okAt l i = false) (hn : l.length ≤ 200) : tcheck l = 3 := by
  rw [tcheck, if_neg (by omega), if_neg]
  intro hall
  have := List.all_eq_true.1 hall i (List.mem_range.2 hi)
  rw [h] at this
  cases this
theorem tcheck_good {l : List Et} (h : ∀ i, i < l.length → okAt l i = true) (hn : l.length ≤ 200) : tcheck l = 0 := by
  rw [tcheck, if_neg (by omega), if_pos (List.all_eq_true.2 (fun i hi => h i (List.mem_range.1 hi)))]
theorem okAt_eq {l : List Et} {i : Nat} {x : Et} (h : l[i]? = some x) : okAt l i = (decide (chk x.path.data.toList 5 = 0) && whole x.node && !decide (x.node.kind = 0) && (decide (i = 0) || (match l[i - 1]? with | some y => Op.bytesLess y.path.toList x.path.toList | none => true)) && (decide (par x.path.data.toList = []) || decide ((tget l (tb (par x.path.data.toList))).kind = 1))) := by
  rw [okAt, h]
def Small (l : List Et) : Prop := ∀ x ∈ l, x.path.size ≤ 8000000000000 ∧ x.node.data.size ≤ 8000000000000
theorem tb_ne {l : List UInt8} (h : l ≠ []) : (tb l).toList.isEmpty = false := not_empty (fun e => h (by rw [← tb_list l, e]))
theorem tb_nil {l : List UInt8} (h : l = []) : (tb l).toList.isEmpty = true := is_empty (by rw [h]; rfl)
set_option maxRecDepth 100000 in
set_option maxHeartbeats 2000000 in
theorem refCheckT_any (a : Option Addr) (n c : Nat) (l : List Et) (w : World) (hl : Ents w a n l) (hn : n ≤ 9223372036854775806) (hs : Small l) :
    Calls Try.prog 5 #[.slice a n c] w fun e w' => e = .returned (.int .i64 (tcheck l : Nat)) ∧ Below w.heap.size w w' := by
  obtain ⟨hln, hc⟩ := hl
  by_cases hbig : 200 < n
  · have e : tcheck l = 4 := by rw [tcheck, if_pos (by omega)]
    rw [e]
    clear hc e hln
    go_enter Try.func5, Try.ntmps5
    go_wp2
    go_ret
    exact ⟨rfl, Below.refl _ _⟩
  have hn2 : n ≤ 200 := by omega
  by_cases h0 : n = 0
  · subst h0
    obtain rfl : l = [] := List.length_eq_zero_iff.1 hln
    have e : tcheck [] = 0 := rfl
    rw [e]
    clear hc hs e hbig
    go_enter Try.func5, Try.ntmps5
    go_wp2
    go_loop [3] (fun i => i = .int .i64 0) (fun _ => 0)
    case atStart => exact rfl
    case round =>
      obtain rfl := hrel
      go_wp2
      go_ret
      exact ⟨rfl, Below.refl _ _⟩
  have hE : Hid (Ents w a n l) := ⟨hln, hc⟩
  obtain ⟨b, off, rfl, hb, hc⟩ := hc.resolve_left h0
  have HC := Lib.hid hc
  have HS := Lib.hid hs
  have HB := fun i => Lib.hid (fun (hi : i < l.length) (h : okAt l i = false) => tcheck_bad hi h (by omega))
  have HG := Lib.hid (fun (h : ∀ i, i < l.length → okAt l i = true) => tcheck_good h (by omega))
  obtain ⟨T, hT⟩ : ∃ T, T = tcheck l := ⟨_, rfl⟩
  rw [← hT] at HB HG
  rw [← hT]
  clear hc h0 hs hT hbig
  go_enter Try.func5, Try.ntmps5
  go_wp2_with fail
  go_loopw [3] (fun i wr => ∃ k : Nat, k ≤ n ∧ i = .int .i64 k ∧ Hid (∀ i, i < k → okAt l i = true) ∧ Below w.heap.size w wr) (fun i _ => n - (intOf i).toNat)
  case atStart => exact ⟨0, Nat.zero_le _, rfl, (fun i hi => absurd hi (Nat.not_lt_zero _)), Below.refl _ _⟩
  case round =>
    obtain ⟨k, hk, rfl, hgood, hB⟩ := hrel
    by_cases hlt : k < n
    · obtain ⟨x, hx⟩ : ∃ x, l[k]? = some x := ⟨_, List.getElem?_eq_getElem (by omega)⟩
      obtain ⟨c1, c2, c3⟩ := HC.out k x hx
      obtain ⟨hps, hds⟩ := HS.out x (List.mem_of_getElem? hx)
      have hok := okAt_eq hx
      have HO := Lib.hid hok
      have HX := Lib.hid hx
      have hkl : k < l.length := by omega
      have HK := Lib.hid hkl
      clear hok hx hkl
      obtain ⟨P, K, D⟩ := x
      simp only at c1 c2 c3 hps hds
      have d1 := (hB.cell (p := ⟨b, _, none⟩) hb).trans c1
      have cc := fun W => refCheck_any P 5 W (by omega) (by omega) (by omega)
      have htwo := chk_two P.data.toList 5
      obtain ⟨C, hC⟩ : ∃ C, C = chk P.data.toList 5 := ⟨_, rfl⟩
      rw [← hC] at cc htwo
      have HCC := Lib.hid hC
      clear hC
      go_wp2_with fail
      go_at_call 7
      refine (cc _).mono ?_
      rintro e w1 ⟨rfl, hb1⟩
      have hB1 := below_call hB hb1
      clear d1 cc hb1
      have d1 := (hB1.cell (p := ⟨b, _, none⟩) hb).trans c1
      have d2 := (hB1.cell (p := ⟨b, _, none⟩) hb).trans c2
      have d3 := (hB1.cell (p := ⟨b, _, none⟩) hb).trans c3
      rcases htwo with h | h
      case inr =>
        have hf : okAt l k = false := by rw [HO.out, ← HCC.out, h]; rfl
        have hT := (HB k).out HK.out hf
        subst h hT
        clear hf
        go_wp2_with fail
        go_ret
        exact ⟨rfl, hB1⟩
      have cw := fun W => refWhole_any ⟨K, D⟩ W (by show D.size ≤ _; omega)
      unfold nv at cw
      obtain ⟨V, hV⟩ : ∃ V, V = whole ⟨K, D⟩ := ⟨_, rfl⟩
      rw [← hV] at cw
      have HV := Lib.hid hV
      have HH := Lib.hid h
      subst h
      clear hV
      go_wp2_with fail
      go_at_call 15
      refine (cw _).mono ?_
      rintro e w2 ⟨rfl, hb2⟩
      have hB2 := below_call hB1 hb2
      clear d1 d2 d3 cw hb2 hB1 hB
      have d1 := (hB2.cell (p := ⟨b, _, none⟩) hb).trans c1
      have d2 := (hB2.cell (p := ⟨b, _, none⟩) hb).trans c2
      have d3 := (hB2.cell (p := ⟨b, _, none⟩) hb).trans c3
      by_cases hv : V = true
      case neg =>
        obtain rfl := Bool.eq_false_iff.2 hv
        have hf : okAt l k = false := by rw [HO.out, ← HCC.out, ← HV.out]; rfl
        have hT := (HB k).out HK.out hf
        subst hT
        clear hf hv
        go_wp2_with fail
        go_ret
        exact ⟨rfl, hB2⟩
      subst hv
      by_cases hK : K = 0
      · have hf : okAt l k = false := by rw [HO.out, ← HCC.out, ← HV.out, hK]; rfl
        have hT := (HB k).out HK.out hf
        subst hT
        subst hK
        clear hf
        go_wp2_with fail
        go_ret
        exact ⟨rfl, hB2⟩
      have eK : ((K : Int) == 0) = false := beq_eq_false_iff_ne.2 hK
      have HN0 := Lib.hid hK
      clear hK
      have cp := fun W => refParent_any P W (by omega)
      have cg := fun W hB => refGet_any (some ⟨b, off, none⟩) n c l (tb (par P.data.toList)) W (Ents.below hE.out hB) (by omega)
      unfold nv at cg
      by_cases hprev : k = 0 ∨ ∃ y, l[k - 1]? = some y ∧ Op.bytesLess y.path.toList P.toList = true
      case neg =>
        have hk0 : k ≠ 0 := fun h => hprev (.inl h)
        obtain ⟨y, hy⟩ : ∃ y, l[k - 1]? = some y := ⟨_, List.getElem?_eq_getElem (by omega)⟩
        have hless : Op.bytesLess y.path.toList P.toList = false := Bool.eq_false_iff.2 (fun h => hprev (.inr ⟨y, hy, h⟩))
        have hf : okAt l k = false := by rw [HO.out, hy, decide_eq_false hk0, Bool.false_or]; simp only [hless]; simp
        have hT := (HB k).out HK.out hf
        subst hT
        obtain ⟨j, rfl⟩ : ∃ j, k = j + 1 := ⟨k - 1, by omega⟩
        rw [Nat.add_sub_cancel] at hy
        have g1 := (hB2.cell (p := ⟨b, _, none⟩) hb).trans (HC.out j y hy).1
        have hsub : ((j + 1 : Nat) : Int) - 1 = j := by omega
        obtain ⟨Y, hY⟩ : ∃ Y, Y = y.path := ⟨_, rfl⟩
        rw [← hY] at g1 hless
        clear hf hprev hk0 hy hY
        go_wp2_with fail
        go_ret
        exact ⟨rfl, hB2⟩
      have hpb : (decide (k = 0) || (match l[k - 1]? with | some y => Op.bytesLess y.path.toList P.toList | none => true)) = true := by
        rcases hprev with h | ⟨y, hy, hless⟩
        · rw [decide_eq_true h]; rfl
        · rw [hy]; simp only [hless]; simp
      have hmain : ((par P.data.toList = []) ∨ (tget l (tb (par P.data.toList))).kind = 1) → okAt l k = true := by
        intro h
        rw [HO.out]
        rw [hpb, ← HCC.out, ← HV.out, decide_eq_false HN0.out]
        rcases h with h | h
        · rw [decide_eq_true h]; rfl
        · rw [decide_eq_true h, Bool.or_true]; rfl
      have hmainf : (par P.data.toList ≠ []) → (tget l (tb (par P.data.toList))).kind ≠ 1 → okAt l k = false := by
        intro h1 h2
        rw [HO.out]
        rw [decide_eq_false h1, decide_eq_false h2, Bool.or_false, Bool.and_false]
      have HM := Lib.hid hmain
      have HMF := Lib.hid hmainf
      clear hmain hmainf hpb
      have hp1 := @tb_nil (par P.data.toList)
      have hp2 := @tb_ne (par P.data.toList)
      obtain ⟨R, hR⟩ : ∃ R, R = tb (par P.data.toList) := ⟨_, rfl⟩
      rw [← hR] at cp cg HM HMF hp1 hp2
      have hnext : okAt l k = true → ∀ i, i < k + 1 → okAt l i = true := by
        intro h i hi
        rcases Nat.lt_or_ge i k with h2 | h2
        · exact hgood.out i h2
        · obtain rfl : i = k := by omega
          exact h
      have HNX := Lib.hid hnext
      clear hR hnext
      rcases hprev with rfl | ⟨y, hy, hless⟩
      · by_cases hpar : par P.data.toList = []
        · have e := hp1 hpar
          have HT := Lib.hid (HNX.out (HM.out (.inl hpar)))
          clear hp1 hp2 hpar
          go_wp2_with (first | (go_at_call 16; refine (cp _).mono ?_; rintro e w3 ⟨rfl, rfl⟩) | (go_at_call 8; refine (cg _ hB2).mono ?_; rintro e w4 ⟨rfl, hb4⟩))
          go_roundw
          case rel => exact ⟨1, by omega, by go_num, HT.out, hB2⟩
          case measure => simp [intOf]; omega
        · have e := hp2 hpar
          have hkind := HMF.out hpar
          have hkind2 := fun h => HM.out (.inr h)
          obtain ⟨N, hN⟩ : ∃ N, N = (tget l R).kind := ⟨_, rfl⟩
          rw [← hN] at cg hkind hkind2
          have hfd : ∀ (a : Int) (d : ByteArray) (w : World), (Instr.field 29 (.agg #[.int .i64 a, .string d]) 0).run Try.prog w = .ok (.int .i64 a) w := fun _ _ _ => by kernel_rfl
          clear hp1 hp2 hpar hN
          by_cases h1 : N = 1
          · have HT := Lib.hid (HNX.out (hkind2 h1))
            have e1 : ((N : Int) == 1) = true := by simp [h1]
            clear hkind hkind2 h1
            go_wp2_with (first | (go_at_call 16; refine (cp _).mono ?_; rintro e w3 ⟨rfl, rfl⟩) | (go_at_call 8; refine (cg _ hB2).mono ?_; rintro e w4 ⟨rfl, hb4⟩))
            go_roundw
            case rel => exact ⟨1, by omega, by go_num, HT.out, below_call hB2 hb4⟩
            case measure => simp [intOf]; omega
          · have hT := (HB _).out HK.out (hkind h1)
            have e1 : ((N : Int) == 1) = false := beq_eq_false_iff_ne.2 h1
            subst hT
            clear hkind hkind2 h1
            go_wp2_with (first | (go_at_call 16; refine (cp _).mono ?_; rintro e w3 ⟨rfl, rfl⟩) | (go_at_call 8; refine (cg _ hB2).mono ?_; rintro e w4 ⟨rfl, hb4⟩))
            go_ret
            exact ⟨rfl, below_call hB2 hb4⟩
      · by_cases hk0 : k = 0
        · subst hk0
          by_cases hpar : par P.data.toList = []
          · have e := hp1 hpar
            have HT := Lib.hid (HNX.out (HM.out (.inl hpar)))
            clear hp1 hp2 hpar
            go_wp2_with (first | (go_at_call 16; refine (cp _).mono ?_; rintro e w3 ⟨rfl, rfl⟩) | (go_at_call 8; refine (cg _ hB2).mono ?_; rintro e w4 ⟨rfl, hb4⟩))
            go_roundw
            case rel => exact ⟨1, by omega, by go_num, HT.out, hB2⟩
            case measure => simp [intOf]; omega
          · have e := hp2 hpar
            have hkind := HMF.out hpar
            have hkind2 := fun h => HM.out (.inr h)
            obtain ⟨N, hN⟩ : ∃ N, N = (tget l R).kind := ⟨_, rfl⟩
            rw [← hN] at cg hkind hkind2
            have hfd : ∀ (a : Int) (d : ByteArray) (w : World), (Instr.field 29 (.agg #[.int .i64 a, .string d]) 0).run Try.prog w = .ok (.int .i64 a) w := fun _ _ _ => by kernel_rfl
            clear hp1 hp2 hpar hN
            by_cases h1 : N = 1
            · have HT := Lib.hid (HNX.out (hkind2 h1))
              have e1 : ((N : Int) == 1) = true := by simp [h1]
              clear hkind hkind2 h1
              go_wp2_with (first | (go_at_call 16; refine (cp _).mono ?_; rintro e w3 ⟨rfl, rfl⟩) | (go_at_call 8; refine (cg _ hB2).mono ?_; rintro e w4 ⟨rfl, hb4⟩))
              go_roundw
              case rel => exact ⟨1, by omega, by go_num, HT.out, below_call hB2 hb4⟩
              case measure => simp [intOf]; omega
            · have hT := (HB _).out HK.out (hkind h1)
              have e1 : ((N : Int) == 1) = false := beq_eq_false_iff_ne.2 h1
              subst hT
              clear hkind hkind2 h1
              go_wp2_with (first | (go_at_call 16; refine (cp _).mono ?_; rintro e w3 ⟨rfl, rfl⟩) | (go_at_call 8; refine (cg _ hB2).mono ?_; rintro e w4 ⟨rfl, hb4⟩))
              go_ret
              exact ⟨rfl, below_call hB2 hb4⟩
        obtain ⟨j, rfl⟩ : ∃ j, k = j + 1 := ⟨k - 1, by omega⟩
        rw [Nat.add_sub_cancel] at hy
        have g1 := (hB2.cell (p := ⟨b, _, none⟩) hb).trans (HC.out j y hy).1
        have hsub : ((j + 1 : Nat) : Int) - 1 = j := by omega
        obtain ⟨Y, hY⟩ : ∃ Y, Y = y.path := ⟨_, rfl⟩
        rw [← hY] at g1 hless
        clear hk0 hy hY
        by_cases hpar : par P.data.toList = []
        · have e := hp1 hpar
          have HT := Lib.hid (HNX.out (HM.out (.inl hpar)))
          clear hp1 hp2 hpar
          go_wp2_with (first | (go_at_call 16; refine (cp _).mono ?_; rintro e w3 ⟨rfl, rfl⟩) | (go_at_call 8; refine (cg _ hB2).mono ?_; rintro e w4 ⟨rfl, hb4⟩))
          go_roundw
          case rel => exact ⟨j + 1 + 1, by omega, by go_num, HT.out, hB2⟩
          case measure => simp [intOf]; omega
        · have e := hp2 hpar
          have hkind := HMF.out hpar
          have hkind2 := fun h => HM.out (.inr h)
          obtain ⟨N, hN⟩ : ∃ N, N = (tget l R).kind := ⟨_, rfl⟩
          rw [← hN] at cg hkind hkind2
          have hfd : ∀ (a : Int) (d : ByteArray) (w : World), (Instr.field 29 (.agg #[.int .i64 a, .string d]) 0).run Try.prog w = .ok (.int .i64 a) w := fun _ _ _ => by kernel_rfl
          clear hp1 hp2 hpar hN
          by_cases h1 : N = 1
          · have HT := Lib.hid (HNX.out (hkind2 h1))
            have e1 : ((N : Int) == 1) = true := by simp [h1]
            clear hkind hkind2 h1
            go_wp2_with (first | (go_at_call 16; refine (cp _).mono ?_; rintro e w3 ⟨rfl, rfl⟩) | (go_at_call 8; refine (cg _ hB2).mono ?_; rintro e w4 ⟨rfl, hb4⟩))
            go_roundw
            case rel => exact ⟨j + 1 + 1, by omega, by go_num, HT.out, below_call hB2 hb4⟩
            case measure => simp [intOf]; omega
          · have hT := (HB _).out HK.out (hkind h1)
            have e1 : ((N : Int) == 1) = false := beq_eq_false_iff_ne.2 h1
            subst hT
            clear hkind hkind2 h1
            go_wp2_with (first | (go_at_call 16; refine (cp _).mono ?_; rintro e w3 ⟨rfl, rfl⟩) | (go_at_call 8; refine (cg _ hB2).mono ?_; rintro e w4 ⟨rfl, hb4⟩))
            go_ret
            exact ⟨rfl, below_call hB2 hb4⟩
    · obtain rfl : k = n := by omega
      have hT := HG.out (fun i hi => hgood.out i (by omega))
      subst hT
      clear hgood hln
      go_wp2_with fail
      go_ret
      exact ⟨rfl, hB⟩
end Go.Proofs.Ytdpnmdnfnplcfaa.En

namespace Go.Proofs.Ytdpnmdnfnplcfaa.Sc
open Go.RowKit Tx Pm Pr Dk Od
set_option linter.unusedVariables false
def Homes (l : List It) : Prop := ∀ y ∈ l, par y.path.data.toList ≠ [] → ∃ x ∈ l, x.path = tb (par y.path.data.toList) ∧ x.dir = true
structure Rb (n : Nat) (s : St) : Prop where
  inv : Inv s n (n * 1048576)
  stamps : s.stamps ≤ n
  n : n ≤ 100000
  armed : s.armed = -1
  up : s.down = false
  rooms : s.rooms = []
  stp : Stp s
  homes : Homes s.L
structure Laid (n : Nat) (s s' : St) (v : ByteArray) (t : List En.Et) : Prop where
  rb : Rb (n + 1000) s'
  up : s.stamps ≤ s'.stamps
  others : s'.L.filter (fun x => !inV v x) = s.L.filter (fun x => !inV v x)
  tree : entS s'.L v = t
  items : ∀ x ∈ s'.L, inV v x = true → x ∈ s.L ∨ (x.loose = false ∧ ((x.dir = true ∧ x.stamp = 0 ∧ x.data = ⟨#[]⟩) ∨ (x.dir = false ∧ s.stamps < x.stamp ∧ x.stamp ≤ s'.stamps)))
  same : ∀ x ∈ s'.L, inV v x = true → x.dir = false → ∀ y ∈ s.L, y.path = x.path → y.dir = false → y.data = x.data → y = x
def pW : ByteArray := ⟨#[119]⟩
def pWX : ByteArray := ⟨#[119, 47, 120]⟩
def hubI : It := ⟨pH, true, ⟨#[]⟩, ⟨#[]⟩, false, false, 0⟩
def wI : It := ⟨pW, true, ⟨#[]⟩, ⟨#[]⟩, false, false, 0⟩
structure Hub (a : List En.Et) (n : Nat) (s : St) : Prop where
  rb : Rb n s
  tree : entS s.L pH = a
  oth : ∃ z : It, z.path = pWX ∧ s.L.filter (fun x => !inV pH x) = [hubI, wI, z]
  files : ∀ x ∈ s.L, inV pH x = true → x.loose = false ∧ (x.dir = true → x.data = ⟨#[]⟩)
end Go.Proofs.Ytdpnmdnfnplcfaa.Sc

namespace Go.Proofs.Ytdpnmdnfnplcfaa.Sc
open Go.RowKit Tx Pm Pl Pr Dk
set_option linter.unusedVariables false
theorem Rb.ok {n : Nat} {s : St} (h : Rb n s) : Ok s := by
  have hl := h.inv.len
  have hn := h.n
  have hw := whole_le (B := n * 1048576) (fun x hx => (h.inv.size x hx).1)
  have hm : s.L.length * (n * 1048576) ≤ 100000 * (100000 * 1048576) := Nat.mul_le_mul (Nat.le_trans hl hn) (Nat.mul_le_mul_right _ hn)
  refine ⟨⟨by omega, fun x hx => by have := h.inv.path x hx; omega, by omega⟩, by have := h.inv.rooms; omega, by have := h.inv.steps; omega, by have := h.stamps; omega, by have := h.inv.armed; omega⟩
theorem does_at {b bi bl : Nat} {w w' : World} {F : Nat → Prop} {r : Nat × St} {e : Ending} (hg : Dk.Good r.2) (hF : ∀ i, F i ↔ Ft b bi bl i) (h : e = .returned (.int .i64 (r.1 : Nat)) ∧ Ip b bi bl w r.2 w') : Does (ImpAt b) w F r e w' := ⟨h.1, h.2.left hg hF⟩
section
variable {b : Nat} {w : World} {F : Nat → Prop} {s : St}
theorem ok_mkdir {p : ByteArray} (h : ImpAt b w F s) (ok : Ok s) (hp : p.size ≤ 8000000000000) : Calls Try.prog 12 #[.pointer (some ⟨b, 0, none⟩), .string p] w (Does (ImpAt b) w F (mkdirS s p)) := by
  obtain ⟨bi, bl, l, hI, hg, hF⟩ := h
  exact (iMkdir_any b bi bl l _ p _ hI hg ok hp).mono fun e w' ht => does_at (good_mkdir hg) hF ht
theorem ok_write {p q : ByteArray} (h : ImpAt b w F s) (ok : Ok s) (hp : p.size ≤ 8000000000000) (hq : q.size ≤ 1000000000000000000) : Calls Try.prog 13 #[.pointer (some ⟨b, 0, none⟩), .string p, .string q] w (Does (ImpAt b) w F (writeS s p q)) := by
  obtain ⟨bi, bl, l, hI, hg, hF⟩ := h
  exact (iWrite_any b bi bl l _ p q _ hI hg ok hp hq).mono fun e w' ht => does_at (good_write hg) hF ht
theorem ok_read {p : ByteArray} (h : ImpAt b w F s) (hp : p.size ≤ 8000000000000) : Calls Try.prog 53 #[.pointer (some ⟨b, 0, none⟩), .string p] w fun e w' => e = .returned (.tuple #[.string (readS s p).1, .int .i64 ((readS s p).2 : Nat)]) ∧ Below w.heap.size w w' := by
  obtain ⟨bi, bl, l, hI, hg, hF⟩ := h
  exact iRead_any b bi bl l _ p _ hI hg hp
theorem ok_kind {p : ByteArray} (h : ImpAt b w F s) (hp : p.size ≤ 8000000000000) : Calls Try.prog 39 #[.pointer (some ⟨b, 0, none⟩), .string p] w fun e w' => e = .returned (.int .i64 (Dk.kind s.L p : Nat)) ∧ w = w' := by
  obtain ⟨bi, bl, l, hI, hg, hF⟩ := h
  exact iKind_any b bi bl l _ p _ hI hp
theorem ok_stamp {p : ByteArray} (h : ImpAt b w F s) (hp : p.size ≤ 8000000000000) : Calls Try.prog 38 #[.pointer (some ⟨b, 0, none⟩), .string p] w fun e w' => e = .returned (.int .i64 (stampS s p : Nat)) ∧ w = w' := by
  obtain ⟨bi, bl, l, hI, hg, hF⟩ := h
  exact iStamp_any b bi bl l _ p _ hI hp
theorem ok_down (h : ImpAt b w F s) : Calls Try.prog 51 #[.pointer (some ⟨b, 0, none⟩)] w fun e w' => e = .returned (.bool s.down) ∧ w = w' := by
  obtain ⟨bi, bl, l, hI, hg, hF⟩ := h
  exact iDown_any b bi bl l s w hI
theorem ok_list {p : ByteArray} (h : ImpAt b w F s) (ok : Ok s) : Calls Try.prog 52 #[.pointer (some ⟨b, 0, none⟩), .string p] w (ListTo (Dk.list s.L p) w) := by
  obtain ⟨bi, bl, l, hI, hg, hF⟩ := h
  exact iList_any b bi bl l _ p _ hI hg.rises ok.fit.1 ok.fit.2.1
end
theorem ok_new (w : World) : Calls Try.prog 11 #[] w fun e w' => ∃ b F, e = .returned (.pointer (some ⟨b, 0, none⟩)) ∧ ImpAt b w' F newS ∧ (∀ i, F i → w.heap.size ≤ i) ∧ Below w.heap.size w w' :=
  (iNew_any w).mono fun e w' ⟨b, bi, bl, he, hI, hF, hb⟩ => ⟨b, Ft b bi bl, he, ⟨bi, bl, -1, hI, Dk.good_new, fun _ => Iff.rfl⟩, hF, hb⟩
end Go.Proofs.Ytdpnmdnfnplcfaa.Sc

namespace Go.Proofs.Ytdpnmdnfnplcfaa.Sc
open Go.RowKit Tx Pm Pr Dk Od
set_option linter.unusedVariables false
theorem Rb.mono {n m : Nat} {s : St} (h : Rb n s) (hnm : n ≤ m) (hm : m ≤ 100000) : Rb m s := by
  have h2 : n * 1048576 ≤ m * 1048576 := Nat.mul_le_mul_right _ hnm
  exact ⟨⟨h.inv.rises, Nat.le_trans h.inv.len hnm, h.inv.path, fun x hx => ⟨Nat.le_trans (h.inv.size x hx).1 h2, Nat.le_trans (h.inv.size x hx).2 h2⟩, h.inv.kept, Nat.le_trans h.inv.rooms hnm, Nat.le_trans h.inv.steps hnm, Nat.le_trans h.inv.stamps h2, h.inv.armed⟩, Nat.le_trans h.stamps hnm, hm, h.armed, h.up, h.rooms, h.stp, h.homes⟩
theorem mem_ins_iff {l : List It} {x y : It} (hr : Rises l) : y ∈ ins l x ↔ y = x ∨ (y ∈ l ∧ y.path ≠ x.path) := by
  have hr2 := rises_ins (x := x) hr
  have hx : x ∈ ins l x := by unfold ins; simp
  constructor
  · intro h
    by_cases hp : y.path = x.path
    · exact .inl (rises_one hr2 y h x hx hp)
    · rcases mem_ins h with h1 | h1
      · exact .inl h1
      · exact .inr ⟨h1, hp⟩
  · rintro (rfl | ⟨h1, h2⟩)
    · exact hx
    · have e := find_ins l (x := x) (p := y.path) (fun e => h2 e.symm)
      rw [Sc.find_one hr h1] at e
      exact (find_mem e).1
theorem find_ins_same {l : List It} {x : It} (hr : Rises l) : find (ins l x) x.path = some x := Sc.find_one (rises_ins hr) (by unfold ins; simp)
theorem homes_ins {l : List It} {x : It} (hr : Rises l) (h : Homes l) (hh : home l x.path = true) (hk : x.dir = true ∨ kind l x.path ≠ 1) : Homes (ins l x) := by
  intro y hy hp
  have base : ∀ z ∈ l, z.path = tb (par y.path.data.toList) → z.dir = true → ∃ u ∈ ins l x, u.path = tb (par y.path.data.toList) ∧ u.dir = true := by
    intro z hz hzp hzd
    by_cases e : z.path = x.path
    · rcases hk with hk | hk
      · exact ⟨x, (mem_ins_iff hr).2 (.inl rfl), e ▸ hzp, hk⟩
      · refine absurd ?_ hk
        rw [← e, kind, Sc.find_one hr hz]
        show (if z.dir then 1 else 2) = 1
        rw [hzd]; rfl
    · exact ⟨z, (mem_ins_iff hr).2 (.inr ⟨hz, e⟩), hzp, hzd⟩
  rcases (mem_ins_iff hr).1 hy with rfl | ⟨hy, _⟩
  · unfold home at hh
    rw [Bool.or_eq_true] at hh
    have h1 := of_decide_eq_true (hh.resolve_left (fun e => hp (of_decide_eq_true e)))
    rw [kind] at h1
    cases hf : find l (tb (par y.path.data.toList)) with
    | none => rw [hf] at h1; cases h1
    | some z =>
      rw [hf] at h1
      have hzd : z.dir = true := by
        cases hz : z.dir
        · exact absurd h1 (by show ¬ (if z.dir then 1 else 2) = 1; rw [hz]; decide)
        · rfl
      exact base z (find_mem hf).1 (find_mem hf).2 hzd
  · obtain ⟨z, hz, hzp, hzd⟩ := h y hy hp
    exact base z hz hzp hzd
end Go.Proofs.Ytdpnmdnfnplcfaa.Sc

namespace Go.Proofs.Ytdpnmdnfnplcfaa.Sc
open Go.RowKit Tx Pm Pr Dk Od
set_option linter.unusedVariables false
structure Wf (L : List It) : Prop where
  rises : Rises L
  homes : Homes L
  names : ∀ x ∈ L, chk x.path.data.toList 6 = 0
  deep : ∀ x ∈ L, x.dir = false → 2 ≤ (spl x.path.data.toList).length
theorem wf_nil : Wf [] := ⟨List.Pairwise.nil, (fun x hx => by cases hx), (fun x hx => by cases hx), (fun x hx => by cases hx)⟩
theorem Wf.of {L M : List It} (h : Wf L) (e : M = L) : Wf M := by rw [e]; exact h
theorem wf_ins {l : List It} {x : It} (h : Wf l) (hh : home l x.path = true) (hk : x.dir = true ∨ kind l x.path ≠ 1) (hc : chk x.path.data.toList 6 = 0) (hd : x.dir = true ∨ 2 ≤ (spl x.path.data.toList).length) : Wf (ins l x) :=
  ⟨rises_ins h.rises, homes_ins h.rises h.homes hh hk, fun y hy => by
    rcases mem_ins hy with rfl | hy
    · exact hc
    · exact h.names y hy, fun y hy e => by
    rcases mem_ins hy with rfl | hy
    · exact hd.resolve_left (by rw [e]; decide)
    · exact h.deep y hy e⟩
theorem first_chk {s : St} {p : ByteArray} {k : Nat} (h : first s p k = 0) : chk p.data.toList 6 = 0 := by
  unfold first at h
  split at h
  · cases h
  · split at h
    · cases h
    · rename_i h2
      by_cases hc : chk p.data.toList 6 = 0
      · exact hc
      · exact absurd (.inl hc) h2
theorem first_two {s : St} {p : ByteArray} (h : first s p 1 = 0) : 2 ≤ (spl p.data.toList).length := by
  unfold first at h
  split at h
  · cases h
  · split at h
    · cases h
    · rename_i h2
      by_cases hc : (spl p.data.toList).length ≤ 1
      · exact absurd (.inr hc) h2
      · omega
theorem wf_mkdir {s : St} (p : ByteArray) (h : Wf s.L) : Wf (mkdirS s p).2.L := by
  unfold mkdirS
  split
  · exact h
  rename_i h1
  split
  · exact h
  rename_i h2
  split
  · exact h
  split
  · exact h.of (done_L s)
  · show Wf (ins (done s).2.L _)
    rw [done_L]
    exact wf_ins (x := ⟨p, true, ⟨#[]⟩, ⟨#[]⟩, false, false, 0⟩) h (by revert h2; cases home s.L p <;> simp) (.inl rfl) (first_chk (s := s) (p := p) (k := 0) (by omega)) (.inl rfl)
theorem wf_write {s : St} (p d : ByteArray) (h : Wf s.L) : Wf (writeS s p d).2.L := by
  unfold writeS
  split
  · exact h
  rename_i h1
  split
  · exact h
  rename_i h2
  split
  · exact h
  rename_i h3
  split
  · exact h
  split
  · exact h.of (done_L s)
  · show Wf (ins (done s).2.L _)
    rw [done_L]
    refine wf_ins (x := stamped (done s).2 { old s.L p with data := d, loose := true, anew := true }) h ?_ (.inr ?_) ?_ (.inr (by show 2 ≤ (spl (old s.L p).path.data.toList).length; rw [old_path]; exact first_two (s := s) (p := p) (by omega)))
    · show home s.L (old s.L p).path = true
      rw [old_path]
      revert h2; cases home s.L p <;> simp
    · show kind s.L (old s.L p).path ≠ 1
      rw [old_path]; exact h3
    · show chk (old s.L p).path.data.toList 6 = 0
      rw [old_path]; exact first_chk (s := s) (p := p) (k := 1) (by omega)
theorem chk_ne {p : ByteArray} {d : Int} (h : chk p.data.toList d = 0) : p ≠ ⟨#[]⟩ := fun e => good_ne (ok_of h).2 (by rw [e])
theorem wf_file {l : List It} {p : ByteArray} (h : Wf l) (hp : p ≠ ⟨#[]⟩) (hk : kind l p ≠ 1) : Dk.list l p = [] := by
  refine List.map_eq_nil_iff.2 (List.filter_eq_nil_iff.2 fun y hy hc => hk ?_)
  have e := of_decide_eq_true hc
  have hne : par y.path.data.toList ≠ [] := fun h0 => hp (by rw [← e, h0]; rfl)
  obtain ⟨z, hz, hzp, hzd⟩ := h.homes y hy hne
  rw [kind, ← e, ← hzp, Sc.find_one h.rises hz]
  show (if z.dir then 1 else 2) = 1
  rw [hzd]; rfl
theorem wf_vol {L : List It} {v : ByteArray} (h : Wf L) (hv : chk v.data.toList 1 = 0) : kind L v = 0 ∨ kind L v = 1 := by
  unfold kind
  cases hf : find L v with
  | none => exact .inl rfl
  | some x =>
    obtain ⟨hx, hp⟩ := find_mem hf
    right
    show (if x.dir then 1 else 2) = 1
    cases hd : x.dir
    · have h1 := h.deep x hx hd
      have h2 := (ok_of hv).1
      rw [hp] at h1
      omega
    · rfl
end Go.Proofs.Ytdpnmdnfnplcfaa.Sc

namespace Go.Proofs.Ytdpnmdnfnplcfaa.Sc
open Go.RowKit Tx Pm Pr Dk Od
set_option linter.unusedVariables false
def vp (v p : ByteArray) : ByteArray := v ++ ⟨#[47]⟩ ++ p
theorem vp_list (v p : ByteArray) : (vp v p).data.toList = v.data.toList ++ 47 :: p.data.toList := by
  unfold vp
  rw [ByteArray.data_append, ByteArray.data_append, Array.toList_append, Array.toList_append, List.append_assoc]
  rfl
theorem vp_size (v p : ByteArray) : (vp v p).size = v.size + 1 + p.size := by
  unfold vp
  rw [ByteArray.size_append, ByteArray.size_append]
  rfl
theorem vp_ne (v p : ByteArray) : vp v p ≠ v := fun h => by
  have := congrArg ByteArray.size h
  rw [vp_size] at this
  omega
theorem inV_vp {v p : ByteArray} {x : It} (h : x.path = vp v p) : inV v x = true := by
  unfold inV
  rw [h, vp_list, und_below, decide_eq_false (vp_ne v p)]
  rfl
theorem inV_at {v : ByteArray} {x : It} (h0 : v ≠ ⟨#[]⟩) (h : inV v x = true) : x.path = vp v (tl v x.path) := (inV_long h0 h).2
theorem good_short {l : List UInt8} (h : good l) : l.length + 1 ≤ 13 * (spl l).length := by
  have key : ∀ l : List UInt8, l.length + 1 = ((spl l).map List.length).sum + (spl l).length := by
    intro l
    induction l with
    | nil => rfl
    | cons c r ih =>
      rw [spl]
      split
      · rw [List.map_cons, List.sum_cons, List.length_cons, List.length_cons]
        simp only [List.length_nil]
        omega
      · split
        · rename_i e
          exact absurd e (spl_ne r)
        · rename_i x xs e
          rw [e] at ih
          simp only [List.map_cons, List.sum_cons, List.length_cons] at ih ⊢
          omega
  have sum : ∀ m : List (List UInt8), m.all isName = true → (m.map List.length).sum ≤ 12 * m.length := by
    intro m
    induction m with
    | nil => intro _; exact Nat.zero_le _
    | cons x m ih =>
      intro hm
      rw [List.all_cons, Bool.and_eq_true] at hm
      have h1 := ih hm.2
      have h2 : x.length ≤ 12 := by
        have := hm.1
        unfold isName at this
        simp only [Bool.and_eq_true, decide_eq_true_eq] at this
        exact this.1.2
      rw [List.map_cons, List.sum_cons, List.length_cons]
      omega
  have h1 := key l
  have h2 := sum _ h
  omega
theorem chk_short {p : ByteArray} {d : Int} (h : chk p.data.toList d = 0) (hd : d ≤ 6) : p.size ≤ 1000 := by
  obtain ⟨a1, a2⟩ := ok_of h
  have := good_short a2
  rw [len_l] at this
  omega
theorem last_app (a b : List UInt8) : lastN (a ++ 47 :: b) = a.length + 1 + lastN b := by
  induction a with
  | nil =>
    rw [List.nil_append, lastN]
    split
    · rename_i h; rw [h]; rfl
    · simp only [List.length_nil]; omega
  | cons c a ih =>
    rw [List.cons_append, lastN, ih, if_neg (by omega), List.length_cons]
    omega
end Go.Proofs.Ytdpnmdnfnplcfaa.Sc

namespace Go.Proofs.Ytdpnmdnfnplcfaa.En
open Go.RowKit Tx Pm Pr
set_option linter.unusedVariables false
def spare : Et := ⟨⟨#[115, 112, 97, 114, 101]⟩, ⟨0, ⟨#[]⟩⟩⟩
theorem Ents.take {w : World} {a : Option Addr} {n m : Nat} {l : List Et} (h : Ents w a n l) (hm : m ≤ n) : Ents w a m (l.take m) := by
  refine ⟨by rw [List.length_take, h.1]; omega, ?_⟩
  rcases h.2 with h0 | ⟨b, off, ha, hlt, hc⟩
  · exact .inl (by omega)
  · refine .inr ⟨b, off, ha, hlt, fun k x hx => hc k x ?_⟩
    rw [List.getElem?_take] at hx
    split at hx
    · exact hx
    · cases hx
end Go.Proofs.Ytdpnmdnfnplcfaa.En

namespace Go.Proofs.Ytdpnmdnfnplcfaa.En
open Go.RowKit Tx
set_option linter.unusedVariables false
section
variable {P : Program} (w : World)
end
def less (a b : ByteArray) : Bool := Op.bytesLess a.toList b.toList
def insAt (x : Et) : List Et → List Et
  | [] => [x]
  | y :: l => if less y.path x.path = true then y :: insAt x l else x :: y :: l
def tsort (l : List Et) : List Et := l.foldl (fun o x => insAt x o) []
theorem insAt_len (x : Et) : ∀ l : List Et, (insAt x l).length = l.length + 1
  | [] => rfl
  | y :: l => by
    rw [insAt]
    split
    · rw [List.length_cons, insAt_len x l, List.length_cons]
    · rfl
theorem tsort_len (l : List Et) : (tsort l).length = l.length := by
  have : ∀ (l o : List Et), (l.foldl (fun o x => insAt x o) o).length = o.length + l.length := by
    intro l
    induction l with
    | nil => intro o; rfl
    | cons x l ih => intro o; rw [List.foldl_cons, ih, insAt_len, List.length_cons]; omega
  rw [tsort, this]
  simp
theorem below_drewN {B : Nat} {a w : World} (h : Below B a w) (n : Nat) : Below B a (w.drewN n) := ⟨h.os, h.tape, h.output, h.size, h.block⟩
theorem own_other {w w1 : World} {B g n cap : Nat} {T : List Et} {r : Option Nat} (h : Own w B (.slice (some ⟨g, 0, none⟩) n cap) T) (hg : w.grownBy w1 r) (hne : r ≠ some g) : Own w1 B (.slice (some ⟨g, 0, none⟩) n cap) T := by
  refine ⟨h.1, ?_⟩
  rcases h.2 with h0 | ⟨g', cap', cur, hv, hg', hh, r'⟩
  · exact .inl h0
  · refine .inr ⟨g', cap', cur, hv, hg', (hg.block g' (Array.getElem?_eq_some_iff.1 hh).1 ?_).trans hh, r'⟩
    injection hv with hv
    injection hv with hv
    injection hv with hv
    rw [← hv]
    intro e
    exact hne e.symm
end Go.Proofs.Ytdpnmdnfnplcfaa.En

namespace Go.Proofs.Ytdpnmdnfnplcfaa.En
open Go.RowKit Tx Pm Pr
set_option linter.unusedVariables false
end Go.Proofs.Ytdpnmdnfnplcfaa.En

namespace Go.Proofs.Ytdpnmdnfnplcfaa.En
open Go.RowKit Tx Pm Pr
set_option linter.unusedVariables false
theorem mem_insAt (x y : Et) : ∀ l : List Et, y ∈ insAt x l → y = x ∨ y ∈ l
  | [], h => by
    rw [insAt] at h
    exact .inl (List.mem_singleton.1 h)
  | z :: l, h => by
    rw [insAt] at h
    split at h
    · rcases List.mem_cons.1 h with h | h
      · exact .inr (by rw [h]; simp)
      · rcases mem_insAt x y l h with h | h
        · exact .inl h
        · exact .inr (List.mem_cons_of_mem _ h)
    · rcases List.mem_cons.1 h with h | h
      · exact .inl h
      · exact .inr h
theorem mem_tsort {y : Et} {l : List Et} (h : y ∈ tsort l) : y ∈ l := by
  have : ∀ (l o : List Et), y ∈ l.foldl (fun o x => insAt x o) o → y ∈ o ∨ y ∈ l := by
    intro l
    induction l with
    | nil => intro o h; exact .inl h
    | cons x l ih =>
      intro o h
      rw [List.foldl_cons] at h
      rcases ih _ h with h | h
      · rcases mem_insAt x y o h with h | h
        · exact .inr (by rw [h]; simp)
        · exact .inl h
      · exact .inr (List.mem_cons_of_mem _ h)
  rcases this l [] h with h | h
  · cases h
  · exact h
end Go.Proofs.Ytdpnmdnfnplcfaa.En

namespace Go.Proofs.Ytdpnmdnfnplcfaa.En
open Go.RowKit Tx Pm Pr
set_option linter.unusedVariables false
def told (la lb all : List Et) (i : Nat) : Prop := ∃ x, all[i]? = some x ∧ (i = 0 ∨ ∀ y, all[i - 1]? = some y → y.path ≠ x.path) ∧ tget la x.path ≠ tget lb x.path
open Classical in
noncomputable def diffAt (la lb all : List Et) (i : Nat) : List ByteArray := match all[i]? with
  | none => []
  | some x => if told la lb all i then [x.path] else []
noncomputable def diffs (la lb all : List Et) (k : Nat) : List ByteArray := (List.range k).flatMap (diffAt la lb all)
noncomputable def tdiff (la lb : List Et) : List ByteArray := diffs la lb (tsort (la ++ lb)) (la.length + lb.length)
theorem diffs_succ (la lb all : List Et) (k : Nat) : diffs la lb all (k + 1) = diffs la lb all k ++ diffAt la lb all k := by
  rw [diffs, List.range_succ, List.flatMap_append]
  simp [diffs]
theorem diffAt_yes {la lb all : List Et} {i : Nat} {x : Et} (h : all[i]? = some x) (ht : told la lb all i) : diffAt la lb all i = [x.path] := by
  rw [diffAt, h]
  exact if_pos ht
theorem diffAt_no {la lb all : List Et} {i : Nat} {x : Et} (h : all[i]? = some x) (ht : ¬ told la lb all i) : diffAt la lb all i = [] := by
  rw [diffAt, h]
  exact if_neg ht
theorem diffs_len (la lb all : List Et) : ∀ k, (diffs la lb all k).length ≤ k
  | 0 => Nat.le_refl _
  | k + 1 => by
    have := diffs_len la lb all k
    rw [diffs_succ, List.length_append]
    have h2 : (diffAt la lb all k).length ≤ 1 := by
      unfold diffAt
      split
      · exact Nat.zero_le _
      · split
        · exact Nat.le_refl _
        · exact Nat.zero_le _
    omega
def DiffTo (l : List ByteArray) (w : World) (e : Ending) (w' : World) : Prop := ∃ v, e = .returned v ∧ Texts w' w.heap.size v l ∧ Below w.heap.size w w'
end Go.Proofs.Ytdpnmdnfnplcfaa.En

namespace Go.Proofs.Ytdpnmdnfnplcfaa.En
open Go.RowKit Tx Pm Pr
set_option linter.unusedVariables false
theorem lt_irr (a : ByteArray) : less a a = false := less_irr _
theorem lt_asymm {a b : ByteArray} (h : less a b = true) : less b a = false := less_asymm _ _ h
theorem less_trans : ∀ (a b c : List UInt8), Op.bytesLess a b = true → Op.bytesLess b c = true → Op.bytesLess a c = true
  | [], [], _, h, _ => by rw [Op.bytesLess] at h; cases h
  | [], _ :: _, [], _, h => by rw [Op.bytesLess] at h; cases h
  | [], _ :: _, _ :: _, _, _ => by rw [Op.bytesLess]
  | _ :: _, [], _, h, _ => by rw [Op.bytesLess] at h; cases h
  | _ :: _, _ :: _, [], _, h => by rw [Op.bytesLess] at h; cases h
  | x :: a, y :: b, z :: c, h1, h2 => by
    have ih := less_trans a b c
    rw [Op.bytesLess] at h1 h2 ⊢
    simp only [Bool.or_eq_true, Bool.and_eq_true, decide_eq_true_eq, beq_iff_eq] at h1 h2 ⊢
    rcases h1 with h1 | ⟨rfl, h1⟩
    · rcases h2 with h2 | ⟨rfl, h2⟩
      · left
        rw [UInt8.lt_iff_toNat_lt] at h1 h2 ⊢
        omega
      · exact .inl h1
    · rcases h2 with h2 | ⟨rfl, h2⟩
      · exact .inl h2
      · exact .inr ⟨rfl, ih h1 h2⟩
theorem less_tri : ∀ (a b : List UInt8), Op.bytesLess a b = false → Op.bytesLess b a = false → a = b
  | [], [], _, _ => rfl
  | [], _ :: _, h, _ => by rw [Op.bytesLess] at h; cases h
  | _ :: _, [], _, h => by rw [Op.bytesLess] at h; cases h
  | x :: a, y :: b, h1, h2 => by
    have ih := less_tri a b
    rw [Op.bytesLess] at h1 h2
    simp only [Bool.or_eq_false_iff, Bool.and_eq_false_iff, decide_eq_false_iff_not, beq_eq_false_iff_ne] at h1 h2
    have e : x = y := by
      apply UInt8.toNat_inj.1
      have a1 := h1.1
      have a2 := h2.1
      rw [UInt8.lt_iff_toNat_lt] at a1 a2
      omega
    subst e
    rw [ih (h1.2.resolve_left (fun h => h rfl)) (h2.2.resolve_left (fun h => h rfl))]
theorem lt_trans {a b c : ByteArray} (h1 : less a b = true) (h2 : less b c = true) : less a c = true := less_trans _ _ _ h1 h2
theorem lt_tri {a b : ByteArray} (h1 : less a b = false) (h2 : less b a = false) : a = b := to_list.1 (less_tri _ _ h1 h2)
theorem le_trans' {a b c : ByteArray} (h1 : less b a = false) (h2 : less c b = false) : less c a = false := by
  cases h : less c a
  · rfl
  · cases hb : less a b
    · have := lt_tri hb h1
      subst this
      rw [h] at h2
      cases h2
    · have := lt_trans h hb
      rw [this] at h2
      cases h2
theorem lt_le {a b : ByteArray} (h : less b a = false) (hne : a ≠ b) : less a b = true := by
  cases h2 : less a b
  · exact absurd (lt_tri h2 h) hne
  · rfl
theorem rise_ext : ∀ (l m : List ByteArray), l.Pairwise (fun a b => less a b = true) → m.Pairwise (fun a b => less a b = true) → (∀ p, p ∈ l ↔ p ∈ m) → l = m
  | [], [], _, _, _ => rfl
  | [], y :: m, _, _, h => absurd ((h y).2 (by simp)) (by simp)
  | x :: l, [], _, _, h => absurd ((h x).1 (by simp)) (by simp)
  | x :: l, y :: m, hl, hm, h => by
    rw [List.pairwise_cons] at hl hm
    have e : x = y := by
      rcases List.mem_cons.1 ((h x).1 (by simp)) with h1 | h1
      · exact h1
      · rcases List.mem_cons.1 ((h y).2 (by simp)) with h2 | h2
        · exact h2.symm
        · have a1 := hm.1 x h1
          have a2 := hl.1 y h2
          rw [lt_asymm a1] at a2
          cases a2
    subst e
    rw [rise_ext l m hl.2 hm.2 (fun p => ?_)]
    constructor
    · intro hp
      rcases List.mem_cons.1 ((h p).1 (List.mem_cons_of_mem _ hp)) with h1 | h1
      · subst h1
        have := hl.1 p hp
        rw [lt_irr] at this
        cases this
      · exact h1
    · intro hp
      rcases List.mem_cons.1 ((h p).2 (List.mem_cons_of_mem _ hp)) with h1 | h1
      · subst h1
        have := hm.1 p hp
        rw [lt_irr] at this
        cases this
      · exact h1
def Sorted (l : List Et) : Prop := l.Pairwise (fun x y => less y.path x.path = false)
theorem insAt_mem (x y : Et) : ∀ l : List Et, y = x ∨ y ∈ l → y ∈ insAt x l
  | [], h => by
    rw [insAt]
    rcases h with h | h
    · rw [h]; simp
    · cases h
  | z :: l, h => by
    rw [insAt]
    split
    · rcases h with h | h
      · exact List.mem_cons_of_mem _ (insAt_mem x y l (.inl h))
      · rcases List.mem_cons.1 h with h | h
        · rw [h]; simp
        · exact List.mem_cons_of_mem _ (insAt_mem x y l (.inr h))
    · rcases h with h | h
      · rw [h]; simp
      · exact List.mem_cons_of_mem _ h
theorem insAt_sorted (x : Et) : ∀ l : List Et, Sorted l → Sorted (insAt x l)
  | [], _ => by simp [insAt, Sorted]
  | y :: l, h => by
    unfold Sorted at h ⊢
    rw [List.pairwise_cons] at h
    rw [insAt]
    split
    · next hlt =>
      rw [List.pairwise_cons]
      refine ⟨fun z hz => ?_, insAt_sorted x l h.2⟩
      rcases mem_insAt x z l hz with h1 | h1
      · rw [h1]; exact lt_asymm hlt
      · exact h.1 z h1
    · next hlt =>
      have hle : less y.path x.path = false := Bool.eq_false_iff.2 hlt
      rw [List.pairwise_cons]
      refine ⟨fun z hz => ?_, by rw [List.pairwise_cons]; exact h⟩
      rcases List.mem_cons.1 hz with h1 | h1
      · rw [h1]; exact hle
      · exact le_trans' hle (h.1 z h1)
theorem tsort_sorted (l : List Et) : Sorted (tsort l) := by
  have : ∀ (l o : List Et), Sorted o → Sorted (l.foldl (fun o x => insAt x o) o) := by
    intro l
    induction l with
    | nil => intro o h; exact h
    | cons x l ih => intro o h; rw [List.foldl_cons]; exact ih _ (insAt_sorted x o h)
  exact this l [] List.Pairwise.nil
theorem tsort_mem {y : Et} {l : List Et} (h : y ∈ l) : y ∈ tsort l := by
  have : ∀ (l o : List Et), y ∈ o ∨ y ∈ l → y ∈ l.foldl (fun o x => insAt x o) o := by
    intro l
    induction l with
    | nil =>
      intro o h
      rcases h with h | h
      · exact h
      · cases h
    | cons x l ih =>
      intro o h
      rw [List.foldl_cons]
      apply ih
      rcases h with h | h
      · exact .inl (insAt_mem x y o (.inr h))
      · rcases List.mem_cons.1 h with h | h
        · exact .inl (insAt_mem x y o (.inl h))
        · exact .inr h
  exact this l [] (.inr h)
theorem sorted_at {l : List Et} (h : Sorted l) {i j : Nat} {x y : Et} (hi : l[i]? = some x) (hj : l[j]? = some y) (hij : i ≤ j) : less y.path x.path = false := by
  rcases Nat.lt_or_eq_of_le hij with hlt | heq
  · obtain ⟨hil, hie⟩ := List.getElem?_eq_some_iff.1 hi
    obtain ⟨hjl, hje⟩ := List.getElem?_eq_some_iff.1 hj
    have := List.pairwise_iff_getElem.1 h i j hil hjl hlt
    rw [hie, hje] at this
    exact this
  · subst heq
    rw [hi] at hj
    injection hj with hj
    rw [hj]
    exact lt_irr _
theorem diffs_inv (la lb all : List Et) (hs : Sorted all) : ∀ k, k ≤ all.length →
    (diffs la lb all k).Pairwise (fun a b => less a b = true) ∧
    (∀ p ∈ diffs la lb all k, ∃ i x, i < k ∧ all[i]? = some x ∧ x.path = p ∧ tget la p ≠ tget lb p) ∧
    (∀ i x, i < k → all[i]? = some x → tget la x.path ≠ tget lb x.path → x.path ∈ diffs la lb all k)
  | 0, _ => ⟨List.Pairwise.nil, fun p hp => (by cases hp), fun i x hi => absurd hi (by omega)⟩
  | k + 1, hk => by
    obtain ⟨h1, h2, h3⟩ := diffs_inv la lb all hs k (by omega)
    obtain ⟨x, hx⟩ : ∃ x, all[k]? = some x := ⟨_, List.getElem?_eq_getElem (by omega)⟩
    rw [diffs_succ]
    by_cases ht : told la lb all k
    · rw [diffAt_yes hx ht]
      obtain ⟨x', hx', hfresh, hdiff⟩ := ht
      rw [hx] at hx'
      injection hx' with hx'
      subst hx'
      refine ⟨?_, fun p hp => ?_, fun i y hi hy hd => ?_⟩
      · rw [List.pairwise_append]
        refine ⟨h1, by simp, fun p hp q hq => ?_⟩
        rw [List.mem_singleton.1 hq]
        obtain ⟨i, y, hi, hy, hyp, _⟩ := h2 p hp
        have hle := sorted_at hs hy hx (by omega)
        rw [hyp] at hle
        refine lt_le hle (fun e => ?_)
        rcases hfresh with h0 | hfr
        · omega
        · obtain ⟨z, hz⟩ : ∃ z, all[k - 1]? = some z := ⟨_, List.getElem?_eq_getElem (by omega)⟩
          have a1 := sorted_at hs hy hz (by omega)
          have a2 := sorted_at hs hz hx (by omega)
          rw [hyp, e] at a1
          exact hfr z hz (lt_tri a1 a2)
      · rcases List.mem_append.1 hp with hp | hp
        · obtain ⟨i, y, hi, r⟩ := h2 p hp
          exact ⟨i, y, by omega, r⟩
        · rw [List.mem_singleton.1 hp]
          exact ⟨k, x, by omega, hx, rfl, hdiff⟩
      · by_cases e : i = k
        · subst e
          rw [hx] at hy
          injection hy with hy
          rw [← hy]
          simp
        · exact List.mem_append.2 (.inl (h3 i y (by omega) hy hd))
    · rw [diffAt_no hx ht, List.append_nil]
      refine ⟨h1, fun p hp => ?_, fun i y hi hy hd => ?_⟩
      · obtain ⟨i, y, hi, r⟩ := h2 p hp
        exact ⟨i, y, by omega, r⟩
      · by_cases e : i = k
        · subst e
          rw [hx] at hy
          injection hy with hy
          subst hy
          have hnf : ¬ (i = 0 ∨ ∀ y, all[i - 1]? = some y → y.path ≠ x.path) := fun hf => ht ⟨x, hx, hf, hd⟩
          have h0 : i ≠ 0 := fun h => hnf (.inl h)
          obtain ⟨z, hz⟩ : ∃ z, all[i - 1]? = some z := ⟨_, List.getElem?_eq_getElem (by omega)⟩
          have hzp : z.path = x.path := Decidable.byContradiction (fun hne => hnf (.inr fun y hy => by
            rw [hz] at hy
            injection hy with hy
            rw [← hy]
            exact hne))
          have := h3 (i - 1) z (by omega) hz (by rw [hzp]; exact hd)
          rw [hzp] at this
          exact this
        · exact h3 i y (by omega) hy hd
theorem tget_zero {l : List Et} {p : ByteArray} (h : ∀ x ∈ l, x.path ≠ p) : tget l p = ⟨0, ⟨#[]⟩⟩ := tget_none l p h
theorem tdiff_all (la lb : List Et) : (tdiff la lb).Pairwise (fun a b => less a b = true) ∧ (∀ p, p ∈ tdiff la lb ↔ tget la p ≠ tget lb p) ∧ ∀ p ∈ tdiff la lb, (∃ x ∈ la, x.path = p) ∨ ∃ x ∈ lb, x.path = p := by
  have hs := tsort_sorted (la ++ lb)
  have hlen : (tsort (la ++ lb)).length = la.length + lb.length := by rw [tsort_len, List.length_append]
  obtain ⟨h1, h2, h3⟩ := diffs_inv la lb (tsort (la ++ lb)) hs (la.length + lb.length) (by omega)
  refine ⟨h1, fun p => ⟨fun hp => ?_, fun hd => ?_⟩, fun p hp => ?_⟩
  · obtain ⟨i, x, _, _, _, hd⟩ := h2 p hp
    exact hd
  · have hex : ∃ x ∈ la ++ lb, x.path = p := by
      apply Classical.byContradiction
      intro hno
      apply hd
      rw [tget_zero (l := la) (fun x hx e => hno ⟨x, List.mem_append.2 (.inl hx), e⟩), tget_zero (l := lb) (fun x hx e => hno ⟨x, List.mem_append.2 (.inr hx), e⟩)]
    obtain ⟨x, hx, rfl⟩ := hex
    obtain ⟨i, hi⟩ := List.getElem?_of_mem (tsort_mem hx)
    exact h3 i x (by have := (List.getElem?_eq_some_iff.1 hi).1; omega) hi hd
  · obtain ⟨i, x, _, hx, hxp, _⟩ := h2 p hp
    have := mem_tsort (List.mem_of_getElem? hx)
    rcases List.mem_append.1 this with h | h
    · exact .inl ⟨x, h, hxp⟩
    · exact .inr ⟨x, h, hxp⟩
theorem tdiff_swap (la lb : List Et) : tdiff lb la = tdiff la lb := by
  obtain ⟨a1, a2, _⟩ := tdiff_all la lb
  obtain ⟨b1, b2, _⟩ := tdiff_all lb la
  exact rise_ext _ _ b1 a1 (fun p => by rw [a2, b2]; exact ⟨fun h e => h e.symm, fun h e => h e.symm⟩)
theorem tree_at {l : List Et} (h : tcheck l = 0) {i : Nat} {x : Et} (hx : l[i]? = some x) : chk x.path.data.toList 5 = 0 ∧ whole x.node = true ∧ x.node.kind ≠ 0 ∧ (i = 0 ∨ ∃ y, l[i - 1]? = some y ∧ less y.path x.path = true) := by
  have hi := (List.getElem?_eq_some_iff.1 hx).1
  have hok : okAt l i = true := by
    unfold tcheck at h
    split at h
    · cases h
    · split at h
      · next hall => exact List.all_eq_true.1 hall i (List.mem_range.2 hi)
      · cases h
  rw [okAt_eq hx] at hok
  simp only [Bool.and_eq_true, Bool.or_eq_true, decide_eq_true_eq, Bool.not_eq_true', decide_eq_false_iff_not] at hok
  obtain ⟨⟨⟨⟨c1, c2⟩, c3⟩, c4⟩, _⟩ := hok
  refine ⟨c1, c2, c3, ?_⟩
  rcases c4 with c4 | c4
  · exact .inl c4
  · by_cases h0 : i = 0
    · exact .inl h0
    · right
      obtain ⟨y, hy⟩ : ∃ y, l[i - 1]? = some y := ⟨_, List.getElem?_eq_getElem (by omega)⟩
      rw [hy] at c4
      exact ⟨y, hy, c4⟩
theorem tree_rise {l : List Et} (h : tcheck l = 0) : ∀ (j i : Nat) (x y : Et), l[i]? = some x → l[j]? = some y → i < j → less x.path y.path = true
  | 0, i, x, y, _, _, hij => absurd hij (by omega)
  | j + 1, i, x, y, hx, hy, hij => by
    rcases (tree_at h hy).2.2.2 with h0 | ⟨z, hz, hlt⟩
    · omega
    · rw [Nat.add_sub_cancel] at hz
      by_cases e : i = j
      · subst e
        rw [hx] at hz
        injection hz with hz
        rw [hz]
        exact hlt
      · exact lt_trans (tree_rise h j i x z hx hz (by omega)) hlt
theorem tree_get {l : List Et} (h : tcheck l = 0) {x : Et} (hx : x ∈ l) : tget l x.path = x.node := by
  obtain ⟨k, hk⟩ := List.getElem?_of_mem hx
  refine tget_hit l x.path k x hk rfl (fun y hy e => ?_)
  obtain ⟨i, hi⟩ := List.getElem?_of_mem hy
  rw [List.getElem?_take] at hi
  split at hi
  · next hik =>
    have := tree_rise h k i y x hi hk hik
    rw [e, lt_irr] at this
    cases this
  · cases hi
theorem tree_paths {l : List Et} (h : tcheck l = 0) : (l.map (·.path)).Pairwise (fun a b => less a b = true) := by
  rw [List.pairwise_iff_getElem]
  intro i j hi hj hij
  rw [List.length_map] at hi hj
  rw [List.getElem_map, List.getElem_map]
  exact tree_rise h j i _ _ (List.getElem?_eq_getElem hi) (List.getElem?_eq_getElem hj) hij
theorem tree_path_mem {l : List Et} (h : tcheck l = 0) (p : ByteArray) : p ∈ l.map (·.path) ↔ (tget l p).kind ≠ 0 := by
  constructor
  · intro hp
    obtain ⟨x, hx, rfl⟩ := List.mem_map.1 hp
    rw [tree_get h hx]
    obtain ⟨k, hk⟩ := List.getElem?_of_mem hx
    exact (tree_at h hk).2.2.1
  · intro hk
    apply Classical.byContradiction
    intro hno
    apply hk
    rw [tget_zero (fun x hx e => hno (List.mem_map.2 ⟨x, hx, e⟩))]
theorem tree_ext {la lb : List Et} (ha : tcheck la = 0) (hb : tcheck lb = 0) (h : ∀ p, tget la p = tget lb p) : la = lb := by
  have hp : la.map (·.path) = lb.map (·.path) := rise_ext _ _ (tree_paths ha) (tree_paths hb) (fun p => by rw [tree_path_mem ha, tree_path_mem hb, h])
  have form : ∀ {l : List Et}, tcheck l = 0 → l = (l.map (·.path)).map (fun p => ⟨p, tget l p⟩) := by
    intro l hl
    rw [List.map_map]
    conv => lhs; rw [← List.map_id l]
    refine List.map_congr_left (fun x hx => ?_)
    show x = ⟨x.path, tget l x.path⟩
    rw [tree_get hl hx]
  rw [form ha, form hb, hp]
  exact List.map_congr_left (fun p _ => by rw [h])
theorem tdiff_nil {la lb : List Et} (ha : tcheck la = 0) (hb : tcheck lb = 0) : (tdiff la lb).length = 0 ↔ la = lb := by
  obtain ⟨_, h2, _⟩ := tdiff_all la lb
  constructor
  · intro h0
    refine tree_ext ha hb (fun p => ?_)
    apply Classical.byContradiction
    intro hne
    have := (h2 p).2 hne
    rw [List.length_eq_zero_iff.1 h0] at this
    cases this
  · intro e
    subst e
    apply List.length_eq_zero_iff.2
    apply List.eq_nil_iff_forall_not_mem.2
    intro p hp
    exact (h2 p).1 hp rfl
theorem tdiff_path {la lb : List Et} (ha : tcheck la = 0) (hb : tcheck lb = 0) {p : ByteArray} (hp : p ∈ tdiff la lb) : chk p.data.toList 5 = 0 := by
  obtain ⟨_, _, h3⟩ := tdiff_all la lb
  rcases h3 p hp with ⟨x, hx, rfl⟩ | ⟨x, hx, rfl⟩
  · obtain ⟨k, hk⟩ := List.getElem?_of_mem hx
    exact (tree_at ha hk).1
  · obtain ⟨k, hk⟩ := List.getElem?_of_mem hx
    exact (tree_at hb hk).1
end Go.Proofs.Ytdpnmdnfnplcfaa.En

namespace Go.Proofs.Ytdpnmdnfnplcfaa.Sc
open Go.RowKit Tx Pm Pr Dk Od
open En (tcheck Et)
set_option linter.unusedVariables false
theorem less_more : ∀ (a : List UInt8) (c : UInt8) (r : List UInt8), Op.bytesLess a (a ++ c :: r) = true
  | [], c, r => rfl
  | x :: a, c, r => by
    rw [List.cons_append]
    have := less_more a c r
    simp [Op.bytesLess, this]
def Fresh (s0 s : St) (x : It) : Prop := x.loose = false ∧ ((x.dir = true ∧ x.stamp = 0 ∧ x.data = ⟨#[]⟩) ∨ (x.dir = false ∧ s0.stamps < x.stamp ∧ x.stamp ≤ s.stamps))
theorem Fresh.up {s0 s s' : St} {x : It} (h : Fresh s0 s x) (hs : s.stamps ≤ s'.stamps) : Fresh s0 s' x := by
  obtain ⟨h1, h2 | ⟨h2, h3, h4⟩⟩ := h
  · exact ⟨h1, .inl h2⟩
  · exact ⟨h1, .inr ⟨h2, h3, Nat.le_trans h4 hs⟩⟩
structure Mid (N : Nat) (s0 s : St) (v : ByteArray) (t : List Et) (k : Nat) : Prop where
  rb : Rb N s
  up : s0.stamps ≤ s.stamps
  vol : Dk.kind s.L v = 1
  others : s.L.filter (fun x => !inV v x) = s0.L.filter (fun x => !inV v x)
  done : ∀ i e, i < k → t[i]? = some e → ∃ x ∈ s.L, x.path = vp v e.path ∧ nodeOf x = e.node
  rest : ∀ x ∈ s.L, inV v x = true → ∃ e ∈ t, x.path = vp v e.path ∧ (nodeOf x).kind = e.node.kind ∧ (x ∈ s0.L ∨ Fresh s0 s x)
  keep : ∀ y ∈ s0.L, inV v y = true → y.dir = false → ∀ e ∈ t, y.path = vp v e.path → e.node = nodeOf y → y ∈ s.L
end Go.Proofs.Ytdpnmdnfnplcfaa.Sc

namespace Go.Proofs.Ytdpnmdnfnplcfaa.Sc
open Go.RowKit Tx Pm Pr Dk Od
set_option linter.unusedVariables false
def bel (L : List It) (f : ByteArray) : List ByteArray := (L.filter (inV f)).map (·.path)
theorem bel_mem {L : List It} {f p : ByteArray} : p ∈ bel L f ↔ ∃ x ∈ L, inV f x = true ∧ x.path = p := by
  unfold bel
  rw [List.mem_map]
  constructor
  · rintro ⟨x, hx, rfl⟩
    exact ⟨x, (List.mem_filter.1 hx).1, (List.mem_filter.1 hx).2, rfl⟩
  · rintro ⟨x, hx, hv, rfl⟩
    exact ⟨x, List.mem_filter.2 ⟨hx, hv⟩, rfl⟩
theorem inV_iff {f : ByteArray} (h0 : f ≠ ⟨#[]⟩) {x : It} : inV f x = true ↔ ∃ r, x.path.data.toList = f.data.toList ++ 47 :: r := by
  constructor
  · intro h
    have := inV_at h0 h
    exact ⟨(tl f x.path).data.toList, by conv => lhs; rw [this, vp_list]⟩
  · rintro ⟨r, hr⟩
    refine inV_vp (p := tb r) ?_
    apply ByteArray.ext
    apply Array.toList_inj.1
    rw [vp_list, hr]
    rfl
theorem list_mem {L : List It} {f p : ByteArray} : p ∈ Dk.list L f ↔ ∃ x ∈ L, tb (par x.path.data.toList) = f ∧ x.path = p := by
  unfold Dk.list
  rw [List.mem_map]
  constructor
  · rintro ⟨x, hx, rfl⟩
    exact ⟨x, (List.mem_filter.1 hx).1, of_decide_eq_true (List.mem_filter.1 hx).2, rfl⟩
  · rintro ⟨x, hx, hv, rfl⟩
    exact ⟨x, List.mem_filter.2 ⟨hx, decide_eq_true hv⟩, rfl⟩
theorem par_cut {f p : ByteArray} (h0 : f ≠ ⟨#[]⟩) (h : tb (par p.data.toList) = f) : p.data.toList = f.data.toList ++ 47 :: bas p.data.toList := by
  have e : f.data.toList = par p.data.toList := by rw [← h]; rfl
  rcases par_bas p.data.toList with ⟨_, hn, _⟩ | hh
  · rw [hn] at e
    exact absurd e (list_ne h0)
  · rw [e]; exact hh
theorem less_tr {a b c : ByteArray} (h1 : Op.bytesLess a.toList b.toList = true) (h2 : Op.bytesLess b.toList c.toList = true) : Op.bytesLess a.toList c.toList = true := En.lt_trans (a := a) (b := b) (c := c) h1 h2
theorem no_sib {f c1 c2 : ByteArray} {r : List UInt8} (h0 : f ≠ ⟨#[]⟩) (h1 : tb (par c1.data.toList) = f) (h2 : tb (par c2.data.toList) = f) (h : c2.data.toList = c1.data.toList ++ 47 :: r) : False := by
  have e1 := par_cut h0 h1
  have e2 : f.data.toList = par c2.data.toList := by rw [← h2]; rfl
  have l1 := congrArg List.length e1
  rw [List.length_append, List.length_cons] at l1
  have l2 := congrArg List.length e2
  rw [h, par, last_app, List.length_take, List.length_append, List.length_cons] at l2
  omega
def kids (L : List It) (f : ByteArray) : List ByteArray := (Dk.list L f).flatMap fun p => p :: if kind L p = 1 then bel L p else []
theorem list_ne0 {L : List It} {f c : ByteArray} (hL : Wf L) (h : c ∈ Dk.list L f) : c ≠ ⟨#[]⟩ := by
  obtain ⟨x, hx, _, rfl⟩ := list_mem.1 h
  exact chk_ne (hL.names x hx)
theorem head_in {L : List It} {f c : ByteArray} (h : c ∈ Dk.list L f) : c ∈ kids L f := List.mem_flatMap.2 ⟨c, h, List.mem_cons_self ..⟩
theorem kids_up {L : List It} {f c p : ByteArray} (hL : Wf L) (h : c ∈ Dk.list L f) (hk : kind L c = 1) (hp : p ∈ bel L c) : p ∈ kids L f := List.mem_flatMap.2 ⟨c, h, by rw [if_pos hk]; exact List.mem_cons_of_mem _ hp⟩
theorem kind_of {L : List It} (hL : Wf L) {z : It} (hz : z ∈ L) (hd : z.dir = true) : kind L z.path = 1 := by
  rw [kind, Sc.find_one hL.rises hz]
  show (if z.dir then 1 else 2) = 1
  rw [hd]; rfl
theorem kids_in {L : List It} {f : ByteArray} (hL : Wf L) (h0 : f ≠ ⟨#[]⟩) : ∀ (n : Nat) (p : ByteArray), p.size ≤ n → p ∈ bel L f → p ∈ kids L f := by
  intro n
  induction n with
  | zero =>
    intro p hn hp
    obtain ⟨x, hx, hv, rfl⟩ := bel_mem.1 hp
    exact absurd (size_zero.1 (by omega)) (chk_ne (hL.names x hx))
  | succ n ih =>
    intro p hn hp
    obtain ⟨x, hx, hv, rfl⟩ := bel_mem.1 hp
    obtain ⟨r, hr⟩ := (inV_iff h0).1 hv
    have hfn := list_ne h0
    have hpe : par x.path.data.toList = f.data.toList ++ (47 :: r).take (lastN r) := by
      rw [hr, par, last_app, List.take_append, List.take_of_length_le (by omega)]
      congr 2
      omega
    have hpn : par x.path.data.toList ≠ [] := by
      rw [hpe]
      intro h
      exact hfn (List.append_eq_nil_iff.1 h).1
    obtain ⟨z, hz, hzp, hzd⟩ := hL.homes x hx hpn
    have hcut : x.path.data.toList = z.path.data.toList ++ 47 :: bas x.path.data.toList := par_cut (chk_ne (hL.names z hz)) hzp.symm
    by_cases h1 : lastN r = 0
    · refine head_in (list_mem.2 ⟨x, hx, ?_, rfl⟩)
      rw [hpe, h1, List.take_zero, List.append_nil, tb_of]
    · obtain ⟨k, hk⟩ : ∃ k, lastN r = k + 1 := ⟨lastN r - 1, by omega⟩
      rw [hk, List.take_succ_cons] at hpe
      have hzl : z.path.data.toList = f.data.toList ++ 47 :: r.take k := by
        rw [hzp]
        show par x.path.data.toList = _
        exact hpe
      have hzb : z.path ∈ bel L f := bel_mem.2 ⟨z, hz, (inV_iff h0).2 ⟨_, hzl⟩, rfl⟩
      have hsz := congrArg List.length hcut
      rw [List.length_append, List.length_cons, len_l, len_l] at hsz
      have hin := ih z.path (by omega) hzb
      obtain ⟨c, hc, hq⟩ := List.mem_flatMap.1 hin
      have hc0 := list_ne0 hL hc
      rcases List.mem_cons.1 hq with hq | hq
      · have hk1 := kind_of hL hz hzd
        rw [hq] at hk1
        refine kids_up hL hc hk1 (bel_mem.2 ⟨x, hx, (inV_iff hc0).2 ⟨bas x.path.data.toList, ?_⟩, rfl⟩)
        rw [← hq]; exact hcut
      · by_cases hk1 : kind L c = 1
        · rw [if_pos hk1] at hq
          obtain ⟨z2, hz2, hzv, hze⟩ := bel_mem.1 hq
          obtain ⟨r2, hr2⟩ := (inV_iff hc0).1 hzv
          refine kids_up hL hc hk1 (bel_mem.2 ⟨x, hx, (inV_iff hc0).2 ⟨r2 ++ 47 :: bas x.path.data.toList, ?_⟩, rfl⟩)
          have hc2 := hcut
          rw [← hze, hr2, List.append_assoc] at hc2
          exact hc2
        · rw [if_neg hk1] at hq
          cases hq
theorem kids_out {L : List It} {f p : ByteArray} (hL : Wf L) (h0 : f ≠ ⟨#[]⟩) (h : p ∈ kids L f) : p ∈ bel L f := by
  obtain ⟨c, hc, hq⟩ := List.mem_flatMap.1 h
  obtain ⟨y, hy, hyf, rfl⟩ := list_mem.1 hc
  have e := par_cut h0 hyf
  have hc0 := chk_ne (hL.names y hy)
  rcases List.mem_cons.1 hq with rfl | hq
  · exact bel_mem.2 ⟨y, hy, (inV_iff h0).2 ⟨_, e⟩, rfl⟩
  · split at hq
    · obtain ⟨x, hx, hv, rfl⟩ := bel_mem.1 hq
      obtain ⟨r, hr⟩ := (inV_iff hc0).1 hv
      exact bel_mem.2 ⟨x, hx, (inV_iff h0).2 ⟨bas y.path.data.toList ++ 47 :: r, (hr.trans (congrArg (· ++ 47 :: r) e)).trans (by show (f.data.toList ++ 47 :: bas y.path.data.toList) ++ 47 :: r = _; rw [List.append_assoc]; rfl)⟩, rfl⟩
    · cases hq
theorem bel_rise {L : List It} (hL : Wf L) (f : ByteArray) : (bel L f).Pairwise (fun a b => Op.bytesLess a.toList b.toList = true) := by
  unfold bel
  rw [List.pairwise_map]
  exact List.Pairwise.filter _ hL.rises
theorem list_rise {L : List It} (hL : Wf L) (f : ByteArray) : (Dk.list L f).Pairwise (fun a b => Op.bytesLess a.toList b.toList = true) := by
  unfold Dk.list
  rw [List.pairwise_map]
  exact List.Pairwise.filter _ hL.rises
theorem below_more {L : List It} {c p : ByteArray} (h0 : c ≠ ⟨#[]⟩) (h : p ∈ bel L c) : Op.bytesLess c.toList p.toList = true := by
  obtain ⟨x, hx, hv, rfl⟩ := bel_mem.1 h
  obtain ⟨r, hr⟩ := (inV_iff h0).1 hv
  rw [ByteArray.toList_eq, ByteArray.toList_eq, hr]
  exact less_more _ _ _
theorem kids_rise {L : List It} {f : ByteArray} (hL : Wf L) (h0 : f ≠ ⟨#[]⟩) : (kids L f).Pairwise (fun a b => Op.bytesLess a.toList b.toList = true) := by
  unfold kids
  rw [List.pairwise_flatMap]
  constructor
  · intro c hc
    have hc0 := list_ne0 hL hc
    refine List.pairwise_cons.2 ⟨fun p hp => ?_, ?_⟩
    · split at hp
      · exact below_more hc0 hp
      · cases hp
    · split
      · exact bel_rise hL c
      · exact List.Pairwise.nil
  · refine List.Pairwise.imp_of_mem (fun {c1 c2} hc1 hc2 hlt => ?_) (list_rise hL f)
    have n1 := list_ne0 hL hc1
    have n2 := list_ne0 hL hc2
    obtain ⟨y1, hy1, hf1, rfl⟩ := list_mem.1 hc1
    obtain ⟨y2, hy2, hf2, rfl⟩ := list_mem.1 hc2
    have hu : und y2.path.data.toList y1.path.data.toList = false := by
      cases hh : und y2.path.data.toList y1.path.data.toList
      · rfl
      · exfalso
        have hne : y2.path ≠ y1.path := fun e => by
          rw [e, less_irr] at hlt
          cases hlt
        rw [und_eq n1 hne, List.isPrefixOf_iff_prefix] at hh
        obtain ⟨r, hr⟩ := hh
        refine no_sib (r := r) h0 hf1 hf2 ?_
        rw [← hr, List.append_assoc]
        rfl
    have key : ∀ a, (a ∈ y1.path :: if kind L y1.path = 1 then bel L y1.path else []) → Op.bytesLess a.toList y2.path.toList = true := by
      intro a ha
      rcases List.mem_cons.1 ha with rfl | ha
      · exact hlt
      · split at ha
        · obtain ⟨x, hx, hv, rfl⟩ := bel_mem.1 ha
          obtain ⟨r, hr⟩ := (inV_iff n1).1 hv
          have ho := order (b := r) (ok_of (hL.names y2 hy2)).2 hu
          rw [ByteArray.toList_eq, ByteArray.toList_eq] at hlt ⊢
          rcases ho with h1 | ⟨h1, h2⟩
          · have := less_asymm _ _ hlt
            rw [h1] at this
            cases this
          · rw [hr]
            cases h3 : Op.bytesLess (y1.path.data.toList ++ 47 :: r) y2.path.data.toList
            · exact absurd (En.less_tri _ _ h1 h3) h2
            · rfl
        · cases ha
    intro a ha b hb
    have ha2 := key a ha
    rcases List.mem_cons.1 hb with rfl | hb
    · exact ha2
    · split at hb
      · exact less_tr ha2 (below_more n2 hb)
      · cases hb
theorem bel_kids {L : List It} {f : ByteArray} (hL : Wf L) (h0 : f ≠ ⟨#[]⟩) : bel L f = kids L f :=
  En.rise_ext _ _ (bel_rise hL f) (kids_rise hL h0) fun p => ⟨fun h => kids_in hL h0 _ p (Nat.le_refl _) h, fun h => kids_out hL h0 h⟩
theorem le_sumN {l : List Nat} {x : Nat} (h : x ∈ l) : x ≤ l.sum := by
  induction l with
  | nil => cases h
  | cons y l ih =>
    rw [List.sum_cons]
    rcases List.mem_cons.1 h with rfl | h
    · omega
    · have := ih h
      omega
theorem bel_less {L : List It} {f c : ByteArray} (hL : Wf L) (h0 : f ≠ ⟨#[]⟩) (hc : c ∈ Dk.list L f) : (bel L c).length < (bel L f).length := by
  have h1 : kids L f = bel L f := (bel_kids hL h0).symm
  rw [← h1]
  by_cases hk : kind L c = 1
  · unfold kids
    rw [List.length_flatMap]
    have h2 : (c :: if kind L c = 1 then bel L c else []).length ≤ (List.map (fun a => (a :: if kind L a = 1 then bel L a else []).length) (Dk.list L f)).sum := le_sumN (List.mem_map.2 ⟨c, hc, rfl⟩)
    rw [if_pos hk, List.length_cons] at h2
    omega
  · have e : bel L c = [] := by
      have hc0 := list_ne0 hL hc
      rw [bel_kids hL hc0]
      unfold kids
      rw [wf_file hL hc0 hk]
      rfl
    rw [e]
    exact List.length_pos_iff.2 (List.ne_nil_of_mem (head_in hc))
end Go.Proofs.Ytdpnmdnfnplcfaa.Sc

namespace Go.Proofs.Ytdpnmdnfnplcfaa.Sc
open Go.RowKit Tx Pm Pl Pr Dk
set_option linter.unusedVariables false
theorem imp_below {b : Nat} {w W : World} {F : Nat → Prop} {s : St} (h : ImpAt b w F s) (hb : Below w.heap.size w W) : ImpAt b W F s := (imp_kind b).kept h (fun i hi => hb.block i ((imp_kind b).lt h i hi))
structure Lk (s : St) : Prop where
  ok : Ok s
  wf : Wf s.L
  len : s.L.length ≤ 100000
theorem own_lowT {w : World} {B B2 : Nat} {v : Value} {l : List ByteArray} (h : Texts w B v l) (hb : B2 ≤ B) : Texts w B2 v l := own_low h hb
set_option maxRecDepth 100000 in
theorem wp_append_txt {w : World} {ops : Array Oper} {rest : List Oper} {o : Oper} {a : Act} {Q : Exit → Act → World → Prop} {v : Value} {l0 l : List ByteArray} {n c : Nat} {A : Option Addr} (hgd : o.guard = none) (s x : Operand)
    (ho : o.op = .call { callee := .builtin .append, args := #[s, x], argTypes := #[25, 25] }) (base : Nat) (hs : a.eval s = v) (hown : Texts w base v l0) (hx : a.eval x = .slice A n c)
    (hl : Strs w A n l) (hnil : A = none → c = 0) (hn : (l0.length + n) * 16 ≤ 140737488355328) (hb : base ≤ w.heap.size)
    (h : ∀ v' w', Texts w' base v' (l0 ++ l) → w.grownBy w' v.ownBlock → wpList Try.prog ops Q rest (a.put o.dst v') w') : wpList Try.prog ops Q (o :: rest) a w := by
  obtain ⟨i0, hi, hz0, hz1, hz2⟩ := info_parts info9
  have hln := hl.1
  cases A with
  | none =>
    have h0 : n = 0 := by
      rcases hl.2 with h | ⟨_, _, h, _⟩
      · exact h
      · cases h
    subst h0
    obtain rfl := hnil rfl
    obtain rfl : l = [] := List.length_eq_zero_iff.1 hln
    refine wpList_append_own_none hgd s x 25 ho base 9 i0 1 Try.underlying25 hi v l0.length (l0.map sv) hs hown hx (h v w ?_ ⟨rfl, rfl, rfl, Nat.le_refl _, fun _ _ _ => rfl⟩)
    rw [List.append_nil]
    exact hown
  | some ad =>
    refine wpList_append_own w hgd s x 25 ho base 9 i0 (.string ⟨#[]⟩) 1 16 Try.underlying25 hi hz0 hz1 hz2 rfl (by decide) v l0.length (l0.map sv) hs hown ad n c (l.map sv) hx (by rw [List.length_map, hln, Nat.mul_one]) (fun j u hu => ?_) (sv_one l) (by unfold maxLen; omega) hn hb ?_
    · rw [List.getElem?_map] at hu
      obtain ⟨y, hy, rfl⟩ := Option.map_eq_some_iff.1 hu
      have hj := (List.getElem?_eq_some_iff.1 hy).1
      obtain ⟨b, off, ha, hbl, hc⟩ := hl.2.resolve_left (by omega)
      injection ha with ha
      subst ha
      rw [WideShapes.add_plain]
      exact hc j y hy
    · intro v' w' h1 h2 h3
      refine h v' w' ?_ h2
      unfold Texts
      rw [List.length_append, hln, List.map_append]
      exact h1
theorem Texts.more {w : World} {B : Nat} {v : Value} {l : List ByteArray} (h : Texts w B v l) : ∃ a c, v = .slice a l.length c ∧ Strs w a l.length l ∧ (a = none → c = 0) := by
  obtain ⟨a, c, hv, hs, h1, h2⟩ := h.form
  refine ⟨a, c, hv, hs, fun e => ?_⟩
  rcases h.2 with ⟨hv2, h0⟩ | ⟨g, cap, cur, hv2, _⟩
  · rw [hv] at hv2
    injection hv2
  · rw [hv, e] at hv2
    injection hv2 with hv2
    cases hv2
def upK (L : List It) (f : ByteArray) (k : Nat) : List ByteArray := ((Dk.list L f).take k).flatMap fun p => p :: if kind L p = 1 then bel L p else []
theorem upK_next {L : List It} {f : ByteArray} {k : Nat} {p : ByteArray} (h : (Dk.list L f)[k]? = some p) : upK L f (k + 1) = (upK L f k ++ [p]) ++ if kind L p = 1 then bel L p else [] := by
  unfold upK
  rw [List.take_add_one, h, List.flatMap_append]
  show _ ++ List.flatMap _ [p] = _
  rw [List.flatMap_cons, List.flatMap_nil, List.append_nil, List.append_assoc]
  rfl
theorem upK_len {L : List It} {f : ByteArray} (hL : Wf L) (h0 : f ≠ ⟨#[]⟩) (k : Nat) : (upK L f k).length ≤ L.length := by
  have h1 : (upK L f k).length ≤ (kids L f).length := by
    unfold upK kids
    conv => rhs; rw [← List.take_append_drop k (Dk.list L f), List.flatMap_append, List.length_append]
    omega
  rw [← bel_kids hL h0] at h1
  unfold bel at h1
  rw [List.length_map] at h1
  exact Nat.le_trans h1 (List.length_filter_le _ _)
set_option maxRecDepth 100000 in
set_option maxHeartbeats 4000000 in
theorem below_any (b : Nat) (s : St) (F : Nat → Prop) (lk : Lk s) : ∀ (n : Nat) (f : ByteArray) (w : World), (bel s.L f).length < n → f ≠ ⟨#[]⟩ → f.size ≤ 1048576 → ImpAt b w F s →
    Calls Try.prog 37 #[.pointer (some ⟨b, 0, none⟩), .string f] w (ListTo (bel s.L f) w) := by
  intro n
  induction n with
  | zero => intro f w h; omega
  | succ n ih =>
    intro f w hn h0 hf h
    have cl := ok_list (p := f) h lk.ok
    have hrec : ∀ p ∈ Dk.list s.L f, ∀ W, Below w.heap.size w W → Calls Try.prog 37 #[.pointer (some ⟨b, 0, none⟩), .string p] W (ListTo (bel s.L p) W) := fun p hp W hW => by
      obtain ⟨x, hx, _, rfl⟩ := list_mem.1 hp
      have := bel_less lk.wf h0 hp
      exact ih _ W (by omega) (chk_ne (lk.wf.names x hx)) (Nat.le_trans (chk_short (lk.wf.names x hx) (by omega)) (by omega)) (imp_below h hW)
    have hkind : ∀ p ∈ Dk.list s.L f, ∀ W, Below w.heap.size w W → Calls Try.prog 39 #[.pointer (some ⟨b, 0, none⟩), .string p] W fun e w' => e = .returned (.int .i64 (Dk.kind s.L p : Nat)) ∧ W = w' := fun p hp W hW => by
      obtain ⟨x, hx, _, rfl⟩ := list_mem.1 hp
      exact ok_kind (imp_below h hW) (Nat.le_trans (chk_short (lk.wf.names x hx) (by omega)) (by omega))
    have hup := fun k => upK_len lk.wf h0 k
    have hlen := lk.len
    have hll : (Dk.list s.L f).length ≤ 100000 := Nat.le_trans (by unfold Dk.list; rw [List.length_map]; exact List.length_filter_le _ _) hlen
    have HR := Lib.hid hrec
    have HK := Lib.hid hkind
    have HU : Hid (∀ k, (upK s.L f k).length ≤ 100000) := fun k => Nat.le_trans (hup k) hlen
    have HBK : Hid (bel s.L f = kids s.L f) := bel_kids lk.wf h0
    clear hrec hkind ih hup hlen lk h hn
    obtain ⟨i0, hi, hz0, hz1, hz2⟩ := info_parts info9
    go_enter Try.func37, Try.ntmps37
    go_wp2_with fail
    go_at_call 52
    refine cl.mono ?_
    rintro e w1 ⟨v, rfl, hv, hb1⟩
    obtain ⟨a, c, rfl, hS, _⟩ := Texts.more hv
    obtain ⟨m, hm⟩ : ∃ m, m = (Dk.list s.L f).length := ⟨_, rfl⟩
    have HM := Lib.hid hm
    rw [← hm] at hS hll ⊢
    have HS := Lib.hid hS
    have HB1 := Lib.hid hb1
    clear hv hS hb1 cl hm
    go_wp2_with fail
    go_loopw [5, 7, 12] (fun vo _ i wr => ∃ k : Nat, k ≤ m ∧ i = .int .i64 (k : Int) ∧ Hid (Texts wr w1.heap.size vo (upK s.L f k)) ∧ Hid (Below w1.heap.size w1 wr)) (fun _ _ i _ => m - (intOf i).toNat)
    case atStart => exact ⟨0, Nat.zero_le _, rfl, World.ownsRow_nil _ _ _ _, Below.refl _ _⟩
    case round =>
      obtain ⟨k, hk, rfl, HO, HB⟩ := hrel
      have HBW : Hid (Below w.heap.size w wr) := HB1.out.trans (HB.out.mono HB1.out.size)
      by_cases hlt : k < m
      · have hltz : (k : Int) < (m : Int) := by omega
        obtain ⟨g, off, rfl, hg, hc⟩ := HS.out.2.resolve_left (by omega)
        obtain ⟨p, hp⟩ : ∃ p, (Dk.list s.L f)[k]? = some p := ⟨_, List.getElem?_eq_getElem (by rw [← HM.out]; exact hlt)⟩
        have hpm := List.mem_of_getElem? hp
        have d0 := (HB.out.cell (p := ⟨g, _, none⟩) hg).trans (hc k p hp)
        have hnx := upK_next hp
        have hT := HU.out k
        have hT2 := HU.out (k + 1)
        have hKp := HK.out p hpm
        have hRp := HR.out p hpm
        clear hc hp hpm
        obtain ⟨T, hTe⟩ : ∃ T, T = (upK s.L f k).length := ⟨_, rfl⟩
        rw [← hTe] at hT
        have hown : wr.ownsRow w1.heap.size 9 1 u5 T ((upK s.L f k).map sv) := by rw [hTe]; exact HO.out
        have HTE := Lib.hid hTe
        have HNX := Lib.hid hnx
        have HKP := Lib.hid hKp
        have HRP := Lib.hid hRp
        clear hTe hnx hKp hRp HO
        have hB := HB.out
        go_wp2_with (at_builtin; refine wpList_append_own _ rfl _ _ 25 rfl w1.heap.size 9 i0 (.string ⟨#[]⟩) 1 16 Try.underlying25 hi hz0 hz1 hz2 rfl (by decide) _ _ _ rfl (hown.alloc _) ⟨wr.heap.size, 0, none⟩ 1 1 [sv p] rfl rfl ?c1 ?c2 ?c3 ?c4 ?c5 ?_)
        case c1 => exact cell_one_new _ _ _
        case c2 => exact sv_one [p]
        case c3 => unfold maxLen; omega
        case c4 => omega
        case c5 => have := hB.size; simp; omega
        intro v2 w2 hown2 hgrow2 _
        have hB2 := below_step hB hown hgrow2
        have hO2 : Texts w2 w1.heap.size v2 (upK s.L f k ++ [p]) := by
          unfold Texts
          rw [List.length_append, ← HTE.out, List.map_append]
          exact hown2
        have HO2 := Lib.hid hO2
        have HB2 := Lib.hid hB2
        have HBW2 : Hid (Below w.heap.size w w2) := HB1.out.trans (hB2.mono HB1.out.size)
        clear hown hown2 hgrow2 hB2 hO2 hB d0
        go_wp2_with fail
        go_at_call 39
        refine (HKP.out _ HBW2.out).mono ?_
        rintro e w2' ⟨rfl, rfl⟩
        by_cases hkd : Dk.kind s.L p = 1
        · have HNX2 : Hid (upK s.L f (k + 1) = (upK s.L f k ++ [p]) ++ bel s.L p) := by have := HNX.out; rw [if_pos hkd] at this; exact this
          rw [hkd]
          have HRP2 := Lib.hid (HRP.out w2 HBW2.out)
          clear HNX HRP HKP hkd
          go_wp2_with fail
          go_at_call 37
          refine HRP2.out.mono ?_
          rintro e w3 ⟨v3, rfl, hv3, hb3⟩
          obtain ⟨a3, c3, rfl, hS3, hnil3⟩ := Texts.more hv3
          have hO3 : Texts w3 w1.heap.size v2 (upK s.L f k ++ [p]) := HO2.out.below hb3
          have hB3 : Below w1.heap.size w1 w3 := HB2.out.trans (hb3.mono HB2.out.size)
          have hsz : ((upK s.L f k ++ [p]).length + (bel s.L p).length) * 16 ≤ 140737488355328 := by
            rw [HNX2.out, List.length_append] at hT2
            omega
          have hb3s := hB3.size
          clear HRP2 hv3
          go_wp2_with (at_builtin; refine wp_append_txt rfl _ _ rfl w1.heap.size rfl hO3 rfl hS3 hnil3 hsz hb3s ?_)
          intro v4 w4 hO4 hg4
          have hB4 : Below w1.heap.size w1 w4 := hB3.grown hg4 hb3s (fun q hq => (World.ownsRow.lt hO3 q hq).1)
          have hO5 : Texts w4 w1.heap.size v4 (upK s.L f (k + 1)) := by rw [HNX2.out, List.append_assoc]; exact hO4
          have HO4 := Lib.hid hO5
          have HB4 := Lib.hid hB4
          clear hO3 hB3 hsz hb3s hS3 hnil3 hO4 hO5 hg4 hB4 hb3
          go_wp2_with fail
          go_roundw
          case rel => exact ⟨k + 1, by omega, by go_num, HO4, HB4⟩
          case measure => simp only [intOf]; omega
        · have HNX2 : Hid (upK s.L f (k + 1) = upK s.L f k ++ [p]) := by have := HNX.out; rw [if_neg hkd, List.append_nil] at this; exact this
          have e1 : ¬ ((Dk.kind s.L p : Nat) : Int) = 1 := by omega
          clear HNX HRP HKP hkd
          go_wp2_with fail
          go_roundw
          case rel => exact ⟨k + 1, by omega, by go_num, by rw [HNX2.out]; exact HO2, HB2⟩
          case measure => simp only [intOf]; omega
      · have hkn : k = m := by omega
        have e2 : ¬ (k : Int) < (m : Int) := by omega
        have HALL : Hid (upK s.L f k = kids s.L f) := by
          show _ = _
          unfold upK kids
          rw [List.take_of_length_le (by rw [hkn]; exact Nat.le_of_eq HM.out.symm)]
        clear hkn
        go_wp2_with fail
        go_ret
        have ho := HO.out
        rw [HALL.out, ← HBK.out] at ho
        exact ⟨_, rfl, own_lowT ho HB1.out.size, HBW.out⟩
end Go.Proofs.Ytdpnmdnfnplcfaa.Sc

namespace Go.Proofs.Ytdpnmdnfnplcfaa.Sc
open Go.RowKit Tx
set_option linter.unusedVariables false
theorem laidOutK : laidOutB Try.prog = true := by kernel_rfl
theorem wideK : (match Try.prog.underlying 70 with | some (.array _ _) | some (.struct _) => true | _ => false) = true := by rw [Try.underlying70]
set_option maxRecDepth 100000 in
theorem keyL : WideMaps.KeyLaw Try.prog 70 := deep_law_laid laidOutK (m := 2) (by omega) (of_decide_eq_true (by kernel_rfl)) (by kernel_rfl) wideK
theorem keyedS : Go.Maps.Keyed Try.prog 70 := Go.Maps.Keyed.of_law keyL
def kv (p : ByteArray) (st : Int) : Value := .agg #[.string p, .int .i64 st]
def kvL (p : ByteArray) (st : Int) : Lit := .string (keyBytes [.string p.data.toList, .int .i64 st])
theorem cellsK : Try.prog.cellsOf 70 = 2 := by kernel_rfl
theorem one_str (d : Nat) (p : ByteArray) (hp : p.size ≤ maxLen) : Try.prog.keyLits (d + 1) 9 [.string p] = some [.string p.data.toList] := by
  unfold Program.keyLits
  rw [Try.underlying9]
  simp only [if_pos hp]
theorem one_int (d : Nat) (st : Int) (hs : (Lit.int .i64 st).wf = true) : Try.prog.keyLits (d + 1) 3 [.int .i64 st] = some [.int .i64 st] := by
  unfold Program.keyLits
  rw [Try.underlying3]
  simp only [hs, and_self, if_true]
theorem key_of {p : ByteArray} {st : Int} (hp : p.size ≤ maxLen) (hs : (Lit.int .i64 st).wf = true) : keyOf Try.prog 70 (kv p st) = some (kvL p st) := by
  have h1 := one_str (Try.prog.types.size - 1) p hp
  have h2 := one_int (Try.prog.types.size - 1) st hs
  have hsz : Try.prog.types.size - 1 + 1 = Try.prog.types.size := by kernel_rfl
  rw [hsz] at h1 h2
  have hform : (kv p st).formed Try.prog 70 = true := by
    unfold kv Value.formed
    simp only [Try.underlying70, cellsK]
    rfl
  have hkt : Try.prog.keyType 70 = true := by kernel_rfl
  unfold keyOf
  rw [Try.underlying70]
  simp only [hform, hkt, Bool.and_self, if_true]
  unfold Program.keyLits
  rw [Try.underlying70]
  simp only [cellsK]
  have e1 : Try.prog.cellsOf 9 = 1 := by kernel_rfl
  have e2 : Try.prog.cellsOf 3 = 1 := by kernel_rfl
  have ec : (kv p st).cells.toList = [.string p, .int .i64 st] := rfl
  rw [ec, if_pos ⟨rfl, by decide +kernel⟩]
  simp only [List.mapM_cons, List.mapM_nil, e1, e2, List.drop_zero, List.drop_succ_cons, List.take_succ_cons, List.take_zero, h1, h2]
  rfl
theorem kvL_inj {p q : ByteArray} {a b : Int} (hp : p.size ≤ maxLen) (hq : q.size ≤ maxLen) (ha : (Lit.int .i64 a).wf = true) (hb : (Lit.int .i64 b).wf = true) (h : kvL p a = kvL q b) : p = q ∧ a = b := by
  have h1 := key_of hp ha
  have h2 := key_of hq hb
  rw [← h] at h2
  have h3 := keyL.inj h1 h2
  unfold kv at h3
  simp at h3
  exact h3
end Go.Proofs.Ytdpnmdnfnplcfaa.Sc

namespace Go.Proofs.Ytdpnmdnfnplcfaa.Sc
open Go.RowKit Tx Pm Pr Dk
set_option linter.unusedVariables false
def ndV (n : En.Nd) : Value := .agg #[.int .i64 n.kind, .string n.data]
def ndD (n : En.Nd) : DataW Unit := .agg [.lit (.int .i64 n.kind), .lit (.string n.data.data.toList)]
def nodeR : Value → Option (DataW Unit × List MemPlace)
  | .agg ⟨[.int .i64 k, .string s]⟩ => some (ndD ⟨k, s⟩, [])
  | _ => none
theorem nodeR_nd (n : En.Nd) : nodeR (ndV n) = some (ndD n, []) := rfl
theorem nodeR_inv {v : Value} {z : DataW Unit × List MemPlace} (h : nodeR v = some z) : ∃ n, v = ndV n ∧ z = (ndD n, []) := by
  unfold nodeR at h
  split at h
  · cases h
    exact ⟨_, rfl, rfl⟩
  · cases h
theorem ndD_inj {n m : En.Nd} (h : ndD n = ndD m) : n = m := by
  obtain ⟨k, d⟩ := n
  obtain ⟨k', d'⟩ := m
  unfold ndD at h
  simp only [DataW.agg.injEq, List.cons.injEq, DataW.lit.injEq, Lit.int.injEq, Lit.string.injEq, true_and, and_true] at h
  obtain ⟨h1, h2⟩ := h
  rw [h1, ByteArray.ext (Array.toList_inj.1 h2)]
theorem zeroNd (w : World) : (zeroValue 29).run Try.prog w = .ok (ndV ⟨0, ⟨#[]⟩⟩) w := by kernel_rfl
def kfd (K : List Sn) (p : ByteArray) (st : Nat) : Option Sn := K.find? fun y => decide (y.path = p) && decide (y.stamp = st)
def kb (p : ByteArray) (st : Nat) : Prop := p.size ≤ maxLen ∧ (Lit.int .i64 (st : Int)).wf = true
def Kn (w : World) (b : Nat) (K : List Sn) : Prop := ∃ D : DataW Unit, w.ownsMap Try.prog 70 nodeR b K.length D ∧ ∀ p st z, kb p st → D.atKey (kvL p (st : Int)) z = match kfd K p st with
  | some y => ndD y.node
  | none => z
theorem kn_made (w : World) : Kn (w.alloc (.map #[] 0)) w.heap.size [] := ⟨_, World.ownsMap_made w _ _ _, fun p st z _ => rfl⟩
theorem Kn.lt {w : World} {b : Nat} {K : List Sn} (h : Kn w b K) : b < w.heap.size := by
  obtain ⟨D, h, _⟩ := h
  exact h.lt
theorem Kn.kept {w w1 : World} {b : Nat} {K : List Sn} (h : Kn w b K) (he : w1.heap[b]? = w.heap[b]?) : Kn w1 b K := by
  obtain ⟨D, ⟨es, clock, hb, r⟩, q⟩ := h
  exact ⟨D, ⟨es, clock, he.trans hb, r⟩, q⟩
theorem Kn.store {w : World} {b : Nat} {K : List Sn} (h : Kn w b K) {x : Sn} (hx : kb x.path x.stamp) (hn : K.length < maxLen) :
    ∃ w', (Instr.mapUpdate 63 (.map (some b)) (kv x.path (x.stamp : Int)) (ndV x.node)).run Try.prog w = .ok () w' ∧ Kn w' b (x :: K) ∧ w.mapTurned w' b := by
  obtain ⟨D, ho, hr⟩ := h
  obtain ⟨w', hrun, ho', ht⟩ := ho.store keyedS Try.underlying63 hn (key_of hx.1 hx.2) (nodeR_nd x.node)
  refine ⟨w', hrun, ⟨_, ho', fun p st z hp => ?_⟩, ht⟩
  unfold kfd
  by_cases he : x.path = p ∧ x.stamp = st
  · obtain ⟨rfl, rfl⟩ := he
    rw [Go.Maps.atKey_put_same ho.isMap (show WideAt.IsKeyLit (kvL x.path (x.stamp : Int)) from trivial), List.find?_cons_of_pos (by simp)]
  · rw [List.find?_cons_of_neg (by simp; exact fun e1 e2 => he ⟨e1, e2⟩)]
    rw [Go.Maps.atKey_put_other (fun e => he (by
      obtain ⟨e1, e2⟩ := kvL_inj hp.1 hx.1 hp.2 hx.2 e
      exact ⟨e1.symm, by omega⟩))]
    exact hr p st z hp
theorem Kn.look {w : World} {b : Nat} {K : List Sn} (h : Kn w b K) {p : ByteArray} {st : Nat} (hp : kb p st) :
    (Instr.lookup 63 (.map (some b)) (kv p (st : Int)) true).run Try.prog w = .ok (.tuple #[match kfd K p st with | some y => ndV y.node | none => ndV ⟨0, ⟨#[]⟩⟩, .bool (kfd K p st).isSome]) w := by
  obtain ⟨D, ho, hr⟩ := h
  obtain ⟨v, ps, hrun, hv⟩ := ho.look_ok keyedS Try.underlying63 (zeroNd w) (nodeR_nd _) (key_of hp.1 hp.2)
  rw [hrun]
  obtain ⟨n, rfl, hz⟩ := nodeR_inv hv
  have hz := congrArg Prod.fst hz
  simp only [hr p st _ hp] at hz
  have hhas : Go.Maps.has D (kvL p (st : Int)) = (kfd K p st).isSome := by
    cases hf : kfd K p st with
    | none =>
      refine (Go.Maps.has_false_of_atKey fun z => ?_).trans rfl
      rw [hr p st z hp, hf]
    | some x =>
      refine (Go.Maps.has_true_of_atKey (y := ndD x.node) fun z => ?_).trans rfl
      rw [hr p st z hp, hf]
  rw [hhas]
  cases hf : kfd K p st with
  | none =>
    rw [hf] at hz
    rw [← ndD_inj hz]
  | some x =>
    rw [hf] at hz
    rw [← ndD_inj hz]
theorem kfd_some {K : List Sn} {p : ByteArray} {st : Nat} {y : Sn} (h : kfd K p st = some y) : y ∈ K ∧ y.path = p ∧ y.stamp = st := by
  unfold kfd at h
  have h1 := List.find?_some h
  simp only [Bool.and_eq_true, decide_eq_true_eq] at h1
  exact ⟨List.mem_of_find?_eq_some h, h1.1, h1.2⟩
def kfiles (seen : List Sn) : List Sn := (seen.filter fun y => decide (y.node.kind = 2)).reverse
theorem kfiles_next {seen : List Sn} {k : Nat} {x : Sn} (h : seen[k]? = some x) : kfiles (seen.take (k + 1)) = (if x.node.kind = 2 then [x] else []) ++ kfiles (seen.take k) := by
  unfold kfiles
  rw [List.take_add_one, h, List.filter_append, List.reverse_append]
  congr 1
  by_cases e : x.node.kind = 2
  · rw [if_pos e]
    show (List.filter _ [x]).reverse = [x]
    rw [List.filter_cons_of_pos (by rw [decide_eq_true e])]
    rfl
  · rw [if_neg e]
    show (List.filter _ [x]).reverse = []
    rw [List.filter_cons_of_neg (by rw [decide_eq_false e]; decide)]
    rfl
theorem known_kfd {seen : List Sn} {x : Sn} (hk : x.node.kind = 2) : known seen x = (kfd (kfiles seen) x.path x.stamp).isSome := by
  unfold known
  rw [decide_eq_false (show ¬ x.node.kind = 1 by rw [hk]; decide), Bool.false_or, Bool.eq_iff_iff, List.any_eq_true]
  unfold kfd
  rw [List.find?_isSome]
  constructor
  · rintro ⟨y, hy, hc⟩
    simp only [Bool.and_eq_true, decide_eq_true_eq] at hc
    exact ⟨y, List.mem_reverse.2 (List.mem_filter.2 ⟨hy, decide_eq_true hc.2⟩), by simp [hc.1.1, hc.1.2]⟩
  · rintro ⟨y, hy, hc⟩
    obtain ⟨h1, h2⟩ := List.mem_filter.1 (List.mem_reverse.1 hy)
    simp only [Bool.and_eq_true, decide_eq_true_eq] at hc
    exact ⟨y, h1, by simp [hc.1, hc.2, of_decide_eq_true h2]⟩
theorem kfd_good {s : St} {v : ByteArray} {seen : List Sn} {p : ByteArray} {st : Nat} {y : Sn} {x : It} (hg : Sc.Good s v seen) (h : kfd (kfiles seen) p st = some y) (hx : x ∈ s.L) (hp : x.path = v ++ ⟨#[47]⟩ ++ p) (hs : x.stamp = st) (hd : x.dir = false) : y.node = ⟨2, x.data⟩ := by
  obtain ⟨h1, h2, h3⟩ := kfd_some h
  obtain ⟨h4, h5⟩ := List.mem_filter.1 (List.mem_reverse.1 h1)
  have hk : y.node.kind = 2 := of_decide_eq_true h5
  have := (hg y h4 hk).2 x hx (by rw [h2]; exact hp) (by rw [h3]; exact hs) hd
  obtain ⟨⟨K, d⟩⟩ : ∃ n, n = y.node := ⟨_, rfl⟩
  obtain ⟨yp, ys, ⟨yk, yd⟩⟩ := y
  simp only at hk this
  rw [hk, this]
end Go.Proofs.Ytdpnmdnfnplcfaa.Sc

namespace Go.Proofs.Ytdpnmdnfnplcfaa.Sc
open Go.RowKit Tx Pm Pr Dk
set_option linter.unusedVariables false
theorem szn_kb {seen : List Sn} (h : Szn seen) : ∀ x ∈ seen, kb x.path x.stamp := fun x hx => by
  obtain ⟨h1, h2⟩ := h x hx
  refine ⟨by unfold maxLen; omega, ?_⟩
  simp [Lit.wf, IntKind.min, IntKind.max, IntKind.signed, IntKind.bits]
  omega
theorem below_turned {w w1 w2 : World} {b : Nat} (hb : Below w.heap.size w w1) (ht : w1.mapTurned w2 b) (h : w.heap.size ≤ b) : Below w.heap.size w w2 := hb.grown ht.grown hb.size (fun k hk => by injection hk with hk; omega)
theorem kfiles_len (seen : List Sn) : (kfiles seen).length ≤ seen.length := by
  unfold kfiles
  rw [List.length_reverse]
  exact List.length_filter_le _ _
set_option maxRecDepth 100000 in
set_option maxHeartbeats 4000000 in
theorem files_any (A : Option Addr) (m c : Nat) (seen : List Sn) (w : World) (hS : Sns w A m seen) (hm : m ≤ 1000000) (hz : Szn seen) :
    Calls Try.prog 36 #[.slice A m c] w fun e w' => ∃ bm, e = .returned (.map (some bm)) ∧ Kn w' bm (kfiles seen) ∧ w.heap.size ≤ bm ∧ Below w.heap.size w w' := by
  have hln := hS.1
  have hkb := szn_kb hz
  have hmm := @run_makeMap Try.prog
  have HS := Lib.hid hS
  have HLN := Lib.hid hln
  have HKB := Lib.hid hkb
  have hst : Hid (Kn (w.alloc (.map #[] 0)) w.heap.size (kfiles (seen.take 0))) := kn_made w
  have hsb : Hid (Below w.heap.size w (w.alloc (.map #[] 0))) := (Below.refl _ _).alloc (Nat.le_refl _) _
  clear hS hln hkb hz
  go_enter Try.func36, Try.ntmps36
  go_wp2_with fail
  clear hmm
  go_loopw [5, 9] (fun _ i wr => ∃ k : Nat, k ≤ m ∧ i = .int .i64 (k : Int) ∧ Hid (Kn wr w.heap.size (kfiles (seen.take k))) ∧ Hid (Below w.heap.size w wr)) (fun _ i _ => m - (intOf i).toNat)
  case atStart => exact ⟨0, Nat.zero_le _, rfl, hst, hsb⟩
  case round =>
    obtain ⟨k, hk, rfl, HK, HB⟩ := hrel
    clear hst hsb
    by_cases hlt : k < m
    · have hltz : (k : Int) < (m : Int) := by omega
      obtain ⟨g, off, rfl, hg, hc⟩ := HS.out.2.resolve_left (by omega)
      obtain ⟨x, hx⟩ : ∃ x, seen[k]? = some x := ⟨_, List.getElem?_eq_getElem (by rw [HLN.out]; exact hlt)⟩
      obtain ⟨c0, c1, c2, c3⟩ := hc k x hx
      have d0 := (HB.out.cell (p := ⟨g, _, none⟩) hg).trans c0
      have d1 := (HB.out.cell (p := ⟨g, _, none⟩) hg).trans c1
      have d2 := (HB.out.cell (p := ⟨g, _, none⟩) hg).trans c2
      have d3 := (HB.out.cell (p := ⟨g, _, none⟩) hg).trans c3
      have hnx := kfiles_next hx
      have hxb := HKB.out x (List.mem_of_getElem? hx)
      have hlen : (kfiles (seen.take k)).length < maxLen := by
        have := kfiles_len (seen.take k)
        rw [List.length_take] at this
        unfold maxLen; omega
      obtain ⟨P, T, ⟨K, D⟩⟩ := x
      simp only at d0 d1 d2 d3 hnx hxb
      have hb1 : ∀ o, Below w.heap.size w (wr.alloc o) := fun o => HB.out.alloc HB.out.size o
      have hk1 : ∀ o, Kn (wr.alloc o) w.heap.size (kfiles (seen.take k)) := fun o => HK.out.kept (Below.heap_alloc _ _ _ HK.out.lt)
      have HB1 := Lib.hid hb1
      have HK1 := Lib.hid hk1
      clear hc c0 c1 c2 c3 hx hb1 hk1
      by_cases hkd : K = 2
      · subst hkd
        rw [if_pos rfl] at hnx
        obtain ⟨w2, hrun, hK2, ht2⟩ := (HK1.out (.cells #[.string P, .int .i64 (T : Int), .int .i64 2, .string D] 67)).store (x := ⟨P, T, ⟨2, D⟩⟩) hxb hlen
        unfold kv ndV at hrun
        simp only at hrun
        have HK2 : Hid (Kn w2 w.heap.size (kfiles (seen.take (k + 1)))) := by show Kn _ _ _; rw [hnx]; exact hK2
        have HB2 : Hid (Below w.heap.size w w2) := below_turned (HB1.out _) ht2 (Nat.le_refl _)
        clear hnx hxb hlen hK2 ht2 HK HB HK1 HB1
        go_wp2_with fail
        go_roundw
        case rel => exact ⟨k + 1, by omega, by go_num, HK2, HB2⟩
        case measure => simp only [intOf]; omega
      · rw [if_neg hkd, List.nil_append] at hnx
        have HNX := Lib.hid hnx
        clear hnx hxb hlen HK HB
        go_wp2_with fail
        go_roundw
        case rel => exact ⟨k + 1, by omega, by go_num, by rw [HNX.out]; exact HK1.out _, HB1.out _⟩
        case measure => simp only [intOf]; omega
    · have hkn : k = m := by omega
      have e2 : ¬ (k : Int) < (m : Int) := by omega
      have HALL : Hid (seen.take k = seen) := List.take_of_length_le (by rw [hkn]; exact Nat.le_of_eq HLN.out)
      clear hkn
      go_wp2_with fail
      go_ret
      have hkk := HK.out
      rw [HALL.out] at hkk
      exact ⟨_, rfl, hkk, Nat.le_refl _, HB.out⟩
end Go.Proofs.Ytdpnmdnfnplcfaa.Sc

namespace Go.Proofs.Ytdpnmdnfnplcfaa.Rg
open Go.RowKit
set_option linter.unusedVariables false
section
variable {P : Program} {S : World → Prop}
theorem y_buildK {o : Oper} {a : Act} {T : TypeId} {parts : Array (Nat × Operand)} {vs : Array (Nat × Value)} {v : Value} (ho : o.op = .build T parts) (hx : (parts.map fun (i, x) => (i, a.eval x)) = vs)
    (hv : ∀ w, S w → (Instr.build T vs).run P w = .ok v w) : ∀ w, S w → (execOp a.eval o).run P w = .ok (.value v) w := by
  intro w hw
  obtain ⟨dst, op, ty, pos, after, guard⟩ := o
  simp only at ho
  subst ho
  have := hv w hw
  simp only [execOp, Sem.run_bind]
  rw [hx, this]
  rfl
theorem y_sl1K {o : Oper} {a : Act} {T : TypeId} {x l : Operand} {vx vl v : Value} (ho : o.op = .slice T x (some l) none none) (hx : a.eval x = vx) (hl : a.eval l = vl)
    (hv : ∀ w, S w → (Instr.sliceAt T vx (some vl) none none).run P w = .ok v w) : ∀ w, S w → (execOp a.eval o).run P w = .ok (.value v) w := by
  intro w hw
  obtain ⟨dst, op, ty, pos, after, guard⟩ := o
  simp only at ho
  subst ho
  have := hv w hw
  simp only [execOp, hx, hl, Option.map_some, Option.map_none, Sem.run_bind]
  rw [this]
  rfl
end
end Go.Proofs.Ytdpnmdnfnplcfaa.Rg
namespace Go.Proofs.Ytdpnmdnfnplcfaa.Sc
open Go.RowKit Tx Pm Pr Dk
set_option linter.unusedVariables false
set_option maxRecDepth 100000 in
set_option maxHeartbeats 4000000 in
theorem scanReg (ops : Array Oper) (hops : ops = (Rg.opsOf Try.f26 8)) (id : Nat) (m st kd : Nat) (v p q : ByteArray) (dv : Value) {u2 u3 u4 u5 u6 u7 u8 u9 u10 u11 u12 u14 u15 u16 u17 u18 u19 u20 u21 u22 u23 u24 u25 u26 u27 u28 u29 u30 u31 u32 u33 u34 u35 u36 u37 u38 u39 u40 u41 u42 u43 u44 u45 u46 u47 u48 u49 u50 u51 u52 u53 u54 u55 u56 u57 u58 u59 u60 u61 u62 u63 u64 u65 u66 u67 u68 u69 u70 u71 u72 u73 u74 u75 u76 u77 u78 u79 u80 u81 u82 u83 u84 : Value} (w : World) (X : World → Prop) (hw : X w.drew) (q1 : (v.size : Int) + 1 = (m : Int)) (V1 : IntKind.i64.wrap (m : Int) = (m : Int))
    (S1 : ∀ W : World, (Instr.sliceAt 9 (.string p) (some (.int .i64 (m : Int))) none none).run Try.prog W = .ok (.string q) W)
    (hX1 : X (w.drew.alloc (.cells #[.string ⟨#[]⟩, .int .i64 0, .int .i64 0, .string ⟨#[]⟩] 67))) (hX2 : X (w.drew.alloc (.cells #[.string q, .int .i64 (st : Int), .int .i64 (kd : Int), .string ⟨#[]⟩] 67)))
    (hA : ∀ W, X W → Calls Try.prog 38 #[dv, .string p] W fun e w' => e = .returned (.int .i64 (st : Int)) ∧ W = w')
    (hB : ∀ W, X W → Calls Try.prog 39 #[dv, .string p] W fun e w' => e = .returned (.int .i64 (kd : Int)) ∧ W = w') :
    (Code.region id ops true).wp Try.prog (Rg.Only fun a' w' => a' = ⟨#[dv, (.string v), u2, u3, u4, u5, u6, u7, u8, u9, u10, u11, u12, (.string p), (.pointer (some ⟨w.heap.size, 0, none⟩)), u15, u16, u17, u18, u19, u20, u21, u22, u23, u24, u25, u26, u27, u28, u29, u30, u31, u32, (.string p), (.string v), (.int .i64 (v.size : Int)), (.int .i64 (m : Int)), (.string q), dv, (.string p), (.int .i64 (st : Int)), dv, (.string p), (.int .i64 (kd : Int)), (.agg #[.int .i64 (kd : Int), .string ⟨#[]⟩]), (.agg #[.string q, .int .i64 (st : Int), .int .i64 (kd : Int), .string ⟨#[]⟩]), u46, u47, u48, u49, u50, u51, u52, u53, u54, u55, u56, u57, u58, u59, u60, u61, u62, u63, u64, u65, u66, u67, u68, u69, u70, u71, u72, u73, u74, u75, u76, u77, u78, u79, u80, u81, u82, u83, u84], []⟩ ∧ w' = w.drew.alloc (.cells #[.string q, .int .i64 (st : Int), .int .i64 (kd : Int), .string ⟨#[]⟩] 67)) ⟨#[dv, (.string v), u2, u3, u4, u5, u6, u7, u8, u9, u10, u11, u12, (.string p), u14, u15, u16, u17, u18, u19, u20, u21, u22, u23, u24, u25, u26, u27, u28, u29, u30, u31, u32, u33, u34, u35, u36, u37, u38, u39, u40, u41, u42, u43, u44, u45, u46, u47, u48, u49, u50, u51, u52, u53, u54, u55, u56, u57, u58, u59, u60, u61, u62, u63, u64, u65, u66, u67, u68, u69, u70, u71, u72, u73, u74, u75, u76, u77, u78, u79, u80, u81, u82, u83, u84], []⟩ w := by
  subst hops
  have hNS : Region.noSelect (Rg.opsOf Try.f26 8) = true := by kernel_rfl
  refine wp_region_held_drew (S := X) (by kernel_rfl) hw (fun hHeld => ?_)
  rw [show (Rg.opsOf Try.f26 8).size = 15 by kernel_rfl]
  refine Rg.take (ops := (Rg.opsOf Try.f26 8)) 0 (some 33) ((.string p)) hNS (by kernel_rfl) (by kernel_rfl) (by kernel_rfl) (by kernel_rfl) (by kernel_rfl) hHeld (Rg.y_move (x := (Operand.tmp 13)) (Or.inl (by kernel_rfl)) (by kernel_rfl)) ?_
  refine Rg.take (ops := (Rg.opsOf Try.f26 8)) 1 (some 34) ((.string v)) hNS (by kernel_rfl) (by kernel_rfl) (by kernel_rfl) (by kernel_rfl) (by kernel_rfl) hHeld (Rg.y_move (x := (Operand.tmp 1)) (Or.inl (by kernel_rfl)) (by kernel_rfl)) ?_
  refine Rg.take (ops := (Rg.opsOf Try.f26 8)) 2 (some 35) ((.int .i64 (v.size : Int))) hNS (by kernel_rfl) (by kernel_rfl) (by kernel_rfl) (by kernel_rfl) (by kernel_rfl) hHeld (Rg.y_len (x := (Operand.tmp 34)) (ats := #[9]) (vx := (.string v)) (n := v.size) (by kernel_rfl) (by kernel_rfl) ?_) ?_
  · (intro ty w hSw; go_simp)
  refine Rg.take (ops := (Rg.opsOf Try.f26 8)) 3 (some 36) ((.int .i64 (m : Int))) hNS (by kernel_rfl) (by kernel_rfl) (by kernel_rfl) (by kernel_rfl) (by kernel_rfl) hHeld (Rg.y_bin (b := BinOp.add) (T := 3) (R' := 3) (x := (Operand.tmp 35)) (y := (Operand.const (Value.int IntKind.i64 1))) (vx := (.int .i64 (v.size : Int))) (vy := (Value.int IntKind.i64 1)) (by kernel_rfl) (by kernel_rfl) (by kernel_rfl) ?_) ?_
  · (intro W hSw; clear hSw hHeld; go_simp)
  refine Rg.take (ops := (Rg.opsOf Try.f26 8)) 4 (some 37) ((.string q)) hNS (by kernel_rfl) (by kernel_rfl) (by kernel_rfl) (by kernel_rfl) (by kernel_rfl) hHeld (Rg.y_sl1K (T := 9) (x := (Operand.tmp 33)) (l := (Operand.tmp 36)) (vx := (.string p)) (vl := (.int .i64 (m : Int))) (by kernel_rfl) (by kernel_rfl) (by kernel_rfl) ?_) ?_
  · (intro W hSw; clear hSw hHeld; exact S1 W)
  refine Rg.take (ops := (Rg.opsOf Try.f26 8)) 5 (some 38) (dv) hNS (by kernel_rfl) (by kernel_rfl) (by kernel_rfl) (by kernel_rfl) (by kernel_rfl) hHeld (Rg.y_move (x := (Operand.tmp 0)) (Or.inl (by kernel_rfl)) (by kernel_rfl)) ?_
  refine Rg.take (ops := (Rg.opsOf Try.f26 8)) 6 (some 39) ((.string p)) hNS (by kernel_rfl) (by kernel_rfl) (by kernel_rfl) (by kernel_rfl) (by kernel_rfl) hHeld (Rg.y_move (x := (Operand.tmp 13)) (Or.inl (by kernel_rfl)) (by kernel_rfl)) ?_
  refine Rg.take (ops := (Rg.opsOf Try.f26 8)) 8 (some 41) (dv) hNS (by kernel_rfl) (by kernel_rfl) (by kernel_rfl) (by kernel_rfl) (by kernel_rfl) hHeld (Rg.y_move (x := (Operand.tmp 0)) (Or.inl (by kernel_rfl)) (by kernel_rfl)) ?_
  refine Rg.take (ops := (Rg.opsOf Try.f26 8)) 9 (some 42) ((.string p)) hNS (by kernel_rfl) (by kernel_rfl) (by kernel_rfl) (by kernel_rfl) (by kernel_rfl) hHeld (Rg.y_move (x := (Operand.tmp 13)) (Or.inl (by kernel_rfl)) (by kernel_rfl)) ?_
  refine Rg.two (ops := (Rg.opsOf Try.f26 8)) (i := 7) (j := 13) (by kernel_rfl) ?_ ?_
  · refine Rg.op_call (ops := (Rg.opsOf Try.f26 8)) (fn := Try.f38) (xs := #[Operand.tmp 38, Operand.tmp 39]) (ats := #[34, 9]) 7 (some 40) 38 #[dv, (.string p)] (by kernel_rfl) (by kernel_rfl) (by kernel_rfl) (by kernel_rfl) Try.func38 (by kernel_rfl) (by kernel_rfl) (by kernel_rfl) ?_
    refine (hA _ hHeld).mono ?_
    rintro e w5 ⟨rfl, rfl⟩
    refine ⟨_, rfl, hHeld, fun hHeld => ?_⟩
    refine Rg.two (ops := (Rg.opsOf Try.f26 8)) (i := 10) (j := 13) (by kernel_rfl) ?_ ?_
    · refine Rg.op_call (ops := (Rg.opsOf Try.f26 8)) (fn := Try.f39) (xs := #[Operand.tmp 41, Operand.tmp 42]) (ats := #[34, 9]) 10 (some 43) 39 #[dv, (.string p)] (by kernel_rfl) (by kernel_rfl) (by kernel_rfl) (by kernel_rfl) Try.func39 (by kernel_rfl) (by kernel_rfl) (by kernel_rfl) ?_
      refine (hB _ hHeld).mono ?_
      rintro e w5 ⟨rfl, rfl⟩
      refine ⟨_, rfl, hHeld, fun hHeld => ?_⟩
      refine Rg.take (ops := (Rg.opsOf Try.f26 8)) 11 (some 44) ((.agg #[.int .i64 (kd : Int), .string ⟨#[]⟩])) hNS (by kernel_rfl) (by kernel_rfl) (by kernel_rfl) (by kernel_rfl) (by kernel_rfl) hHeld (Rg.y_buildK (T := 29) (parts := #[(0, Operand.tmp 43)]) (vs := #[(0, (.int .i64 (kd : Int)))]) (by kernel_rfl) (by kernel_rfl) ?_) ?_
      · (intro W hSw; clear hSw hHeld; go_simp)
      refine Rg.take (ops := (Rg.opsOf Try.f26 8)) 12 (some 45) ((.agg #[.string q, .int .i64 (st : Int), .int .i64 (kd : Int), .string ⟨#[]⟩])) hNS (by kernel_rfl) (by kernel_rfl) (by kernel_rfl) (by kernel_rfl) (by kernel_rfl) hHeld (Rg.y_buildK (T := 67) (parts := #[(0, Operand.tmp 37), (1, Operand.tmp 40), (2, Operand.tmp 44)]) (vs := #[(0, (.string q)), (1, (.int .i64 (st : Int))), (2, (.agg #[.int .i64 (kd : Int), .string ⟨#[]⟩]))]) (by kernel_rfl) (by kernel_rfl) ?_) ?_
      · (intro W hSw; clear hSw hHeld; go_simp)
      refine Rg.one (ops := (Rg.opsOf Try.f26 8)) (i := 13) (by kernel_rfl) ?_
      refine Rg.op_alloc (ops := (Rg.opsOf Try.f26 8)) 13 (some 14) (T := 67) (v := (.pointer (some ⟨w.heap.size, 0, none⟩))) (w1 := w.drew.alloc (.cells #[.string ⟨#[]⟩, .int .i64 0, .int .i64 0, .string ⟨#[]⟩] 67)) (by kernel_rfl) (by kernel_rfl) (by kernel_rfl) (by kernel_rfl) ?_ (hX1) (fun hHeld => ?_)
      · (clear hHeld; go_simp)
      refine Rg.store (ops := (Rg.opsOf Try.f26 8)) 14 (T := 67) (x := (Operand.tmp 14)) (y := (Operand.tmp 45)) (vx := (.pointer (some ⟨w.heap.size, 0, none⟩))) (vy := (.agg #[.string q, .int .i64 (st : Int), .int .i64 (kd : Int), .string ⟨#[]⟩])) (w1 := w.drew.alloc (.cells #[.string q, .int .i64 (st : Int), .int .i64 (kd : Int), .string ⟨#[]⟩] 67)) (by kernel_rfl) (by kernel_rfl) (by kernel_rfl) (by kernel_rfl) (by kernel_rfl) (by kernel_rfl) (by kernel_rfl) ?_ (hX2) (fun hHeld => ?_)
      · (clear hHeld; go_simp)
      refine Rg.done (ops := (Rg.opsOf Try.f26 8)) (by kernel_rfl) ?_
      exact ⟨by kernel_rfl, rfl⟩
    · refine Rg.op_alloc (ops := (Rg.opsOf Try.f26 8)) 13 (some 14) (T := 67) (v := (.pointer (some ⟨w.heap.size, 0, none⟩))) (w1 := w.drew.alloc (.cells #[.string ⟨#[]⟩, .int .i64 0, .int .i64 0, .string ⟨#[]⟩] 67)) (by kernel_rfl) (by kernel_rfl) (by kernel_rfl) (by kernel_rfl) ?_ (hX1) (fun hHeld => ?_)
      · (clear hHeld; go_simp)
      refine Rg.call (ops := (Rg.opsOf Try.f26 8)) (fn := Try.f39) (xs := #[Operand.tmp 41, Operand.tmp 42]) (ats := #[34, 9]) 10 (some 43) 39 #[dv, (.string p)] (by kernel_rfl) (by kernel_rfl) (by kernel_rfl) (by kernel_rfl) (by kernel_rfl) Try.func39 (by kernel_rfl) (by kernel_rfl) (by kernel_rfl) ?_
      refine (hB _ hHeld).mono ?_
      rintro e w5 ⟨rfl, rfl⟩
      refine ⟨_, rfl, hHeld, fun hHeld => ?_⟩
      refine Rg.take (ops := (Rg.opsOf Try.f26 8)) 11 (some 44) ((.agg #[.int .i64 (kd : Int), .string ⟨#[]⟩])) hNS (by kernel_rfl) (by kernel_rfl) (by kernel_rfl) (by kernel_rfl) (by kernel_rfl) hHeld (Rg.y_buildK (T := 29) (parts := #[(0, Operand.tmp 43)]) (vs := #[(0, (.int .i64 (kd : Int)))]) (by kernel_rfl) (by kernel_rfl) ?_) ?_
      · (intro W hSw; clear hSw hHeld; go_simp)
      refine Rg.take (ops := (Rg.opsOf Try.f26 8)) 12 (some 45) ((.agg #[.string q, .int .i64 (st : Int), .int .i64 (kd : Int), .string ⟨#[]⟩])) hNS (by kernel_rfl) (by kernel_rfl) (by kernel_rfl) (by kernel_rfl) (by kernel_rfl) hHeld (Rg.y_buildK (T := 67) (parts := #[(0, Operand.tmp 37), (1, Operand.tmp 40), (2, Operand.tmp 44)]) (vs := #[(0, (.string q)), (1, (.int .i64 (st : Int))), (2, (.agg #[.int .i64 (kd : Int), .string ⟨#[]⟩]))]) (by kernel_rfl) (by kernel_rfl) ?_) ?_
      · (intro W hSw; clear hSw hHeld; go_simp)
      refine Rg.store (ops := (Rg.opsOf Try.f26 8)) 14 (T := 67) (x := (Operand.tmp 14)) (y := (Operand.tmp 45)) (vx := (.pointer (some ⟨w.heap.size, 0, none⟩))) (vy := (.agg #[.string q, .int .i64 (st : Int), .int .i64 (kd : Int), .string ⟨#[]⟩])) (w1 := w.drew.alloc (.cells #[.string q, .int .i64 (st : Int), .int .i64 (kd : Int), .string ⟨#[]⟩] 67)) (by kernel_rfl) (by kernel_rfl) (by kernel_rfl) (by kernel_rfl) (by kernel_rfl) (by kernel_rfl) (by kernel_rfl) ?_ (hX2) (fun hHeld => ?_)
      · (clear hHeld; go_simp)
      refine Rg.done (ops := (Rg.opsOf Try.f26 8)) (by kernel_rfl) ?_
      exact ⟨by kernel_rfl, rfl⟩
  · refine Rg.op_alloc (ops := (Rg.opsOf Try.f26 8)) 13 (some 14) (T := 67) (v := (.pointer (some ⟨w.heap.size, 0, none⟩))) (w1 := w.drew.alloc (.cells #[.string ⟨#[]⟩, .int .i64 0, .int .i64 0, .string ⟨#[]⟩] 67)) (by kernel_rfl) (by kernel_rfl) (by kernel_rfl) (by kernel_rfl) ?_ (hX1) (fun hHeld => ?_)
    · (clear hHeld; go_simp)
    refine Rg.call (ops := (Rg.opsOf Try.f26 8)) (fn := Try.f38) (xs := #[Operand.tmp 38, Operand.tmp 39]) (ats := #[34, 9]) 7 (some 40) 38 #[dv, (.string p)] (by kernel_rfl) (by kernel_rfl) (by kernel_rfl) (by kernel_rfl) (by kernel_rfl) Try.func38 (by kernel_rfl) (by kernel_rfl) (by kernel_rfl) ?_
    refine (hA _ hHeld).mono ?_
    rintro e w5 ⟨rfl, rfl⟩
    refine ⟨_, rfl, hHeld, fun hHeld => ?_⟩
    refine Rg.call (ops := (Rg.opsOf Try.f26 8)) (fn := Try.f39) (xs := #[Operand.tmp 41, Operand.tmp 42]) (ats := #[34, 9]) 10 (some 43) 39 #[dv, (.string p)] (by kernel_rfl) (by kernel_rfl) (by kernel_rfl) (by kernel_rfl) (by kernel_rfl) Try.func39 (by kernel_rfl) (by kernel_rfl) (by kernel_rfl) ?_
    refine (hB _ hHeld).mono ?_
    rintro e w5 ⟨rfl, rfl⟩
    refine ⟨_, rfl, hHeld, fun hHeld => ?_⟩
    refine Rg.take (ops := (Rg.opsOf Try.f26 8)) 11 (some 44) ((.agg #[.int .i64 (kd : Int), .string ⟨#[]⟩])) hNS (by kernel_rfl) (by kernel_rfl) (by kernel_rfl) (by kernel_rfl) (by kernel_rfl) hHeld (Rg.y_buildK (T := 29) (parts := #[(0, Operand.tmp 43)]) (vs := #[(0, (.int .i64 (kd : Int)))]) (by kernel_rfl) (by kernel_rfl) ?_) ?_
    · (intro W hSw; clear hSw hHeld; go_simp)
    refine Rg.take (ops := (Rg.opsOf Try.f26 8)) 12 (some 45) ((.agg #[.string q, .int .i64 (st : Int), .int .i64 (kd : Int), .string ⟨#[]⟩])) hNS (by kernel_rfl) (by kernel_rfl) (by kernel_rfl) (by kernel_rfl) (by kernel_rfl) hHeld (Rg.y_buildK (T := 67) (parts := #[(0, Operand.tmp 37), (1, Operand.tmp 40), (2, Operand.tmp 44)]) (vs := #[(0, (.string q)), (1, (.int .i64 (st : Int))), (2, (.agg #[.int .i64 (kd : Int), .string ⟨#[]⟩]))]) (by kernel_rfl) (by kernel_rfl) ?_) ?_
    · (intro W hSw; clear hSw hHeld; go_simp)
    refine Rg.store (ops := (Rg.opsOf Try.f26 8)) 14 (T := 67) (x := (Operand.tmp 14)) (y := (Operand.tmp 45)) (vx := (.pointer (some ⟨w.heap.size, 0, none⟩))) (vy := (.agg #[.string q, .int .i64 (st : Int), .int .i64 (kd : Int), .string ⟨#[]⟩])) (w1 := w.drew.alloc (.cells #[.string q, .int .i64 (st : Int), .int .i64 (kd : Int), .string ⟨#[]⟩] 67)) (by kernel_rfl) (by kernel_rfl) (by kernel_rfl) (by kernel_rfl) (by kernel_rfl) (by kernel_rfl) (by kernel_rfl) ?_ (hX2) (fun hHeld => ?_)
    · (clear hHeld; go_simp)
    refine Rg.done (ops := (Rg.opsOf Try.f26 8)) (by kernel_rfl) ?_
    exact ⟨by kernel_rfl, rfl⟩
end Go.Proofs.Ytdpnmdnfnplcfaa.Sc

namespace Go.Proofs.Ytdpnmdnfnplcfaa.Sc
open Go.RowKit Tx Pm Pr Dk Od
open En (tcheck Et)
set_option linter.unusedVariables false
def stays (v : ByteArray) (t : List Et) (x : It) : Prop := (En.tget t (tl v x.path)).kind = (nodeOf x).kind
def inside (s : St) (v : ByteArray) : List It := s.L.filter (inV v)
structure Rem (N : Nat) (s0 s : St) (v : ByteArray) (t : List Et) (i : Nat) : Prop where
  rb : Rb N s
  stamps : s.stamps = s0.stamps
  vol : Dk.kind s.L v = 1
  others : s.L.filter (fun x => !inV v x) = s0.L.filter (fun x => !inV v x)
  mem : ∀ x, x ∈ s.L ↔ x ∈ s0.L ∧ (inV v x = true → stays v t x ∨ x ∈ (inside s0 v).take i)
end Go.Proofs.Ytdpnmdnfnplcfaa.Sc

namespace Go.Proofs.Ytdpnmdnfnplcfaa.Sc
open Go.RowKit Tx Pm Pl Pr Dk
set_option linter.unusedVariables false
theorem results_tmp4 {fn : Func} {t u v x : Tmp} (h : fn.results = #[.tmp t, .tmp u, .tmp v, .tmp x]) (tmps : Array Value) (P : Program) (w : World) :
    (results fn tmps).run P w = .ok (.tuple #[tmps.getD t undef, tmps.getD u undef, tmps.getD v undef, tmps.getD x undef]) w := by
  simp [results, h]
theorem name_chk (l : List UInt8) : isName l = true ↔ chk l 1 = 0 := by
  constructor
  · intro h
    have h0 : lastN l = 0 := by
      rcases Nat.eq_zero_or_pos (lastN l) with h0 | h0
      · exact h0
      · exfalso
        obtain ⟨k, hk⟩ : ∃ k, lastN l = k + 1 := ⟨lastN l - 1, by omega⟩
        have hc := cut_last hk
        unfold isName at h
        simp only [Bool.and_eq_true] at h
        have := List.all_eq_true.1 h.2 47 (by rw [hc]; simp)
        exact absurd this (by decide)
    rw [chk, isPath, spl_one h0]
    simp [h]
  · intro h
    obtain ⟨h1, h2⟩ := ok_of h
    have h0 : lastN l = 0 := by
      rcases par_bas l with ⟨h0, _⟩ | hh
      · exact h0
      · exfalso
        rw [hh, spl_app, List.length_append] at h1
        have := spl_pos (par l)
        have := spl_pos (bas l)
        omega
    unfold good at h2
    rw [spl_one h0] at h2
    simpa using h2
theorem cells_twoS {w1 : World} {b : Nat} {u v : Value} {t : TypeId} (h : w1.heap[b]? = some (.cells #[u, v] t)) : w1.cell? ⟨b, 0, none⟩ = some u ∧ w1.cell? ⟨b, 1, none⟩ = some v ∧ ∀ k, w1.frozen? ⟨b, k, none⟩ = false := by
  refine ⟨?_, ?_, fun k => frozen_of_row w1 b k _ _ h⟩ <;> simp [World.cell?, h]
theorem two_setS {w1 : World} {b : Nat} {u v x y : Value} {t : TypeId} (h : w1.heap[b]? = some (.cells #[u, v] t)) : ((w1.setCell ⟨b, 0, none⟩ x).setCell ⟨b, 1, none⟩ y).heap[b]? = some (.cells #[x, y] t) :=
  Go.heap_setCell_same _ b 1 _ _ _ (Go.heap_setCell_same _ b 0 _ _ x h)
theorem cells_fourS {w1 : World} {b : Nat} {u v x y : Value} {t : TypeId} (h : w1.heap[b]? = some (.cells #[u, v, x, y] t)) : w1.cell? ⟨b, 0, none⟩ = some u ∧ w1.cell? ⟨b, 1, none⟩ = some v ∧ w1.cell? ⟨b, 2, none⟩ = some x ∧ w1.cell? ⟨b, 3, none⟩ = some y ∧ ∀ k, w1.frozen? ⟨b, k, none⟩ = false := by
  refine ⟨?_, ?_, ?_, ?_, fun k => frozen_of_row w1 b k _ _ h⟩ <;> simp [World.cell?, h]
set_option maxRecDepth 100000 in
set_option maxHeartbeats 2000000 in
theorem stands_at {b : Nat} {w : World} {F : Nat → Prop} {s : St} {p : ByteArray} (h : ImpAt b w F s) (hp : p.size ≤ 8000000000000) :
    Calls Try.prog 40 #[.pointer (some ⟨b, 0, none⟩), .string p] w fun e w' => e = .returned (.agg #[.int .i64 (Dk.kind s.L p : Nat), .string (readS s p).1]) ∧ Below w.heap.size w w' := by
  have hB : ∀ o, Below w.heap.size w (w.alloc o) := fun o => (Below.refl _ _).alloc (Nat.le_refl _) _
  have cr := fun W (hW : Below w.heap.size w W) => ok_read (imp_below h hW) hp
  have ck := fun W (hW : Below w.heap.size w W) => ok_kind (imp_below h hW) hp
  clear h
  go_enter Try.func40, Try.ntmps40
  go_wp2_with fail
  go_at_call 53
  refine (cr _ (hB _)).mono ?_
  rintro e w1 ⟨rfl, hb1⟩
  have hB1 := below_call (hB _) hb1
  have hblk := hb1.block w.heap.size (by simp)
  rw [heap_alloc_new] at hblk
  obtain ⟨e1, e2, e3⟩ := cells_twoS hblk
  go_wp2_with fail
  go_at_call 39
  refine (ck _ hB1).mono ?_
  rintro e w2 ⟨rfl, rfl⟩
  go_wp2_with fail
  refine bodyPost_ret (results_cell_row rfl _ _ _ _ _ _ _ rfl (two_setS hblk) Try.underlying29 rfl En.infoN) rfl ?_
  exact ⟨rfl, (hB1.setCell (Nat.le_refl _) _).setCell (Nat.le_refl _) _⟩
set_option maxRecDepth 100000 in
set_option maxHeartbeats 2000000 in
theorem mayWalk_any {b : Nat} {w : World} {F : Nat → Prop} {s : St} {v : ByteArray} (h : ImpAt b w F s) (wf : Wf s.L) (hv : v.size ≤ 1048576) :
    Calls Try.prog 35 #[.pointer (some ⟨b, 0, none⟩), .string v] w fun e w' => e = .returned (.int .i64 (err15 s v : Nat)) ∧ Below w.heap.size w w' := by
  have cn := pName_any v w (by omega)
  have cd := fun W (hW : Below w.heap.size w W) => ok_down (imp_below h hW)
  have ck := fun W (hW : Below w.heap.size w W) => ok_kind (p := v) (imp_below h hW) (by omega)
  clear h
  by_cases h1 : chk v.data.toList 1 = 0
  · have hk := wf_vol wf h1
    rw [(name_chk _).2 h1] at cn
    by_cases h2 : s.down = true
    · have HE : Hid (err15 s v = 14) := by show _ = _; unfold err15; simp [h1, h2]
      rw [h2] at cd
      clear h1 h2 hk wf
      go_enter Try.func35, Try.ntmps35
      go_wp2_with fail
      go_at_call 50
      refine cn.mono ?_
      rintro e w1 ⟨rfl, hb1⟩
      go_wp2_with fail
      go_at_call 51
      refine (cd _ hb1).mono ?_
      rintro e w2 ⟨rfl, rfl⟩
      go_wp2_with fail
      go_ret
      exact ⟨by rw [HE.out]; rfl, hb1⟩
    · have hd : s.down = false := by simpa using h2
      rw [hd] at cd
      by_cases h3 : Dk.kind s.L v = 1
      · have HE : Hid (err15 s v = 0) := by show _ = _; unfold err15; simp [h1, h2, h3]
        rw [h3] at ck
        clear h1 h2 h3 hd hk wf
        go_enter Try.func35, Try.ntmps35
        go_wp2_with fail
        go_at_call 50
        refine cn.mono ?_
        rintro e w1 ⟨rfl, hb1⟩
        go_wp2_with fail
        go_at_call 51
        refine (cd _ hb1).mono ?_
        rintro e w2 ⟨rfl, rfl⟩
        go_wp2_with fail
        go_at_call 39
        refine (ck _ hb1).mono ?_
        rintro e w2 ⟨rfl, rfl⟩
        go_wp2_with fail
        go_ret
        exact ⟨by rw [HE.out]; rfl, hb1⟩
      · have hk0 : Dk.kind s.L v = 0 := hk.resolve_right h3
        have HE : Hid (err15 s v = 11) := by show _ = _; unfold err15; simp [h1, h2, h3]
        rw [hk0] at ck
        clear h1 h2 h3 hd hk wf hk0
        go_enter Try.func35, Try.ntmps35
        go_wp2_with fail
        go_at_call 50
        refine cn.mono ?_
        rintro e w1 ⟨rfl, hb1⟩
        go_wp2_with fail
        go_at_call 51
        refine (cd _ hb1).mono ?_
        rintro e w2 ⟨rfl, rfl⟩
        go_wp2_with fail
        go_at_call 39
        refine (ck _ hb1).mono ?_
        rintro e w2 ⟨rfl, rfl⟩
        go_wp2_with fail
        go_ret
        exact ⟨by rw [HE.out]; rfl, hb1⟩
  · have hn : isName v.data.toList = false := by
      cases e : isName v.data.toList
      · rfl
      · exact absurd ((name_chk _).1 e) h1
    have HE : Hid (err15 s v = 10) := by show _ = _; unfold err15; simp [h1]
    rw [hn] at cn
    clear h1 hn wf
    go_enter Try.func35, Try.ntmps35
    go_wp2_with fail
    go_at_call 50
    refine cn.mono ?_
    rintro e w1 ⟨rfl, hb1⟩
    go_wp2_with fail
    go_ret
    exact ⟨by rw [HE.out]; rfl, hb1⟩
theorem err_zero {s : St} {v : ByteArray} (h : err15 s v = 0) : chk v.data.toList 1 = 0 ∧ s.down = false ∧ Dk.kind s.L v = 1 := by
  unfold err15 at h
  split at h
  · cases h
  · rename_i h1
    split at h
    · cases h
    · rename_i h2
      split at h
      · cases h
      · rename_i h3
        exact ⟨by omega, by simpa using h2, by omega⟩
def snI (v : ByteArray) (x : It) : Sn := ⟨tl v x.path, x.stamp, nodeOf x⟩
theorem sn_is {s : St} {v : ByteArray} (hL : Wf s.L) (he : err15 s v = 0) : snS s v = (inside s v).map (snI v) ∧ (wkS s v).1 = (inside s v).map fun x => ⟨tl v x.path, nodeOf x⟩ := by
  have h0 := vol_name (err_zero he).1
  have e : wkS s v = (entS s.L v, 0) := by unfold wkS; rw [if_neg (by rw [he]; decide)]
  have e2 : entS s.L v = (inside s v).map fun x => ⟨tl v x.path, nodeOf x⟩ := rfl
  refine ⟨?_, by rw [e, e2]⟩
  unfold snS
  rw [e]
  show (entS s.L v).map _ = _
  rw [e2, List.map_map]
  refine List.map_congr_left fun x hx => ?_
  have hx1 := List.mem_filter.1 hx
  show snOf s v _ = _
  unfold snOf snI
  congr 1
  show stampS s (vp v (tl v x.path)) = _
  rw [← inV_at h0 hx1.2]
  unfold stampS
  rw [Sc.find_one hL.rises hx1.1]
def cntK (s : St) (v : ByteArray) (seen : List Sn) (k : Nat) : Nat := ((((inside s v).map (snI v)).take k).filter fun x => !known seen x).length
theorem cnt_next {s : St} {v : ByteArray} {seen : List Sn} {k : Nat} {x : It} (h : (inside s v)[k]? = some x) : cntK s v seen (k + 1) = cntK s v seen k + if known seen (snI v x) = true then 0 else 1 := by
  unfold cntK
  rw [List.take_add_one, List.getElem?_map, h, List.filter_append, List.length_append]
  congr 1
  show (List.filter _ [snI v x]).length = _
  cases hk : known seen (snI v x)
  · rw [List.filter_cons_of_pos (by rw [hk]; rfl)]; rfl
  · rw [List.filter_cons_of_neg (by rw [hk]; decide)]; rfl
theorem cnt_le (s : St) (v : ByteArray) (seen : List Sn) (k : Nat) : cntK s v seen k ≤ k := by
  unfold cntK
  refine Nat.le_trans (List.length_filter_le _ _) ?_
  rw [List.length_take]
  omega
theorem take_next {α β : Type} (f : α → β) {l : List α} {k : Nat} {x : α} (h : l[k]? = some x) : (l.map f).take (k + 1) = (l.map f).take k ++ [f x] := by
  rw [List.take_add_one, List.getElem?_map, h]
  rfl
theorem own_other {w w1 : World} {B B2 size size2 n n2 : Nat} {e e2 : TypeId} {v v2 : Value} {xs xs2 : List Value} (h : w.ownsRow B e size v n xs) (h2 : w.ownsRow B2 e2 size2 v2 n2 xs2) (hne : e ≠ e2) (hg : w.grownBy w1 v2.ownBlock) : w1.ownsRow B e size v n xs := by
  refine own_kept h (fun g hgb => hg.block g (h.lt g hgb).2 (fun hh => ?_))
  rcases h.2 with ⟨rfl, _⟩ | ⟨g1, cap, cur, rfl, _, hh1, _⟩
  · cases hgb
  rcases h2.2 with ⟨rfl, _⟩ | ⟨g2, cap2, cur2, rfl, _, hh2, _⟩
  · cases hh
  have a1 : g1 = g := by injection hgb
  have a2 : g = g2 := by injection hh
  subst a1
  subst a2
  rw [hh1] at hh2
  injection hh2 with hh2
  injection hh2 with _ hh2
  exact hne hh2
set_option maxRecDepth 100000 in
set_option maxHeartbeats 8000000 in
theorem scan_any {b : Nat} {w : World} {F : Nat → Prop} {s : St} {v : ByteArray} (A : Option Addr) (m0 c0 : Nat) (seen : List Sn) (h : ImpAt b w F s) (lk : Lk s) (stp : Stp s) (hv : v.size ≤ 1048576) (hSn : Sns w A m0 seen) (hm0 : m0 ≤ 1000000) (hgd : Sc.Good s v seen) (hz : Szn seen) :
    Calls Try.prog 26 #[.pointer (some ⟨b, 0, none⟩), .string v, .slice A m0 c0] w (ScTo s v seen w) := by
  have cm := mayWalk_any h lk.wf hv
  by_cases he : err15 s v = 0
  · obtain ⟨v1, v2, v3⟩ := err_zero he
    obtain ⟨hsn, hwk⟩ := sn_is lk.wf he
    have HSC : Hid (wkS s v = ((inside s v).map (fun x => ⟨tl v x.path, nodeOf x⟩), 0)) := by
      show _ = _
      rw [← hwk]
      unfold wkS
      rw [if_neg (by rw [he]; decide)]
    have HSN := Lib.hid hsn
    rw [he] at cm
    have h0 := vol_name v1
    have cf := fun W (hW : Below w.heap.size w W) => files_any A m0 c0 seen W (hSn.below hW) hm0 hz
    have cb := fun W (hW : Below w.heap.size w W) => below_any b s F lk ((bel s.L v).length + 1) v W (Nat.lt_succ_self _) h0 hv (imp_below h hW)
    have HST : Hid (∀ x ∈ s.L, ∀ W, Below w.heap.size w W → Calls Try.prog 38 #[.pointer (some ⟨b, 0, none⟩), .string x.path] W fun e w' => e = .returned (.int .i64 (x.stamp : Int)) ∧ W = w') := fun x hx W hW => by
      have := ok_stamp (p := x.path) (imp_below h hW) (Nat.le_trans (chk_short (lk.wf.names x hx) (by omega)) (by omega))
      have e : stampS s x.path = x.stamp := by unfold stampS; rw [Sc.find_one lk.wf.rises hx]
      rw [e] at this
      exact this
    have hkn : ∀ x ∈ s.L, Dk.kind s.L x.path = if x.dir then 1 else 2 := fun x hx => by rw [Dk.kind, Sc.find_one lk.wf.rises hx]; rfl
    have HKD : Hid (∀ x ∈ s.L, ∀ W, Below w.heap.size w W → Calls Try.prog 39 #[.pointer (some ⟨b, 0, none⟩), .string x.path] W fun e w' => e = .returned (.int .i64 ((if x.dir then 1 else 2 : Nat) : Int)) ∧ W = w') := fun x hx W hW => by
      have := ok_kind (p := x.path) (imp_below h hW) (Nat.le_trans (chk_short (lk.wf.names x hx) (by omega)) (by omega))
      rw [hkn x hx] at this
      exact this
    have HSD : Hid (∀ x ∈ s.L, x.dir = false → ∀ W, Below w.heap.size w W → Calls Try.prog 40 #[.pointer (some ⟨b, 0, none⟩), .string x.path] W fun e w' => e = .returned (.agg #[.int .i64 2, .string x.data]) ∧ Below W.heap.size W w') := fun x hx hd W hW => by
      have := stands_at (p := x.path) (imp_below h hW) (Nat.le_trans (chk_short (lk.wf.names x hx) (by omega)) (by omega))
      have e : readS s x.path = (x.data, 0) := by unfold readS; rw [v2, if_neg (by decide), Sc.find_one lk.wf.rises hx]; simp only [hd]; rfl
      rw [hkn x hx, hd, e] at this
      exact this
    have HPS : Hid (∀ x ∈ inside s v, x ∈ s.L ∧ v.size + 1 ≤ x.path.size ∧ x.path.size ≤ 1000 ∧ kb (tl v x.path) x.stamp ∧ x.path = vp v (tl v x.path)) := fun x hx => by
      obtain ⟨hx1, hx2⟩ := List.mem_filter.1 hx
      have hs := chk_short (lk.wf.names x hx1) (by omega)
      have hst := stp x hx1
      have hst2 := lk.ok.stamps
      refine ⟨hx1, (inV_long h0 hx2).1, hs, ⟨?_, ?_⟩, inV_at h0 hx2⟩
      · unfold tl
        rw [ByteArray.size_extract]
        unfold maxLen
        omega
      · simp [Lit.wf, IntKind.min, IntKind.max, IntKind.signed, IntKind.bits]
        omega
    have hil : (inside s v).length ≤ 100000 := Nat.le_trans (List.length_filter_le _ _) lk.len
    have HGD := Lib.hid hgd
    have hbl : bel s.L v = (inside s v).map (·.path) := rfl
    rw [hbl] at cb
    have HCF := Lib.hid cf
    have HCB := Lib.hid cb
    obtain ⟨iE, hiE, hzE0, hzE1, hzE2⟩ := info_parts En.infoE
    obtain ⟨iN, hiN, hzN0, hzN1, hzN2⟩ := info_parts infoS
    clear h lk stp hSn hz hgd v1 v2 v3 hsn hwk he h0 cf cb hkn hbl
    go_enter Try.func26, Try.ntmps26
    go_wp2_with fail
    go_at_call 35
    refine cm.mono ?_
    rintro e w1 ⟨rfl, hb1⟩
    have HB1 := Lib.hid hb1
    clear cm hb1
    go_wp2_with fail
    go_at_call 36
    refine (HCF.out _ HB1.out).mono ?_
    rintro e w2 ⟨bm, rfl, hKn, hbm, hb2⟩
    have HB2 : Hid (Below w.heap.size w w2) := below_call HB1.out hb2
    have hbm2 := hKn.lt
    have HKN := Lib.hid hKn
    clear HCF hb2 hKn
    go_wp2_with fail
    go_at_call 37
    refine (HCB.out _ HB2.out).mono ?_
    rintro e w3 ⟨vl, rfl, hvl, hb3⟩
    obtain ⟨a, c, rfl, hS, _⟩ := Texts.more hvl
    rw [List.length_map] at hS ⊢
    obtain ⟨m, hm⟩ : ∃ m, m = (inside s v).length := ⟨_, rfl⟩
    have HM := Lib.hid hm
    rw [← hm] at hS hil ⊢
    have HS := Lib.hid hS
    have HB3 : Hid (Below w.heap.size w w3) := below_call HB2.out hb3
    have HK3 : Hid (Kn w3 bm (kfiles seen)) := HKN.out.kept (hb3.block bm hbm2)
    have hbm3 : bm < w3.heap.size := Nat.lt_of_lt_of_le hbm2 hb3.size
    have hsz3 := HB3.out.size
    clear HCB HKN hvl hS hb3 hm hbm2
    go_wp2_with fail
    go_loopw [6, 7, 8, 13, 14, 15, 16, 29] (fun vt vn rd _ _ _ _ i wr => ∃ k : Nat, k ≤ m ∧ i = .int .i64 (k : Int) ∧ rd = .int .i64 (cntK s v seen k : Int) ∧ Hid (En.Own wr w3.heap.size vt (((inside s v).map fun x => ⟨tl v x.path, nodeOf x⟩).take k)) ∧ Hid (OwnN wr w3.heap.size vn (((inside s v).map (snI v)).take k)) ∧ Hid (Below w3.heap.size w3 wr)) (fun _ _ _ _ _ _ _ i _ => m - (intOf i).toNat)
    case atStart => exact ⟨0, Nat.zero_le _, rfl, rfl, own_nilE _ _, own_nilN _ _, Below.refl _ _⟩
    case round =>
      obtain ⟨k, hk, rfl, rfl, HOt, HOn, HB⟩ := hrel
      by_cases hlt : k < m
      · have hltz : (k : Int) < (m : Int) := by omega
        obtain ⟨g, off, rfl, hg, hc⟩ := HS.out.2.resolve_left (by omega)
        obtain ⟨x, hx⟩ : ∃ x, (inside s v)[k]? = some x := ⟨_, List.getElem?_eq_getElem (by rw [← HM.out]; exact hlt)⟩
        have hxm := List.mem_of_getElem? hx
        obtain ⟨hxL, hlong, hps, hkb, hvp⟩ := HPS.out x hxm
        have d0 := (HB.out.cell (p := ⟨g, _, none⟩) hg).trans (hc k x.path (by rw [List.getElem?_map, hx]; rfl))
        have HT1 := Lib.hid (take_next (fun x : It => (⟨tl v x.path, nodeOf x⟩ : En.Et)) hx)
        have HT2 := Lib.hid (take_next (snI v) hx)
        have HC2 := Lib.hid (cnt_next (seen := seen) hx)
        have hcl := cnt_le s v seen k
        have HL1 : Hid ((((inside s v).map fun x => (⟨tl v x.path, nodeOf x⟩ : En.Et)).take k).length = k) := by show _ = _; rw [List.length_take, List.length_map]; have := HM.out; omega
        have HL2 : Hid ((((inside s v).map (snI v)).take k).length = k) := by show _ = _; rw [List.length_take, List.length_map]; have := HM.out; omega
        have cst := HST.out x hxL
        have ckd := HKD.out x hxL
        have csd := HSD.out x hxL
        have HCUT := Lib.hid (cut_text x.path (v.size + 1) hlong)
        have q1 : (v.size : Int) + 1 = ((v.size + 1 : Nat) : Int) := by omega
        have V1 : IntKind.i64.wrap ((v.size + 1 : Nat) : Int) = ((v.size + 1 : Nat) : Int) := IntWalk.i64_in _ (by omega)
        have HBW : Hid (Below w.heap.size w wr.drew) := (HB3.out.trans (HB.out.mono hsz3)).drew
        have hszr : w3.heap.size ≤ wr.heap.size := HB.out.size
        have lo : ∀ q, u6.ownBlock = some q → q < wr.heap.size := fun q hq => (World.ownsRow.lt HOt.out q hq).2
        have ln : ∀ q, u7.ownBlock = some q → q < wr.heap.size := fun q hq => (World.ownsRow.lt HOn.out q hq).2
        have HLO := Lib.hid lo
        have HLN := Lib.hid ln
        have HCST := Lib.hid cst
        have HCKD := Lib.hid ckd
        have HCSD := Lib.hid csd
        have HXL := Lib.hid hxL
        have HVP := Lib.hid hvp
        clear hc hx hxm lo ln cst ckd csd hxL hvp
        obtain ⟨CN, hCN⟩ : ∃ CN, CN = cntK s v seen k := ⟨_, rfl⟩
        rw [← hCN] at hcl ⊢
        have HCN := Lib.hid hCN
        clear hCN
        cases hdir : x.dir with
        | true =>
          have hnd : nodeOf x = ⟨1, ⟨#[]⟩⟩ := by unfold nodeOf; rw [hdir]; rfl
          have HND := Lib.hid hnd
          have HCN2 : Hid (cntK s v seen (k + 1) = CN) := by
            have e := HC2.out
            have hkk : known seen (snI v x) = true := by
              unfold known snI
              rw [hnd]
              rfl
            rw [hkk, if_pos rfl] at e
            show _ = _
            rw [e, HCN.out]
            rfl
          have hck : ∀ W, Below w.heap.size w W → Calls Try.prog 39 #[.pointer (some ⟨b, 0, none⟩), .string x.path] W fun e w' => e = .returned (.int .i64 ((1 : Nat) : Int)) ∧ W = w' := fun W hW => by
            have := HCKD.out W hW
            rw [hdir] at this
            exact this
          have HCK := Lib.hid hck
          clear hck
          go_wp2_with fail
          refine Rg.wp_only ?_ (scanReg _ (by kernel_rfl) _ (v.size + 1) x.stamp 1 v x.path (tl v x.path) _ wr (fun W => Below w.heap.size w W) HBW.out q1 V1 HCUT.out (HBW.out.alloc HBW.out.size _) (HBW.out.alloc HBW.out.size _) HCST.out HCK.out)
          rintro _ W5 ⟨rfl, hW5⟩
          have hG5 : W5.heap[wr.heap.size]? = some (.cells #[.string (tl v x.path), .int .i64 (x.stamp : Int), .int .i64 1, .string ⟨#[]⟩] 67) := by rw [hW5]; exact heap_alloc_new wr.drew _
          have hb5 : Below wr.heap.size wr W5 := by rw [hW5]; exact ((Below.refl _ _).drew).alloc (Nat.le_refl _) _
          have hs5 : W5.heap.size = wr.heap.size + 1 := by rw [hW5]; go_simp
          have HG5 := Lib.hid hG5
          have HBB5 := Lib.hid hb5
          clear hW5 hG5 hb5 HCUT q1 V1 HCST HCKD HCK d0
          clear HCSD HC2
          have hkd1 : ¬ (1 : Int) = 2 := by decide
          have hsW : W5.heap.size = (wr.heap.size + 1) := by exact hs5
          obtain ⟨d0, d1, d2, d3, d4⟩ := cells_fourS HG5.out
          have hot := HOt.out.below HBB5.out
          have hon := HOn.out.below HBB5.out
          have hB5 : Below w3.heap.size w3 W5 := HB.out.trans (HBB5.out.mono hszr)
          have hs3 := hB5.size
          have hown : W5.ownsRow w3.heap.size 42 3 u6 k ((((inside s v).map fun x => (⟨tl v x.path, nodeOf x⟩ : En.Et)).take k).flatMap En.cells) := by have := hot; unfold En.Own at this; rw [HL1.out] at this; exact this
          have hownN : W5.ownsRow w3.heap.size 67 4 u7 k ((((inside s v).map (snI v)).take k).flatMap cellsN) := by have := hon; unfold OwnN at this; rw [HL2.out] at this; exact this
          go_wp2_with (at_builtin; refine wpList_append_own _ rfl _ _ 22 rfl w3.heap.size 42 iE (.agg #[.string ⟨#[]⟩, .int .i64 0, .string ⟨#[]⟩]) 3 40 Try.underlying22 hiE hzE0 hzE1 hzE2 rfl (by decide) _ _ _ rfl (hown.alloc _) ⟨(wr.heap.size + 1), 0, none⟩ 1 1 (En.cells ⟨tl v x.path, ⟨1, ⟨#[]⟩⟩⟩) rfl rfl ?c1 ?c2 ?c3 ?c4 ?c5 ?_)
          case c1 =>
            rw [← hsW]
            exact En.cell_three_new _ _ _ _ _
          case c2 => exact En.cells_one _
          case c3 => unfold maxLen; omega
          case c4 => omega
          case c5 => simp; omega
          intro v6 w6 hown6 hgrow6 _
          have hB6 := below_step hB5 hown hgrow6
          have hG6 : w6.heap[wr.heap.size]? = some (.cells #[.string (tl v x.path), .int .i64 (x.stamp : Int), .int .i64 1, .string ⟨#[]⟩] 67) := (hgrow6.block _ (by have := (Array.getElem?_eq_some_iff.1 HG5.out).1; simp; omega) (fun e => by have := HLO.out _ e.symm; omega)).trans ((Below.heap_alloc _ _ _ (Array.getElem?_eq_some_iff.1 HG5.out).1).trans HG5.out)
          have hownN6 := own_other (hownN.alloc (.cells #[.string (tl v x.path), .int .i64 1, .string ⟨#[]⟩] 42)) (hown.alloc (.cells #[.string (tl v x.path), .int .i64 1, .string ⟨#[]⟩] 42)) (by decide) hgrow6
          obtain ⟨f0, f1, f2, f3, f4⟩ := cells_fourS hG6
          have hs6 := hB6.size
          clear hsW
          have HOT6 : Hid (En.Own w6 w3.heap.size v6 (((inside s v).map fun x => (⟨tl v x.path, nodeOf x⟩ : En.Et)).take (k + 1))) := by
            show En.Own _ _ _ _
            rw [HT1.out, HND.out]
            unfold En.Own
            rw [List.length_append, HL1.out, List.flatMap_append]
            simpa using hown6
          have HG6 := Lib.hid hG6
          have HB6 := Lib.hid hB6
          clear d0 d1 d2 d3 d4 hot hon hB5 hown hownN hs3 hown6 hgrow6 hG6 hB6
          go_wp2_with (at_builtin; refine wpList_append_own _ rfl _ _ 55 rfl w3.heap.size 67 iN (.agg #[.string ⟨#[]⟩, .int .i64 0, .int .i64 0, .string ⟨#[]⟩]) 4 48 Try.underlying55 hiN hzN0 hzN1 hzN2 rfl (by decide) _ _ _ rfl (hownN6.alloc _) ⟨w6.heap.size, 0, none⟩ 1 1 (cellsN ⟨tl v x.path, x.stamp, ⟨1, ⟨#[]⟩⟩⟩) rfl rfl ?e1 ?e2 ?e3 ?e4 ?e5 ?_)
          case e1 => exact cell_four _ _ _ _ _ _
          case e2 => exact cellsN_one _
          case e3 => unfold maxLen; omega
          case e4 => omega
          case e5 => simp; omega
          intro v7 w7 hown7 hgrow7 _
          have HB7 : Hid (Below w3.heap.size w3 w7) := below_step HB6.out hownN6 hgrow7
          have HOT7 : Hid (En.Own w7 w3.heap.size v6 (((inside s v).map fun x => (⟨tl v x.path, nodeOf x⟩ : En.Et)).take (k + 1))) := own_other (World.ownsRow.alloc HOT6.out _) (hownN6.alloc _) (by decide) hgrow7
          have HON7 : Hid (OwnN w7 w3.heap.size v7 (((inside s v).map (snI v)).take (k + 1))) := by
            show OwnN _ _ _ _
            have e : snI v x = ⟨tl v x.path, x.stamp, ⟨1, ⟨#[]⟩⟩⟩ := by unfold snI; rw [HND.out]
            rw [HT2.out, e]
            unfold OwnN
            rw [List.length_append, HL2.out, List.flatMap_append]
            simpa using hown7
          clear f0 f1 f2 f3 f4 hownN6 hown7 hgrow7 hs6
          go_wp2_with fail
          go_roundw
          case rel => exact ⟨k + 1, by omega, by go_num, by rw [HCN2.out], HOT7, HON7, HB7⟩
          case measure => simp only [intOf]; omega
        | false =>
          have hnd : nodeOf x = ⟨2, x.data⟩ := by unfold nodeOf; rw [hdir]; rfl
          have HND := Lib.hid hnd
          have hkk : known seen (snI v x) = (kfd (kfiles seen) (tl v x.path) x.stamp).isSome := known_kfd (x := snI v x) (by unfold snI; rw [hnd])
          have hck : ∀ W, Below w.heap.size w W → Calls Try.prog 39 #[.pointer (some ⟨b, 0, none⟩), .string x.path] W fun e w' => e = .returned (.int .i64 ((2 : Nat) : Int)) ∧ W = w' := fun W hW => by
            have := HCKD.out W hW
            rw [hdir] at this
            exact this
          have HCK := Lib.hid hck
          clear hck
          go_wp2_with fail
          refine Rg.wp_only ?_ (scanReg _ (by kernel_rfl) _ (v.size + 1) x.stamp 2 v x.path (tl v x.path) _ wr (fun W => Below w.heap.size w W) HBW.out q1 V1 HCUT.out (HBW.out.alloc HBW.out.size _) (HBW.out.alloc HBW.out.size _) HCST.out HCK.out)
          rintro _ W5 ⟨rfl, hW5⟩
          have hG5 : W5.heap[wr.heap.size]? = some (.cells #[.string (tl v x.path), .int .i64 (x.stamp : Int), .int .i64 2, .string ⟨#[]⟩] 67) := by rw [hW5]; exact heap_alloc_new wr.drew _
          have hb5 : Below wr.heap.size wr W5 := by rw [hW5]; exact ((Below.refl _ _).drew).alloc (Nat.le_refl _) _
          have hs5 : W5.heap.size = wr.heap.size + 1 := by rw [hW5]; go_simp
          have HG5 := Lib.hid hG5
          have HBB5 := Lib.hid hb5
          clear hW5 hG5 hb5 HCUT q1 V1 HCST HCKD HCK d0
          have hK5 : Kn W5 bm (kfiles seen) := HK3.out.kept ((HBB5.out.block bm (Nat.lt_of_lt_of_le hbm3 hszr)).trans (HB.out.block bm hbm3))
          have hlook := hK5.look hkb
          unfold kv ndV at hlook
          cases hfd : kfd (kfiles seen) (tl v x.path) x.stamp with
          | some y =>
            rw [hfd] at hlook hkk
            have hyn : y.node = ⟨2, x.data⟩ := kfd_good HGD.out hfd HXL.out HVP.out rfl hdir
            simp only [hyn, Option.isSome_some] at hlook
            have HCN2 : Hid (cntK s v seen (k + 1) = CN) := by
              have e := HC2.out
              rw [hkk] at e
              show _ = _
              rw [e, HCN.out]
              rfl
            clear HCSD HC2 hkk hyn hfd hK5
            have hGa : (W5.alloc (.cells #[.int .i64 2, .string x.data] 29)).heap[wr.heap.size]? = some (.cells #[.string (tl v x.path), .int .i64 (x.stamp : Int), .int .i64 2, .string ⟨#[]⟩] 67) := (Below.heap_alloc _ _ _ (by omega)).trans HG5.out
            have hGb : (W5.setCell ⟨wr.heap.size, 2, none⟩ (.int .i64 2)).heap[wr.heap.size]? = some (.cells #[.string (tl v x.path), .int .i64 (x.stamp : Int), .int .i64 2, .string ⟨#[]⟩] 67) := Go.heap_setCell_same _ _ 2 _ _ _ HG5.out
            have hGc : ((W5.setCell ⟨wr.heap.size, 2, none⟩ (.int .i64 2)).setCell ⟨wr.heap.size, 3, none⟩ (.string x.data)).heap[wr.heap.size]? = some (.cells #[.string (tl v x.path), .int .i64 (x.stamp : Int), .int .i64 2, .string x.data] 67) := Go.heap_setCell_same _ _ 3 _ _ _ hGb
            have hGd : (((W5.setCell ⟨wr.heap.size, 2, none⟩ (.int .i64 2)).setCell ⟨wr.heap.size, 3, none⟩ (.string x.data)).alloc (.cells #[.int .i64 2, .string x.data] 29)).heap[wr.heap.size]? = some (.cells #[.string (tl v x.path), .int .i64 (x.stamp : Int), .int .i64 2, .string x.data] 67) := (Below.heap_alloc _ _ _ (by simp; omega)).trans hGc
            have hNa : (W5.alloc (.cells #[.int .i64 2, .string x.data] 29)).heap[wr.heap.size + 1]? = some (.cells #[.int .i64 2, .string x.data] 29) := by rw [← hs5]; exact heap_alloc_new _ _
            obtain ⟨g0, g1, g2, g3, g4⟩ := cells_fourS HG5.out
            obtain ⟨a0, a1, a2, a3, a4⟩ := cells_fourS hGa
            obtain ⟨n0, n1, n2⟩ := cells_twoS hNa
            have HGW := Lib.hid hGd
            have hbw6 : Below wr.heap.size wr (((W5.setCell ⟨wr.heap.size, 2, none⟩ (.int .i64 2)).setCell ⟨wr.heap.size, 3, none⟩ (.string x.data)).alloc (.cells #[.int .i64 2, .string x.data] 29)) := ((HBB5.out.setCell (Nat.le_refl _) _).setCell (Nat.le_refl _) _).alloc (by simp; omega) _
            have HBW6 := Lib.hid hbw6
            clear hGa hGb hGc hGd hNa hbw6
            have hsW : (((W5.setCell ⟨wr.heap.size, 2, none⟩ (.int .i64 2)).setCell ⟨wr.heap.size, 3, none⟩ (.string x.data)).alloc (.cells #[.int .i64 2, .string x.data] 29)).heap.size = (wr.heap.size + 1 + 1) := by simp [hs5]
            obtain ⟨d0, d1, d2, d3, d4⟩ := cells_fourS HGW.out
            have hot := HOt.out.below HBW6.out
            have hon := HOn.out.below HBW6.out
            have hB5 : Below w3.heap.size w3 (((W5.setCell ⟨wr.heap.size, 2, none⟩ (.int .i64 2)).setCell ⟨wr.heap.size, 3, none⟩ (.string x.data)).alloc (.cells #[.int .i64 2, .string x.data] 29)) := HB.out.trans (HBW6.out.mono hszr)
            have hs3 := hB5.size
            have hown : (((W5.setCell ⟨wr.heap.size, 2, none⟩ (.int .i64 2)).setCell ⟨wr.heap.size, 3, none⟩ (.string x.data)).alloc (.cells #[.int .i64 2, .string x.data] 29)).ownsRow w3.heap.size 42 3 u6 k ((((inside s v).map fun x => (⟨tl v x.path, nodeOf x⟩ : En.Et)).take k).flatMap En.cells) := by have := hot; unfold En.Own at this; rw [HL1.out] at this; exact this
            have hownN : (((W5.setCell ⟨wr.heap.size, 2, none⟩ (.int .i64 2)).setCell ⟨wr.heap.size, 3, none⟩ (.string x.data)).alloc (.cells #[.int .i64 2, .string x.data] 29)).ownsRow w3.heap.size 67 4 u7 k ((((inside s v).map (snI v)).take k).flatMap cellsN) := by have := hon; unfold OwnN at this; rw [HL2.out] at this; exact this
            go_wp2_with (at_builtin; refine wpList_append_own _ rfl _ _ 22 rfl w3.heap.size 42 iE (.agg #[.string ⟨#[]⟩, .int .i64 0, .string ⟨#[]⟩]) 3 40 Try.underlying22 hiE hzE0 hzE1 hzE2 rfl (by decide) _ _ _ rfl (hown.alloc _) ⟨(wr.heap.size + 1 + 1), 0, none⟩ 1 1 (En.cells ⟨tl v x.path, ⟨2, x.data⟩⟩) rfl rfl ?c1 ?c2 ?c3 ?c4 ?c5 ?_)
            case c1 =>
              rw [← hsW]
              exact En.cell_three_new _ _ _ _ _
            case c2 => exact En.cells_one _
            case c3 => unfold maxLen; omega
            case c4 => omega
            case c5 => simp; omega
            intro v6 w6 hown6 hgrow6 _
            have hB6 := below_step hB5 hown hgrow6
            have hG6 : w6.heap[wr.heap.size]? = some (.cells #[.string (tl v x.path), .int .i64 (x.stamp : Int), .int .i64 2, .string x.data] 67) := (hgrow6.block _ (by have := (Array.getElem?_eq_some_iff.1 HGW.out).1; simp; omega) (fun e => by have := HLO.out _ e.symm; omega)).trans ((Below.heap_alloc _ _ _ (Array.getElem?_eq_some_iff.1 HGW.out).1).trans HGW.out)
            have hownN6 := own_other (hownN.alloc (.cells #[.string (tl v x.path), .int .i64 2, .string x.data] 42)) (hown.alloc (.cells #[.string (tl v x.path), .int .i64 2, .string x.data] 42)) (by decide) hgrow6
            obtain ⟨f0, f1, f2, f3, f4⟩ := cells_fourS hG6
            have hs6 := hB6.size
            clear hsW
            have HOT6 : Hid (En.Own w6 w3.heap.size v6 (((inside s v).map fun x => (⟨tl v x.path, nodeOf x⟩ : En.Et)).take (k + 1))) := by
              show En.Own _ _ _ _
              rw [HT1.out, HND.out]
              unfold En.Own
              rw [List.length_append, HL1.out, List.flatMap_append]
              simpa using hown6
            have HG6 := Lib.hid hG6
            have HB6 := Lib.hid hB6
            clear d0 d1 d2 d3 d4 hot hon hB5 hown hownN hs3 hown6 hgrow6 hG6 hB6
            go_wp2_with (at_builtin; refine wpList_append_own _ rfl _ _ 55 rfl w3.heap.size 67 iN (.agg #[.string ⟨#[]⟩, .int .i64 0, .int .i64 0, .string ⟨#[]⟩]) 4 48 Try.underlying55 hiN hzN0 hzN1 hzN2 rfl (by decide) _ _ _ rfl (hownN6.alloc _) ⟨w6.heap.size, 0, none⟩ 1 1 (cellsN ⟨tl v x.path, x.stamp, ⟨2, x.data⟩⟩) rfl rfl ?e1 ?e2 ?e3 ?e4 ?e5 ?_)
            case e1 => exact cell_four _ _ _ _ _ _
            case e2 => exact cellsN_one _
            case e3 => unfold maxLen; omega
            case e4 => omega
            case e5 => simp; omega
            intro v7 w7 hown7 hgrow7 _
            have HB7 : Hid (Below w3.heap.size w3 w7) := below_step HB6.out hownN6 hgrow7
            have HOT7 : Hid (En.Own w7 w3.heap.size v6 (((inside s v).map fun x => (⟨tl v x.path, nodeOf x⟩ : En.Et)).take (k + 1))) := own_other (World.ownsRow.alloc HOT6.out _) (hownN6.alloc _) (by decide) hgrow7
            have HON7 : Hid (OwnN w7 w3.heap.size v7 (((inside s v).map (snI v)).take (k + 1))) := by
              show OwnN _ _ _ _
              have e : snI v x = ⟨tl v x.path, x.stamp, ⟨2, x.data⟩⟩ := by unfold snI; rw [HND.out]
              rw [HT2.out, e]
              unfold OwnN
              rw [List.length_append, HL2.out, List.flatMap_append]
              simpa using hown7
            clear f0 f1 f2 f3 f4 hownN6 hown7 hgrow7 hs6
            go_wp2_with fail
            go_roundw
            case rel => exact ⟨k + 1, by omega, by go_num, by rw [HCN2.out], HOT7, HON7, HB7⟩
            case measure => simp only [intOf]; omega
          | none =>
            rw [hfd] at hlook hkk
            simp only [Option.isSome_none] at hlook
            have HCN2 : Hid (cntK s v seen (k + 1) = CN + 1) := by
              have e := HC2.out
              rw [hkk] at e
              show _ = _
              rw [e, HCN.out]
              rfl
            have HST5 := Lib.hid (HCSD.out hdir)
            clear HCSD HC2 hkk hfd hK5
            have hGa : (W5.alloc (.cells #[.int .i64 0, .string ⟨#[]⟩] 29)).heap[wr.heap.size]? = some (.cells #[.string (tl v x.path), .int .i64 (x.stamp : Int), .int .i64 2, .string ⟨#[]⟩] 67) := (Below.heap_alloc _ _ _ (by omega)).trans HG5.out
            have hNa : (W5.alloc (.cells #[.int .i64 0, .string ⟨#[]⟩] 29)).heap[wr.heap.size + 1]? = some (.cells #[.int .i64 0, .string ⟨#[]⟩] 29) := by rw [← hs5]; exact heap_alloc_new _ _
            have hBa : Below wr.heap.size wr (W5.alloc (.cells #[.int .i64 0, .string ⟨#[]⟩] 29)) := HBB5.out.alloc HBB5.out.size _
            have hBWa : Below w.heap.size w (W5.alloc (.cells #[.int .i64 0, .string ⟨#[]⟩] 29)) := (HB3.out.trans (HB.out.mono hsz3)).trans (hBa.mono (Nat.le_trans hsz3 hszr))
            obtain ⟨g0, g1, g2, g3, g4⟩ := cells_fourS HG5.out
            have HGA := Lib.hid hGa
            have HNA := Lib.hid hNa
            have HBA := Lib.hid hBa
            have HBWA := Lib.hid hBWa
            have hsa : (W5.alloc (.cells #[.int .i64 0, .string ⟨#[]⟩] 29)).heap.size = W5.heap.size + 1 := by simp
            clear hGa hNa hBa hBWa
            go_wp2_with fail
            go_at_call 40
            refine (HST5.out _ HBWA.out).mono ?_
            rintro e W6 ⟨rfl, hb6⟩
            have hG6 := (hb6.block wr.heap.size (by rw [hsa]; omega)).trans HGA.out
            have hN6 := (hb6.block (wr.heap.size + 1) (by rw [hsa]; omega)).trans HNA.out
            have hB6 : Below wr.heap.size wr W6 := HBA.out.trans (hb6.mono HBA.out.size)
            obtain ⟨gn, hgn⟩ : ∃ gn, gn = wr.heap.size + 1 := ⟨_, rfl⟩
            have hgne : gn ≠ wr.heap.size := by omega
            have hgle : wr.heap.size ≤ gn := by omega
            rw [← hgn] at hN6 ⊢
            clear hb6 hsa hgn HGA HNA HBA HBWA g0 g1 g2 g3 g4 hlook
            have hN7 : (W6.setCell ⟨gn, 0, none⟩ (.int .i64 2)).heap[gn]? = some (.cells #[.int .i64 2, .string ⟨#[]⟩] 29) := Go.heap_setCell_same _ _ 0 _ _ _ hN6
            have hN8 : ((W6.setCell ⟨gn, 0, none⟩ (.int .i64 2)).setCell ⟨gn, 1, none⟩ (.string x.data)).heap[gn]? = some (.cells #[.int .i64 2, .string x.data] 29) := Go.heap_setCell_same _ _ 1 _ _ _ hN7
            have hG8 : ((W6.setCell ⟨gn, 0, none⟩ (.int .i64 2)).setCell ⟨gn, 1, none⟩ (.string x.data)).heap[wr.heap.size]? = some (.cells #[.string (tl v x.path), .int .i64 (x.stamp : Int), .int .i64 2, .string ⟨#[]⟩] 67) := (Below.heap_setCell _ ⟨gn, 1, none⟩ _ _ (fun e => hgne e.symm)).trans ((Below.heap_setCell _ ⟨gn, 0, none⟩ _ _ (fun e => hgne e.symm)).trans hG6)
            have hG9 : (((W6.setCell ⟨gn, 0, none⟩ (.int .i64 2)).setCell ⟨gn, 1, none⟩ (.string x.data)).setCell ⟨wr.heap.size, 2, none⟩ (.int .i64 2)).heap[wr.heap.size]? = some (.cells #[.string (tl v x.path), .int .i64 (x.stamp : Int), .int .i64 2, .string ⟨#[]⟩] 67) := Go.heap_setCell_same _ _ 2 _ _ _ hG8
            have hG10 : ((((W6.setCell ⟨gn, 0, none⟩ (.int .i64 2)).setCell ⟨gn, 1, none⟩ (.string x.data)).setCell ⟨wr.heap.size, 2, none⟩ (.int .i64 2)).setCell ⟨wr.heap.size, 3, none⟩ (.string x.data)).heap[wr.heap.size]? = some (.cells #[.string (tl v x.path), .int .i64 (x.stamp : Int), .int .i64 2, .string x.data] 67) := Go.heap_setCell_same _ _ 3 _ _ _ hG9
            obtain ⟨m0, m1, m2⟩ := cells_twoS hN6
            obtain ⟨n0, n1, n2⟩ := cells_twoS hN7
            obtain ⟨o0, o1, o2⟩ := cells_twoS hN8
            obtain ⟨p0, p1, p2, p3, p4⟩ := cells_fourS hG8
            obtain ⟨q0, q1, q2, q3, q4⟩ := cells_fourS hG9
            have HGW := Lib.hid hG10
            have HBW6 : Hid (Below wr.heap.size wr ((((W6.setCell ⟨gn, 0, none⟩ (.int .i64 2)).setCell ⟨gn, 1, none⟩ (.string x.data)).setCell ⟨wr.heap.size, 2, none⟩ (.int .i64 2)).setCell ⟨wr.heap.size, 3, none⟩ (.string x.data))) := (((hB6.setCell (p := ⟨gn, 0, none⟩) hgle _).setCell (p := ⟨gn, 1, none⟩) hgle _).setCell (Nat.le_refl _) _).setCell (Nat.le_refl _) _
            clear hN6 hN7 hN8 hG6 hG8 hG9 hG10 hB6
            have hsW : ((((W6.setCell ⟨gn, 0, none⟩ (.int .i64 2)).setCell ⟨gn, 1, none⟩ (.string x.data)).setCell ⟨wr.heap.size, 2, none⟩ (.int .i64 2)).setCell ⟨wr.heap.size, 3, none⟩ (.string x.data)).heap.size = W6.heap.size := by simp
            obtain ⟨d0, d1, d2, d3, d4⟩ := cells_fourS HGW.out
            have hot := HOt.out.below HBW6.out
            have hon := HOn.out.below HBW6.out
            have hB5 : Below w3.heap.size w3 ((((W6.setCell ⟨gn, 0, none⟩ (.int .i64 2)).setCell ⟨gn, 1, none⟩ (.string x.data)).setCell ⟨wr.heap.size, 2, none⟩ (.int .i64 2)).setCell ⟨wr.heap.size, 3, none⟩ (.string x.data)) := HB.out.trans (HBW6.out.mono hszr)
            have hs3 := hB5.size
            have hown : ((((W6.setCell ⟨gn, 0, none⟩ (.int .i64 2)).setCell ⟨gn, 1, none⟩ (.string x.data)).setCell ⟨wr.heap.size, 2, none⟩ (.int .i64 2)).setCell ⟨wr.heap.size, 3, none⟩ (.string x.data)).ownsRow w3.heap.size 42 3 u6 k ((((inside s v).map fun x => (⟨tl v x.path, nodeOf x⟩ : En.Et)).take k).flatMap En.cells) := by have := hot; unfold En.Own at this; rw [HL1.out] at this; exact this
            have hownN : ((((W6.setCell ⟨gn, 0, none⟩ (.int .i64 2)).setCell ⟨gn, 1, none⟩ (.string x.data)).setCell ⟨wr.heap.size, 2, none⟩ (.int .i64 2)).setCell ⟨wr.heap.size, 3, none⟩ (.string x.data)).ownsRow w3.heap.size 67 4 u7 k ((((inside s v).map (snI v)).take k).flatMap cellsN) := by have := hon; unfold OwnN at this; rw [HL2.out] at this; exact this
            go_wp2_with (at_builtin; refine wpList_append_own _ rfl _ _ 22 rfl w3.heap.size 42 iE (.agg #[.string ⟨#[]⟩, .int .i64 0, .string ⟨#[]⟩]) 3 40 Try.underlying22 hiE hzE0 hzE1 hzE2 rfl (by decide) _ _ _ rfl (hown.alloc _) ⟨W6.heap.size, 0, none⟩ 1 1 (En.cells ⟨tl v x.path, ⟨2, x.data⟩⟩) rfl rfl ?c1 ?c2 ?c3 ?c4 ?c5 ?_)
            case c1 =>
              rw [← hsW]
              exact En.cell_three_new _ _ _ _ _
            case c2 => exact En.cells_one _
            case c3 => unfold maxLen; omega
            case c4 => omega
            case c5 => simp; omega
            intro v6 w6 hown6 hgrow6 _
            have hB6 := below_step hB5 hown hgrow6
            have hG6 : w6.heap[wr.heap.size]? = some (.cells #[.string (tl v x.path), .int .i64 (x.stamp : Int), .int .i64 2, .string x.data] 67) := (hgrow6.block _ (by have := (Array.getElem?_eq_some_iff.1 HGW.out).1; simp; omega) (fun e => by have := HLO.out _ e.symm; omega)).trans ((Below.heap_alloc _ _ _ (Array.getElem?_eq_some_iff.1 HGW.out).1).trans HGW.out)
            have hownN6 := own_other (hownN.alloc (.cells #[.string (tl v x.path), .int .i64 2, .string x.data] 42)) (hown.alloc (.cells #[.string (tl v x.path), .int .i64 2, .string x.data] 42)) (by decide) hgrow6
            obtain ⟨f0, f1, f2, f3, f4⟩ := cells_fourS hG6
            have hs6 := hB6.size
            clear hsW
            have HOT6 : Hid (En.Own w6 w3.heap.size v6 (((inside s v).map fun x => (⟨tl v x.path, nodeOf x⟩ : En.Et)).take (k + 1))) := by
              show En.Own _ _ _ _
              rw [HT1.out, HND.out]
              unfold En.Own
              rw [List.length_append, HL1.out, List.flatMap_append]
              simpa using hown6
            have HG6 := Lib.hid hG6
            have HB6 := Lib.hid hB6
            clear d0 d1 d2 d3 d4 hot hon hB5 hown hownN hs3 hown6 hgrow6 hG6 hB6
            go_wp2_with (at_builtin; refine wpList_append_own _ rfl _ _ 55 rfl w3.heap.size 67 iN (.agg #[.string ⟨#[]⟩, .int .i64 0, .int .i64 0, .string ⟨#[]⟩]) 4 48 Try.underlying55 hiN hzN0 hzN1 hzN2 rfl (by decide) _ _ _ rfl (hownN6.alloc _) ⟨w6.heap.size, 0, none⟩ 1 1 (cellsN ⟨tl v x.path, x.stamp, ⟨2, x.data⟩⟩) rfl rfl ?e1 ?e2 ?e3 ?e4 ?e5 ?_)
            case e1 => exact cell_four _ _ _ _ _ _
            case e2 => exact cellsN_one _
            case e3 => unfold maxLen; omega
            case e4 => omega
            case e5 => simp; omega
            intro v7 w7 hown7 hgrow7 _
            have HB7 : Hid (Below w3.heap.size w3 w7) := below_step HB6.out hownN6 hgrow7
            have HOT7 : Hid (En.Own w7 w3.heap.size v6 (((inside s v).map fun x => (⟨tl v x.path, nodeOf x⟩ : En.Et)).take (k + 1))) := own_other (World.ownsRow.alloc HOT6.out _) (hownN6.alloc _) (by decide) hgrow7
            have HON7 : Hid (OwnN w7 w3.heap.size v7 (((inside s v).map (snI v)).take (k + 1))) := by
              show OwnN _ _ _ _
              have e : snI v x = ⟨tl v x.path, x.stamp, ⟨2, x.data⟩⟩ := by unfold snI; rw [HND.out]
              rw [HT2.out, e]
              unfold OwnN
              rw [List.length_append, HL2.out, List.flatMap_append]
              simpa using hown7
            clear f0 f1 f2 f3 f4 hownN6 hown7 hgrow7 hs6
            go_wp2_with fail
            go_roundw
            case rel => exact ⟨k + 1, by omega, by go_num, by rw [HCN2.out]; go_num, HOT7, HON7, HB7⟩
            case measure => simp only [intOf]; omega
      · have hkn : k = m := by omega
        have e2 : ¬ (k : Int) < (m : Int) := by omega
        have HA1 : Hid ((((inside s v).map fun x => (⟨tl v x.path, nodeOf x⟩ : En.Et)).take k) = (wkS s v).1) := by
          show _ = _
          rw [HSC.out, List.take_of_length_le (by rw [List.length_map, hkn]; exact Nat.le_of_eq HM.out.symm)]
        have HA2 : Hid ((((inside s v).map (snI v)).take k) = snS s v) := by
          show _ = _
          rw [HSN.out, List.take_of_length_le (by rw [List.length_map, hkn]; exact Nat.le_of_eq HM.out.symm)]
        have HA3 : Hid (cntK s v seen k = rdS s v seen) := by
          show _ = _
          unfold cntK rdS
          rw [HA2.out]
        clear hkn
        go_wp2_with fail
        refine bodyPost_ret (results_tmp4 rfl _ _ _) rfl ?_
        have ho := HOt.out
        have hn := HOn.out
        rw [HA1.out] at ho
        rw [HA2.out] at hn
        refine ⟨_, _, ?_, own_low ho hsz3, own_low hn hsz3, HB3.out.trans (HB.out.mono hsz3)⟩
        rw [HA3.out, HSC.out]
        rfl
  · obtain ⟨h1, h2, h3⟩ := wk_err (s := s) (v := v) (by unfold wkS; rw [if_pos he]; exact he)
    have HE : Hid (wkS s v = ([], err15 s v)) := by show _ = _; unfold wkS; rw [if_pos he]
    have H2 := Lib.hid h2
    have H3 := Lib.hid (h3 seen)
    have e1 : ¬ ((err15 s v : Nat) : Int) = 0 := by omega
    clear h lk stp hSn hz hgd h1 h2 h3 he
    go_enter Try.func26, Try.ntmps26
    go_wp2_with fail
    go_at_call 35
    refine cm.mono ?_
    rintro e w1 ⟨rfl, hb1⟩
    have HB1 := Lib.hid hb1
    clear cm hb1
    go_wp2_with fail
    refine bodyPost_ret (results_tmp4 rfl _ _ _) rfl ?_
    refine ⟨.slice none 0 0, .slice none 0 0, ?_, ?_, ?_, HB1.out⟩
    · rw [HE.out, H3.out]; rfl
    · rw [HE.out]; exact own_nilE _ _
    · rw [H2.out]; exact own_nilN _ _
set_option maxRecDepth 100000 in
set_option maxHeartbeats 2000000 in
theorem walk_any {b : Nat} {w : World} {F : Nat → Prop} {s : St} {v : ByteArray} (h : ImpAt b w F s) (lk : Lk s) (stp : Stp s) (hv : v.size ≤ 1048576) :
    Calls Try.prog 14 #[.pointer (some ⟨b, 0, none⟩), .string v] w (WkA (wkS s v) w) := by
  have cs := scan_any none 0 0 [] h lk stp hv (sns_nil _ _) (by omega) (good_none _ _) szn_nil
  clear h lk stp
  go_enter Try.func14, Try.ntmps14
  go_wp2_with fail
  go_at_call 26
  refine cs.mono ?_
  rintro e w1 ⟨v1, v2, rfl, h1, _, hb1⟩
  have H1 := Lib.hid h1
  clear h1 cs
  go_wp2_with fail
  go_ret2
  exact ⟨_, rfl, H1.out, hb1⟩
end Go.Proofs.Ytdpnmdnfnplcfaa.Sc

namespace Go.Proofs.Ytdpnmdnfnplcfaa.Sc
open Go.RowKit Tx Pm Pr Dk
set_option linter.unusedVariables false
def Oi (b : Nat) (w : World) (F : Nat → Prop) (s : St) : Prop := ImpAt b w F s ∧ Wf s.L ∧ Stp s
theorem oi_does {b : Nat} {w w' : World} {F : Nat → Prop} {r : Nat × St} {e : Ending} (h : Does (ImpAt b) w F r e w') (hw : Wf r.2.L) (hs : Stp r.2) : Does (Oi b) w F r e w' := by
  obtain ⟨he, F', h1, h2, h3⟩ := h
  exact ⟨he, F', ⟨h1, hw, hs⟩, h2, h3⟩
theorem oi_new (w : World) : Calls Try.prog 11 #[] w fun e w' => ∃ b F, e = .returned (.pointer (some ⟨b, 0, none⟩)) ∧ Oi b w' F newS ∧ (∀ i, F i → w.heap.size ≤ i) ∧ Below w.heap.size w w' :=
  (ok_new w).mono fun e w' ⟨b, F, h1, h2, h3, h4⟩ => ⟨b, F, h1, ⟨h2, wf_nil, stp_new⟩, h3, h4⟩
end Go.Proofs.Ytdpnmdnfnplcfaa.Sc

namespace Go.Proofs.Ytdpnmdnfnplcfaa.En
open Go.ChangeMaps (open_string shut_string)
open Go.ChangeShapes Go.WideShapes Go.ChangeAt Go.RowKit Tx
set_option linter.unusedVariables false
def dN {H : Type} (n : Nd) : DataW H := .agg [.lit (.int .i64 n.kind), .lit (.string n.data.data.toList)]
def dE {H : Type} (x : Et) : DataW H := .agg [.lit (.string x.path.data.toList), dN x.node]
theorem cells9 : Try.prog.cellsOf 9 = 1 := by kernel_rfl
theorem cells3 : Try.prog.cellsOf 3 = 1 := by kernel_rfl
theorem cellsN : Try.prog.cellsOf 29 = 2 := by kernel_rfl
theorem cellsE : Try.prog.cellsOf 42 = 3 := by kernel_rfl
theorem wf_int {k : Int} (h : (Lit.int .i64 k).wf = true) : isInt k := by
  unfold isInt
  simpa [Lit.wf, IntKind.min, IntKind.max, IntKind.signed, IntKind.bits] using h
theorem node_open {H : Type} {enc : TypeId × Value → H} {w : World} {base : Nat} {spare : Nat → Bool} {held : Bool} {m : Nat} {c1 c2 : Value} {y : DataW H × List MemPlace} (h : DataW.trod enc Try.prog w base spare held m 29 [c1, c2] = some y) :
    ∃ n : Nd, c1 = .int .i64 n.kind ∧ c2 = .string n.data ∧ y = (dN n, []) ∧ isInt n.kind ∧ n.data.size ≤ maxLen := by
  obtain ⟨ys, m2, _, hy, _, hyl, hf⟩ := DataW.trod_struct Try.underlying29 h
  have h0 := hf 0 _ rfl
  have h1 := hf 1 _ rfl
  match ys, hyl with
  | [y0, y1], _ =>
    have h0 : DataW.trod enc Try.prog w base spare held m2 3 (([c1, c2].drop 0).take (Try.prog.cellsOf 3)) = some y0 := h0
    have h1 : DataW.trod enc Try.prog w base spare held m2 9 (([c1, c2].drop 1).take (Try.prog.cellsOf 9)) = some y1 := h1
    rw [cells3] at h0
    rw [cells9] at h1
    obtain ⟨k, hk, hx0, hw⟩ := DataW.trod_int Try.underlying3 h0
    obtain ⟨s, hs, hx1, hl⟩ := DataW.trod_string Try.underlying9 h1
    simp at hk hs
    refine ⟨⟨k, s⟩, hk, hs, ?_, wf_int hw, hl⟩
    rw [hy, hx0, hx1]
    rfl
theorem ent_open {H : Type} {enc : TypeId × Value → H} {w : World} {base : Nat} {spare : Nat → Bool} {held : Bool} {m : Nat} {a : Addr} {cs' : List Value} {y : DataW H × List MemPlace} (hc : w.cells? base a 3 = some cs') (h : DataW.trod enc Try.prog w base spare held m 42 cs' = some y) :
    ∃ x : Et, w.cell? a = some (.string x.path) ∧ w.cell? (a.add 1) = some (.int .i64 x.node.kind) ∧ w.cell? (a.add 2) = some (.string x.node.data) ∧ y = (dE x, []) ∧ isInt x.node.kind ∧ x.path.size ≤ maxLen ∧ x.node.data.size ≤ maxLen := by
  obtain ⟨_, hcl, hat⟩ := World.cells?_some hc
  match cs', hcl with
  | [c0, c1, c2], _ =>
    obtain ⟨ys, m2, _, hy, _, hyl, hf⟩ := DataW.trod_struct Try.underlying42 h
    have h0 := hf 0 _ rfl
    have h1 := hf 1 _ rfl
    match ys, hyl with
    | [y0, y1], _ =>
      have h0 : DataW.trod enc Try.prog w base spare held m2 9 (([c0, c1, c2].drop 0).take (Try.prog.cellsOf 9)) = some y0 := h0
      have h1 : DataW.trod enc Try.prog w base spare held m2 29 (([c0, c1, c2].drop 1).take (Try.prog.cellsOf 29)) = some y1 := h1
      rw [cells9] at h0
      rw [cellsN] at h1
      obtain ⟨s, hs, hx0, hl⟩ := DataW.trod_string Try.underlying9 h0
      obtain ⟨n, hn1, hn2, hx1, hi, hl2⟩ := node_open h1
      simp at hs
      have a0 := hat 0 (by omega)
      have a1 := hat 1 (by omega)
      have a2 := hat 2 (by omega)
      refine ⟨⟨s, n⟩, ?_, ?_, ?_, ?_, hi, hl, hl2⟩
      · have e : a.add 0 = a := by simp [Addr.add]
        rw [e] at a0
        rw [a0, hs]
        rfl
      · rw [a1, hn1]
        rfl
      · rw [a2, hn2]
        rfl
      · rw [hy, hx0, hx1]
        rfl
theorem open_ents {H : Type} {enc : TypeId × Value → H} {w : World} {base : Nat} {spare : Nat → Bool} {held : Bool} {fuel : Nat} {cs : List Value} {x : DataW H × List MemPlace} (h : DataW.trod enc Try.prog w base spare held fuel 22 cs = some x) :
    (cs = [.slice none 0 0] ∧ x = (.nil, [])) ∨ ∃ (a : Addr) (len cap : Nat) (l : List Et) (rest : List (DataW H)) (pl : List MemPlace), cs = [.slice (some a) len cap] ∧ len ≤ cap ∧ cap ≤ maxLen ∧ x = (.slice (l.map dE) rest, pl) ∧ Ents w (some a) len l ∧ ∀ e ∈ l, isInt e.node.kind ∧ e.path.size ≤ maxLen ∧ e.node.data.size ≤ maxLen := by
  rcases Go.Deep.open_slice Try.underlying22 h with h0 | ⟨a, len, cap, m, n, D, Pl, rfl, hb, hl, hm, hmm, hx, hi⟩
  · exact .inl h0
  · right
    have hlm : len ≤ m := by
      rw [hmm]
      split
      · exact hl
      · exact Nat.le_refl _
    have hex : ∀ i, i < len → ∃ e : Et, w.cell? (a.add (i * 3)) = some (.string e.path) ∧ w.cell? ((a.add (i * 3)).add 1) = some (.int .i64 e.node.kind) ∧ w.cell? ((a.add (i * 3)).add 2) = some (.string e.node.data) ∧ D i = dE e ∧ isInt e.node.kind ∧ e.path.size ≤ maxLen ∧ e.node.data.size ≤ maxLen := by
      intro i him
      obtain ⟨cs', hc, ht⟩ := hi i (by omega)
      rw [cellsE] at hc
      obtain ⟨e, h1, h2, h3, h4, h5, h6, h7⟩ := ent_open hc ht
      exact ⟨e, h1, h2, h3, congrArg Prod.fst h4, h5, h6, h7⟩
    have : Inhabited Et := ⟨⟨⟨#[]⟩, ⟨0, ⟨#[]⟩⟩⟩⟩
    obtain ⟨X, hX⟩ := Go.Deep.choose_lt hex
    have hget : ∀ k y, ((List.range len).map X)[k]? = some y → k < len ∧ y = X k := by
      intro k y hk
      have hk2 := (List.getElem?_eq_some_iff.1 hk).1
      simp at hk2
      rw [List.getElem?_map, List.getElem?_range hk2] at hk
      injection hk with hk
      exact ⟨hk2, hk.symm⟩
    refine ⟨a, len, cap, (List.range len).map X, (List.range (m - len)).map fun j => D (len + j), x.2, rfl, hl, hm, ?_, ⟨by simp, ?_⟩, ?_⟩
    · rw [hx]
      refine Prod.ext ?_ rfl
      show DataW.slice _ _ = DataW.slice _ _
      congr 1
      rw [List.map_map]
      refine List.map_congr_left (fun i hi' => ?_)
      exact (hX i (List.mem_range.1 hi')).2.2.2.1
    · by_cases h0 : len = 0
      · exact .inl h0
      · right
        obtain ⟨b, off, spot⟩ := a
        have hc0 := (hX 0 (by omega)).1
        rw [Nat.zero_mul] at hc0
        have hspot : spot = none := by simpa [Addr.add] using World.cell?_spot hc0
        subst hspot
        refine ⟨b, off, rfl, ?_, fun k y hk => ?_⟩
        · have := World.block_lt_of_cell? w _ hc0
          simpa [Addr.add] using this
        · obtain ⟨hk2, rfl⟩ := hget k y hk
          obtain ⟨h1, h2, h3, _⟩ := hX k hk2
          rw [add_plain] at h1 h2 h3
          rw [add_plain] at h2 h3
          exact ⟨h1, h2, h3⟩
    · intro e he
      obtain ⟨k, hk⟩ := List.getElem?_of_mem he
      obtain ⟨hk2, rfl⟩ := hget k e hk
      exact (hX k hk2).2.2.2.2
end Go.Proofs.Ytdpnmdnfnplcfaa.En

namespace Go.Proofs.Ytdpnmdnfnplcfaa.En
open Go.RowKit Tx Pm Pr
set_option linter.unusedVariables false
def isno (n : Nd) : Bool := decide (n.kind = 0) && decide (n.data = ⟨#[]⟩)
set_option maxRecDepth 100000 in
set_option maxHeartbeats 1000000 in
theorem isNone_any (n : Nd) (w : World) :
    Calls Try.prog 29 #[nv n] w fun e w' => e = .returned (.bool (isno n)) ∧ Below w.heap.size w w' := by
  obtain ⟨K, D⟩ := n
  have hgN := guardN
  unfold nv
  by_cases hk : K = 0
  · by_cases hd : D.toList = (⟨#[]⟩ : ByteArray).toList
    · have hv : isno ⟨K, D⟩ = true := by rw [isno, decide_eq_true hk, decide_eq_true (to_list.1 hd)]; rfl
      rw [hv]
      obtain rfl := to_list.1 hd
      subst hk
      clear hv hd
      go_enter Try.func29, Try.ntmps29
      go_wp2
      go_ret
      exact ⟨rfl, (Below.refl _ _).alloc (Nat.le_refl _) _⟩
    · have hv : isno ⟨K, D⟩ = false := by rw [isno, decide_eq_false (fun h => hd (to_list.2 h)), Bool.and_false]
      have e := bytes_ne (fun h => hd (to_list.2 h))
      have e2 := not_empty (fun h => hd (to_list.2 h))
      rw [hv]
      subst hk
      clear hv hd
      go_enter Try.func29, Try.ntmps29
      go_wp2
      go_ret
      exact ⟨rfl, (Below.refl _ _).alloc (Nat.le_refl _) _⟩
  · have hv : isno ⟨K, D⟩ = false := by rw [isno, decide_eq_false hk, Bool.false_and]
    rw [hv]
    clear hv
    go_enter Try.func29, Try.ntmps29
    go_wp2
    go_ret
    exact ⟨rfl, (Below.refl _ _).alloc (Nat.le_refl _) _⟩
def tplace (l : List Et) (p : ByteArray) : Nat := l.countP (fun x => less x.path p)
def Rise (l : List Et) : Prop := (l.map (·.path)).Pairwise (fun a b => less a b = true)
end Go.Proofs.Ytdpnmdnfnplcfaa.En

namespace Go.Proofs
open Go.Shelf
def Try.search_ren : Go.Shelf.Ren := ⟨fun | 16 => 54 | n => n, fun | 3 => 3 | 35 => 84 | 4 => 4 | 38 => 76 | n => n, fun | n => n⟩
theorem Try.search : Go.Proofs.SlLaysO.n16 Try.prog Try.search_ren := {
  mixed := by kernel_rfl
  f16 := Try.func54.trans (congrArg some (by kernel_rfl))
  t3 := Try.underlying3
  a3 := Try.isAgg3
  z3 := Try.sizeOf3
  v3 := Try.zeroValue3
  t4 := Try.underlying4
  a4 := Try.isAgg4
  z4 := Try.sizeOf4
  v4 := Try.zeroValue4
  t35 := Try.underlying84
  a35 := Try.isAgg84
  z35 := Try.sizeOf84
  v35 := Try.zeroValue84
  t38 := Try.underlying76
  a38 := Try.isAgg76
  z38 := Try.sizeOf76
  v38 := Try.zeroValue76 }
end Go.Proofs
