/- Texts of this seat, one behind the other. -/
import Derived.Test.YtdkgkomjbpggeaaGreatDoorT2
import Derived.Shelf.Sort.Plain
import Derived.Test.YtdkgkomjbpggeaaGreatDoorProg
import Derived.Lib.OwnBridge
import Derived.Shelf.Slices.In.SortNone
import Derived.Sort.OwnSorted
import Derived.Deep.QuietTactic
import Derived.BigQuiet
import Derived.Laws.ResultCell
import Derived.RegionTactic
import Derived.BigRegion
import Derived.Deep.CutRange
import Derived.StillTailTactics
namespace Go.Proofs
open Go.Shelf
def Tryz.sortS_ren : Go.Shelf.Ren := ⟨fun | 190 => 54 | 125 => 89 | 258 => 88 | 128 => 129 | 129 => 130 | 302 => 120 | 303 => 121 | 304 => 122 | 305 => 123 | 306 => 124 | 307 => 125 | 308 => 126 | 309 => 127 | 310 => 128 | 333 => 151 | 329 => 152 | 330 => 153 | 334 => 154 | 335 => 155 | 336 => 156 | 344 => 171 | n => n, fun | 31 => 52 | 9 => 9 | 3 => 3 | 46 => 139 | 0 => 0 | 51 => 153 | 53 => 152 | 4 => 4 | 183 => 164 | 182 => 163 | 131 => 103 | 5 => 5 | 218 => 192 | 222 => 196 | 228 => 209 | 229 => 210 | n => n, fun | n => n⟩
theorem Tryz.sortS : Go.Proofs.Lays.n190 Tryz.prog Tryz.sortS_ren := {
  mixed := by kernel_rfl
  f125 := Tryz.func89.trans (congrArg some (by kernel_rfl))
  f128 := Tryz.func129.trans (congrArg some (by kernel_rfl))
  f129 := Tryz.func130.trans (congrArg some (by kernel_rfl))
  f190 := Tryz.func54.trans (congrArg some (by kernel_rfl))
  f258 := Tryz.func88.trans (congrArg some (by kernel_rfl))
  f302 := Tryz.func120.trans (congrArg some (by kernel_rfl))
  f303 := Tryz.func121.trans (congrArg some (by kernel_rfl))
  f304 := Tryz.func122.trans (congrArg some (by kernel_rfl))
  f305 := Tryz.func123.trans (congrArg some (by kernel_rfl))
  f306 := Tryz.func124.trans (congrArg some (by kernel_rfl))
  f307 := Tryz.func125.trans (congrArg some (by kernel_rfl))
  f308 := Tryz.func126.trans (congrArg some (by kernel_rfl))
  f309 := Tryz.func127.trans (congrArg some (by kernel_rfl))
  f310 := Tryz.func128.trans (congrArg some (by kernel_rfl))
  f329 := Tryz.func152.trans (congrArg some (by kernel_rfl))
  f330 := Tryz.func153.trans (congrArg some (by kernel_rfl))
  f333 := Tryz.func151.trans (congrArg some (by kernel_rfl))
  f334 := Tryz.func154.trans (congrArg some (by kernel_rfl))
  f335 := Tryz.func155.trans (congrArg some (by kernel_rfl))
  f336 := Tryz.func156.trans (congrArg some (by kernel_rfl))
  f344 := Tryz.func171.trans (congrArg some (by kernel_rfl))
  t0 := Tryz.underlying0
  a0 := Tryz.isAgg0
  z0 := Tryz.sizeOf0
  v0 := Tryz.zeroValue0
  t3 := Tryz.underlying3
  a3 := Tryz.isAgg3
  z3 := Tryz.sizeOf3
  v3 := Tryz.zeroValue3
  t4 := Tryz.underlying4
  a4 := Tryz.isAgg4
  z4 := Tryz.sizeOf4
  v4 := Tryz.zeroValue4
  t5 := Tryz.underlying5
  a5 := Tryz.isAgg5
  z5 := Tryz.sizeOf5
  v5 := Tryz.zeroValue5
  t9 := Tryz.underlying9
  a9 := Tryz.isAgg9
  z9 := Tryz.sizeOf9
  v9 := Tryz.zeroValue9
  t31 := Tryz.underlying52
  a31 := Tryz.isAgg52
  z31 := Tryz.sizeOf52
  v31 := Tryz.zeroValue52
  t46 := Tryz.underlying139
  a46 := Tryz.isAgg139
  z46 := Tryz.sizeOf139
  v46 := Tryz.zeroValue139
  t51 := Tryz.underlying153
  a51 := Tryz.isAgg153
  z51 := Tryz.sizeOf153
  v51 := Tryz.zeroValue153
  t53 := Tryz.underlying152
  a53 := Tryz.isAgg152
  z53 := Tryz.sizeOf152
  v53 := Tryz.zeroValue152
  t131 := Tryz.underlying103
  a131 := Tryz.isAgg103
  z131 := Tryz.sizeOf103
  v131 := Tryz.zeroValue103
  t182 := Tryz.underlying163
  a182 := Tryz.isAgg163
  z182 := Tryz.sizeOf163
  v182 := Tryz.zeroValue163
  t183 := Tryz.underlying164
  a183 := Tryz.isAgg164
  z183 := Tryz.sizeOf164
  v183 := Tryz.zeroValue164
  t218 := Tryz.underlying192
  a218 := Tryz.isAgg192
  z218 := Tryz.sizeOf192
  v218 := Tryz.zeroValue192
  t222 := Tryz.underlying196
  a222 := Tryz.isAgg196
  z222 := Tryz.sizeOf196
  v222 := Tryz.zeroValue196
  t228 := Tryz.underlying209
  a228 := Tryz.isAgg209
  z228 := Tryz.sizeOf209
  v228 := Tryz.zeroValue209
  t229 := Tryz.underlying210
  a229 := Tryz.isAgg210
  z229 := Tryz.sizeOf210
  v229 := Tryz.zeroValue210 }
end Go.Proofs

namespace Go.Proofs.YtdkgkomjbpggeaaGreatDoor.Dk
open Go.RowKit Tx Pm Go.Sort Go.Lib Go.Shelf
set_option linter.unusedVariables false
theorem rising_perm : ∀ {ts l : List ByteArray}, ts.Perm l → ts.Pairwise (fun a b => Op.bytesLess b.toList a.toList = false) → l.Pairwise (fun a b => Op.bytesLess a.toList b.toList = true) → ts = l
  | ts, [], hp, _, _ => hp.eq_nil
  | [], x :: l, hp, _, _ => absurd hp.symm.eq_nil (by simp)
  | y :: t, x :: l, hp, h1, h2 => by
    obtain ⟨a1, a2⟩ := List.pairwise_cons.1 h1
    obtain ⟨b1, b2⟩ := List.pairwise_cons.1 h2
    have hyx : y = x := by
      rcases List.mem_cons.1 (hp.mem_iff.1 (List.mem_cons_self : y ∈ y :: t)) with e | hy
      · exact e
      · rcases List.mem_cons.1 (hp.mem_iff.2 (List.mem_cons_self : x ∈ x :: l)) with e | hx
        · exact e.symm
        · have := a1 x hx
          rw [b1 y hy] at this
          cases this
    subst hyx
    rw [rising_perm (List.Perm.cons_inv hp) a2 b2]
theorem less_iffS (a b : ByteArray) : Op.bytesLess a.toList b.toList = decide (a.data.toList < b.data.toList) := by
  rw [bytesLess_eq, ByteArray.toList_eq, ByteArray.toList_eq]
theorem merge_sortedS (l : List (List UInt8)) : (l.mergeSort fun x y => decide (x ≤ y)).Pairwise (fun a b => ¬ b < a) := by
  have h := List.pairwise_mergeSort (le := fun x y : List UInt8 => decide (x ≤ y)) (fun a b c h1 h2 => decide_eq_true (List.le_trans (of_decide_eq_true h1) (of_decide_eq_true h2))) (fun a b => by
    rcases List.le_total a b with h | h
    · simp [h]
    · simp [h]) l
  exact h.imp (fun hab => of_decide_eq_true hab)
theorem encSS (l : List ByteArray) : (l.map (·.data.toList)).map encStr = l.map sv := by
  rw [List.map_map]
  refine List.map_congr_left (fun x _ => ?_)
  rfl
theorem encTS (l : List (List UInt8)) : l.map encStr = (l.map tb).map sv := by
  rw [List.map_map]
  rfl
theorem below_sortSS {w : World} {B g q : Nat} {d : Array (List UInt8)} {os : Array Obj} (hg : B ≤ g) (hB : B ≤ w.heap.size) : RowKit.Below B w (grow (putRow encStr (Sort.ahead w q) g 0 d) os) := by
  have h1 : RowKit.Below B w (putRow encStr (Sort.ahead w q) g 0 d) := Lib.below_putRow (RowKit.Below.refl B w) hg
  refine ⟨h1.os, h1.tape, h1.output, by simp, fun k hk => ?_⟩
  rw [heap_grow_old _ _ (by have h2 : (putRow encStr (Sort.ahead w q) g 0 d).heap.size = w.heap.size := by simp
                            omega)]
  exact h1.block k hk
set_option maxRecDepth 100000 in
set_option maxHeartbeats 1000000 in
theorem sortS_any (v : Value) (ss : List ByteArray) (w : World) (B : Nat) (hT : Texts w B v ss) (hB : B ≤ w.heap.size) (hn : ss.length ≤ 4000000000) :
    Calls Tryz.prog 54 #[v] w fun e w' => e = .returned (.tuple #[]) ∧ ∃ ts : List ByteArray, ts.Perm ss ∧ ts.Pairwise (fun a b => Op.bytesLess b.toList a.toList = false) ∧ Texts w' B v ts ∧ RowKit.Below B w w' := by
  have hT2 := hT
  obtain ⟨hlen, h2⟩ := hT2
  rcases h2 with ⟨hv, h0⟩ | ⟨g, cap, cur, hv, hb, hg, hc, hm, hs, ht⟩
  · subst hv
    obtain rfl : ss = [] := List.length_eq_zero_iff.1 h0
    have h := Any.slices_Sort_string_none Tryz.sortS none 0 w
    change Calls Tryz.prog 54 _ _ _ at h
    refine h.mono ?_
    rintro e w' ⟨rfl, rfl⟩
    exact ⟨rfl, [], List.Perm.refl _, List.Pairwise.nil, hT, RowKit.Below.refl _ _⟩
  · subst hv
    have hlt : g < w.heap.size := (Array.getElem?_eq_some_iff.1 hg).1
    obtain ⟨zs, hz⟩ : ∃ zs, zs = ss.map (·.data.toList) := ⟨_, rfl⟩
    have hzl : zs.length = ss.length := by rw [hz, List.length_map]
    have hH : Holds encStr w g 0 zs.toArray := holds_of_block hg (by
      rw [Nat.mul_one] at ht
      rw [hzl, ht, hz, encSS])
    have h := Any.slices_Sort_string Tryz.sortS g 0 cap zs w hH hlt (by omega)
    change Calls Tryz.prog 54 _ _ _ at h
    rw [hzl] at h
    refine h.mono ?_
    rintro e w' ⟨rfl, q, os, rfl⟩
    have hml : (zs.mergeSort fun x y => decide (x ≤ y)).length = zs.length := List.length_mergeSort zs
    refine ⟨rfl, (zs.mergeSort fun x y => decide (x ≤ y)).map tb, ?_, ?_, ?_, below_sortSS hb hB⟩
    · have h1 := (List.mergeSort_perm zs (fun x y => decide (x ≤ y))).map tb
      have h2 : zs.map tb = ss := by
        rw [hz, List.map_map]
        conv => rhs; rw [← List.map_id ss]
        exact List.map_congr_left (fun x _ => tb_of x)
      rwa [h2] at h1
    · rw [List.pairwise_map]
      refine (merge_sortedS zs).imp (fun hab => ?_)
      rw [less_iffS]
      exact decide_eq_false hab
    · have h1 := ownsRow_sorted (ss := zs) (ts := zs.mergeSort fun x y => decide (x ≤ y)) (n := q) (os := os) hml hb hg (by rw [hzl]; exact hc) hm hs
      unfold Texts
      rw [List.length_map, hml, ← encTS, hzl]
      rw [hzl] at h1
      exact h1
end Go.Proofs.YtdkgkomjbpggeaaGreatDoor.Dk

namespace Go.Proofs.YtdkgkomjbpggeaaGreatDoor.Dk
open Go.RowKit Tx Pm
set_option linter.unusedVariables false
theorem ret_int {k : IntKind} {a b : Int} (h : a = b) : Ending.returned (.int k a) = .returned (.int k b) := by rw [h]
theorem used_perm {a b : List It} (h : a.Perm b) (v : ByteArray) : used a v = used b v := (h.map _).sum_nat
theorem used_cons (x : It) (l : List It) (v : ByteArray) : used (x :: l) v = (if vol x.path = v then x.data.size else 0) + used l v := by
  unfold used
  rw [List.map_cons, List.sum_cons]
theorem used_came (L : List It) (left : Lit → Bool) (v : ByteArray) : used (came L left) v ≤ whole L := by
  refine Nat.le_trans (used_le _ v) ?_
  have h := came_sub L left
  generalize came L left = c at h
  induction h with
  | slnil => exact Nat.le_refl _
  | cons x _ ih =>
    unfold whole at *
    rw [List.map_cons, List.sum_cons]
    omega
  | cons_cons x _ ih =>
    unfold whole at *
    rw [List.map_cons, List.sum_cons, List.map_cons, List.sum_cons]
    omega
set_option maxRecDepth 100000 in
set_option maxHeartbeats 1000000 in
theorem iUsed_any (b bi bl : Nat) (l : Int) (s : St) (v : ByteArray) (w : World) (h : Ia b bi bl l w s) (hr : Rises s.L) (hf : Fit s) :
    Calls Tryz.prog 170 #[.pointer (some ⟨b, 0, none⟩), .string v] w fun e w' => e = .returned (.int .i64 (used s.L v : Nat)) ∧ Below w.heap.size w w' := by
  have hw := hf.2.2
  have hpp := hf.2.1
  have hub := fun left => used_came s.L left v
  obtain ⟨c0, _⟩ := h.cell
  have hm := h.items
  go_enter Tryz.func170, Tryz.ntmps170
  go_wp2_with (at_range; refine range_items _ rfl _ rfl bi s.L rfl hm ?_; intro D w0 hD hrg0 hg0 hs0)
  go_frame
  have HD := Lib.hid hD
  have HR := Lib.hid hr
  have HP := Lib.hid hpp
  have HU := Lib.hid hub
  have hsm : w.heap.size < w0.heap.size := by omega
  have HS := Lib.hid hs0
  clear hD hr hpp hub hs0
  go_loopw [5] (fun u wr => ∃ (left : Lit → Bool) (cnt T : Nat), wr.ranges Tryz.prog 9 itemR bi w.heap.size s.L.length D left cnt ∧ u = .int .i64 (T : Nat) ∧ Hid (T = used (came s.L left) v) ∧ Below w.heap.size w wr ∧ w.heap.size < wr.heap.size) (fun _ wr => wr.rangeLeft bi w.heap.size)
  case atStart => exact ⟨_, _, 0, hrg0, rfl, by show 0 = _; rw [came_start HD.out]; rfl, (Below.refl _ _).grown hg0 (Nat.le_refl _) (fun j hj => by cases hj), hsm⟩
  case round =>
    obtain ⟨left, cnt, T, hrg, rfl, hT, hbr, hlt⟩ := hrel
    go_wp2_with (at_next; refine next_items _ rfl _ rfl bi w.heap.size s.L.length D left cnt s.L rfl hrg HD.out ?_ ?_)
    · intro hl
      have hT' := hT.out
      rw [came_end s.L hl] at hT'
      have HT := Lib.hid hT'
      clear hl hT hT' hrg h
      go_wp2
      go_ret
      exact ⟨ret_int (by rw [HT.out]), hbr⟩
    · intro x w1 cnt1 hx hlx hrg1 hlt1 hg1 hs1 hen
      have hxp := HP.out x hx
      have hU1 := HU.out (less left x.path)
      have hst := used_perm (came_step hlx HR.out hx) v
      rw [used_cons, ← hT.out] at hst
      have hme : w1.rangeLeft bi w.heap.size < wr.rangeLeft bi w.heap.size := by rw [hrg1.left_eq, hrg.left_eq]; exact hlt1
      have hb1 : Below w.heap.size w w1 := below_grown hbr hg1 (Nat.le_of_lt hlt) (Nat.le_refl _)
      have hs2 : w.heap.size < w1.heap.size := by omega
      have hrg2 := hrg1.alloc (.cells #[.int .i64 (kOf x), .string x.data, .string x.kept, .int .i64 (stOf x), .int .i64 x.stamp] 112)
      have cv := fun W => iVol_any x.path W hxp
      have HME := Lib.hid hme
      clear hlx hs1 hx hme hrg hlt1 hT h hg1
      generalize less left x.path = left1 at hst hU1 hrg1 hrg2
      obtain ⟨V, hV⟩ : ∃ V, V = vol x.path := ⟨_, rfl⟩
      rw [← hV] at hst cv
      clear hV
      by_cases hvv : V = v
      · have e1 : (V.toList == v.toList) = true := by rw [hvv]; exact beq_self_eq_true _
        rw [if_pos hvv] at hst
        have hle : T + x.data.size ≤ 4000000000000000000 := by omega
        have HST := Lib.hid hst
        clear hst hvv hU1
        go_wp2_with (go_at_call 146; refine (cv _).mono ?_; rintro e w3 ⟨rfl, n3, rfl⟩)
        go_roundw
        case rel => exact ⟨left1, cnt1, T + x.data.size, hrg2, by go_num, (HST.out.trans (Nat.add_comm _ _)).symm, (hb1.alloc (Nat.le_of_lt hs2) _).trans (below_drewN _ _ |>.mono (by simp; omega)), by simp; omega⟩
        case measure => have e : (w1.alloc (.cells #[.int .i64 (kOf x), .string x.data, .string x.kept, .int .i64 (stOf x), .int .i64 x.stamp] 112)).rangeLeft bi w.heap.size = w1.rangeLeft bi w.heap.size := by rw [hrg2.left_eq, hrg1.left_eq]
                        show (w1.alloc _).rangeLeft _ _ < _
                        rw [e]
                        exact HME.out
      · have e1 : (V.toList == v.toList) = false := bytes_ne hvv
        rw [if_neg hvv, Nat.zero_add] at hst
        have HST := Lib.hid hst
        clear hst hvv hU1
        go_wp2_with (go_at_call 146; refine (cv _).mono ?_; rintro e w3 ⟨rfl, n3, rfl⟩)
        go_roundw
        case rel => exact ⟨left1, cnt1, T, hrg2, rfl, HST.out.symm, (hb1.alloc (Nat.le_of_lt hs2) _).trans (below_drewN _ _ |>.mono (by simp; omega)), by simp; omega⟩
        case measure => have e : (w1.alloc (.cells #[.int .i64 (kOf x), .string x.data, .string x.kept, .int .i64 (stOf x), .int .i64 x.stamp] 112)).rangeLeft bi w.heap.size = w1.rangeLeft bi w.heap.size := by rw [hrg2.left_eq, hrg1.left_eq]
                        show (w1.alloc _).rangeLeft _ _ < _
                        rw [e]
                        exact HME.out
end Go.Proofs.YtdkgkomjbpggeaaGreatDoor.Dk

namespace Go.Proofs.YtdkgkomjbpggeaaGreatDoor.Dk
open Go.RowKit Tx Pm Pl Pr
set_option linter.unusedVariables false
def full (s : St) (v : ByteArray) (more : Int) : Bool := match roomOf s.rooms v with
  | none => false
  | some r => decide (0 < more) && decide (r.n < (used s.L v : Nat) + more)
theorem roomOf_mem {R : List Rm} {v : ByteArray} {r : Rm} (h : roomOf R v = some r) : r ∈ R ∧ r.vol = v := ⟨List.mem_of_find?_eq_some h, by have := List.find?_some h; simpa using this⟩
theorem roomOf_of {R : List Rm} (hv : R.Pairwise (fun r r' => r.vol ≠ r'.vol)) {r : Rm} (hr : r ∈ R) : roomOf R r.vol = some r := by
  unfold roomOf
  induction R with
  | nil => cases hr
  | cons q R ih =>
    obtain ⟨h1, h2⟩ := List.pairwise_cons.1 hv
    rcases List.mem_cons.1 hr with rfl | hr
    · rw [List.find?_cons_of_pos (by simp)]
    · rw [List.find?_cons_of_neg (by simpa using h1 r hr)]
      exact ih h2 hr
theorem fits_full {s : St} (hg : Good s) (p : ByteArray) (more : Int) : fits s p more = !full s (vol p) more := by
  unfold fits full
  by_cases hm : more ≤ 0
  · rw [decide_eq_true hm, Bool.true_or]
    cases roomOf s.rooms (vol p) with
    | none => rfl
    | some r =>
      simp only
      rw [decide_eq_false (by omega), Bool.false_and]
      rfl
  · rw [decide_eq_false hm, Bool.false_or]
    cases hf : roomOf s.rooms (vol p) with
    | none =>
      refine List.all_eq_true.2 (fun r hr => ?_)
      have : r.vol ≠ vol p := fun e => by
        have := roomOf_of hg.vols hr
        rw [e, hf] at this
        cases this
      rw [decide_eq_false this, Bool.false_and]
      rfl
    | some r =>
      obtain ⟨hr, hrv⟩ := roomOf_mem hf
      simp only
      rw [decide_eq_true (show 0 < more by omega), Bool.true_and, Bool.eq_iff_iff, List.all_eq_true]
      constructor
      · intro h
        have := h r hr
        rw [decide_eq_true hrv, Bool.true_and] at this
        simp only [Bool.not_eq_true', decide_eq_false_iff_not] at this ⊢
        omega
      · intro h q hq
        by_cases hqv : q.vol = vol p
        · have h2 := roomOf_of hg.vols hq
          rw [hqv, hf] at h2
          cases h2
          rw [decide_eq_true hrv, Bool.true_and]
          simp only [Bool.not_eq_true', decide_eq_false_iff_not] at h ⊢
          omega
        · rw [decide_eq_false hqv, Bool.false_and]
          rfl
theorem vol_le (p : ByteArray) : (vol p).size ≤ p.size := by
  rw [vol_cut, tb_size]
  have := cutA_le p.data.toList
  rw [len_l] at this
  exact this
set_option maxRecDepth 100000 in
set_option maxHeartbeats 1000000 in
theorem iFull_any (b bi bl : Nat) (l : Int) (s : St) (v : ByteArray) (more : Int) (w : World) (h : Ia b bi bl l w s) (hr : Rises s.L) (hf : Fit s) (hv : v.size ≤ 8000000000000) (hm : -4000000000000000000 ≤ more ∧ more ≤ 4000000000000000000) :
    Calls Tryz.prog 145 #[.pointer (some ⟨b, 0, none⟩), .string v, .int .i64 more] w fun e w' => e = .returned (.bool (full s v more)) ∧ Below w.heap.size w w' := by
  have hl := h.limits.look (maxLen_of hv)
  have cu := iUsed_any b bi bl l s v w h hr hf
  have hu := Nat.le_trans (used_le s.L v) hf.2.2
  obtain ⟨_, c1, _⟩ := h.cell
  unfold full
  unfold limV at hl
  clear hf hr h
  generalize used s.L v = U at cu hu ⊢
  cases hR : roomOf s.rooms v with
  | none =>
    rw [hR] at hl
    simp only at hl ⊢
    clear hR cu
    go_enter Tryz.func145, Tryz.ntmps145
    go_wp2
    go_ret
    exact ⟨rfl, Below.refl _ _⟩
  | some r =>
    rw [hR] at hl
    simp only at hl ⊢
    clear hR
    generalize r.n = N at hl ⊢
    by_cases h0 : 0 < more
    · rw [decide_eq_true h0, Bool.true_and]
      go_enter Tryz.func145, Tryz.ntmps145
      go_wp2_with (go_at_call 170; refine cu.mono ?_; rintro e w1 ⟨rfl, hb⟩)
      go_ret
      exact ⟨rfl, hb⟩
    · rw [decide_eq_false h0, Bool.false_and]
      have h0' : more ≤ 0 := by omega
      clear h0 cu
      go_enter Tryz.func145, Tryz.ntmps145
      go_wp2
      go_ret
      exact ⟨rfl, Below.refl _ _⟩
def bad (m : Nat) (p : ByteArray) : Bool := decide (chk p.data.toList 6 ≠ 0) || decide ((spl p.data.toList).length ≤ m)
def rdy (s : St) (m : Nat) (l : List ByteArray) : Nat := if s.down then 14 else if l.any (bad m) then 10 else 0
theorem rdy_one (s : St) (m : Nat) (p : ByteArray) : rdy s m [p] = first s p m := by
  unfold rdy first bad
  rw [List.any_cons, List.any_nil, Bool.or_false]
  cases s.down with
  | true => rfl
  | false =>
    simp only [Bool.false_eq_true, if_false]
    by_cases h : chk p.data.toList 6 ≠ 0 ∨ (spl p.data.toList).length ≤ m
    · rw [if_pos h, if_pos (by simpa [Bool.or_eq_true] using h)]
    · rw [if_neg h, if_neg (by simpa [Bool.or_eq_true] using h)]
theorem rdy_two (s : St) (m : Nat) (p q : ByteArray) : rdy s m [p, q] = if first s p m ≠ 0 then first s p m else first s q m := by
  rw [← rdy_one, ← rdy_one]
  unfold rdy
  rw [List.any_cons, List.any_cons, List.any_cons, List.any_nil]
  cases s.down with
  | true => rfl
  | false => cases bad m p <;> cases bad m q <;> rfl
theorem bad_dep {p : ByteArray} {m : Nat} (h : chk p.data.toList 6 = 0) : bad m p = decide ((dep p.data.toList : Int) < ((m + 1 : Nat) : Int)) := by
  have hp : p.data.toList ≠ [] := fun e => by rw [e] at h; revert h; decide
  have hd : dep p.data.toList = (spl p.data.toList).length := by rw [dep, if_neg hp]
  unfold bad
  rw [h, hd, Bool.eq_iff_iff]
  simp
  omega
set_option maxRecDepth 100000 in
set_option maxHeartbeats 1000000 in
theorem iReady_any (b bi bl g n c m : Nat) (M l : Int) (s : St) (ps : List ByteArray) (w : World) (h : Ia b bi bl l w s) (hn : ps.length = n) (hm : m ≤ 1000) (hM : M = (m : Int) + 1) (hc : ∀ k p, ps[k]? = some p → w.cell? ⟨g, k, none⟩ = some (.string p)) (hg : g < w.heap.size) (hp : ∀ p ∈ ps, p.size ≤ 8000000000000) (hnm : n ≤ 1000) :
    Calls Tryz.prog 93 #[.pointer (some ⟨b, 0, none⟩), .int .i64 M, .slice (some ⟨g, 0, none⟩) n c] w fun e w' => e = .returned (.int .i64 (rdy s m ps : Nat)) ∧ Below w.heap.size w w' := by
  obtain ⟨c0, c1, c2, c3, c4, c5⟩ := h.cell
  unfold rdy
  clear h c0 c1 c2 c3 c4
  generalize s.down = D at c5 ⊢
  cases D with
  | true =>
    rw [if_pos rfl]
    clear hc hp hn
    go_enter Tryz.func93, Tryz.ntmps93
    go_wp2
    go_ret
    exact ⟨rfl, Below.refl _ _⟩
  | false =>
    rw [if_neg (by decide)]
    have HC := Lib.hid hc
    have HP := Lib.hid hp
    have HN := Lib.hid hn
    have HM := Lib.hid hM
    have hM2 : 1 ≤ M ∧ M ≤ 1001 := by omega
    obtain ⟨RES, hRES⟩ : ∃ RES, RES = if ps.any (bad m) = true then 10 else 0 := ⟨_, rfl⟩
    rw [← hRES]
    have HRES := Lib.hid hRES
    clear hc hp hn hM hRES
    go_enter Tryz.func93, Tryz.ntmps93
    go_wp2
    go_loopw [19] (fun i wr => ∃ k : Nat, k ≤ n ∧ i = .int .i64 k ∧ Hid ((ps.take k).any (bad m) = false) ∧ Below w.heap.size w wr) (fun i _ => n - (intOf i).toNat)
    case atStart => exact ⟨0, Nat.zero_le _, rfl, by show (ps.take 0).any _ = _; simp, Below.refl _ _⟩
    case round =>
      obtain ⟨k, hk, rfl, hT, hB⟩ := hrel
      by_cases hlt : k < n
      · obtain ⟨p, hx⟩ : ∃ p, ps[k]? = some p := ⟨_, List.getElem?_eq_getElem (by rw [HN.out]; exact hlt)⟩
        have f0 := (hB.cell (p := ⟨g, _, none⟩) hg).trans (HC.out k p hx)
        have hpm := List.mem_of_getElem? hx
        have hps := HP.out p hpm
        have cc := fun W => pCheck_any p 6 W (by omega) (by omega) (by omega)
        have cd := fun W => pDeep_any p W (by omega)
        have hch : chk p.data.toList 6 = 0 ∨ chk p.data.toList 6 = 10 := by unfold chk; split <;> simp
        have htk : (ps.take (k + 1)).any (bad m) = ((ps.take k).any (bad m) || bad m p) := by rw [take_more hx, List.any_append, List.any_cons, List.any_nil, Bool.or_false]
        rw [hT.out, Bool.false_or] at htk
        have hany : bad m p = true → ps.any (bad m) = true := fun hb => List.any_eq_true.2 ⟨p, hpm, hb⟩
        rcases hch with hch | hch
        · have hbd := bad_dep (m := m) hch
          rw [hch] at cc
          have e9 : ((m + 1 : Nat) : Int) = M := by rw [HM.out]; omega
          rw [e9] at hbd
          generalize dep p.data.toList = Dp at cd hbd
          by_cases hd : (Dp : Int) < M
          · rw [decide_eq_true hd] at hbd
            have HA := Lib.hid (hany hbd)
            clear htk hany hbd hch hx hT hpm hps e9
            go_wp2_with (first | (go_at_call 101; refine (cc _).mono ?_; rintro e w1 ⟨rfl, hb1⟩) | (go_at_call 131; refine (cd _).mono ?_; rintro e w2 ⟨rfl, hb2⟩))
            go_ret
            exact ⟨ret_int (by rw [HRES.out, HA.out]; rfl), below_call (below_call hB hb1) hb2⟩
          · rw [decide_eq_false hd] at hbd
            rw [hbd] at htk
            have HT := Lib.hid htk
            have hd' : M ≤ Dp := by omega
            clear htk hany hbd hch hx hT hpm hps hd e9
            go_wp2_with (first | (go_at_call 101; refine (cc _).mono ?_; rintro e w1 ⟨rfl, hb1⟩) | (go_at_call 131; refine (cd _).mono ?_; rintro e w2 ⟨rfl, hb2⟩))
            go_roundw
            case rel => exact ⟨k + 1, by omega, by go_num, HT, below_call (below_call hB hb1) hb2⟩
            case measure => simp [intOf]; omega
        · have hbd : bad m p = true := by unfold bad; rw [hch]; rfl
          rw [hch] at cc
          have HA := Lib.hid (hany hbd)
          clear htk hany hbd hch hx hT hpm hps cd
          go_wp2_with (go_at_call 101; refine (cc _).mono ?_; rintro e w1 ⟨rfl, hb1⟩)
          go_ret
          exact ⟨ret_int (by rw [HRES.out, HA.out]; rfl), below_call hB hb1⟩
      · obtain rfl : k = n := by omega
        have hT' := hT.out
        rw [List.take_of_length_le (by rw [HN.out]; exact Nat.le_refl _)] at hT'
        have HT := Lib.hid hT'
        clear hT hT'
        go_wp2
        go_ret
        exact ⟨ret_int (by rw [HRES.out, HT.out]; rfl), hB⟩
end Go.Proofs.YtdkgkomjbpggeaaGreatDoor.Dk

namespace Go.Proofs.YtdkgkomjbpggeaaGreatDoor.Dk
open Go.RowKit Tx Pm Pl Pr
set_option linter.unusedVariables false
theorem own_base {w : World} {B C n size : Nat} {e : TypeId} {v : Value} {xs : List Value} (h : w.ownsRow C e size v n xs) (hB : B ≤ C) : w.ownsRow B e size v n xs := by
  refine ⟨h.1, ?_⟩
  rcases h.2 with h0 | ⟨g, cap, cur, hv, hg, hh, r⟩
  · exact .inl h0
  · exact .inr ⟨g, cap, cur, hv, Nat.le_trans hB hg, hh, r⟩
theorem own_belowT {w w1 : World} {B n size : Nat} {e : TypeId} {v : Value} {xs : List Value} (h : w.ownsRow B e size v n xs) (hb : Below w.heap.size w w1) : w1.ownsRow B e size v n xs := own_kept h (fun g hg => hb.block g (h.lt g hg).2)
def held (φ : It → Bool) (l : List It) : List ByteArray := (l.filter φ).map (·.path)
theorem held_cons (φ : It → Bool) (x : It) (l : List It) : held φ (x :: l) = (if φ x = true then [x.path] else []) ++ held φ l := by
  unfold held
  cases h : φ x <;> simp [h]
theorem held_perm {φ : It → Bool} {a b : List It} (h : a.Perm b) : (held φ a).Perm (held φ b) := (h.filter φ).map _
theorem held_rises {φ : It → Bool} {l : List It} (h : Rises l) : (held φ l).Pairwise (fun a b => Op.bytesLess a.toList b.toList = true) := by
  unfold held
  rw [List.pairwise_map]
  exact List.Pairwise.filter _ h
theorem held_len (φ : It → Bool) (l : List It) : (held φ l).length ≤ l.length := by
  unfold held
  rw [List.length_map]
  exact List.length_filter_le _ _
end Go.Proofs.YtdkgkomjbpggeaaGreatDoor.Dk

namespace Go.Proofs.YtdkgkomjbpggeaaGreatDoor.Tb
open Go.RowKit Tx Pm Dk Wm Wr Wl Pl
set_option linter.unusedVariables false
set_option linter.unusedSimpArgs false
set_option linter.unnecessarySimpa false
set_option maxRecDepth 100000 in
set_option maxHeartbeats 1000000 in
theorem tGet_any (t m : Nat) (L : List It) (key : ByteArray) (w : World) (ht : w.cell? ⟨t, 3, none⟩ = some (.map (some m))) (hm : Mo w m L) (hk : key.size ≤ maxLen) :
    Calls Tryz.prog 77 #[.pointer (some ⟨t, 0, none⟩), .string key] w fun e w' => e = .returned (.tuple #[.string (lookC L key).val, .bool (find L key).isSome]) ∧ Below w.heap.size w w' := by
  have hl := hm.look_ok hk
  generalize lookC L key = c at hl ⊢
  generalize (find L key).isSome = ok at hl ⊢
  obtain ⟨k0, v0, g0⟩ := c
  simp only [ov] at hl ⊢
  have HB := Lib.hid (fun o => (Below.refl w.heap.size w).alloc (Nat.le_refl _) o)
  clear hm
  go_enter Tryz.func77, Tryz.ntmps77
  go_wp2_with fail
  go_ret2
  exact ⟨rfl, HB.out _⟩
def pre7 (p : ByteArray) (x : It) : Bool := Lib.hasPrefix x.path.data.toList p.data.toList
set_option maxRecDepth 100000 in
set_option maxHeartbeats 2000000 in
theorem tKeys_any (t m : Nat) (L : List It) (p : ByteArray) (w : World) (ht : w.cell? ⟨t, 3, none⟩ = some (.map (some m))) (hm : Mo w m L) (hR : Rises L) (hn : L.length ≤ 1000000000) (hps : ∀ x ∈ L, x.path.size ≤ 1000000000000) (hp : p.size ≤ 1000000000000) :
    Calls Tryz.prog 52 #[.pointer (some ⟨t, 0, none⟩), .string p] w (ListTo (held (pre7 p) L) w) := by
  obtain ⟨i0, hi, hz0, hz1, hz2⟩ := info_parts Tx.info9
  go_enter Tryz.func52, Tryz.ntmps52
  go_wp2_with (at_range; refine range_rows _ rfl _ rfl m L rfl hm ?_; intro D w0 hD hrg0 hg0 hs0)
  go_frame
  have HD := Lib.hid hD
  have HR := Lib.hid hR
  have HP := Lib.hid hps
  have HH := Lib.hid (fun left => Nat.le_trans (held_len (pre7 p) (came L left)) (List.Sublist.length_le (came_sub L left)))
  have hsm : w.heap.size < w0.heap.size := by omega
  have HM := Lib.hid hm
  have HS := Lib.hid hs0
  clear hD hR hps hs0 hm
  go_loopw [5] (fun v wr => ∃ (left : Lit → Bool) (cnt T : Nat) (out : List ByteArray), wr.ranges Tryz.prog 9 opR m w.heap.size L.length D left cnt ∧ Hid (out.Perm (held (pre7 p) (came L left))) ∧ Hid (out.length = T) ∧ T ≤ 1000000000 ∧ wr.ownsRow (w.heap.size + 1) 9 1 v T (out.map sv) ∧ Below w.heap.size w wr ∧ w.heap.size < wr.heap.size) (fun _ wr => wr.rangeLeft m w.heap.size)
  case atStart => exact ⟨_, _, 0, [], hrg0, by show List.Perm _ _; rw [came_startO HD.out]; exact List.Perm.refl _, rfl, by omega, World.ownsRow_nil _ _ _ _, (Below.refl _ _).grown hg0 (Nat.le_refl _) (fun j hj => by cases hj), hsm⟩
  case round =>
    obtain ⟨left, cnt, T, out, hrg, hout, hlen, hT, hown, hB, hlt⟩ := hrel
    go_wp2_with (at_next; refine next_rows _ rfl _ rfl m w.heap.size L.length D left cnt L rfl hrg HD.out ?_ ?_)
    · intro hl
      have hp := hout.out
      rw [came_end L hl] at hp
      have hO : Texts wr w.heap.size _ out := own_toT (Dk.own_base hown (Nat.le_succ _)) hlen.out
      have hol : out.length ≤ 4000000000 := by rw [hlen.out]; omega
      have cs := sortS_any _ out wr w.heap.size hO hB.size hol
      have HPM := Lib.hid hp
      clear hl hp hO hrg hout hlen hown hol
      go_wp2_with (go_at_call 54; refine cs.mono ?_; rintro e w5 ⟨rfl, ts, hts, hso, htx, hb5⟩)
      go_ret
      obtain rfl : ts = held (pre7 p) L := rising_perm (hts.trans HPM.out) hso (held_rises HR.out)
      exact ⟨_, rfl, htx, hB.trans hb5⟩
    · intro x w1 cnt1 hx hlx hrg1 hlt1 hg1 hs1 hen1
      have hst := held_perm (φ := pre7 p) (came_step hlx HR.out hx)
      rw [held_cons] at hst
      have hbd := HH.out (less left x.path)
      have hlen2 := hst.length_eq
      have hme : cnt1 < wr.rangeLeft m w.heap.size := by rw [hrg.left_eq]; exact hlt1
      have hb1 : Below w.heap.size w w1 := below_grown hB hg1 (Nat.le_of_lt hlt) (Nat.le_refl _)
      have hs2 : w.heap.size < w1.heap.size := by omega
      have cx := fun W => hasPrefix_any x.path p W (by have := HP.out x hx; omega) (by omega)
      have hown1 := hown.kept hg1 (.inr (fun e => by have := (hown.lt _ e).1; omega))
      have HME := Lib.hid hme
      have HS1 := Lib.hid hs1
      clear hs1
      cases hφ : pre7 p x with
      | true =>
        unfold pre7 at hφ
        rw [hφ] at cx
        have hφ2 : pre7 p x = true := hφ
        rw [hφ2, if_pos rfl, List.length_append, List.length_singleton] at hlen2
        rw [hφ2, if_pos rfl] at hst
        have hT2 : T + 1 ≤ 1000000000 := by have := hout.out.length_eq; have := hlen.out; omega
        have hpm : (out ++ [x.path]).Perm (held (pre7 p) (came L (less left x.path))) := (List.perm_append_comm.trans (hout.out.append_left [x.path])).trans hst.symm
        have HPM := Lib.hid hpm
        have HLN := Lib.hid (show (out ++ [x.path]).length = T + 1 by rw [List.length_append, hlen.out]; rfl)
        clear hst hlen2 hbd hlx hx hpm hout hlen hrg hlt1 hg1 hme hown hφ hφ2
        go_wp2_with fail
        go_at_call 53
        refine (cx _).mono ?_
        rintro e w5 ⟨rfl, rfl⟩
        go_wp2_with (at_builtin; refine wpList_append_own _ rfl _ _ 52 rfl (w.heap.size + 1) 9 i0 (.string ⟨#[]⟩) 1 16 Tryz.underlying52 hi hz0 hz1 hz2 rfl (by decide) _ _ _ rfl (hown1.alloc _) ⟨w1.heap.size, 0, none⟩ 1 1 [sv x.path] rfl rfl ?c1_2 ?c2_2 ?c3_2 ?c4_2 ?c5_2 ?_)
        case c1_2 => exact cell_one_new _ _ _
        case c2_2 => exact sv_one [x.path]
        case c3_2 => unfold maxLen; omega
        case c4_2 => omega
        case c5_2 => first | (simp; omega) | omega
        intro v' w6 hown' hgrow _
        have ho6 : w6.ownsRow (w.heap.size + 1) 9 1 v' (T + 1) ((out ++ [x.path]).map sv) := by
          rw [List.map_append]
          exact hown'
        have hB6 : Below w.heap.size w w6 := (hb1.alloc hb1.size _).grown hgrow (by have := hb1.size; simp; omega) (fun k hk => by have := (hown1.lt k hk).1; omega)
        have hlb : m < w.heap.size := HM.out.lt
        have hrg6 := (hrg1.alloc (.cells #[.string x.path] 9)).kept hgrow (fun e => by have := (hown1.lt _ e.symm).1; omega) (fun e => by have := (hown1.lt _ e.symm).1; omega)
        have hle6 : w.heap.size < w6.heap.size := by have := hgrow.size; simp at this; omega
        have hme6 : w6.rangeLeft m w.heap.size < wr.rangeLeft m w.heap.size := by rw [hrg6.left_eq]; exact HME.out
        have HM6 := Lib.hid hme6
        have HO6 := Lib.hid ho6
        clear hown' hgrow hme6 hown1 hrg1 ho6
        go_wp2_with fail
        go_roundw
        case rel => exact ⟨less left x.path, cnt1, T + 1, out ++ [x.path], hrg6, HPM, HLN, hT2, HO6.out, hB6, hle6⟩
        case measure => exact HM6.out
      | false =>
        unfold pre7 at hφ
        rw [hφ] at cx
        have hφ2 : pre7 p x = false := hφ
        rw [hφ2, if_neg (by decide), List.nil_append] at hst
        have hpm : out.Perm (held (pre7 p) (came L (less left x.path))) := hout.out.trans hst.symm
        have HPM := Lib.hid hpm
        have hme5 : w1.rangeLeft m w.heap.size < wr.rangeLeft m w.heap.size := by rw [hrg1.left_eq]; exact HME.out
        have HM5 := Lib.hid hme5
        clear hst hlen2 hbd hlx hx hpm hout hrg hlt1 hg1 hme hown hφ hφ2 hme5
        go_wp2_with (go_at_call 53; refine (cx _).mono ?_; rintro e w5 ⟨rfl, rfl⟩)
        go_roundw
        case rel => exact ⟨less left x.path, cnt1, T, out, hrg1, HPM, hlen, hT, hown1, hb1, by omega⟩
        case measure => exact HM5.out
end Go.Proofs.YtdkgkomjbpggeaaGreatDoor.Tb

namespace Go.Proofs.YtdkgkomjbpggeaaGreatDoor.Tb
open Go.RowKit Tx Pm Dk Wm Wr
set_option linter.unusedVariables false
set_option linter.unusedSimpArgs false
set_option linter.unnecessarySimpa false
theorem neZ {e : Nat} (h : e ≠ 0) : ((e : Int) == 0) = false := by simp; omega
theorem chg_grown {w w' : World} {b : Nat} (h : w.grownBy w' (some b)) : Chg (· = b) w w' := ⟨h.os, h.tape, h.output, h.size, fun i hi hn => h.block i hi (fun e => hn (by injection e))⟩
theorem rat_kept {w w' : World} {b : Nat} {s : ByteArray} (h : Rat w b s) (he : w'.heap[b]? = w.heap[b]?) : Rat w' b s := by
  obtain ⟨h1, h2⟩ := h
  constructor
  · unfold World.cell? at h1 ⊢; rw [he]; exact h1
  · unfold World.frozen? at h2 ⊢; rw [he]; exact h2
theorem rat_lt {w : World} {b : Nat} {s : ByteArray} (h : Rat w b s) : b < w.heap.size := World.block_lt_of_cell? w _ h.1
theorem rat_alloc {w : World} {b : Nat} {s : ByteArray} (h : Rat w b s) (o : Obj) : Rat (w.alloc o) b s := rat_kept h (((Below.refl w.heap.size w).alloc (Nat.le_refl _) o).block b (rat_lt h))
theorem ext_ext (s : ByteArray) (m n : Nat) (h : m ≤ s.size) : (s.extract m s.size).extract n (s.extract m s.size).size = s.extract (m + n) s.size := by
  have e : (s.extract m s.size).size = s.size - m := by simp
  rw [e, ByteArray.extract_extract]
  congr 1
  omega
theorem store3 {w1 : World} {B : Nat} {T : TypeId} {v0 v1 v2 : Value} (h : w1.heap[B]? = some (.cells #[v0, v1, v2] T (0, 0))) (x0 x1 x2 : Value) :
    (w1.cell? ⟨B, 0, none⟩ = some v0 ∧ w1.frozen? ⟨B, 0, none⟩ = false) ∧ ((w1.setCell ⟨B, 0, none⟩ x0).cell? ⟨B, 1, none⟩ = some v1 ∧ (w1.setCell ⟨B, 0, none⟩ x0).frozen? ⟨B, 1, none⟩ = false) ∧
    (((w1.setCell ⟨B, 0, none⟩ x0).setCell ⟨B, 1, none⟩ x1).cell? ⟨B, 2, none⟩ = some v2 ∧ ((w1.setCell ⟨B, 0, none⟩ x0).setCell ⟨B, 1, none⟩ x1).frozen? ⟨B, 2, none⟩ = false) ∧
    (((w1.setCell ⟨B, 0, none⟩ x0).setCell ⟨B, 1, none⟩ x1).setCell ⟨B, 2, none⟩ x2).heap[B]? = some (.cells #[x0, x1, x2] T (0, 0)) ∧ Chg (· = B) w1 (((w1.setCell ⟨B, 0, none⟩ x0).setCell ⟨B, 1, none⟩ x1).setCell ⟨B, 2, none⟩ x2) := by
  have h1 : (w1.setCell ⟨B, 0, none⟩ x0).heap[B]? = some (.cells #[x0, v1, v2] T (0, 0)) := by rw [set_block h]; rfl
  have h2 : ((w1.setCell ⟨B, 0, none⟩ x0).setCell ⟨B, 1, none⟩ x1).heap[B]? = some (.cells #[x0, x1, v2] T (0, 0)) := by rw [set_block h1]; rfl
  have h3 : (((w1.setCell ⟨B, 0, none⟩ x0).setCell ⟨B, 1, none⟩ x1).setCell ⟨B, 2, none⟩ x2).heap[B]? = some (.cells #[x0, x1, x2] T (0, 0)) := by rw [set_block h2]; rfl
  refine ⟨⟨?_, ?_⟩, ⟨?_, ?_⟩, ⟨?_, ?_⟩, h3, ((chg_set (b := B) (k := 0) x0).then (chg_set (b := B) (k := 1) x1)).then (chg_set (b := B) (k := 2) x2)⟩
  · unfold World.cell?; rw [h]; rfl
  · unfold World.frozen?; rw [h]; simp
  · unfold World.cell?; rw [h1]; rfl
  · unfold World.frozen?; rw [h1]; simp
  · unfold World.cell?; rw [h2]; rfl
  · unfold World.frozen?; rw [h2]; simp
theorem results_cell_row_tmp {P : Program} {fn : Func} {p u : Tmp} {ty : TypeId} (h : fn.results = #[.cell p ty, .tmp u]) (tmps : Array Value) (w : World) (g : Nat) (t : TypeId) (cs : Array Value) (fr : Nat × Nat) (d : TypeDesc)
    (hp : tmps.getD p undef = .pointer (some ⟨g, 0, none⟩)) (hg : w.heap[g]? = some (.cells cs t fr))
    (hu : P.underlying ty = some d) (hd : (match d with | .struct _ | .array _ _ => true | _ => false) = true) (hi : (P.info? ty).map (·.size) = some cs.size) :
    (results fn tmps).run P w = .ok (.tuple #[.agg cs, tmps.getD u undef]) w := by
  have hp' : tmps[p]?.getD undef = .pointer (some ⟨g, 0, none⟩) := by simpa using hp
  rw [results_cell_tmp h]
  simp [hp', asAddr, run_loadVar_row w g t ty cs fr d hg hu hd hi, Result.andThen]
theorem infoCs : (Tryz.prog.info? 105).map (·.size) = some 3 := by kernel_rfl
theorem fin_chg {w w1 w2 : World} {b : Nat} {o : Obj} (hg : Chg (· = b) (w.alloc o) w1) (hc : Chg (· = w.heap.size) w1 w2) : Chg (· = b) w w2 :=
  ((Chg.of_below ((Below.refl w.heap.size w).alloc (Nat.le_refl _) o)).then hg).trans hc (fun i hi => .inr (by rw [hi]; exact Nat.le_refl _))
theorem blk_chg {w w1 : World} {b : Nat} {o : Obj} (hg : Chg (· = b) (w.alloc o) w1) (hb : b < w.heap.size) : w1.heap[w.heap.size]? = some o :=
  (hg.block w.heap.size (by simp) (fun e => by omega)).trans (new_at w o rfl)
def OpTo (b : Nat) (s : ByteArray) (w : World) (e : Ending) (w' : World) : Prop :=
  e = .returned (.tuple #[ov (rdOp s).1, .int .i64 ((rdOp s).2.2 : Nat)]) ∧ ((rdOp s).2.2 = 0 → Rat w' b (s.extract (rdOp s).2.1 s.size)) ∧ Chg (· = b) w w'
set_option maxRecDepth 100000 in
set_option maxHeartbeats 4000000 in
theorem readOp_any (b : Nat) (s : ByteArray) (w : World) (h : Rat w b s) (hs : s.size ≤ 1000000000000000000) :
    Calls Tryz.prog 134 #[.pointer (some ⟨b, 0, none⟩)] w (OpTo b s w) := by
  have hR0 := rat_alloc h (.cells #[.string ⟨#[]⟩, .string ⟨#[]⟩, .bool false] 105)
  have hsm : s.size ≤ maxLen := by unfold maxLen; omega
  have cu := uint_any b s _ hR0 hsm
  have hbw := rat_lt h
  unfold OpTo
  rcases rdOp_cases s with ⟨k, m, e, h0, he, h2⟩ | ⟨k, m, h0, hk, h2⟩ | ⟨k, m, t, n1, e, h0, hk, h1, he, h2⟩ | ⟨m, t, n1, h0, h1, h2⟩ | ⟨m, t, n1, t2, n2, e, h0, h1, h3, he, h2⟩ | ⟨m, t, n1, t2, n2, h0, h1, h3, h2⟩
  · rw [h0] at cu
    rw [h2]
    have ne := neZ he
    have HE := Lib.hid he
    clear h h0 h2 he hR0
    go_enter Tryz.func134, Tryz.ntmps134
    go_wp2_with fail
    go_at_call 111
    refine cu.mono ?_
    rintro e w1 ⟨rfl, hR1, hg1⟩
    have hG := chg_grown hg1
    obtain ⟨⟨a0, b0⟩, ⟨a1, b1⟩, ⟨a2, b2⟩, hb2, hc2⟩ := store3 (blk_chg hG hbw) (.string ⟨#[]⟩) (.string ⟨#[]⟩) (.bool false)
    go_wp2_with fail
    (try simp only [Exit.inBlock, Exit.then])
    refine bodyPost_ret (results_cell_row_tmp rfl _ _ _ _ _ _ _ rfl hb2 Tryz.underlying105 rfl infoCs) rfl ?_
    exact ⟨rfl, fun hh => absurd hh HE.out, fin_chg hG hc2⟩
  · rw [h0] at cu
    rw [h2]
    have n0 : ((k : Int) == 0) = false := by simp; omega
    have n1 : ((k : Int) == 1) = false := by simp; omega
    have q0 : ((k : Int) != 0) = true := by simp; omega
    have q1 : ((k : Int) != 1) = true := by simp; omega
    clear h h0 h2 hk hR0
    go_enter Tryz.func134, Tryz.ntmps134
    go_wp2_with fail
    go_at_call 111
    refine cu.mono ?_
    rintro e w1 ⟨rfl, hR1, hg1⟩
    have hG := chg_grown hg1
    obtain ⟨⟨a0, b0⟩, ⟨a1, b1⟩, ⟨a2, b2⟩, hb2, hc2⟩ := store3 (blk_chg hG hbw) (.string ⟨#[]⟩) (.string ⟨#[]⟩) (.bool false)
    go_wp2_with fail
    (try simp only [Exit.inBlock, Exit.then])
    refine bodyPost_ret (results_cell_row_tmp rfl _ _ _ _ _ _ _ rfl hb2 Tryz.underlying105 rfl infoCs) rfl ?_
    exact ⟨rfl, fun hh => absurd hh (by decide), fin_chg hG hc2⟩
  · rw [h2]
    have hm : m ≤ s.size := by have := (rdU_ok h0).1; rwa [Wm.len_l] at this
    have hs1 : (s.extract m s.size).size ≤ maxLen := by rw [ByteArray.size_extract]; omega
    have ne := neZ he
    have HE := Lib.hid he
    clear h h2 he hR0
    rcases (show k = 0 ∨ k = 1 by omega) with rfl | rfl
    · rw [h0] at cu
      clear h0 hk
      go_enter Tryz.func134, Tryz.ntmps134
      go_wp2_with fail
      go_at_call 111
      refine cu.mono ?_
      rintro e w1 ⟨rfl, hR1, hg1⟩
      have hG := chg_grown hg1
      have ct := text_any b _ w1 hR1 hs1
      rw [h1] at ct
      clear h1
      go_wp2_with fail
      go_at_call 97
      refine ct.mono ?_
      rintro e w2 ⟨rfl, hR2, hg2⟩
      have hG := hG.then (chg_grown hg2)
      obtain ⟨⟨a0, b0⟩, ⟨a1, b1⟩, ⟨a2, b2⟩, hb2, hc2⟩ := store3 (blk_chg hG hbw) (.string ⟨#[]⟩) (.string ⟨#[]⟩) (.bool false)
      go_wp2_with fail
      (try simp only [Exit.inBlock, Exit.then])
      refine bodyPost_ret (results_cell_row_tmp rfl _ _ _ _ _ _ _ rfl hb2 Tryz.underlying105 rfl infoCs) rfl ?_
      exact ⟨rfl, fun hh => absurd hh HE.out, fin_chg hG hc2⟩
    · rw [h0] at cu
      clear h0 hk
      go_enter Tryz.func134, Tryz.ntmps134
      go_wp2_with fail
      go_at_call 111
      refine cu.mono ?_
      rintro e w1 ⟨rfl, hR1, hg1⟩
      have hG := chg_grown hg1
      have ct := text_any b _ w1 hR1 hs1
      rw [h1] at ct
      clear h1
      go_wp2_with fail
      go_at_call 97
      refine ct.mono ?_
      rintro e w2 ⟨rfl, hR2, hg2⟩
      have hG := hG.then (chg_grown hg2)
      obtain ⟨⟨a0, b0⟩, ⟨a1, b1⟩, ⟨a2, b2⟩, hb2, hc2⟩ := store3 (blk_chg hG hbw) (.string ⟨#[]⟩) (.string ⟨#[]⟩) (.bool false)
      go_wp2_with fail
      (try simp only [Exit.inBlock, Exit.then])
      refine bodyPost_ret (results_cell_row_tmp rfl _ _ _ _ _ _ _ rfl hb2 Tryz.underlying105 rfl infoCs) rfl ?_
      exact ⟨rfl, fun hh => absurd hh HE.out, fin_chg hG hc2⟩
  · rw [h2]
    have hm : m ≤ s.size := by have := (rdU_ok h0).1; rwa [Wm.len_l] at this
    have hs1 : (s.extract m s.size).size ≤ maxLen := by rw [ByteArray.size_extract]; omega
    rw [h0] at cu
    clear h h0 h2 hR0
    go_enter Tryz.func134, Tryz.ntmps134
    go_wp2_with fail
    go_at_call 111
    refine cu.mono ?_
    rintro e w1 ⟨rfl, hR1, hg1⟩
    have hG := chg_grown hg1
    have ct := text_any b _ w1 hR1 hs1
    rw [h1] at ct
    clear h1
    go_wp2_with fail
    go_at_call 97
    refine ct.mono ?_
    rintro e w2 ⟨rfl, hR2, hg2⟩
    have hG := hG.then (chg_grown hg2)
    rw [ext_ext s m n1 hm] at hR2
    obtain ⟨⟨a0, b0⟩, ⟨a1, b1⟩, ⟨a2, b2⟩, hb2, hc2⟩ := store3 (blk_chg hG hbw) (.string t) (.string ⟨#[]⟩) (.bool true)
    go_wp2_with fail
    (try simp only [Exit.inBlock, Exit.then])
    refine bodyPost_ret (results_cell_row_tmp rfl _ _ _ _ _ _ _ rfl hb2 Tryz.underlying105 rfl infoCs) rfl ?_
    exact ⟨rfl, fun _ => rat_kept hR2 (hc2.block b (rat_lt hR2) (fun e => by omega)), fin_chg hG hc2⟩
  · rw [h2]
    have hm : m ≤ s.size := by have := (rdU_ok h0).1; rwa [Wm.len_l] at this
    have hs1 : (s.extract m s.size).size ≤ maxLen := by rw [ByteArray.size_extract]; omega
    have hs2 : (s.extract (m + n1) s.size).size ≤ maxLen := by rw [ByteArray.size_extract]; omega
    have ne := neZ he
    have HE := Lib.hid he
    rw [h0] at cu
    clear h h0 h2 he hR0
    go_enter Tryz.func134, Tryz.ntmps134
    go_wp2_with fail
    go_at_call 111
    refine cu.mono ?_
    rintro e w1 ⟨rfl, hR1, hg1⟩
    have hG := chg_grown hg1
    have ct := text_any b _ w1 hR1 hs1
    rw [h1] at ct
    clear h1
    go_wp2_with fail
    go_at_call 97
    refine ct.mono ?_
    rintro e w2 ⟨rfl, hR2, hg2⟩
    have hG := hG.then (chg_grown hg2)
    rw [ext_ext s m n1 hm] at hR2
    have ct2 := text_any b _ w2 hR2 hs2
    rw [h3] at ct2
    clear h3
    go_wp2_with fail
    go_at_call 97
    refine ct2.mono ?_
    rintro e w3 ⟨rfl, hR3, hg3⟩
    have hG := hG.then (chg_grown hg3)
    obtain ⟨⟨a0, b0⟩, ⟨a1, b1⟩, ⟨a2, b2⟩, hb2, hc2⟩ := store3 (blk_chg hG hbw) (.string ⟨#[]⟩) (.string ⟨#[]⟩) (.bool false)
    go_wp2_with fail
    (try simp only [Exit.inBlock, Exit.then])
    refine bodyPost_ret (results_cell_row_tmp rfl _ _ _ _ _ _ _ rfl hb2 Tryz.underlying105 rfl infoCs) rfl ?_
    exact ⟨rfl, fun hh => absurd hh HE.out, fin_chg hG hc2⟩
  · rw [h2]
    have hm : m ≤ s.size := by have := (rdU_ok h0).1; rwa [Wm.len_l] at this
    have hs1 : (s.extract m s.size).size ≤ maxLen := by rw [ByteArray.size_extract]; omega
    have hs2 : (s.extract (m + n1) s.size).size ≤ maxLen := by rw [ByteArray.size_extract]; omega
    have hmn : m + n1 ≤ s.size := by have := (rdT_ok h1).1; rw [ByteArray.size_extract] at this; omega
    rw [h0] at cu
    clear h h0 h2 hR0
    go_enter Tryz.func134, Tryz.ntmps134
    go_wp2_with fail
    go_at_call 111
    refine cu.mono ?_
    rintro e w1 ⟨rfl, hR1, hg1⟩
    have hG := chg_grown hg1
    have ct := text_any b _ w1 hR1 hs1
    rw [h1] at ct
    clear h1
    go_wp2_with fail
    go_at_call 97
    refine ct.mono ?_
    rintro e w2 ⟨rfl, hR2, hg2⟩
    have hG := hG.then (chg_grown hg2)
    rw [ext_ext s m n1 hm] at hR2
    have ct2 := text_any b _ w2 hR2 hs2
    rw [h3] at ct2
    clear h3
    go_wp2_with fail
    go_at_call 97
    refine ct2.mono ?_
    rintro e w3 ⟨rfl, hR3, hg3⟩
    have hG := hG.then (chg_grown hg3)
    rw [ext_ext s (m + n1) n2 hmn] at hR3
    obtain ⟨⟨a0, b0⟩, ⟨a1, b1⟩, ⟨a2, b2⟩, hb2, hc2⟩ := store3 (blk_chg hG hbw) (.string t) (.string t2) (.bool false)
    go_wp2_with fail
    (try simp only [Exit.inBlock, Exit.then])
    refine bodyPost_ret (results_cell_row_tmp rfl _ _ _ _ _ _ _ rfl hb2 Tryz.underlying105 rfl infoCs) rfl ?_
    exact ⟨rfl, fun _ => rat_kept hR3 (hc2.block b (rat_lt hR3) (fun e => by omega)), fin_chg hG hc2⟩
end Go.Proofs.YtdkgkomjbpggeaaGreatDoor.Tb

namespace Go.Proofs.YtdkgkomjbpggeaaGreatDoor.Tb
open Go.RowKit Tx Pm Dk Wm Wr
set_option linter.unusedVariables false
set_option linter.unusedSimpArgs false
set_option linter.unnecessarySimpa false
def OpsTo (s : ByteArray) (w : World) (e : Ending) (w' : World) : Prop := ∃ v, e = .returned (.tuple #[v, .int .i64 ((opsS s).2 : Nat)]) ∧ OwnC w' w.heap.size v (opsS s).1 ∧ Below w.heap.size w w'
theorem below_chgB {w w1 w2 : World} {b : Nat} (h : Below w.heap.size w w1) (hc : Chg (· = b) w1 w2) (hb : w.heap.size ≤ b) : Below w.heap.size w w2 := h.trans (hc.below h.size (fun i hi => by omega))
theorem own_chg {w w1 : World} {B n size : Nat} {e : TypeId} {v : Value} {xs : List Value} {F : Nat → Prop} (h : w.ownsRow B e size v n xs) (hc : Chg F w w1) (hF : ∀ g, v.ownBlock = some g → ¬ F g) : w1.ownsRow B e size v n xs :=
  own_kept h (fun g hg => hc.block g (h.lt g hg).2 (hF g hg))
theorem own_less {w : World} {B C n size : Nat} {e : TypeId} {v : Value} {xs : List Value} (h : w.ownsRow C e size v n xs) (hB : B ≤ C) : w.ownsRow B e size v n xs := by
  refine ⟨h.1, ?_⟩
  rcases h.2 with h0 | ⟨g, cap, cur, hv, hg, hh, r⟩
  · exact .inl h0
  · exact .inr ⟨g, cap, cur, hv, Nat.le_trans hB hg, hh, r⟩
theorem cells_one (c : Ch) : ∀ u ∈ cellsC c, u.oneCell' = true := by
  intro u hu
  simp only [cellsC, List.mem_cons, List.not_mem_nil, or_false] at hu
  rcases hu with rfl | rfl | rfl <;> rfl
theorem nil_OwnC (w : World) (B : Nat) : OwnC w B (.slice none 0 0) [] := World.ownsRow_nil _ _ _ _
theorem new3 (W : World) (c : Ch) {z : Nat} (hz : z = W.heap.size) : ∀ (j : Nat) (u : Value), (cellsC c)[j]? = some u → (W.alloc (.cells #[.string c.key, .string c.val, .bool c.gone] 105)).cell? (Addr.add ⟨z, 0, none⟩ j) = some u := by
  subst hz
  intro j u hu
  rw [WideShapes.add_plain, Nat.zero_add, World.cell?_alloc_at _ _ _ _ rfl]
  match j, hu with
  | 0, hu => simpa [cellsC] using hu
  | 1, hu => simpa [cellsC] using hu
  | 2, hu => simpa [cellsC] using hu
  | j + 3, hu => simp [cellsC] at hu
set_option maxRecDepth 100000 in
set_option maxHeartbeats 4000000 in
theorem ops_any (s : ByteArray) (w : World) (hs : s.size ≤ 1000000000000) : Calls Tryz.prog 99 #[.string s] w (OpsTo s w) := by
  have hsm : s.size ≤ maxLen := by unfold maxLen; omega
  have cn := new_any s w
  have hR0 := rat_new w s
  have hB0 : Below w.heap.size w (w.alloc (.cells #[.string s] 172)) := (Below.refl _ w).alloc (Nat.le_refl _) _
  have cu := uint_any w.heap.size s _ hR0 hsm
  unfold OpsTo
  obtain ⟨k, m, e0, h0⟩ := Fm.trip (rdU s.data.toList)
  rw [h0] at cu
  by_cases he : e0 = 0
  · subst he
    obtain ⟨hm, _, _, hk63, hk⟩ := rdU_ok h0
    rw [Wm.len_l] at hm
    have H0 := Lib.hid h0
    obtain ⟨i0, hi, hz0, hz1, hz2⟩ := info_parts infoC
    clear hR0 h0
    go_enter Tryz.func99, Tryz.ntmps99
    go_wp2_with (go_at_call 96; refine cn.mono ?_; rintro e w1 ⟨rfl, rfl⟩)
    go_at_call 111
    refine cu.mono ?_
    rintro e w1 ⟨rfl, hR1, hg1⟩
    have hB1 : Below w.heap.size w w1 := below_chgB hB0 (chg_grown hg1) (Nat.le_refl _)
    go_wp2_with fail
    go_loopw [7, 22] (fun v iv wr => ∃ (i a T : Nat) (out : List Ch), i ≤ k ∧ iv = .int .i64 i ∧ Hid (rdN s k m = (out ++ (rdN s (k - i) a).1, (rdN s (k - i) a).2.1, (rdN s (k - i) a).2.2)) ∧ Hid (out.length = T) ∧ 2 * T ≤ a ∧ a ≤ s.size ∧ Rat wr w.heap.size (s.extract a s.size) ∧ wr.ownsRow (w.heap.size + 1) 105 3 v T (out.flatMap cellsC) ∧ Below w.heap.size w wr) (fun _ iv _ => k - (intOf iv).toNat)
    case atStart => exact ⟨0, m, 0, [], Nat.zero_le _, rfl, by show rdN s k m = _; rw [Nat.sub_zero]; rfl, rfl, by omega, hm, hR1, World.ownsRow_nil _ _ _ _, hB1⟩
    case round =>
      obtain ⟨i, a, T, out, hik, rfl, hrd, hT, hTa, has, hR, hown, hB⟩ := hrel
      have hxs : (s.extract a s.size).size ≤ 1000000000000000000 := by rw [ByteArray.size_extract]; omega
      by_cases hlt : i < k
      · have cr := readOp_any w.heap.size (s.extract a s.size) wr hR hxs
        unfold OpTo at cr
        obtain ⟨c, n, e, h1⟩ := Fm.trip (rdOp (s.extract a s.size))
        rw [h1] at cr
        have hki : k - i = (k - i - 1) + 1 := by omega
        have hikz : (i : Int) < (k : Int) := by omega
        by_cases he : e = 0
        · subst he
          have hrd2 := hrd.out
          rw [hki, rdN_one h1] at hrd2
          have hrd3 : rdN s k m = ((out ++ [c]) ++ (rdN s (k - (i + 1)) (a + n)).1, (rdN s (k - (i + 1)) (a + n)).2.1, (rdN s (k - (i + 1)) (a + n)).2.2) := by
            rw [hrd2, show k - i - 1 = k - (i + 1) by omega, List.append_assoc]; rfl
          obtain ⟨hn1, _, hn2, _⟩ := rdOp_ok h1
          rw [ByteArray.size_extract, Nat.min_self] at hn1
          have HRD := Lib.hid hrd3
          obtain ⟨key, val, gone⟩ := c
          simp only [ov] at cr
          clear hrd hrd2 hrd3 h1 hR
          go_wp2_with fail
          go_at_call 134
          refine cr.mono ?_
          rintro e w5 ⟨rfl, hR5, hc5⟩
          have hR5 := hR5 trivial
          rw [ext_ext s a n has] at hR5
          have hO5 := own_chg hown hc5 (fun g hg => by have := (hown.lt g hg).1; omega)
          have hB5 := below_chgB hB hc5 (Nat.le_refl _)
          have hTs : T + 1 ≤ 1000000000000 := by omega
          go_wp2_with (at_builtin; refine wpList_append_own _ rfl _ _ 74 rfl (w.heap.size + 1) 105 i0 (ov ch0) 3 40 Tryz.underlying74 hi hz0 hz1 hz2 rfl (by decide) _ _ _ rfl ((hO5.alloc (.cells #[.string key, .string val, .bool gone] 105)).alloc _) ⟨w5.heap.size + 1, 0, none⟩ 1 1 [.string key, .string val, .bool gone] rfl rfl ?c1 ?c2 ?c3 ?c4 ?c5 ?_)
          case c1 => exact new3 (w5.alloc (.cells #[.string key, .string val, .bool gone] 105)) ⟨key, val, gone⟩ (by simp)
          case c2 => exact cells_one ⟨key, val, gone⟩
          case c3 => unfold maxLen; omega
          case c4 => omega
          case c5 => have := hB5.size; simp; have := rat_lt hR5; omega
          intro v' w6 hown6 hgrow6 _
          have hR6 : Rat w6 w.heap.size (s.extract (a + n) s.size) := rat_kept (rat_alloc (rat_alloc hR5 _) _) (hgrow6.block _ (by have := rat_lt hR5; simp; omega) (fun e => by have := (hO5.lt _ e.symm).1; omega))
          have hB6 : Below w.heap.size w w6 := ((hB5.alloc hB5.size _).alloc (by simp; have := hB5.size; omega) _).grown hgrow6 (by simp; have := hB5.size; omega) (fun g hg => by have := (hO5.lt g hg).1; omega)
          have hO6 : w6.ownsRow (w.heap.size + 1) 105 3 v' (T + 1) ((out ++ [(⟨key, val, gone⟩ : Ch)]).flatMap cellsC) := by
            rw [List.flatMap_append]
            exact hown6
          have hlen : (out ++ [(⟨key, val, gone⟩ : Ch)]).length = T + 1 := by rw [List.length_append, hT.out]; rfl
          clear hown6 hgrow6 hO5 hB5 hR5 hown hB hT
          go_wp2_with fail
          go_roundw
          case rel => exact ⟨i + 1, a + n, T + 1, out ++ [(⟨key, val, gone⟩ : Ch)], by omega, by go_num, HRD.out, hlen, by omega, by omega, hR6, hO6, hB6⟩
          case measure => simp [intOf]; omega
        · have hrd2 := hrd.out
          rw [hki, rdN_bad h1 he] at hrd2
          have hops : opsS s = ([], e) := opsS_2 H0.out hrd2 he
          have ne := neZ he
          have HOPS := Lib.hid hops
          simp only [ov, ch0] at cr
          clear hrd hrd2 hops h1 hR he
          go_wp2_with fail
          go_at_call 134
          refine cr.mono ?_
          rintro e w5 ⟨rfl, _, hc5⟩
          have hB5 := below_chgB hB hc5 (Nat.le_refl _)
          go_wp2_with fail
          go_ret2
          rw [HOPS.out]
          exact ⟨_, rfl, nil_OwnC _ _, hB5.alloc hB5.size _⟩
      · obtain rfl : i = k := by omega
        have hrd2 := hrd.out
        rw [Nat.sub_self] at hrd2
        simp only [rdN, List.append_nil] at hrd2
        have cd := done_any w.heap.size (s.extract a s.size) wr hR (by unfold maxLen; omega)
        have hsz : (s.extract a s.size).size = s.size - a := by simp
        rw [hsz] at cd
        obtain ⟨av, cv, hv⟩ : ∃ av cv, u7 = .slice av T cv := by
          rcases hown.2 with ⟨hv, h0⟩ | ⟨g, cap, cur, hv, _⟩
          · exact ⟨none, 0, by rw [hv, h0]⟩
          · exact ⟨_, _, hv⟩
        have hO : OwnC wr w.heap.size u7 out := by unfold OwnC; rw [hT.out]; exact own_less hown (by omega)
        by_cases ha : a < s.size
        · have hd : dn (s.size - a) = 5 := by unfold dn; rw [if_neg (by omega)]
          rw [hd] at cd
          have hops : opsS s = ([], 5) := opsS_3 H0.out hrd2 ha
          have HOPS := Lib.hid hops
          clear hrd hrd2 hops hR hO hown hT
          subst hv
          go_wp2_with fail
          go_at_call 135
          refine cd.mono ?_
          rintro e w5 ⟨rfl, rfl⟩
          go_wp2_with fail
          go_ret2
          rw [HOPS.out]
          exact ⟨_, rfl, nil_OwnC _ _, hB⟩
        · have hd : dn (s.size - a) = 0 := by unfold dn; rw [if_pos (by omega)]
          rw [hd] at cd
          have hops : opsS s = (out, 0) := opsS_4 H0.out hrd2 ha
          have HOPS := Lib.hid hops
          have HO := Lib.hid hO
          clear hrd hrd2 hops hR hO hown hT
          subst hv
          go_wp2_with fail
          go_at_call 135
          refine cd.mono ?_
          rintro e w5 ⟨rfl, rfl⟩
          go_wp2_with fail
          go_ret2
          rw [HOPS.out]
          exact ⟨_, rfl, HO.out, hB⟩
  · have hops : opsS s = ([], e0) := opsS_1 h0 he
    have ne := neZ he
    rw [hops]
    clear hR0 h0 hops he
    go_enter Tryz.func99, Tryz.ntmps99
    go_wp2_with (go_at_call 96; refine cn.mono ?_; rintro e w1 ⟨rfl, rfl⟩)
    go_at_call 111
    refine cu.mono ?_
    rintro e w1 ⟨rfl, hR1, hg1⟩
    have hB1 : Below w.heap.size w w1 := below_chgB hB0 (chg_grown hg1) (Nat.le_refl _)
    go_wp2_with fail
    go_ret2
    exact ⟨_, rfl, nil_OwnC _ _, hB1⟩
end Go.Proofs.YtdkgkomjbpggeaaGreatDoor.Tb

namespace Go.Proofs.YtdkgkomjbpggeaaGreatDoor.Tb
open Go.RowKit Tx Pm Dk Wm Wr Wl Pl
set_option linter.unusedVariables false
set_option linter.unusedSimpArgs false
set_option linter.unnecessarySimpa false
theorem Mo.below {w w1 : World} {bm : Nat} {L : List It} (h : Mo w bm L) (hb : Below w.heap.size w w1) : Mo w1 bm L := h.kept (hb.block bm h.lt)
theorem held_all (L : List It) : held (pre7 ⟨#[]⟩) L = L.map (·.path) := by
  unfold held
  congr 1
  refine List.filter_eq_self.2 (fun x _ => ?_)
  unfold pre7 Lib.hasPrefix
  rfl
set_option maxRecDepth 100000 in
set_option maxHeartbeats 2000000 in
theorem whole_any (t m : Nat) (L : List It) (w : World) (ht : w.cell? ⟨t, 3, none⟩ = some (.map (some m))) (hm : Mo w m L) (hR : Rises L) (hn : L.length ≤ 1000000000) (hps : ∀ x ∈ L, x.path.size ≤ 1000000000000) :
    Calls Tryz.prog 85 #[.pointer (some ⟨t, 0, none⟩)] w fun e w' => ∃ v, e = .returned v ∧ OwnC w' w.heap.size v (whole7 L) ∧ Below w.heap.size w w' := by
  obtain ⟨i0, hi, hz0, hz1, hz2⟩ := info_parts infoC
  have ck := tKeys_any t m L ⟨#[]⟩ w ht hm hR hn hps (by decide)
  rw [held_all] at ck
  have htl := World.block_lt_of_cell? w _ ht
  have HR := Lib.hid hR
  have HM := Lib.hid hm
  have HP := Lib.hid hps
  obtain ⟨n, hnL⟩ : ∃ n, n = L.length := ⟨_, rfl⟩
  have HL := Lib.hid hnL
  rw [← hnL] at hn
  have hlm : (L.map (·.path)).length = n := by rw [List.length_map, hnL]
  clear hR hm hnL hps
  go_enter Tryz.func85, Tryz.ntmps85
  go_wp2_with fail
  go_at_call 52
  refine ck.mono ?_
  rintro e w1 ⟨vK, rfl, hK, hb1⟩
  obtain ⟨aK, cK, hv, hsK, hcK, _⟩ := hK.form
  rw [hlm] at hv hsK hcK
  have HSK := Lib.hid (fun W (hW : Below w1.heap.size w1 W) => hsK.below hW)
  have ht1 := (hb1.cell (p := ⟨t, 3, none⟩) htl).trans ht
  have HM1 := Lib.hid (HM.out.below hb1)
  have hsz1 := hb1.size
  clear hK hsK hlm
  subst hv
  go_wp2_with fail
  go_loopw [3, 9] (fun v iv wr => ∃ k : Nat, k ≤ n ∧ iv = .int .i64 k ∧ wr.ownsRow w1.heap.size 105 3 v k ((whole7 (L.take k)).flatMap cellsC) ∧ Below w1.heap.size w1 wr) (fun _ iv _ => n - (intOf iv).toNat)
  case atStart => exact ⟨0, Nat.zero_le _, rfl, World.ownsRow_nil _ _ _ _, Below.refl _ _⟩
  case round =>
    obtain ⟨k, hk, rfl, hown, hB⟩ := hrel
    by_cases hlt : k < n
    · obtain ⟨x, hx⟩ : ∃ x, L[k]? = some x := ⟨_, List.getElem?_eq_getElem (by rw [← HL.out]; exact hlt)⟩
      have hxk : (L.map (·.path))[k]? = some x.path := by rw [List.getElem?_map, hx]; rfl
      obtain ⟨_, hne⟩ := HSK.out _ hB
      obtain ⟨bk, off, rfl, hbk, hcc⟩ := hne.resolve_left (by omega)
      have g0 := hcc k x.path hxk
      have hkz : (k : Int) < (n : Int) := by omega
      have htr := (hB.cell (p := ⟨t, 3, none⟩) (World.block_lt_of_cell? w1 _ ht1)).trans ht1
      have hl := (HM1.out.below hB).look (p := x.path) (by have := HP.out x (List.mem_of_getElem? hx); unfold maxLen; omega)
      have hlc : lookC L x.path = chOf x := by unfold lookC; rw [find_paths HR.out (List.mem_of_getElem? hx)]
      rw [hlc] at hl
      have htk : whole7 (L.take (k + 1)) = whole7 (L.take k) ++ [chOf x] := by
        have hkl := (List.getElem?_eq_some_iff.1 hx).1
        rw [List.take_succ_eq_append_getElem hkl]
        rw [List.getElem?_eq_getElem hkl] at hx
        injection hx with hx
        unfold whole7
        rw [List.map_append, hx]
        rfl
      have HTK := Lib.hid htk
      obtain ⟨P, D⟩ : ∃ P : ByteArray × ByteArray, P = (x.path, x.data) := ⟨_, rfl⟩
      simp only [chOf, ov] at hl
      clear hx hxk hcc hne hlc htk
      go_wp2_with (at_builtin; refine wpList_append_own _ rfl _ _ 74 rfl w1.heap.size 105 i0 (ov ch0) 3 40 Tryz.underlying74 hi hz0 hz1 hz2 rfl (by decide) _ _ _ rfl (hown.alloc _) ⟨wr.heap.size, 0, none⟩ 1 1 [.string x.path, .string x.data, .bool false] rfl rfl ?c1 ?c2 ?c3 ?c4 ?c5 ?_)
      case c1 => exact new3 wr (chOf x) rfl
      case c2 => exact cells_one (chOf x)
      case c3 => unfold maxLen; omega
      case c4 => omega
      case c5 => have := hB.size; simp; omega
      intro v' w6 hown6 hgrow6 _
      have hB6 : Below w1.heap.size w1 w6 := (hB.alloc hB.size _).grown hgrow6 (by simp; have := hB.size; omega) (fun g hg => (hown.lt g hg).1)
      have hO6 : w6.ownsRow w1.heap.size 105 3 v' (k + 1) ((whole7 (L.take (k + 1))).flatMap cellsC) := by
        rw [HTK.out, List.flatMap_append]
        exact hown6
      clear hown6 hgrow6 hown hB
      go_wp2_with fail
      go_roundw
      case rel => exact ⟨k + 1, by omega, by go_num, hO6, hB6⟩
      case measure => simp [intOf]; omega
    · obtain rfl : k = n := by omega
      have hO : OwnC wr w.heap.size u3 (whole7 L) := by
        have e : L.take k = L := List.take_of_length_le (by rw [← HL.out]; exact Nat.le_refl _)
        rw [e] at hown
        unfold OwnC
        have e2 : (whole7 L).length = k := by unfold whole7; rw [List.length_map]; exact HL.out.symm
        rw [e2]
        exact own_less hown hsz1
      obtain ⟨a9, c9, hv9, _⟩ := hO.form
      have hb9 := Tx.below_call hb1 hB
      have HO := Lib.hid hO
      obtain ⟨n9, hn9⟩ : ∃ n9, n9 = (whole7 L).length := ⟨_, rfl⟩
      rw [← hn9] at hv9
      clear hO hown hn9
      subst hv9
      go_wp2_with fail
      go_ret
      exact ⟨_, rfl, HO.out, hb9⟩
set_option maxRecDepth 100000 in
set_option maxHeartbeats 2000000 in
theorem do_any (t m : Nat) (L : List It) (a : Option Addr) (n c : Nat) (l : List Ch) (w : World) (ht : w.cell? ⟨t, 3, none⟩ = some (.map (some m))) (hm : Mo w m L) (hR : Rises L) (hO : Opl w a n l) (hn : L.length + n ≤ 1000000000) (hps : ∀ x ∈ l, x.key.size ≤ 1000000000000) (hc : n ≤ c) :
    Calls Tryz.prog 48 #[.pointer (some ⟨t, 0, none⟩), .slice a n c] w fun e w' => e = .returned (.tuple #[]) ∧ Mo w' m (all7 L l) ∧ Chg (· = m) w w' := by
  have htl := World.block_lt_of_cell? w _ ht
  have htm : t ≠ m := fun e => by
    subst e
    obtain ⟨D, ⟨es, ck, hb, _⟩, _⟩ := hm
    unfold World.cell? at ht
    rw [hb] at ht
    cases ht
  have hom : ∀ g off, a = some ⟨g, off, none⟩ → 0 < n → g ≠ m := by
    rintro g off rfl hp rfl
    obtain ⟨x, hx⟩ : ∃ x, l[0]? = some x := ⟨_, List.getElem?_eq_getElem (by rw [hO.1]; exact hp)⟩
    obtain ⟨g', off', e1, _, g0, _⟩ := hO.nth hx
    injection e1 with e1
    injection e1 with e1 e2
    subst e1 e2
    obtain ⟨D, ⟨es, ck, hb, _⟩, _⟩ := hm
    unfold World.cell? at g0
    rw [hb] at g0
    cases g0
  have HOM := Lib.hid hom
  have HO := Lib.hid hO
  have HR := Lib.hid hR
  have HP := Lib.hid hps
  clear hO hR hps hom
  go_enter Tryz.func48, Tryz.ntmps48
  go_wp2_with fail
  go_loopw [8] (fun iv wr => ∃ k : Nat, k ≤ n ∧ iv = .int .i64 k ∧ Mo wr m (all7 L (l.take k)) ∧ Chg (· = m) w wr) (fun iv _ => n - (intOf iv).toNat)
  case atStart => exact ⟨0, Nat.zero_le _, rfl, hm, Chg.refl _ _⟩
  case round =>
    obtain ⟨k, hk, rfl, hmo, hch⟩ := hrel
    by_cases hlt : k < n
    · obtain ⟨x, hx⟩ : ∃ x, l[k]? = some x := ⟨_, List.getElem?_eq_getElem (by rw [HO.out.1]; exact hlt)⟩
      obtain ⟨g, off, rfl, hg, g0, g1, g2⟩ := HO.out.nth hx
      have hgm : g ≠ m := HOM.out g off rfl (by omega)
      have hbg := hch.block g hg hgm
      have h0 : wr.cell? ⟨g, off + k * 3, none⟩ = some (.string x.key) := by unfold World.cell? at g0 ⊢; rw [hbg]; exact g0
      have h1 : wr.cell? ⟨g, off + k * 3 + 1, none⟩ = some (.string x.val) := by unfold World.cell? at g1 ⊢; rw [hbg]; exact g1
      have h2 : wr.cell? ⟨g, off + k * 3 + 1 + 1, none⟩ = some (.bool x.gone) := by unfold World.cell? at g2 ⊢; rw [hbg]; exact g2
      have hbt := hch.block t htl htm
      have htr : wr.cell? ⟨t, 3, none⟩ = some (.map (some m)) := by unfold World.cell? at ht ⊢; rw [hbt]; exact ht
      have hkz : (k : Int) < (n : Int) := by omega
      have hks := HP.out x (List.mem_of_getElem? hx)
      have hrs := rises_all HR.out (l.take k)
      have hln := len_all L (l.take k)
      have hlk : (l.take k).length ≤ k := by rw [List.length_take]; omega
      have htk : all7 L (l.take (k + 1)) = app (all7 L (l.take k)) x := by
        have hkl := (List.getElem?_eq_some_iff.1 hx).1
        rw [List.take_succ_eq_append_getElem hkl, all7_snoc]
        rw [List.getElem?_eq_getElem hkl] at hx
        injection hx with hx
        rw [hx]
      have HTK := Lib.hid htk
      have hB2 : Below wr.heap.size wr (wr.alloc (.cells #[.string x.key, .string x.val, .bool x.gone] 105)).drew := ((Below.refl _ wr).alloc (Nat.le_refl _) _).drew
      have hmo2 := hmo.below hB2
      obtain ⟨key, val, gone⟩ := x
      have htr2 := (hB2.cell (p := ⟨t, 3, none⟩) (World.block_lt_of_cell? wr _ htr)).trans htr
      simp only at h0 h1 h2 hks hB2 hmo2
      cases gone
      · obtain ⟨w3, hrun, hm3, hturn⟩ := hmo2.store (c := ⟨key, val, false⟩) rfl (by show key.size ≤ _; unfold maxLen; omega) (by unfold maxLen; omega)
        have hc3 : Chg (· = m) w w3 := (hch.then (Chg.of_below hB2)).then (turned_chg hturn)
        rw [← HTK.out] at hm3
        simp only [ov] at hrun
        have HM3 := Lib.hid hm3
        have HC3 := Lib.hid hc3
        clear hmo hmo2 hch hB2 hx g0 g1 g2 hbg hbt hturn hm3 hc3 htk hrs hln hlk
        go_wp2_with fail
        go_region
        all_goals
          go_wp2_with fail
          go_roundw
          case rel => exact ⟨k + 1, by omega, by go_num, HM3.out, HC3.out⟩
          case measure => simp [intOf]; omega
      · obtain ⟨w3, hrun, hm3, hturn⟩ := hmo2.del hrs (c := ⟨key, val, true⟩) rfl (by show key.size ≤ _; unfold maxLen; omega) 0
        have hc3 : Chg (· = m) w w3 := (hch.then (Chg.of_below hB2)).then (turned_chg hturn)
        rw [← HTK.out] at hm3
        have HM3 := Lib.hid hm3
        have HC3 := Lib.hid hc3
        clear hmo hmo2 hch hB2 hx g0 g1 g2 hbg hbt hturn hm3 hc3 htk hrs hln hlk
        go_wp2_with fail
        go_region
        all_goals
          go_wp2_with fail
          go_roundw
          case rel => exact ⟨k + 1, by omega, by go_num, HM3.out, HC3.out⟩
          case measure => simp [intOf]; omega
    · obtain rfl : k = n := by omega
      have e : l.take k = l := List.take_of_length_le (by rw [HO.out.1]; exact Nat.le_refl _)
      rw [e] at hmo
      go_wp2_with fail
      go_end0
      exact ⟨rfl, hmo, hch⟩
end Go.Proofs.YtdkgkomjbpggeaaGreatDoor.Tb

namespace Go.Proofs.YtdkgkomjbpggeaaGreatDoor.Wr
open Go.RowKit Wm
set_option linter.unusedVariables false
set_option maxRecDepth 100000 in
set_option maxHeartbeats 400000 in
theorem whole_w (s : ByteArray) (w : World) (hs : s.size ≤ 1000000000000000000) :
    Calls Tryz.prog 159 #[.string s] w fun e w' => e = .returned (.tuple #[.int .u64 ((rd s.data.toList).1 : Int), .int .i64 ((rd s.data.toList).2.1 : Int), .int .i64 ((rd s.data.toList).2.2 : Int)]) ∧ w = w' := by
  go_enter Tryz.func159, Tryz.ntmps159
  go_wp2
  go_loop [2, 5] (fun x i => ∃ k : Nat, k ≤ s.size ∧ k ≤ 9 ∧ Hid (k ≤ lead s.data.toList 9) ∧ i = .int .i64 k ∧ x = .int .u64 (pv s.data.toList k : Nat)) (fun _ i => s.size - (intOf i).toNat)
  case atStart => exact ⟨0, Nat.zero_le _, by omega, Nat.zero_le _, rfl, by rw [pv_zero]; rfl⟩
  case round =>
    obtain ⟨k, hk, hk9, hl, rfl, rfl⟩ := hrel
    by_cases hlt : k < s.size
    · by_cases h9 : k = 9
      · subst h9
        go_wp2
        · have h1 : 1 < (s[9].toNat : Int) := by assumption
          go_ret3
          exact ⟨by rw [rd_tenth s hlt hl.out h1]; rfl, rfl⟩
        · have h0 : s[9].toNat = 0 := by assumption
          go_ret3
          exact ⟨by rw [rd_zero s 9 hlt hl.out h0 (by omega)]; rfl, rfl⟩
        · have h0 : ¬ s[9].toNat = 0 := by assumption
          have h1 : (s[9].toNat : Int) ≤ 1 := by assumption
          go_ret3
          refine ⟨?_, rfl⟩
          rw [rd_stop s 9 hlt hl.out (by omega) (fun _ => by omega) (.inr h0)]
          exact ret3 (or_step s.data.toList 9 _ (by rw [len_l]; exact hlt) (by rw [gd s 9 hlt]) (.inr ⟨rfl, by omega⟩)) rfl rfl
      · have h9' : ((k : Int) == 9) = false := by simp; omega
        go_wp2
        · have h1 : 128 ≤ (s[k].toNat : Int) := by assumption
          go_round
          case rel => exact ⟨k + 1, by omega, by omega, lead_more s k hlt (by omega) hl.out h1, by go_num, by rw [or_step s.data.toList k _ (by rw [len_l]; exact hlt) (by rw [gd s k hlt]) (.inl (by omega))]⟩
          case measure => simp [intOf]; omega
        · have h0 : s[k].toNat = 0 := by assumption
          have hp : 0 < k := by assumption
          go_ret3
          exact ⟨by rw [rd_zero s k hlt hl.out h0 hp]; rfl, rfl⟩
        · have h0 : s[k].toNat = 0 := by assumption
          have hp : ¬ 0 < k := by assumption
          go_ret3
          refine ⟨?_, rfl⟩
          rw [rd_stop s k hlt hl.out (by omega) (fun _ => by omega) (.inl (by omega))]
          exact ret3 (or_step s.data.toList k 0 (by rw [len_l]; exact hlt) (by rw [gd s k hlt]; exact h0.symm) (.inl (by omega))) (by simp) rfl
        · have h0 : ¬ s[k].toNat = 0 := by assumption
          have h1 : (s[k].toNat : Int) < 128 := by assumption
          go_ret3
          refine ⟨?_, rfl⟩
          rw [rd_stop s k hlt hl.out (by omega) (fun _ => by omega) (.inr h0)]
          exact ret3 (or_step s.data.toList k _ (by rw [len_l]; exact hlt) (by rw [gd s k hlt]) (.inl (by omega))) (by simp) rfl
    · go_wp2
      go_ret3
      exact ⟨by rw [rd_short s k hlt hl.out]; rfl, rfl⟩
set_option maxRecDepth 100000 in
theorem number_w (s : ByteArray) (w : World) (hs : s.size ≤ 1000000000000000000) :
    Calls Tryz.prog 133 #[.string s] w fun e w' => e = .returned (.tuple #[.int .i64 ((rdU s.data.toList).1 : Int), .int .i64 ((rdU s.data.toList).2.1 : Int), .int .i64 ((rdU s.data.toList).2.2 : Int)]) ∧ w = w' := by
  have c := whole_w s w hs
  rcases rdU_cases s.data.toList with ⟨h, h2⟩ | ⟨h, h2⟩ | ⟨x, n, h2, hx, h⟩ | ⟨x, n, h2, hx, h⟩
  all_goals
    rw [h2] at c
    rw [h]
    clear h h2
    go_enter Tryz.func133, Tryz.ntmps133
    go_wp2_with (go_at_call 159; refine c.mono ?_; rintro e w' ⟨rfl, rfl⟩)
    go_ret3
    exact ⟨rfl, rfl⟩
set_option maxRecDepth 100000 in
theorem text_w (b : Nat) (s : ByteArray) (w : World) (h : Rat w b s) (hs : s.size ≤ 1000000000000000000) :
    Calls Tryz.prog 97 #[.pointer (some ⟨b, 0, none⟩)] w fun e w' => e = .returned (.tuple #[.string (rdT s).1, .int .i64 ((rdT s).2.2 : Int)]) ∧ Rat w' b (s.extract (rdT s).2.1 s.size) ∧ w.grownBy w' (some b) := by
  have c := number_w s w hs
  have hall := rat_set h
  have hsame : Rat w b (s.extract 0 s.size) := by rw [extract_all]; exact h
  obtain ⟨h1, h2⟩ := h
  rcases rdT_cases s with ⟨e, h0, h4, h, h3⟩ | ⟨x, n, h, hn, hx, hxm, h3⟩ | ⟨x, n, h, hn, hx, h3⟩
  · rw [h] at c
    rw [h3]
    have hne : ((e : Int) == 0) = false := by simp; omega
    have hne' : (!((e : Int) == 0)) = true := by simp; omega
    clear h h3 h0
    go_enter Tryz.func97, Tryz.ntmps97
    go_wp2_with (go_at_call 133; refine c.mono ?_; rintro e w' ⟨rfl, rfl⟩)
    go_ret2
    exact ⟨rfl, hsame, grown_refl _ _⟩
  · rw [h] at c
    rw [h3]
    have hlt : (s.size : Int) - n < x := by omega
    have hn' : (n : Int) ≤ s.size := by omega
    clear h h3
    go_enter Tryz.func97, Tryz.ntmps97
    go_wp2_with (go_at_call 133; refine c.mono ?_; rintro e w' ⟨rfl, rfl⟩)
    go_ret2
    exact ⟨rfl, hsame, grown_refl _ _⟩
  · rw [h] at c
    rw [h3]
    have hlt : (x : Int) ≤ (s.size : Int) - n := by omega
    have hn' : (n : Int) ≤ s.size := by omega
    clear h h3
    go_enter Tryz.func97, Tryz.ntmps97
    go_wp2_with (go_at_call 133; refine c.mono ?_; rintro e w' ⟨rfl, rfl⟩)
    go_ret2
    exact ⟨ret2s (front s n x hn hx) rfl, by rw [behind s n x hn hx]; exact hall _, grown_set _ _ _⟩
set_option maxRecDepth 100000 in
theorem left_w (b : Nat) (s : ByteArray) (w : World) (h : Rat w b s) (hs : s.size ≤ 1000000000000000000) :
    Calls Tryz.prog 98 #[.pointer (some ⟨b, 0, none⟩)] w fun e w' => e = .returned (.int .i64 (s.size : Int)) ∧ w = w' := by
  obtain ⟨h1, h2⟩ := h
  go_enter Tryz.func98, Tryz.ntmps98
  go_wp2
  go_ret
  exact ⟨rfl, rfl⟩
end Go.Proofs.YtdkgkomjbpggeaaGreatDoor.Wr
namespace Go.Proofs.YtdkgkomjbpggeaaGreatDoor.Fr
open Go.RowKit Wm Wr Fm
set_option linter.unusedVariables false
set_option maxRecDepth 100000 in
set_option maxHeartbeats 1000000 in
theorem fSum_w (s : ByteArray) (w : World) (hs : s.size ≤ 1000000000000000000) :
    Calls Tryz.prog 108 #[.string s] w fun e w' => e = .returned (.int .u32 (fsum s.data.toList : Nat)) ∧ w = w' := by
  go_enter Tryz.func108, Tryz.ntmps108
  go_wp2
  go_loop [3, 8] (fun c i => ∃ (k C : Nat), k ≤ s.size ∧ i = .int .i64 k ∧ Hid (C = csum 4294967295 (s.data.toList.take k)) ∧ C < 4294967296 ∧ c = .int .u32 (C : Nat)) (fun _ i => s.size - (intOf i).toNat)
  case atStart => exact ⟨0, 4294967295, Nat.zero_le _, rfl, rfl, by decide, rfl⟩
  case round =>
    obtain ⟨k, C, hk, rfl, hC, hlt, rfl⟩ := hrel
    by_cases hks : k < s.size
    · have hb := s[k].toNat_lt
      have hnext := csum_take s k hks
      rw [← hC.out] at hnext
      have hxor := u32_xor_nat C s[k].toNat hlt (by omega)
      have hl := xor_lt (a := C) (b := s[k].toNat) hlt (by omega)
      go_wp2
      obtain ⟨X, hX⟩ : ∃ X, X = s[k].toNat := ⟨_, rfl⟩
      rw [← hX] at hb hnext hl hxor ⊢
      rw [← cbits_byte C X hb] at hnext
      obtain ⟨Z, hZ⟩ : ∃ Z, Z = C ^^^ X := ⟨_, rfl⟩
      rw [← hZ] at hnext hl ⊢
      have HN := Lib.hid hnext
      clear hX hnext hC hZ hxor
      go_loop [3, 5, 17] (fun c g i => ∃ (j D : Nat), j ≤ 8 ∧ i = .int .i64 j ∧ Hid (D = cbits j Z 0) ∧ D < 4294967296 ∧ c = .int .u32 (D : Nat)) (fun _ _ i => 8 - (intOf i).toNat)
      case atStart => exact ⟨0, Z, by omega, rfl, rfl, hl, rfl⟩
      case round =>
        obtain ⟨j, D, hj, rfl, hD, hDl, rfl⟩ := hrel
        by_cases hj8 : j < 8
        · have hnD : cbits (j + 1) Z 0 = cstep D 0 := by rw [cbits_snoc0, ← hD.out]
          have HD := Lib.hid hnD
          have ha := and32 D hDl
          clear hnD hD
          rcases Nat.mod_two_eq_zero_or_one D with hd | hd
          · have HE := Lib.hid (cstep_eq (c := D) (b := 0) hd)
            rw [hd] at ha
            clear hd
            go_wp2
            go_round
            case rel => exact ⟨j + 1, D / 2, by omega, by go_num, by show _ = _; rw [HD.out, HE.out], by omega, by go_num⟩
            case measure => simp [intOf]; omega
          · have HE := Lib.hid (cstep_other (c := D) (b := 0) (by omega))
            have hxor := xor32 (D / 2) (by omega)
            rw [show ((D / 2 : Nat) : Int) = (D : Int) / 2 by omega] at hxor
            have hl2 := xor_lt (a := D / 2) (b := 3988292384) (by omega) (by decide)
            rw [hd] at ha
            clear hd
            go_wp2
            go_round
            case rel => exact ⟨j + 1, _, by omega, by go_num, by show _ = _; rw [HD.out, HE.out], hl2, rfl⟩
            case measure => simp [intOf]; omega
        · obtain rfl : j = 8 := by omega
          go_wp2
          go_round
          case rel => exact ⟨k + 1, D, by omega, by go_num, by show D = _; rw [HN.out, hD.out], hDl, rfl⟩
          case measure => simp [intOf]; omega
    · obtain rfl : k = s.size := by omega
      have hall := csum_all s
      rw [← hC.out] at hall
      have hn := not32 C hlt
      go_wp2
      go_ret
      refine ⟨?_, rfl⟩
      rw [← hall]
      exact ret1 (by omega)
set_option maxRecDepth 100000 in
set_option maxHeartbeats 1000000 in
theorem sumOf_w (s : ByteArray) (w : World) (hs : s.size ≤ 1000000000000000000) :
    Calls Tryz.prog 71 #[.string s] w fun e w' => e = .returned (.string (sum4 s.data.toList)) ∧ Below w.heap.size w w' := by
  have cs := fun W => fSum_w s W hs
  have hFl := fsum_lt s.data.toList
  have hres : Hid ((⟨(le4 (fsum s.data.toList)).toArray⟩ : ByteArray) = sum4 s.data.toList) := rfl
  obtain ⟨F, hF⟩ : ∃ F, F = fsum s.data.toList := ⟨_, rfl⟩
  rw [← hF] at cs hFl hres
  clear hF
  have hcv := lay4_conv w F
  go_enter Tryz.func71, Tryz.ntmps71
  go_wp2_with (go_at_call 108; refine (cs _).mono ?_; rintro e w1 ⟨rfl, rfl⟩)
  go_loopw [5, 8] (fun g i wr => ∃ j : Nat, j ≤ 4 ∧ i = .int .i64 j ∧ wr = w.alloc (.cells (lay4 F j) 155)) (fun _ i _ => 4 - (intOf i).toNat)
  case atStart => exact ⟨0, by omega, rfl, rfl⟩
  case round =>
    obtain ⟨j, hj, rfl, rfl⟩ := hrel
    clear cs
    by_cases hlt : j < 4
    · have hat := lay4_at F j hlt
      obtain rfl | rfl | rfl | rfl : j = 0 ∨ j = 1 ∨ j = 2 ∨ j = 3 := by omega
      all_goals
        go_wp2
        go_roundw
        case measure => simp [intOf]
      · exact ⟨1, by omega, by go_num, put_byte (by omega) (by omega)⟩
      · exact ⟨2, by omega, by go_num, put_byte (by omega) (by omega)⟩
      · exact ⟨3, by omega, by go_num, put_byte (by omega) (by omega)⟩
      · exact ⟨4, by omega, by go_num, put_byte (by omega) (by omega)⟩
    · obtain rfl : j = 4 := by omega
      go_wp2
      go_ret
      exact ⟨by rw [← hres.out]; rfl, (Below.refl _ _).alloc (Nat.le_refl _) _⟩
set_option maxRecDepth 100000 in
set_option maxHeartbeats 1000000 in
theorem fRead_w (s : ByteArray) (a : Int) (w : World) (hs : s.size ≤ 1000000000000000000) (h1 : -9223372036854775808 ≤ a) (h2 : a ≤ 9223372036854775807) :
    Calls Tryz.prog 63 #[.string s, .int .i64 a] w fun e w' => e = .returned (.tuple #[.string (frAt s a).1, .int .i64 (frAt s a).2.1, .int .i64 ((frAt s a).2.2 : Int)]) ∧ Below w.heap.size w w' := by
  by_cases hout : a < 0 ∨ (s.size : Int) < a
  · rw [frAt_out hout]
    by_cases h0 : a < 0
    · clear hout
      go_enter Tryz.func63, Tryz.ntmps63
      go_wp2_with fail
      go_ret3
      exact ⟨rfl, Below.refl _ _⟩
    · have h3 : (s.size : Int) < a := by omega
      clear hout
      go_enter Tryz.func63, Tryz.ntmps63
      go_wp2_with fail
      go_ret3
      exact ⟨rfl, Below.refl _ _⟩
  · obtain ⟨k, rfl⟩ : ∃ k : Nat, a = (k : Int) := ⟨a.toNat, by omega⟩
    have hk : k ≤ s.size := by omega
    have hk' : (k : Int) ≤ s.size := by omega
    have hXs : (s.extract k s.size).size = s.size - k := by simp
    have cn := fun W => new_any (s.extract k s.size) W
    have ct := fun W (h : Rat W w.heap.size (s.extract k s.size)) => text_w w.heap.size (s.extract k s.size) W h (by omega)
    have hR0 := rat_new w (s.extract k s.size)
    clear hout
    rcases fr_e (s.extract k s.size) with ⟨e, h0, h1, h2, h3⟩ | ⟨t, n, h, hn, ht, hlt, h3⟩ | ⟨t, n, h, hn, ht, hne, h3⟩ | ⟨t, n, h, hn, ht, heq, h3⟩
    · obtain ⟨t, n, e', h⟩ := trip (rdT (s.extract k s.size))
      rw [h] at ct h2
      have h2' : e' = e := h2
      subst h2'
      rw [frAt_bad hk h3 h0]
      have hne : ((e' : Int) == 0) = false := by simp; omega
      have hne' : (!((e' : Int) == 0)) = true := by simp; omega
      clear h h3 h2 h0
      go_enter Tryz.func63, Tryz.ntmps63
      go_wp2_with (go_at_call 96; refine (cn _).mono ?_; rintro e w1 ⟨rfl, rfl⟩)
      go_at_call 97
      refine (ct _ hR0).mono ?_
      rintro e w2 ⟨rfl, hR, hg⟩
      have hb := below_at ((Below.refl w.heap.size w).alloc (Nat.le_refl _) _) hg (Nat.le_refl _)
      go_wp2_with fail
      go_ret3
      exact ⟨rfl, hb⟩
    · rw [frAt_bad hk h3 (by omega)]
      rw [h] at ct
      have hL : ((s.extract k s.size).extract n (s.extract k s.size).size).size = (s.extract k s.size).size - n := by simp
      have cl := fun W b h => left_w b ((s.extract k s.size).extract n (s.extract k s.size).size) W h (by omega)
      rw [hL] at cl
      have hlt' : (((s.extract k s.size).size - n : Nat) : Int) < 4 := by omega
      obtain ⟨L, hL2⟩ : ∃ L, L = (s.extract k s.size).size - n := ⟨_, rfl⟩
      rw [← hL2] at cl hlt'
      clear h h3 hL hL2
      go_enter Tryz.func63, Tryz.ntmps63
      go_wp2_with (go_at_call 96; refine (cn _).mono ?_; rintro e w1 ⟨rfl, rfl⟩)
      go_at_call 97
      refine (ct _ hR0).mono ?_
      rintro e w2 ⟨rfl, hR, hg⟩
      have hb := below_at ((Below.refl w.heap.size w).alloc (Nat.le_refl _) _) hg (Nat.le_refl _)
      go_wp2_with (go_at_call 98; refine (cl _ _ hR).mono ?_; rintro e w3 ⟨rfl, rfl⟩)
      go_ret3
      exact ⟨rfl, hb⟩
    · rw [frAt_bad hk h3 (by omega)]
      have hne2 : (s.extract k s.size).extract n (n + 4) ≠ sum4 t.data.toList := fun h4 => hne ((pk_iff h).2 h4)
      rw [within s k n (by omega)] at hne2
      rw [h] at ct
      have hL : ((s.extract k s.size).extract n (s.extract k s.size).size).size = (s.extract k s.size).size - n := by simp
      have cl := fun W b h => left_w b ((s.extract k s.size).extract n (s.extract k s.size).size) W h (by omega)
      rw [hL] at cl
      obtain ⟨L, hL2⟩ : ∃ L, L = (s.extract k s.size).size - n := ⟨_, rfl⟩
      rw [← hL2] at cl
      have hL3 : 4 ≤ (L : Int) := by omega
      have hL4 : (s.size : Int) - (L : Int) = ((k + n : Nat) : Int) := by omega
      have hw : IntKind.i64.wrap (((k + n : Nat) : Int)) = ((k + n : Nat) : Int) := IntWalk.i64_in _ (by omega)
      have hw2 : IntKind.i64.wrap (((k + n : Nat) : Int) + 4) = ((k + n : Nat) : Int) + 4 := IntWalk.i64_in _ (by omega)
      have hx := bytes_ne hne2
      have csu := fun W => sumOf_w t W (by omega)
      obtain ⟨Q, hQ⟩ : ∃ Q, Q = sum4 t.data.toList := ⟨_, rfl⟩
      rw [← hQ] at hx csu
      have hle : ((k + n : Nat) : Int) + 4 ≤ s.size := by omega
      clear h h3 hL hL2 hne hne2 hQ
      go_enter Tryz.func63, Tryz.ntmps63
      go_wp2_with (go_at_call 96; refine (cn _).mono ?_; rintro e w1 ⟨rfl, rfl⟩)
      go_at_call 97
      refine (ct _ hR0).mono ?_
      rintro e w2 ⟨rfl, hR, hg⟩
      have hb := below_at ((Below.refl w.heap.size w).alloc (Nat.le_refl _) _) hg (Nat.le_refl _)
      go_wp2_with (go_at_call 98; refine (cl _ _ hR).mono ?_; rintro e w3 ⟨rfl, rfl⟩)
      go_region_with ((go_at_call 71; refine (csu _).mono ?_; rintro e w1 ⟨rfl, hb1⟩))
      all_goals
        go_wp2_with fail
        go_ret3
        exact ⟨rfl, below_call hb.drew hb1⟩
    · rw [frAt_ok hk h3]
      have hne2 : (s.extract k s.size).extract n (n + 4) = sum4 t.data.toList := (pk_iff h).1 heq
      rw [within s k n (by omega)] at hne2
      rw [h] at ct
      have hL : ((s.extract k s.size).extract n (s.extract k s.size).size).size = (s.extract k s.size).size - n := by simp
      have cl := fun W b h => left_w b ((s.extract k s.size).extract n (s.extract k s.size).size) W h (by omega)
      rw [hL] at cl
      obtain ⟨L, hL2⟩ : ∃ L, L = (s.extract k s.size).size - n := ⟨_, rfl⟩
      rw [← hL2] at cl
      have hL3 : 4 ≤ (L : Int) := by omega
      have hL4 : (s.size : Int) - (L : Int) = ((k + n : Nat) : Int) := by omega
      have hw : IntKind.i64.wrap (((k + n : Nat) : Int)) = ((k + n : Nat) : Int) := IntWalk.i64_in _ (by omega)
      have hw2 : IntKind.i64.wrap (((k + n : Nat) : Int) + 4) = ((k + n : Nat) : Int) + 4 := IntWalk.i64_in _ (by omega)
      have hx : ((s.extract (k + n) (k + n + 4)).toList == (sum4 t.data.toList).toList) = true := by rw [hne2]; exact beq_self_eq_true _
      have csu := fun W => sumOf_w t W (by omega)
      obtain ⟨Q, hQ⟩ : ∃ Q, Q = sum4 t.data.toList := ⟨_, rfl⟩
      rw [← hQ] at hx csu
      have hle : ((k + n : Nat) : Int) + 4 ≤ s.size := by omega
      clear h h3 hL hL2 heq hne2 hQ
      go_enter Tryz.func63, Tryz.ntmps63
      go_wp2_with (go_at_call 96; refine (cn _).mono ?_; rintro e w1 ⟨rfl, rfl⟩)
      go_at_call 97
      refine (ct _ hR0).mono ?_
      rintro e w2 ⟨rfl, hR, hg⟩
      have hb := below_at ((Below.refl w.heap.size w).alloc (Nat.le_refl _) _) hg (Nat.le_refl _)
      go_wp2_with (go_at_call 98; refine (cl _ _ hR).mono ?_; rintro e w3 ⟨rfl, rfl⟩)
      go_region_with ((go_at_call 71; refine (csu _).mono ?_; rintro e w1 ⟨rfl, hb1⟩))
      all_goals
        go_wp2_with fail
        go_ret3
        exact ⟨ret3s rfl (by omega) rfl, below_call hb.drew hb1⟩
set_option maxRecDepth 100000 in
set_option maxHeartbeats 1000000 in
theorem fScan_w (s : ByteArray) (w : World) (hs : s.size ≤ 1000000000000000000) (hk : (sc s 0).1.length ≤ 10000000000) :
    Calls Tryz.prog 136 #[.string s] w (ScanTo s w) := by
  obtain ⟨i0, hi, hz0, hz1, hz2⟩ := info_parts info9
  go_enter Tryz.func136, Tryz.ntmps136
  go_wp2_with fail
  go_loopw [2, 3, 5, 6, 7] (fun v i _ _ _ wr => ∃ (pre : List ByteArray) (a : Nat), i = .int .i64 a ∧ Far s pre a ∧ Texts wr w.heap.size v pre ∧ Below w.heap.size w wr) (fun _ i _ _ _ _ => s.size - (intOf i).toNat)
  case atStart => exact ⟨[], 0, rfl, far_start s, World.ownsRow_nil _ _ _ _, Below.refl _ _⟩
  case round =>
    obtain ⟨pre, a, rfl, hfar, htx, hb⟩ := hrel
    have ha := hfar.2.1
    have hp := hfar.2.2
    have hsz := hb.size
    by_cases hlt : a < s.size
    · obtain ⟨t, n, e, h2⟩ := trip (fr (s.extract a s.size))
      have c := fRead_w s a wr (by omega) (by omega) (by omega)
      have ha' : (a : Int) ≤ s.size := by omega
      by_cases he : e = 0
      · subst he
        rw [frAt_ok ha h2] at c
        simp only at c
        have hfar' := far_step hfar hlt h2
        have hn := (fr_ok h2).2.1
        have ha2 := hfar'.2.1
        have hmore : pre.length + 1 ≤ 10000000000 := by
          have h5 := congrArg (fun q => q.1.length) hfar'.1
          simp only [List.length_append, List.length_cons, List.length_nil] at h5
          omega
        have HF := Lib.hid hfar'
        clear hfar hfar' h2
        go_wp2_with fail
        go_at_call 63
        refine c.mono ?_
        rintro e w1 ⟨rfl, hb1⟩
        have htx1 := htx.below hb1
        have hb2 := below_call hb hb1
        have hsz2 := hb2.size
        have hown := htx1
        unfold Texts at hown
        clear htx htx1 hb1 hb c
        go_wp2_with (at_builtin; refine wpList_append_own _ rfl _ _ 52 rfl w.heap.size 9 i0 (.string ⟨#[]⟩) 1 16 Tryz.underlying52 hi hz0 hz1 hz2 rfl (by decide) _ _ _ rfl (hown.alloc _) ⟨w1.heap.size, 0, none⟩ 1 1 [sv t] rfl rfl ?c1 ?c2 ?c3 ?c4 ?c5 ?_)
        case c1 => exact cell_one_new _ _ _
        case c2 => exact sv_one [t]
        case c3 => have := hmore; unfold maxLen; omega
        case c4 => have := hmore; omega
        case c5 => have := hmore; simp; omega
        intro v' w2 hown' hgrow _
        have hb3 := below_step hb2 hown hgrow
        have htx2 : Texts w2 w.heap.size v' (pre ++ [t]) := by
          unfold Texts
          rw [List.length_append, List.map_append]
          exact hown'
        clear hown hown' hgrow hb2
        go_wp2_with fail
        go_roundw
        case rel => exact ⟨pre ++ [t], a + n, by go_num, HF.out, htx2, hb3⟩
        case measure => simp only [intOf]; omega
      · have hend := far_bad hfar hlt h2 he
        rw [frAt_bad ha h2 he] at c
        have hne : ((e : Int) == 0) = false := by simp; omega
        have hne' : (!((e : Int) == 0)) = true := by simp; omega
        have HE := Lib.hid hend
        clear hfar h2 hend he
        go_wp2_with fail
        go_at_call 63
        refine c.mono ?_
        rintro e w1 ⟨rfl, hb1⟩
        have htx1 := htx.below hb1
        have hb2 := below_call hb hb1
        clear htx hb hb1 c
        go_wp2_with fail
        go_ret3
        unfold ScanTo
        rw [HE.out]
        exact ⟨_, rfl, htx1, hb2⟩
    · have hend := far_end hfar hlt
      have HE := Lib.hid hend
      clear hfar hend
      go_wp2_with fail
      go_ret3
      unfold ScanTo
      rw [HE.out]
      exact ⟨_, rfl, htx, hb⟩
end Go.Proofs.YtdkgkomjbpggeaaGreatDoor.Fr

namespace Go.Proofs.YtdkgkomjbpggeaaGreatDoor.Dk
open Go.RowKit Tx Pm Pl Pr
set_option linter.unusedVariables false
def Cap (w : World) (g : Nat) (v : Value) : Prop := w.cell? ⟨g, 0, none⟩ = some v
set_option maxRecDepth 100000 in
theorem iMkdirC_any (b bi bl bd bp : Nat) (l : Int) (s : St) (p : ByteArray) (w : World) (h : Ia b bi bl l w s) (hd : Cap w bd (.pointer (some ⟨b, 0, none⟩))) (hp : Cap w bp (.string p)) (hps : p.size ≤ 8000000000000) (hn : s.L.length ≤ 1000000000) :
    Calls Tryz.prog 61 #[.pointer (some ⟨bd, 0, none⟩), .pointer (some ⟨bp, 0, none⟩)] w fun e w' => e = .returned (.tuple #[]) ∧ Ip b bi bl w { s with L := ins s.L ⟨p, true, ⟨#[]⟩, ⟨#[]⟩, false, false, 0⟩ } w' := by
  obtain ⟨c0, _⟩ := h.cell
  unfold Cap at hd hp
  have h0 := h.below (Below.refl _ w).drew
  obtain ⟨w1, hrun, hm, ht⟩ := h0.items.store (x := ⟨p, true, ⟨#[]⟩, ⟨#[]⟩, false, false, 0⟩) (maxLen_of hps) (by unfold maxLen; omega)
  have hend : Ip b bi bl w { s with L := ins s.L ⟨p, true, ⟨#[]⟩, ⟨#[]⟩, false, false, 0⟩ } w1 := ⟨l, h0.turned hm ht, (Chg.of_below (Below.refl _ w).drew).then ((turned_chg ht).mono ft_i)⟩
  have HE := Lib.hid hend
  clear h h0 hm ht hend
  have hrun : (Instr.mapUpdate 59 (.map (some bi)) (.string p) (.agg #[.int .i64 1, .string ⟨#[]⟩, .string ⟨#[]⟩, .int .i64 0, .int .i64 0])).run Tryz.prog w.drew = .ok () w1 := hrun
  go_enter Tryz.func61, Tryz.ntmps61
  go_region
  all_goals (go_end0; exact ⟨rfl, HE.out⟩)
theorem own_cells {b bi bl : Nat} {l : Int} {w : World} {s : St} (h : Ia b bi bl l w s) (k : Nat) (u : Value) {cs : Array Value} (hk : (#[.map (some bi), .map (some bl), .int .i64 l, .int .i64 s.steps, .int .i64 s.stamps, .bool s.down] : Array Value).setIfInBounds k u = cs) :
    (w.setCell ⟨b, k, none⟩ u).heap[b]? = some (.cells cs 62 (0, 0)) := by
  rw [set_block h.blk, hk]
set_option maxRecDepth 100000 in
theorem iSet_any (b bi bl : Nat) (l : Int) (s : St) (x : It) (N : Int) (p : ByteArray) (w : World) (h : Ia b bi bl l w s) (hxp : x.path = p) (hps : p.size ≤ 8000000000000) (hn : s.L.length ≤ 1000000000) (hst : s.stamps ≤ 1000000000000) :
    Calls Tryz.prog 115 #[.pointer (some ⟨b, 0, none⟩), .string p, .agg #[.int .i64 (kOf x), .string x.data, .string x.kept, .int .i64 (stOf x), .int .i64 N]] w fun e w' => e = .returned (.tuple #[]) ∧ Ip b bi bl w (putS s x) w' := by
  obtain ⟨c0, c1, c2, c3, c4, c5⟩ := h.cell
  have hwm := h.warm
  have hbl : b < w.heap.size := h.lt b (.inl rfl)
  have a1 : Ia b bi bl l (w.setCell ⟨b, 4, none⟩ (.int .i64 ((s.stamps : Int) + 1))) { s with stamps := s.stamps + 1 } :=
    h.poke (chg_set _) (own_cells h 4 _ rfl) rfl rfl h.left h.low
  have hc1 : Chg (Ft b bi bl) w (w.setCell ⟨b, 4, none⟩ (.int .i64 ((s.stamps : Int) + 1))) := (chg_set _).mono ft_b
  have hB2 := ((Below.refl _ (w.setCell ⟨b, 4, none⟩ (.int .i64 ((s.stamps : Int) + 1)))).alloc (Nat.le_refl _) (.cells #[.int .i64 (kOf x), .string x.data, .string x.kept, .int .i64 (stOf x), .int .i64 ((s.stamps : Int) + 1)] 112)).drew
  have a2 := a1.below hB2
  obtain ⟨w3, hrun, hm, ht⟩ := a2.items.store (x := stamped s x) (by rw [show (stamped s x).path = p from hxp]; exact maxLen_of hps) (by unfold maxLen; show s.L.length < _; omega)
  have hrun : (Instr.mapUpdate 59 (.map (some bi)) (.string p) (.agg #[.int .i64 (kOf x), .string x.data, .string x.kept, .int .i64 (stOf x), .int .i64 ((s.stamps : Int) + 1)])).run Tryz.prog
      ((w.setCell ⟨b, 4, none⟩ (.int .i64 ((s.stamps : Int) + 1))).alloc (.cells #[.int .i64 (kOf x), .string x.data, .string x.kept, .int .i64 (stOf x), .int .i64 ((s.stamps : Int) + 1)] 112)).drew = .ok () w3 := by
    rw [← hxp]
    exact hrun
  have hend : Ip b bi bl w (putS s x) w3 := ⟨l, a2.turned hm ht, (hc1.then (Chg.of_below hB2 |>.mono (fun _ hi => hi))).then ((turned_chg ht).mono ft_i)⟩
  have HE := Lib.hid hend
  generalize kOf x = K at hrun ⊢
  generalize stOf x = T at hrun ⊢
  clear h a1 a2 hc1 hB2 hm ht hend hxp
  go_enter Tryz.func115, Tryz.ntmps115
  go_wp2
  go_region
  all_goals (go_end0; exact ⟨rfl, HE.out⟩)
end Go.Proofs.YtdkgkomjbpggeaaGreatDoor.Dk

namespace Go.Proofs.YtdkgkomjbpggeaaGreatDoor.Dk
open Go.RowKit Tx Pm Pl Pr
set_option linter.unusedVariables false
def stepR (s : St) (r : Nat) (s' : St) : Nat × St := if r ≠ 0 then (r, s) else if (done s).1 ≠ 0 then done s else (0, s')
set_option maxRecDepth 100000 in
theorem iStep_any (b bi bl : Nat) (l : Int) (s : St) (r : Nat) (f : FuncId) (cap : Array Value) (s' : St) (w : World) (h : Ia b bi bl l w s) (hd : r = 0 → s.down = false) (hst : s.steps ≤ 1000000000000)
    (hen : ∀ W, (callFunc f cap).run Tryz.prog W = .ok (.enter f cap) W)
    (cf : ∀ l1 W, r = 0 → (done s).1 = 0 → Ia b bi bl l1 W (done s).2 → Chg (· = b) w W → Calls Tryz.prog f cap W fun e w' => e = .returned (.tuple #[]) ∧ Ip b bi bl W s' w') :
    Calls Tryz.prog 59 #[.pointer (some ⟨b, 0, none⟩), .int .i64 r, .func (.func f) #[] cap] w fun e w' => e = .returned (.int .i64 ((stepR s r s').1 : Nat)) ∧ Ip b bi bl w (stepR s r s').2 w' := by
  obtain ⟨c0, c1, c2, c3, c4, c5⟩ := h.cell
  have hwm := h.warm
  have hlow := h.low
  unfold stepR
  by_cases hr : r = 0
  · subst hr
    rw [if_neg (by decide)]
    have hdn := hd rfl
    have hla : l = s.armed := h.left.resolve_left (by rw [hdn]; decide)
    by_cases h0 : l = 0
    · have hD : done s = (14, { s with down := true, armed := -1 }) := by unfold done; rw [if_pos (by omega)]
      rw [hD, if_pos (fun e => by cases e)]
      subst h0
      have a1 : Ia b bi bl 0 (w.setCell ⟨b, 5, none⟩ (.bool true)) { s with down := true, armed := -1 } := h.poke (chg_set _) (own_cells h 5 _ rfl) rfl rfl (.inl rfl) h.low
      have HE := Lib.hid (show Ip b bi bl w { s with down := true, armed := -1 } (w.setCell ⟨b, 5, none⟩ (.bool true)) from ⟨0, a1, (chg_set _).mono ft_b⟩)
      clear a1 h hd hD hla cf
      go_enter Tryz.func59, Tryz.ntmps59
      go_wp2
      go_ret
      exact ⟨rfl, HE.out⟩
    · have hD : done s = (0, { s with armed := if s.armed > 0 then s.armed - 1 else s.armed, steps := s.steps + 1 }) := by unfold done; rw [if_neg (by omega)]
      rw [hD] at cf
      rw [hD, if_neg (fun e => e rfl)]
      have e0 : (l == 0) = false := beq_eq_false_iff_ne.2 h0
      by_cases hl1 : l = -1
      · have hl2 : (-1 : Int) = s.armed := hl1 ▸ hla
        subst hl1
        have hx1 : max ((-1 : Int) - 1) (-1) = -1 := by omega
        have hx2 : max (-2 : Int) (-1) = -1 := by omega
        have hb1 : (w.setCell ⟨b, 2, none⟩ (.int .i64 (-1))).heap[b]? = some (.cells #[.map (some bi), .map (some bl), .int .i64 (-1), .int .i64 s.steps, .int .i64 s.stamps, .bool s.down] 62 (0, 0)) := own_cells h 2 _ rfl
        have hb2 : ((w.setCell ⟨b, 2, none⟩ (.int .i64 (-1))).setCell ⟨b, 3, none⟩ (.int .i64 ((s.steps : Int) + 1))).heap[b]? = some (.cells #[.map (some bi), .map (some bl), .int .i64 (-1), .int .i64 ((s.steps : Int) + 1), .int .i64 s.stamps, .bool s.down] 62 (0, 0)) := set_block hb1 _
        have hc2 : Chg (· = b) w ((w.setCell ⟨b, 2, none⟩ (.int .i64 (-1))).setCell ⟨b, 3, none⟩ (.int .i64 ((s.steps : Int) + 1))) := (chg_set _).then (chg_set _)
        have a2 : Ia b bi bl (-1) _ { s with armed := if s.armed > 0 then s.armed - 1 else s.armed, steps := s.steps + 1 } := h.poke hc2 hb2 rfl rfl (.inr (by show _ = (if s.armed > 0 then s.armed - 1 else s.armed); split <;> omega)) (by omega)
        have cf2 := cf (-1) _ rfl rfl a2 hc2
        have HC := Lib.hid hc2
        have g3 : (w.setCell ⟨b, 2, none⟩ (.int .i64 (-1))).cell? ⟨b, 3, none⟩ = some (.int .i64 s.steps) := by unfold World.cell?; rw [hb1]; rfl
        clear hl2 a2 h hd hD hla cf hc2 hb1 hb2 h0
        go_enter Tryz.func59, Tryz.ntmps59
        go_wp2_with fail
        refine cf2.mono ?_
        rintro e w5 ⟨rfl, l5, hat5, hc5⟩
        go_wp2
        go_ret
        exact ⟨rfl, l5, hat5, (HC.out.mono ft_b).then hc5⟩
      · have hl2 : 1 ≤ l := by omega
        have hx1 : max (l - 1) (-1) = l - 1 := by omega
        have hb1 : (w.setCell ⟨b, 2, none⟩ (.int .i64 (l - 1))).heap[b]? = some (.cells #[.map (some bi), .map (some bl), .int .i64 (l - 1), .int .i64 s.steps, .int .i64 s.stamps, .bool s.down] 62 (0, 0)) := own_cells h 2 _ rfl
        have hb2 : ((w.setCell ⟨b, 2, none⟩ (.int .i64 (l - 1))).setCell ⟨b, 3, none⟩ (.int .i64 ((s.steps : Int) + 1))).heap[b]? = some (.cells #[.map (some bi), .map (some bl), .int .i64 (l - 1), .int .i64 ((s.steps : Int) + 1), .int .i64 s.stamps, .bool s.down] 62 (0, 0)) := set_block hb1 _
        have hc2 : Chg (· = b) w ((w.setCell ⟨b, 2, none⟩ (.int .i64 (l - 1))).setCell ⟨b, 3, none⟩ (.int .i64 ((s.steps : Int) + 1))) := (chg_set _).then (chg_set _)
        have a2 : Ia b bi bl (l - 1) _ { s with armed := if s.armed > 0 then s.armed - 1 else s.armed, steps := s.steps + 1 } := h.poke hc2 hb2 rfl rfl (.inr (by show _ = (if s.armed > 0 then s.armed - 1 else s.armed); split <;> omega)) (by omega)
        have cf2 := cf (l - 1) _ rfl rfl a2 hc2
        have HC := Lib.hid hc2
        have g3 : (w.setCell ⟨b, 2, none⟩ (.int .i64 (l - 1))).cell? ⟨b, 3, none⟩ = some (.int .i64 s.steps) := by unfold World.cell?; rw [hb1]; rfl
        clear hl1 a2 h hd hD hla cf hc2 hb1 hb2 h0
        go_enter Tryz.func59, Tryz.ntmps59
        go_wp2_with fail
        refine cf2.mono ?_
        rintro e w5 ⟨rfl, l5, hat5, hc5⟩
        go_wp2
        go_ret
        exact ⟨rfl, l5, hat5, (HC.out.mono ft_b).then hc5⟩
  · rw [if_pos hr]
    have e0 : ((r : Int) == 0) = false := beq_eq_false_iff_ne.2 (by omega)
    have HE := Lib.hid (show Ip b bi bl w s w from ⟨l, h, Chg.refl _ _⟩)
    clear h hd cf hr
    go_enter Tryz.func59, Tryz.ntmps59
    go_wp2
    go_ret
    exact ⟨rfl, HE.out⟩
end Go.Proofs.YtdkgkomjbpggeaaGreatDoor.Dk

namespace Go.Proofs.YtdkgkomjbpggeaaGreatDoor.Rg
open Go.RowKit
set_option linter.unusedVariables false
section
variable {P : Program} {ops : Array Oper} {R : Act → World → Prop} {S : World → Prop}
theorem y_look {o : Oper} {a : Act} {T : TypeId} {x y : Operand} {c : Bool} {vx vy v : Value} (ho : o.op = .lookup T x y c) (hx : a.eval x = vx) (hy : a.eval y = vy)
    (hv : ∀ w, S w → (Instr.lookup T vx vy c).run P w = .ok v w) : ∀ w, S w → (execOp a.eval o).run P w = .ok (.value v) w := by
  intro w hw
  obtain ⟨dst, op, ty, pos, after, guard⟩ := o
  simp only at ho
  subst ho
  have := hv w hw
  simp only [execOp, hx, hy, Sem.run_bind]
  rw [this]
  rfl
theorem y_fld {o : Oper} {a : Act} {T : TypeId} {k : Nat} {x : Operand} {vx v : Value} (ho : o.op = .field T x k) (hx : a.eval x = vx)
    (hv : ∀ w, S w → (Instr.field T vx k).run P w = .ok v w) : ∀ w, S w → (execOp a.eval o).run P w = .ok (.value v) w := by
  intro w hw
  obtain ⟨dst, op, ty, pos, after, guard⟩ := o
  simp only at ho
  subst ho
  have := hv w hw
  simp only [execOp, hx, Sem.run_bind]
  rw [this]
  rfl
theorem y_func {o : Oper} {a : Act} {f : Fn} {xs ys : Array Operand} {vs us : Array Value} (ho : o.op = .makeFunc f xs ys) (hx : xs.map a.eval = vs) (hy : ys.map a.eval = us) : ∀ w, S w → (execOp a.eval o).run P w = .ok (.value (.func f vs us)) w := by
  intro w hw
  obtain ⟨dst, op, ty, pos, after, guard⟩ := o
  simp only at ho
  subst ho
  subst hx
  subst hy
  rfl
end
end Go.Proofs.YtdkgkomjbpggeaaGreatDoor.Rg

namespace Go.Proofs.YtdkgkomjbpggeaaGreatDoor.Dk
open Go.RowKit Tx Pm Pl Pr
set_option linter.unusedVariables false
set_option maxRecDepth 100000 in
set_option maxHeartbeats 2000000 in
theorem regMkdir (ops : Array Oper) (hops : ops = (Rg.opsOf Tryz.f25 1)) (id : Nat) (bd bp : Nat) (dv : Value) (p : ByteArray) (r X : Nat) {u0 u1 u4 u5 u6 u7 u8 u9 u10 : Value} (w : World) (A B : World → Prop)
    (hS : (fun W => Cap W bd dv ∧ Cap W bp (.string p)) w.drew) (hm : Calls Tryz.prog 60 #[dv, .string p] w.drew fun e w' => e = .returned (.int .i64 (r : Nat)) ∧ A w') (hAS : ∀ W, A W → (fun W => Cap W bd dv ∧ Cap W bp (.string p)) W)
    (hst : ∀ W, A W → Calls Tryz.prog 59 #[dv, .int .i64 (r : Nat), .func (.func 61) #[] #[.pointer (some ⟨bd, 0, none⟩), .pointer (some ⟨bp, 0, none⟩)]] W fun e w' => e = .returned (.int .i64 (X : Nat)) ∧ B w') (hBS : ∀ W, B W → (fun W => Cap W bd dv ∧ Cap W bp (.string p)) W) :
    (Code.region id ops true).wp Tryz.prog (Rg.Only fun a' w' => a' = ⟨#[u0, u1, (.pointer (some ⟨bd, 0, none⟩)), (.pointer (some ⟨bp, 0, none⟩)), (.int .i64 (X : Nat)), dv, dv, (.string p), (.int .i64 (r : Nat)), .func (Fn.func 61) #[] #[(.pointer (some ⟨bd, 0, none⟩)), (.pointer (some ⟨bp, 0, none⟩))], (.int .i64 (X : Nat))], []⟩ ∧ B w') ⟨#[u0, u1, (.pointer (some ⟨bd, 0, none⟩)), (.pointer (some ⟨bp, 0, none⟩)), u4, u5, u6, u7, u8, u9, u10], []⟩ w := by
  subst hops
  have hNS : Region.noSelect (Rg.opsOf Tryz.f25 1) = true := by kernel_rfl
  refine wp_region_held_drew (S := (fun W => Cap W bd dv ∧ Cap W bp (.string p))) (by kernel_rfl) hS (fun hHeld => ?_)
  rw [show (Rg.opsOf Tryz.f25 1).size = 7 by kernel_rfl]
  refine Rg.take (ops := (Rg.opsOf Tryz.f25 1)) 0 (some 5) (dv) hNS (by kernel_rfl) (by kernel_rfl) (by kernel_rfl) (by kernel_rfl) (by kernel_rfl) hHeld (Rg.y_load (T := 23) (x := (Operand.tmp 2)) (vx := (.pointer (some ⟨bd, 0, none⟩))) (by kernel_rfl) (by kernel_rfl) ?_) ?_
  · (intro w hSw; obtain ⟨s0, s1⟩ := hSw; unfold Cap at *; go_simp)
  refine Rg.take (ops := (Rg.opsOf Tryz.f25 1)) 1 (some 6) (dv) hNS (by kernel_rfl) (by kernel_rfl) (by kernel_rfl) (by kernel_rfl) (by kernel_rfl) hHeld (Rg.y_load (T := 23) (x := (Operand.tmp 2)) (vx := (.pointer (some ⟨bd, 0, none⟩))) (by kernel_rfl) (by kernel_rfl) ?_) ?_
  · (intro w hSw; obtain ⟨s0, s1⟩ := hSw; unfold Cap at *; go_simp)
  refine Rg.take (ops := (Rg.opsOf Tryz.f25 1)) 2 (some 7) ((.string p)) hNS (by kernel_rfl) (by kernel_rfl) (by kernel_rfl) (by kernel_rfl) (by kernel_rfl) hHeld (Rg.y_load (T := 9) (x := (Operand.tmp 3)) (vx := (.pointer (some ⟨bp, 0, none⟩))) (by kernel_rfl) (by kernel_rfl) ?_) ?_
  · (intro w hSw; obtain ⟨s0, s1⟩ := hSw; unfold Cap at *; go_simp)
  refine Rg.take (ops := (Rg.opsOf Tryz.f25 1)) 4 (some 9) (.func (Fn.func 61) #[] #[(.pointer (some ⟨bd, 0, none⟩)), (.pointer (some ⟨bp, 0, none⟩))]) hNS (by kernel_rfl) (by kernel_rfl) (by kernel_rfl) (by kernel_rfl) (by kernel_rfl) hHeld (Rg.y_func (f := Fn.func 61) (xs := #[]) (ys := #[Operand.tmp 2, Operand.tmp 3]) (vs := #[]) (us := #[(.pointer (some ⟨bd, 0, none⟩)), (.pointer (some ⟨bp, 0, none⟩))]) (by kernel_rfl) (by kernel_rfl) (by kernel_rfl)) ?_
  refine Rg.call (ops := (Rg.opsOf Tryz.f25 1)) (fn := Tryz.f60) (xs := #[Operand.tmp 6, Operand.tmp 7]) (ats := #[23, 9]) 3 (some 8) 60 #[dv, (.string p)] (by kernel_rfl) (by kernel_rfl) (by kernel_rfl) (by kernel_rfl) (by kernel_rfl) Tryz.func60 (by kernel_rfl) (by kernel_rfl) (by kernel_rfl) ?_
  refine hm.mono ?_
  rintro e w5 ⟨rfl, hA5⟩
  refine ⟨_, rfl, hAS _ hA5, fun hHeld => ?_⟩
  refine Rg.call (ops := (Rg.opsOf Tryz.f25 1)) (fn := Tryz.f59) (xs := #[Operand.tmp 5, Operand.tmp 8, Operand.tmp 9]) (ats := #[23, 26, 1]) 5 (some 10) 59 #[dv, (.int .i64 (r : Nat)), .func (Fn.func 61) #[] #[(.pointer (some ⟨bd, 0, none⟩)), (.pointer (some ⟨bp, 0, none⟩))]] (by kernel_rfl) (by kernel_rfl) (by kernel_rfl) (by kernel_rfl) (by kernel_rfl) Tryz.func59 (by kernel_rfl) (by kernel_rfl) (by kernel_rfl) ?_
  refine (hst _ hA5).mono ?_
  rintro e w6 ⟨rfl, hB6⟩
  refine ⟨_, rfl, hBS _ hB6, fun hHeld => ?_⟩
  refine Rg.take (ops := (Rg.opsOf Tryz.f25 1)) 6 (some 4) ((.int .i64 (X : Nat))) hNS (by kernel_rfl) (by kernel_rfl) (by kernel_rfl) (by kernel_rfl) (by kernel_rfl) hHeld (Rg.y_move (x := (Operand.tmp 10)) (Or.inr (by kernel_rfl)) (by kernel_rfl)) ?_
  refine Rg.done (ops := (Rg.opsOf Tryz.f25 1)) (by kernel_rfl) ?_
  exact ⟨by kernel_rfl, hB6⟩
set_option maxRecDepth 100000 in
set_option maxHeartbeats 2000000 in
theorem regWrite (ops : Array Oper) (hops : ops = (Rg.opsOf Tryz.f118 1)) (id : Nat) (bd bp bq : Nat) (dv : Value) (p q : ByteArray) (r X : Nat) {u0 u1 u2 u6 u7 u8 u9 u10 u11 u12 u13 : Value} (w : World) (A B : World → Prop)
    (hS : (fun W => Cap W bd dv ∧ Cap W bp (.string p) ∧ Cap W bq (.string q)) w.drew) (hm : Calls Tryz.prog 147 #[dv, .string p, .string q] w.drew fun e w' => e = .returned (.int .i64 (r : Nat)) ∧ A w') (hAS : ∀ W, A W → (fun W => Cap W bd dv ∧ Cap W bp (.string p) ∧ Cap W bq (.string q)) W)
    (hst : ∀ W, A W → Calls Tryz.prog 59 #[dv, .int .i64 (r : Nat), .func (.func 148) #[] #[.pointer (some ⟨bd, 0, none⟩), .pointer (some ⟨bp, 0, none⟩), .pointer (some ⟨bq, 0, none⟩)]] W fun e w' => e = .returned (.int .i64 (X : Nat)) ∧ B w') (hBS : ∀ W, B W → (fun W => Cap W bd dv ∧ Cap W bp (.string p) ∧ Cap W bq (.string q)) W) :
    (Code.region id ops true).wp Tryz.prog (Rg.Only fun a' w' => a' = ⟨#[u0, u1, u2, (.pointer (some ⟨bd, 0, none⟩)), (.pointer (some ⟨bp, 0, none⟩)), (.pointer (some ⟨bq, 0, none⟩)), (.int .i64 (X : Nat)), dv, dv, (.string p), (.string q), (.int .i64 (r : Nat)), .func (Fn.func 148) #[] #[(.pointer (some ⟨bd, 0, none⟩)), (.pointer (some ⟨bp, 0, none⟩)), (.pointer (some ⟨bq, 0, none⟩))], (.int .i64 (X : Nat))], []⟩ ∧ B w') ⟨#[u0, u1, u2, (.pointer (some ⟨bd, 0, none⟩)), (.pointer (some ⟨bp, 0, none⟩)), (.pointer (some ⟨bq, 0, none⟩)), u6, u7, u8, u9, u10, u11, u12, u13], []⟩ w := by
  subst hops
  have hNS : Region.noSelect (Rg.opsOf Tryz.f118 1) = true := by kernel_rfl
  refine wp_region_held_drew (S := (fun W => Cap W bd dv ∧ Cap W bp (.string p) ∧ Cap W bq (.string q))) (by kernel_rfl) hS (fun hHeld => ?_)
  rw [show (Rg.opsOf Tryz.f118 1).size = 8 by kernel_rfl]
  refine Rg.take (ops := (Rg.opsOf Tryz.f118 1)) 0 (some 7) (dv) hNS (by kernel_rfl) (by kernel_rfl) (by kernel_rfl) (by kernel_rfl) (by kernel_rfl) hHeld (Rg.y_load (T := 23) (x := (Operand.tmp 3)) (vx := (.pointer (some ⟨bd, 0, none⟩))) (by kernel_rfl) (by kernel_rfl) ?_) ?_
  · (intro w hSw; obtain ⟨s0, s1, s2⟩ := hSw; unfold Cap at *; go_simp)
  refine Rg.take (ops := (Rg.opsOf Tryz.f118 1)) 1 (some 8) (dv) hNS (by kernel_rfl) (by kernel_rfl) (by kernel_rfl) (by kernel_rfl) (by kernel_rfl) hHeld (Rg.y_load (T := 23) (x := (Operand.tmp 3)) (vx := (.pointer (some ⟨bd, 0, none⟩))) (by kernel_rfl) (by kernel_rfl) ?_) ?_
  · (intro w hSw; obtain ⟨s0, s1, s2⟩ := hSw; unfold Cap at *; go_simp)
  refine Rg.take (ops := (Rg.opsOf Tryz.f118 1)) 2 (some 9) ((.string p)) hNS (by kernel_rfl) (by kernel_rfl) (by kernel_rfl) (by kernel_rfl) (by kernel_rfl) hHeld (Rg.y_load (T := 9) (x := (Operand.tmp 4)) (vx := (.pointer (some ⟨bp, 0, none⟩))) (by kernel_rfl) (by kernel_rfl) ?_) ?_
  · (intro w hSw; obtain ⟨s0, s1, s2⟩ := hSw; unfold Cap at *; go_simp)
  refine Rg.take (ops := (Rg.opsOf Tryz.f118 1)) 3 (some 10) ((.string q)) hNS (by kernel_rfl) (by kernel_rfl) (by kernel_rfl) (by kernel_rfl) (by kernel_rfl) hHeld (Rg.y_load (T := 9) (x := (Operand.tmp 5)) (vx := (.pointer (some ⟨bq, 0, none⟩))) (by kernel_rfl) (by kernel_rfl) ?_) ?_
  · (intro w hSw; obtain ⟨s0, s1, s2⟩ := hSw; unfold Cap at *; go_simp)
  refine Rg.take (ops := (Rg.opsOf Tryz.f118 1)) 5 (some 12) (.func (Fn.func 148) #[] #[(.pointer (some ⟨bd, 0, none⟩)), (.pointer (some ⟨bp, 0, none⟩)), (.pointer (some ⟨bq, 0, none⟩))]) hNS (by kernel_rfl) (by kernel_rfl) (by kernel_rfl) (by kernel_rfl) (by kernel_rfl) hHeld (Rg.y_func (f := Fn.func 148) (xs := #[]) (ys := #[Operand.tmp 3, Operand.tmp 4, Operand.tmp 5]) (vs := #[]) (us := #[(.pointer (some ⟨bd, 0, none⟩)), (.pointer (some ⟨bp, 0, none⟩)), (.pointer (some ⟨bq, 0, none⟩))]) (by kernel_rfl) (by kernel_rfl) (by kernel_rfl)) ?_
  refine Rg.call (ops := (Rg.opsOf Tryz.f118 1)) (fn := Tryz.f147) (xs := #[Operand.tmp 8, Operand.tmp 9, Operand.tmp 10]) (ats := #[23, 9, 9]) 4 (some 11) 147 #[dv, (.string p), (.string q)] (by kernel_rfl) (by kernel_rfl) (by kernel_rfl) (by kernel_rfl) (by kernel_rfl) Tryz.func147 (by kernel_rfl) (by kernel_rfl) (by kernel_rfl) ?_
  refine hm.mono ?_
  rintro e w5 ⟨rfl, hA5⟩
  refine ⟨_, rfl, hAS _ hA5, fun hHeld => ?_⟩
  refine Rg.call (ops := (Rg.opsOf Tryz.f118 1)) (fn := Tryz.f59) (xs := #[Operand.tmp 7, Operand.tmp 11, Operand.tmp 12]) (ats := #[23, 26, 1]) 6 (some 13) 59 #[dv, (.int .i64 (r : Nat)), .func (Fn.func 148) #[] #[(.pointer (some ⟨bd, 0, none⟩)), (.pointer (some ⟨bp, 0, none⟩)), (.pointer (some ⟨bq, 0, none⟩))]] (by kernel_rfl) (by kernel_rfl) (by kernel_rfl) (by kernel_rfl) (by kernel_rfl) Tryz.func59 (by kernel_rfl) (by kernel_rfl) (by kernel_rfl) ?_
  refine (hst _ hA5).mono ?_
  rintro e w6 ⟨rfl, hB6⟩
  refine ⟨_, rfl, hBS _ hB6, fun hHeld => ?_⟩
  refine Rg.take (ops := (Rg.opsOf Tryz.f118 1)) 7 (some 6) ((.int .i64 (X : Nat))) hNS (by kernel_rfl) (by kernel_rfl) (by kernel_rfl) (by kernel_rfl) (by kernel_rfl) hHeld (Rg.y_move (x := (Operand.tmp 13)) (Or.inr (by kernel_rfl)) (by kernel_rfl)) ?_
  refine Rg.done (ops := (Rg.opsOf Tryz.f118 1)) (by kernel_rfl) ?_
  exact ⟨by kernel_rfl, hB6⟩
set_option maxRecDepth 100000 in
set_option maxHeartbeats 2000000 in
theorem regAppend (ops : Array Oper) (hops : ops = (Rg.opsOf Tryz.f80 1)) (id : Nat) (bd bp bq : Nat) (dv : Value) (p q : ByteArray) (r X : Nat) {u0 u1 u2 u6 u7 u8 u9 u10 u11 u12 u13 : Value} (w : World) (A B : World → Prop)
    (hS : (fun W => Cap W bd dv ∧ Cap W bp (.string p) ∧ Cap W bq (.string q)) w.drew) (hm : Calls Tryz.prog 113 #[dv, .string p, .string q] w.drew fun e w' => e = .returned (.int .i64 (r : Nat)) ∧ A w') (hAS : ∀ W, A W → (fun W => Cap W bd dv ∧ Cap W bp (.string p) ∧ Cap W bq (.string q)) W)
    (hst : ∀ W, A W → Calls Tryz.prog 59 #[dv, .int .i64 (r : Nat), .func (.func 114) #[] #[.pointer (some ⟨bd, 0, none⟩), .pointer (some ⟨bp, 0, none⟩), .pointer (some ⟨bq, 0, none⟩)]] W fun e w' => e = .returned (.int .i64 (X : Nat)) ∧ B w') (hBS : ∀ W, B W → (fun W => Cap W bd dv ∧ Cap W bp (.string p) ∧ Cap W bq (.string q)) W) :
    (Code.region id ops true).wp Tryz.prog (Rg.Only fun a' w' => a' = ⟨#[u0, u1, u2, (.pointer (some ⟨bd, 0, none⟩)), (.pointer (some ⟨bp, 0, none⟩)), (.pointer (some ⟨bq, 0, none⟩)), (.int .i64 (X : Nat)), dv, dv, (.string p), (.string q), (.int .i64 (r : Nat)), .func (Fn.func 114) #[] #[(.pointer (some ⟨bd, 0, none⟩)), (.pointer (some ⟨bp, 0, none⟩)), (.pointer (some ⟨bq, 0, none⟩))], (.int .i64 (X : Nat))], []⟩ ∧ B w') ⟨#[u0, u1, u2, (.pointer (some ⟨bd, 0, none⟩)), (.pointer (some ⟨bp, 0, none⟩)), (.pointer (some ⟨bq, 0, none⟩)), u6, u7, u8, u9, u10, u11, u12, u13], []⟩ w := by
  subst hops
  have hNS : Region.noSelect (Rg.opsOf Tryz.f80 1) = true := by kernel_rfl
  refine wp_region_held_drew (S := (fun W => Cap W bd dv ∧ Cap W bp (.string p) ∧ Cap W bq (.string q))) (by kernel_rfl) hS (fun hHeld => ?_)
  rw [show (Rg.opsOf Tryz.f80 1).size = 8 by kernel_rfl]
  refine Rg.take (ops := (Rg.opsOf Tryz.f80 1)) 0 (some 7) (dv) hNS (by kernel_rfl) (by kernel_rfl) (by kernel_rfl) (by kernel_rfl) (by kernel_rfl) hHeld (Rg.y_load (T := 23) (x := (Operand.tmp 3)) (vx := (.pointer (some ⟨bd, 0, none⟩))) (by kernel_rfl) (by kernel_rfl) ?_) ?_
  · (intro w hSw; obtain ⟨s0, s1, s2⟩ := hSw; unfold Cap at *; go_simp)
  refine Rg.take (ops := (Rg.opsOf Tryz.f80 1)) 1 (some 8) (dv) hNS (by kernel_rfl) (by kernel_rfl) (by kernel_rfl) (by kernel_rfl) (by kernel_rfl) hHeld (Rg.y_load (T := 23) (x := (Operand.tmp 3)) (vx := (.pointer (some ⟨bd, 0, none⟩))) (by kernel_rfl) (by kernel_rfl) ?_) ?_
  · (intro w hSw; obtain ⟨s0, s1, s2⟩ := hSw; unfold Cap at *; go_simp)
  refine Rg.take (ops := (Rg.opsOf Tryz.f80 1)) 2 (some 9) ((.string p)) hNS (by kernel_rfl) (by kernel_rfl) (by kernel_rfl) (by kernel_rfl) (by kernel_rfl) hHeld (Rg.y_load (T := 9) (x := (Operand.tmp 4)) (vx := (.pointer (some ⟨bp, 0, none⟩))) (by kernel_rfl) (by kernel_rfl) ?_) ?_
  · (intro w hSw; obtain ⟨s0, s1, s2⟩ := hSw; unfold Cap at *; go_simp)
  refine Rg.take (ops := (Rg.opsOf Tryz.f80 1)) 3 (some 10) ((.string q)) hNS (by kernel_rfl) (by kernel_rfl) (by kernel_rfl) (by kernel_rfl) (by kernel_rfl) hHeld (Rg.y_load (T := 9) (x := (Operand.tmp 5)) (vx := (.pointer (some ⟨bq, 0, none⟩))) (by kernel_rfl) (by kernel_rfl) ?_) ?_
  · (intro w hSw; obtain ⟨s0, s1, s2⟩ := hSw; unfold Cap at *; go_simp)
  refine Rg.take (ops := (Rg.opsOf Tryz.f80 1)) 5 (some 12) (.func (Fn.func 114) #[] #[(.pointer (some ⟨bd, 0, none⟩)), (.pointer (some ⟨bp, 0, none⟩)), (.pointer (some ⟨bq, 0, none⟩))]) hNS (by kernel_rfl) (by kernel_rfl) (by kernel_rfl) (by kernel_rfl) (by kernel_rfl) hHeld (Rg.y_func (f := Fn.func 114) (xs := #[]) (ys := #[Operand.tmp 3, Operand.tmp 4, Operand.tmp 5]) (vs := #[]) (us := #[(.pointer (some ⟨bd, 0, none⟩)), (.pointer (some ⟨bp, 0, none⟩)), (.pointer (some ⟨bq, 0, none⟩))]) (by kernel_rfl) (by kernel_rfl) (by kernel_rfl)) ?_
  refine Rg.call (ops := (Rg.opsOf Tryz.f80 1)) (fn := Tryz.f113) (xs := #[Operand.tmp 8, Operand.tmp 9, Operand.tmp 10]) (ats := #[23, 9, 9]) 4 (some 11) 113 #[dv, (.string p), (.string q)] (by kernel_rfl) (by kernel_rfl) (by kernel_rfl) (by kernel_rfl) (by kernel_rfl) Tryz.func113 (by kernel_rfl) (by kernel_rfl) (by kernel_rfl) ?_
  refine hm.mono ?_
  rintro e w5 ⟨rfl, hA5⟩
  refine ⟨_, rfl, hAS _ hA5, fun hHeld => ?_⟩
  refine Rg.call (ops := (Rg.opsOf Tryz.f80 1)) (fn := Tryz.f59) (xs := #[Operand.tmp 7, Operand.tmp 11, Operand.tmp 12]) (ats := #[23, 26, 1]) 6 (some 13) 59 #[dv, (.int .i64 (r : Nat)), .func (Fn.func 114) #[] #[(.pointer (some ⟨bd, 0, none⟩)), (.pointer (some ⟨bp, 0, none⟩)), (.pointer (some ⟨bq, 0, none⟩))]] (by kernel_rfl) (by kernel_rfl) (by kernel_rfl) (by kernel_rfl) (by kernel_rfl) Tryz.func59 (by kernel_rfl) (by kernel_rfl) (by kernel_rfl) ?_
  refine (hst _ hA5).mono ?_
  rintro e w6 ⟨rfl, hB6⟩
  refine ⟨_, rfl, hBS _ hB6, fun hHeld => ?_⟩
  refine Rg.take (ops := (Rg.opsOf Tryz.f80 1)) 7 (some 6) ((.int .i64 (X : Nat))) hNS (by kernel_rfl) (by kernel_rfl) (by kernel_rfl) (by kernel_rfl) (by kernel_rfl) hHeld (Rg.y_move (x := (Operand.tmp 13)) (Or.inr (by kernel_rfl)) (by kernel_rfl)) ?_
  refine Rg.done (ops := (Rg.opsOf Tryz.f80 1)) (by kernel_rfl) ?_
  exact ⟨by kernel_rfl, hB6⟩
set_option maxRecDepth 100000 in
set_option maxHeartbeats 2000000 in
theorem regSync (ops : Array Oper) (hops : ops = (Rg.opsOf Tryz.f81 1)) (id : Nat) (bd bp : Nat) (dv : Value) (p : ByteArray) (r X : Nat) {u0 u1 u4 u5 u6 u7 u8 u9 u10 : Value} (w : World) (A B : World → Prop)
    (hS : (fun W => Cap W bd dv ∧ Cap W bp (.string p)) w.drew) (hm : Calls Tryz.prog 116 #[dv, .string p] w.drew fun e w' => e = .returned (.int .i64 (r : Nat)) ∧ A w') (hAS : ∀ W, A W → (fun W => Cap W bd dv ∧ Cap W bp (.string p)) W)
    (hst : ∀ W, A W → Calls Tryz.prog 59 #[dv, .int .i64 (r : Nat), .func (.func 117) #[] #[.pointer (some ⟨bd, 0, none⟩), .pointer (some ⟨bp, 0, none⟩)]] W fun e w' => e = .returned (.int .i64 (X : Nat)) ∧ B w') (hBS : ∀ W, B W → (fun W => Cap W bd dv ∧ Cap W bp (.string p)) W) :
    (Code.region id ops true).wp Tryz.prog (Rg.Only fun a' w' => a' = ⟨#[u0, u1, (.pointer (some ⟨bd, 0, none⟩)), (.pointer (some ⟨bp, 0, none⟩)), (.int .i64 (X : Nat)), dv, dv, (.string p), (.int .i64 (r : Nat)), .func (Fn.func 117) #[] #[(.pointer (some ⟨bd, 0, none⟩)), (.pointer (some ⟨bp, 0, none⟩))], (.int .i64 (X : Nat))], []⟩ ∧ B w') ⟨#[u0, u1, (.pointer (some ⟨bd, 0, none⟩)), (.pointer (some ⟨bp, 0, none⟩)), u4, u5, u6, u7, u8, u9, u10], []⟩ w := by
  subst hops
  have hNS : Region.noSelect (Rg.opsOf Tryz.f81 1) = true := by kernel_rfl
  refine wp_region_held_drew (S := (fun W => Cap W bd dv ∧ Cap W bp (.string p))) (by kernel_rfl) hS (fun hHeld => ?_)
  rw [show (Rg.opsOf Tryz.f81 1).size = 7 by kernel_rfl]
  refine Rg.take (ops := (Rg.opsOf Tryz.f81 1)) 0 (some 5) (dv) hNS (by kernel_rfl) (by kernel_rfl) (by kernel_rfl) (by kernel_rfl) (by kernel_rfl) hHeld (Rg.y_load (T := 23) (x := (Operand.tmp 2)) (vx := (.pointer (some ⟨bd, 0, none⟩))) (by kernel_rfl) (by kernel_rfl) ?_) ?_
  · (intro w hSw; obtain ⟨s0, s1⟩ := hSw; unfold Cap at *; go_simp)
  refine Rg.take (ops := (Rg.opsOf Tryz.f81 1)) 1 (some 6) (dv) hNS (by kernel_rfl) (by kernel_rfl) (by kernel_rfl) (by kernel_rfl) (by kernel_rfl) hHeld (Rg.y_load (T := 23) (x := (Operand.tmp 2)) (vx := (.pointer (some ⟨bd, 0, none⟩))) (by kernel_rfl) (by kernel_rfl) ?_) ?_
  · (intro w hSw; obtain ⟨s0, s1⟩ := hSw; unfold Cap at *; go_simp)
  refine Rg.take (ops := (Rg.opsOf Tryz.f81 1)) 2 (some 7) ((.string p)) hNS (by kernel_rfl) (by kernel_rfl) (by kernel_rfl) (by kernel_rfl) (by kernel_rfl) hHeld (Rg.y_load (T := 9) (x := (Operand.tmp 3)) (vx := (.pointer (some ⟨bp, 0, none⟩))) (by kernel_rfl) (by kernel_rfl) ?_) ?_
  · (intro w hSw; obtain ⟨s0, s1⟩ := hSw; unfold Cap at *; go_simp)
  refine Rg.take (ops := (Rg.opsOf Tryz.f81 1)) 4 (some 9) (.func (Fn.func 117) #[] #[(.pointer (some ⟨bd, 0, none⟩)), (.pointer (some ⟨bp, 0, none⟩))]) hNS (by kernel_rfl) (by kernel_rfl) (by kernel_rfl) (by kernel_rfl) (by kernel_rfl) hHeld (Rg.y_func (f := Fn.func 117) (xs := #[]) (ys := #[Operand.tmp 2, Operand.tmp 3]) (vs := #[]) (us := #[(.pointer (some ⟨bd, 0, none⟩)), (.pointer (some ⟨bp, 0, none⟩))]) (by kernel_rfl) (by kernel_rfl) (by kernel_rfl)) ?_
  refine Rg.call (ops := (Rg.opsOf Tryz.f81 1)) (fn := Tryz.f116) (xs := #[Operand.tmp 6, Operand.tmp 7]) (ats := #[23, 9]) 3 (some 8) 116 #[dv, (.string p)] (by kernel_rfl) (by kernel_rfl) (by kernel_rfl) (by kernel_rfl) (by kernel_rfl) Tryz.func116 (by kernel_rfl) (by kernel_rfl) (by kernel_rfl) ?_
  refine hm.mono ?_
  rintro e w5 ⟨rfl, hA5⟩
  refine ⟨_, rfl, hAS _ hA5, fun hHeld => ?_⟩
  refine Rg.call (ops := (Rg.opsOf Tryz.f81 1)) (fn := Tryz.f59) (xs := #[Operand.tmp 5, Operand.tmp 8, Operand.tmp 9]) (ats := #[23, 26, 1]) 5 (some 10) 59 #[dv, (.int .i64 (r : Nat)), .func (Fn.func 117) #[] #[(.pointer (some ⟨bd, 0, none⟩)), (.pointer (some ⟨bp, 0, none⟩))]] (by kernel_rfl) (by kernel_rfl) (by kernel_rfl) (by kernel_rfl) (by kernel_rfl) Tryz.func59 (by kernel_rfl) (by kernel_rfl) (by kernel_rfl) ?_
  refine (hst _ hA5).mono ?_
  rintro e w6 ⟨rfl, hB6⟩
  refine ⟨_, rfl, hBS _ hB6, fun hHeld => ?_⟩
  refine Rg.take (ops := (Rg.opsOf Tryz.f81 1)) 6 (some 4) ((.int .i64 (X : Nat))) hNS (by kernel_rfl) (by kernel_rfl) (by kernel_rfl) (by kernel_rfl) (by kernel_rfl) hHeld (Rg.y_move (x := (Operand.tmp 10)) (Or.inr (by kernel_rfl)) (by kernel_rfl)) ?_
  refine Rg.done (ops := (Rg.opsOf Tryz.f81 1)) (by kernel_rfl) ?_
  exact ⟨by kernel_rfl, hB6⟩
set_option maxRecDepth 100000 in
set_option maxHeartbeats 2000000 in
theorem regRename (ops : Array Oper) (hops : ops = (Rg.opsOf Tryz.f119 1)) (id : Nat) (bd bp bq : Nat) (dv : Value) (p q : ByteArray) (r X : Nat) {u0 u1 u2 u6 u7 u8 u9 u10 u11 u12 u13 : Value} (w : World) (A B : World → Prop)
    (hS : (fun W => Cap W bd dv ∧ Cap W bp (.string p) ∧ Cap W bq (.string q)) w.drew) (hm : Calls Tryz.prog 149 #[dv, .string p, .string q] w.drew fun e w' => e = .returned (.int .i64 (r : Nat)) ∧ A w') (hAS : ∀ W, A W → (fun W => Cap W bd dv ∧ Cap W bp (.string p) ∧ Cap W bq (.string q)) W)
    (hst : ∀ W, A W → Calls Tryz.prog 59 #[dv, .int .i64 (r : Nat), .func (.func 150) #[] #[.pointer (some ⟨bd, 0, none⟩), .pointer (some ⟨bp, 0, none⟩), .pointer (some ⟨bq, 0, none⟩)]] W fun e w' => e = .returned (.int .i64 (X : Nat)) ∧ B w') (hBS : ∀ W, B W → (fun W => Cap W bd dv ∧ Cap W bp (.string p) ∧ Cap W bq (.string q)) W) :
    (Code.region id ops true).wp Tryz.prog (Rg.Only fun a' w' => a' = ⟨#[u0, u1, u2, (.pointer (some ⟨bd, 0, none⟩)), (.pointer (some ⟨bp, 0, none⟩)), (.pointer (some ⟨bq, 0, none⟩)), (.int .i64 (X : Nat)), dv, dv, (.string p), (.string q), (.int .i64 (r : Nat)), .func (Fn.func 150) #[] #[(.pointer (some ⟨bd, 0, none⟩)), (.pointer (some ⟨bp, 0, none⟩)), (.pointer (some ⟨bq, 0, none⟩))], (.int .i64 (X : Nat))], []⟩ ∧ B w') ⟨#[u0, u1, u2, (.pointer (some ⟨bd, 0, none⟩)), (.pointer (some ⟨bp, 0, none⟩)), (.pointer (some ⟨bq, 0, none⟩)), u6, u7, u8, u9, u10, u11, u12, u13], []⟩ w := by
  subst hops
  have hNS : Region.noSelect (Rg.opsOf Tryz.f119 1) = true := by kernel_rfl
  refine wp_region_held_drew (S := (fun W => Cap W bd dv ∧ Cap W bp (.string p) ∧ Cap W bq (.string q))) (by kernel_rfl) hS (fun hHeld => ?_)
  rw [show (Rg.opsOf Tryz.f119 1).size = 8 by kernel_rfl]
  refine Rg.take (ops := (Rg.opsOf Tryz.f119 1)) 0 (some 7) (dv) hNS (by kernel_rfl) (by kernel_rfl) (by kernel_rfl) (by kernel_rfl) (by kernel_rfl) hHeld (Rg.y_load (T := 23) (x := (Operand.tmp 3)) (vx := (.pointer (some ⟨bd, 0, none⟩))) (by kernel_rfl) (by kernel_rfl) ?_) ?_
  · (intro w hSw; obtain ⟨s0, s1, s2⟩ := hSw; unfold Cap at *; go_simp)
  refine Rg.take (ops := (Rg.opsOf Tryz.f119 1)) 1 (some 8) (dv) hNS (by kernel_rfl) (by kernel_rfl) (by kernel_rfl) (by kernel_rfl) (by kernel_rfl) hHeld (Rg.y_load (T := 23) (x := (Operand.tmp 3)) (vx := (.pointer (some ⟨bd, 0, none⟩))) (by kernel_rfl) (by kernel_rfl) ?_) ?_
  · (intro w hSw; obtain ⟨s0, s1, s2⟩ := hSw; unfold Cap at *; go_simp)
  refine Rg.take (ops := (Rg.opsOf Tryz.f119 1)) 2 (some 9) ((.string p)) hNS (by kernel_rfl) (by kernel_rfl) (by kernel_rfl) (by kernel_rfl) (by kernel_rfl) hHeld (Rg.y_load (T := 9) (x := (Operand.tmp 4)) (vx := (.pointer (some ⟨bp, 0, none⟩))) (by kernel_rfl) (by kernel_rfl) ?_) ?_
  · (intro w hSw; obtain ⟨s0, s1, s2⟩ := hSw; unfold Cap at *; go_simp)
  refine Rg.take (ops := (Rg.opsOf Tryz.f119 1)) 3 (some 10) ((.string q)) hNS (by kernel_rfl) (by kernel_rfl) (by kernel_rfl) (by kernel_rfl) (by kernel_rfl) hHeld (Rg.y_load (T := 9) (x := (Operand.tmp 5)) (vx := (.pointer (some ⟨bq, 0, none⟩))) (by kernel_rfl) (by kernel_rfl) ?_) ?_
  · (intro w hSw; obtain ⟨s0, s1, s2⟩ := hSw; unfold Cap at *; go_simp)
  refine Rg.take (ops := (Rg.opsOf Tryz.f119 1)) 5 (some 12) (.func (Fn.func 150) #[] #[(.pointer (some ⟨bd, 0, none⟩)), (.pointer (some ⟨bp, 0, none⟩)), (.pointer (some ⟨bq, 0, none⟩))]) hNS (by kernel_rfl) (by kernel_rfl) (by kernel_rfl) (by kernel_rfl) (by kernel_rfl) hHeld (Rg.y_func (f := Fn.func 150) (xs := #[]) (ys := #[Operand.tmp 3, Operand.tmp 4, Operand.tmp 5]) (vs := #[]) (us := #[(.pointer (some ⟨bd, 0, none⟩)), (.pointer (some ⟨bp, 0, none⟩)), (.pointer (some ⟨bq, 0, none⟩))]) (by kernel_rfl) (by kernel_rfl) (by kernel_rfl)) ?_
  refine Rg.call (ops := (Rg.opsOf Tryz.f119 1)) (fn := Tryz.f149) (xs := #[Operand.tmp 8, Operand.tmp 9, Operand.tmp 10]) (ats := #[23, 9, 9]) 4 (some 11) 149 #[dv, (.string p), (.string q)] (by kernel_rfl) (by kernel_rfl) (by kernel_rfl) (by kernel_rfl) (by kernel_rfl) Tryz.func149 (by kernel_rfl) (by kernel_rfl) (by kernel_rfl) ?_
  refine hm.mono ?_
  rintro e w5 ⟨rfl, hA5⟩
  refine ⟨_, rfl, hAS _ hA5, fun hHeld => ?_⟩
  refine Rg.call (ops := (Rg.opsOf Tryz.f119 1)) (fn := Tryz.f59) (xs := #[Operand.tmp 7, Operand.tmp 11, Operand.tmp 12]) (ats := #[23, 26, 1]) 6 (some 13) 59 #[dv, (.int .i64 (r : Nat)), .func (Fn.func 150) #[] #[(.pointer (some ⟨bd, 0, none⟩)), (.pointer (some ⟨bp, 0, none⟩)), (.pointer (some ⟨bq, 0, none⟩))]] (by kernel_rfl) (by kernel_rfl) (by kernel_rfl) (by kernel_rfl) (by kernel_rfl) Tryz.func59 (by kernel_rfl) (by kernel_rfl) (by kernel_rfl) ?_
  refine (hst _ hA5).mono ?_
  rintro e w6 ⟨rfl, hB6⟩
  refine ⟨_, rfl, hBS _ hB6, fun hHeld => ?_⟩
  refine Rg.take (ops := (Rg.opsOf Tryz.f119 1)) 7 (some 6) ((.int .i64 (X : Nat))) hNS (by kernel_rfl) (by kernel_rfl) (by kernel_rfl) (by kernel_rfl) (by kernel_rfl) hHeld (Rg.y_move (x := (Operand.tmp 13)) (Or.inr (by kernel_rfl)) (by kernel_rfl)) ?_
  refine Rg.done (ops := (Rg.opsOf Tryz.f119 1)) (by kernel_rfl) ?_
  exact ⟨by kernel_rfl, hB6⟩
end Go.Proofs.YtdkgkomjbpggeaaGreatDoor.Dk

namespace Go.Proofs.YtdkgkomjbpggeaaGreatDoor.Dk
open Go.RowKit Tx Pm Pl Pr
set_option linter.unusedVariables false
set_option maxRecDepth 100000 in
set_option maxHeartbeats 2000000 in
theorem regMayWrite (ops : Array Oper) (hops : ops = (Rg.opsOf Tryz.f147 8)) (id : Nat) (b bi bl : Nat) (l : Int) (s : St) (p d V X0 X1 : ByteArray) (K X2 X3 : Int) (B : Bool) {u3 u4 u5 u6 u7 u8 u9 u10 u11 u12 u13 u14 u15 u16 u17 u18 u19 u20 u21 u22 u23 u24 u25 u26 u27 u28 u29 u30 u31 u32 u33 u34 u35 u36 u37 u38 u39 u40 u41 u42 u43 u44 : Value} (w : World) (h : Ia b bi bl l w s)
    (hlk : ∀ W, Ia b bi bl l W s → (Instr.lookup 59 (.map (some bi)) (.string p) false).run Tryz.prog W = .ok (.agg #[.int .i64 K, .string X0, .string X1, .int .i64 X2, .int .i64 X3]) W)
    (hsub : IntKind.i64.wrap ((d.size : Int) - (X0.size : Int)) = (d.size : Int) - (X0.size : Int))
    (cv : ∀ W, Calls Tryz.prog 146 #[.string p] W fun e w' => e = .returned (.string V) ∧ ∃ n, w' = W.drewN n)
    (cf : ∀ W, Ia b bi bl l W s → Calls Tryz.prog 145 #[.pointer (some ⟨b, 0, none⟩), .string V, .int .i64 ((d.size : Int) - (X0.size : Int))] W fun e w' => e = .returned (.bool B) ∧ Below W.heap.size W w') :
    (Code.region id ops true).wp Tryz.prog (Rg.Only fun a' w' => a' = ⟨#[(.pointer (some ⟨b, 0, none⟩)), (.string p), (.string d), u3, u4, u5, u6, u7, u8, u9, u10, u11, u12, u13, u14, u15, u16, u17, u18, u19, u20, u21, u22, u23, u24, u25, u26, u27, u28, (.bool B), (.pointer (some ⟨b, 0, none⟩)), (.string p), (.string V), (.string d), (.int .i64 (d.size : Int)), (.pointer (some ⟨b, 0, none⟩)), (.pointer (some ⟨b, 0, none⟩)), (.pointer (some ⟨b, 0, none⟩)), (.map (some bi)), (.string p), (.agg #[.int .i64 K, .string X0, .string X1, .int .i64 X2, .int .i64 X3]), (.string X0), (.int .i64 (X0.size : Int)), (.int .i64 ((d.size : Int) - (X0.size : Int))), (.bool B)], []⟩ ∧ Below w.heap.size w w') ⟨#[(.pointer (some ⟨b, 0, none⟩)), (.string p), (.string d), u3, u4, u5, u6, u7, u8, u9, u10, u11, u12, u13, u14, u15, u16, u17, u18, u19, u20, u21, u22, u23, u24, u25, u26, u27, u28, u29, u30, u31, u32, u33, u34, u35, u36, u37, u38, u39, u40, u41, u42, u43, u44], []⟩ w := by
  subst hops
  have hNS : Region.noSelect (Rg.opsOf Tryz.f147 8) = true := by kernel_rfl
  have h0 : Ia b bi bl l w.drew s ∧ Below w.heap.size w w.drew := ⟨h.below (Below.refl _ _).drew, (Below.refl _ _).drew⟩
  refine wp_region_held_drew (S := fun W => Ia b bi bl l W s ∧ Below w.heap.size w W) (by kernel_rfl) h0 (fun hHeld => ?_)
  rw [show (Rg.opsOf Tryz.f147 8).size = 16 by kernel_rfl]
  refine Rg.take (ops := (Rg.opsOf Tryz.f147 8)) 0 (some 30) ((.pointer (some ⟨b, 0, none⟩))) hNS (by kernel_rfl) (by kernel_rfl) (by kernel_rfl) (by kernel_rfl) (by kernel_rfl) hHeld (Rg.y_move (x := (Operand.tmp 0)) (Or.inl (by kernel_rfl)) (by kernel_rfl)) ?_
  refine Rg.take (ops := (Rg.opsOf Tryz.f147 8)) 1 (some 31) ((.string p)) hNS (by kernel_rfl) (by kernel_rfl) (by kernel_rfl) (by kernel_rfl) (by kernel_rfl) hHeld (Rg.y_move (x := (Operand.tmp 1)) (Or.inl (by kernel_rfl)) (by kernel_rfl)) ?_
  refine Rg.take (ops := (Rg.opsOf Tryz.f147 8)) 3 (some 33) ((.string d)) hNS (by kernel_rfl) (by kernel_rfl) (by kernel_rfl) (by kernel_rfl) (by kernel_rfl) hHeld (Rg.y_move (x := (Operand.tmp 2)) (Or.inl (by kernel_rfl)) (by kernel_rfl)) ?_
  refine Rg.take (ops := (Rg.opsOf Tryz.f147 8)) 4 (some 34) ((.int .i64 (d.size : Int))) hNS (by kernel_rfl) (by kernel_rfl) (by kernel_rfl) (by kernel_rfl) (by kernel_rfl) hHeld (Rg.y_len (x := (Operand.tmp 33)) (ats := #[9]) (vx := (.string d)) (n := d.size) (by kernel_rfl) (by kernel_rfl) ?_) ?_
  · (intro ty w hSw; go_simp)
  refine Rg.take (ops := (Rg.opsOf Tryz.f147 8)) 5 (some 35) ((.pointer (some ⟨b, 0, none⟩))) hNS (by kernel_rfl) (by kernel_rfl) (by kernel_rfl) (by kernel_rfl) (by kernel_rfl) hHeld (Rg.y_move (x := (Operand.tmp 0)) (Or.inl (by kernel_rfl)) (by kernel_rfl)) ?_
  refine Rg.take (ops := (Rg.opsOf Tryz.f147 8)) 6 (some 36) ((.pointer (some ⟨b, 0, none⟩))) hNS (by kernel_rfl) (by kernel_rfl) (by kernel_rfl) (by kernel_rfl) (by kernel_rfl) hHeld (Rg.y_nil (x := (Operand.tmp 35)) (by kernel_rfl) (by kernel_rfl)) ?_
  refine Rg.take (ops := (Rg.opsOf Tryz.f147 8)) 7 (some 37) ((.pointer (some ⟨b, 0, none⟩))) hNS (by kernel_rfl) (by kernel_rfl) (by kernel_rfl) (by kernel_rfl) (by kernel_rfl) hHeld (Rg.y_field (T := 62) (k := 0) (x := (Operand.tmp 36)) (vx := (.pointer (some ⟨b, 0, none⟩))) (by kernel_rfl) (by kernel_rfl) ?_) ?_
  · (intro w hSw; clear hSw; go_simp)
  refine Rg.take (ops := (Rg.opsOf Tryz.f147 8)) 8 (some 38) ((.map (some bi))) hNS (by kernel_rfl) (by kernel_rfl) (by kernel_rfl) (by kernel_rfl) (by kernel_rfl) hHeld (Rg.y_load (T := 59) (x := (Operand.tmp 37)) (vx := (.pointer (some ⟨b, 0, none⟩))) (by kernel_rfl) (by kernel_rfl) ?_) ?_
  · (intro w hSw; have c0 := hSw.1.cell.1; clear hSw; go_simp)
  refine Rg.take (ops := (Rg.opsOf Tryz.f147 8)) 9 (some 39) ((.string p)) hNS (by kernel_rfl) (by kernel_rfl) (by kernel_rfl) (by kernel_rfl) (by kernel_rfl) hHeld (Rg.y_move (x := (Operand.tmp 1)) (Or.inl (by kernel_rfl)) (by kernel_rfl)) ?_
  refine Rg.take (ops := (Rg.opsOf Tryz.f147 8)) 10 (some 40) ((.agg #[.int .i64 K, .string X0, .string X1, .int .i64 X2, .int .i64 X3])) hNS (by kernel_rfl) (by kernel_rfl) (by kernel_rfl) (by kernel_rfl) (by kernel_rfl) hHeld (Rg.y_look (T := 59) (x := (Operand.tmp 38)) (y := (Operand.tmp 39)) (c := false) (vx := (.map (some bi))) (vy := (.string p)) (by kernel_rfl) (by kernel_rfl) (by kernel_rfl) ?_) ?_
  · (intro w hSw; exact hlk _ hSw.1)
  refine Rg.take (ops := (Rg.opsOf Tryz.f147 8)) 11 (some 41) ((.string X0)) hNS (by kernel_rfl) (by kernel_rfl) (by kernel_rfl) (by kernel_rfl) (by kernel_rfl) hHeld (Rg.y_fld (T := 112) (k := 1) (x := (Operand.tmp 40)) (vx := (.agg #[.int .i64 K, .string X0, .string X1, .int .i64 X2, .int .i64 X3])) (by kernel_rfl) (by kernel_rfl) ?_) ?_
  · (intro w hSw; exact fld1 _ _ _ _ _ w)
  refine Rg.take (ops := (Rg.opsOf Tryz.f147 8)) 12 (some 42) ((.int .i64 (X0.size : Int))) hNS (by kernel_rfl) (by kernel_rfl) (by kernel_rfl) (by kernel_rfl) (by kernel_rfl) hHeld (Rg.y_len (x := (Operand.tmp 41)) (ats := #[9]) (vx := (.string X0)) (n := X0.size) (by kernel_rfl) (by kernel_rfl) ?_) ?_
  · (intro ty w hSw; go_simp)
  refine Rg.take (ops := (Rg.opsOf Tryz.f147 8)) 13 (some 43) ((.int .i64 ((d.size : Int) - (X0.size : Int)))) hNS (by kernel_rfl) (by kernel_rfl) (by kernel_rfl) (by kernel_rfl) (by kernel_rfl) hHeld (Rg.y_bin (b := BinOp.sub) (T := 3) (R' := 3) (x := (Operand.tmp 34)) (y := (Operand.tmp 42)) (vx := (.int .i64 (d.size : Int))) (vy := (.int .i64 (X0.size : Int))) (by kernel_rfl) (by kernel_rfl) (by kernel_rfl) ?_) ?_
  · (intro w hSw; clear hSw; go_simp <;> exact hsub)
  refine Rg.call (ops := (Rg.opsOf Tryz.f147 8)) (fn := Tryz.f146) (xs := #[Operand.tmp 31]) (ats := #[9]) 2 (some 32) 146 #[(.string p)] (by kernel_rfl) (by kernel_rfl) (by kernel_rfl) (by kernel_rfl) (by kernel_rfl) Tryz.func146 (by kernel_rfl) (by kernel_rfl) (by kernel_rfl) ?_
  refine (cv _).mono ?_
  rintro e w5 ⟨rfl, n5, rfl⟩
  refine ⟨_, rfl, ⟨hHeld.1.below (below_drewN _ _), below_call hHeld.2 (below_drewN _ _)⟩, fun hHeld => ?_⟩
  refine Rg.call (ops := (Rg.opsOf Tryz.f147 8)) (fn := Tryz.f145) (xs := #[Operand.tmp 30, Operand.tmp 32, Operand.tmp 43]) (ats := #[23, 9, 3]) 14 (some 44) 145 #[(.pointer (some ⟨b, 0, none⟩)), (.string V), (.int .i64 ((d.size : Int) - (X0.size : Int)))] (by kernel_rfl) (by kernel_rfl) (by kernel_rfl) (by kernel_rfl) (by kernel_rfl) Tryz.func145 (by kernel_rfl) (by kernel_rfl) (by kernel_rfl) ?_
  refine (cf _ hHeld.1).mono ?_
  rintro e w6 ⟨rfl, hb6⟩
  refine ⟨_, rfl, ⟨hHeld.1.below hb6, below_call hHeld.2 hb6⟩, fun hHeld => ?_⟩
  refine Rg.take (ops := (Rg.opsOf Tryz.f147 8)) 15 (some 29) ((.bool B)) hNS (by kernel_rfl) (by kernel_rfl) (by kernel_rfl) (by kernel_rfl) (by kernel_rfl) hHeld (Rg.y_move (x := (Operand.tmp 44)) (Or.inr (by kernel_rfl)) (by kernel_rfl)) ?_
  refine Rg.done (ops := (Rg.opsOf Tryz.f147 8)) (by kernel_rfl) ?_
  exact ⟨by kernel_rfl, hHeld.2⟩
set_option maxRecDepth 100000 in
set_option maxHeartbeats 2000000 in
theorem regMayRename1 (ops : Array Oper) (hops : ops = (Rg.opsOf Tryz.f149 12)) (id : Nat) (b bi bl gf gg : Nat) (l : Int) (s : St) (t X Y V : ByteArray) (B : Bool) {u1 u3 u4 u5 u6 u7 u11 u12 u13 u14 u15 u16 u17 u18 u19 u20 u21 u22 u23 u24 u25 u26 u27 u28 u29 u30 u31 u32 u33 u34 u35 u36 u37 u38 u39 u40 u41 u42 u43 u44 u45 u46 u47 u48 u49 u50 u51 u52 u53 u54 u55 u56 u57 u58 u59 u60 u61 u62 u63 u64 u65 : Value} (w : World) (h : Ia b bi bl l w s)
    (hX : w.cell? ⟨gf, 1, none⟩ = some (.string X)) (hY : w.cell? ⟨gg, 1, none⟩ = some (.string Y))
    (hsub : IntKind.i64.wrap ((X.size : Int) - (Y.size : Int)) = (X.size : Int) - (Y.size : Int))
    (cv : ∀ W, Calls Tryz.prog 146 #[.string t] W fun e w' => e = .returned (.string V) ∧ ∃ n, w' = W.drewN n)
    (cf : ∀ W, Ia b bi bl l W s → Calls Tryz.prog 145 #[.pointer (some ⟨b, 0, none⟩), .string V, .int .i64 ((X.size : Int) - (Y.size : Int))] W fun e w' => e = .returned (.bool B) ∧ Below W.heap.size W w') :
    (Code.region id ops true).wp Tryz.prog (Rg.Only fun a' w' => a' = ⟨#[(.pointer (some ⟨b, 0, none⟩)), u1, (.string t), u3, u4, u5, u6, u7, (.pointer (some ⟨gf, 0, none⟩)), (.pointer (some ⟨gg, 0, none⟩)), (.bool true), u11, u12, u13, u14, u15, u16, u17, u18, u19, u20, u21, u22, u23, u24, u25, u26, u27, u28, u29, u30, u31, u32, u33, u34, u35, u36, u37, u38, u39, u40, u41, u42, u43, u44, u45, u46, u47, u48, u49, u50, (.bool B), (.bool true), (.bool true), (.pointer (some ⟨b, 0, none⟩)), (.string t), (.string V), (.pointer (some ⟨gf, 1, none⟩)), (.string X), (.int .i64 (X.size : Int)), (.pointer (some ⟨gg, 1, none⟩)), (.string Y), (.int .i64 (Y.size : Int)), (.int .i64 ((X.size : Int) - (Y.size : Int))), (.bool B), (.bool B)], []⟩ ∧ Below w.heap.size w w') ⟨#[(.pointer (some ⟨b, 0, none⟩)), u1, (.string t), u3, u4, u5, u6, u7, (.pointer (some ⟨gf, 0, none⟩)), (.pointer (some ⟨gg, 0, none⟩)), (.bool true), u11, u12, u13, u14, u15, u16, u17, u18, u19, u20, u21, u22, u23, u24, u25, u26, u27, u28, u29, u30, u31, u32, u33, u34, u35, u36, u37, u38, u39, u40, u41, u42, u43, u44, u45, u46, u47, u48, u49, u50, u51, u52, u53, u54, u55, u56, u57, u58, u59, u60, u61, u62, u63, u64, u65], []⟩ w := by
  subst hops
  have hNS : Region.noSelect (Rg.opsOf Tryz.f149 12) = true := by kernel_rfl
  have h0 : Ia b bi bl l w.drew s ∧ Below w.heap.size w w.drew ∧ w.drew.cell? ⟨gf, 1, none⟩ = some (.string X) ∧ w.drew.cell? ⟨gg, 1, none⟩ = some (.string Y) := ⟨h.below (Below.refl _ _).drew, (Below.refl _ _).drew, hX, hY⟩
  refine wp_region_held_drew (S := fun W => Ia b bi bl l W s ∧ Below w.heap.size w W ∧ W.cell? ⟨gf, 1, none⟩ = some (.string X) ∧ W.cell? ⟨gg, 1, none⟩ = some (.string Y)) (by kernel_rfl) h0 (fun hHeld => ?_)
  rw [show (Rg.opsOf Tryz.f149 12).size = 15 by kernel_rfl]
  refine Rg.take (ops := (Rg.opsOf Tryz.f149 12)) 0 (some 52) ((.bool true)) hNS (by kernel_rfl) (by kernel_rfl) (by kernel_rfl) (by kernel_rfl) (by kernel_rfl) hHeld (Rg.y_move (x := (Operand.tmp 10)) (Or.inl (by kernel_rfl)) (by kernel_rfl)) ?_
  refine Rg.take (ops := (Rg.opsOf Tryz.f149 12)) 1 (some 53) ((.bool true)) hNS (by kernel_rfl) (by kernel_rfl) (by kernel_rfl) (by kernel_rfl) (by kernel_rfl) hHeld (Rg.y_move (x := (Operand.tmp 52)) (Or.inl (by kernel_rfl)) (by kernel_rfl)) ?_
  refine Rg.take (ops := (Rg.opsOf Tryz.f149 12)) 2 (some 54) ((.pointer (some ⟨b, 0, none⟩))) hNS (by kernel_rfl) (by kernel_rfl) (by kernel_rfl) (by kernel_rfl) (by kernel_rfl) hHeld (Rg.y_move (x := (Operand.tmp 0)) (Or.inl (by kernel_rfl)) (by kernel_rfl)) ?_
  refine Rg.take (ops := (Rg.opsOf Tryz.f149 12)) 3 (some 55) ((.string t)) hNS (by kernel_rfl) (by kernel_rfl) (by kernel_rfl) (by kernel_rfl) (by kernel_rfl) hHeld (Rg.y_move (x := (Operand.tmp 2)) (Or.inl (by kernel_rfl)) (by kernel_rfl)) ?_
  refine Rg.take (ops := (Rg.opsOf Tryz.f149 12)) 5 (some 57) ((.pointer (some ⟨gf, 1, none⟩))) hNS (by kernel_rfl) (by kernel_rfl) (by kernel_rfl) (by kernel_rfl) (by kernel_rfl) hHeld (Rg.y_field (T := 112) (k := 1) (x := (Operand.tmp 8)) (vx := (.pointer (some ⟨gf, 0, none⟩))) (by kernel_rfl) (by kernel_rfl) ?_) ?_
  · (intro w hSw; clear hSw; go_simp)
  refine Rg.take (ops := (Rg.opsOf Tryz.f149 12)) 6 (some 58) ((.string X)) hNS (by kernel_rfl) (by kernel_rfl) (by kernel_rfl) (by kernel_rfl) (by kernel_rfl) hHeld (Rg.y_load (T := 9) (x := (Operand.tmp 57)) (vx := (.pointer (some ⟨gf, 1, none⟩))) (by kernel_rfl) (by kernel_rfl) ?_) ?_
  · (intro w hSw; obtain ⟨_, _, cx, cy⟩ := hSw; go_simp)
  refine Rg.take (ops := (Rg.opsOf Tryz.f149 12)) 7 (some 59) ((.int .i64 (X.size : Int))) hNS (by kernel_rfl) (by kernel_rfl) (by kernel_rfl) (by kernel_rfl) (by kernel_rfl) hHeld (Rg.y_len (x := (Operand.tmp 58)) (ats := #[9]) (vx := (.string X)) (n := X.size) (by kernel_rfl) (by kernel_rfl) ?_) ?_
  · (intro ty w hSw; go_simp)
  refine Rg.take (ops := (Rg.opsOf Tryz.f149 12)) 8 (some 60) ((.pointer (some ⟨gg, 1, none⟩))) hNS (by kernel_rfl) (by kernel_rfl) (by kernel_rfl) (by kernel_rfl) (by kernel_rfl) hHeld (Rg.y_field (T := 112) (k := 1) (x := (Operand.tmp 9)) (vx := (.pointer (some ⟨gg, 0, none⟩))) (by kernel_rfl) (by kernel_rfl) ?_) ?_
  · (intro w hSw; clear hSw; go_simp)
  refine Rg.take (ops := (Rg.opsOf Tryz.f149 12)) 9 (some 61) ((.string Y)) hNS (by kernel_rfl) (by kernel_rfl) (by kernel_rfl) (by kernel_rfl) (by kernel_rfl) hHeld (Rg.y_load (T := 9) (x := (Operand.tmp 60)) (vx := (.pointer (some ⟨gg, 1, none⟩))) (by kernel_rfl) (by kernel_rfl) ?_) ?_
  · (intro w hSw; obtain ⟨_, _, cx, cy⟩ := hSw; go_simp)
  refine Rg.take (ops := (Rg.opsOf Tryz.f149 12)) 10 (some 62) ((.int .i64 (Y.size : Int))) hNS (by kernel_rfl) (by kernel_rfl) (by kernel_rfl) (by kernel_rfl) (by kernel_rfl) hHeld (Rg.y_len (x := (Operand.tmp 61)) (ats := #[9]) (vx := (.string Y)) (n := Y.size) (by kernel_rfl) (by kernel_rfl) ?_) ?_
  · (intro ty w hSw; go_simp)
  refine Rg.take (ops := (Rg.opsOf Tryz.f149 12)) 11 (some 63) ((.int .i64 ((X.size : Int) - (Y.size : Int)))) hNS (by kernel_rfl) (by kernel_rfl) (by kernel_rfl) (by kernel_rfl) (by kernel_rfl) hHeld (Rg.y_bin (b := BinOp.sub) (T := 3) (R' := 3) (x := (Operand.tmp 59)) (y := (Operand.tmp 62)) (vx := (.int .i64 (X.size : Int))) (vy := (.int .i64 (Y.size : Int))) (by kernel_rfl) (by kernel_rfl) (by kernel_rfl) ?_) ?_
  · (intro w hSw; clear hSw; go_simp <;> exact hsub)
  refine Rg.call (ops := (Rg.opsOf Tryz.f149 12)) (fn := Tryz.f146) (xs := #[Operand.tmp 55]) (ats := #[9]) 4 (some 56) 146 #[(.string t)] (by kernel_rfl) (by kernel_rfl) (by kernel_rfl) (by kernel_rfl) (by kernel_rfl) Tryz.func146 (by kernel_rfl) (by kernel_rfl) (by kernel_rfl) ?_
  refine (cv _).mono ?_
  rintro e w5 ⟨rfl, n5, rfl⟩
  refine ⟨_, rfl, ⟨hHeld.1.below (below_drewN _ _), below_call hHeld.2.1 (below_drewN _ _), hHeld.2.2.1, hHeld.2.2.2⟩, fun hHeld => ?_⟩
  refine Rg.call (ops := (Rg.opsOf Tryz.f149 12)) (fn := Tryz.f145) (xs := #[Operand.tmp 54, Operand.tmp 56, Operand.tmp 63]) (ats := #[23, 9, 3]) 12 (some 64) 145 #[(.pointer (some ⟨b, 0, none⟩)), (.string V), (.int .i64 ((X.size : Int) - (Y.size : Int)))] (by kernel_rfl) (by kernel_rfl) (by kernel_rfl) (by kernel_rfl) (by kernel_rfl) Tryz.func145 (by kernel_rfl) (by kernel_rfl) (by kernel_rfl) ?_
  refine (cf _ hHeld.1).mono ?_
  rintro e w6 ⟨rfl, hb6⟩
  refine ⟨_, rfl, ⟨hHeld.1.below hb6, below_call hHeld.2.1 hb6, (hb6.cell (p := ⟨gf, 1, none⟩) (World.block_lt_of_cell? _ _ hHeld.2.2.1)).trans hHeld.2.2.1, (hb6.cell (p := ⟨gg, 1, none⟩) (World.block_lt_of_cell? _ _ hHeld.2.2.2)).trans hHeld.2.2.2⟩, fun hHeld => ?_⟩
  refine Rg.take (ops := (Rg.opsOf Tryz.f149 12)) 13 (some 65) ((.bool B)) hNS (by kernel_rfl) (by kernel_rfl) (by kernel_rfl) (by kernel_rfl) (by kernel_rfl) hHeld (Rg.y_pick (c := (Operand.tmp 53)) (x := (Operand.tmp 64)) (y := (Operand.const (Value.bool false))) (b := true) (by kernel_rfl) (by kernel_rfl) (by kernel_rfl)) ?_
  refine Rg.take (ops := (Rg.opsOf Tryz.f149 12)) 14 (some 51) ((.bool B)) hNS (by kernel_rfl) (by kernel_rfl) (by kernel_rfl) (by kernel_rfl) (by kernel_rfl) hHeld (Rg.y_move (x := (Operand.tmp 65)) (Or.inr (by kernel_rfl)) (by kernel_rfl)) ?_
  refine Rg.done (ops := (Rg.opsOf Tryz.f149 12)) (by kernel_rfl) ?_
  exact ⟨by kernel_rfl, hHeld.2.1⟩
set_option maxRecDepth 100000 in
set_option maxHeartbeats 2000000 in
theorem regMayRename0 (ops : Array Oper) (hops : ops = (Rg.opsOf Tryz.f149 12)) (id : Nat) (b bi bl gf gg : Nat) (l : Int) (s : St) (t X Y V : ByteArray) (B : Bool) {u1 u3 u4 u5 u6 u7 u11 u12 u13 u14 u15 u16 u17 u18 u19 u20 u21 u22 u23 u24 u25 u26 u27 u28 u29 u30 u31 u32 u33 u34 u35 u36 u37 u38 u39 u40 u41 u42 u43 u44 u45 u46 u47 u48 u49 u50 u51 u52 u53 u54 u55 u56 u57 u58 u59 u60 u61 u62 u63 u64 u65 : Value} (w : World) (h : Ia b bi bl l w s)
    (hX : w.cell? ⟨gf, 1, none⟩ = some (.string X)) (hY : w.cell? ⟨gg, 1, none⟩ = some (.string Y)) :
    (Code.region id ops true).wp Tryz.prog (Rg.Only fun a' w' => a' = ⟨#[(.pointer (some ⟨b, 0, none⟩)), u1, (.string t), u3, u4, u5, u6, u7, (.pointer (some ⟨gf, 0, none⟩)), (.pointer (some ⟨gg, 0, none⟩)), (.bool false), u11, u12, u13, u14, u15, u16, u17, u18, u19, u20, u21, u22, u23, u24, u25, u26, u27, u28, u29, u30, u31, u32, u33, u34, u35, u36, u37, u38, u39, u40, u41, u42, u43, u44, u45, u46, u47, u48, u49, u50, (Value.bool false), (.bool false), (.bool false), undef, undef, undef, undef, undef, undef, undef, undef, undef, undef, undef, (Value.bool false)], []⟩ ∧ Below w.heap.size w w') ⟨#[(.pointer (some ⟨b, 0, none⟩)), u1, (.string t), u3, u4, u5, u6, u7, (.pointer (some ⟨gf, 0, none⟩)), (.pointer (some ⟨gg, 0, none⟩)), (.bool false), u11, u12, u13, u14, u15, u16, u17, u18, u19, u20, u21, u22, u23, u24, u25, u26, u27, u28, u29, u30, u31, u32, u33, u34, u35, u36, u37, u38, u39, u40, u41, u42, u43, u44, u45, u46, u47, u48, u49, u50, u51, u52, u53, u54, u55, u56, u57, u58, u59, u60, u61, u62, u63, u64, u65], []⟩ w := by
  subst hops
  have hNS : Region.noSelect (Rg.opsOf Tryz.f149 12) = true := by kernel_rfl
  have h0 : Ia b bi bl l w.drew s ∧ Below w.heap.size w w.drew ∧ w.drew.cell? ⟨gf, 1, none⟩ = some (.string X) ∧ w.drew.cell? ⟨gg, 1, none⟩ = some (.string Y) := ⟨h.below (Below.refl _ _).drew, (Below.refl _ _).drew, hX, hY⟩
  refine wp_region_held_drew (S := fun W => Ia b bi bl l W s ∧ Below w.heap.size w W ∧ W.cell? ⟨gf, 1, none⟩ = some (.string X) ∧ W.cell? ⟨gg, 1, none⟩ = some (.string Y)) (by kernel_rfl) h0 (fun hHeld => ?_)
  rw [show (Rg.opsOf Tryz.f149 12).size = 15 by kernel_rfl]
  refine Rg.take (ops := (Rg.opsOf Tryz.f149 12)) 0 (some 52) ((.bool false)) hNS (by kernel_rfl) (by kernel_rfl) (by kernel_rfl) (by kernel_rfl) (by kernel_rfl) hHeld (Rg.y_move (x := (Operand.tmp 10)) (Or.inl (by kernel_rfl)) (by kernel_rfl)) ?_
  refine Rg.take (ops := (Rg.opsOf Tryz.f149 12)) 1 (some 53) ((.bool false)) hNS (by kernel_rfl) (by kernel_rfl) (by kernel_rfl) (by kernel_rfl) (by kernel_rfl) hHeld (Rg.y_move (x := (Operand.tmp 52)) (Or.inl (by kernel_rfl)) (by kernel_rfl)) ?_
  refine Rg.skip (ops := (Rg.opsOf Tryz.f149 12)) 2 (some 54) hNS (by kernel_rfl) (by kernel_rfl) (by kernel_rfl) (by kernel_rfl) (by kernel_rfl) hHeld ?_
  refine Rg.skip (ops := (Rg.opsOf Tryz.f149 12)) 3 (some 55) hNS (by kernel_rfl) (by kernel_rfl) (by kernel_rfl) (by kernel_rfl) (by kernel_rfl) hHeld ?_
  refine Rg.skip (ops := (Rg.opsOf Tryz.f149 12)) 4 (some 56) hNS (by kernel_rfl) (by kernel_rfl) (by kernel_rfl) (by kernel_rfl) (by kernel_rfl) hHeld ?_
  refine Rg.skip (ops := (Rg.opsOf Tryz.f149 12)) 5 (some 57) hNS (by kernel_rfl) (by kernel_rfl) (by kernel_rfl) (by kernel_rfl) (by kernel_rfl) hHeld ?_
  refine Rg.skip (ops := (Rg.opsOf Tryz.f149 12)) 6 (some 58) hNS (by kernel_rfl) (by kernel_rfl) (by kernel_rfl) (by kernel_rfl) (by kernel_rfl) hHeld ?_
  refine Rg.skip (ops := (Rg.opsOf Tryz.f149 12)) 7 (some 59) hNS (by kernel_rfl) (by kernel_rfl) (by kernel_rfl) (by kernel_rfl) (by kernel_rfl) hHeld ?_
  refine Rg.skip (ops := (Rg.opsOf Tryz.f149 12)) 8 (some 60) hNS (by kernel_rfl) (by kernel_rfl) (by kernel_rfl) (by kernel_rfl) (by kernel_rfl) hHeld ?_
  refine Rg.skip (ops := (Rg.opsOf Tryz.f149 12)) 9 (some 61) hNS (by kernel_rfl) (by kernel_rfl) (by kernel_rfl) (by kernel_rfl) (by kernel_rfl) hHeld ?_
  refine Rg.skip (ops := (Rg.opsOf Tryz.f149 12)) 10 (some 62) hNS (by kernel_rfl) (by kernel_rfl) (by kernel_rfl) (by kernel_rfl) (by kernel_rfl) hHeld ?_
  refine Rg.skip (ops := (Rg.opsOf Tryz.f149 12)) 11 (some 63) hNS (by kernel_rfl) (by kernel_rfl) (by kernel_rfl) (by kernel_rfl) (by kernel_rfl) hHeld ?_
  refine Rg.skip (ops := (Rg.opsOf Tryz.f149 12)) 12 (some 64) hNS (by kernel_rfl) (by kernel_rfl) (by kernel_rfl) (by kernel_rfl) (by kernel_rfl) hHeld ?_
  refine Rg.take (ops := (Rg.opsOf Tryz.f149 12)) 13 (some 65) ((Value.bool false)) hNS (by kernel_rfl) (by kernel_rfl) (by kernel_rfl) (by kernel_rfl) (by kernel_rfl) hHeld (Rg.y_pick (c := (Operand.tmp 53)) (x := (Operand.tmp 64)) (y := (Operand.const (Value.bool false))) (b := false) (by kernel_rfl) (by kernel_rfl) (by kernel_rfl)) ?_
  refine Rg.take (ops := (Rg.opsOf Tryz.f149 12)) 14 (some 51) ((Value.bool false)) hNS (by kernel_rfl) (by kernel_rfl) (by kernel_rfl) (by kernel_rfl) (by kernel_rfl) hHeld (Rg.y_move (x := (Operand.tmp 65)) (Or.inr (by kernel_rfl)) (by kernel_rfl)) ?_
  refine Rg.done (ops := (Rg.opsOf Tryz.f149 12)) (by kernel_rfl) ?_
  exact ⟨by kernel_rfl, hHeld.2.1⟩
end Go.Proofs.YtdkgkomjbpggeaaGreatDoor.Dk

namespace Go.Proofs.YtdkgkomjbpggeaaGreatDoor.Dk
open Go.RowKit Tx Pm Pl Pr
set_option linter.unusedVariables false
theorem ready1 (b bi bl m : Nat) (M l : Int) (s : St) (p : ByteArray) (w : World) (h : Ia b bi bl l w s) (hm : m ≤ 1000) (hM : M = (m : Int) + 1) (hp : p.size ≤ 8000000000000) :
    Calls Tryz.prog 93 #[.pointer (some ⟨b, 0, none⟩), .int .i64 M, .slice (some ⟨w.heap.size, 0, none⟩) 1 1] (w.alloc (.cells #[.string p] 9)) fun e w' => e = .returned (.int .i64 (first s p m : Nat)) ∧ Below w.heap.size w w' := by
  have hb := (Below.refl _ w).alloc (Nat.le_refl _) (.cells #[.string p] 9)
  refine (iReady_any b bi bl w.heap.size 1 1 m M l s [p] _ (h.below hb) rfl hm hM (fun k q hk => ?_) (by simp) (fun q hq => ?_) (by omega)).mono ?_
  · rw [World.cell?_alloc_at _ _ _ _ rfl]
    match k, hk with
    | 0, hk => cases hk; rfl
  · rw [List.mem_singleton.1 hq]
    exact hp
  · rintro e w' ⟨rfl, h2⟩
    rw [rdy_one]
    exact ⟨rfl, below_call hb h2⟩
theorem ready2 (b bi bl m : Nat) (M l : Int) (s : St) (p q : ByteArray) (w : World) (h : Ia b bi bl l w s) (hm : m ≤ 1000) (hM : M = (m : Int) + 1) (hp : p.size ≤ 8000000000000) (hq : q.size ≤ 8000000000000) :
    Calls Tryz.prog 93 #[.pointer (some ⟨b, 0, none⟩), .int .i64 M, .slice (some ⟨w.heap.size, 0, none⟩) 2 2] (w.alloc (.cells #[.string p, .string q] 9)) fun e w' => e = .returned (.int .i64 ((if first s p m ≠ 0 then first s p m else first s q m : Nat) : Nat)) ∧ Below w.heap.size w w' := by
  have hb := (Below.refl _ w).alloc (Nat.le_refl _) (.cells #[.string p, .string q] 9)
  refine (iReady_any b bi bl w.heap.size 2 2 m M l s [p, q] _ (h.below hb) rfl hm hM (fun k x hk => ?_) (by simp) (fun x hx => ?_) (by omega)).mono ?_
  · rw [World.cell?_alloc_at _ _ _ _ rfl]
    match k, hk with
    | 0, hk => cases hk; rfl
    | 1, hk => cases hk; rfl
  · rcases List.mem_cons.1 hx with rfl | hx
    · exact hp
    · rw [List.mem_singleton.1 hx]
      exact hq
  · rintro e w' ⟨rfl, h2⟩
    rw [rdy_two]
    exact ⟨rfl, below_call hb h2⟩
theorem ne_eq {a : Nat} (h : a ≠ 0) : ((a : Int) == 0) = false := beq_eq_false_iff_ne.2 (by omega)
def mayMkdirS (s : St) (p : ByteArray) : Nat := if first s p 0 ≠ 0 then first s p 0 else if home s.L p = false then 11 else if kind s.L p = 2 then 12 else 0
def mayWriteS (s : St) (p d : ByteArray) : Nat := if first s p 1 ≠ 0 then first s p 1 else if home s.L p = false then 11 else if kind s.L p = 1 then 12 else if full s (vol p) ((d.size : Int) - (old s.L p).data.size) = true then 13 else 0
def mayAppendS (s : St) (p d : ByteArray) : Nat := if there s p ≠ 0 then there s p else if full s (vol p) d.size = true then 13 else 0
set_option maxRecDepth 100000 in
set_option maxHeartbeats 1000000 in
theorem iMayMkdir_any (b bi bl : Nat) (l : Int) (s : St) (p : ByteArray) (w : World) (h : Ia b bi bl l w s) (hp : p.size ≤ 8000000000000) :
    Calls Tryz.prog 60 #[.pointer (some ⟨b, 0, none⟩), .string p] w fun e w' => e = .returned (.int .i64 (mayMkdirS s p : Nat)) ∧ Below w.heap.size w w' := by
  have c1 := ready1 b bi bl 0 1 l s p w h (by omega) rfl hp
  have c2 := fun W (hW : Below w.heap.size w W) => iHome_any b bi bl l s p W (h.below hW) hp
  have HL := Lib.hid (fun W (hW : Below w.heap.size w W) => (h.below hW).look (maxLen_of hp))
  have HC := Lib.hid (fun W (hW : Below w.heap.size w W) => (h.below hW).cell.1)
  have f0 := fld0
  unfold mayMkdirS
  generalize first s p 0 = E at c1 ⊢
  generalize home s.L p = H at c2 ⊢
  generalize kind s.L p = K at HL ⊢
  clear h
  by_cases hE : E = 0
  · subst hE
    rw [if_neg (by decide)]
    cases H with
    | false =>
      rw [if_pos rfl]
      go_enter Tryz.func60, Tryz.ntmps60
      go_wp2_with (first | (go_at_call 93; refine c1.mono ?_; rintro e w1 ⟨rfl, hb1⟩; have l0 := HL.out _ hb1; have g0 := HC.out _ hb1) | (go_at_call 94; refine (c2 _ hb1).mono ?_; rintro e w2 ⟨rfl, hb2⟩; have hb3 := below_call hb1 hb2; have l1 := HL.out _ hb3; have g1 := HC.out _ hb3))
      go_ret
      exact ⟨rfl, hb3⟩
    | true =>
      rw [if_neg (by decide)]
      by_cases hK : K = 2
      · subst hK
        rw [if_pos rfl]
        go_enter Tryz.func60, Tryz.ntmps60
        go_wp2_with (first | (go_at_call 93; refine c1.mono ?_; rintro e w1 ⟨rfl, hb1⟩; have l0 := HL.out _ hb1; have g0 := HC.out _ hb1) | (go_at_call 94; refine (c2 _ hb1).mono ?_; rintro e w2 ⟨rfl, hb2⟩; have hb3 := below_call hb1 hb2; have l1 := HL.out _ hb3; have g1 := HC.out _ hb3))
        go_ret
        exact ⟨rfl, hb3⟩
      · rw [if_neg hK]
        have e1 : ((K : Int) == 2) = false := beq_eq_false_iff_ne.2 (by omega)
        clear hK
        go_enter Tryz.func60, Tryz.ntmps60
        go_wp2_with (first | (go_at_call 93; refine c1.mono ?_; rintro e w1 ⟨rfl, hb1⟩; have l0 := HL.out _ hb1; have g0 := HC.out _ hb1) | (go_at_call 94; refine (c2 _ hb1).mono ?_; rintro e w2 ⟨rfl, hb2⟩; have hb3 := below_call hb1 hb2; have l1 := HL.out _ hb3; have g1 := HC.out _ hb3))
        go_ret
        exact ⟨rfl, hb3⟩
  · rw [if_pos hE]
    have e1 := ne_eq hE
    clear hE
    go_enter Tryz.func60, Tryz.ntmps60
    go_wp2_with (first | (go_at_call 93; refine c1.mono ?_; rintro e w1 ⟨rfl, hb1⟩; have l0 := HL.out _ hb1; have g0 := HC.out _ hb1) | (go_at_call 94; refine (c2 _ hb1).mono ?_; rintro e w2 ⟨rfl, hb2⟩; have hb3 := below_call hb1 hb2; have l1 := HL.out _ hb3; have g1 := HC.out _ hb3))
    go_ret
    exact ⟨rfl, hb1⟩
theorem there_mbf (s : St) (p : ByteArray) : there s p = if first s p 1 ≠ 0 then first s p 1 else mbf s.L p := by
  unfold there mbf
  rfl
set_option maxRecDepth 100000 in
set_option maxHeartbeats 1000000 in
theorem iMaySync_any (b bi bl : Nat) (l : Int) (s : St) (p : ByteArray) (w : World) (h : Ia b bi bl l w s) (hp : p.size ≤ 8000000000000) :
    Calls Tryz.prog 116 #[.pointer (some ⟨b, 0, none⟩), .string p] w fun e w' => e = .returned (.int .i64 (there s p : Nat)) ∧ Below w.heap.size w w' := by
  have c1 := ready1 b bi bl 1 2 l s p w h (by omega) rfl hp
  have c2 := fun W (hW : Below w.heap.size w W) => iMbf_any b bi bl l s p W (h.below hW) hp
  rw [there_mbf]
  generalize first s p 1 = E at c1 ⊢
  generalize mbf s.L p = M at c2 ⊢
  clear h
  by_cases hE : E = 0
  · subst hE
    rw [if_neg (by decide)]
    go_enter Tryz.func116, Tryz.ntmps116
    go_wp2_with (first | (go_at_call 93; refine c1.mono ?_; rintro e w1 ⟨rfl, hb1⟩) | (go_at_call 95; refine (c2 _ hb1).mono ?_; rintro e w2 ⟨rfl, rfl⟩))
    go_ret
    exact ⟨rfl, hb1⟩
  · rw [if_pos hE]
    have e1 := ne_eq hE
    clear hE
    go_enter Tryz.func116, Tryz.ntmps116
    go_wp2_with (go_at_call 93; refine c1.mono ?_; rintro e w1 ⟨rfl, hb1⟩)
    go_ret
    exact ⟨rfl, hb1⟩
theorem old_le {s : St} (hf : Fit s) (p : ByteArray) : (old s.L p).data.size ≤ 4000000000000000000 := by
  rcases old_cases s.L p with e | ⟨hm, _⟩
  · rw [e]; show 0 ≤ _; omega
  · exact Nat.le_trans (le_whole hm) hf.2.2
theorem wrap_sub {a b : Nat} (ha : a ≤ 4000000000000000000) (hb : b ≤ 4000000000000000000) : IntKind.i64.wrap ((a : Int) - (b : Int)) = (a : Int) - (b : Int) := IntWalk.i64_in _ (by omega)
set_option maxRecDepth 100000 in
set_option maxHeartbeats 1000000 in
theorem iMayWrite_any (b bi bl : Nat) (l : Int) (s : St) (p d : ByteArray) (w : World) (h : Ia b bi bl l w s) (hR : Rises s.L) (hf : Fit s) (hp : p.size ≤ 8000000000000) (hd : d.size ≤ 1000000000000000000) :
    Calls Tryz.prog 147 #[.pointer (some ⟨b, 0, none⟩), .string p, .string d] w fun e w' => e = .returned (.int .i64 (mayWriteS s p d : Nat)) ∧ Below w.heap.size w w' := by
  have c1 := ready1 b bi bl 1 2 l s p w h (by omega) rfl hp
  have c2 := fun W (hW : Below w.heap.size w W) => iHome_any b bi bl l s p W (h.below hW) hp
  have ho := old_le hf p
  have hv := vol_le p
  have c3 := fun W (hW : Ia b bi bl l W s) => iFull_any b bi bl l s (vol p) ((d.size : Int) - (old s.L p).data.size) W hW hR hf (by omega) (by omega)
  have c4 := fun W => iVol_any p W hp
  have hsub := wrap_sub (a := d.size) (by omega) ho
  have HL := Lib.hid (fun W (hW : Below w.heap.size w W) => (h.below hW).look (maxLen_of hp))
  have hlk := fun W (hW : Ia b bi bl l W s) => hW.look (maxLen_of hp)
  have HC := Lib.hid (fun W (hW : Below w.heap.size w W) => (h.below hW).cell.1)
  have HI := Lib.hid (fun W (hW : Below w.heap.size w W) => h.below hW)
  have f0 := fld0
  unfold mayWriteS
  generalize full s (vol p) ((d.size : Int) - (old s.L p).data.size) = B at c3 ⊢
  generalize first s p 1 = E at c1 ⊢
  generalize home s.L p = H at c2 ⊢
  generalize kind s.L p = K at HL hlk ⊢
  generalize (old s.L p).data = X0 at HL hlk c3 hsub
  generalize (old s.L p).kept = X1 at HL hlk
  generalize stOf (old s.L p) = X2 at HL hlk
  generalize ((old s.L p).stamp : Int) = X3 at HL hlk
  generalize vol p = V at c3 c4
  have HLK := Lib.hid hlk
  have HS := Lib.hid hsub
  clear h hlk hsub ho hv hf hR
  by_cases hE : E = 0
  · subst hE
    rw [if_neg (by decide)]
    cases H with
    | false =>
      rw [if_pos rfl]
      go_enter Tryz.func147, Tryz.ntmps147
      go_wp2_with (first | (go_at_call 93; refine c1.mono ?_; rintro e w1 ⟨rfl, hb1⟩; have l0 := HL.out _ hb1; have g0 := HC.out _ hb1) | (go_at_call 94; refine (c2 _ hb1).mono ?_; rintro e w2 ⟨rfl, hb2⟩; have hb3 := below_call hb1 hb2; have l1 := HL.out _ hb3; have g1 := HC.out _ hb3))
      go_ret
      exact ⟨rfl, hb3⟩
    | true =>
      rw [if_neg (by decide)]
      by_cases hK : K = 1
      · subst hK
        rw [if_pos rfl]
        go_enter Tryz.func147, Tryz.ntmps147
        go_wp2_with (first | (go_at_call 93; refine c1.mono ?_; rintro e w1 ⟨rfl, hb1⟩; have l0 := HL.out _ hb1; have g0 := HC.out _ hb1) | (go_at_call 94; refine (c2 _ hb1).mono ?_; rintro e w2 ⟨rfl, hb2⟩; have hb3 := below_call hb1 hb2; have l1 := HL.out _ hb3; have g1 := HC.out _ hb3))
        go_ret
        exact ⟨rfl, hb3⟩
      · rw [if_neg hK]
        have e1 : ((K : Int) == 1) = false := beq_eq_false_iff_ne.2 (by omega)
        clear hK
        cases B with
        | true =>
          rw [if_pos rfl]
          go_enter Tryz.func147, Tryz.ntmps147
          go_wp2_with (first | (go_at_call 93; refine c1.mono ?_; rintro e w1 ⟨rfl, hb1⟩; have l0 := HL.out _ hb1; have g0 := HC.out _ hb1) | (go_at_call 94; refine (c2 _ hb1).mono ?_; rintro e w2 ⟨rfl, hb2⟩; have hb3 := below_call hb1 hb2; have l1 := HL.out _ hb3; have g1 := HC.out _ hb3))
          refine Rg.wp_only ?_ (regMayWrite _ (by kernel_rfl) _ b bi bl l s p d V X0 X1 K X2 X3 true _ (HI.out _ hb3) HLK.out HS.out c4 c3)
          rintro _ w9 ⟨rfl, hb9⟩
          have hb4 := below_call hb3 hb9
          go_wp2_with fail
          go_ret
          exact ⟨rfl, hb4⟩
        | false =>
          rw [if_neg (by decide)]
          go_enter Tryz.func147, Tryz.ntmps147
          go_wp2_with (first | (go_at_call 93; refine c1.mono ?_; rintro e w1 ⟨rfl, hb1⟩; have l0 := HL.out _ hb1; have g0 := HC.out _ hb1) | (go_at_call 94; refine (c2 _ hb1).mono ?_; rintro e w2 ⟨rfl, hb2⟩; have hb3 := below_call hb1 hb2; have l1 := HL.out _ hb3; have g1 := HC.out _ hb3))
          refine Rg.wp_only ?_ (regMayWrite _ (by kernel_rfl) _ b bi bl l s p d V X0 X1 K X2 X3 false _ (HI.out _ hb3) HLK.out HS.out c4 c3)
          rintro _ w9 ⟨rfl, hb9⟩
          have hb4 := below_call hb3 hb9
          go_wp2_with fail
          go_ret
          exact ⟨rfl, hb4⟩
  · rw [if_pos hE]
    have e1 := ne_eq hE
    clear hE
    go_enter Tryz.func147, Tryz.ntmps147
    go_wp2_with (first | (go_at_call 93; refine c1.mono ?_; rintro e w1 ⟨rfl, hb1⟩; have l0 := HL.out _ hb1; have g0 := HC.out _ hb1) | (go_at_call 94; refine (c2 _ hb1).mono ?_; rintro e w2 ⟨rfl, hb2⟩; have hb3 := below_call hb1 hb2; have l1 := HL.out _ hb3; have g1 := HC.out _ hb3))
    go_ret
    exact ⟨rfl, hb1⟩
set_option maxRecDepth 100000 in
set_option maxHeartbeats 1000000 in
theorem iMayAppend_any (b bi bl : Nat) (l : Int) (s : St) (p d : ByteArray) (w : World) (h : Ia b bi bl l w s) (hR : Rises s.L) (hf : Fit s) (hp : p.size ≤ 8000000000000) (hd : d.size ≤ 1000000000000000000) :
    Calls Tryz.prog 113 #[.pointer (some ⟨b, 0, none⟩), .string p, .string d] w fun e w' => e = .returned (.int .i64 (mayAppendS s p d : Nat)) ∧ Below w.heap.size w w' := by
  have c1 := iMaySync_any b bi bl l s p w h hp
  have hv := vol_le p
  have c3 := fun W (hW : Below w.heap.size w W) => iFull_any b bi bl l s (vol p) (d.size : Int) W (h.below hW) hR hf (by omega) (by omega)
  have c4 := fun W => iVol_any p W hp
  unfold mayAppendS
  generalize full s (vol p) (d.size : Int) = B at c3 ⊢
  generalize there s p = E at c1 ⊢
  generalize vol p = V at c3 c4
  clear h hv hf hR
  by_cases hE : E = 0
  · subst hE
    rw [if_neg (by decide)]
    cases B with
    | true =>
      rw [if_pos rfl]
      go_enter Tryz.func113, Tryz.ntmps113
      go_wp2_with (first | (go_at_call 116; refine c1.mono ?_; rintro e w1 ⟨rfl, hb1⟩) | (go_at_call 146; refine (c4 _).mono ?_; rintro e w2 ⟨rfl, n2, rfl⟩; have hb2 := below_call hb1 (below_drewN _ n2)) | (go_at_call 145; refine (c3 _ hb2).mono ?_; rintro e w3 ⟨rfl, hb3⟩))
      go_ret
      exact ⟨rfl, below_call hb2 hb3⟩
    | false =>
      rw [if_neg (by decide)]
      go_enter Tryz.func113, Tryz.ntmps113
      go_wp2_with (first | (go_at_call 116; refine c1.mono ?_; rintro e w1 ⟨rfl, hb1⟩) | (go_at_call 146; refine (c4 _).mono ?_; rintro e w2 ⟨rfl, n2, rfl⟩; have hb2 := below_call hb1 (below_drewN _ n2)) | (go_at_call 145; refine (c3 _ hb2).mono ?_; rintro e w3 ⟨rfl, hb3⟩))
      go_ret
      exact ⟨rfl, below_call hb2 hb3⟩
  · rw [if_pos hE]
    have e1 := ne_eq hE
    clear hE
    go_enter Tryz.func113, Tryz.ntmps113
    go_wp2_with (first | (go_at_call 116; refine c1.mono ?_; rintro e w1 ⟨rfl, hb1⟩) | (go_at_call 146; refine (c4 _).mono ?_; rintro e w2 ⟨rfl, n2, rfl⟩; have hb2 := below_call hb1 (below_drewN _ n2)) | (go_at_call 145; refine (c3 _ hb2).mono ?_; rintro e w3 ⟨rfl, hb3⟩))
    go_ret
    exact ⟨rfl, hb1⟩
end Go.Proofs.YtdkgkomjbpggeaaGreatDoor.Dk

namespace Go.Proofs.YtdkgkomjbpggeaaGreatDoor.Dk
open Go.RowKit Tx Pm Pl Pr
set_option linter.unusedVariables false
structure Box5 (w : World) (g : Nat) (K : Int) (X0 X1 : ByteArray) (X2 X3 : Int) : Prop where
  lt : g < w.heap.size
  c0 : w.cell? ⟨g, 0, none⟩ = some (.int .i64 K)
  c1 : w.cell? ⟨g, 1, none⟩ = some (.string X0)
  c2 : w.cell? ⟨g, 2, none⟩ = some (.string X1)
  c3 : w.cell? ⟨g, 3, none⟩ = some (.int .i64 X2)
  c4 : w.cell? ⟨g, 4, none⟩ = some (.int .i64 X3)
theorem Box5.below {w w1 : World} {g : Nat} {K : Int} {X0 X1 : ByteArray} {X2 X3 : Int} (h : Box5 w g K X0 X1 X2 X3) (hb : Below w.heap.size w w1) : Box5 w1 g K X0 X1 X2 X3 :=
  ⟨Nat.lt_of_lt_of_le h.lt hb.size, (hb.cell (p := ⟨g, 0, none⟩) h.lt).trans h.c0, (hb.cell (p := ⟨g, 1, none⟩) h.lt).trans h.c1, (hb.cell (p := ⟨g, 2, none⟩) h.lt).trans h.c2, (hb.cell (p := ⟨g, 3, none⟩) h.lt).trans h.c3, (hb.cell (p := ⟨g, 4, none⟩) h.lt).trans h.c4⟩
theorem box5_of {w : World} {g : Nat} {K : Int} {X0 X1 : ByteArray} {X2 X3 : Int} {T : TypeId} {fz : Nat × Nat} (h : w.heap[g]? = some (.cells #[.int .i64 K, .string X0, .string X1, .int .i64 X2, .int .i64 X3] T fz)) : Box5 w g K X0 X1 X2 X3 := by
  refine ⟨(Array.getElem?_eq_some_iff.1 h).1, ?_, ?_, ?_, ?_, ?_⟩ <;> · unfold World.cell?; rw [h]; rfl
theorem two_first (w : World) (o o2 : Obj) : ((w.alloc o).alloc o2).drew.heap[w.heap.size]? = some o := by
  have h := (((Below.refl _ (w.alloc o)).alloc (Nat.le_refl _) o2).drew).block w.heap.size (by simp)
  exact h.trans (new_at w o rfl)
theorem two_second (w : World) (o o2 : Obj) : ((w.alloc o).alloc o2).drew.heap[w.heap.size + 1]? = some o2 := new_at (w.alloc o) o2 (by simp)
def firstR (s : St) (f t : ByteArray) : Nat := if first s f 1 ≠ 0 then first s f 1 else first s t 1
def mayRenS (s : St) (f t : ByteArray) : Nat := if firstR s f t ≠ 0 then firstR s f t else if kind s.L f = 0 then 11 else if home s.L t = false then 11 else if kind s.L f = 1 then 12 else if kind s.L t = 1 then 12 else
  if vol f ≠ vol t ∧ full s (vol t) (((old s.L f).data.size : Int) - (old s.L t).data.size) = true then 13 else 0
set_option maxRecDepth 100000 in
set_option maxHeartbeats 4000000 in
theorem iMayRename_any (b bi bl : Nat) (l : Int) (s : St) (f t : ByteArray) (w : World) (h : Ia b bi bl l w s) (hR : Rises s.L) (hf : Fit s) (hpf : f.size ≤ 8000000000000) (hpt : t.size ≤ 8000000000000) :
    Calls Tryz.prog 149 #[.pointer (some ⟨b, 0, none⟩), .string f, .string t] w fun e w' => e = .returned (.int .i64 (mayRenS s f t : Nat)) ∧ Below w.heap.size w w' := by
  have c1 := ready2 b bi bl 1 2 l s f t w h (by omega) rfl hpf hpt
  have c2 := fun W (hW : Below w.heap.size w W) => iHome_any b bi bl l s t W (h.below hW) hpt
  have ho1 := old_le hf f
  have ho2 := old_le hf t
  have hv := vol_le t
  have c3 := fun W (hW : Ia b bi bl l W s) => iFull_any b bi bl l s (vol t) (((old s.L f).data.size : Int) - (old s.L t).data.size) W hW hR hf (by omega) (by omega)
  have c4 := fun W => iVol_any f W hpf
  have c5 := fun W => iVol_any t W hpt
  have hsub := wrap_sub ho1 ho2
  have hb : b < w.heap.size := h.lt b (.inl rfl)
  have HL := Lib.hid (fun W (hW : Below w.heap.size w W) => (h.below hW).look (maxLen_of hpf))
  have HM := Lib.hid (fun W (hW : Below w.heap.size w W) => (h.below hW).look (maxLen_of hpt))
  have HC := Lib.hid (fun W (hW : Below w.heap.size w W) => (h.below hW).cell.1)
  have HI := Lib.hid (fun W (hW : Below w.heap.size w W) => h.below hW)
  unfold mayRenS
  rw [show (if first s f 1 ≠ 0 then first s f 1 else first s t 1) = firstR s f t from rfl] at c1
  generalize full s (vol t) (((old s.L f).data.size : Int) - (old s.L t).data.size) = B at c3 ⊢
  generalize firstR s f t = E at c1 ⊢
  generalize home s.L t = H at c2 ⊢
  generalize kind s.L f = K at HL ⊢
  generalize kind s.L t = M at HM ⊢
  generalize (old s.L f).data = X0 at HL c3 hsub
  generalize (old s.L f).kept = X1 at HL
  generalize stOf (old s.L f) = X2 at HL
  generalize ((old s.L f).stamp : Int) = X3 at HL
  generalize (old s.L t).data = Y0 at HM c3 hsub
  generalize (old s.L t).kept = Y1 at HM
  generalize stOf (old s.L t) = Y2 at HM
  generalize ((old s.L t).stamp : Int) = Y3 at HM
  generalize vol f = VF at c4 ⊢
  generalize vol t = VT at c3 c5 ⊢
  have HS := Lib.hid hsub
  obtain ⟨RES, hRES⟩ : ∃ RES, RES = if E ≠ 0 then E else if K = 0 then 11 else if H = false then 11 else if K = 1 then 12 else if M = 1 then 12 else if VF ≠ VT ∧ B = true then 13 else 0 := ⟨_, rfl⟩
  rw [← hRES]
  clear h hsub ho1 ho2 hv hf hR
  by_cases hE : E = 0
  · subst hE
    rw [if_neg (by decide)] at hRES
    have HRES := Lib.hid hRES
    clear hRES
    go_enter Tryz.func149, Tryz.ntmps149
    go_upto_region 4 with (go_at_call 93; refine c1.mono ?_; rintro e w1 ⟨rfl, hb1⟩)
    go_cut [8, 9] from 11 (fun v1 v2 wq => ∃ gf gg, v1 = .pointer (some ⟨gf, 0, none⟩) ∧ v2 = .pointer (some ⟨gg, 0, none⟩) ∧ Box5 wq gf K X0 X1 X2 X3 ∧ Box5 wq gg M Y0 Y1 Y2 Y3 ∧ Below w.heap.size w wq)
    case first =>
      have hbw : b < w1.heap.size := Nat.lt_of_lt_of_le hb hb1.size
      have B1 := Lib.hid (Below.refl w1.heap.size w1).drew
      have B2 := fun o => ((Below.refl _ w1).alloc (Nat.le_refl _) o).drew
      have B3 := fun o o2 => (((Below.refl _ w1).alloc (Nat.le_refl _) o).alloc (by simp) o2).drew
      have g0 := HC.out _ hb1
      have k1 := HL.out _ (below_call hb1 B1.out)
      have k2 := fun o => HL.out _ (below_call hb1 (B2 o))
      have k3 := fun o o2 => HL.out _ (below_call hb1 (B3 o o2))
      have m1 := HM.out _ (below_call hb1 B1.out)
      have m2 := fun o => HM.out _ (below_call hb1 (B2 o))
      have m3 := fun o o2 => HM.out _ (below_call hb1 (B3 o o2))
      have HB3 := Lib.hid (fun o o2 => below_call hb1 (B3 o o2))
      clear B2 B3 c1 c2 c3 c4 c5
      go_region
      all_goals (go_wp2_with fail; go_meet)
      · exact ⟨_, _, rfl, rfl, box5_of (two_first _ _ _), box5_of (two_second _ _ _), HB3.out _ _⟩
      · exact ⟨_, _, rfl, rfl, box5_of (two_second _ _ _), box5_of (two_first _ _ _), HB3.out _ _⟩
    case rest =>
      obtain ⟨gf, gg, rfl, rfl, hX, hY, hb2⟩ := hcut
      clear c1 hb1
      have HX := Lib.hid (fun W (hW : Below wc.heap.size wc W) => hX.below hW)
      have HY := Lib.hid (fun W (hW : Below wc.heap.size wc W) => hY.below hW)
      have c0X := hX.c0
      have c0Y := hY.c0
      have hgf := hX.lt
      have hgg := hY.lt
      clear hX hY
      have HSZ := Lib.hid hb2.size
      have hvw : ∀ n, Below wc.heap.size wc (wc.drewN n) := fun n => below_drewN wc n
      have HVW := Lib.hid hvw
      clear hvw
      have HCM := Lib.hid (fun W (hW : Below wc.heap.size wc W) => c2 W (below_call hb2 hW))
      clear c2
      have HVB := Lib.hid (fun n => below_drewN wc n)
      by_cases hV : VF = VT
      · have ev : (VF.toList == VT.toList) = true := by rw [hV]; exact beq_self_eq_true _
        have HV := Lib.hid hV
        clear hV
        clear HVW
        by_cases hK0 : K = 0
        · subst hK0
          have HR2 : Hid (RES = 11) := HRES.out.trans (if_pos rfl)
          clear HRES
          go_wp2_with (first | (go_at_call 146; first | ((with_reducible refine (c4 _).mono ?_); rintro e wv ⟨rfl, n4, rfl⟩) | ((with_reducible refine (c5 _).mono ?_); rintro e wv2 ⟨rfl, n5, rfl⟩)) | (go_at_call 94; refine (HCM.out _ (HVB.out _)).mono ?_; rintro e w3 ⟨rfl, hb3⟩; have hb4 := below_call (HVB.out _) hb3; have x0 := (HX.out _ hb4).c0; have y0 := (HY.out _ hb4).c0))
          go_ret
          exact ⟨ret_int (by rw [HR2.out]; rfl), below_call hb2 (HVB.out _)⟩
        · have HR1 := Lib.hid (HRES.out.trans (if_neg hK0))
          have k0 := ne_eq hK0
          clear hK0 HRES
          cases H with
          | false =>
            have HR2 : Hid (RES = 11) := HR1.out.trans (if_pos rfl)
            go_wp2_with (first | (go_at_call 146; first | ((with_reducible refine (c4 _).mono ?_); rintro e wv ⟨rfl, n4, rfl⟩) | ((with_reducible refine (c5 _).mono ?_); rintro e wv2 ⟨rfl, n5, rfl⟩)) | (go_at_call 94; refine (HCM.out _ (HVB.out _)).mono ?_; rintro e w3 ⟨rfl, hb3⟩; have hb4 := below_call (HVB.out _) hb3; have x0 := (HX.out _ hb4).c0; have y0 := (HY.out _ hb4).c0))
            go_ret
            exact ⟨ret_int (by rw [HR2.out]; rfl), below_call hb2 hb4⟩
          | true =>
            have HR3 := Lib.hid (HR1.out.trans (if_neg (by decide)))
            by_cases hK1 : K = 1
            · subst hK1
              have HR2 : Hid (RES = 12) := HR3.out.trans (if_pos rfl)
              clear HR1 HR3
              go_wp2_with (first | (go_at_call 146; first | ((with_reducible refine (c4 _).mono ?_); rintro e wv ⟨rfl, n4, rfl⟩) | ((with_reducible refine (c5 _).mono ?_); rintro e wv2 ⟨rfl, n5, rfl⟩)) | (go_at_call 94; refine (HCM.out _ (HVB.out _)).mono ?_; rintro e w3 ⟨rfl, hb3⟩; have hb4 := below_call (HVB.out _) hb3; have x0 := (HX.out _ hb4).c0; have y0 := (HY.out _ hb4).c0))
              go_ret
              exact ⟨ret_int (by rw [HR2.out]; rfl), below_call hb2 hb4⟩
            · have HR4 := Lib.hid (HR3.out.trans (if_neg hK1))
              have k1 : ((K : Int) == 1) = false := beq_eq_false_iff_ne.2 (by omega)
              clear hK1 HR1 HR3
              by_cases hM1 : M = 1
              · subst hM1
                have HR2 : Hid (RES = 12) := HR4.out.trans (if_pos rfl)
                clear HR4
                go_wp2_with (first | (go_at_call 146; first | ((with_reducible refine (c4 _).mono ?_); rintro e wv ⟨rfl, n4, rfl⟩) | ((with_reducible refine (c5 _).mono ?_); rintro e wv2 ⟨rfl, n5, rfl⟩)) | (go_at_call 94; refine (HCM.out _ (HVB.out _)).mono ?_; rintro e w3 ⟨rfl, hb3⟩; have hb4 := below_call (HVB.out _) hb3; have x0 := (HX.out _ hb4).c0; have y0 := (HY.out _ hb4).c0))
                go_ret
                exact ⟨ret_int (by rw [HR2.out]; rfl), below_call hb2 hb4⟩
              · have HR5 := Lib.hid (HR4.out.trans (if_neg hM1))
                have m1 : ((M : Int) == 1) = false := beq_eq_false_iff_ne.2 (by omega)
                clear hM1 HR4
                have HR2 : Hid (RES = 0) := HR5.out.trans (if_neg (fun e => e.1 HV.out))
                clear HR5
                go_upto_region 12 with (first | (go_at_call 146; first | ((with_reducible refine (c4 _).mono ?_); rintro e wv ⟨rfl, n4, rfl⟩) | ((with_reducible refine (c5 _).mono ?_); rintro e wv2 ⟨rfl, n5, rfl⟩)) | (go_at_call 94; refine (HCM.out _ (HVB.out _)).mono ?_; rintro e w3 ⟨rfl, hb3⟩; have hb4 := below_call (HVB.out _) hb3; have x0 := (HX.out _ hb4).c0; have y0 := (HY.out _ hb4).c0))
                refine Rg.wp_only ?_ (regMayRename0 _ (by kernel_rfl) _ b bi bl gf gg l s t X0 Y0 VT true _ (HI.out _ (below_call hb2 hb4)) (HX.out _ hb4).c1 (HY.out _ hb4).c1)
                rintro _ w9 ⟨rfl, hb9⟩
                go_wp2_with fail
                go_ret
                exact ⟨ret_int (by rw [HR2.out]; rfl), below_call (below_call hb2 hb4) hb9⟩
      · have ev : (VF.toList == VT.toList) = false := bytes_ne hV
        have HV := Lib.hid hV
        clear hV
        clear HVW
        by_cases hK0 : K = 0
        · subst hK0
          have HR2 : Hid (RES = 11) := HRES.out.trans (if_pos rfl)
          clear HRES
          go_wp2_with (first | (go_at_call 146; first | ((with_reducible refine (c4 _).mono ?_); rintro e wv ⟨rfl, n4, rfl⟩) | ((with_reducible refine (c5 _).mono ?_); rintro e wv2 ⟨rfl, n5, rfl⟩)) | (go_at_call 94; refine (HCM.out _ (HVB.out _)).mono ?_; rintro e w3 ⟨rfl, hb3⟩; have hb4 := below_call (HVB.out _) hb3; have x0 := (HX.out _ hb4).c0; have y0 := (HY.out _ hb4).c0))
          go_ret
          exact ⟨ret_int (by rw [HR2.out]; rfl), below_call hb2 (HVB.out _)⟩
        · have HR1 := Lib.hid (HRES.out.trans (if_neg hK0))
          have k0 := ne_eq hK0
          clear hK0 HRES
          cases H with
          | false =>
            have HR2 : Hid (RES = 11) := HR1.out.trans (if_pos rfl)
            go_wp2_with (first | (go_at_call 146; first | ((with_reducible refine (c4 _).mono ?_); rintro e wv ⟨rfl, n4, rfl⟩) | ((with_reducible refine (c5 _).mono ?_); rintro e wv2 ⟨rfl, n5, rfl⟩)) | (go_at_call 94; refine (HCM.out _ (HVB.out _)).mono ?_; rintro e w3 ⟨rfl, hb3⟩; have hb4 := below_call (HVB.out _) hb3; have x0 := (HX.out _ hb4).c0; have y0 := (HY.out _ hb4).c0))
            go_ret
            exact ⟨ret_int (by rw [HR2.out]; rfl), below_call hb2 hb4⟩
          | true =>
            have HR3 := Lib.hid (HR1.out.trans (if_neg (by decide)))
            by_cases hK1 : K = 1
            · subst hK1
              have HR2 : Hid (RES = 12) := HR3.out.trans (if_pos rfl)
              clear HR1 HR3
              go_wp2_with (first | (go_at_call 146; first | ((with_reducible refine (c4 _).mono ?_); rintro e wv ⟨rfl, n4, rfl⟩) | ((with_reducible refine (c5 _).mono ?_); rintro e wv2 ⟨rfl, n5, rfl⟩)) | (go_at_call 94; refine (HCM.out _ (HVB.out _)).mono ?_; rintro e w3 ⟨rfl, hb3⟩; have hb4 := below_call (HVB.out _) hb3; have x0 := (HX.out _ hb4).c0; have y0 := (HY.out _ hb4).c0))
              go_ret
              exact ⟨ret_int (by rw [HR2.out]; rfl), below_call hb2 hb4⟩
            · have HR4 := Lib.hid (HR3.out.trans (if_neg hK1))
              have k1 : ((K : Int) == 1) = false := beq_eq_false_iff_ne.2 (by omega)
              clear hK1 HR1 HR3
              by_cases hM1 : M = 1
              · subst hM1
                have HR2 : Hid (RES = 12) := HR4.out.trans (if_pos rfl)
                clear HR4
                go_wp2_with (first | (go_at_call 146; first | ((with_reducible refine (c4 _).mono ?_); rintro e wv ⟨rfl, n4, rfl⟩) | ((with_reducible refine (c5 _).mono ?_); rintro e wv2 ⟨rfl, n5, rfl⟩)) | (go_at_call 94; refine (HCM.out _ (HVB.out _)).mono ?_; rintro e w3 ⟨rfl, hb3⟩; have hb4 := below_call (HVB.out _) hb3; have x0 := (HX.out _ hb4).c0; have y0 := (HY.out _ hb4).c0))
                go_ret
                exact ⟨ret_int (by rw [HR2.out]; rfl), below_call hb2 hb4⟩
              · have HR5 := Lib.hid (HR4.out.trans (if_neg hM1))
                have m1 : ((M : Int) == 1) = false := beq_eq_false_iff_ne.2 (by omega)
                clear hM1 HR4
                cases B with
                | true =>
                  have HR2 : Hid (RES = 13) := HR5.out.trans (if_pos ⟨HV.out, rfl⟩)
                  clear HR5
                  go_upto_region 12 with (first | (go_at_call 146; first | ((with_reducible refine (c4 _).mono ?_); rintro e wv ⟨rfl, n4, rfl⟩) | ((with_reducible refine (c5 _).mono ?_); rintro e wv2 ⟨rfl, n5, rfl⟩)) | (go_at_call 94; refine (HCM.out _ (HVB.out _)).mono ?_; rintro e w3 ⟨rfl, hb3⟩; have hb4 := below_call (HVB.out _) hb3; have x0 := (HX.out _ hb4).c0; have y0 := (HY.out _ hb4).c0))
                  refine Rg.wp_only ?_ (regMayRename1 _ (by kernel_rfl) _ b bi bl gf gg l s t X0 Y0 VT true _ (HI.out _ (below_call hb2 hb4)) (HX.out _ hb4).c1 (HY.out _ hb4).c1 HS.out c5 c3)
                  rintro _ w9 ⟨rfl, hb9⟩
                  go_wp2_with fail
                  go_ret
                  exact ⟨ret_int (by rw [HR2.out]; rfl), below_call (below_call hb2 hb4) hb9⟩
                | false =>
                  have HR2 : Hid (RES = 0) := HR5.out.trans (if_neg (fun e => by cases e.2))
                  clear HR5
                  go_upto_region 12 with (first | (go_at_call 146; first | ((with_reducible refine (c4 _).mono ?_); rintro e wv ⟨rfl, n4, rfl⟩) | ((with_reducible refine (c5 _).mono ?_); rintro e wv2 ⟨rfl, n5, rfl⟩)) | (go_at_call 94; refine (HCM.out _ (HVB.out _)).mono ?_; rintro e w3 ⟨rfl, hb3⟩; have hb4 := below_call (HVB.out _) hb3; have x0 := (HX.out _ hb4).c0; have y0 := (HY.out _ hb4).c0))
                  refine Rg.wp_only ?_ (regMayRename1 _ (by kernel_rfl) _ b bi bl gf gg l s t X0 Y0 VT false _ (HI.out _ (below_call hb2 hb4)) (HX.out _ hb4).c1 (HY.out _ hb4).c1 HS.out c5 c3)
                  rintro _ w9 ⟨rfl, hb9⟩
                  go_wp2_with fail
                  go_ret
                  exact ⟨ret_int (by rw [HR2.out]; rfl), below_call (below_call hb2 hb4) hb9⟩
  · rw [if_pos hE] at hRES
    have e1 := ne_eq hE
    have HRES := Lib.hid hRES
    clear hE hRES
    go_enter Tryz.func149, Tryz.ntmps149
    go_wp2_with (go_at_call 93; refine c1.mono ?_; rintro e w1 ⟨rfl, hb1⟩)
    go_ret
    exact ⟨ret_int (by rw [HRES.out]), hb1⟩
end Go.Proofs.YtdkgkomjbpggeaaGreatDoor.Dk

namespace Go.Proofs.YtdkgkomjbpggeaaGreatDoor.Dk
open Go.RowKit Tx Pm Pl Pr
set_option linter.unusedVariables false
theorem Mp.put {w : World} {bi : Nat} {L : List It} (h : Mp w bi L) {x : It} {p : ByteArray} {v : Value} (hx : x.path = p) (hv : iv3 x = v) (hp : p.size ≤ 8000000000000) (hn : L.length ≤ 1000000000) :
    ∃ w', (Instr.mapUpdate 59 (.map (some bi)) (.string p) v).run Tryz.prog w = .ok () w' ∧ Mp w' bi (ins L x) ∧ w.mapTurned w' bi := by
  subst hx
  subst hv
  exact h.store (maxLen_of hp) (by unfold maxLen; omega)
theorem kOf_file {x : It} (h : x.dir = false) : kOf x = 2 := by unfold kOf; rw [h]; rfl
set_option maxRecDepth 100000 in
set_option maxHeartbeats 1000000 in
theorem iWriteC_any (b bi bl bd bp bq : Nat) (l : Int) (s : St) (p d : ByteArray) (w : World) (h : Ia b bi bl l w s) (hd : Cap w bd (.pointer (some ⟨b, 0, none⟩))) (hp : Cap w bp (.string p)) (hq : Cap w bq (.string d)) (hps : p.size ≤ 8000000000000) (hn : s.L.length ≤ 1000000000) (hst : s.stamps ≤ 1000000000000)
    (ho : (old s.L p).dir = false) :
    Calls Tryz.prog 148 #[.pointer (some ⟨bd, 0, none⟩), .pointer (some ⟨bp, 0, none⟩), .pointer (some ⟨bq, 0, none⟩)] w fun e w' => e = .returned (.tuple #[]) ∧ Ip b bi bl w (putS s { old s.L p with data := d, loose := true, anew := true }) w' := by
  obtain ⟨c0, _⟩ := h.cell
  unfold Cap at hd hp hq
  have h0 := h.below (Below.refl _ w).drew
  have hl := h0.look (maxLen_of hps)
  have cs := iSet_any b bi bl l s { old s.L p with data := d, loose := true, anew := true } 0 p w.drew h0 (old_path _ _) hps hn hst
  have e1 : kOf { old s.L p with data := d, loose := true, anew := true } = 2 := kOf_file ho
  rw [e1] at cs
  have cs : Calls Tryz.prog 115 #[.pointer (some ⟨b, 0, none⟩), .string p, .agg #[.int .i64 2, .string d, .string (old s.L p).kept, .int .i64 2, .int .i64 0]] w.drew fun e w' => e = .returned (.tuple #[]) ∧ Ip b bi bl w.drew (putS s { old s.L p with data := d, loose := true, anew := true }) w' := cs
  have hf2 := fld2
  have hend : ∀ w', Ip b bi bl w.drew (putS s { old s.L p with data := d, loose := true, anew := true }) w' → Ip b bi bl w (putS s { old s.L p with data := d, loose := true, anew := true }) w' := fun w' hh => Ip.after (Below.refl _ w).drew hh
  have HE := Lib.hid hend
  generalize (putS s { old s.L p with data := d, loose := true, anew := true }) = s' at cs HE ⊢
  generalize (old s.L p).kept = X1 at cs hl
  generalize stOf (old s.L p) = X2 at hl
  clear h h0 hend e1 ho
  go_enter Tryz.func148, Tryz.ntmps148
  go_wp2
  go_still_tail 11, (by kernel_rfl)
  change wpList _ _ _ _ _ w.drew
  go_wp2_with (go_at_call 115; refine cs.mono ?_; rintro e w5 ⟨rfl, h5⟩)
  go_end0
  exact ⟨rfl, HE.out _ h5⟩
set_option maxRecDepth 100000 in
set_option maxHeartbeats 1000000 in
theorem iSyncC_any (b bi bl bd bp : Nat) (l : Int) (s : St) (p : ByteArray) (w : World) (h : Ia b bi bl l w s) (hd : Cap w bd (.pointer (some ⟨b, 0, none⟩))) (hp : Cap w bp (.string p)) (hps : p.size ≤ 8000000000000) (hn : s.L.length ≤ 1000000000)
    (ho : kind s.L p = 2) :
    Calls Tryz.prog 117 #[.pointer (some ⟨bd, 0, none⟩), .pointer (some ⟨bp, 0, none⟩)] w fun e w' => e = .returned (.tuple #[]) ∧ Ip b bi bl w { s with L := ins s.L { old s.L p with kept := (old s.L p).data, loose := false, anew := false } } w' := by
  obtain ⟨c0, _⟩ := h.cell
  unfold Cap at hd hp
  have hl := (h.below (Below.refl _ w).drew).look (maxLen_of hps)
  have hl2 := fun o => (h.below ((Below.refl _ w).alloc (Nat.le_refl _) o).drew).look (maxLen_of hps)
  rw [ho] at hl hl2
  have hod : (old s.L p).dir = false := old_dir (by omega)
  have hbd : bd < w.heap.size := World.block_lt_of_cell? w _ hd
  have hbp : bp < w.heap.size := World.block_lt_of_cell? w _ hp
  have hb : b < w.heap.size := h.lt b (.inl rfl)
  generalize hX0 : (old s.L p).data = X0 at hl hl2
  have hB2 := ((Below.refl _ w).alloc (Nat.le_refl _) (.cells #[.int .i64 2, .string X0, .string X0, .int .i64 0, .int .i64 (old s.L p).stamp] 112)).drew.drew
  have a2 := h.below hB2
  have e1 : iv3 { old s.L p with kept := X0, loose := false, anew := false } = .agg #[.int .i64 2, .string X0, .string X0, .int .i64 0, .int .i64 (old s.L p).stamp] := by
    unfold iv3
    rw [show kOf { old s.L p with kept := X0, loose := false, anew := false } = 2 from kOf_file hod, ← hX0]
    rfl
  obtain ⟨w3, hrun, hm, ht⟩ := a2.items.put (x := { old s.L p with kept := X0, loose := false, anew := false }) (old_path s.L p) e1 hps hn
  have HE := Lib.hid (show Ip b bi bl w { s with L := ins s.L { old s.L p with kept := X0, loose := false, anew := false } } w3 from ⟨l, a2.turned hm ht, (Chg.of_below hB2).then ((turned_chg ht).mono ft_i)⟩)
  generalize stOf (old s.L p) = X2 at hl hl2
  generalize ((old s.L p).stamp : Int) = X3 at hl hl2 hrun
  generalize (old s.L p).kept = X4 at hl hl2
  clear h hB2 a2 hm ht e1 hod ho hX0
  go_enter Tryz.func117, Tryz.ntmps117
  go_wp2
  go_region
  all_goals go_wp2
  all_goals go_region
  all_goals (go_end0; exact ⟨rfl, HE.out⟩)
end Go.Proofs.YtdkgkomjbpggeaaGreatDoor.Dk

namespace Go.Proofs.YtdkgkomjbpggeaaGreatDoor.Dk
open Go.RowKit Tx Pm Pl Pr
set_option linter.unusedVariables false
set_option maxRecDepth 100000 in
set_option maxHeartbeats 2000000 in
theorem iAppendC_any (b bi bl bd bp bq : Nat) (l : Int) (s : St) (p d : ByteArray) (w : World) (h : Ia b bi bl l w s) (hd : Cap w bd (.pointer (some ⟨b, 0, none⟩))) (hp : Cap w bp (.string p)) (hq : Cap w bq (.string d)) (hps : p.size ≤ 8000000000000) (hn : s.L.length ≤ 1000000000) (hst : s.stamps ≤ 1000000000000)
    (ho : kind s.L p = 2) (hca : (old s.L p).loose = false → (old s.L p).anew = false) (hsz : (old s.L p).data.size + d.size ≤ 1000000000000000000) :
    Calls Tryz.prog 114 #[.pointer (some ⟨bd, 0, none⟩), .pointer (some ⟨bp, 0, none⟩), .pointer (some ⟨bq, 0, none⟩)] w fun e w' => e = .returned (.tuple #[]) ∧ Ip b bi bl w (putS s { old s.L p with data := (old s.L p).data ++ d, loose := true }) w' := by
  obtain ⟨c0, _⟩ := h.cell
  unfold Cap at hd hp hq
  have hbd : bd < w.heap.size := World.block_lt_of_cell? w _ hd
  have hbp : bp < w.heap.size := World.block_lt_of_cell? w _ hp
  have hbq : bq < w.heap.size := World.block_lt_of_cell? w _ hq
  have hb : b < w.heap.size := h.lt b (.inl rfl)
  have hl := (h.below (Below.refl _ w).drew).look (maxLen_of hps)
  have hl2 := fun o => (h.below ((Below.refl _ w).alloc (Nat.le_refl _) o).drew).look (maxLen_of hps)
  rw [ho] at hl hl2
  have hod : (old s.L p).dir = false := old_dir (by omega)
  have hst2 : stOf { old s.L p with data := (old s.L p).data ++ d, loose := true } = if stOf (old s.L p) = 0 then 1 else stOf (old s.L p) := by
    unfold stOf
    cases hlo : (old s.L p).loose with
    | false =>
      rw [hca hlo]
      rfl
    | true => cases (old s.L p).anew <;> rfl
  have hst3 : stOf (old s.L p) = 0 ∨ stOf (old s.L p) = 1 ∨ stOf (old s.L p) = 2 := by
    unfold stOf
    cases (old s.L p).loose <;> cases (old s.L p).anew <;> simp
  have cs := fun W (hW : Below w.heap.size w W) => iSet_any b bi bl l s { old s.L p with data := (old s.L p).data ++ d, loose := true } (old s.L p).stamp p W (h.below hW) (old_path _ _) hps hn hst
  rw [show kOf { old s.L p with data := (old s.L p).data ++ d, loose := true } = 2 from kOf_file hod, hst2] at cs
  simp only at cs
  have HE := Lib.hid (fun W w' (hW : Below w.heap.size w W) (hh : Ip b bi bl W (putS s { old s.L p with data := (old s.L p).data ++ d, loose := true }) w') => Ip.after hW hh)
  generalize (putS s { old s.L p with data := (old s.L p).data ++ d, loose := true }) = s' at cs HE ⊢
  generalize (old s.L p).data = X0 at hl hl2 cs hsz
  generalize (old s.L p).kept = X1 at hl hl2 cs
  generalize ((old s.L p).stamp : Int) = X3 at hl hl2 cs
  generalize stOf (old s.L p) = X2 at hl hl2 cs hst3
  clear h ho hca hod hst2
  have hBW : ∀ o, Below w.heap.size w (w.alloc o).drew := fun o => ((Below.refl _ w).alloc (Nat.le_refl _) o).drew
  have HC := Lib.hid cs
  have HB := Lib.hid hBW
  clear cs hBW
  rcases hst3 with rfl | rfl | rfl
  · go_enter Tryz.func114, Tryz.ntmps114
    go_wp2
    go_region
    all_goals go_wp2_with (go_at_call 115; refine (HC.out _ (HB.out _)).mono ?_; rintro e w5 ⟨rfl, h5⟩)
    all_goals (go_end0; exact ⟨rfl, HE.out _ _ (HB.out _) h5⟩)
  · go_enter Tryz.func114, Tryz.ntmps114
    go_wp2
    go_region
    all_goals go_wp2_with (go_at_call 115; refine (HC.out _ (HB.out _)).mono ?_; rintro e w5 ⟨rfl, h5⟩)
    all_goals (go_end0; exact ⟨rfl, HE.out _ _ (HB.out _) h5⟩)
  · go_enter Tryz.func114, Tryz.ntmps114
    go_wp2
    go_region
    all_goals go_wp2_with (go_at_call 115; refine (HC.out _ (HB.out _)).mono ?_; rintro e w5 ⟨rfl, h5⟩)
    all_goals (go_end0; exact ⟨rfl, HE.out _ _ (HB.out _) h5⟩)
theorem turned_cell {w w' : World} {b i : Nat} (h : w.mapTurned w' b) (hi : i ≠ b) (o : Nat) : w'.cell? ⟨i, o, none⟩ = w.cell? ⟨i, o, none⟩ := by
  unfold World.cell?
  simp only [turned_block h hi]
theorem cell_ne {w : World} {bi : Nat} {L : List It} (h : Mp w bi L) {g : Nat} {o : Nat} {v : Value} (hc : w.cell? ⟨g, o, none⟩ = some v) : g ≠ bi := by
  rintro rfl
  obtain ⟨D, ⟨es, clock, hb, _⟩, _⟩ := h
  unfold World.cell? at hc
  simp [hb] at hc
set_option maxRecDepth 100000 in
set_option maxHeartbeats 2000000 in
theorem iRenameC_any (b bi bl bd bp bq : Nat) (l : Int) (s : St) (f t : ByteArray) (w : World) (h : Ia b bi bl l w s) (hR : Rises s.L) (hd : Cap w bd (.pointer (some ⟨b, 0, none⟩))) (hp : Cap w bp (.string f)) (hq : Cap w bq (.string t)) (hfs : f.size ≤ 8000000000000) (hts : t.size ≤ 8000000000000) (hn : s.L.length ≤ 1000000000) (hst : s.stamps ≤ 1000000000000)
    (ho : kind s.L f = 2) :
    Calls Tryz.prog 150 #[.pointer (some ⟨bd, 0, none⟩), .pointer (some ⟨bp, 0, none⟩), .pointer (some ⟨bq, 0, none⟩)] w fun e w' => e = .returned (.tuple #[]) ∧ Ip b bi bl w (putS { s with L := drop s.L f } { old s.L f with path := t }) w' := by
  obtain ⟨c0, _⟩ := h.cell
  unfold Cap at hd hp hq
  have hbd : bd < w.heap.size := World.block_lt_of_cell? w _ hd
  have hbp : bp < w.heap.size := World.block_lt_of_cell? w _ hp
  have hbq : bq < w.heap.size := World.block_lt_of_cell? w _ hq
  have hb : b < w.heap.size := h.lt b (.inl rfl)
  have nd := cell_ne h.items hd
  have np := cell_ne h.items hp
  have nq := cell_ne h.items hq
  have nb := h.nb.1
  have nn : w.heap.size ≠ bi := fun e => by have := h.items.lt; omega
  have hl := (h.below (Below.refl _ w).drew).look (maxLen_of hfs)
  have hl2 := fun o => (h.below ((Below.refl _ w).alloc (Nat.le_refl _) o).drew).look (maxLen_of hfs)
  rw [ho] at hl hl2
  have hod : (old s.L f).dir = false := old_dir (by omega)
  have hB2 := ((Below.refl _ w).alloc (Nat.le_refl _) (.cells #[.int .i64 2, .string (old s.L f).data, .string (old s.L f).kept, .int .i64 (stOf (old s.L f)), .int .i64 (old s.L f).stamp] 112)).drew.drew
  have a2 := h.below hB2
  obtain ⟨w3, hrun, hm, ht⟩ := a2.items.del hR (maxLen_of hfs) 0
  have a3 : Ia b bi bl l w3 { s with L := drop s.L f } := a2.turned hm ht
  have hc3 : Chg (Ft b bi bl) w w3 := (Chg.of_below hB2).then ((turned_chg ht).mono ft_i)
  have hbox : w3.cell? ⟨w.heap.size, 0, none⟩ = some (.int .i64 2) ∧ w3.cell? ⟨w.heap.size, 1, none⟩ = some (.string (old s.L f).data) ∧ w3.cell? ⟨w.heap.size, 2, none⟩ = some (.string (old s.L f).kept) ∧ w3.cell? ⟨w.heap.size, 3, none⟩ = some (.int .i64 (stOf (old s.L f))) ∧ w3.cell? ⟨w.heap.size, 4, none⟩ = some (.int .i64 (old s.L f).stamp) := by
    refine ⟨?_, ?_, ?_, ?_, ?_⟩ <;> · rw [turned_cell ht nn]; exact World.cell?_alloc_at _ _ _ _ rfl
  have g0 : w3.cell? ⟨bd, 0, none⟩ = some (.pointer (some ⟨b, 0, none⟩)) := (turned_cell ht nd 0).trans ((World.cell?_alloc_past _ _ _ hbd).trans hd)
  have g1 : w3.cell? ⟨bq, 0, none⟩ = some (.string t) := (turned_cell ht nq 0).trans ((World.cell?_alloc_past _ _ _ hbq).trans hq)
  have cs := iSet_any b bi bl l { s with L := drop s.L f } { old s.L f with path := t } (old s.L f).stamp t w3 a3 rfl hts (Nat.le_trans (drop_in s.L f).2 hn) hst
  rw [show kOf { old s.L f with path := t } = 2 from kOf_file hod] at cs
  have cs : Calls Tryz.prog 115 #[.pointer (some ⟨b, 0, none⟩), .string t, .agg #[.int .i64 2, .string (old s.L f).data, .string (old s.L f).kept, .int .i64 (stOf (old s.L f)), .int .i64 (old s.L f).stamp]] w3 fun e w' => e = .returned (.tuple #[]) ∧ Ip b bi bl w3 (putS { s with L := drop s.L f } { old s.L f with path := t }) w' := cs
  have hfin : ∀ w', Ip b bi bl w3 (putS { s with L := drop s.L f } { old s.L f with path := t }) w' → Ip b bi bl w (putS { s with L := drop s.L f } { old s.L f with path := t }) w' := fun w' ⟨l2, h1, h2⟩ => ⟨l2, h1, hc3.then h2⟩
  have HE := Lib.hid hfin
  clear h ho hod hB2 a2 a3 hm ht hc3 hfin
  generalize (putS { s with L := drop s.L f } { old s.L f with path := t }) = s' at cs HE ⊢
  generalize (old s.L f).data = X0 at hl hl2 cs hrun hbox
  generalize (old s.L f).kept = X1 at hl hl2 cs hrun hbox
  generalize ((old s.L f).stamp : Int) = X3 at hl hl2 cs hrun hbox
  generalize stOf (old s.L f) = X2 at hl hl2 cs hrun hbox
  obtain ⟨k0, k1, k2, k3, k4⟩ := hbox
  go_enter Tryz.func150, Tryz.ntmps150
  go_wp2
  go_region
  all_goals go_wp2
  all_goals go_region
  all_goals go_wp2_with (go_at_call 115; refine cs.mono ?_; rintro e w5 ⟨rfl, h5⟩)
  all_goals (go_end0; exact ⟨rfl, HE.out _ h5⟩)
end Go.Proofs.YtdkgkomjbpggeaaGreatDoor.Dk

namespace Go.Proofs.YtdkgkomjbpggeaaGreatDoor.Dk
open Go.RowKit Tx Pm Pl Pr
set_option linter.unusedVariables false
theorem cap_chg {w w1 : World} {F : Nat → Prop} {g : Nat} {v : Value} (h : Cap w g v) (hc : Chg F w w1) (hn : ¬ F g) : Cap w1 g v := by
  have hg := World.block_lt_of_cell? w _ h
  unfold Cap World.cell? at *
  rw [hc.block g hg hn]
  exact h
theorem cap_below {w w1 : World} {g : Nat} {v : Value} (h : Cap w g v) (hb : Below w.heap.size w w1) : Cap w1 g v := cap_chg (F := fun _ => False) h ⟨hb.os, hb.tape, hb.output, hb.size, fun i hi _ => hb.block i hi⟩ id
theorem cap_new (w : World) (v : Value) (T : TypeId) : Cap (w.alloc (.cells #[v] T)) w.heap.size v := by
  unfold Cap
  rw [World.cell?_alloc_at _ _ _ _ rfl]
  rfl
theorem first_down {s : St} {p : ByteArray} {m : Nat} (h : first s p m = 0) : s.down = false := by
  unfold first at h
  cases hd : s.down with
  | false => rfl
  | true => rw [hd] at h; cases h
theorem mkdir_step (s : St) (p : ByteArray) : mkdirS s p = stepR s (mayMkdirS s p) { (done s).2 with L := ins (done s).2.L ⟨p, true, ⟨#[]⟩, ⟨#[]⟩, false, false, 0⟩ } := by
  unfold mkdirS mayMkdirS stepR
  by_cases h1 : first s p 0 ≠ 0
  · rw [if_pos h1, if_pos h1, if_pos h1]
  · rw [if_neg h1, if_neg h1]
    by_cases h2 : home s.L p = false
    · rw [if_pos h2, if_pos h2, if_pos (by decide)]
    · rw [if_neg h2, if_neg h2]
      by_cases h3 : kind s.L p = 2
      · rw [if_pos h3, if_pos h3, if_pos (by decide)]
      · rw [if_neg h3, if_neg h3]
        rfl
theorem mayMkdir_down {s : St} {p : ByteArray} (h : mayMkdirS s p = 0) : s.down = false := by
  unfold mayMkdirS at h
  split at h
  · rename_i h1; exact absurd h h1
  · rename_i h1; exact first_down (p := p) (m := 0) (by omega)
theorem write_step {s : St} (hg : Good s) (p d : ByteArray) : writeS s p d = stepR s (mayWriteS s p d) (putS (done s).2 { old s.L p with data := d, loose := true, anew := true }) := by
  unfold writeS mayWriteS stepR
  rw [fits_full hg]
  by_cases h1 : first s p 1 ≠ 0
  · rw [if_pos h1, if_pos h1, if_pos h1]
  · rw [if_neg h1, if_neg h1]
    by_cases h2 : home s.L p = false
    · rw [if_pos h2, if_pos h2, if_pos (by decide)]
    · rw [if_neg h2, if_neg h2]
      by_cases h3 : kind s.L p = 1
      · rw [if_pos h3, if_pos h3, if_pos (by decide)]
      · rw [if_neg h3, if_neg h3]
        cases full s (vol p) ((d.size : Int) - (old s.L p).data.size) with
        | true => rfl
        | false => rfl
theorem mayWrite_ok {s : St} {p d : ByteArray} (h : mayWriteS s p d = 0) : s.down = false ∧ kind s.L p ≠ 1 := by
  unfold mayWriteS at h
  split at h
  · rename_i h1; exact absurd h h1
  rename_i h1
  split at h
  · cases h
  split at h
  · cases h
  rename_i h3
  exact ⟨first_down (p := p) (m := 1) (by omega), h3⟩
theorem append_step {s : St} (hg : Good s) (p d : ByteArray) : appendS s p d = stepR s (mayAppendS s p d) (putS (done s).2 { old s.L p with data := (old s.L p).data ++ d, loose := true }) := by
  unfold appendS mayAppendS stepR
  rw [fits_full hg]
  by_cases h1 : there s p ≠ 0
  · rw [if_pos h1, if_pos h1, if_pos h1]
  · rw [if_neg h1, if_neg h1]
    cases full s (vol p) (d.size : Int) with
    | true => rfl
    | false => rfl
theorem there_kind {s : St} {p : ByteArray} (h : there s p = 0) : s.down = false ∧ kind s.L p = 2 := by
  unfold there at h
  split at h
  · rename_i h1; exact absurd h h1
  rename_i h1
  split at h
  · cases h
  split at h
  · cases h
  rename_i h2 h3
  refine ⟨first_down (p := p) (m := 1) (by omega), ?_⟩
  rcases kind_le s.L p with e | e | e
  · exact absurd e h2
  · exact absurd e h3
  · exact e
theorem mayAppend_ok {s : St} {p d : ByteArray} (h : mayAppendS s p d = 0) : s.down = false ∧ kind s.L p = 2 := by
  unfold mayAppendS at h
  split at h
  · rename_i h1; exact absurd h h1
  · rename_i h1; exact there_kind (by omega)
theorem sync_step (s : St) (p : ByteArray) : syncS s p = stepR s (there s p) { (done s).2 with L := ins (done s).2.L { old s.L p with kept := (old s.L p).data, loose := false, anew := false } } := rfl
theorem rename_step {s : St} (hg : Good s) (f t : ByteArray) : renameS s f t = stepR s (mayRenS s f t) (putS { (done s).2 with L := drop (done s).2.L f } { old s.L f with path := t }) := by
  unfold renameS mayRenS stepR firstR
  by_cases h1 : first s f 1 ≠ 0
  · rw [if_pos h1, if_pos h1, if_pos h1, if_pos h1]
  rw [if_neg h1, if_neg h1]
  by_cases h2 : first s t 1 ≠ 0
  · rw [if_pos h2, if_pos h2, if_pos h2]
  rw [if_neg h2, if_neg h2]
  by_cases h3 : kind s.L f = 0
  · rw [if_pos (.inl h3), if_pos h3, if_pos (by decide)]
  rw [if_neg h3]
  by_cases h4 : home s.L t = false
  · rw [if_pos (.inr h4), if_pos h4, if_pos (by decide)]
  rw [if_neg (by rintro (h | h) <;> contradiction), if_neg h4]
  by_cases h5 : kind s.L f = 1
  · rw [if_pos (.inl h5), if_pos h5, if_pos (by decide)]
  rw [if_neg h5]
  by_cases h6 : kind s.L t = 1
  · rw [if_pos (.inr h6), if_pos h6, if_pos (by decide)]
  rw [if_neg (by rintro (h | h) <;> contradiction), if_neg h6]
  have e : (f ≠ t ∧ fits s t (moreS s.L f t) = false) ↔ (vol f ≠ vol t ∧ full s (vol t) (((old s.L f).data.size : Int) - (old s.L t).data.size) = true) := by
    rw [fits_full hg]
    by_cases hv : vol f = vol t
    · have hm : moreS s.L f t ≤ 0 := by
        unfold moreS
        rw [if_pos hv]
        split <;> omega
      have hf : full s (vol t) (moreS s.L f t) = false := by
        unfold full
        cases roomOf s.rooms (vol t) with
        | none => rfl
        | some r => simp only; rw [decide_eq_false (by omega), Bool.false_and]
      constructor
      · rintro ⟨_, h⟩
        rw [hf] at h
        cases h
      · rintro ⟨h, _⟩
        exact absurd hv h
    · have hft : f ≠ t := fun e => hv (by rw [e])
      have hm : moreS s.L f t = ((old s.L f).data.size : Int) - (old s.L t).data.size := by
        unfold moreS
        rw [if_neg hv]
        rcases kind_le s.L t with k | k | k
        · have ho : old s.L t = mk t := by
            unfold old
            cases hx : find s.L t with
            | none => rfl
            | some x =>
              unfold kind at k
              rw [hx] at k
              unfold kindOf at k
              simp only at k
              split at k <;> cases k
          rw [if_neg (by omega), ho]
          rfl
        · exact absurd k h6
        · rw [if_pos k]
      rw [hm]
      constructor
      · rintro ⟨_, h⟩
        refine ⟨hv, ?_⟩
        cases hb : full s (vol t) (((old s.L f).data.size : Int) - (old s.L t).data.size) with
        | true => rfl
        | false => rw [hb] at h; cases h
      · rintro ⟨_, h⟩
        refine ⟨hft, ?_⟩
        rw [h]
        rfl
  by_cases h7 : f ≠ t ∧ fits s t (moreS s.L f t) = false
  · rw [if_pos h7, if_pos (e.1 h7), if_pos (by decide)]
  · rw [if_neg h7, if_neg (fun h => h7 (e.2 h))]
    rfl
theorem mayRen_ok {s : St} {f t : ByteArray} (h : mayRenS s f t = 0) : s.down = false ∧ kind s.L f = 2 := by
  unfold mayRenS at h
  split at h
  · rename_i h1; exact absurd h h1
  rename_i h1
  split at h
  · cases h
  rename_i h2
  split at h
  · cases h
  split at h
  · cases h
  rename_i h3
  have hf : first s f 1 = 0 := by
    unfold firstR at h1
    by_cases hq : first s f 1 = 0
    · exact hq
    · rw [if_pos hq] at h1
      omega
  refine ⟨first_down hf, ?_⟩
  rcases kind_le s.L f with e | e | e
  · exact absurd e h2
  · exact absurd e h3
  · exact e
set_option maxRecDepth 100000 in
set_option maxHeartbeats 2000000 in
theorem iMkdir_any (b bi bl : Nat) (l : Int) (s : St) (p : ByteArray) (w : World) (h : Ia b bi bl l w s) (hg : Good s) (ok : Ok s) (hp : p.size ≤ 8000000000000) :
    Calls Tryz.prog 25 #[.pointer (some ⟨b, 0, none⟩), .string p] w fun e w' => e = .returned (.int .i64 ((mkdirS s p).1 : Nat)) ∧ Ip b bi bl w (mkdirS s p).2 w' := by
  have hft := h.lt
  have hn := ok.fit.1
  have hst : (done s).2.stamps ≤ 1000000000000 := by rw [done_stamps]; exact ok.stamps
  have eL := done_L s
  rw [mkdir_step]
  obtain ⟨S', hS'⟩ : ∃ S', S' = { (done s).2 with L := ins (done s).2.L ⟨p, true, ⟨#[]⟩, ⟨#[]⟩, false, false, 0⟩ } := ⟨_, rfl⟩
  rw [← hS']
  have hb1 := (Below.refl w.heap.size w).alloc (Nat.le_refl _) (.cells #[.pointer (some ⟨b, 0, none⟩)] 23)
  have k1 := cap_new w (.pointer (some ⟨b, 0, none⟩)) 23
  have k2 := cap_new (w.alloc (.cells #[.pointer (some ⟨b, 0, none⟩)] 23)) (.string p) 9
  have hs1 : (w.alloc (.cells #[.pointer (some ⟨b, 0, none⟩)] 23)).heap.size = w.heap.size + 1 := by simp
  rw [hs1] at k2
  have hb2 := hb1.alloc (by simp) (.cells #[.string p] 9)
  have k1 := cap_below k1 ((Below.refl _ _).alloc (Nat.le_refl _) (.cells #[.string p] 9))
  obtain ⟨W1, hW1⟩ : ∃ W1, W1 = ((w.alloc (.cells #[.pointer (some ⟨b, 0, none⟩)] 23)).alloc (.cells #[.string p] 9)) := ⟨_, rfl⟩
  rw [← hW1] at k1 k2 hb2
  have hb3 : Below w.heap.size w W1.drew := hb2.drew
  have cm := iMayMkdir_any b bi bl l s p W1.drew (h.below hb3) hp
  have hen : ∀ W, (callFunc 61 #[.pointer (some ⟨w.heap.size, 0, none⟩), .pointer (some ⟨w.heap.size + 1, 0, none⟩)]).run Tryz.prog W = .ok (.enter 61 #[.pointer (some ⟨w.heap.size, 0, none⟩), .pointer (some ⟨w.heap.size + 1, 0, none⟩)]) W :=
    fun W => Rg.enters Tryz.func61 (by kernel_rfl) (by kernel_rfl) _ W
  have ct : ∀ W, Below W1.heap.size W1 W → Calls Tryz.prog 59 #[.pointer (some ⟨b, 0, none⟩), .int .i64 (mayMkdirS s p : Nat), .func (.func 61) #[] #[.pointer (some ⟨w.heap.size, 0, none⟩), .pointer (some ⟨w.heap.size + 1, 0, none⟩)]] W fun e w' => e = .returned (.int .i64 ((stepR s (mayMkdirS s p) S').1 : Nat)) ∧
      (Ip b bi bl w (stepR s (mayMkdirS s p) S').2 w' ∧ Cap w' w.heap.size (.pointer (some ⟨b, 0, none⟩)) ∧ Cap w' (w.heap.size + 1) (.string p)) := by
    intro W hW
    have hbW := below_call hb2 hW
    have j1 := cap_below k1 hW
    have j2 := cap_below k2 hW
    have hnf : ∀ k, ¬ Ft b bi bl (w.heap.size + k) := fun k hk => by have := hft _ hk; omega
    refine (iStep_any b bi bl l s _ _ _ S' W (h.below hbW) (fun e => mayMkdir_down e) ok.steps hen (fun l1 W2 hr _ hI hc => ?_)).mono ?_
    · have m1 := cap_chg j1 hc (fun e => by have := hft b (.inl rfl); omega)
      have m2 := cap_chg j2 hc (fun e => by have := hft b (.inl rfl); omega)
      rw [hS']
      exact iMkdirC_any b bi bl _ _ l1 _ p W2 hI m1 m2 hp (by rw [eL]; exact hn)
    · rintro e w' ⟨rfl, l5, h5, hc5⟩
      exact ⟨rfl, ⟨l5, h5, (Chg.of_below hbW).then hc5⟩, cap_chg j1 hc5 (hnf 0), cap_chg j2 hc5 (hnf 1)⟩
  generalize stepR s (mayMkdirS s p) S' = RES at ct ⊢
  generalize mayMkdirS s p = r at cm ct
  have HW1 := Lib.hid hW1
  clear h hg ok hS' hst eL hn hft hb1 hb2 hb3 hen
  go_enter Tryz.func25, Tryz.ntmps25
  go_wp2_with fail
  rw [← HW1.out]
  refine Rg.wp_only ?_ (regMkdir _ (by kernel_rfl) _ w.heap.size (w.heap.size + 1) (.pointer (some ⟨b, 0, none⟩)) p r RES.1 W1 (fun W => Below W1.heap.size W1 W) (fun W => Ip b bi bl w RES.2 W ∧ Cap W w.heap.size (.pointer (some ⟨b, 0, none⟩)) ∧ Cap W (w.heap.size + 1) (.string p)) ⟨k1, k2⟩ (cm.mono (fun e w' he => ⟨he.1, (Below.refl _ W1).drew.trans he.2⟩)) (fun W hW => ⟨cap_below k1 hW, cap_below k2 hW⟩) ct (fun W hW => hW.2))
  rintro _ w9 ⟨rfl, h9⟩
  go_wp2_with fail
  go_ret
  exact ⟨rfl, h9.1⟩
set_option maxRecDepth 100000 in
set_option maxHeartbeats 2000000 in
theorem iWrite_any (b bi bl : Nat) (l : Int) (s : St) (p q : ByteArray) (w : World) (h : Ia b bi bl l w s) (hg : Good s) (ok : Ok s) (hp : p.size ≤ 8000000000000) (hq : q.size ≤ 1000000000000000000) :
    Calls Tryz.prog 118 #[.pointer (some ⟨b, 0, none⟩), .string p, .string q] w fun e w' => e = .returned (.int .i64 ((writeS s p q).1 : Nat)) ∧ Ip b bi bl w (writeS s p q).2 w' := by
  have hft := h.lt
  have hn := ok.fit.1
  have hst : (done s).2.stamps ≤ 1000000000000 := by rw [done_stamps]; exact ok.stamps
  have eL := done_L s
  rw [write_step hg]
  obtain ⟨S', hS'⟩ : ∃ S', S' = putS (done s).2 { old s.L p with data := q, loose := true, anew := true } := ⟨_, rfl⟩
  rw [← hS']
  have hb1 := (Below.refl w.heap.size w).alloc (Nat.le_refl _) (.cells #[.pointer (some ⟨b, 0, none⟩)] 23)
  have k1 := cap_new w (.pointer (some ⟨b, 0, none⟩)) 23
  have k2 := cap_new (w.alloc (.cells #[.pointer (some ⟨b, 0, none⟩)] 23)) (.string p) 9
  have hs1 : (w.alloc (.cells #[.pointer (some ⟨b, 0, none⟩)] 23)).heap.size = w.heap.size + 1 := by simp
  rw [hs1] at k2
  have hb2 := hb1.alloc (by simp) (.cells #[.string p] 9)
  have k1 := cap_below k1 ((Below.refl _ _).alloc (Nat.le_refl _) (.cells #[.string p] 9))
  have k3 := cap_new ((w.alloc (.cells #[.pointer (some ⟨b, 0, none⟩)] 23)).alloc (.cells #[.string p] 9)) (.string q) 9
  have hs2 : ((w.alloc (.cells #[.pointer (some ⟨b, 0, none⟩)] 23)).alloc (.cells #[.string p] 9)).heap.size = w.heap.size + 1 + 1 := by simp
  rw [hs2] at k3
  have hb2 := hb2.alloc (by simp; omega) (.cells #[.string q] 9)
  have k1 := cap_below k1 ((Below.refl _ _).alloc (Nat.le_refl _) (.cells #[.string q] 9))
  have k2 := cap_below k2 ((Below.refl _ _).alloc (Nat.le_refl _) (.cells #[.string q] 9))
  obtain ⟨W1, hW1⟩ : ∃ W1, W1 = ((w.alloc (.cells #[.pointer (some ⟨b, 0, none⟩)] 23)).alloc (.cells #[.string p] 9)).alloc (.cells #[.string q] 9) := ⟨_, rfl⟩
  rw [← hW1] at k1 k2 k3 hb2
  have hb3 : Below w.heap.size w W1.drew := hb2.drew
  have cm := iMayWrite_any b bi bl l s p q W1.drew (h.below hb3) hg.rises ok.fit hp hq
  have hen : ∀ W, (callFunc 148 #[.pointer (some ⟨w.heap.size, 0, none⟩), .pointer (some ⟨w.heap.size + 1, 0, none⟩), .pointer (some ⟨w.heap.size + 1 + 1, 0, none⟩)]).run Tryz.prog W = .ok (.enter 148 #[.pointer (some ⟨w.heap.size, 0, none⟩), .pointer (some ⟨w.heap.size + 1, 0, none⟩), .pointer (some ⟨w.heap.size + 1 + 1, 0, none⟩)]) W :=
    fun W => Rg.enters Tryz.func148 (by kernel_rfl) (by kernel_rfl) _ W
  have ct : ∀ W, Below W1.heap.size W1 W → Calls Tryz.prog 59 #[.pointer (some ⟨b, 0, none⟩), .int .i64 (mayWriteS s p q : Nat), .func (.func 148) #[] #[.pointer (some ⟨w.heap.size, 0, none⟩), .pointer (some ⟨w.heap.size + 1, 0, none⟩), .pointer (some ⟨w.heap.size + 1 + 1, 0, none⟩)]] W fun e w' => e = .returned (.int .i64 ((stepR s (mayWriteS s p q) S').1 : Nat)) ∧
      (Ip b bi bl w (stepR s (mayWriteS s p q) S').2 w' ∧ Cap w' w.heap.size (.pointer (some ⟨b, 0, none⟩)) ∧ Cap w' (w.heap.size + 1) (.string p) ∧ Cap w' (w.heap.size + 1 + 1) (.string q)) := by
    intro W hW
    have hbW := below_call hb2 hW
    have j1 := cap_below k1 hW
    have j2 := cap_below k2 hW
    have j3 := cap_below k3 hW
    have hnf : ∀ k, ¬ Ft b bi bl (w.heap.size + k) := fun k hk => by have := hft _ hk; omega
    refine (iStep_any b bi bl l s _ _ _ S' W (h.below hbW) (fun e => (mayWrite_ok e).1) ok.steps hen (fun l1 W2 hr _ hI hc => ?_)).mono ?_
    · have m1 := cap_chg j1 hc (fun e => by have := hft b (.inl rfl); omega)
      have m2 := cap_chg j2 hc (fun e => by have := hft b (.inl rfl); omega)
      have m3 := cap_chg j3 hc (fun e => by have := hft b (.inl rfl); omega)
      rw [hS']
      have c9 := iWriteC_any b bi bl _ _ _ l1 _ p q W2 hI m1 m2 m3 hp (by rw [eL]; exact hn) hst (by rw [eL]; exact old_dir (mayWrite_ok hr).2)
      rw [eL] at c9
      exact c9
    · rintro e w' ⟨rfl, l5, h5, hc5⟩
      exact ⟨rfl, ⟨l5, h5, (Chg.of_below hbW).then hc5⟩, cap_chg j1 hc5 (hnf 0), cap_chg j2 hc5 (hnf 1), cap_chg j3 hc5 (hnf 2)⟩
  generalize stepR s (mayWriteS s p q) S' = RES at ct ⊢
  generalize mayWriteS s p q = r at cm ct
  have HW1 := Lib.hid hW1
  clear h hg ok hS' hst eL hn hft hb1 hb2 hb3 hen
  go_enter Tryz.func118, Tryz.ntmps118
  go_wp2_with fail
  rw [← HW1.out]
  refine Rg.wp_only ?_ (regWrite _ (by kernel_rfl) _ w.heap.size (w.heap.size + 1) (w.heap.size + 1 + 1) (.pointer (some ⟨b, 0, none⟩)) p q r RES.1 W1 (fun W => Below W1.heap.size W1 W) (fun W => Ip b bi bl w RES.2 W ∧ Cap W w.heap.size (.pointer (some ⟨b, 0, none⟩)) ∧ Cap W (w.heap.size + 1) (.string p) ∧ Cap W (w.heap.size + 1 + 1) (.string q)) ⟨k1, k2, k3⟩ (cm.mono (fun e w' he => ⟨he.1, (Below.refl _ W1).drew.trans he.2⟩)) (fun W hW => ⟨cap_below k1 hW, cap_below k2 hW, cap_below k3 hW⟩) ct (fun W hW => hW.2))
  rintro _ w9 ⟨rfl, h9⟩
  go_wp2_with fail
  go_ret
  exact ⟨rfl, h9.1⟩
set_option maxRecDepth 100000 in
set_option maxHeartbeats 2000000 in
theorem iAppend_any (b bi bl : Nat) (l : Int) (s : St) (p q : ByteArray) (w : World) (h : Ia b bi bl l w s) (hg : Good s) (ok : Ok s) (hp : p.size ≤ 8000000000000) (hq : q.size ≤ 1000000000000000000) (hsz : (old s.L p).data.size + q.size ≤ 1000000000000000000) :
    Calls Tryz.prog 80 #[.pointer (some ⟨b, 0, none⟩), .string p, .string q] w fun e w' => e = .returned (.int .i64 ((appendS s p q).1 : Nat)) ∧ Ip b bi bl w (appendS s p q).2 w' := by
  have hft := h.lt
  have hn := ok.fit.1
  have hst : (done s).2.stamps ≤ 1000000000000 := by rw [done_stamps]; exact ok.stamps
  have eL := done_L s
  rw [append_step hg]
  obtain ⟨S', hS'⟩ : ∃ S', S' = putS (done s).2 { old s.L p with data := (old s.L p).data ++ q, loose := true } := ⟨_, rfl⟩
  rw [← hS']
  have hb1 := (Below.refl w.heap.size w).alloc (Nat.le_refl _) (.cells #[.pointer (some ⟨b, 0, none⟩)] 23)
  have k1 := cap_new w (.pointer (some ⟨b, 0, none⟩)) 23
  have k2 := cap_new (w.alloc (.cells #[.pointer (some ⟨b, 0, none⟩)] 23)) (.string p) 9
  have hs1 : (w.alloc (.cells #[.pointer (some ⟨b, 0, none⟩)] 23)).heap.size = w.heap.size + 1 := by simp
  rw [hs1] at k2
  have hb2 := hb1.alloc (by simp) (.cells #[.string p] 9)
  have k1 := cap_below k1 ((Below.refl _ _).alloc (Nat.le_refl _) (.cells #[.string p] 9))
  have k3 := cap_new ((w.alloc (.cells #[.pointer (some ⟨b, 0, none⟩)] 23)).alloc (.cells #[.string p] 9)) (.string q) 9
  have hs2 : ((w.alloc (.cells #[.pointer (some ⟨b, 0, none⟩)] 23)).alloc (.cells #[.string p] 9)).heap.size = w.heap.size + 1 + 1 := by simp
  rw [hs2] at k3
  have hb2 := hb2.alloc (by simp; omega) (.cells #[.string q] 9)
  have k1 := cap_below k1 ((Below.refl _ _).alloc (Nat.le_refl _) (.cells #[.string q] 9))
  have k2 := cap_below k2 ((Below.refl _ _).alloc (Nat.le_refl _) (.cells #[.string q] 9))
  obtain ⟨W1, hW1⟩ : ∃ W1, W1 = ((w.alloc (.cells #[.pointer (some ⟨b, 0, none⟩)] 23)).alloc (.cells #[.string p] 9)).alloc (.cells #[.string q] 9) := ⟨_, rfl⟩
  rw [← hW1] at k1 k2 k3 hb2
  have hb3 : Below w.heap.size w W1.drew := hb2.drew
  have cm := iMayAppend_any b bi bl l s p q W1.drew (h.below hb3) hg.rises ok.fit hp (by omega)
  have hen : ∀ W, (callFunc 114 #[.pointer (some ⟨w.heap.size, 0, none⟩), .pointer (some ⟨w.heap.size + 1, 0, none⟩), .pointer (some ⟨w.heap.size + 1 + 1, 0, none⟩)]).run Tryz.prog W = .ok (.enter 114 #[.pointer (some ⟨w.heap.size, 0, none⟩), .pointer (some ⟨w.heap.size + 1, 0, none⟩), .pointer (some ⟨w.heap.size + 1 + 1, 0, none⟩)]) W :=
    fun W => Rg.enters Tryz.func114 (by kernel_rfl) (by kernel_rfl) _ W
  have ct : ∀ W, Below W1.heap.size W1 W → Calls Tryz.prog 59 #[.pointer (some ⟨b, 0, none⟩), .int .i64 (mayAppendS s p q : Nat), .func (.func 114) #[] #[.pointer (some ⟨w.heap.size, 0, none⟩), .pointer (some ⟨w.heap.size + 1, 0, none⟩), .pointer (some ⟨w.heap.size + 1 + 1, 0, none⟩)]] W fun e w' => e = .returned (.int .i64 ((stepR s (mayAppendS s p q) S').1 : Nat)) ∧
      (Ip b bi bl w (stepR s (mayAppendS s p q) S').2 w' ∧ Cap w' w.heap.size (.pointer (some ⟨b, 0, none⟩)) ∧ Cap w' (w.heap.size + 1) (.string p) ∧ Cap w' (w.heap.size + 1 + 1) (.string q)) := by
    intro W hW
    have hbW := below_call hb2 hW
    have j1 := cap_below k1 hW
    have j2 := cap_below k2 hW
    have j3 := cap_below k3 hW
    have hnf : ∀ k, ¬ Ft b bi bl (w.heap.size + k) := fun k hk => by have := hft _ hk; omega
    refine (iStep_any b bi bl l s _ _ _ S' W (h.below hbW) (fun e => (mayAppend_ok e).1) ok.steps hen (fun l1 W2 hr _ hI hc => ?_)).mono ?_
    · have m1 := cap_chg j1 hc (fun e => by have := hft b (.inl rfl); omega)
      have m2 := cap_chg j2 hc (fun e => by have := hft b (.inl rfl); omega)
      have m3 := cap_chg j3 hc (fun e => by have := hft b (.inl rfl); omega)
      rw [hS']
      have c9 := iAppendC_any b bi bl _ _ _ l1 _ p q W2 hI m1 m2 m3 hp (by rw [eL]; exact hn) hst (by rw [eL]; exact (mayAppend_ok hr).2) (by rw [eL]; exact calm_old hg p) (by rw [eL]; exact hsz)
      rw [eL] at c9
      exact c9
    · rintro e w' ⟨rfl, l5, h5, hc5⟩
      exact ⟨rfl, ⟨l5, h5, (Chg.of_below hbW).then hc5⟩, cap_chg j1 hc5 (hnf 0), cap_chg j2 hc5 (hnf 1), cap_chg j3 hc5 (hnf 2)⟩
  generalize stepR s (mayAppendS s p q) S' = RES at ct ⊢
  generalize mayAppendS s p q = r at cm ct
  have HW1 := Lib.hid hW1
  clear h hg ok hS' hst eL hn hft hb1 hb2 hb3 hen
  go_enter Tryz.func80, Tryz.ntmps80
  go_wp2_with fail
  rw [← HW1.out]
  refine Rg.wp_only ?_ (regAppend _ (by kernel_rfl) _ w.heap.size (w.heap.size + 1) (w.heap.size + 1 + 1) (.pointer (some ⟨b, 0, none⟩)) p q r RES.1 W1 (fun W => Below W1.heap.size W1 W) (fun W => Ip b bi bl w RES.2 W ∧ Cap W w.heap.size (.pointer (some ⟨b, 0, none⟩)) ∧ Cap W (w.heap.size + 1) (.string p) ∧ Cap W (w.heap.size + 1 + 1) (.string q)) ⟨k1, k2, k3⟩ (cm.mono (fun e w' he => ⟨he.1, (Below.refl _ W1).drew.trans he.2⟩)) (fun W hW => ⟨cap_below k1 hW, cap_below k2 hW, cap_below k3 hW⟩) ct (fun W hW => hW.2))
  rintro _ w9 ⟨rfl, h9⟩
  go_wp2_with fail
  go_ret
  exact ⟨rfl, h9.1⟩
set_option maxRecDepth 100000 in
set_option maxHeartbeats 2000000 in
theorem iSync_any (b bi bl : Nat) (l : Int) (s : St) (p : ByteArray) (w : World) (h : Ia b bi bl l w s) (hg : Good s) (ok : Ok s) (hp : p.size ≤ 8000000000000) :
    Calls Tryz.prog 81 #[.pointer (some ⟨b, 0, none⟩), .string p] w fun e w' => e = .returned (.int .i64 ((syncS s p).1 : Nat)) ∧ Ip b bi bl w (syncS s p).2 w' := by
  have hft := h.lt
  have hn := ok.fit.1
  have hst : (done s).2.stamps ≤ 1000000000000 := by rw [done_stamps]; exact ok.stamps
  have eL := done_L s
  rw [sync_step]
  obtain ⟨S', hS'⟩ : ∃ S', S' = { (done s).2 with L := ins (done s).2.L { old s.L p with kept := (old s.L p).data, loose := false, anew := false } } := ⟨_, rfl⟩
  rw [← hS']
  have hb1 := (Below.refl w.heap.size w).alloc (Nat.le_refl _) (.cells #[.pointer (some ⟨b, 0, none⟩)] 23)
  have k1 := cap_new w (.pointer (some ⟨b, 0, none⟩)) 23
  have k2 := cap_new (w.alloc (.cells #[.pointer (some ⟨b, 0, none⟩)] 23)) (.string p) 9
  have hs1 : (w.alloc (.cells #[.pointer (some ⟨b, 0, none⟩)] 23)).heap.size = w.heap.size + 1 := by simp
  rw [hs1] at k2
  have hb2 := hb1.alloc (by simp) (.cells #[.string p] 9)
  have k1 := cap_below k1 ((Below.refl _ _).alloc (Nat.le_refl _) (.cells #[.string p] 9))
  obtain ⟨W1, hW1⟩ : ∃ W1, W1 = ((w.alloc (.cells #[.pointer (some ⟨b, 0, none⟩)] 23)).alloc (.cells #[.string p] 9)) := ⟨_, rfl⟩
  rw [← hW1] at k1 k2 hb2
  have hb3 : Below w.heap.size w W1.drew := hb2.drew
  have cm := iMaySync_any b bi bl l s p W1.drew (h.below hb3) hp
  have hen : ∀ W, (callFunc 117 #[.pointer (some ⟨w.heap.size, 0, none⟩), .pointer (some ⟨w.heap.size + 1, 0, none⟩)]).run Tryz.prog W = .ok (.enter 117 #[.pointer (some ⟨w.heap.size, 0, none⟩), .pointer (some ⟨w.heap.size + 1, 0, none⟩)]) W :=
    fun W => Rg.enters Tryz.func117 (by kernel_rfl) (by kernel_rfl) _ W
  have ct : ∀ W, Below W1.heap.size W1 W → Calls Tryz.prog 59 #[.pointer (some ⟨b, 0, none⟩), .int .i64 (there s p : Nat), .func (.func 117) #[] #[.pointer (some ⟨w.heap.size, 0, none⟩), .pointer (some ⟨w.heap.size + 1, 0, none⟩)]] W fun e w' => e = .returned (.int .i64 ((stepR s (there s p) S').1 : Nat)) ∧
      (Ip b bi bl w (stepR s (there s p) S').2 w' ∧ Cap w' w.heap.size (.pointer (some ⟨b, 0, none⟩)) ∧ Cap w' (w.heap.size + 1) (.string p)) := by
    intro W hW
    have hbW := below_call hb2 hW
    have j1 := cap_below k1 hW
    have j2 := cap_below k2 hW
    have hnf : ∀ k, ¬ Ft b bi bl (w.heap.size + k) := fun k hk => by have := hft _ hk; omega
    refine (iStep_any b bi bl l s _ _ _ S' W (h.below hbW) (fun e => (there_kind e).1) ok.steps hen (fun l1 W2 hr _ hI hc => ?_)).mono ?_
    · have m1 := cap_chg j1 hc (fun e => by have := hft b (.inl rfl); omega)
      have m2 := cap_chg j2 hc (fun e => by have := hft b (.inl rfl); omega)
      rw [hS']
      have c9 := iSyncC_any b bi bl _ _ l1 _ p W2 hI m1 m2 hp (by rw [eL]; exact hn) (by rw [eL]; exact (there_kind hr).2)
      rw [eL] at c9 ⊢
      exact c9
    · rintro e w' ⟨rfl, l5, h5, hc5⟩
      exact ⟨rfl, ⟨l5, h5, (Chg.of_below hbW).then hc5⟩, cap_chg j1 hc5 (hnf 0), cap_chg j2 hc5 (hnf 1)⟩
  generalize stepR s (there s p) S' = RES at ct ⊢
  generalize there s p = r at cm ct
  have HW1 := Lib.hid hW1
  clear h hg ok hS' hst eL hn hft hb1 hb2 hb3 hen
  go_enter Tryz.func81, Tryz.ntmps81
  go_wp2_with fail
  rw [← HW1.out]
  refine Rg.wp_only ?_ (regSync _ (by kernel_rfl) _ w.heap.size (w.heap.size + 1) (.pointer (some ⟨b, 0, none⟩)) p r RES.1 W1 (fun W => Below W1.heap.size W1 W) (fun W => Ip b bi bl w RES.2 W ∧ Cap W w.heap.size (.pointer (some ⟨b, 0, none⟩)) ∧ Cap W (w.heap.size + 1) (.string p)) ⟨k1, k2⟩ (cm.mono (fun e w' he => ⟨he.1, (Below.refl _ W1).drew.trans he.2⟩)) (fun W hW => ⟨cap_below k1 hW, cap_below k2 hW⟩) ct (fun W hW => hW.2))
  rintro _ w9 ⟨rfl, h9⟩
  go_wp2_with fail
  go_ret
  exact ⟨rfl, h9.1⟩
set_option maxRecDepth 100000 in
set_option maxHeartbeats 2000000 in
theorem iRename_any (b bi bl : Nat) (l : Int) (s : St) (p q : ByteArray) (w : World) (h : Ia b bi bl l w s) (hg : Good s) (ok : Ok s) (hp : p.size ≤ 8000000000000) (hq : q.size ≤ 8000000000000) :
    Calls Tryz.prog 119 #[.pointer (some ⟨b, 0, none⟩), .string p, .string q] w fun e w' => e = .returned (.int .i64 ((renameS s p q).1 : Nat)) ∧ Ip b bi bl w (renameS s p q).2 w' := by
  have hft := h.lt
  have hn := ok.fit.1
  have hst : (done s).2.stamps ≤ 1000000000000 := by rw [done_stamps]; exact ok.stamps
  have eL := done_L s
  rw [rename_step hg]
  obtain ⟨S', hS'⟩ : ∃ S', S' = putS { (done s).2 with L := drop (done s).2.L p } { old s.L p with path := q } := ⟨_, rfl⟩
  rw [← hS']
  have hb1 := (Below.refl w.heap.size w).alloc (Nat.le_refl _) (.cells #[.pointer (some ⟨b, 0, none⟩)] 23)
  have k1 := cap_new w (.pointer (some ⟨b, 0, none⟩)) 23
  have k2 := cap_new (w.alloc (.cells #[.pointer (some ⟨b, 0, none⟩)] 23)) (.string p) 9
  have hs1 : (w.alloc (.cells #[.pointer (some ⟨b, 0, none⟩)] 23)).heap.size = w.heap.size + 1 := by simp
  rw [hs1] at k2
  have hb2 := hb1.alloc (by simp) (.cells #[.string p] 9)
  have k1 := cap_below k1 ((Below.refl _ _).alloc (Nat.le_refl _) (.cells #[.string p] 9))
  have k3 := cap_new ((w.alloc (.cells #[.pointer (some ⟨b, 0, none⟩)] 23)).alloc (.cells #[.string p] 9)) (.string q) 9
  have hs2 : ((w.alloc (.cells #[.pointer (some ⟨b, 0, none⟩)] 23)).alloc (.cells #[.string p] 9)).heap.size = w.heap.size + 1 + 1 := by simp
  rw [hs2] at k3
  have hb2 := hb2.alloc (by simp; omega) (.cells #[.string q] 9)
  have k1 := cap_below k1 ((Below.refl _ _).alloc (Nat.le_refl _) (.cells #[.string q] 9))
  have k2 := cap_below k2 ((Below.refl _ _).alloc (Nat.le_refl _) (.cells #[.string q] 9))
  obtain ⟨W1, hW1⟩ : ∃ W1, W1 = ((w.alloc (.cells #[.pointer (some ⟨b, 0, none⟩)] 23)).alloc (.cells #[.string p] 9)).alloc (.cells #[.string q] 9) := ⟨_, rfl⟩
  rw [← hW1] at k1 k2 k3 hb2
  have hb3 : Below w.heap.size w W1.drew := hb2.drew
  have cm := iMayRename_any b bi bl l s p q W1.drew (h.below hb3) hg.rises ok.fit hp hq
  have hen : ∀ W, (callFunc 150 #[.pointer (some ⟨w.heap.size, 0, none⟩), .pointer (some ⟨w.heap.size + 1, 0, none⟩), .pointer (some ⟨w.heap.size + 1 + 1, 0, none⟩)]).run Tryz.prog W = .ok (.enter 150 #[.pointer (some ⟨w.heap.size, 0, none⟩), .pointer (some ⟨w.heap.size + 1, 0, none⟩), .pointer (some ⟨w.heap.size + 1 + 1, 0, none⟩)]) W :=
    fun W => Rg.enters Tryz.func150 (by kernel_rfl) (by kernel_rfl) _ W
  have ct : ∀ W, Below W1.heap.size W1 W → Calls Tryz.prog 59 #[.pointer (some ⟨b, 0, none⟩), .int .i64 (mayRenS s p q : Nat), .func (.func 150) #[] #[.pointer (some ⟨w.heap.size, 0, none⟩), .pointer (some ⟨w.heap.size + 1, 0, none⟩), .pointer (some ⟨w.heap.size + 1 + 1, 0, none⟩)]] W fun e w' => e = .returned (.int .i64 ((stepR s (mayRenS s p q) S').1 : Nat)) ∧
      (Ip b bi bl w (stepR s (mayRenS s p q) S').2 w' ∧ Cap w' w.heap.size (.pointer (some ⟨b, 0, none⟩)) ∧ Cap w' (w.heap.size + 1) (.string p) ∧ Cap w' (w.heap.size + 1 + 1) (.string q)) := by
    intro W hW
    have hbW := below_call hb2 hW
    have j1 := cap_below k1 hW
    have j2 := cap_below k2 hW
    have j3 := cap_below k3 hW
    have hnf : ∀ k, ¬ Ft b bi bl (w.heap.size + k) := fun k hk => by have := hft _ hk; omega
    refine (iStep_any b bi bl l s _ _ _ S' W (h.below hbW) (fun e => (mayRen_ok e).1) ok.steps hen (fun l1 W2 hr _ hI hc => ?_)).mono ?_
    · have m1 := cap_chg j1 hc (fun e => by have := hft b (.inl rfl); omega)
      have m2 := cap_chg j2 hc (fun e => by have := hft b (.inl rfl); omega)
      have m3 := cap_chg j3 hc (fun e => by have := hft b (.inl rfl); omega)
      rw [hS']
      have c9 := iRenameC_any b bi bl _ _ _ l1 _ p q W2 hI (by rw [eL]; exact hg.rises) m1 m2 m3 hp hq (by rw [eL]; exact hn) hst (by rw [eL]; exact (mayRen_ok hr).2)
      rw [eL] at c9 ⊢
      exact c9
    · rintro e w' ⟨rfl, l5, h5, hc5⟩
      exact ⟨rfl, ⟨l5, h5, (Chg.of_below hbW).then hc5⟩, cap_chg j1 hc5 (hnf 0), cap_chg j2 hc5 (hnf 1), cap_chg j3 hc5 (hnf 2)⟩
  generalize stepR s (mayRenS s p q) S' = RES at ct ⊢
  generalize mayRenS s p q = r at cm ct
  have HW1 := Lib.hid hW1
  clear h hg ok hS' hst eL hn hft hb1 hb2 hb3 hen
  go_enter Tryz.func119, Tryz.ntmps119
  go_wp2_with fail
  rw [← HW1.out]
  refine Rg.wp_only ?_ (regRename _ (by kernel_rfl) _ w.heap.size (w.heap.size + 1) (w.heap.size + 1 + 1) (.pointer (some ⟨b, 0, none⟩)) p q r RES.1 W1 (fun W => Below W1.heap.size W1 W) (fun W => Ip b bi bl w RES.2 W ∧ Cap W w.heap.size (.pointer (some ⟨b, 0, none⟩)) ∧ Cap W (w.heap.size + 1) (.string p) ∧ Cap W (w.heap.size + 1 + 1) (.string q)) ⟨k1, k2, k3⟩ (cm.mono (fun e w' he => ⟨he.1, (Below.refl _ W1).drew.trans he.2⟩)) (fun W hW => ⟨cap_below k1 hW, cap_below k2 hW, cap_below k3 hW⟩) ct (fun W hW => hW.2))
  rintro _ w9 ⟨rfl, h9⟩
  go_wp2_with fail
  go_ret
  exact ⟨rfl, h9.1⟩
end Go.Proofs.YtdkgkomjbpggeaaGreatDoor.Dk

namespace Go.Proofs.YtdkgkomjbpggeaaGreatDoor.Dk
open Go.RowKit Tx Pm Pl Pr
set_option linter.unusedVariables false
end Go.Proofs.YtdkgkomjbpggeaaGreatDoor.Dk

namespace Go.Proofs.YtdkgkomjbpggeaaGreatDoor.Dk
open Go.RowKit Tx Pm Pl Pr
set_option linter.unusedVariables false
end Go.Proofs.YtdkgkomjbpggeaaGreatDoor.Dk

namespace Go.Proofs.YtdkgkomjbpggeaaGreatDoor.Dk
open Go.RowKit Tx Pm Pl Pr
set_option linter.unusedVariables false
theorem read_old {s : St} (hg : Good s) (p : ByteArray) (hd : s.down = false) : readS s p = ((old s.L p).data, mbf s.L p) := by
  unfold readS mbf kind old
  rw [hd, if_neg (by decide)]
  cases hf : find s.L p with
  | none => rfl
  | some x =>
    unfold kindOf
    simp only [Option.getD_some]
    by_cases hx : x.dir = true
    · rw [(hg.dirs x (find_mem hf).1 hx).1]
      simp [hx]
    · simp [hx]
set_option maxRecDepth 100000 in
set_option maxHeartbeats 1000000 in
theorem iRead_any (b bi bl : Nat) (l : Int) (s : St) (p : ByteArray) (w : World) (h : Ia b bi bl l w s) (hg : Good s) (hp : p.size ≤ 8000000000000) :
    Calls Tryz.prog 62 #[.pointer (some ⟨b, 0, none⟩), .string p] w fun e w' => e = .returned (.tuple #[.string (readS s p).1, .int .i64 ((readS s p).2 : Nat)]) ∧ Below w.heap.size w w' := by
  have cm := fun n => iMbf_any b bi bl l s p (w.drewN n) (h.below (below_drewN _ _)) hp
  have hl := fun n => (h.below (below_drewN w n)).look (maxLen_of hp)
  obtain ⟨c0, c1, c2, c3, c4, c5⟩ := h.cell
  have hro := read_old hg p
  have hrd : s.down = true → readS s p = (⟨#[]⟩, 14) := fun e => by unfold readS; rw [if_pos e]
  have f1 := fld1
  generalize (old s.L p).data = X0 at hl hro
  generalize (old s.L p).kept = X1 at hl
  generalize stOf (old s.L p) = X2 at hl
  generalize ((old s.L p).stamp : Int) = X3 at hl
  generalize kind s.L p = K at hl
  generalize mbf s.L p = M at cm hro
  generalize readS s p = R at hro hrd ⊢
  generalize s.down = D at c5 hro hrd
  clear h hg c1 c2 c3 c4
  have HB := Lib.hid (fun n => below_drewN w n)
  cases D with
  | true =>
    rw [hrd rfl]
    clear hro hrd cm hl
    go_enter Tryz.func62, Tryz.ntmps62
    go_wp2
    go_ret2
    exact ⟨rfl, Below.refl _ _⟩
  | false =>
    rw [hro rfl]
    clear hro hrd
    go_enter Tryz.func62, Tryz.ntmps62
    go_wp2_with fail
    have hl0 := hl
    go_quiet ((go_at_call 95; exact (cm _).mono (fun _ _ ⟨he, hw⟩ => ⟨he, _, hw.symm⟩)))
    go_wp2
    go_ret2
    exact ⟨rfl, HB.out _⟩
set_option maxRecDepth 100000 in
theorem iNew_any (w : World) : Calls Tryz.prog 6 #[] w fun e w' => ∃ b bi bl, e = .returned (.pointer (some ⟨b, 0, none⟩)) ∧ Ia b bi bl (-1) w' newS ∧ (∀ i, Ft b bi bl i → w.heap.size ≤ i) ∧ Below w.heap.size w w' := by
  have hmm := @run_makeMap Tryz.prog
  have b1 := (Below.refl w.heap.size w).alloc (Nat.le_refl _) (.map #[] 0)
  have b2 := b1.alloc (by simp) (.map #[] 0)
  have b3 := b2.alloc (by simp; omega) (.cells #[.map (some w.heap.size), .map (some (w.heap.size + 1)), .int .i64 (-1), .int .i64 0, .int .i64 0, .bool false] 62)
  have hI : Ia (w.heap.size + 1 + 1) w.heap.size (w.heap.size + 1) (-1) (((w.alloc (.map #[] 0)).alloc (.map #[] 0)).alloc (.cells #[.map (some w.heap.size), .map (some (w.heap.size + 1)), .int .i64 (-1), .int .i64 0, .int .i64 0, .bool false] 62)) newS := by
    refine ⟨new_at _ _ (by simp), ?_, ?_, by omega, .inr rfl, by omega⟩
    · refine (mp_made w).kept ?_
      have := (((Below.refl _ (w.alloc (.map #[] 0))).alloc (Nat.le_refl _) (.map #[] 0)).alloc (by simp) (.cells #[.map (some w.heap.size), .map (some (w.heap.size + 1)), .int .i64 (-1), .int .i64 0, .int .i64 0, .bool false] 62)).block w.heap.size (by simp)
      exact this
    · have hl := lm_made (w.alloc (.map #[] 0))
      have e : (w.alloc (.map #[] 0)).heap.size = w.heap.size + 1 := by simp
      rw [e] at hl
      refine hl.kept ?_
      have := ((Below.refl _ ((w.alloc (.map #[] 0)).alloc (.map #[] 0))).alloc (Nat.le_refl _) (.cells #[.map (some w.heap.size), .map (some (w.heap.size + 1)), .int .i64 (-1), .int .i64 0, .int .i64 0, .bool false] 62)).block (w.heap.size + 1) (by simp)
      exact this
  have HE := Lib.hid (show ∃ b bi bl, (Ending.returned (.pointer (some ⟨w.heap.size + 1 + 1, 0, none⟩))) = .returned (.pointer (some ⟨b, 0, none⟩)) ∧ Ia b bi bl (-1) (((w.alloc (.map #[] 0)).alloc (.map #[] 0)).alloc (.cells #[.map (some w.heap.size), .map (some (w.heap.size + 1)), .int .i64 (-1), .int .i64 0, .int .i64 0, .bool false] 62)) newS ∧ (∀ i, Ft b bi bl i → w.heap.size ≤ i) ∧ Below w.heap.size w (((w.alloc (.map #[] 0)).alloc (.map #[] 0)).alloc (.cells #[.map (some w.heap.size), .map (some (w.heap.size + 1)), .int .i64 (-1), .int .i64 0, .int .i64 0, .bool false] 62)) from
    ⟨_, _, _, rfl, hI, fun i hi => by rcases hi with rfl | rfl | rfl <;> omega, b3⟩)
  clear hI b1 b2 b3
  go_enter Tryz.func6, Tryz.ntmps6
  go_wp2
  go_ret
  exact HE.out
end Go.Proofs.YtdkgkomjbpggeaaGreatDoor.Dk
