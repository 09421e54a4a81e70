/- The library's sort of texts; Diff: mathematics. -/
import Derived.Test.YthokkobmlhbfgaaTI15
import Derived.Shelf.Slices.In.SortNone
import Derived.Sort.OwnSorted
namespace Go.Proofs.Ythokkobmlhbfgaa.En
open Go.RowKit Tx Pm Pr Go.Sort Go.Lib Go.Shelf
set_option linter.unusedVariables false

theorem less_iff (a b : ByteArray) : less a b = decide (a.data.toList < b.data.toList) := by
  unfold less
  rw [bytesLess_eq, ByteArray.toList_eq, ByteArray.toList_eq]
theorem merge_sorted (l : List (List UInt8)) : (l.mergeSort fun x y => decide (x ≤ y)).Pairwise (fun a b => ¬ b < a) := by
  have h := List.pairwise_mergeSort (le := fun x y : List UInt8 => decide (x ≤ y)) (fun a b c h1 h2 => decide_eq_true (List.le_trans (of_decide_eq_true h1) (of_decide_eq_true h2))) (fun a b => by
    rcases List.le_total a b with h | h
    · simp [h]
    · simp [h]) l
  exact h.imp (fun hab => of_decide_eq_true hab)
theorem encS (l : List ByteArray) : (l.map (·.data.toList)).map encStr = l.map sv := by
  rw [List.map_map]
  refine List.map_congr_left (fun x _ => ?_)
  rfl
theorem encT (l : List (List UInt8)) : l.map encStr = (l.map tb).map sv := by
  rw [List.map_map]
  rfl
theorem below_sortS {w : World} {B g q : Nat} {d : Array (List UInt8)} {os : Array Obj} (hg : B ≤ g) (hB : B ≤ w.heap.size) : RowKit.Below B w (grow (putRow encStr (Sort.ahead w q) g 0 d) os) := by
  have h1 : RowKit.Below B w (putRow encStr (Sort.ahead w q) g 0 d) := Lib.below_putRow (RowKit.Below.refl B w) hg
  refine ⟨h1.os, h1.tape, h1.output, by simp, fun k hk => ?_⟩
  rw [heap_grow_old _ _ (by have h2 : (putRow encStr (Sort.ahead w q) g 0 d).heap.size = w.heap.size := by simp
                            omega)]
  exact h1.block k hk

set_option maxRecDepth 100000 in
set_option maxHeartbeats 1000000 in
theorem sortS_any (v : Value) (ss : List ByteArray) (w : World) (B : Nat) (hT : Texts w B v ss) (hB : B ≤ w.heap.size) (hn : ss.length ≤ 4000000000) :
    Calls Try.prog 42 #[v] w fun e w' => e = .returned (.tuple #[]) ∧ ∃ ts : List ByteArray, ts.Perm ss ∧ ts.Pairwise (fun a b => less b a = false) ∧ Texts w' B v ts ∧ RowKit.Below B w w' := by
  have hT2 := hT
  obtain ⟨hlen, h2⟩ := hT2
  rcases h2 with ⟨hv, h0⟩ | ⟨g, cap, cur, hv, hb, hg, hc, hm, hs, ht⟩
  · subst hv
    obtain rfl : ss = [] := List.length_eq_zero_iff.1 h0
    have h := Any.slices_Sort_string_none Try.sortS none 0 w
    change Calls Try.prog 42 _ _ _ at h
    refine h.mono ?_
    rintro e w' ⟨rfl, rfl⟩
    exact ⟨rfl, [], List.Perm.refl _, List.Pairwise.nil, hT, RowKit.Below.refl _ _⟩
  · subst hv
    have hlt : g < w.heap.size := (Array.getElem?_eq_some_iff.1 hg).1
    obtain ⟨zs, hz⟩ : ∃ zs, zs = ss.map (·.data.toList) := ⟨_, rfl⟩
    have hzl : zs.length = ss.length := by rw [hz, List.length_map]
    have hH : Holds encStr w g 0 zs.toArray := holds_of_block hg (by
      rw [Nat.mul_one] at ht
      rw [hzl, ht, hz, encS])
    have h := Any.slices_Sort_string Try.sortS g 0 cap zs w hH hlt (by omega)
    change Calls Try.prog 42 _ _ _ at h
    rw [hzl] at h
    refine h.mono ?_
    rintro e w' ⟨rfl, q, os, rfl⟩
    have hml : (zs.mergeSort fun x y => decide (x ≤ y)).length = zs.length := List.length_mergeSort zs
    refine ⟨rfl, (zs.mergeSort fun x y => decide (x ≤ y)).map tb, ?_, ?_, ?_, below_sortS hb hB⟩
    · have h1 := (List.mergeSort_perm zs (fun x y => decide (x ≤ y))).map tb
      have h2 : zs.map tb = ss := by
        rw [hz, List.map_map]
        conv => rhs; rw [← List.map_id ss]
        exact List.map_congr_left (fun x _ => tb_of x)
      rwa [h2] at h1
    · rw [List.pairwise_map]
      refine (merge_sorted zs).imp (fun hab => ?_)
      rw [less_iff]
      exact decide_eq_false hab
    · have h1 := ownsRow_sorted (ss := zs) (ts := zs.mergeSort fun x y => decide (x ≤ y)) (n := q) (os := os) hml hb hg (by rw [hzl]; exact hc) hm hs
      unfold Texts
      rw [List.length_map, hml, ← encT, hzl]
      rw [hzl] at h1
      exact h1

/-- Are two nodes alike? -/
def nsame (a b : Nd) : Bool := decide (a.kind = b.kind) && decide (a.data = b.data)
theorem nsame_iff (a b : Nd) : nsame a b = true ↔ a = b := by
  unfold nsame
  rw [Bool.and_eq_true, decide_eq_true_eq, decide_eq_true_eq]
  obtain ⟨k, d⟩ := a
  obtain ⟨k2, d2⟩ := b
  constructor
  · rintro ⟨h1, h2⟩
    simp only at h1 h2
    rw [h1, h2]
  · intro h
    injection h with h1 h2
    exact ⟨h1, h2⟩
def dif (l : List Et) (x : Et) : Bool := !nsame (tget l x.path) x.node
def gone (l : List Et) (x : Et) : Bool := isno (tget l x.path)
def pths (f : Et → Bool) (l : List Et) : List ByteArray := (l.filter f).map (·.path)
theorem pths_take (f : Et → Bool) (l : List Et) (k : Nat) (x : Et) (h : l[k]? = some x) : pths f (l.take (k + 1)) = pths f (l.take k) ++ (if f x = true then [x.path] else []) := by
  unfold pths
  rw [filter_take f l k x h, List.map_append]
  split <;> rfl
theorem pths_len (f : Et → Bool) (l : List Et) : (pths f l).length ≤ l.length := by
  unfold pths
  rw [List.length_map]
  exact List.length_filter_le _ _
theorem tree_diff {la lb : List Et} (ha : tcheck la = 0) (hb : tcheck lb = 0) {ts : List ByteArray} (hp : ts.Perm (pths (dif lb) la ++ pths (gone la) lb)) (hs : ts.Pairwise (fun a b => less b a = false)) : ts = tdiff la lb := by
  obtain ⟨d1, d2, _⟩ := tdiff_all la lb
  have hmem : ∀ p, p ∈ pths (dif lb) la ++ pths (gone la) lb ↔ tget la p ≠ tget lb p := by
    intro p
    rw [List.mem_append]
    unfold pths
    rw [List.mem_map, List.mem_map]
    constructor
    · rintro (⟨x, hx, rfl⟩ | ⟨x, hx, rfl⟩)
      · obtain ⟨h1, h2⟩ := List.mem_filter.1 hx
        unfold dif at h2
        rw [Bool.not_eq_true', ← Bool.not_eq_true, nsame_iff] at h2
        rw [tree_get ha h1]
        exact fun h => h2 h.symm
      · obtain ⟨h1, h2⟩ := List.mem_filter.1 hx
        unfold gone at h2
        rw [whole_no (tree_get_whole ha _), decide_eq_true_eq] at h2
        rw [tree_get hb h1]
        intro h
        rw [h] at h2
        obtain ⟨i, hi⟩ := List.getElem?_of_mem h1
        exact (tree_at hb hi).2.2.1 h2
    · intro hne
      by_cases hm : p ∈ la.map (·.path)
      · obtain ⟨x, hx, rfl⟩ := List.mem_map.1 hm
        left
        refine ⟨x, List.mem_filter.2 ⟨hx, ?_⟩, rfl⟩
        unfold dif
        rw [Bool.not_eq_true', ← Bool.not_eq_true, nsame_iff]
        rw [tree_get ha hx] at hne
        exact fun h => hne h.symm
      · right
        have hz := tget_zero (l := la) (p := p) (fun x hx e => hm (List.mem_map.2 ⟨x, hx, e⟩))
        by_cases hm2 : p ∈ lb.map (·.path)
        · obtain ⟨x, hx, rfl⟩ := List.mem_map.1 hm2
          refine ⟨x, List.mem_filter.2 ⟨hx, ?_⟩, rfl⟩
          unfold gone
          rw [hz]
          rfl
        · have hz2 := tget_zero (l := lb) (p := p) (fun x hx e => hm2 (List.mem_map.2 ⟨x, hx, e⟩))
          rw [hz, hz2] at hne
          exact absurd rfl hne
  have hnd : (pths (dif lb) la ++ pths (gone la) lb).Nodup := by
    refine List.nodup_append.2 ⟨?_, ?_, ?_⟩
    · exact (rise_nodup (tree_rises ha)).sublist (List.Sublist.map _ List.filter_sublist)
    · exact (rise_nodup (tree_rises hb)).sublist (List.Sublist.map _ List.filter_sublist)
    · intro p h1 q h2 e
      subst e
      obtain ⟨x, hx, hxp⟩ := List.mem_map.1 h1
      obtain ⟨y, hy, hyp⟩ := List.mem_map.1 h2
      have h3 := (List.mem_filter.1 hy).2
      unfold gone at h3
      rw [whole_no (tree_get_whole ha _), decide_eq_true_eq, hyp, ← hxp, tree_get ha (List.mem_filter.1 hx).1] at h3
      obtain ⟨i, hi⟩ := List.getElem?_of_mem (List.mem_filter.1 hx).1
      exact (tree_at ha hi).2.2.1 h3
  refine rise_ext _ _ ?_ d1 (fun p => by rw [hp.mem_iff, hmem, d2])
  exact (hs.and (hp.nodup_iff.2 hnd)).imp (fun hab => lt_le hab.1 hab.2)
end Go.Proofs.Ythokkobmlhbfgaa.En
