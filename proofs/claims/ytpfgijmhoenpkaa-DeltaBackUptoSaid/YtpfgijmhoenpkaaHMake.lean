/- Package delta's indexed: contract. -/
import Derived.Test.YtpfgijmhoenpkaaHIndex
import Derived.OwnWalk
namespace Go.Proofs.Ytpfgijmhoenpkaa.Dl
open Go.RowKit Wm Wr Dm
set_option linter.unusedVariables false

theorem infoI : (Try.prog.info? 3).map (fun i => (i.zero, i.size, i.bytes)) = some (some (.int .i64 0), 1, 8) := by kernel_rfl
theorem cell_same {w w1 : World} {b k : Nat} (h : w1.heap[b]? = w.heap[b]?) : w1.cell? ⟨b, k, none⟩ = w.cell? ⟨b, k, none⟩ := by
  unfold World.cell?
  simp only
  rw [h]
/-- Block b is the index of a base. -/
def Ix (w : World) (b : Nat) (base : ByteArray) : Prop := ∃ bm g n, w.cell? ⟨b, 0, none⟩ = some (.string base) ∧ w.cell? ⟨b, 1, none⟩ = some (.map (some bm)) ∧ w.cell? ⟨b, 2, none⟩ = some (.slice (some ⟨g, 0, none⟩) base.size base.size) ∧
  Mf w bm n (fs base.data.toList (Dm.pl base.data.toList) (Dm.pl base.data.toList)) ∧ g < w.heap.size ∧ b < w.heap.size ∧ ∀ i, i < base.size → w.cell? ⟨g, i, none⟩ = some (.int .i64 (nx base.data.toList i : Nat))
theorem Ix.below {w w1 : World} {b : Nat} {base : ByteArray} (h : Ix w b base) (hb : Below w.heap.size w w1) : Ix w1 b base := by
  obtain ⟨bm, g, n, h1, h2, h3, h4, h5, h6, h7⟩ := h
  exact ⟨bm, g, n, (hb.cell (p := ⟨b, 0, none⟩) h6).trans h1, (hb.cell (p := ⟨b, 1, none⟩) h6).trans h2, (hb.cell (p := ⟨b, 2, none⟩) h6).trans h3, h4.kept (hb.block _ h4.lt), Nat.lt_of_lt_of_le h5 hb.size, Nat.lt_of_lt_of_le h6 hb.size, fun i hi => (hb.cell (p := ⟨g, i, none⟩) h5).trans (h7 i hi)⟩

/-- The next places, k of them told. -/
def nxK (l : List UInt8) (k i : Nat) : Nat := if Dm.pl l - k ≤ i ∧ i < Dm.pl l then fs l (Dm.pl l) (Dm.pl l - 1 - i) (blk l i) else 0
def rowK (l : List UInt8) (k n : Nat) : List Value := (List.range n).map fun i => .int .i64 (nxK l k i : Nat)
theorem rowK_at (l : List UInt8) (k n i : Nat) (h : i < n) : (rowK l k n)[i]? = some (.int .i64 (nxK l k i : Nat)) := by
  unfold rowK
  rw [List.getElem?_map, List.getElem?_range h]
  rfl
theorem rowK_made (l : List UInt8) (n : Nat) : (madeCells (Value.int .i64 0).cells (n * 1)).toList = rowK l 0 n := by
  refine List.ext_getElem? fun i => ?_
  by_cases h : i < n
  · rw [rowK_at l 0 n i h]
    have e : nxK l 0 i = 0 := by unfold nxK; rw [if_neg (by omega)]
    rw [e]
    unfold madeCells
    have h1 : (Value.int .i64 0).cells = #[Value.int .i64 0] := rfl
    rw [h1, Nat.mul_one, Array.getElem?_toList, Array.getElem?_map]
    simp [Nat.mod_one, h]
  · rw [List.getElem?_eq_none (by simp [madeCells]; omega), List.getElem?_eq_none (by simp [rowK]; omega)]
theorem rowK_set (l : List UInt8) (k n j : Nat) (hj : j + 1 + k = Dm.pl l) (hn : j < n) : (rowK l k n).set j (.int .i64 (fs l (Dm.pl l) k (blk l j) : Nat)) = rowK l (k + 1) n := by
  refine List.ext_getElem? fun i => ?_
  rw [List.getElem?_set]
  by_cases h : j = i
  · subst h
    rw [if_pos rfl, if_pos (by unfold rowK; simp; exact hn), rowK_at l (k + 1) n j hn]
    have e : nxK l (k + 1) j = fs l (Dm.pl l) k (blk l j) := by
      unfold nxK
      rw [if_pos (by omega), show Dm.pl l - 1 - j = k by omega]
    rw [e]
  · rw [if_neg h]
    by_cases hi : i < n
    · rw [rowK_at _ _ _ _ hi, rowK_at _ _ _ _ hi]
      have e : nxK l (k + 1) i = nxK l k i := by
        unfold nxK
        by_cases h2 : Dm.pl l - k ≤ i ∧ i < Dm.pl l
        · rw [if_pos h2, if_pos (by omega)]
        · rw [if_neg h2, if_neg (by omega)]
      rw [e]
    · rw [List.getElem?_eq_none (by simp [rowK]; omega), List.getElem?_eq_none (by simp [rowK]; omega)]
theorem nxK_all (l : List UInt8) (i : Nat) : nxK l (Dm.pl l) i = nx l i := by
  unfold nxK nx
  by_cases h : i < Dm.pl l
  · rw [if_pos (by omega), if_pos h]
  · rw [if_neg (by omega), if_neg h]
theorem fs_next (l : List UInt8) (m k j : Nat) (hj : j + 1 + k = m) : (fun q => if q = blk l j then j + 1 else fs l m k q) = fs l m (k + 1) := by
  funext q
  rw [fs]
  have e : m - 1 - k = j := by omega
  rw [e]
  by_cases h : q = blk l j
  · rw [if_pos h, if_pos h.symm]
  · rw [if_neg h, if_neg (fun e => h e.symm)]

set_option maxRecDepth 100000 in
set_option maxHeartbeats 4000000 in
theorem indexed_any (base : ByteArray) (w : World) (hb : base.size ≤ 1000000000000) :
    Calls Try.prog 13 #[.string base] w fun e w' => ∃ b, e = .returned (.pointer (some ⟨b, 0, none⟩)) ∧ Ix w' b base ∧ Below w.heap.size w w' := by
  obtain ⟨i0, hi, hz0, hz1, hz2⟩ := info_parts infoI
  have hmm := @run_makeMap Try.prog
  have hbl := Wm.len_l base
  have hpl : Dm.pl base.data.toList = base.size - 3 := by unfold Dm.pl; rw [hbl]
  generalize hm : Dm.pl base.data.toList = m at hpl
  have HM := Lib.hid hm
  have HMF := Lib.hid (mf_made w)
  have hBm : Below w.heap.size w (w.alloc (.map #[] 0)) := (Below.refl _ w).alloc (Nat.le_refl _) _
  clear hm hbl
  go_enter Try.func13, Try.ntmps13
  go_wp2_with (at_make; refine wpList_make_full _ rfl _ _ _ rfl w.heap.size 3 i0 (.int .i64 0) 1 Try.underlying53 hi hz0 hz1 _ _ _ _ base.size rfl rfl rfl rfl (by rw [hz2]; omega) (by unfold maxLen; omega) hBm.size ?_)
  intro w2 hown2 hgrow2
  have hown2 : w2.ownsRow w.heap.size 3 1 (.slice (some ⟨w.heap.size + 1, 0, none⟩) base.size base.size) base.size (rowK base.data.toList 0 base.size) := by
    rw [← rowK_made, Nat.mul_one]
    simpa [Value.cells] using hown2
  have hgrow3 := hgrow2
  have hB2 : Below w.heap.size w w2 := hBm.grown hgrow2 hBm.size (fun k hk => by cases hk)
  have hM2 : Mf w2 w.heap.size 0 (fun _ => 0) := HMF.out.kept (hgrow2.block w.heap.size (by simp) (by simp))
  have hg2 : w.heap.size + 1 < w2.heap.size := by
    rcases hown2.2 with ⟨h', _⟩ | ⟨g', _, _, h', _, hh, _⟩
    · cases h'
    · injection h' with h' _ _
      injection h' with h'
      injection h' with h'
      rw [h']
      exact (Array.getElem?_eq_some_iff.1 hh).1
  have HO2 := Lib.hid hown2
  have hB3 : Below w.heap.size w (w2.alloc (.cells #[.string base, .map (some w.heap.size), .slice (some ⟨w.heap.size + 1, 0, none⟩) base.size base.size] 55)) := hB2.alloc hB2.size _
  have hM3 : Mf (w2.alloc (.cells #[.string base, .map (some w.heap.size), .slice (some ⟨w.heap.size + 1, 0, none⟩) base.size base.size] 55)) w.heap.size 0 (fs base.data.toList m 0) := hM2.kept (heap_alloc_old w2 _ hM2.lt)
  have hO3 := HO2.out.alloc (.cells #[.string base, .map (some w.heap.size), .slice (some ⟨w.heap.size + 1, 0, none⟩) base.size base.size] 55)
  have a0 : (w2.alloc (.cells #[.string base, .map (some w.heap.size), .slice (some ⟨w.heap.size + 1, 0, none⟩) base.size base.size] 55)).cell? ⟨w2.heap.size, 0, none⟩ = some (.string base) := by go_simp
  have a1 : (w2.alloc (.cells #[.string base, .map (some w.heap.size), .slice (some ⟨w.heap.size + 1, 0, none⟩) base.size base.size] 55)).cell? ⟨w2.heap.size, 1, none⟩ = some (.map (some w.heap.size)) := by go_simp
  have a2 : (w2.alloc (.cells #[.string base, .map (some w.heap.size), .slice (some ⟨w.heap.size + 1, 0, none⟩) base.size base.size] 55)).cell? ⟨w2.heap.size, 2, none⟩ = some (.slice (some ⟨w.heap.size + 1, 0, none⟩) base.size base.size) := by go_simp
  have hlt3 : w2.heap.size < (w2.alloc (.cells #[.string base, .map (some w.heap.size), .slice (some ⟨w.heap.size + 1, 0, none⟩) base.size base.size] 55)).heap.size := by simp
  clear hown2 hgrow2 hgrow3 HO2 hM2 HMF hBm hmm hB2
  go_wp2_with fail
  generalize w2.alloc (.cells #[.string base, .map (some w.heap.size), .slice (some ⟨w.heap.size + 1, 0, none⟩) base.size base.size] 55) = W3 at hB3 hM3 hO3 a0 a1 a2 hlt3 ⊢
  obtain ⟨b, hbq⟩ : ∃ b, b = w2.heap.size := ⟨_, rfl⟩
  rw [← hbq] at a0 a1 a2 hlt3 hg2 ⊢
  clear hbq
  obtain ⟨bm, hbm⟩ : ∃ bm, bm = w.heap.size := ⟨_, rfl⟩
  obtain ⟨g, hg⟩ : ∃ g, g = w.heap.size + 1 := ⟨_, rfl⟩
  have hne : bm ≠ g := by omega
  have hne2 : b ≠ g := by omega
  have hne3 : b ≠ bm := by omega
  have hbb : w.heap.size ≤ bm := by omega
  have hbg : w.heap.size ≤ g := by omega
  rw [← hg] at a2 hO3
  rw [← hbm] at a1 hM3
  have HA0 := Lib.hid a0
  have HA1 := Lib.hid a1
  have HA2 := Lib.hid a2
  clear hg hbm a0 a1 a2 hg2
  go_loopw [4] (fun av wr => ∃ (k n : Nat) (z : Int), av = .int .i64 z ∧ z = (base.size : Int) - 4 - (k : Int) ∧ k ≤ m ∧ n ≤ k ∧ Mf wr bm n (fs base.data.toList m k) ∧ wr.ownsRow w.heap.size 3 1 (.slice (some ⟨g, 0, none⟩) base.size base.size) base.size (rowK base.data.toList k base.size) ∧ wr.heap[b]? = W3.heap[b]? ∧ Below w.heap.size w wr) (fun av _ => (intOf av + 1).toNat)
  case atStart => exact ⟨0, 0, _, rfl, by omega, Nat.zero_le _, Nat.zero_le _, hM3, hO3, rfl, hB3⟩
  case round =>
    obtain ⟨k, n, z, rfl, hz, hk, hnk, hMr, hOr, hbr, hBr⟩ := hrel
    have c0 := (cell_same (k := 0) hbr).trans HA0.out
    have c1 := (cell_same (k := 1) hbr).trans HA1.out
    have c2 := (cell_same (k := 2) hbr).trans HA2.out
    by_cases hz0 : 0 ≤ z
    · obtain ⟨j, rfl⟩ : ∃ j : Nat, z = (j : Int) := ⟨z.toNat, by omega⟩
      have hj : j + 1 + k = m := by omega
      have hj3 : j + 3 < base.size := by omega
      have cb := block_any base j wr (by unfold maxLen; omega) hj3
      have hKl := blk_lt base.data.toList j
      have hfe := fs_le base.data.toList m k (blk base.data.toList j) (by omega)
      have hset := rowK_set base.data.toList k base.size j (by rw [HM.out]; exact hj) (by omega)
      rw [HM.out] at hset
      have hfn := fs_next base.data.toList m k j hj
      have HSET := Lib.hid hset
      have HFN := Lib.hid hfn
      generalize blk base.data.toList j = K at cb hKl hfe HSET HFN
      clear hset hfn hz
      obtain ⟨V, hV⟩ : ∃ V, V = fs base.data.toList m k K := ⟨_, rfl⟩
      go_wp2_with fail
      go_at_call 23
      refine cb.mono ?_
      rintro e w5 ⟨rfl, hb5⟩
      have hM5 := hMr.kept (hb5.block _ hMr.lt)
      have hbl : b < wr.heap.size := World.block_lt_of_cell? wr _ c0
      have hb5e := hb5.block b hbl
      have hO5 : w5.drew.ownsRow w.heap.size 3 1 (.slice (some ⟨g, 0, none⟩) base.size base.size) base.size (rowK base.data.toList k base.size) := by
        refine ⟨hOr.1, ?_⟩
        rcases hOr.2 with h0 | ⟨g', cap', cur, hv, hg', hh, r⟩
        · exact .inl h0
        · exact .inr ⟨g', cap', cur, hv, hg', (hb5.block g' (Array.getElem?_eq_some_iff.1 hh).1).trans hh, r⟩
      have d1 : w5.drew.cell? ⟨b, 1, none⟩ = some (.map (some bm)) := (cell_same (k := 1) hb5e).trans c1
      have d2 : w5.drew.cell? ⟨b, 2, none⟩ = some (.slice (some ⟨g, 0, none⟩) base.size base.size) := (cell_same (k := 2) hb5e).trans c2
      have hlk := Mf.look (w := w5.drew) hM5 hKl
      rw [← hV] at hlk hfe
      have hcell : w5.drew.cell? ⟨g, j, none⟩ = some (.int .i64 (nxK base.data.toList k j : Nat)) := by
        have := hO5.cells (g := g) rfl j _ (rowK_at base.data.toList k base.size j (by omega))
        rw [WideShapes.add_plain, Nat.zero_add] at this
        exact this
      have hfr : w5.drew.frozen? ⟨g, j, none⟩ = false := hO5.frozenAt j
      have hst := hO5.stored j (.int .i64 (V : Int))
      have hB5 := (Wr.below_call hBr hb5).drew
      have hM6 : Mf (w5.drew.setCell ⟨g, j, none⟩ (.int .i64 (V : Int))) bm n (fs base.data.toList m k) := Mf.kept (w := w5.drew) hM5 (hst.2.block bm hM5.lt (fun e => hne (by injection e)))
      have hb6 : (w5.drew.setCell ⟨g, j, none⟩ (.int .i64 (V : Int))).heap[b]? = wr.heap[b]? := (hst.2.block b (Nat.lt_of_lt_of_le hbl hb5.size) (fun e => hne2 (by injection e))).trans hb5e
      have f1 := (cell_same (k := 1) hb6).trans c1
      obtain ⟨w7, hrun, hM7, hg7⟩ := hM6.store (k := K) (v := j + 1) hKl (by omega) (by unfold maxLen; omega)
      rw [HFN.out] at hM7
      have hO7 : w7.ownsRow w.heap.size 3 1 (.slice (some ⟨g, 0, none⟩) base.size base.size) base.size (rowK base.data.toList (k + 1) base.size) := by
        have ho := hst.1
        rw [hV, HSET.out, ← hV] at ho
        refine ⟨ho.1, ?_⟩
        rcases ho.2 with h0 | ⟨g', cap', cur, hv, hg', hh, r⟩
        · exact .inl h0
        · have hgg : g' = g := by injection hv with hv _ _; injection hv with hv; injection hv with hv; exact hv.symm
          exact .inr ⟨g', cap', cur, hv, hg', (hg7.block g' (Array.getElem?_eq_some_iff.1 hh).1 (fun e => hne (by injection e with e; rw [← e, hgg]))).trans hh, r⟩
      have hbl6 : b < (w5.drew.setCell ⟨g, j, none⟩ (.int .i64 (V : Int))).heap.size := World.block_lt_of_cell? _ _ f1
      have hb7 : w7.heap[b]? = W3.heap[b]? := ((hg7.block b hbl6 (fun e => hne3 (by injection e))).trans hb6).trans hbr
      have hB7 : Below w.heap.size w w7 := (hB5.grown hst.2 hB5.size (fun q hq => by cases hq; exact hbg)).grown hg7 (by have := hB5.size; simp [World.setCell]; exact this) (fun q hq => by cases hq; exact hbb)
      have hjz : (j : Int) < (base.size : Int) := by omega
      have hj1 : ((j + 1 : Nat) : Int) = (j : Int) + 1 := by omega
      rw [hj1] at hrun
      have e6 : w5.drew.setCell ⟨g, j, none⟩ (.int .i64 (V : Int)) = (w5.setCell ⟨g, j, none⟩ (.int .i64 (V : Int))).drew := by first | rfl | simp
      rw [e6] at hrun f1
      have HM7 := Lib.hid hM7
      have HO7 := Lib.hid hO7
      have HB7 := Lib.hid hB7
      have HH7 := Lib.hid hb7
      clear hM7 hO7 hB7 hb7 hM6 hst hO5 hM5 hMr hOr hbr hBr hb5 cb hb5e hB5 hV c0 c1 c2 hg7 hb6 hbl6
      go_wp2_with fail
      go_region
      go_wp2_with fail
      go_roundw
      case rel => exact ⟨k + 1, n + 1, _, by go_num, by omega, by omega, by omega, HM7.out, HO7.out, HH7.out, HB7.out⟩
      case measure => first | omega | (simp [intOf]; done) | (simp [intOf]; omega)
    · obtain rfl : k = m := by omega
      have hix : Ix wr b base := by
        refine ⟨bm, g, n, c0, c1, c2, by rw [HM.out]; exact hMr, ?_, World.block_lt_of_cell? wr _ c0, fun i hi' => ?_⟩
        · rcases hOr.2 with ⟨h', _⟩ | ⟨g', _, _, h', _, hh, _⟩
          · cases h'
          · injection h' with h' _ _
            injection h' with h'
            injection h' with h'
            rw [h']
            exact (Array.getElem?_eq_some_iff.1 hh).1
        · have := hOr.cells (g := g) rfl i _ (rowK_at base.data.toList k base.size i hi')
          rw [WideShapes.add_plain, Nat.zero_add] at this
          rw [← HM.out, nxK_all] at this
          exact this
      have HIX := Lib.hid hix
      clear hix hMr hOr c0 c1 c2 hz
      go_wp2_with fail
      go_ret
      exact ⟨b, rfl, HIX.out, hBr⟩
end Go.Proofs.Ytpfgijmhoenpkaa.Dl
