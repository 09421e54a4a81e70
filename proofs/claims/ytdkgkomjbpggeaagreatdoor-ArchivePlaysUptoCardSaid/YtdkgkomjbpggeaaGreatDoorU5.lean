/- Texts of this seat, one behind the other. -/
import Derived.Test.YtdkgkomjbpggeaaGreatDoorU4
import Derived.Lib.ItoaNum
import Derived.Shelf.Strconv.Itoa3
import Derived.Test.YtdkgkomjbpggeaaGreatDoorProg
import Derived.Lib.AppendIntMem
import Derived.SliceStrings
import Derived.SizedLaws
import Derived.Test.YtdkgkomjbpggeaaGreatDoorCards
import Derived.Test.YtdkgkomjbpggeaaGreatDoorTie
import Derived.Lib.LaidTab
import Derived.Lib.LaidU8
import Derived.LaidMore
import Derived.Deep.DeepHandedRow
import Derived.Stop.Joined
import Derived.JoinedCond
import Derived.ChangeOld
import Derived.SevenTiedAt
namespace Go.Proofs.YtdkgkomjbpggeaaGreatDoor.Tb
open Go.RowKit Tx Pm Dk Wm Wr Wl Pl
set_option linter.unusedVariables false
set_option linter.unusedSimpArgs false
set_option linter.unnecessarySimpa false
def TB (b j t m : Nat) (p q : ByteArray) (u : Nat) (w : World) (H : Nat → Prop) (z : Tst × List Ch) : Prop := ∃ F G, Tn b j t m p q w F z.1 ∧ Bn u (some ⟨t, 0, none⟩) w G z.2 ∧ (∀ i, F i → ¬ G i) ∧ ∀ i, H i ↔ F i ∨ G i
theorem bat_beside {b j t m u pm : Nat} {p q : ByteArray} {tp : Option Addr} {vO : Value} {w w1 : World} {F F1 G : Nat → Prop} {x y : Tst} {l : List Ch} (hB : BAt u pm tp vO w G l) (hd : ∀ i, F i → ¬ G i) (hc : Chg F w w1) (hn : ∀ g, F1 g → F g ∨ w.heap.size ≤ g) :
    BAt u pm tp vO w1 G l ∧ ∀ i, F1 i → ¬ G i :=
  ⟨hB.kept (fun i hi => hc.block i (hB.lt i hi) (fun hf => hd i hf hi)), fun i hi hg => by
    rcases hn i hi with hh | hh
    · exact hd i hh hg
    · have := hB.lt i hg; omega⟩
def CommitOk (x : Tst) (l : List Ch) (p q : ByteArray) : Prop := wt l ≤ 1000000000 ∧ AddOk x.j q (rec7 l) ∧ x.L.length + l.length ≤ 1000000000 ∧ q.size ≤ 1000 ∧ (addS x.j q (rec7 l)).2.R.length ≤ 10000000000 ∧ (16 ≤ (addS x.j q (rec7 l)).2.R.length → PackOk ⟨(addS x.j q (rec7 l)).2, all7 x.L l⟩ p q)
theorem commit_0 {x : Tst} {p q : ByteArray} : commitS x [] p q = (0, x) := rfl
theorem commit_1 {x : Tst} {l : List Ch} {p q : ByteArray} {k : Nat} {y : Jst} (hl : l ≠ []) (h : addS x.j q (rec7 l) = (k, y)) (hk : k ≠ 0) : commitS x l p q = (k, ⟨y, x.L⟩) := by
  unfold commitS; rw [if_neg hl, h]; exact if_pos hk
theorem commit_2 {x : Tst} {l : List Ch} {p q : ByteArray} {y : Jst} (hl : l ≠ []) (h : addS x.j q (rec7 l) = (0, y)) (h16 : ¬ 16 ≤ y.R.length) : commitS x l p q = (0, ⟨y, all7 x.L l⟩) := by
  unfold commitS; rw [if_neg hl, h]; simp only; rw [if_neg (fun hh => hh rfl), if_neg h16]
theorem commit_3 {x : Tst} {l : List Ch} {p q : ByteArray} {y : Jst} (hl : l ≠ []) (h : addS x.j q (rec7 l) = (0, y)) (h16 : 16 ≤ y.R.length) : commitS x l p q = packS ⟨y, all7 x.L l⟩ p q := by
  unfold commitS; rw [if_neg hl, h]; simp only; rw [if_neg (fun hh => hh rfl), if_pos h16]
theorem cleared {u pm : Nat} {tp : Option Addr} {vO : Value} {w : World} {G : Nat → Prop} {l : List Ch} (h : BAt u pm tp vO w G l) :
    ((w.alloc (.map #[] 0)).cell? ⟨u, 1, none⟩ = some vO ∧ (w.alloc (.map #[] 0)).frozen? ⟨u, 1, none⟩ = false) ∧
    (((w.alloc (.map #[] 0)).setCell ⟨u, 1, none⟩ (.slice none 0 0)).cell? ⟨u, 2, none⟩ = some (.map (some pm)) ∧ ((w.alloc (.map #[] 0)).setCell ⟨u, 1, none⟩ (.slice none 0 0)).frozen? ⟨u, 2, none⟩ = false) ∧
    BAt u w.heap.size tp (.slice none 0 0) (((w.alloc (.map #[] 0)).setCell ⟨u, 1, none⟩ (.slice none 0 0)).setCell ⟨u, 2, none⟩ (.map (some w.heap.size))) (fun i => i = u ∨ (Value.slice none 0 0).ownBlock = some i ∨ i = w.heap.size) [] ∧
    Chg (· = u) w (((w.alloc (.map #[] 0)).setCell ⟨u, 1, none⟩ (.slice none 0 0)).setCell ⟨u, 2, none⟩ (.map (some w.heap.size))) := by
  have hul : u < w.heap.size := h.lt u ((h.foot u).2 (.inl rfl))
  have hb0 : (w.alloc (.map #[] 0)).heap[u]? = some (.cells #[.pointer tp, vO, .map (some pm)] 76 (0, 0)) := (((Below.refl w.heap.size w).alloc (Nat.le_refl _) _).block u hul).trans h.blk
  have hb1 : ((w.alloc (.map #[] 0)).setCell ⟨u, 1, none⟩ (.slice none 0 0)).heap[u]? = some (.cells #[.pointer tp, .slice none 0 0, .map (some pm)] 76 (0, 0)) := by rw [set_block hb0]; rfl
  have hb2 : (((w.alloc (.map #[] 0)).setCell ⟨u, 1, none⟩ (.slice none 0 0)).setCell ⟨u, 2, none⟩ (.map (some w.heap.size))).heap[u]? = some (.cells #[.pointer tp, .slice none 0 0, .map (some w.heap.size)] 76 (0, 0)) := by rw [set_block hb1]; rfl
  refine ⟨⟨?_, ?_⟩, ⟨?_, ?_⟩, ⟨hb2, nil_OwnC _ _, ?_, (fun e => by cases e), List.Pairwise.nil, fun i => Iff.rfl⟩, ((Chg.of_below ((Below.refl w.heap.size w).alloc (Nat.le_refl _) _)).then (chg_set (b := u) (k := 1) _)).then (chg_set (b := u) (k := 2) _)⟩
  · unfold World.cell?; rw [hb0]; rfl
  · unfold World.frozen?; rw [hb0]; simp
  · unfold World.cell?; rw [hb1]; rfl
  · unfold World.frozen?; rw [hb1]; simp
  · exact ((pp_made w).kept (set_other _ (by omega))).kept (set_other _ (by omega))
def CommitTo (b j t m : Nat) (p q : ByteArray) (u : Nat) (w : World) (H : Nat → Prop) (r : Nat × Tst) (e : Ending) (w' : World) : Prop :=
  e = .returned (.int .i64 (r.1 : Nat)) ∧ LeftA (Tn b j t m p q) w H r.2 w' ∧ (r.1 = 0 → LeftA (TB b j t m p q u) w H (r.2, []) w')
theorem left_wide {α : Type} {Obj : World → (Nat → Prop) → α → Prop} {w w1 : World} {F H : Nat → Prop} {y : α} (hF : ∀ i, F i → H i) (h : LeftA Obj w F y w1) : LeftA Obj w H y w1 := by
  obtain ⟨F', h1, h2, h3⟩ := h
  exact ⟨F', h1, h2.mono hF, fun g hg => (h3 g hg).imp (fun hh => hF g hh) id⟩
theorem not_nil_len {l : List Ch} {n : Nat} (h : l ≠ []) (hn : n = l.length) : 0 < n := by
  cases l with
  | nil => exact absurd rfl h
  | cons x l => simp at hn; omega
set_option maxRecDepth 100000 in
set_option maxHeartbeats 4000000 in
theorem commit_any (b j t m u : Nat) {H : Nat → Prop} {x : Tst} {l : List Ch} (p q : ByteArray) (w : World) (h : TB b j t m p q u w H (x, l)) (o : CommitOk x l p q) :
    Calls Tryz.prog 18 #[.pointer (some ⟨u, 0, none⟩)] w (CommitTo b j t m p q u w H (commitS x l p q)) := by
  have h0 := h
  obtain ⟨F, G, ⟨Fj, hT⟩, ⟨pm, vO, hB⟩, hd, hH⟩ := h
  obtain ⟨o1, o2, o3, o4, o5, o6⟩ := o
  obtain ⟨c0, c1, c2⟩ := hB.cell
  obtain ⟨aO, cO, hvO, hO1, hO2, _⟩ := hB.ops.form
  obtain ⟨n, hn⟩ : ∃ n, n = l.length := ⟨_, rfl⟩
  rw [← hn] at hvO hO1 hO2
  by_cases hl : l = []
  · subst hl
    obtain rfl : n = 0 := hn
    rw [hvO] at c1
    have HE := Lib.hid (show CommitTo b j t m p q u w H (commitS x [] p q) (.returned (.int .i64 0)) w from ⟨rfl, ⟨F, ⟨Fj, hT⟩, Chg.refl _ _, fun g hg => .inl ((hH g).2 (.inl hg))⟩, fun _ => LeftA.of h0 (Chg.refl _ _)⟩)
    clear h0 hT hB hd hH o1 o2 o3 o4 o5 o6 hvO hO1
    go_enter Tryz.func18, Tryz.ntmps18
    go_wp2_with fail
    go_ret
    exact HE.out
  · have hpos := not_nil_len hl hn
    have hd1 := (Below.refl w.heap.size w).drew
    obtain ⟨k, y, hadd⟩ : ∃ k y, addS x.j q (rec7 l) = (k, y) := ⟨_, _, rfl⟩
    have hrec : ∀ W, Below w.heap.size w W → Calls Tryz.prog 47 #[.slice aO n cO] W fun e w' => e = .returned (.string (rec7 l)) ∧ Below w.heap.size w w' := fun W hW =>
      (record_any aO n cO l W (hO1.below hW) (by omega) hO2).mono fun e w' hh => ⟨hh.1, Tx.below_call hW hh.2⟩
    have hcall : ∀ W, Below w.heap.size w W → Calls Tryz.prog 46 #[.pointer (some ⟨j, 0, none⟩), .string (rec7 l)] W fun e w' => e = .returned (.int .i64 (k : Nat)) ∧ LeftA (Tn b j t m p q) w F ⟨y, x.L⟩ w' := fun W hW => by
      have hW2 := hT.below hW
      obtain ⟨v, Fd, hj⟩ := hW2.jn
      have c := iAdd_any b j q (rec7 l) W hj o2 o4
      rw [hadd] at c
      exact c.mono fun e w' hh => ⟨hh.1, left_trans7 (Chg.of_below hW) (fun g hg => .inl hg) (hW2.jleft (y := y) hh.2)⟩
    have hS : ∀ W, Below w.heap.size w W → TwoC t j u n cO aO W := fun W hW => ⟨(hT.below hW).cell.2.2.1, (hB.below hW).cell.2.1.trans (by rw [hvO])⟩
    have hS8 : ∀ W, LeftA (Tn b j t m p q) w F ⟨y, x.L⟩ W → TwoC t j u n cO aO W := fun W hW => by
      obtain ⟨F8, ⟨Fj8, h8⟩, k8, n8⟩ := hW
      exact ⟨h8.cell.2.2.1, (bat_beside (b := b) (j := j) (t := t) (m := m) (p := p) (q := q) (x := x) (y := x) hB hd k8 n8).1.cell.2.1.trans (by rw [hvO])⟩
    have HS := Lib.hid hS
    have HS8 := Lib.hid hS8
    have HREC := Lib.hid hrec
    have HCALL := Lib.hid hcall
    have hs0 := Lib.hid (hS w (Below.refl _ _))
    have hnz : ((n : Int) == 0) = false := by simp; omega
    have c1' := c1
    rw [hvO] at c1'
    by_cases hk : k ≠ 0
    · rw [commit_1 hl hadd hk]
      have nk := neZ hk
      have HK := Lib.hid hk
      have HH := Lib.hid hH
      clear h0 hT hB hd hH o1 o2 o3 o4 o5 o6 hvO hO1 hn hS hS8 hrec hcall hadd hk hl hd1 c1
      go_enter Tryz.func18, Tryz.ntmps18
      go_wp2_with fail
      refine Rg.wp_only ?_ (commitReg _ (by kernel_rfl) _ t j u n cO k aO (rec7 l) _ _ _ hs0.out (HREC.out _ (Below.refl w.heap.size w).drew) (fun W hW => HS.out W hW) HCALL.out HS8.out)
      rintro _ w8 ⟨rfl, h8⟩
      go_wp2_with fail
      go_ret
      exact ⟨rfl, left_wide (fun i hi => (HH.out i).2 (.inl hi)) h8, fun hh => absurd hh HK.out⟩
    · obtain rfl : k = 0 := by omega
      rw [hadd] at o5 o6
      simp only at o5 o6
      have hwl := wt_len l
      -- behind Add
      have hnext : ∀ w8, LeftA (Tn b j t m p q) w F ⟨y, x.L⟩ w8 → ∃ F8, (∃ Fj8, TAt b j t m p q Fj8 w8 F8 ⟨y, x.L⟩) ∧ BAt u pm (some ⟨t, 0, none⟩) vO w8 G l ∧ (∀ i, F8 i → ¬ G i) ∧ Chg F w w8 ∧ (∀ g, F8 g → F g ∨ w.heap.size ≤ g) := fun w8 hW => by
        obtain ⟨F8, h8, k8, n8⟩ := hW
        obtain ⟨a1, a2⟩ := bat_beside (b := b) (j := j) (t := t) (m := m) (p := p) (q := q) (x := x) (y := x) hB hd k8 n8
        exact ⟨F8, h8, a1, a2, k8, n8⟩
      have HNX := Lib.hid hnext
      have HH := Lib.hid hH
      have HN := Lib.hid hn
      have HV := Lib.hid hvO
      have HO3 := Lib.hid (show x.L.length + n ≤ 1000000000 by omega)
      have HKS := Lib.hid (show ∀ z ∈ l, z.key.size ≤ 1000000000000 from fun z hz => by have := wt_mem hz; omega)
      have HL := Lib.hid hl
      have HADD := Lib.hid hadd
      have H5 := Lib.hid o5
      have H6 := Lib.hid o6
      clear h0 hT hB hd hH o1 o2 o3 o4 o5 o6 hvO hO1 hn hS hS8 hrec hcall hadd hk hl hd1 c1 hnext hwl
      go_enter Tryz.func18, Tryz.ntmps18
      go_wp2_with fail
      refine Rg.wp_only ?_ (commitReg _ (by kernel_rfl) _ t j u n cO 0 aO (rec7 l) _ _ _ hs0.out (HREC.out _ (Below.refl w.heap.size w).drew) (fun W hW => HS.out W hW) HCALL.out HS8.out)
      rintro _ w8 ⟨rfl, h8⟩
      obtain ⟨F8, ⟨Fj8, hT8⟩, hB8, hd8, k8, n8⟩ := HNX.out _ h8
      obtain ⟨_, _, _, t83⟩ := hT8.cell
      obtain ⟨_, b81, _⟩ := hB8.cell
      obtain ⟨aP, cP, hvP, hOP, hcP, _⟩ := hB8.ops.form
      rw [HV.out, ← HN.out] at hvP
      injection hvP with e1 e2 e3
      subst e1 e3
      rw [← HN.out] at hOP
      have cd := do_any t m x.L aO n cO l w8 t83 hT8.rows hT8.rises hOP HO3.out HKS.out (by rw [HN.out]; exact hcP)
      rw [HV.out] at b81
      have HT8 := Lib.hid hT8
      have HB8 := Lib.hid hB8
      have HD8 := Lib.hid hd8
      have HK8 := Lib.hid k8
      have HN8 := Lib.hid n8
      clear hT8 hB8 hd8 k8 n8 hOP hcP h8 e2
      go_wp2_with fail
      go_at_call 48
      refine cd.mono ?_
      rintro e w9 ⟨rfl, hm9, hc9⟩
      have hT9 := HT8.out.turned hm9 hc9 (rises_all HT8.out.rises l) (plain_all HT8.out.plain l)
      have hm8 : F8 m := (HT8.out.foot m).2 (.inr (.inr rfl))
      have hB9 := HB8.out.kept (fun i hi => hc9.block i (HB8.out.lt i hi) (fun e => HD8.out m hm8 (e ▸ hi)))
      obtain ⟨⟨s1, s2⟩, ⟨s3, s4⟩, hBn, hcu⟩ := cleared hB9
      rw [HV.out] at s1
      have huG : G u := (HB8.out.foot u).2 (.inl rfl)
      have hT11 := hT9.kept (fun i hi => hcu.block i (hT9.lt i hi) (fun e => HD8.out i hi (e ▸ huG)))
      obtain ⟨_, _, t112, _⟩ := hT11.cell
      have hmm := @run_makeMap Tryz.prog
      have hz9 : w8.heap.size ≤ w9.heap.size := hc9.size
      have hz8 : w.heap.size ≤ w8.heap.size := HK8.out.size
      have hch9 : Chg H w w9 := (HK8.out.mono (fun i hi => (HH.out i).2 (.inl hi))).trans (hc9.mono (G := F8) (fun i hi => hi ▸ hm8)) (fun i hi => (HN8.out i hi).imp (fun hh => (HH.out i).2 (.inl hh)) id)
      have hch11 := hch9.then (hcu.mono (fun i hi => (HH.out i).2 (.inr (hi ▸ huG))))
      have hdis : ∀ i, F8 i → ¬ (i = u ∨ (Value.slice none 0 0).ownBlock = some i ∨ i = w9.heap.size) := fun i hi hh => by
        rcases hh with rfl | hh | rfl
        · exact HD8.out _ hi huG
        · cases hh
        · exact absurd (hT9.lt _ hi) (Nat.lt_irrefl _)
      obtain ⟨v11, Fd11, j11⟩ := hT11.jn
      have cr := iRecords_any (imp_kind b) b j q _ j11 H5.out
      have HT11 := Lib.hid hT11
      have HBn := Lib.hid hBn
      have HCH := Lib.hid hch11
      have HDIS := Lib.hid hdis
      have HSZ := Lib.hid (show w.heap.size ≤ w9.heap.size by omega)
      clear hT9 hB9 hBn hT11 hm9 hc9 hch9 hch11 hdis j11 hcu hz9 hz8 cd
      have HG8 := Lib.hid (show ∀ g, F8 g → H g ∨ w.heap.size ≤ g from fun g hg => (HN8.out g hg).imp (fun hh => (HH.out g).2 (.inl hh)) id)
      have HGB := Lib.hid (show ∀ g, (g = u ∨ (Value.slice none 0 0).ownBlock = some g ∨ g = w9.heap.size) → H g ∨ w.heap.size ≤ g from fun g hg => by
        rcases hg with rfl | hg | rfl
        · exact .inl ((HH.out _).2 (.inr huG))
        · cases hg
        · exact .inr HSZ.out)
      obtain ⟨N, hN⟩ : ∃ N, N = y.R.length := ⟨_, rfl⟩
      have HNN := Lib.hid hN
      clear hN
      go_wp2_with fail
      generalize ((w9.alloc (.map #[] 0)).setCell ⟨u, 1, none⟩ (.slice none 0 0)).setCell ⟨u, 2, none⟩ (.map (some w9.heap.size)) = W at HT11 HBn HCH cr t112 ⊢
      go_at_call 49
      refine cr.mono ?_
      rintro e w12 ⟨v12, rfl, h12, hb12⟩
      obtain ⟨a12, c12, hv12, _⟩ := h12.form
      rw [show (⟨y, all7 x.L l⟩ : Tst).j.R.length = N from HNN.out.symm] at hv12
      have hT12 := HT11.out.below hb12
      have hB12 := HBn.out.below hb12
      have hC12 : Chg H w w12 := HCH.out.then (Chg.of_below hb12)
      clear h12
      subst hv12
      by_cases h16 : 16 ≤ y.R.length
      · have hz16 : (16 : Int) ≤ (N : Int) := by rw [HNN.out]; omega
        have hcs : commitS x l p q = packS ⟨y, all7 x.L l⟩ p q := commit_3 HL.out HADD.out h16
        have cp := pack_any b j t m p q w12 hT12 (H6.out h16)
        have HCS := Lib.hid hcs
        have HP := Lib.hid (fun w' (hl : LeftA (Tn b j t m p q) w12 F8 (packS ⟨y, all7 x.L l⟩ p q).2 w') => (⟨left_trans7 hC12 HG8.out (left_wide (fun i hi => hi) hl), fun _ => by
          obtain ⟨F13, h13, k13, n13⟩ := hl
          obtain ⟨b1, b2⟩ := bat_beside (b := b) (j := j) (t := t) (m := m) (p := p) (q := q) (x := x) (y := x) hB12 HDIS.out k13 n13
          have hs12 := hC12.size
          refine ⟨fun i => F13 i ∨ (i = u ∨ (Value.slice none 0 0).ownBlock = some i ∨ i = w9.heap.size), ⟨F13, _, h13, ⟨_, _, b1⟩, b2, fun i => Iff.rfl⟩, hC12.trans k13 HG8.out, fun g hg => ?_⟩
          rcases hg with hg | hg
          · rcases n13 g hg with hh | hh
            · exact HG8.out g hh
            · exact .inr (by omega)
          · exact HGB.out g hg⟩ : LeftA (Tn b j t m p q) w H (packS ⟨y, all7 x.L l⟩ p q).2 w' ∧ ((packS ⟨y, all7 x.L l⟩ p q).1 = 0 → LeftA (TB b j t m p q u) w H ((packS ⟨y, all7 x.L l⟩ p q).2, []) w')))
        clear hT12 hB12 hC12 hcs h16
        go_wp2_with fail
        go_at_call 50
        refine cp.mono ?_
        rintro e w13 ⟨rfl, h13⟩
        obtain ⟨q1, q2⟩ := HP.out _ h13
        clear h13
        go_wp2_with fail
        go_ret
        rw [HCS.out]
        exact ⟨rfl, q1, q2⟩
      · have hz16 : ¬ (16 : Int) ≤ (N : Int) := by rw [HNN.out]; omega
        have hcs : commitS x l p q = (0, ⟨y, all7 x.L l⟩) := commit_2 HL.out HADD.out h16
        have HCS := Lib.hid hcs
        have HE := Lib.hid (show CommitTo b j t m p q u w H (0, ⟨y, all7 x.L l⟩) (.returned (.int .i64 0)) w12 from
          ⟨rfl, ⟨F8, ⟨_, hT12⟩, hC12, HG8.out⟩, fun _ => ⟨fun i => F8 i ∨ (i = u ∨ (Value.slice none 0 0).ownBlock = some i ∨ i = w9.heap.size), ⟨F8, _, ⟨_, hT12⟩, ⟨_, _, hB12⟩, HDIS.out, fun i => Iff.rfl⟩, hC12, fun g hg => hg.elim (HG8.out g) (HGB.out g)⟩⟩)
        clear hT12 hB12 hC12 hcs h16
        go_wp2_with fail
        go_ret
        rw [HCS.out]
        exact HE.out
end Go.Proofs.YtdkgkomjbpggeaaGreatDoor.Tb

namespace Go.Proofs.YtdkgkomjbpggeaaGreatDoor.Tb
open Go.RowKit Tx Pm Dk Wm Wr Wl Pl
set_option linter.unusedVariables false
set_option linter.unusedSimpArgs false
set_option linter.unnecessarySimpa false
def RecOk (L : List It) (R : List ByteArray) : Prop := (∀ r ∈ R, (opsS r).2 = 0 ∧ r.size ≤ 500000000) ∧ L.length + (R.map (·.size)).sum ≤ 500000000 ∧ R.length ≤ 10000000000
theorem sum_take (R : List ByteArray) (k : Nat) : ((R.take k).map (·.size)).sum ≤ (R.map (·.size)).sum := by
  conv => rhs; rw [← List.take_append_drop k R]
  rw [List.map_append, List.sum_append]
  omega
def LogTo (b t m : Nat) (p q : ByteArray) (w : World) (Fd : Nat → Prop) (L : List It) (r : Nat × Jst) (e : Ending) (w' : World) : Prop :=
  (r.1 = 0 ∧ e = .returned (.int .i64 0) ∧ ∃ j, LeftA (Tn b j t m p q) w (fun i => Fd i ∨ i = t ∨ i = m) ⟨r.2, rows7 L r.2.R⟩ w') ∨ (r.1 ≠ 0 ∧ e = .returned (.int .i64 (r.1 : Nat)) ∧ Dk.Left (ImpAt b) w Fd r.2.s w')
set_option maxRecDepth 100000 in
set_option maxHeartbeats 4000000 in
theorem takeLog_any (b t m : Nat) {Fd : Nat → Prop} {s : St} {L : List It} (p q : ByteArray) (w : World) (hblk : w.heap[t]? = some (.cells #[.pointer (some ⟨b, 0, none⟩), .string p, .pointer none, .map (some m)] 69 (0, 0)))
    (hm : Mo w m L) (hD : ImpAt b w Fd s) (hoff : ¬ Fd t ∧ ¬ Fd m) (hR : Rises L) (hP : Plain L) (o : OpenOk s q) (hq : q.size ≤ 1000) (hrec : (openS s q).1 = 0 → RecOk L (openS s q).2.R) :
    Calls Tryz.prog 28 #[.pointer (some ⟨t, 0, none⟩), .string q] w (LogTo b t m p q w Fd L (openS s q)) := by
  have co := iOpen_any b q w hD o hq
  have htl : t < w.heap.size := (Array.getElem?_eq_some_iff.1 hblk).1
  have t0 : w.cell? ⟨t, 0, none⟩ = some (.pointer (some ⟨b, 0, none⟩)) := by unfold World.cell?; rw [hblk]; rfl
  have htm : t ≠ m := fun e => hm.nb (e ▸ hblk)
  have hml := hm.lt
  obtain ⟨k, x, hx⟩ : ∃ k x, openS s q = (k, x) := ⟨_, _, rfl⟩
  unfold LogTo
  rw [hx] at co hrec ⊢
  simp only at hrec ⊢
  by_cases hk : k ≠ 0
  · have nk := neZ hk
    have HK := Lib.hid hk
    have c1 : Calls Tryz.prog 65 #[.pointer (some ⟨b, 0, none⟩), .string q] w fun e w' => e = .returned (.tuple #[.pointer none, .int .i64 (k : Nat)]) ∧ Dk.Left (ImpAt b) w Fd x.s w' := co.mono fun e w' hh => by
      rcases hh with ⟨h0, _⟩ | ⟨_, he, hl⟩
      · exact absurd h0 hk
      · exact ⟨he, hl⟩
    clear hblk hm hD hoff o hrec co htm hk hx
    go_enter Tryz.func28, Tryz.ntmps28
    go_wp2_with fail
    go_at_call 65
    refine c1.mono ?_
    rintro e w1 ⟨rfl, h1⟩
    go_wp2_with fail
    go_ret
    exact .inr ⟨HK.out, rfl, h1⟩
  · obtain rfl : k = 0 := by omega
    obtain ⟨hr1, hr2, hr3⟩ := hrec rfl
    have c1 : Calls Tryz.prog 65 #[.pointer (some ⟨b, 0, none⟩), .string q] w fun e w' => ∃ j, e = .returned (.tuple #[.pointer (some ⟨j, 0, none⟩), .int .i64 0]) ∧ LeftA (JnT b j q) w Fd x w' := co.mono fun e w' hh => by
      rcases hh with ⟨_, j, he, hl⟩ | ⟨h0, _⟩
      · exact ⟨j, he, hl⟩
      · exact absurd rfl h0
    have HBLK := Lib.hid hblk
    have HM := Lib.hid hm
    have HOFF := Lib.hid hoff
    have HR := Lib.hid hR
    have HP := Lib.hid hP
    have HR1 := Lib.hid hr1
    obtain ⟨n, hn⟩ : ∃ n, n = x.R.length := ⟨_, rfl⟩
    have HN := Lib.hid hn
    have HSUM := Lib.hid hr2
    clear hblk hm hD hoff o hrec co hx hR hP hr1 hn hr2 hk
    go_enter Tryz.func28, Tryz.ntmps28
    go_wp2_with fail
    go_at_call 65
    refine c1.mono ?_
    rintro e w1 ⟨j, rfl, Fj, hj, k1, n1⟩
    have hb1 : w1.heap[t]? = _ := (k1.block t htl HOFF.out.1).trans HBLK.out
    have hm1 := HM.out.kept (k1.block m hml HOFF.out.2)
    have hjt : ¬ Fj t := fun hh => by rcases n1 t hh with h | h; exact HOFF.out.1 h; omega
    have hjm : ¬ Fj m := fun hh => by rcases n1 m hh with h | h; exact HOFF.out.2 h; omega
    have s0 : w1.cell? ⟨t, 2, none⟩ = some (.pointer none) := by unfold World.cell?; rw [hb1]; rfl
    have s1 : w1.frozen? ⟨t, 2, none⟩ = false := by unfold World.frozen?; rw [hb1]; simp
    have hb2 : (w1.setCell ⟨t, 2, none⟩ (.pointer (some ⟨j, 0, none⟩))).heap[t]? = some (.cells #[.pointer (some ⟨b, 0, none⟩), .string p, .pointer (some ⟨j, 0, none⟩), .map (some m)] 69 (0, 0)) := by rw [set_block hb1]; rfl
    have kt2 : Chg (· = t) w1 (w1.setCell ⟨t, 2, none⟩ (.pointer (some ⟨j, 0, none⟩))) := chg_set (b := t) (k := 2) _
    have hjlt := (jn_kind (imp_kind b) 132 b j q).1 hj
    have hj2 : JnT b j q (w1.setCell ⟨t, 2, none⟩ (.pointer (some ⟨j, 0, none⟩))) Fj x := (jn_kind (imp_kind b) 132 b j q).2 hj (fun i hi => kt2.block i (hjlt i hi) (fun e => hjt (e ▸ hi)))
    have hm2 := hm1.kept (kt2.block m hm1.lt (fun e => htm e.symm))
    have hTA : TAt b j t m p q Fj (w1.setCell ⟨t, 2, none⟩ (.pointer (some ⟨j, 0, none⟩))) (fun i => Fj i ∨ i = t ∨ i = m) ⟨x, L⟩ := ⟨hj2, hb2, hm2, ⟨hjt, hjm⟩, fun i => Iff.rfl, HR.out, HP.out⟩
    have hch2 : Chg (fun i => Fd i ∨ i = t ∨ i = m) w (w1.setCell ⟨t, 2, none⟩ (.pointer (some ⟨j, 0, none⟩))) := (k1.mono (fun i hi => .inl hi)).then (kt2.mono (fun i hi => .inr (.inl hi)))
    have hnew : ∀ g, (Fj g ∨ g = t ∨ g = m) → (Fd g ∨ g = t ∨ g = m) ∨ w.heap.size ≤ g := fun g hg => by
      rcases hg with hg | hg
      · exact (n1 g hg).imp (fun hh => .inl hh) id
      · exact .inl (.inr hg)
    obtain ⟨v2, Fd2, jj⟩ := hj2
    have cr := iRecords_any (imp_kind b) b j q _ jj hr3
    have HTA := Lib.hid hTA
    have HCH := Lib.hid hch2
    have HNEW := Lib.hid hnew
    clear hj jj hm1 hm2 hb1 hb2 kt2 hTA hch2 hnew k1 n1 hjlt hjt hjm
    go_wp2_with fail
    generalize w1.setCell ⟨t, 2, none⟩ (.pointer (some ⟨j, 0, none⟩)) = W at HTA HCH cr ⊢
    go_at_call 49
    refine cr.mono ?_
    rintro e w3 ⟨vR, rfl, hK, hb3⟩
    obtain ⟨aK, cK, hv, hsK, hcK, _⟩ := hK.form
    rw [← HN.out] at hv hsK hcK
    have hT3 := HTA.out.below hb3
    have hgm : ∀ g off, aK = some ⟨g, off, none⟩ → g ≠ m := fun g off e => by
      have hgb := hK.lt g (by rw [hv, e]; rfl)
      have := HTA.out.rows.lt
      omega
    have HSK := Lib.hid hsK
    have HGM := Lib.hid hgm
    have HT3 := Lib.hid hT3
    have HB3 := Lib.hid hb3
    have hm3 := hT3.rows
    clear hK hsK hT3 hgm hb3 cr s0 s1
    subst hv
    go_wp2_with fail
    go_loopw [29] (fun iv wr => ∃ k : Nat, k ≤ n ∧ iv = .int .i64 k ∧ Mo wr m (rows7 L (x.R.take k)) ∧ Chg (· = m) w3 wr) (fun iv _ => n - (intOf iv).toNat)
    case atStart => exact ⟨0, Nat.zero_le _, rfl, hm3, Chg.refl _ _⟩
    case round =>
      obtain ⟨i, hik, rfl, hmo, hch⟩ := hrel
      by_cases hlt : i < n
      · obtain ⟨r, hr⟩ : ∃ r, x.R[i]? = some r := ⟨_, List.getElem?_eq_getElem (by rw [← HN.out]; exact hlt)⟩
        obtain ⟨_, hne⟩ := HSK.out
        obtain ⟨g, off, rfl, hg, hcc⟩ := hne.resolve_left (by omega)
        have g0' := hcc i r hr
        have hbg := hch.block g hg (HGM.out g off rfl)
        have g0 : wr.cell? ⟨g, off + i, none⟩ = some (.string r) := by unfold World.cell? at g0' ⊢; rw [hbg]; exact g0'
        have hiz : (i : Int) < (n : Int) := by omega
        obtain ⟨hre, hrs⟩ := HR1.out r (List.mem_of_getElem? hr)
        have htc := HT3.out.cell.2.2.2
        have htl3 := World.block_lt_of_cell? w3 _ htc
        have hbt := hch.block t htl3 HT3.out.tm
        have htr : wr.cell? ⟨t, 3, none⟩ = some (.map (some m)) := by unfold World.cell? at htc ⊢; rw [hbt]; exact htc
        have hln := len_rows L (x.R.take i)
        have hst := sum_take x.R i
        have hsum := HSUM.out
        have ct := take_any t m (rows7 L (x.R.take i)) r wr htr hmo (rises_rows HR.out _) hrs (by omega)
        unfold taken at ct
        rw [hre, if_pos rfl] at ct
        have htk : rows7 L (x.R.take (i + 1)) = all7 (rows7 L (x.R.take i)) (opsS r).1 := by
          have hkl := (List.getElem?_eq_some_iff.1 hr).1
          rw [List.take_succ_eq_append_getElem hkl, rows7_snoc]
          rw [List.getElem?_eq_getElem hkl] at hr
          injection hr with hr
          rw [hr]
        rw [← htk] at ct
        clear hmo hr hne hcc g0' hbg hbt hre hln hst hsum htk htc
        go_wp2_with fail
        go_at_call 64
        refine ct.mono ?_
        rintro e w5 ⟨rfl, hm5, hc5⟩
        have hch5 := hch.then hc5
        clear hch hc5
        go_wp2_with fail
        go_roundw
        case rel => exact ⟨i + 1, by omega, by go_num, hm5, hch5⟩
        case measure => simp [intOf]; omega
      · obtain rfl : i = n := by omega
        have e : x.R.take i = x.R := List.take_of_length_le (by rw [← HN.out]; exact Nat.le_refl _)
        rw [e] at hmo
        have hfin := HT3.out.turned hmo hch (rises_rows HR.out _) (plain_rows HP.out _)
        have hcf : Chg (fun i => Fd i ∨ i = t ∨ i = m) w wr := (HCH.out.then (Chg.of_below HB3.out)).then (hch.mono (fun i hi => .inr (.inr hi)))
        have HE := Lib.hid (show LeftA (Tn b j t m p q) w (fun i => Fd i ∨ i = t ∨ i = m) ⟨x, rows7 L x.R⟩ wr from ⟨_, ⟨_, hfin⟩, hcf, HNEW.out⟩)
        clear hfin hcf hmo hch
        go_wp2_with fail
        go_ret
        exact .inl ⟨trivial, rfl, j, HE.out⟩
end Go.Proofs.YtdkgkomjbpggeaaGreatDoor.Tb

namespace Go.Proofs.YtdkgkomjbpggeaaGreatDoor.Dk
open Go.RowKit Tx Pm Pl Pr
set_option linter.unusedVariables false
end Go.Proofs.YtdkgkomjbpggeaaGreatDoor.Dk

namespace Go.Proofs.YtdkgkomjbpggeaaGreatDoor.Dk
open Go.RowKit Tx Pm
set_option linter.unusedVariables false
end Go.Proofs.YtdkgkomjbpggeaaGreatDoor.Dk

namespace Go.Proofs.YtdkgkomjbpggeaaGreatDoor.Dk
open Go.RowKit Tx Pm Pl Pr
set_option linter.unusedVariables false
end Go.Proofs.YtdkgkomjbpggeaaGreatDoor.Dk

namespace Go.Proofs.YtdkgkomjbpggeaaGreatDoor.Dk
open Go.RowKit Tx Pm Pl Pr
set_option linter.unusedVariables false
end Go.Proofs.YtdkgkomjbpggeaaGreatDoor.Dk

namespace Go.Proofs.YtdkgkomjbpggeaaGreatDoor.Dk
open Go.RowKit Tx Pm Pl Pr
set_option linter.unusedVariables false
end Go.Proofs.YtdkgkomjbpggeaaGreatDoor.Dk

namespace Go.Proofs.YtdkgkomjbpggeaaGreatDoor.Dk
open Go.RowKit Tx Pm Pl Pr
set_option linter.unusedVariables false
def Own1 (w0 : World) (b bi bl : Nat) (s : St) (W : World) : Prop := ∃ l, Ia b bi bl l W s ∧ Good s ∧ (∀ i, Ft b bi bl i → w0.heap.size ≤ i) ∧ Below w0.heap.size w0 W
theorem Own1.lt {w0 W : World} {b bi bl : Nat} {s : St} (h : Own1 w0 b bi bl s W) : ∀ i, Ft b bi bl i → i < W.heap.size := by
  obtain ⟨_, h, _⟩ := h
  exact h.lt
theorem Own1.below {w0 W W1 : World} {b bi bl : Nat} {s : St} (h : Own1 w0 b bi bl s W) (hb : Below W.heap.size W W1) : Own1 w0 b bi bl s W1 := by
  obtain ⟨l, h1, h2, h3, h4⟩ := h
  exact ⟨l, h1.below hb, h2, h3, below_call h4 hb⟩
section
variable {w0 W : World} {b bi bl k : Nat} {s s' : St}
end
theorem ok_small {s : St} (hl : s.L.length ≤ 1000) (hp : ∀ x ∈ s.L, x.path.size ≤ 1000) (hd : ∀ x ∈ s.L, x.data.size ≤ 1000000000000000) (hr : s.rooms.length ≤ 1000) (hst : s.steps ≤ 1000) (hsm : s.stamps ≤ 1000) (ha : -1 ≤ s.armed ∧ s.armed ≤ 9223372036854775807) : Ok s := by
  have hw := whole_le (B := 1000000000000000) hd
  have hm : s.L.length * 1000000000000000 ≤ 1000000000000000000 := Nat.le_trans (Nat.mul_le_mul_right _ hl) (by decide)
  exact ⟨⟨by omega, fun x hx => by have := hp x hx; omega, by omega⟩, by omega, by omega, by omega, by omega⟩
end Go.Proofs.YtdkgkomjbpggeaaGreatDoor.Dk

namespace Go.Proofs.YtdkgkomjbpggeaaGreatDoor.Tb
open Go.RowKit Tx Pm Dk Wm Wr Wl Pl Pr
set_option linter.unusedVariables false
set_option linter.unusedSimpArgs false
set_option linter.unnecessarySimpa false
def Open1Ok (s : St) (p q : ByteArray) : Prop := (readS s p).1.size ≤ 500000000 ∧ ((base0 s p).2 = 0 → OpenOk s q ∧ ((openS s q).1 = 0 → RecOk (base0 s p).1 (openS s q).2.R))
def Open7Ok (s : St) (f p q : ByteArray) : Prop := Ok s ∧ ((opened s f).1 = 0 → Open1Ok (opened s f).2 p q) ∧ f.size ≤ 500 ∧ p.size ≤ 1000 ∧ q.size ≤ 1000
def Open7To (b : Nat) (p q : ByteArray) (w : World) (F : Nat → Prop) (r : Nat × Tst) (e : Ending) (w' : World) : Prop :=
  (r.1 = 0 ∧ ∃ t j m, e = .returned (.tuple #[.pointer (some ⟨t, 0, none⟩), .int .i64 0]) ∧ LeftA (Tn b j t m p q) w F r.2 w') ∨ (r.1 ≠ 0 ∧ e = .returned (.tuple #[.pointer none, .int .i64 (r.1 : Nat)]) ∧ Dk.Left (ImpAt b) w F r.2.j.s w')
theorem open_m {s s1 : St} {f p q : ByteArray} {k : Nat} (h : opened s f = (k, s1)) (hk : k ≠ 0) : open7 s f p q = (k, ⟨⟨s1, [], false⟩, []⟩) := by
  unfold open7; rw [h]; exact if_pos hk
theorem open_n {s s1 : St} {f p q : ByteArray} (h : opened s f = (0, s1)) : open7 s f p q = open1 s1 p q := by
  unfold open7; rw [h]; exact if_neg (fun hh => hh rfl)
theorem open1_b {s : St} {p q : ByteArray} {L : List It} {k : Nat} (h : base0 s p = (L, k)) (hk : k ≠ 0) : open1 s p q = (k, ⟨⟨s, [], false⟩, []⟩) := by
  unfold open1; rw [h]; exact if_pos hk
theorem open1_l {s : St} {p q : ByteArray} {L : List It} {k : Nat} {y : Jst} (h : base0 s p = (L, 0)) (h2 : openS s q = (k, y)) (hk : k ≠ 0) : open1 s p q = (k, ⟨y, []⟩) := by
  unfold open1; rw [h]; simp only [h2]; rw [if_neg (fun hh => hh rfl)]; exact if_pos hk
theorem open1_o {s : St} {p q : ByteArray} {L : List It} {y : Jst} (h : base0 s p = (L, 0)) (h2 : openS s q = (0, y)) : open1 s p q = (0, ⟨y, rows7 L y.R⟩) := by
  unfold open1; rw [h]; simp only [h2]; rw [if_neg (fun hh => hh rfl)]; exact if_neg (fun hh => hh rfl)
theorem base_rises (s : St) (p : ByteArray) : Rises (base0 s p).1 ∧ Plain (base0 s p).1 := by
  have h0 : Rises ([] : List It) := List.Pairwise.nil
  have h1 : Plain ([] : List It) := fun x hx => by cases hx
  by_cases hk : kind s.L p = 0
  · rw [base_0 hk]; exact ⟨h0, h1⟩
  · obtain ⟨d, e1, hrd⟩ : ∃ d e, readS s p = (d, e) := ⟨_, _, rfl⟩
    by_cases he1 : e1 = 0
    · subst he1
      obtain ⟨r, n, e2, hfr⟩ := Fm.trip (Fm.fr d)
      by_cases he2 : e2 = 0
      · subst he2
        by_cases hn : n < d.size
        · rw [base_3 hk hrd hfr hn]; exact ⟨h0, h1⟩
        · obtain ⟨l, e3, h3⟩ : ∃ l e, opsS r = (l, e) := ⟨_, _, rfl⟩
          by_cases he3 : e3 = 0
          · subst he3
            rw [base_5 hk hrd hfr hn h3]
            exact ⟨rises_all h0 l, plain_all h1 l⟩
          · rw [base_4 hk hrd hfr hn h3 he3]; exact ⟨h0, h1⟩
      · rw [base_2 hk hrd hfr he2]; exact ⟨h0, h1⟩
    · rw [base_1 hk hrd he1]; exact ⟨h0, h1⟩
def New2 (W : World) (b : Nat) (p : ByteArray) : World := (W.alloc (.map #[] 0)).alloc (.cells #[.pointer (some ⟨b, 0, none⟩), .string p, .pointer none, .map (some W.heap.size)] 69)
theorem new2 (W : World) (b : Nat) (p : ByteArray) : Below W.heap.size W (New2 W b p) ∧ (New2 W b p).heap[W.heap.size + 1]? = some (.cells #[.pointer (some ⟨b, 0, none⟩), .string p, .pointer none, .map (some W.heap.size)] 69 (0, 0)) ∧ Mo (New2 W b p) W.heap.size [] := by
  refine ⟨((Below.refl _ W).alloc (Nat.le_refl _) _).alloc (by simp) _, new_at _ _ (by simp), (mo_made W).kept (((Below.refl (W.alloc (.map #[] 0)).heap.size _).alloc (Nat.le_refl _) _).block _ (by simp))⟩
theorem imp_mkdir {b : Nat} {F : Nat → Prop} {s s' : St} {w : World} {k : Nat} (P : ByteArray) (h : ImpAt b w F s) (ok : Ok s) (hP : P.size ≤ 8000000000000) (hk : mkdirS s P = (k, s')) : Calls Tryz.prog 25 #[.pointer (some ⟨b, 0, none⟩), .string P] w (Dos (ImpAt b) w F k s') := by
  obtain ⟨bi, bl, l, hI, hg, hF⟩ := h
  have c := iMkdir_any b bi bl l _ P _ hI hg ok hP
  have hg' := good_mkdir (p := P) hg
  rw [hk] at c hg'
  exact c.mono fun e w' ht => does_of' (r := (k, s')) hg' hF ht
def At1 (b : Nat) (w : World) (F : Nat → Prop) (s1 : St) (W : World) : Prop := ∃ F1, ImpAt b W F1 s1 ∧ Chg F w W ∧ ∀ g, F1 g → F g ∨ w.heap.size ≤ g
theorem At1.below {b : Nat} {w W W2 : World} {F : Nat → Prop} {s1 : St} (h : At1 b w F s1 W) (hb : Below W.heap.size W W2) : At1 b w F s1 W2 := by
  obtain ⟨F1, h1, h2, h3⟩ := h
  exact ⟨F1, (imp_kind b).kept h1 (fun i hi => hb.block i ((imp_kind b).lt h1 i hi)), h2.then (Chg.of_below hb), h3⟩
theorem At1.left {b : Nat} {w W : World} {F : Nat → Prop} {s1 : St} (h : At1 b w F s1 W) : Dk.Left (ImpAt b) w F s1 W := h
theorem At1.based {b t m : Nat} {p : ByteArray} {w W W2 : World} {F : Nat → Prop} {s1 : St} (h : At1 b w F s1 W) (hm : W.heap.size ≤ m) (hc : Chg (· = m) (New2 W b p) W2) : At1 b w F s1 W2 := by
  have hb := (new2 W b p).1
  obtain ⟨F1, h1, h2, h3⟩ := h
  have hlt := (imp_kind b).lt h1
  have hs := hb.size
  have hs2 := h2.size
  exact ⟨F1, (imp_kind b).kept h1 (fun i hi => (hc.block i (by have := hlt i hi; have := (Chg.of_below (F := F) hb).size; omega) (fun e => by have := hlt i hi; omega)).trans (hb.block i (hlt i hi))), (h2.then (Chg.of_below hb)).trans hc (fun i hi => .inr (by omega)), h3⟩
theorem base_call {b : Nat} {w W : World} {F : Nat → Prop} {s1 : St} {p : ByteArray} (h : At1 b w F s1 W) (hp : p.size ≤ 1000) (hs : (readS s1 p).1.size ≤ 500000000) :
    Calls Tryz.prog 27 #[.pointer (some ⟨W.heap.size + 1, 0, none⟩)] (New2 W b p) fun e w' => e = .returned (.int .i64 ((base0 s1 p).2 : Nat)) ∧ Mo w' W.heap.size (based s1 p) ∧ Chg (· = W.heap.size) (New2 W b p) w' := by
  obtain ⟨n1, n2, n3⟩ := new2 W b p
  obtain ⟨F1, h1, h2, h3⟩ := h.below n1
  refine takeBase_any b (W.heap.size + 1) W.heap.size p _ ?_ ?_ ?_ n3 h1 hp hs
  all_goals unfold World.cell?; rw [n2]; rfl
theorem log_call {b : Nat} {w W W2 W3 : World} {F : Nat → Prop} {s1 : St} {L : List It} {p q : ByteArray} (h : At1 b w F s1 W) (hm : Mo W2 W.heap.size L) (hc : Chg (· = W.heap.size) (New2 W b p) W2) (hb : Below W2.heap.size W2 W3) (hL : Rises L ∧ Plain L) (o : OpenOk s1 q) (hq : q.size ≤ 1000) (hrec : (openS s1 q).1 = 0 → RecOk L (openS s1 q).2.R) :
    Calls Tryz.prog 28 #[.pointer (some ⟨W.heap.size + 1, 0, none⟩), .string q] W3 fun e w' =>
      ((openS s1 q).1 = 0 ∧ e = .returned (.int .i64 0) ∧ ∃ j, LeftA (Tn b j (W.heap.size + 1) W.heap.size p q) w F ⟨(openS s1 q).2, rows7 L (openS s1 q).2.R⟩ w') ∨ ((openS s1 q).1 ≠ 0 ∧ e = .returned (.int .i64 ((openS s1 q).1 : Nat)) ∧ Dk.Left (ImpAt b) w F (openS s1 q).2.s w') := by
  obtain ⟨n1, n2, n3⟩ := new2 W b p
  obtain ⟨F1, h1, h2, h3⟩ := h
  have hlt := (imp_kind b).lt h1
  have hsN : (New2 W b p).heap.size = W.heap.size + 1 + 1 := by unfold New2; simp
  have hsz := hc.size
  have hs0 := h2.size
  have hA := (At1.based (t := W.heap.size + 1) (m := W.heap.size) (p := p) ⟨F1, h1, h2, h3⟩ (Nat.le_refl _) hc).below hb
  have h1' : ImpAt b W3 F1 s1 := (imp_kind b).kept h1 (fun i hi => (hb.block i (by have := hlt i hi; omega)).trans ((hc.block i (by have := hlt i hi; omega) (fun e => by have := hlt i hi; omega)).trans (n1.block i (hlt i hi))))
  have hblk : W3.heap[W.heap.size + 1]? = _ := (hb.block _ (by omega)).trans ((hc.block _ (by omega) (by omega)).trans n2)
  have hm3 := hm.below hb
  have hch : Chg F w W3 := ((h2.then (Chg.of_below n1)).trans hc (fun i hi => .inr (by omega))).then (Chg.of_below hb)
  refine (takeLog_any b (W.heap.size + 1) W.heap.size p q W3 hblk hm3 h1' ⟨fun hh => by have := hlt _ hh; omega, fun hh => by have := hlt _ hh; omega⟩ hL.1 hL.2 o hq hrec).mono ?_
  intro e w' hh
  rcases hh with ⟨e0, he, j, hl⟩ | ⟨e0, he, hl⟩
  · exact .inl ⟨e0, he, j, left_trans7 hch (F1 := fun i => F1 i ∨ i = W.heap.size + 1 ∨ i = W.heap.size) (fun g hg => by
      rcases hg with hg | rfl | rfl
      · exact h3 g hg
      · exact .inr (by omega)
      · exact .inr hs0) hl⟩
  · exact .inr ⟨e0, he, Wl.left_trans hch h3 hl⟩
set_option maxRecDepth 100000 in
set_option maxHeartbeats 4000000 in
theorem open_any (b : Nat) {F : Nat → Prop} {s : St} (f p q : ByteArray) (w : World) (h : ImpAt b w F s) (hp : tb (joi f.data.toList [98, 97, 115, 101]) = p) (hq : tb (joi f.data.toList [108, 111, 103]) = q) (o : Open7Ok s f p q) :
    Calls Tryz.prog 7 #[.pointer (some ⟨b, 0, none⟩), .string f] w (Open7To b p q w F (open7 s f p q)) := by
  obtain ⟨o1, o2, o3, o4, o5⟩ := o
  have ck := iw_kind f h (by omega)
  have cjp := fun W => pJoin_any f ⟨#[98, 97, 115, 101]⟩ W (by show f.size + 4 ≤ _; omega)
  have cjq := fun W => pJoin_any f ⟨#[108, 111, 103]⟩ W (by show f.size + 3 ≤ _; omega)
  have hmm := @run_makeMap Tryz.prog
  rw [show (⟨#[98, 97, 115, 101]⟩ : ByteArray).data.toList = [98, 97, 115, 101] from rfl, hp] at cjp
  rw [show (⟨#[108, 111, 103]⟩ : ByteArray).data.toList = [108, 111, 103] from rfl, hq] at cjq
  obtain ⟨k1, s1, hop⟩ : ∃ k s1, opened s f = (k, s1) := ⟨_, _, rfl⟩
  unfold Open7To
  by_cases hk : kind s.L f = 0
  · have hmk : mkdirS s f = (k1, s1) := by unfold opened at hop; rwa [if_pos hk] at hop
    have cm := fun W (hW : w = W) => imp_mkdir f (hW ▸ h) o1 (by omega) hmk
    rw [hk] at ck
    by_cases hk1 : k1 ≠ 0
    · rw [open_m hop hk1]
      have nk := neZ hk1
      have HK := Lib.hid hk1
      clear h hp hq o1 o2 o3 o4 o5 hk hk1 hop hmk cjp cjq hmm
      go_enter Tryz.func7, Tryz.ntmps7
      go_wp2_with fail
      go_at_call 24
      refine ck.mono ?_
      rintro e w1 ⟨rfl, rfl⟩
      go_wp2_with fail
      go_at_call 25
      refine (cm _ rfl).mono ?_
      rintro e w2 ⟨rfl, h2⟩
      go_wp2_with fail
      go_ret2
      exact .inr ⟨HK.out, rfl, h2⟩
    · obtain rfl : k1 = 0 := by omega
      rw [hop] at o2
      obtain ⟨q1, q2⟩ := o2 rfl
      simp only at q1 q2
      rw [open_n hop]
      clear h hp hq o1 o2 hk hk1 hop hmk
      obtain ⟨L, kb, hbase⟩ : ∃ L k, base0 s1 p = (L, k) := ⟨_, _, rfl⟩
      have hrp := base_rises s1 p
      rw [hbase] at q2 hrp
      simp only at q2 hrp
      by_cases hkb : kb = 0
      · subst hkb
        obtain ⟨q3, q4⟩ := q2 rfl
        have hbd : based s1 p = L := by unfold based; rw [hbase]; rfl
        have HBA := Lib.hid hbase
        have HBD := Lib.hid hbd
        have HRP := Lib.hid hrp
        have HQ3 := Lib.hid q3
        have HQ4 := Lib.hid q4
        clear hbase hbd hrp q2 q3 q4
        go_enter Tryz.func7, Tryz.ntmps7
        go_wp2_with fail
        go_at_call 24
        refine ck.mono ?_
        rintro e w1 ⟨rfl, rfl⟩
        go_wp2_with fail
        go_at_call 25
        refine (cm _ rfl).mono ?_
        rintro e w2 ⟨rfl, h2⟩
        have hA2 : At1 b w F s1 w2 := h2
        go_wp2_with fail
        go_at_call 26
        refine (cjp _).mono ?_
        rintro e w3 ⟨rfl, hb3⟩
        have hA3 := hA2.below hb3
        have cb := base_call hA3 o4 q1
        rw [HBA.out, HBD.out] at cb
        unfold New2 at cb
        go_wp2_with fail
        go_at_call 27
        refine cb.mono ?_
        rintro e w5 ⟨rfl, hm5, hc5⟩
        have HC5 := Lib.hid (show Chg (· = w3.heap.size) (New2 w3 b p) w5 from hc5)
        have HM5 := Lib.hid hm5
        have HA3 := Lib.hid hA3
        clear hm5 hc5 hA3 cb
        go_wp2_with fail
        go_at_call 26
        refine (cjq _).mono ?_
        rintro e w6 ⟨rfl, hb6⟩
        have cl := log_call HA3.out HM5.out HC5.out hb6 HRP.out HQ3.out o5 HQ4.out
        clear hb6
        obtain ⟨kl, y, hol⟩ : ∃ k y, openS s1 q = (k, y) := ⟨_, _, rfl⟩
        rw [hol] at cl
        simp only at cl
        by_cases hkl : kl = 0
        · subst hkl
          have cl2 := cl.mono (R' := fun e w' => e = .returned (.int .i64 0) ∧ ∃ j, LeftA (Tn b j (w3.heap.size + 1) w3.heap.size p q) w F ⟨y, rows7 L y.R⟩ w') (fun e w' hh => by
            rcases hh with ⟨_, he, hl⟩ | ⟨h0, _⟩
            · exact ⟨he, hl⟩
            · exact absurd rfl h0)
          have HO := Lib.hid (open1_o HBA.out hol)
          clear cl hol
          go_wp2_with fail
          go_at_call 28
          refine cl2.mono ?_
          rintro e w7 ⟨rfl, j, h7⟩
          go_wp2_with fail
          go_ret2
          rw [HO.out]
          exact .inl ⟨rfl, _, _, _, rfl, h7⟩
        · have cl2 := cl.mono (R' := fun e w' => e = .returned (.int .i64 (kl : Nat)) ∧ Dk.Left (ImpAt b) w F y.s w') (fun e w' hh => by
            rcases hh with ⟨h0, _⟩ | ⟨_, he, hl⟩
            · exact absurd h0 hkl
            · exact ⟨he, hl⟩)
          have HO := Lib.hid (open1_l HBA.out hol hkl)
          have nl := neZ hkl
          have HKL := Lib.hid hkl
          clear cl hol hkl
          go_wp2_with fail
          go_at_call 28
          refine cl2.mono ?_
          rintro e w7 ⟨rfl, h7⟩
          go_wp2_with fail
          go_ret2
          rw [HO.out]
          exact .inr ⟨HKL.out, rfl, h7⟩
      · have HO := Lib.hid (open1_b (q := q) hbase hkb)
        have nb := neZ hkb
        have HKB := Lib.hid hkb
        have HBA := Lib.hid hbase
        clear hbase hrp q2 hkb
        go_enter Tryz.func7, Tryz.ntmps7
        go_wp2_with fail
        go_at_call 24
        refine ck.mono ?_
        rintro e w1 ⟨rfl, rfl⟩
        go_wp2_with fail
        go_at_call 25
        refine (cm _ rfl).mono ?_
        rintro e w2 ⟨rfl, h2⟩
        have hA2 : At1 b w F s1 w2 := h2
        go_wp2_with fail
        go_at_call 26
        refine (cjp _).mono ?_
        rintro e w3 ⟨rfl, hb3⟩
        have hA3 := hA2.below hb3
        have cb := base_call hA3 o4 q1
        rw [HBA.out] at cb
        unfold New2 at cb
        go_wp2_with fail
        go_at_call 27
        refine cb.mono ?_
        rintro e w5 ⟨rfl, hm5, hc5⟩
        have HE := Lib.hid (At1.based (t := w3.heap.size + 1) hA3 (Nat.le_refl _) (show Chg (· = w3.heap.size) (New2 w3 b p) w5 from hc5))
        clear hm5 hc5 hA3 cb
        go_wp2_with fail
        go_ret2
        rw [HO.out]
        exact .inr ⟨HKB.out, rfl, HE.out⟩
  · have hk1 : k1 = 0 ∧ s1 = s := by
      unfold opened at hop
      rw [if_neg hk] at hop
      simp only [Prod.mk.injEq] at hop
      exact ⟨hop.1.symm, hop.2.symm⟩
    obtain ⟨rfl, rfl⟩ := hk1
    rw [hop] at o2
    obtain ⟨q1, q2⟩ := o2 rfl
    simp only at q1 q2
    rw [open_n hop]
    have nk := neZ hk
    have hA : At1 b w F s1 w := ⟨F, h, Chg.refl _ _, fun g hg => .inl hg⟩
    have HA := Lib.hid (fun W (hW : w = W) => (hW ▸ hA : At1 b w F s1 W))
    generalize kind s1.L f = K at ck nk
    clear h hp hq o1 o2 hk hop hA
    obtain ⟨L, kb, hbase⟩ : ∃ L k, base0 s1 p = (L, k) := ⟨_, _, rfl⟩
    have hrp := base_rises s1 p
    rw [hbase] at q2 hrp
    simp only at q2 hrp
    by_cases hkb : kb = 0
    · subst hkb
      obtain ⟨q3, q4⟩ := q2 rfl
      have hbd : based s1 p = L := by unfold based; rw [hbase]; rfl
      have HBA := Lib.hid hbase
      have HBD := Lib.hid hbd
      have HRP := Lib.hid hrp
      have HQ3 := Lib.hid q3
      have HQ4 := Lib.hid q4
      clear hbase hbd hrp q2 q3 q4
      go_enter Tryz.func7, Tryz.ntmps7
      go_wp2_with fail
      go_at_call 24
      refine ck.mono ?_
      rintro e w1 ⟨rfl, rfl⟩
      have hA2 := HA.out _ rfl
      go_wp2_with fail
      go_at_call 26
      refine (cjp _).mono ?_
      rintro e w3 ⟨rfl, hb3⟩
      have hA3 := hA2.below hb3
      have cb := base_call hA3 o4 q1
      rw [HBA.out, HBD.out] at cb
      unfold New2 at cb
      go_wp2_with fail
      go_at_call 27
      refine cb.mono ?_
      rintro e w5 ⟨rfl, hm5, hc5⟩
      have HC5 := Lib.hid (show Chg (· = w3.heap.size) (New2 w3 b p) w5 from hc5)
      have HM5 := Lib.hid hm5
      have HA3 := Lib.hid hA3
      clear hm5 hc5 hA3 cb
      go_wp2_with fail
      go_at_call 26
      refine (cjq _).mono ?_
      rintro e w6 ⟨rfl, hb6⟩
      have cl := log_call HA3.out HM5.out HC5.out hb6 HRP.out HQ3.out o5 HQ4.out
      clear hb6
      obtain ⟨kl, y, hol⟩ : ∃ k y, openS s1 q = (k, y) := ⟨_, _, rfl⟩
      rw [hol] at cl
      simp only at cl
      by_cases hkl : kl = 0
      · subst hkl
        have cl2 := cl.mono (R' := fun e w' => e = .returned (.int .i64 0) ∧ ∃ j, LeftA (Tn b j (w3.heap.size + 1) w3.heap.size p q) w F ⟨y, rows7 L y.R⟩ w') (fun e w' hh => by
          rcases hh with ⟨_, he, hl⟩ | ⟨h0, _⟩
          · exact ⟨he, hl⟩
          · exact absurd rfl h0)
        have HO := Lib.hid (open1_o HBA.out hol)
        clear cl hol
        go_wp2_with fail
        go_at_call 28
        refine cl2.mono ?_
        rintro e w7 ⟨rfl, j, h7⟩
        go_wp2_with fail
        go_ret2
        rw [HO.out]
        exact .inl ⟨rfl, _, _, _, rfl, h7⟩
      · have cl2 := cl.mono (R' := fun e w' => e = .returned (.int .i64 (kl : Nat)) ∧ Dk.Left (ImpAt b) w F y.s w') (fun e w' hh => by
          rcases hh with ⟨h0, _⟩ | ⟨_, he, hl⟩
          · exact absurd h0 hkl
          · exact ⟨he, hl⟩)
        have HO := Lib.hid (open1_l HBA.out hol hkl)
        have nl := neZ hkl
        have HKL := Lib.hid hkl
        clear cl hol hkl
        go_wp2_with fail
        go_at_call 28
        refine cl2.mono ?_
        rintro e w7 ⟨rfl, h7⟩
        go_wp2_with fail
        go_ret2
        rw [HO.out]
        exact .inr ⟨HKL.out, rfl, h7⟩
    · have HO := Lib.hid (open1_b (q := q) hbase hkb)
      have nb := neZ hkb
      have HKB := Lib.hid hkb
      have HBA := Lib.hid hbase
      clear hbase hrp q2 hkb
      go_enter Tryz.func7, Tryz.ntmps7
      go_wp2_with fail
      go_at_call 24
      refine ck.mono ?_
      rintro e w1 ⟨rfl, rfl⟩
      have hA2 := HA.out _ rfl
      go_wp2_with fail
      go_at_call 26
      refine (cjp _).mono ?_
      rintro e w3 ⟨rfl, hb3⟩
      have hA3 := hA2.below hb3
      have cb := base_call hA3 o4 q1
      rw [HBA.out] at cb
      unfold New2 at cb
      go_wp2_with fail
      go_at_call 27
      refine cb.mono ?_
      rintro e w5 ⟨rfl, hm5, hc5⟩
      have HE := Lib.hid (At1.based (t := w3.heap.size + 1) hA3 (Nat.le_refl _) (show Chg (· = w3.heap.size) (New2 w3 b p) w5 from hc5))
      clear hm5 hc5 hA3 cb
      go_wp2_with fail
      go_ret2
      rw [HO.out]
      exact .inr ⟨HKB.out, rfl, HE.out⟩
end Go.Proofs.YtdkgkomjbpggeaaGreatDoor.Tb

namespace Go.Proofs.YtdkgkomjbpggeaaGreatDoor.Wl
open Go.RowKit Tx Pm Pl Pr Dk Fr
set_option linter.unusedVariables false
def Own {α : Type} (Obj : World → (Nat → Prop) → α → Prop) (w0 : World) (x : α) (W : World) : Prop := ∃ F, Obj W F x ∧ (∀ i, F i → w0.heap.size ≤ i) ∧ Below w0.heap.size w0 W
section
variable {α β : Type} {Obj : World → (Nat → Prop) → α → Prop} {Obj' : World → (Nat → Prop) → β → Prop} {w0 W : World} {x : α} {y : β}
theorem Own.kept (hk : ∀ {w w1 : World} {F : Nat → Prop} {x : α}, Obj w F x → Below w.heap.size w w1 → Obj w1 F x) {w' : World} (h : Own Obj w0 x W) (hb : Below W.heap.size W w') : Own Obj w0 x w' := by
  obtain ⟨F, h1, h2, h3⟩ := h
  exact ⟨F, hk h1 hb, h2, below_call h3 hb⟩
end
section
variable {w0 W : World} {b j k : Nat} {s s' : St} {x y : Jst}
theorem w_new (w0 : World) {W : World} (hb : Below w0.heap.size w0 W) : Calls Tryz.prog 6 #[] W fun e w' => ∃ b, e = .returned (.pointer (some ⟨b, 0, none⟩)) ∧ Own (ImpAt b) w0 newS w' :=
  (iNew_any W).mono fun e w' ⟨b, bi, bl, he, hI, hF, hb1⟩ => ⟨b, he, Ft b bi bl, ⟨bi, bl, -1, hI, good_new, fun _ => Iff.rfl⟩, fun i hi => Nat.le_trans hb.size (hF i hi), below_call hb hb1⟩
end
theorem ok_new : Ok newS := ok_small (by decide) (by decide) (by decide) (by decide) (by decide) (by decide) (by decide)
end Go.Proofs.YtdkgkomjbpggeaaGreatDoor.Wl

namespace Go.Proofs.YtdkgkomjbpggeaaGreatDoor.Wl
open Go.RowKit Tx Pm Pl Pr Dk
set_option linter.unusedVariables false
end Go.Proofs.YtdkgkomjbpggeaaGreatDoor.Wl

namespace Go.Proofs.YtdkgkomjbpggeaaGreatDoor.Wl
open Go.RowKit Tx Pm Pl Pr Dk Fr
set_option linter.unusedVariables false
end Go.Proofs.YtdkgkomjbpggeaaGreatDoor.Wl

namespace Go.Proofs.YtdkgkomjbpggeaaGreatDoor.Tb
open Go.RowKit Tx Pm Dk Wm Wr Wl
set_option linter.unusedVariables false
set_option linter.unusedSimpArgs false
set_option linter.unnecessarySimpa false
def pS : ByteArray := ⟨#[115, 121, 115]⟩
def pB : ByteArray := ⟨#[115, 121, 115, 47, 98, 97, 115, 101]⟩
def pBT : ByteArray := ⟨#[115, 121, 115, 47, 98, 97, 115, 101, 95, 116]⟩
def pG : ByteArray := ⟨#[115, 121, 115, 47, 108, 111, 103]⟩
def pGT : ByteArray := ⟨#[115, 121, 115, 47, 108, 111, 103, 95, 116]⟩
theorem pB_tT : pB ++ tT = pBT := by decide +kernel
theorem pG_tT : pG ++ tT = pGT := by decide +kernel
def dirS : It := ⟨pS, true, ⟨#[]⟩, ⟨#[]⟩, false, false, 0⟩
structure Fi where
  data : ByteArray
  kept : ByteArray
  loose : Bool
  anew : Bool
  stamp : Nat
def sy (d : ByteArray) (n : Nat) : Fi := ⟨d, d, false, false, n⟩
def oit (p : ByteArray) : Option Fi → List It
  | none => []
  | some f => [⟨p, false, f.data, f.kept, f.loose, f.anew, f.stamp⟩]
def keptOf : Option Fi → ByteArray
  | none => ⟨#[]⟩
  | some f => f.kept
def T7 (B BT G GT : Option Fi) (st sm : Nat) (a : Int) (dn : Bool) : St := ⟨dirS :: (oit pB B ++ (oit pBT BT ++ (oit pG G ++ oit pGT GT))), [], st, sm, a, dn⟩
section
variable {B BT G GT : Option Fi} {g f : Fi} {d : ByteArray} {st sm : Nat} {a : Int} {dn : Bool}
theorem k_sys : kind (T7 B BT G GT st sm a dn).L pS = 1 := by cases B <;> cases BT <;> cases G <;> cases GT <;> kernel_rfl
theorem k_base0 : kind (T7 none BT G GT st sm a dn).L pB = 0 := by cases BT <;> cases G <;> cases GT <;> kernel_rfl
theorem k_base : kind (T7 (some f) BT G GT st sm a dn).L pB = 2 := by cases BT <;> cases G <;> cases GT <;> kernel_rfl
theorem k_log0 : kind (T7 B BT none GT st sm a dn).L pG = 0 := by cases B <;> cases BT <;> cases GT <;> kernel_rfl
theorem k_log : kind (T7 B BT (some g) GT st sm a dn).L pG = 2 := by cases B <;> cases BT <;> cases GT <;> kernel_rfl
theorem r_base : readS (T7 (some f) BT G GT st sm a false) pB = (f.data, 0) := by cases BT <;> cases G <;> cases GT <;> kernel_rfl
theorem r_base0 : readS (T7 none BT G GT st sm a false) pB = (⟨#[]⟩, 11) := by cases BT <;> cases G <;> cases GT <;> kernel_rfl
theorem r_log : readS (T7 B BT (some g) GT st sm a false) pG = (g.data, 0) := by cases B <;> cases BT <;> cases GT <;> kernel_rfl
theorem o_log : (old (T7 B BT (some g) GT st sm a dn).L pG).data = g.data := by cases B <;> cases BT <;> cases GT <;> kernel_rfl
theorem t_append (ha : a ≠ 0) : appendS (T7 B BT (some g) GT st sm a false) pG d = (0, T7 B BT (some ⟨g.data ++ d, g.kept, true, g.anew, sm + 1⟩) GT (st + 1) (sm + 1) (dec a) false) := by
  unfold appendS
  rw [fits_none rfl]
  unfold T7
  rw [done_open ha]
  cases B <;> cases BT <;> cases GT <;> kernel_rfl
theorem t_append0 : appendS (T7 B BT (some g) GT st sm 0 false) pG d = (14, T7 B BT (some g) GT st sm (-1) true) := by
  unfold appendS
  rw [fits_none rfl]
  cases B <;> cases BT <;> cases GT <;> kernel_rfl
theorem t_sync (ha : a ≠ 0) : syncS (T7 B BT (some g) GT st sm a false) pG = (0, T7 B BT (some ⟨g.data, g.data, false, false, g.stamp⟩) GT (st + 1) sm (dec a) false) := by
  unfold syncS T7
  rw [done_open ha]
  cases B <;> cases BT <;> cases GT <;> kernel_rfl
theorem t_sync0 : syncS (T7 B BT (some g) GT st sm 0 false) pG = (14, T7 B BT (some g) GT st sm (-1) true) := by
  unfold syncS
  cases B <;> cases BT <;> cases GT <;> kernel_rfl
theorem b_write (ha : a ≠ 0) : writeS (T7 B BT G GT st sm a false) pBT d = (0, T7 B (some ⟨d, keptOf BT, true, true, sm + 1⟩) G GT (st + 1) (sm + 1) (dec a) false) := by
  unfold writeS
  rw [fits_none rfl]
  unfold T7
  rw [done_open ha]
  cases B <;> cases BT <;> cases G <;> cases GT <;> kernel_rfl
theorem b_write0 : writeS (T7 B BT G GT st sm 0 false) pBT d = (14, T7 B BT G GT st sm (-1) true) := by
  unfold writeS
  rw [fits_none rfl]
  cases B <;> cases BT <;> cases G <;> cases GT <;> kernel_rfl
theorem b_sync (ha : a ≠ 0) : syncS (T7 B (some f) G GT st sm a false) pBT = (0, T7 B (some ⟨f.data, f.data, false, false, f.stamp⟩) G GT (st + 1) sm (dec a) false) := by
  unfold syncS T7
  rw [done_open ha]
  cases B <;> cases G <;> cases GT <;> kernel_rfl
theorem b_sync0 : syncS (T7 B (some f) G GT st sm 0 false) pBT = (14, T7 B (some f) G GT st sm (-1) true) := by
  unfold syncS
  cases B <;> cases G <;> cases GT <;> kernel_rfl
theorem b_rename (ha : a ≠ 0) : renameS (T7 B (some f) G GT st sm a false) pBT pB = (0, T7 (some ⟨f.data, f.kept, f.loose, f.anew, sm + 1⟩) none G GT (st + 1) (sm + 1) (dec a) false) := by
  unfold renameS
  rw [fits_none rfl]
  unfold T7
  rw [done_open ha]
  cases B <;> cases G <;> cases GT <;> kernel_rfl
theorem b_rename0 : renameS (T7 B (some f) G GT st sm 0 false) pBT pB = (14, T7 B (some f) G GT st sm (-1) true) := by
  unfold renameS
  rw [fits_none rfl]
  cases B <;> cases G <;> cases GT <;> kernel_rfl
theorem g_write (ha : a ≠ 0) : writeS (T7 B BT G GT st sm a false) pGT d = (0, T7 B BT G (some ⟨d, keptOf GT, true, true, sm + 1⟩) (st + 1) (sm + 1) (dec a) false) := by
  unfold writeS
  rw [fits_none rfl]
  unfold T7
  rw [done_open ha]
  cases B <;> cases BT <;> cases G <;> cases GT <;> kernel_rfl
theorem g_write0 : writeS (T7 B BT G GT st sm 0 false) pGT d = (14, T7 B BT G GT st sm (-1) true) := by
  unfold writeS
  rw [fits_none rfl]
  cases B <;> cases BT <;> cases G <;> cases GT <;> kernel_rfl
theorem g_sync (ha : a ≠ 0) : syncS (T7 B BT G (some f) st sm a false) pGT = (0, T7 B BT G (some ⟨f.data, f.data, false, false, f.stamp⟩) (st + 1) sm (dec a) false) := by
  unfold syncS T7
  rw [done_open ha]
  cases B <;> cases BT <;> cases G <;> kernel_rfl
theorem g_sync0 : syncS (T7 B BT G (some f) st sm 0 false) pGT = (14, T7 B BT G (some f) st sm (-1) true) := by
  unfold syncS
  cases B <;> cases BT <;> cases G <;> kernel_rfl
theorem g_rename (ha : a ≠ 0) : renameS (T7 B BT G (some f) st sm a false) pGT pG = (0, T7 B BT (some ⟨f.data, f.kept, f.loose, f.anew, sm + 1⟩) none (st + 1) (sm + 1) (dec a) false) := by
  unfold renameS
  rw [fits_none rfl]
  unfold T7
  rw [done_open ha]
  cases B <;> cases BT <;> cases G <;> kernel_rfl
theorem g_rename0 : renameS (T7 B BT G (some f) st sm 0 false) pGT pG = (14, T7 B BT G (some f) st sm (-1) true) := by
  unfold renameS
  rw [fits_none rfl]
  cases B <;> cases BT <;> cases G <;> kernel_rfl
theorem n_mkdir : mkdirS newS pS = (0, T7 none none none none 1 0 (-1) false) := by kernel_rfl
end
end Go.Proofs.YtdkgkomjbpggeaaGreatDoor.Tb

namespace Go.Proofs.YtdkgkomjbpggeaaGreatDoor.Tb
open Go.RowKit Tx Pm Dk Wm Wr Wl
set_option linter.unusedVariables false
set_option linter.unusedSimpArgs false
set_option linter.unnecessarySimpa false
def Fok (f : Fi) : Prop := f.data.size ≤ 20000000000 ∧ f.kept.size ≤ 20000000000 ∧ (f.anew = false → f.kept.size ≤ f.data.size) ∧ (f.loose = false → f.kept = f.data ∧ f.anew = false)
def Ook (o : Option Fi) : Prop := ∀ f, o = some f → Fok f
theorem ook_none : Ook none := fun f h => by cases h
theorem ook_sy {d : ByteArray} {n : Nat} (h : d.size ≤ 20000000000) : Ook (some (sy d n)) := fun f hf => by
  injection hf with hf
  subst hf
  exact ⟨h, h, fun _ => Nat.le_refl _, fun _ => ⟨rfl, rfl⟩⟩
theorem ook_raw {d k : ByteArray} {n : Nat} (h : d.size ≤ 20000000000) (hk : k.size ≤ 20000000000) : Ook (some ⟨d, k, true, true, n⟩) := fun f hf => by
  injection hf with hf
  subst hf
  exact ⟨h, hk, fun e => (by cases e), fun e => (by cases e)⟩
theorem ook_app {d k : ByteArray} {n : Nat} (h : d.size ≤ 20000000000) (hk : k.size ≤ d.size) : Ook (some ⟨d, k, true, false, n⟩) := fun f hf => by
  injection hf with hf
  subst hf
  exact ⟨h, by show k.size ≤ _; omega, fun _ => hk, fun e => (by cases e)⟩
theorem kept_ook {o : Option Fi} (h : Ook o) : (keptOf o).size ≤ 20000000000 := by
  cases o with
  | none => exact Nat.zero_le _
  | some f => exact (h f rfl).2.1
def Rng (a : Int) : Prop := -1 ≤ a ∧ a ≤ 9223372036854775807
theorem rng_dec {a : Int} (h : Rng a) : Rng (dec a) := dec_in h
theorem rng_m1 : Rng (-1) := ⟨by decide, by decide⟩
structure Sz (B BT G GT : Option Fi) (st sm : Nat) : Prop where
  b : Ook B
  bt : Ook BT
  g : Ook G
  gt : Ook GT
  st : st ≤ 1000000
  sm : sm ≤ 1000000
theorem oit_len (p : ByteArray) (o : Option Fi) : (oit p o).length ≤ 1 := by cases o <;> simp [oit]
theorem oit_mem {p : ByteArray} {o : Option Fi} {x : It} (h : x ∈ oit p o) : x.path = p ∧ ∃ f, o = some f ∧ x = ⟨p, false, f.data, f.kept, f.loose, f.anew, f.stamp⟩ := by
  cases o with
  | none => cases h
  | some f =>
    have h := List.mem_singleton.1 h
    exact ⟨by rw [h], f, rfl, h⟩
section
variable {B BT G GT : Option Fi} {g f : Fi} {d : ByteArray} {st sm : Nat} {a : Int} {dn : Bool}
theorem t7_mem {x : It} (h : Sz B BT G GT st sm) (hx : x ∈ (T7 B BT G GT st sm a dn).L) : x.path.size ≤ 1000 ∧ x.data.size ≤ 20000000000 ∧ x.kept.size ≤ 20000000000 ∧ (x.anew = false → x.kept.size ≤ x.data.size) := by
  unfold T7 at hx
  rcases List.mem_cons.1 hx with rfl | hx
  · exact ⟨by decide, by decide, by decide, fun _ => Nat.le_refl _⟩
  · have one : ∀ {p : ByteArray} {o : Option Fi}, p.size ≤ 1000 → Ook o → x ∈ oit p o → x.path.size ≤ 1000 ∧ x.data.size ≤ 20000000000 ∧ x.kept.size ≤ 20000000000 ∧ (x.anew = false → x.kept.size ≤ x.data.size) := fun hp ho hx => by
      obtain ⟨_, f, hf, rfl⟩ := oit_mem hx
      obtain ⟨a1, a2, a3, _⟩ := ho f hf
      exact ⟨hp, a1, a2, a3⟩
    rcases List.mem_append.1 hx with hx | hx
    · exact one (by decide) h.b hx
    · rcases List.mem_append.1 hx with hx | hx
      · exact one (by decide) h.bt hx
      · rcases List.mem_append.1 hx with hx | hx
        · exact one (by decide) h.g hx
        · exact one (by decide) h.gt hx
theorem t7_len : (T7 B BT G GT st sm a dn).L.length ≤ 5 := by
  unfold T7
  have h1 := oit_len pB B
  have h2 := oit_len pBT BT
  have h3 := oit_len pG G
  have h4 := oit_len pGT GT
  simp only [List.length_cons, List.length_append]
  omega
theorem whole_le : ∀ {l : List It} {N : Nat}, (∀ x ∈ l, x.data.size ≤ N) → whole l ≤ l.length * N
  | [], _, _ => Nat.zero_le _
  | x :: l, N, h => by
    have h1 := h x List.mem_cons_self
    have h2 := whole_le (l := l) (fun y hy => h y (List.mem_cons_of_mem _ hy))
    unfold whole at h2 ⊢
    rw [List.map_cons, List.sum_cons, List.length_cons, Nat.succ_mul]
    omega
theorem t7_ok (h : Sz B BT G GT st sm) (ha : Rng a) : Ok (T7 B BT G GT st sm a dn) := by
  have hl := t7_len (B := B) (BT := BT) (G := G) (GT := GT) (st := st) (sm := sm) (a := a) (dn := dn)
  have hw := whole_le (l := (T7 B BT G GT st sm a dn).L) (N := 20000000000) (fun x hx => (t7_mem h hx).2.1)
  have hst := h.st
  have hsm := h.sm
  obtain ⟨a1, a2⟩ := ha
  refine ⟨⟨by omega, fun x hx => by have := (t7_mem h hx).1; omega, ?_⟩, by show 0 ≤ _; omega, by show st ≤ _; omega, by show sm ≤ _; omega, by show _ ≤ a ∧ a ≤ _; omega⟩
  have := Nat.mul_le_mul_right 20000000000 hl
  omega
end
section
variable {B BT G GT : Option Fi} {d : ByteArray} {st sm : Nat} {a : Int}
theorem dec_m1 {a : Int} (h : a = -1) : dec a = -1 := by subst h; rfl
theorem fillB (h : Sz B BT G GT st sm) (hd : d.size ≤ 20000000000) (ha : Rng a) : ∃ k s', fillS (T7 B BT G GT st sm a false) pB d = (k, s') ∧
    ((k = 0 ∧ ∃ a', s' = T7 (some (sy d (sm + 2))) none G GT (st + 3) (sm + 2) a' false ∧ Rng a' ∧ (a = -1 → a' = -1)) ∨ (k = 14 ∧ a ≠ -1 ∧ ∃ BT' st' sm', s' = T7 B BT' G GT st' sm' (-1) true ∧ Ook BT' ∧ st' ≤ st + 3 ∧ sm' ≤ sm + 2)) := by
  have hk := kept_ook h.bt
  unfold fillS
  rw [pB_tT]
  by_cases h1 : a = 0
  · subst h1
    rw [b_write0]
    exact ⟨14, _, rfl, .inr ⟨rfl, by decide, BT, st, sm, rfl, h.bt, by omega, by omega⟩⟩
  · rw [b_write h1]
    by_cases h2 : dec a = 0
    · simp only [h2, b_sync0]
      exact ⟨14, _, rfl, .inr ⟨rfl, fun e => (by rw [dec_m1 e] at h2; cases h2), _, st + 1, sm + 1, rfl, ook_raw hd hk, by omega, by omega⟩⟩
    · simp only [b_sync h2]
      by_cases h3 : dec (dec a) = 0
      · simp only [h3, b_rename0]
        exact ⟨14, _, rfl, .inr ⟨rfl, fun e => (by rw [dec_m1 (dec_m1 e)] at h3; cases h3), _, st + 1 + 1, sm + 1, rfl, ook_sy (n := sm + 1) hd, by omega, by omega⟩⟩
      · simp only [b_rename h3]
        exact ⟨0, _, rfl, .inl ⟨rfl, _, rfl, rng_dec (rng_dec (rng_dec ha)), fun e => dec_m1 (dec_m1 (dec_m1 e))⟩⟩
theorem fillG (h : Sz B BT G GT st sm) (hd : d.size ≤ 20000000000) (ha : Rng a) : ∃ k s', fillS (T7 B BT G GT st sm a false) pG d = (k, s') ∧
    ((k = 0 ∧ ∃ a', s' = T7 B BT (some (sy d (sm + 2))) none (st + 3) (sm + 2) a' false ∧ Rng a' ∧ (a = -1 → a' = -1)) ∨ (k = 14 ∧ a ≠ -1 ∧ ∃ GT' st' sm', s' = T7 B BT G GT' st' sm' (-1) true ∧ Ook GT' ∧ st' ≤ st + 3 ∧ sm' ≤ sm + 2)) := by
  have hk := kept_ook h.gt
  unfold fillS
  rw [pG_tT]
  by_cases h1 : a = 0
  · subst h1
    rw [g_write0]
    exact ⟨14, _, rfl, .inr ⟨rfl, by decide, GT, st, sm, rfl, h.gt, by omega, by omega⟩⟩
  · rw [g_write h1]
    by_cases h2 : dec a = 0
    · simp only [h2, g_sync0]
      exact ⟨14, _, rfl, .inr ⟨rfl, fun e => (by rw [dec_m1 e] at h2; cases h2), _, st + 1, sm + 1, rfl, ook_raw hd hk, by omega, by omega⟩⟩
    · simp only [g_sync h2]
      by_cases h3 : dec (dec a) = 0
      · simp only [h3, g_rename0]
        exact ⟨14, _, rfl, .inr ⟨rfl, fun e => (by rw [dec_m1 (dec_m1 e)] at h3; cases h3), _, st + 1 + 1, sm + 1, rfl, ook_sy (n := sm + 1) hd, by omega, by omega⟩⟩
      · simp only [g_rename h3]
        exact ⟨0, _, rfl, .inl ⟨rfl, _, rfl, rng_dec (rng_dec (rng_dec ha)), fun e => dec_m1 (dec_m1 (dec_m1 e))⟩⟩
theorem fillokB (h : Sz B BT G GT st sm) (hd : d.size ≤ 20000000000) (ha : Rng a) (hst : st ≤ 900000) (hsm : sm ≤ 900000) : FillOk (T7 B BT G GT st sm a false) pB d := by
  have hk := kept_ook h.bt
  refine ⟨t7_ok h ha, ?_, ?_⟩
  · rw [pB_tT]
    by_cases h1 : a = 0
    · subst h1; rw [b_write0]; exact t7_ok h rng_m1
    · rw [b_write h1]; exact t7_ok ⟨h.b, ook_raw hd hk, h.g, h.gt, by omega, by omega⟩ (rng_dec ha)
  · rw [pB_tT]
    by_cases h1 : a = 0
    · subst h1
      rw [b_write0]
      have e : syncS (T7 B BT G GT st sm (-1) true) pBT = (14, T7 B BT G GT st sm (-1) true) := by
        unfold syncS
        cases B <;> cases BT <;> cases G <;> cases GT <;> kernel_rfl
      show Ok (syncS (T7 B BT G GT st sm (-1) true) pBT).2
      rw [e]
      exact t7_ok h rng_m1
    · rw [b_write h1]
      show Ok (syncS (T7 B (some ⟨d, keptOf BT, true, true, sm + 1⟩) G GT (st + 1) (sm + 1) (dec a) false) pBT).2
      by_cases h2 : dec a = 0
      · rw [h2, b_sync0]; exact t7_ok ⟨h.b, ook_raw hd hk, h.g, h.gt, by omega, by omega⟩ rng_m1
      · rw [b_sync h2]; exact t7_ok ⟨h.b, ook_sy (n := sm + 1) hd, h.g, h.gt, by omega, by omega⟩ (rng_dec (rng_dec ha))
theorem fillokG (h : Sz B BT G GT st sm) (hd : d.size ≤ 20000000000) (ha : Rng a) (hst : st ≤ 900000) (hsm : sm ≤ 900000) : FillOk (T7 B BT G GT st sm a false) pG d := by
  have hk := kept_ook h.gt
  refine ⟨t7_ok h ha, ?_, ?_⟩
  · rw [pG_tT]
    by_cases h1 : a = 0
    · subst h1; rw [g_write0]; exact t7_ok h rng_m1
    · rw [g_write h1]; exact t7_ok ⟨h.b, h.bt, h.g, ook_raw hd hk, by omega, by omega⟩ (rng_dec ha)
  · rw [pG_tT]
    by_cases h1 : a = 0
    · subst h1
      rw [g_write0]
      have e : syncS (T7 B BT G GT st sm (-1) true) pGT = (14, T7 B BT G GT st sm (-1) true) := by
        unfold syncS
        cases B <;> cases BT <;> cases G <;> cases GT <;> kernel_rfl
      show Ok (syncS (T7 B BT G GT st sm (-1) true) pGT).2
      rw [e]
      exact t7_ok h rng_m1
    · rw [g_write h1]
      show Ok (syncS (T7 B BT G (some ⟨d, keptOf GT, true, true, sm + 1⟩) (st + 1) (sm + 1) (dec a) false) pGT).2
      by_cases h2 : dec a = 0
      · rw [h2, g_sync0]; exact t7_ok ⟨h.b, h.bt, h.g, ook_raw hd hk, by omega, by omega⟩ rng_m1
      · rw [g_sync h2]; exact t7_ok ⟨h.b, h.bt, h.g, ook_sy (n := sm + 1) hd, by omega, by omega⟩ (rng_dec (rng_dec ha))
end
theorem add7 {B BT GT : Option Fi} {c r : ByteArray} {n st sm : Nat} {a : Int} {R : List ByteArray} {dm : Bool} (ha : Rng a) : ∃ k x', addS ⟨T7 B BT (some (sy c n)) GT st sm a false, R, dm⟩ pG r = (k, x') ∧
    ((k = 0 ∧ ∃ a', x' = ⟨T7 B BT (some (sy (c ++ Fm.pk r) (sm + 1))) GT (st + 2) (sm + 1) a' false, R ++ [r], dm⟩ ∧ Rng a' ∧ (a = -1 → a' = -1)) ∨
     (k = 14 ∧ a ≠ -1 ∧ ∃ G' st' sm', x' = ⟨T7 B BT G' GT st' sm' (-1) true, R, dm⟩ ∧ (G' = some (sy c n) ∨ G' = some ⟨c ++ Fm.pk r, c, true, false, sm + 1⟩) ∧ st' ≤ st + 2 ∧ sm' ≤ sm + 1)) := by
  unfold addS
  by_cases h1 : a = 0
  · subst h1
    simp only [t_append0]
    exact ⟨14, _, rfl, .inr ⟨rfl, by decide, _, st, sm, rfl, .inl rfl, by omega, by omega⟩⟩
  · simp only [t_append h1]
    by_cases h2 : dec a = 0
    · simp only [h2, t_sync0]
      exact ⟨14, _, rfl, .inr ⟨rfl, fun e => (by rw [dec_m1 e] at h2; cases h2), _, st + 1, sm + 1, rfl, .inr rfl, by omega, by omega⟩⟩
    · simp only [t_sync h2]
      exact ⟨0, _, rfl, .inl ⟨rfl, _, rfl, rng_dec (rng_dec ha), fun e => dec_m1 (dec_m1 e)⟩⟩
theorem addok7 {B BT GT : Option Fi} {c r : ByteArray} {n st sm : Nat} {a : Int} {R : List ByteArray} {dm : Bool} (h : Sz B BT (some (sy c n)) GT st sm) (ha : Rng a) (hr : r.size ≤ 1000000000) (hc : c.size + (Fm.pk r).size ≤ 20000000000) (hR : R.length ≤ 1000) (hst : st ≤ 900000) (hsm : sm ≤ 900000) :
    AddOk ⟨T7 B BT (some (sy c n)) GT st sm a false, R, dm⟩ pG r := by
  have hs : (c ++ Fm.pk r).size = c.size + (Fm.pk r).size := ByteArray.size_append
  refine ⟨t7_ok h ha, ?_, ?_, by omega, by show R.length ≤ _; omega⟩
  · show Ok (appendS (T7 B BT (some (sy c n)) GT st sm a false) pG (Fm.pk r)).2
    by_cases h1 : a = 0
    · subst h1; rw [t_append0]; exact t7_ok h rng_m1
    · rw [t_append h1]; exact t7_ok ⟨h.b, h.bt, ook_app (by show (c ++ Fm.pk r).size ≤ _; omega) (by show c.size ≤ (c ++ Fm.pk r).size; omega), h.gt, by omega, by omega⟩ (rng_dec ha)
  · show (old (T7 B BT (some (sy c n)) GT st sm a false).L pG).data.size + _ ≤ _
    rw [o_log]
    show c.size + _ ≤ _
    omega
def Re (o o' : Option Fi) : Prop := match o with
  | none => o' = none
  | some f => ∃ c m, o' = some (sy c m) ∧ c.size ≤ 20000000000 ∧ (f.loose = false → c = f.data ∧ m = f.stamp) ∧ (f.anew = false → f.loose = true → f.kept.size ≤ c.size ∧ c = f.data.extract 0 c.size)
theorem fr_whole (r : ByteArray) (h : r.size ≤ 9223372036854775807) : Fm.fr (Fm.pk r) = (r, (Fm.pk r).size, 0) := by
  have := Fr.fr_pk r [] h
  rwa [List.append_nil] at this
def Torn (l : List ByteArray) (r c : ByteArray) : Prop := (PK l).size ≤ c.size ∧ c = (PK (l ++ [r])).extract 0 c.size
end Go.Proofs.YtdkgkomjbpggeaaGreatDoor.Tb

namespace Go.Proofs.YtdkgkomjbpggeaaGreatDoor.Tb
open Go.RowKit Tx Pm Dk Wm Wr Wl Pl
set_option linter.unusedVariables false
set_option linter.unusedSimpArgs false
set_option linter.unnecessarySimpa false
abbrev Tt (b j t m : Nat) := Tn b j t m pB pG
abbrev Tu (b j t m u : Nat) := TB b j t m pB pG u
section
variable {w0 W : World} {b j t m u k : Nat} {s s' : St} {x y : Tst} {l : List Ch}
theorem tb_below {w w1 : World} {F : Nat → Prop} {z : Tst × List Ch} (h : Tu b j t m u w F z) (hb : Below w.heap.size w w1) : Tu b j t m u w1 F z := by
  obtain ⟨F1, G, ⟨Fj, h1⟩, ⟨pm, vO, h2⟩, hd, hH⟩ := h
  exact ⟨F1, G, ⟨Fj, h1.below hb⟩, ⟨pm, vO, h2.below hb⟩, hd, hH⟩
theorem sys_base : tb (joi pS.data.toList [98, 97, 115, 101]) = pB := by decide +kernel
theorem sys_log : tb (joi pS.data.toList [108, 111, 103]) = pG := by decide +kernel
end
end Go.Proofs.YtdkgkomjbpggeaaGreatDoor.Tb

namespace Go.Proofs.YtdkgkomjbpggeaaGreatDoor.Tb
open Go.RowKit Tx Pm Dk Wm Wr Wl Pl
set_option linter.unusedVariables false
set_option linter.unusedSimpArgs false
set_option linter.unnecessarySimpa false
def Based (B : Option Fi) (L0 : List It) : Prop := (B = none ∧ L0 = []) ∨ ∃ r n ops, B = some (sy (Fm.pk r) n) ∧ opsS r = (ops, 0) ∧ r.size ≤ 100000000 ∧ L0 = all7 [] ops
theorem base_T {B BT G GT : Option Fi} {L0 : List It} {st sm : Nat} {a : Int} (hb : Based B L0) : base0 (T7 B BT G GT st sm a false) pB = (L0, 0) ∧ (readS (T7 B BT G GT st sm a false) pB).1.size ≤ 500000000 := by
  rcases hb with ⟨rfl, rfl⟩ | ⟨r, n, ops, rfl, ho, hr, rfl⟩
  · have hk : kind (T7 none BT G GT st sm a false).L pB = 0 := k_base0
    refine ⟨base_0 hk, ?_⟩
    rw [r_base0]
    decide
  · have hk : kind (T7 (some (sy (Fm.pk r) n)) BT G GT st sm a false).L pB ≠ 0 := by rw [k_base]; decide
    have hrd : readS (T7 (some (sy (Fm.pk r) n)) BT G GT st sm a false) pB = (Fm.pk r, 0) := r_base
    refine ⟨base_5 hk hrd (fr_whole r (by omega)) (Nat.lt_irrefl _) ho, ?_⟩
    rw [hrd]
    show (Fm.pk r).size ≤ _
    rw [Fm.pk_size]
    have := vb_len (x := r.size) (by omega)
    omega
theorem recok_wide {L : List It} {l : List ByteArray} (h : RecOk L l) : ∀ x ∈ l, x.size ≤ 140737488351232 := fun x hx => by have := (h.1 x hx).2; omega
section
variable {B BT GT : Option Fi} {L0 : List It} {l : List ByteArray} {r c : ByteArray} {n st sm : Nat} {a : Int}
end
theorem open_W {B BT GT : Option Fi} {L0 : List It} {l : List ByteArray} {n st sm : Nat} {a : Int} (hb : Based B L0) (h : Sz B BT (some (sy (PK l) n)) GT st sm) (ha : Rng a) (hrec : RecOk L0 l) (hll : l.length ≤ 1000) (hst : st ≤ 900000) (hsm : sm ≤ 900000) :
    Open7Ok (T7 B BT (some (sy (PK l) n)) GT st sm a false) pS pB pG ∧ open7 (T7 B BT (some (sy (PK l) n)) GT st sm a false) pS pB pG = (0, ⟨⟨T7 B BT (some (sy (PK l) n)) GT st sm a false, l, false⟩, rows7 L0 l⟩) := by
  obtain ⟨hb1, hb2⟩ := base_T (BT := BT) (G := some (sy (PK l) n)) (GT := GT) (st := st) (sm := sm) (a := a) hb
  have hop : opened (T7 B BT (some (sy (PK l) n)) GT st sm a false) pS = (0, T7 B BT (some (sy (PK l) n)) GT st sm a false) := by
    unfold opened
    rw [if_neg (by rw [k_sys]; decide)]
  have hw := recok_wide hrec
  have hs := scan_all l hw
  have hk : kind (T7 B BT (some (sy (PK l) n)) GT st sm a false).L pG ≠ 0 := by rw [k_log]; decide
  have hr : readS (T7 B BT (some (sy (PK l) n)) GT st sm a false) pG = (PK l, 0) := r_log
  have hcs : (PK l).size ≤ 20000000000 := (h.g _ rfl).1
  have ho := open_2 hk hr hs
  refine ⟨⟨t7_ok h ha, fun _ => ?_, by decide, by decide, by decide⟩, (open_n hop).trans (open1_o hb1 ho)⟩
  rw [hop]
  refine ⟨hb2, fun _ => ⟨⟨fun h0 => absurd h0 hk, fun _ => ?_⟩, fun _ => ?_⟩⟩
  · rw [hr]
    refine ⟨by show (PK l).size ≤ _; omega, by rw [hs]; show l.length ≤ _; omega, fun h0 => ?_⟩
    rw [hs] at h0
    exact absurd rfl h0
  · rw [hb1, ho]
    exact hrec
def s0T : St := T7 none none (some (sy ⟨#[]⟩ 2)) none 4 2 (-1) false
theorem sz0 : Sz none none none none 1 0 := ⟨ook_none, ook_none, ook_none, ook_none, by omega, by omega⟩
theorem new_open7 : open7 newS pS pB pG = (0, ⟨⟨s0T, [], false⟩, []⟩) := by
  have hop : opened newS pS = (0, T7 none none none none 1 0 (-1) false) := by
    unfold opened
    rw [if_pos (by decide +kernel), n_mkdir]
  have hb := (base_T (B := none) (BT := none) (G := none) (GT := none) (L0 := []) (st := 1) (sm := 0) (a := -1) (.inl ⟨rfl, rfl⟩)).1
  have hf : fillS (T7 none none none none 1 0 (-1) false) pG ⟨#[]⟩ = (0, s0T) := by
    unfold fillS
    rw [pG_tT, g_write (by decide)]
    simp only [dec_neg, g_sync (a := -1) (by decide), g_rename (a := -1) (by decide)]
    rfl
  exact (open_n hop).trans (open1_o hb (open_0 k_log0 hf))
theorem new_ok7 : Open7Ok newS pS pB pG := by
  have hop : opened newS pS = (0, T7 none none none none 1 0 (-1) false) := by
    unfold opened
    rw [if_pos (by decide +kernel), n_mkdir]
  obtain ⟨hb, hb2⟩ := base_T (B := none) (BT := none) (G := none) (GT := none) (L0 := []) (st := 1) (sm := 0) (a := -1) (.inl ⟨rfl, rfl⟩)
  refine ⟨ok_new, fun _ => ?_, by decide, by decide, by decide⟩
  rw [hop]
  refine ⟨hb2, fun _ => ⟨⟨fun _ => fillokG sz0 (by decide) rng_m1 (by decide) (by decide), fun h => absurd k_log0 h⟩, fun h0 => ?_⟩⟩
  have hf : fillS (T7 none none none none 1 0 (-1) false) pG ⟨#[]⟩ = (0, s0T) := by
    unfold fillS
    rw [pG_tT, g_write (by decide)]
    simp only [dec_neg, g_sync (a := -1) (by decide), g_rename (a := -1) (by decide)]
    rfl
  rw [hb, open_0 k_log0 hf]
  exact ⟨fun x hx => (by cases hx), by show 0 + 0 ≤ 500000000; omega, by show 0 ≤ 10000000000; omega⟩
section
variable {B BT GT : Option Fi} {c : ByteArray} {n st sm : Nat} {a : Int} {R : List ByteArray} {dm : Bool} {L : List It} {l : List Ch}
theorem pk_bound {r : ByteArray} (h : r.size ≤ 1000000000) : (Fm.pk r).size ≤ r.size + 14 := by
  have := vb_len (x := r.size) (by omega)
  rw [Fm.pk_size]
  omega
theorem pack_T (h : Sz B BT (some (sy c n)) GT st sm) (ha : Rng a) (hw : wt (whole7 L) ≤ 900000000) (hst : st ≤ 800000) (hsm : sm ≤ 800000) :
    PackOk ⟨⟨T7 B BT (some (sy c n)) GT st sm a false, R, dm⟩, L⟩ pB pG ∧ ∃ k y, packS ⟨⟨T7 B BT (some (sy c n)) GT st sm a false, R, dm⟩, L⟩ pB pG = (k, y) ∧
    ((k = 0 ∧ ∃ a', y = ⟨⟨T7 (some (sy (Fm.pk (rec7 (whole7 L))) (sm + 2))) none (some (sy ⟨#[]⟩ (sm + 4))) none (st + 6) (sm + 4) a' false, [], dm⟩, L⟩ ∧ Rng a' ∧ (a = -1 → a' = -1)) ∨
     (k = 14 ∧ a ≠ -1 ∧ ∃ BT' st' sm', y.j.s = T7 B BT' (some (sy c n)) GT st' sm' (-1) true ∧ Ook BT' ∧ st' ≤ st + 6 ∧ sm' ≤ sm + 4) ∨
     (k = 14 ∧ a ≠ -1 ∧ ∃ GT' st' sm', y.j.s = T7 (some (sy (Fm.pk (rec7 (whole7 L))) (sm + 2))) none (some (sy c n)) GT' st' sm' (-1) true ∧ Ook GT' ∧ st' ≤ st + 6 ∧ sm' ≤ sm + 4)) := by
  have hr := rec7_le (l := whole7 L) (by omega)
  have hp := pk_bound (r := rec7 (whole7 L)) (by omega)
  have hd : (Fm.pk (rec7 (whole7 L))).size ≤ 20000000000 := by omega
  obtain ⟨k1, s1, hf1, hc1⟩ := fillB h hd ha
  have hz2 : ∀ a', Rng a' → Sz (some (sy (Fm.pk (rec7 (whole7 L))) (sm + 2))) none (some (sy c n)) GT (st + 3) (sm + 2) := fun a' _ => ⟨ook_sy hd, ook_none, h.g, h.gt, by omega, by omega⟩
  refine ⟨⟨fillokB h hd ha (by omega) (by omega), fun h0 => ?_, by show wt (whole7 L) ≤ _; omega, by decide, by decide⟩, ?_⟩
  · have hf1' : fillS (T7 B BT (some (sy c n)) GT st sm a false) pB (Fm.pk (rec7 (whole7 L))) = (k1, s1) := hf1
    show FillOk (fillS (T7 B BT (some (sy c n)) GT st sm a false) pB (Fm.pk (rec7 (whole7 L)))).2 pG ⟨#[]⟩
    have h0 : (fillS (T7 B BT (some (sy c n)) GT st sm a false) pB (Fm.pk (rec7 (whole7 L)))).1 = 0 := h0
    rw [hf1'] at h0 ⊢
    rcases hc1 with ⟨_, a', rfl, ra, _⟩ | ⟨hk, _⟩
    · exact fillokG (hz2 a' ra) (by decide) ra (by omega) (by omega)
    · simp only at h0; omega
  · rcases hc1 with ⟨rfl, a', rfl, ra, rm⟩ | ⟨rfl, hne, BT', st', sm', rfl, o1, o2, o3⟩
    · obtain ⟨k2, s2, hf2, hc2⟩ := fillG (d := ⟨#[]⟩) (hz2 a' ra) (by decide) ra
      rcases hc2 with ⟨rfl, a2, rfl, ra2, rm2⟩ | ⟨rfl, hne2, GT', st', sm', rfl, o1, o2, o3⟩
      · refine ⟨0, _, pack_2 hf1 (by unfold resetS; simp only [hf2]; rfl), .inl ⟨rfl, a2, rfl, ra2, fun e => rm2 (rm e)⟩⟩
      · refine ⟨14, _, pack_2 hf1 (k := 14) (y := ⟨T7 (some (sy (Fm.pk (rec7 (whole7 L))) (sm + 2))) none (some (sy c n)) GT' st' sm' (-1) true, R, dm⟩) (by unfold resetS; simp only [hf2]; rfl), .inr (.inr ⟨rfl, fun e => hne2 (rm e), GT', st', sm', rfl, o1, by omega, by omega⟩)⟩
    · exact ⟨14, _, pack_1 hf1 (by decide), .inr (.inl ⟨rfl, hne, BT', st', sm', rfl, o1, by omega, by omega⟩)⟩
end
end Go.Proofs.YtdkgkomjbpggeaaGreatDoor.Tb

namespace Go.Proofs.YtdkgkomjbpggeaaGreatDoor.Tb
open Go.RowKit Tx Pm Dk Wm Wr Wl Pl
set_option linter.unusedVariables false
set_option linter.unusedSimpArgs false
set_option linter.unnecessarySimpa false
end Go.Proofs.YtdkgkomjbpggeaaGreatDoor.Tb

namespace Go.Proofs.YtdkgkomjbpggeaaGreatDoor.Dk
open Go.RowKit Tx Pm Pl Pr
set_option linter.unusedVariables false
end Go.Proofs.YtdkgkomjbpggeaaGreatDoor.Dk

namespace Go.Proofs.YtdkgkomjbpggeaaGreatDoor.Wl
open Go.RowKit Tx Pm Pl Pr Dk Fr
set_option linter.unusedVariables false
end Go.Proofs.YtdkgkomjbpggeaaGreatDoor.Wl

namespace Go.Proofs.YtdkgkomjbpggeaaGreatDoor.Tb
open Go.RowKit Tx Pm Dk Wm Wr Wl Pl
set_option linter.unusedVariables false
set_option linter.unusedSimpArgs false
set_option linter.unnecessarySimpa false
def ws (L : List It) : Nat := (L.map fun x => x.path.size + x.data.size + 40).sum
theorem ws_cons (x : It) (L : List It) : ws (x :: L) = x.path.size + x.data.size + 40 + ws L := by unfold ws; rw [List.map_cons, List.sum_cons]
theorem ws_append (a b : List It) : ws (a ++ b) = ws a + ws b := by unfold ws; rw [List.map_append, List.sum_append]
theorem wt_whole (L : List It) : wt (whole7 L) = ws L := by
  unfold wt whole7 ws
  rw [List.map_map]
  rfl
theorem snoc7 {α : Type} {P : List α → Prop} (h0 : P []) (h1 : ∀ l x, P l → P (l ++ [x])) (l : List α) : P l := by
  rw [← List.reverse_reverse l]
  induction l.reverse with
  | nil => exact h0
  | cons x r ih => rw [List.reverse_cons]; exact h1 _ _ ih
section
variable {B BT GT : Option Fi} {c : ByteArray} {n st sm : Nat} {a : Int} {R : List ByteArray} {dm : Bool} {L : List It} {l : List Ch}
theorem pack_U (h : Sz B BT (some (sy c n)) GT st sm) (hw : ws L ≤ 900000000) (hst : st ≤ 800000) (hsm : sm ≤ 800000) :
    PackOk ⟨⟨T7 B BT (some (sy c n)) GT st sm (-1) false, R, dm⟩, L⟩ pB pG ∧ packS ⟨⟨T7 B BT (some (sy c n)) GT st sm (-1) false, R, dm⟩, L⟩ pB pG = (0, ⟨⟨T7 (some (sy (Fm.pk (rec7 (whole7 L))) (sm + 2))) none (some (sy ⟨#[]⟩ (sm + 4))) none (st + 6) (sm + 4) (-1) false, [], dm⟩, L⟩) := by
  obtain ⟨h1, k, y, h2, hcs⟩ := pack_T (B := B) (BT := BT) (GT := GT) (c := c) (n := n) (st := st) (sm := sm) (a := -1) (R := R) (dm := dm) (L := L) h rng_m1 (by rw [wt_whole]; exact hw) hst hsm
  refine ⟨h1, ?_⟩
  rw [h2]
  rcases hcs with ⟨rfl, a', rfl, _, ha⟩ | ⟨_, hne, _⟩ | ⟨_, hne, _⟩
  · rw [ha rfl]
  · exact absurd rfl hne
  · exact absurd rfl hne
end
section
variable {BT G GT : Option Fi} {f : Fi} {st sm : Nat} {bit : Int}
end
end Go.Proofs.YtdkgkomjbpggeaaGreatDoor.Tb

namespace Go.Proofs.YtdkgkomjbpggeaaGreatDoor.Tb
open Go.RowKit Tx Pm Dk Wm Wr Wl Pl
set_option linter.unusedVariables false
set_option linter.unusedSimpArgs false
set_option linter.unnecessarySimpa false
def overV (L : List It) (l : List Ch) (p : ByteArray) : ByteArray := match lastOf l p with
  | some c => c.val
  | none => (lookC L p).val
def overB (L : List It) (l : List Ch) (p : ByteArray) : Bool := match lastOf l p with
  | some c => !c.gone
  | none => (find L p).isSome
theorem last_at {l : List Ch} (h : Once l) {p : ByteArray} {i : Nat} {c : Ch} (hi : at7 l p = some i) (hc : l[i]? = some c) : lastOf l p = some c := by
  obtain ⟨d, hd, hk, hlt⟩ := at7_lt hi
  rw [hc] at hd
  injection hd with hd
  subst hd
  have hm := List.mem_of_getElem? hc
  unfold lastOf
  have : ∀ (l : List Ch), Once l → c ∈ l → l.find? (fun x => decide (x.key = p)) = some c := by
    intro l
    induction l with
    | nil => intro _ h; cases h
    | cons x l ih =>
      intro ho h
      rcases List.mem_cons.1 h with rfl | h
      · exact List.find?_cons_of_pos (by simpa using hk)
      · have hne : x.key ≠ c.key := (List.pairwise_cons.1 ho).1 c h
        rw [List.find?_cons_of_neg (by rw [← hk]; simpa using hne)]
        exact ih (List.pairwise_cons.1 ho).2 h
  refine this _ ?_ (List.mem_reverse.2 hm)
  exact List.pairwise_reverse.2 (h.imp (fun hab => fun e => hab e.symm))
theorem last_none {l : List Ch} {p : ByteArray} (h : at7 l p = none) : lastOf l p = none := by
  unfold lastOf
  refine List.find?_eq_none.2 (fun x hx he => ?_)
  have := at7_none h
  exact absurd (List.any_eq_true.2 ⟨x, List.mem_reverse.1 hx, he⟩) (by rw [this]; decide)
set_option maxRecDepth 100000 in
set_option maxHeartbeats 4000000 in
theorem bGet_any (u t m pm : Nat) (vO : Value) (L : List It) (l : List Ch) (key : ByteArray) (w : World) {G : Nat → Prop} (hB : BAt u pm (some ⟨t, 0, none⟩) vO w G l) (ht : w.cell? ⟨t, 3, none⟩ = some (.map (some m))) (hm : Mo w m L) (hk : key.size ≤ 1000000000000000) :
    Calls Tryz.prog 38 #[.pointer (some ⟨u, 0, none⟩), .string key] w fun e w' => e = .returned (.tuple #[.string (overV L l key), .bool (overB L l key)]) ∧ Below w.heap.size w w' := by
  obtain ⟨c0, c1, c2⟩ := hB.cell
  have hl := hB.plc.look (p := key) (by unfold maxLen; omega)
  unfold placeV at hl
  have HBl := Lib.hid (fun o => (Below.refl w.heap.size w).alloc (Nat.le_refl _) o)
  cases ha : at7 l key with
  | none =>
    rw [ha] at hl
    have e1 : overV L l key = (lookC L key).val := by unfold overV; rw [last_none ha]
    have e2 : overB L l key = (find L key).isSome := by unfold overB; rw [last_none ha]
    have cg := tGet_any t m L key w ht hm (by unfold maxLen; omega)
    rw [← e1, ← e2] at cg
    generalize overV L l key = V at cg ⊢
    generalize overB L l key = O at cg ⊢
    clear ha hB hm ht e1 e2
    go_enter Tryz.func38, Tryz.ntmps38
    go_wp2_with fail
    go_at_call 77
    refine cg.mono ?_
    rintro e w1 ⟨rfl, hb1⟩
    go_wp2_with fail
    go_ret2
    exact ⟨rfl, hb1⟩
  | some i =>
    obtain ⟨c, hc, hck, hlt⟩ := at7_lt ha
    rw [ha] at hl
    have e1 : overV L l key = c.val := by unfold overV; rw [last_at hB.once ha hc]
    have e2 : overB L l key = !c.gone := by unfold overB; rw [last_at hB.once ha hc]
    rw [e1, e2]
    obtain ⟨a, cp, rfl, hopl, hcp, _⟩ := hB.ops.form
    obtain ⟨g, off, rfl, hg, g0, g1, g2⟩ := hopl.nth hc
    obtain ⟨key1, val1, gone1⟩ := c
    simp only at g0 g1 g2 ⊢
    obtain ⟨N, hN⟩ : ∃ N, N = l.length := ⟨_, rfl⟩
    rw [← hN] at c1 hlt hcp
    have hiz : (i : Int) < (N : Int) := by omega
    clear ha hB hm ht e1 e2 hc hck hopl hN
    go_enter Tryz.func38, Tryz.ntmps38
    go_wp2_with fail
    go_region
    all_goals
      go_wp2_with fail
      go_ret2
      exact ⟨rfl, (HBl.out _).drew⟩
end Go.Proofs.YtdkgkomjbpggeaaGreatDoor.Tb

namespace Go.Proofs.YtdkgkomjbpggeaaGreatDoor.Tb
open Go.RowKit Tx Pm Dk Wm Wr Wl Pl
set_option linter.unusedVariables false
set_option linter.unusedSimpArgs false
set_option linter.unnecessarySimpa false
def beg (p a : ByteArray) : Bool := Lib.hasPrefix a.data.toList p.data.toList
theorem last_mem {l : List Ch} (h : Once l) {p : ByteArray} {c : Ch} : lastOf l p = some c ↔ c ∈ l ∧ c.key = p := by
  constructor
  · intro hl
    have h1 := List.mem_of_find?_eq_some hl
    have h2 := List.find?_some hl
    exact ⟨List.mem_reverse.1 h1, of_decide_eq_true h2⟩
  · rintro ⟨hm, rfl⟩
    obtain ⟨i, hi⟩ := List.getElem?_of_mem hm
    exact last_at h (once_at h hi) hi
theorem last_at7 {l : List Ch} {p : ByteArray} (h : Once l) : (at7 l p).isNone = (lastOf l p).isNone := by
  cases ha : at7 l p with
  | none => rw [last_none ha]; rfl
  | some i =>
    obtain ⟨c, hc, hk, _⟩ := at7_lt ha
    rw [last_at h ha hc]
    rfl
theorem find_has {L : List It} (hR : Rises L) {a : ByteArray} : (∃ x ∈ L, x.path = a) ↔ (find L a).isSome = true := by
  unfold find
  rw [List.find?_isSome]
  constructor
  · rintro ⟨x, hx, h⟩; exact ⟨x, hx, by simpa using h⟩
  · rintro ⟨x, hx, h⟩; exact ⟨x, hx, by simpa using h⟩
theorem mem_held {L : List It} (hR : Rises L) {p a : ByteArray} : a ∈ held (pre7 p) L ↔ (find L a).isSome = true ∧ beg p a = true := by
  unfold held
  rw [List.mem_map, ← find_has hR]
  constructor
  · rintro ⟨x, hx, rfl⟩
    obtain ⟨h1, h2⟩ := List.mem_filter.1 hx
    exact ⟨⟨x, h1, rfl⟩, h2⟩
  · rintro ⟨⟨x, hx, rfl⟩, h⟩
    exact ⟨x, List.mem_filter.2 ⟨hx, h⟩, rfl⟩
theorem nodup_held {L : List It} (hR : Rises L) (p : ByteArray) : (held (pre7 p) L).Nodup := by
  refine (held_rises hR).imp (fun {a b} h e => ?_)
  subst e
  rw [less_irrefl] at h
  cases h
def oldK (l : List Ch) (K : List ByteArray) : List ByteArray := K.filter (fun k => (at7 l k).isNone)
def newK (p : ByteArray) (l : List Ch) : List ByteArray := (l.filter (fun c => !c.gone && beg p c.key)).map (·.key)
theorem newK_snoc (p : ByteArray) (l : List Ch) (c : Ch) : newK p (l ++ [c]) = newK p l ++ (if (!c.gone && beg p c.key) = true then [c.key] else []) := by
  unfold newK
  rw [List.filter_append, List.map_append]
  congr 1
  cases h : (!c.gone && beg p c.key) <;> simp [List.filter_cons, h]
theorem oldK_snoc (l : List Ch) (K : List ByteArray) (k : ByteArray) : oldK l (K ++ [k]) = oldK l K ++ (if (at7 l k).isNone = true then [k] else []) := by
  unfold oldK
  rw [List.filter_append]
  congr 1
  cases h : (at7 l k).isNone <;> simp [List.filter_cons, h]
theorem perm_keys {L : List It} (hR : Rises L) {l : List Ch} (hO : Once l) (p : ByteArray) : (oldK l (held (pre7 p) L) ++ newK p l).Perm (held (pre7 p) (all7 L l)) := by
  have hnew : ∀ a, a ∈ newK p l ↔ ∃ c, lastOf l a = some c ∧ c.gone = false ∧ beg p a = true := by
    intro a
    unfold newK
    rw [List.mem_map]
    constructor
    · rintro ⟨c, hc, rfl⟩
      obtain ⟨h1, h2⟩ := List.mem_filter.1 hc
      rw [Bool.and_eq_true, Bool.not_eq_true'] at h2
      exact ⟨c, (last_mem hO).2 ⟨h1, rfl⟩, h2.1, h2.2⟩
    · rintro ⟨c, hc, h1, h2⟩
      obtain ⟨h3, rfl⟩ := (last_mem hO).1 hc
      exact ⟨c, List.mem_filter.2 ⟨h3, by rw [h1, h2]; rfl⟩, rfl⟩
  refine (List.perm_ext_iff_of_nodup ?_ (nodup_held (rises_all hR l) p)).2 (fun a => ?_)
  · refine List.nodup_append.2 ⟨(nodup_held hR p).filter _, ?_, fun a ha b hb e => ?_⟩
    · unfold newK
      rw [List.Nodup, List.pairwise_map]
      exact List.Pairwise.filter _ hO
    · subst e
      obtain ⟨c, hc, _⟩ := (hnew _).1 hb
      have h1 := (List.mem_filter.1 ha).2
      rw [last_at7 hO, hc] at h1
      cases h1
  · rw [List.mem_append, hnew, mem_held (rises_all hR l), find_all]
    unfold oldK
    rw [List.mem_filter, mem_held hR, last_at7 hO]
    cases hc : lastOf l a with
    | none => simp [after]
    | some c => cases hg : c.gone <;> simp [after, hg]
end Go.Proofs.YtdkgkomjbpggeaaGreatDoor.Tb

namespace Go.Proofs.YtdkgkomjbpggeaaGreatDoor.Bl
open Go.RowKit Tx Pm Dk Wm Wr Wl Pl Tb
set_option linter.unusedVariables false
set_option linter.unusedSimpArgs false
set_option linter.unnecessarySimpa false
structure On where
  low : Nat
  n : Nat
  refs : Nat
  data : ByteArray
def hexd (k : Nat) : UInt8 := if k < 10 then UInt8.ofNat (48 + k) else UInt8.ofNat (87 + k)
def grp (low : Nat) : ByteArray := ⟨#[98, 47, hexd (low / 16), hexd (low % 16), 47]⟩
def decB (n : Nat) : ByteArray := ⟨(Lib.decDigits n).toArray⟩
def keyN (low n : Nat) : ByteArray := grp low ++ decB n
def keyO (x : On) : ByteArray := keyN x.low x.n
def lowO (d : ByteArray) : Nat := Fm.fsum d.data.toList % 256
def pB2 : ByteArray := ⟨#[98, 47]⟩
def enc (h : Nat) (d : ByteArray) : ByteArray := cat [vs h, ts d]
theorem app_l (a b : ByteArray) : (a ++ b).data.toList = a.data.toList ++ b.data.toList := by rw [ByteArray.data_append, Array.toList_append]
theorem ba_ext {a b : ByteArray} (h : a.data.toList = b.data.toList) : a = b := by
  obtain ⟨a⟩ := a
  obtain ⟨b⟩ := b
  congr 1
  exact Array.toList_inj.1 h
theorem keyN_list (low n : Nat) : (keyN low n).data.toList = [98, 47, hexd (low / 16), hexd (low % 16), 47] ++ Lib.decDigits n := by
  unfold keyN
  rw [app_l]
  rfl
theorem hexd_inj : ∀ a b : Fin 16, hexd a.val = hexd b.val → a = b := by decide +kernel
def valD (l : List UInt8) : Nat := l.foldl (fun a b => a * 10 + (b.toNat - 48)) 0
theorem valD_snoc (l : List UInt8) (b : UInt8) : valD (l ++ [b]) = valD l * 10 + (b.toNat - 48) := by unfold valD; rw [List.foldl_append]; rfl
theorem dig_val {k : Nat} (h : k < 10) : (UInt8.ofNat (48 + k)).toNat - 48 = k := by
  rw [UInt8.toNat_ofNat']
  omega
theorem valD_dec (n : Nat) : valD (Lib.decDigits n) = n := by
  induction n using Nat.strongRecOn with
  | _ n ih =>
    by_cases h : n < 10
    · rw [Lib.decDigits_one h]
      show 0 * 10 + ((UInt8.ofNat (48 + n)).toNat - 48) = n
      rw [dig_val h]
      omega
    · rw [Lib.decDigits, dif_neg h, valD_snoc, ih (n / 10) (by omega), dig_val (by omega)]
      omega
theorem dec_inj {a b : Nat} (h : Lib.decDigits a = Lib.decDigits b) : a = b := by rw [← valD_dec a, h, valD_dec]
theorem keyN_inj {a b m n : Nat} (ha : a < 256) (hb : b < 256) (h : keyN a m = keyN b n) : a = b ∧ m = n := by
  have h1 := congrArg (·.data.toList) h
  simp only [keyN_list, List.cons_append, List.nil_append, List.cons.injEq, true_and] at h1
  obtain ⟨h2, h3, h4⟩ := h1
  have e2 := hexd_inj ⟨a / 16, by omega⟩ ⟨b / 16, by omega⟩ h2
  have e3 := hexd_inj ⟨a % 16, by omega⟩ ⟨b % 16, by omega⟩ h3
  injection e2 with e2
  injection e3 with e3
  exact ⟨by omega, dec_inj h4⟩
theorem lowO_lt (d : ByteArray) : lowO d < 256 := Nat.mod_lt _ (by decide)
theorem nDigits_le : ∀ k n : Nat, n < 10 ^ k → 1 ≤ k → Lib.nDigits n ≤ k := by
  intro k
  induction k with
  | zero => intro n _ h; omega
  | succ k ih =>
    intro n h _
    by_cases h1 : n < 10
    · rw [Lib.nDigits_small h1]; omega
    · rw [Lib.nDigits_big h1]
      by_cases hk : k = 0
      · subst hk; simp at h; omega
      · have := ih (n / 10) (by rw [Nat.pow_succ] at h; omega) (by omega)
        omega
theorem decB_size {n : Nat} (h : n < 1000000000) : (decB n).size ≤ 9 := by
  have e : (decB n).size = (Lib.decDigits n).length := by simp [decB, ByteArray.size]
  rw [e, Lib.decDigits_length]
  exact nDigits_le 9 n (by omega) (by omega)
theorem keyN_size (low : Nat) {n : Nat} (h : n < 1000000000) : (keyN low n).size ≤ 14 := by
  have := decB_size h
  unfold keyN
  rw [ByteArray.size_append]
  have e : (grp low).size = 5 := rfl
  omega
theorem beg_iff (p a : ByteArray) : beg p a = true ↔ ∃ r, a.data.toList = p.data.toList ++ r := by
  unfold beg Lib.hasPrefix
  rw [List.isPrefixOf_iff_prefix]
  exact ⟨fun ⟨r, h⟩ => ⟨r, h.symm⟩, fun ⟨r, h⟩ => ⟨r, h.symm⟩⟩
theorem beg_grp (low n : Nat) : beg (grp low) (keyN low n) = true := (beg_iff _ _).2 ⟨Lib.decDigits n, keyN_list low n⟩
theorem beg_two {low : Nat} {a : ByteArray} (h : beg (grp low) a = true) : beg pB2 a = true := by
  obtain ⟨r, hr⟩ := (beg_iff _ _).1 h
  exact (beg_iff _ _).2 ⟨[hexd (low / 16), hexd (low % 16), 47] ++ r, hr⟩
theorem beg_key (low n : Nat) : beg pB2 (keyN low n) = true := beg_two (beg_grp low n)
theorem enc_list (h : Nat) (d : ByteArray) : (enc h d).data.toList = vb h ++ tl d := by
  have e : (enc h d).data.toList = (vs h).data.toList ++ ((ts d).data.toList ++ []) := rfl
  rw [e, List.append_nil, ts_tl, vs_list]
theorem enc_is (h : Nat) (d : ByteArray) : enc h d = ⟨(vb h ++ tl d).toArray⟩ := ba_ext (by rw [enc_list])
theorem enc_rdU {h : Nat} (d : ByteArray) (hh : h ≤ 9223372036854775807) : rdU (enc h d).data.toList = (h, (vb h).length, 0) := by rw [enc_list]; exact rdU_back h (tl d) hh
theorem enc_rest (h : Nat) (d : ByteArray) : (enc h d).extract (vb h).length (enc h d).size = ⟨(tl d).toArray⟩ := by rw [enc_is]; exact ext_at (vb h) (tl d)
theorem enc_rdT {d : ByteArray} (hd : d.size ≤ 9223372036854775807) : rdT ⟨(tl d).toArray⟩ = (d, (tl d).length, 0) := by
  have := rdT_back d [] hd
  rwa [List.append_nil] at this
theorem tl_size {d : ByteArray} (hd : d.size ≤ 9223372036854775807) : (⟨(tl d).toArray⟩ : ByteArray).size ≤ d.size + 10 := by
  have := tl_len hd
  have e : (⟨(tl d).toArray⟩ : ByteArray).size = (tl d).length := List.size_toArray
  omega
theorem enc_size {h : Nat} {d : ByteArray} (hh : h ≤ 9223372036854775807) (hd : d.size ≤ 9223372036854775807) : (enc h d).size ≤ d.size + 20 := by
  have e : (enc h d).size = (vb h ++ tl d).length := by rw [← enc_list, Wm.len_l]
  have h1 := vb_len (x := h) (by omega)
  have h2 := tl_len hd
  rw [e, List.length_append]
  omega
def at8 (C : List On) (p : ByteArray) : Option On := C.find? (fun x => decide (keyO x = p))
def of8 (C : List On) (d : ByteArray) : Option On := C.find? (fun x => decide (x.data = d))
def setR (C : List On) (p : ByteArray) (k : Nat) : List On := C.map (fun y => if keyO y = p then { y with refs := k } else y)
def delR (C : List On) (p : ByteArray) : List On := C.filter (fun y => !decide (keyO y = p))
theorem at8_some {C : List On} {p : ByteArray} {x : On} (h : at8 C p = some x) : x ∈ C ∧ keyO x = p := ⟨List.mem_of_find?_eq_some h, of_decide_eq_true (List.find?_some (p := fun x => decide (keyO x = p)) h)⟩
theorem of8_some {C : List On} {d : ByteArray} {x : On} (h : of8 C d = some x) : x ∈ C ∧ x.data = d := ⟨List.mem_of_find?_eq_some h, of_decide_eq_true (List.find?_some (p := fun x : On => decide (x.data = d)) h)⟩
theorem of8_none {C : List On} {d : ByteArray} (h : of8 C d = none) : ∀ x ∈ C, x.data ≠ d := fun x hx he => by
  have := List.find?_eq_none.1 h x hx
  simp [he] at this
theorem find_uniq {α : Type} {f : α → ByteArray} {C : List α} (h : C.Pairwise (fun x y => f x ≠ f y)) {x : α} (hx : x ∈ C) : C.find? (fun y => decide (f y = f x)) = some x := by
  induction C with
  | nil => cases hx
  | cons y C ih =>
    obtain ⟨h1, h2⟩ := List.pairwise_cons.1 h
    rcases List.mem_cons.1 hx with rfl | hx
    · exact List.find?_cons_of_pos (by simp)
    · rw [List.find?_cons_of_neg (by simpa using h1 x hx)]
      exact ih h2 hx
structure Good8 (C : List On) (M : Nat) : Prop where
  keys : C.Pairwise (fun x y => keyO x ≠ keyO y)
  datas : C.Pairwise (fun x y => x.data ≠ y.data)
  each : ∀ x ∈ C, x.low = lowO x.data ∧ 1 ≤ x.refs ∧ x.refs ≤ M ∧ x.n ≤ M ∧ x.data.size ≤ 140737488351232
  len : C.length ≤ M
structure Rep (R : List It) (C : List On) : Prop where
  rises : Rises R
  look : ∀ p, beg pB2 p = true → find R p = (at8 C p).map (fun x => rw7 (keyO x) (enc x.refs x.data))
section
variable {R : List It} {C : List On} {M k : Nat} {p : ByteArray} {x : On}
theorem Good8.at (h : Good8 C M) (hx : x ∈ C) : at8 C (keyO x) = some x := find_uniq h.keys hx
theorem Good8.of (h : Good8 C M) (hx : x ∈ C) : of8 C x.data = some x := find_uniq h.datas hx
theorem Good8.mono {M' : Nat} (h : Good8 C M) (hM : M ≤ M') : Good8 C M' := ⟨h.keys, h.datas, fun x hx => by obtain ⟨h1, h2, h3, h4, h5⟩ := h.each x hx; exact ⟨h1, h2, by omega, by omega, h5⟩, by have := h.len; omega⟩
theorem setR_keys (C : List On) (p : ByteArray) (k : Nat) : (setR C p k).map keyO = C.map keyO := by
  unfold setR
  rw [List.map_map]
  refine List.map_congr_left (fun y _ => ?_)
  show keyO (if keyO y = p then { y with refs := k } else y) = _
  split <;> rfl
theorem setR_datas (C : List On) (p : ByteArray) (k : Nat) : (setR C p k).map On.data = C.map On.data := by
  unfold setR
  rw [List.map_map]
  refine List.map_congr_left (fun y _ => ?_)
  show On.data (if keyO y = p then { y with refs := k } else y) = _
  split <;> rfl
theorem setR_len (C : List On) (p : ByteArray) (k : Nat) : (setR C p k).length = C.length := by unfold setR; rw [List.length_map]
theorem pair_map {f : On → ByteArray} {C C' : List On} (h : C'.map f = C.map f) (hp : C.Pairwise (fun x y => f x ≠ f y)) : C'.Pairwise (fun x y => f x ≠ f y) := by
  have h1 : (C.map f).Pairwise (· ≠ ·) := List.pairwise_map.2 hp
  rw [← h] at h1
  exact List.pairwise_map.1 h1
theorem good_set (h : Good8 C M) (h1 : 1 ≤ k) (hk : k ≤ M) : Good8 (setR C p k) M := by
  refine ⟨pair_map (setR_keys C p k) h.keys, pair_map (setR_datas C p k) h.datas, fun x hx => ?_, by rw [setR_len]; exact h.len⟩
  obtain ⟨y, hy, rfl⟩ := List.mem_map.1 hx
  obtain ⟨e1, e2, e3, e4, e5⟩ := h.each y hy
  split
  · exact ⟨e1, h1, hk, e4, e5⟩
  · exact ⟨e1, e2, e3, e4, e5⟩
theorem good_del (h : Good8 C M) : Good8 (delR C p) M := by
  unfold delR
  refine ⟨h.keys.filter _, h.datas.filter _, fun x hx => h.each x (List.mem_filter.1 hx).1, ?_⟩
  have := List.length_filter_le (fun y => !decide (keyO y = p)) C
  have := h.len
  omega
theorem at8_set (C : List On) (p q : ByteArray) (k : Nat) : at8 (setR C p k) q = if p = q then (at8 C q).map (fun y => { y with refs := k }) else at8 C q := by
  unfold at8 setR
  rw [List.find?_map]
  have e : ((fun x => decide (keyO x = q)) ∘ fun y => if keyO y = p then { y with refs := k } else y) = (fun y : On => decide (keyO y = q)) := by
    funext y
    show decide (keyO (if keyO y = p then { y with refs := k } else y) = q) = _
    split <;> rfl
  rw [e]
  cases hf : C.find? (fun y : On => decide (keyO y = q)) with
  | none => split <;> rfl
  | some y =>
    have hy : keyO y = q := of_decide_eq_true (List.find?_some (p := fun y : On => decide (keyO y = q)) hf)
    by_cases hp : p = q
    · rw [if_pos hp]
      show some (if keyO y = p then { y with refs := k } else y) = _
      rw [if_pos (hy.trans hp.symm)]
      rfl
    · rw [if_neg hp]
      show some (if keyO y = p then { y with refs := k } else y) = _
      rw [if_neg (fun e => hp (e.symm.trans hy))]
theorem at8_del (C : List On) (p q : ByteArray) : at8 (delR C p) q = if p = q then none else at8 C q := by
  unfold at8 delR
  induction C with
  | nil => split <;> rfl
  | cons y C ih =>
    by_cases hy : keyO y = p
    · rw [List.filter_cons_of_neg (by simp [hy]), ih]
      by_cases hp : p = q
      · rw [if_pos hp, if_pos hp]
      · rw [if_neg hp, if_neg hp, List.find?_cons_of_neg (by simp [hy, hp])]
    · rw [List.filter_cons_of_pos (by simp [hy])]
      by_cases hyq : keyO y = q
      · rw [List.find?_cons_of_pos (by simp [hyq]), List.find?_cons_of_pos (by simp [hyq]), if_neg (fun e => hy (hyq.trans e.symm))]
      · rw [List.find?_cons_of_neg (by simp [hyq]), List.find?_cons_of_neg (by simp [hyq])]
        exact ih
theorem rep_set (h : Rep R C) (hx : x ∈ C) (hg : Good8 C M) : Rep (app R ⟨keyO x, enc k x.data, false⟩) (setR C (keyO x) k) := by
  refine ⟨rises_app h.rises _, fun q hq => ?_⟩
  rw [find_app7, at8_set]
  by_cases hp : keyO x = q
  · subst hp
    rw [if_pos rfl, if_pos rfl, hg.at hx]
    rfl
  · rw [if_neg hp, if_neg hp]
    exact h.look q hq
theorem rep_del (h : Rep R C) : Rep (app R ⟨p, ⟨#[]⟩, true⟩) (delR C p) := by
  refine ⟨rises_app h.rises _, fun q hq => ?_⟩
  rw [find_app7, at8_del]
  by_cases hp : p = q
  · subst hp
    rw [if_pos rfl, if_pos rfl, if_pos rfl]
    rfl
  · rw [if_neg hp, if_neg hp]
    exact h.look q hq
def takenB (C : List On) (low n : Nat) : Bool := C.any (fun x => decide (keyO x = keyN low n))
def freeN (C : List On) (low : Nat) : Nat := (List.range (C.length + 1)).findIdx (fun n => !takenB C low n)
theorem taken_at (C : List On) (low n : Nat) : takenB C low n = (at8 C (keyN low n)).isSome := by
  unfold takenB at8
  rw [Bool.eq_iff_iff, List.any_eq_true, List.find?_isSome]
theorem length_le_of_sub {α : Type} [DecidableEq α] : ∀ {l m : List α}, l.Nodup → (∀ x ∈ l, x ∈ m) → l.length ≤ m.length
  | [], m, _, _ => Nat.zero_le _
  | x :: l, m, hn, hs => by
    obtain ⟨h1, h2⟩ := List.nodup_cons.1 hn
    have hm := hs x (List.mem_cons_self ..)
    have ih := length_le_of_sub (l := l) (m := m.erase x) h2 (fun y hy => by
      refine (List.mem_erase_of_ne (fun e => ?_)).2 (hs y (List.mem_cons_of_mem _ hy))
      subst e
      exact h1 hy)
    have := List.length_erase_of_mem hm
    have := List.length_pos_of_mem hm
    simp only [List.length_cons]
    omega
theorem taken_num (h : Good8 C M) {low n : Nat} (hl : low < 256) (ht : takenB C low n = true) : n ∈ C.map On.n := by
  obtain ⟨x, hx, he⟩ := List.any_eq_true.1 ht
  have hxl : x.low < 256 := by rw [(h.each x hx).1]; exact lowO_lt _
  have := keyN_inj hxl hl (of_decide_eq_true he)
  exact List.mem_map.2 ⟨x, hx, this.2⟩
theorem free_lt (h : Good8 C M) {low : Nat} (hl : low < 256) : freeN C low < C.length + 1 := by
  have hlen : (List.range (C.length + 1)).length = C.length + 1 := List.length_range
  have : freeN C low < (List.range (C.length + 1)).length := by
    refine List.findIdx_lt_length_of_exists ?_
    refine Classical.byContradiction (fun hno => ?_)
    have hall : ∀ n ∈ List.range (C.length + 1), takenB C low n = true := fun n hn => by
      cases ht : takenB C low n with
      | true => rfl
      | false => exact absurd ⟨n, hn, by rw [ht]; rfl⟩ hno
    have := length_le_of_sub (l := List.range (C.length + 1)) (m := C.map On.n) List.nodup_range (fun n hn => taken_num h hl (hall n hn))
    rw [List.length_map, hlen] at this
    omega
  rwa [hlen] at this
theorem free_not (h : Good8 C M) {low : Nat} (hl : low < 256) : takenB C low (freeN C low) = false := by
  have hlt := free_lt h hl
  have hlen : (List.range (C.length + 1)).length = C.length + 1 := List.length_range
  have := List.findIdx_getElem (xs := List.range (C.length + 1)) (p := fun n => !takenB C low n) (w := by rw [hlen]; exact hlt)
  rw [List.getElem_range] at this
  exact (Bool.not_eq_true' _).mp this
theorem free_below {low n : Nat} (h : n < freeN C low) : takenB C low n = true := by
  have hlen : (List.range (C.length + 1)).length = C.length + 1 := List.length_range
  have hle : freeN C low ≤ (List.range (C.length + 1)).length := List.findIdx_le_length
  have := List.not_of_lt_findIdx (xs := List.range (C.length + 1)) (p := fun n => !takenB C low n) h
  rw [List.getElem_range] at this
  cases ht : takenB C low n with
  | true => rfl
  | false => rw [ht] at this; cases this
def newO (C : List On) (d : ByteArray) : On := ⟨lowO d, freeN C (lowO d), 1, d⟩
theorem good_new (h : Good8 C M) {d : ByteArray} (hd : of8 C d = none) (hs : d.size ≤ 140737488351232) : Good8 (C ++ [newO C d]) (M + 1) := by
  have hlen := h.len
  have hfl := free_lt h (lowO_lt d)
  have hfn := free_not h (lowO_lt d)
  refine ⟨?_, ?_, ?_, ?_⟩
  · refine List.pairwise_append.2 ⟨h.keys, List.pairwise_singleton _ _, fun x hx y hy e => ?_⟩
    rw [List.mem_singleton] at hy
    subst hy
    have : takenB C (lowO d) (freeN C (lowO d)) = true := List.any_eq_true.2 ⟨x, hx, decide_eq_true e⟩
    rw [hfn] at this
    cases this
  · refine List.pairwise_append.2 ⟨h.datas, List.pairwise_singleton _ _, fun x hx y hy e => ?_⟩
    rw [List.mem_singleton] at hy
    subst hy
    exact of8_none hd x hx e
  · intro x hx
    rcases List.mem_append.1 hx with hx | hx
    · obtain ⟨h1, h2, h3, h4, h5⟩ := h.each x hx
      exact ⟨h1, h2, by omega, by omega, h5⟩
    · rw [List.mem_singleton] at hx
      subst hx
      exact ⟨rfl, Nat.le_refl _, by show 1 ≤ M + 1; omega, by show freeN C (lowO d) ≤ M + 1; omega, hs⟩
  · rw [List.length_append, List.length_singleton]
    omega
theorem rep_new (h : Rep R C) (hg : Good8 C M) {d : ByteArray} : Rep (app R ⟨keyO (newO C d), enc 1 d, false⟩) (C ++ [newO C d]) := by
  refine ⟨rises_app h.rises _, fun q hq => ?_⟩
  have hfn := free_not hg (lowO_lt d)
  rw [taken_at] at hfn
  have hno : at8 C (keyO (newO C d)) = none := Option.isSome_eq_false_iff.1 hfn |> Option.isNone_iff_eq_none.1
  rw [find_app7]
  have e : at8 (C ++ [newO C d]) q = (at8 C q).or (if keyO (newO C d) = q then some (newO C d) else none) := by
    unfold at8
    rw [List.find?_append]
    congr 1
    by_cases hp : keyO (newO C d) = q <;> simp [List.find?_cons, hp]
  rw [e]
  by_cases hp : keyO (newO C d) = q
  · rw [if_pos hp, if_pos hp, ← hp, hno]
    rfl
  · rw [if_neg hp, if_neg hp, Option.or_none]
    exact h.look q hq
def putC (C : List On) (d : ByteArray) : List On × ByteArray := match of8 C d with
  | some x => (setR C (keyO x) (x.refs + 1), keyO x)
  | none => (C ++ [newO C d], keyO (newO C d))
def relC (C : List On) (p : ByteArray) : List On × Bool := match at8 C p with
  | some x => (if x.refs = 1 then delR C p else setR C p (x.refs - 1), true)
  | none => (C, false)
theorem rep_key (h : Rep R C) (hb : beg pB2 p = true) (hf : (find R p).isSome = true) : ∃ x ∈ C, keyO x = p ∧ find R p = some (rw7 (keyO x) (enc x.refs x.data)) := by
  have := h.look p hb
  cases ha : at8 C p with
  | none => rw [this, ha] at hf; cases hf
  | some x =>
    rw [ha] at this
    obtain ⟨h1, h2⟩ := at8_some ha
    exact ⟨x, h1, h2, this⟩
theorem rep_mem (h : Rep R C) (hg : Good8 C M) (hx : x ∈ C) : find R (keyO x) = some (rw7 (keyO x) (enc x.refs x.data)) := by
  rw [h.look (keyO x) (beg_key x.low x.n), hg.at hx]
  rfl
theorem good_put (h : Good8 C M) {d : ByteArray} (hs : d.size ≤ 140737488351232) : Good8 (putC C d).1 (M + 1) := by
  unfold putC
  cases hd : of8 C d with
  | none => exact good_new h hd hs
  | some x =>
    obtain ⟨hx, _⟩ := of8_some hd
    have := (h.each x hx).2.2.1
    exact good_set (h.mono (Nat.le_succ M)) (by omega) (by omega)
theorem good_rel (h : Good8 C M) : Good8 (relC C p).1 M := by
  unfold relC
  cases hd : at8 C p with
  | none => exact h
  | some x =>
    obtain ⟨hx, _⟩ := at8_some hd
    obtain ⟨_, h2, h3, _⟩ := h.each x hx
    show Good8 (if x.refs = 1 then delR C p else setR C p (x.refs - 1)) M
    split
    · exact good_del h
    · exact good_set h (by omega) (by omega)
end
end Go.Proofs.YtdkgkomjbpggeaaGreatDoor.Bl

namespace Go.Proofs.YtdkgkomjbpggeaaGreatDoor.Bl
open Go.RowKit Tx Pm Dk Wm Wr Wl Pl Tb
set_option linter.unusedVariables false
set_option linter.unusedSimpArgs false
set_option linter.unnecessarySimpa false
def cnt (l : List ByteArray) (d : ByteArray) : Nat := l.countP (fun x => decide (x = d))
theorem cnt_snoc (l : List ByteArray) (t d : ByteArray) : cnt (l ++ [t]) d = cnt l d + if t = d then 1 else 0 := by
  unfold cnt
  rw [List.countP_append, List.countP_singleton]
  congr 1
  by_cases he : t = d <;> simp [he]
theorem good_nil : Good8 [] 0 := ⟨List.Pairwise.nil, List.Pairwise.nil, (fun _ h => by cases h), Nat.le_refl _⟩
def keyD (C : List On) (d : ByteArray) : ByteArray := match of8 C d with
  | some x => keyO x
  | none => ⟨#[]⟩
def refD (C : List On) (d : ByteArray) : Nat := match of8 C d with
  | some x => x.refs
  | none => 0
theorem of8_set (C : List On) (p d : ByteArray) (k : Nat) : of8 (setR C p k) d = (of8 C d).map (fun y => if keyO y = p then { y with refs := k } else y) := by
  unfold of8 setR
  rw [List.find?_map]
  have e : ((fun x : On => decide (x.data = d)) ∘ fun y => if keyO y = p then { y with refs := k } else y) = (fun y : On => decide (y.data = d)) := by
    funext y
    show decide ((if keyO y = p then { y with refs := k } else y).data = d) = _
    split <;> rfl
  rw [e]
section
variable {C : List On} {M : Nat}
theorem put_of (hg : Good8 C M) (t d : ByteArray) : of8 (putC C t).1 d = if t = d then some (match of8 C t with | some x => { x with refs := x.refs + 1 } | none => newO C t) else of8 C d := by
  unfold putC
  cases ht : of8 C t with
  | some x =>
    obtain ⟨hx, hd⟩ := of8_some ht
    show of8 (setR C (keyO x) (x.refs + 1)) d = _
    rw [of8_set]
    by_cases he : t = d
    · subst he
      rw [if_pos rfl, ht]
      show some (if keyO x = keyO x then _ else x) = _
      rw [if_pos rfl]
    · rw [if_neg he]
      cases hf : of8 C d with
      | none => rfl
      | some y =>
        obtain ⟨hy, hyd⟩ := of8_some hf
        show some (if keyO y = keyO x then _ else y) = _
        rw [if_neg (fun e => ?_)]
        have h1 := hg.at hx
        have h2 := hg.at hy
        rw [e, h1] at h2
        injection h2 with h2
        exact he (by rw [← hd, ← hyd, h2])
  | none =>
    show of8 (C ++ [newO C t]) d = _
    unfold of8 at ht ⊢
    rw [List.find?_append]
    by_cases he : t = d
    · subst he
      rw [if_pos rfl, ht, List.find?_cons_of_pos (by simp [newO])]
      rfl
    · rw [if_neg he, List.find?_cons_of_neg (by simp [newO, he])]
      show (List.find? _ C).or none = _
      rw [Option.or_none]
theorem put_key (hg : Good8 C M) (t : ByteArray) : (putC C t).2 = keyD (putC C t).1 t := by
  unfold keyD
  rw [put_of hg, if_pos rfl]
  unfold putC
  cases of8 C t <;> rfl
theorem put_keyD (hg : Good8 C M) (t : ByteArray) {d : ByteArray} (hd : (of8 C d).isSome = true) : keyD (putC C t).1 d = keyD C d := by
  unfold keyD
  rw [put_of hg]
  by_cases he : t = d
  · subst he
    rw [if_pos rfl]
    cases h : of8 C t with
    | none => rw [h] at hd; cases hd
    | some x => rfl
  · rw [if_neg he]
theorem put_refD (hg : Good8 C M) (t d : ByteArray) : refD (putC C t).1 d = refD C d + if t = d then 1 else 0 := by
  unfold refD
  rw [put_of hg]
  by_cases he : t = d
  · subst he
    rw [if_pos rfl, if_pos rfl]
    cases of8 C t <;> rfl
  · rw [if_neg he, if_neg he]
    rfl
theorem put_has (hg : Good8 C M) (t d : ByteArray) : (of8 (putC C t).1 d).isSome = (decide (t = d) || (of8 C d).isSome) := by
  rw [put_of hg]
  by_cases he : t = d <;> simp [he]
end
theorem of8_mem {C : List On} {d : ByteArray} (h : (of8 C d).isSome = true) : ∃ x ∈ C, x.data = d ∧ keyD C d = keyO x ∧ refD C d = x.refs := by
  cases hf : of8 C d with
  | none => rw [hf] at h; cases h
  | some x =>
    obtain ⟨h1, h2⟩ := of8_some hf
    exact ⟨x, h1, h2, by unfold keyD; rw [hf], by unfold refD; rw [hf]⟩
theorem keyD_inj {C : List On} {M : Nat} (hg : Good8 C M) {d e : ByteArray} (hd : (of8 C d).isSome = true) (he : (of8 C e).isSome = true) : keyD C d = keyD C e ↔ d = e := by
  constructor
  · intro h
    obtain ⟨x, hx, h1, h2, _⟩ := of8_mem hd
    obtain ⟨y, hy, h3, h4, _⟩ := of8_mem he
    rw [h2, h4] at h
    have e1 := hg.at hx
    rw [h, hg.at hy] at e1
    injection e1 with e1
    rw [← h1, ← h3, e1]
  · intro h; rw [h]
theorem at8_data {C : List On} {M : Nat} (hg : Good8 C M) {d : ByteArray} (hd : (of8 C d).isSome = true) : ∃ x, at8 C (keyD C d) = some x ∧ of8 C d = some x ∧ x.data = d := by
  obtain ⟨x, hx, h1, h2, _⟩ := of8_mem hd
  refine ⟨x, by rw [h2]; exact hg.at hx, ?_, h1⟩
  rw [← h1]
  exact hg.of hx
theorem of8_del {C : List On} {M : Nat} (hg : Good8 C M) {x : On} (hx : x ∈ C) (d : ByteArray) : of8 (delR C (keyO x)) d = if x.data = d then none else of8 C d := by
  by_cases he : x.data = d
  · rw [if_pos he]
    cases hf : of8 (delR C (keyO x)) d with
    | none => rfl
    | some y =>
      obtain ⟨hy, hyd⟩ := of8_some hf
      unfold delR at hy
      obtain ⟨hy1, hy2⟩ := List.mem_filter.1 hy
      have e1 := hg.of hx
      rw [he, ← hyd, hg.of hy1] at e1
      injection e1 with e1
      rw [e1] at hy2
      simp at hy2
  · rw [if_neg he]
    cases hf : of8 C d with
    | none =>
      cases hf2 : of8 (delR C (keyO x)) d with
      | none => rfl
      | some y =>
        obtain ⟨hy, hyd⟩ := of8_some hf2
        unfold delR at hy
        exact absurd hyd (of8_none hf y (List.mem_filter.1 hy).1)
    | some y =>
      obtain ⟨hy, hyd⟩ := of8_some hf
      have hyx : keyO y ≠ keyO x := fun e => by
        have e1 := hg.at hx
        rw [← e, hg.at hy] at e1
        injection e1 with e1
        exact he (by rw [← e1]; exact hyd)
      have hm : y ∈ delR C (keyO x) := by unfold delR; exact List.mem_filter.2 ⟨hy, by simpa using hyx⟩
      have := (good_del (p := keyO x) hg).of hm
      rw [hyd] at this
      exact this
theorem rel_of {C : List On} {M : Nat} (hg : Good8 C M) {t : ByteArray} (ht : (of8 C t).isSome = true) : (relC C (keyD C t)).2 = true ∧
    (∀ d, refD (relC C (keyD C t)).1 d = refD C d - if t = d then 1 else 0) ∧ (∀ d, (of8 (relC C (keyD C t)).1 d).isSome = true → keyD (relC C (keyD C t)).1 d = keyD C d) ∧ (∀ d, (of8 (relC C (keyD C t)).1 d).isSome = ((of8 C d).isSome && (!decide (t = d) || decide (1 < refD C d)))) := by
  obtain ⟨x, h1, h2, h3⟩ := at8_data hg ht
  obtain ⟨hx, hk⟩ := at8_some h1
  obtain ⟨_, hr1, _⟩ := hg.each x hx
  have hrel : relC C (keyD C t) = (if x.refs = 1 then delR C (keyO x) else setR C (keyO x) (x.refs - 1), true) := by unfold relC; rw [h1, hk]
  rw [hrel]
  refine ⟨rfl, ?_⟩
  by_cases hone : x.refs = 1
  · simp only [if_pos hone]
    have hd := of8_del hg hx
    refine ⟨fun d => ?_, fun d hs => ?_, fun d => ?_⟩
    · unfold refD
      rw [hd, h3]
      by_cases he : t = d
      · subst he
        rw [if_pos rfl, if_pos rfl, h2]
        show 0 = x.refs - 1
        omega
      · rw [if_neg he, if_neg he]
        rfl
    · unfold keyD
      rw [hd, h3] at hs ⊢
      by_cases he : t = d
      · rw [if_pos he] at hs
        cases hs
      · rw [if_neg he]
    · rw [hd, h3]
      by_cases he : t = d
      · subst he
        have : refD C t = 1 := by unfold refD; rw [h2]; exact hone
        rw [this]
        simp
      · simp [he]
  · simp only [if_neg hone]
    have hs := of8_set C (keyO x)
    have hy : ∀ d, t ≠ d → of8 (setR C (keyO x) (x.refs - 1)) d = of8 C d := fun d he => by
      rw [hs]
      cases hf : of8 C d with
      | none => rfl
      | some y =>
        obtain ⟨hy, hyd⟩ := of8_some hf
        show some (if keyO y = keyO x then _ else y) = _
        rw [if_neg (fun e => ?_)]
        have e1 := hg.at hx
        rw [← e, hg.at hy] at e1
        injection e1 with e1
        exact he (by rw [← h3, ← hyd, e1])
    have hy2 : of8 (setR C (keyO x) (x.refs - 1)) t = some { x with refs := x.refs - 1 } := by
      rw [hs, h2]
      show some (if keyO x = keyO x then _ else x) = _
      rw [if_pos rfl]
    refine ⟨fun d => ?_, fun d _ => ?_, fun d => ?_⟩
    · unfold refD
      by_cases he : t = d
      · subst he
        rw [hy2, if_pos rfl, h2]
      · rw [hy d he, if_neg he]
        rfl
    · unfold keyD
      by_cases he : t = d
      · subst he
        rw [hy2, h2]
        rfl
      · rw [hy d he]
    · by_cases he : t = d
      · subst he
        have : refD C t = x.refs := by unfold refD; rw [h2]
        rw [hy2, h2, this]
        have : 1 < x.refs := by omega
        simp [this]
      · rw [hy d he]
        simp [he]
end Go.Proofs.YtdkgkomjbpggeaaGreatDoor.Bl

namespace Go.Proofs.YtdkgkomjbpggeaaGreatDoor.Az
open Go.RowKit Tx Pm Dk Wm Wr Wl Pl Tb Bl Fm Fr
open En (Et tcheck)
set_option linter.unusedVariables false
set_option linter.unusedSimpArgs false
set_option linter.unnecessarySimpa false
def z1 : ByteArray := ⟨#[0]⟩
def vz (r : ByteArray) : ByteArray := Fm.pk r ++ z1
theorem vz_list (r : ByteArray) : (vz r).data.toList = vb r.size ++ (r.data.toList ++ (le4 (fsum r.data.toList) ++ [0])) := by
  unfold vz
  rw [app_l, pk_list]
  show _ ++ [0] = _
  simp
theorem vz_size (r : ByteArray) : (vz r).size = (vb r.size).length + r.size + 5 := by
  unfold vz
  rw [ByteArray.size_append, pk_size]
  rfl
def Bad (v : ByteArray) : Prop := ∀ t, v ≠ vz t
theorem vb_mono : ∀ y x : Nat, x ≤ y → (vb x).length ≤ (vb y).length := by
  intro y
  induction y using Nat.strongRecOn with
  | _ y ih =>
    intro x hxy
    by_cases hx : x < 128
    · rw [vb, if_pos hx]
      exact vb_pos y
    · have e1 : (vb x).length = (vb (x / 128)).length + 1 := by rw [vb, if_neg hx]; rfl
      have e2 : (vb y).length = (vb (y / 128)).length + 1 := by rw [vb, if_neg (by omega)]; rfl
      have := ih (y / 128) (by omega) (x / 128) (by omega)
      omega
theorem vb_same {x y : Nat} (h : (vb x).length + x = (vb y).length + y) : x = y := by
  rcases Nat.lt_trichotomy x y with hh | hh | hh
  · have := vb_mono y x (by omega); omega
  · exact hh
  · have := vb_mono x y (by omega); omega
theorem fr_vz (r : ByteArray) (h : r.size ≤ 9223372036854775807) : fr (vz r) = (r, (Fm.pk r).size, 0) := by
  have e : vz r = ⟨(vb r.size ++ (r.data.toList ++ (le4 (fsum r.data.toList) ++ [0]))).toArray⟩ := ba_ext (vz_list r)
  rw [e, fr_front r _ [0] h rfl, if_pos rfl, pk_size]
theorem vz_rest (r : ByteArray) : (vz r).extract (Fm.pk r).size (vz r).size = z1 := by
  unfold vz
  apply ba_ext
  rw [ByteArray.data_extract, Array.toList_extract, app_l]
  simp only [List.extract_eq_take_drop]
  rw [← Wm.len_l (Fm.pk r), List.drop_left, ByteArray.size_append]
  show [(0 : UInt8)].take _ = [0]
  rw [← Wm.len_l (Fm.pk r)]
  have : (Fm.pk r).data.toList.length + z1.size - (Fm.pk r).data.toList.length = 1 := by
    have : z1.size = 1 := rfl
    omega
  rw [this]
  rfl
theorem fr_is {v t : ByteArray} {n : Nat} (h : fr v = (t, n, 0)) (hr : v.extract n v.size = z1) : v = vz t := by
  obtain ⟨_, _, h3, h4⟩ := fr_ok h
  have e : v = v.extract 0 n ++ v.extract n v.size := by
    apply ba_ext
    rw [app_l, ByteArray.data_extract, ByteArray.data_extract, Array.toList_extract, Array.toList_extract]
    simp only [List.extract_eq_take_drop, List.drop_zero, Nat.sub_zero]
    rw [← Wm.len_l v]
    have : (v.data.toList.drop n).take (v.data.toList.length - n) = v.data.toList.drop n := List.take_of_length_le (by rw [List.length_drop]; exact Nat.le_refl _)
    rw [this, List.take_append_drop]
  rw [e, hr, h4]
  rfl
theorem bad_read {v t : ByteArray} {n : Nat} (hb : Bad v) (h : fr v = (t, n, 0)) : v.extract n v.size ≠ z1 := fun hr => hb t (fr_is h hr)
theorem get_last {l m : List UInt8} {b : UInt8} (h : l = m ++ [b]) : l.getD (l.length - 1) 0 = b := by
  subst h
  rw [List.length_append, List.getD_eq_getElem?_getD, List.getElem?_append_right (by simp)]
  simp
def lastB (v : ByteArray) : UInt8 := v.data.toList.getD (v.size - 1) 0
theorem vz_last (t : ByteArray) : lastB (vz t) = 0 := by
  unfold lastB
  rw [← Wm.len_l]
  exact get_last (m := vb t.size ++ (t.data.toList ++ le4 (fsum t.data.toList))) (by rw [vz_list]; simp)
theorem bad_last {v : ByteArray} (h : lastB v ≠ 0) : Bad v := fun t e => h (by rw [e]; exact vz_last t)
def inv (v : ByteArray) : ByteArray := v.extract 0 (v.size - 1) ++ ⟨#[UInt8.ofNat (255 - (lastB v).toNat)]⟩
theorem inv_size {v : ByteArray} (h : 0 < v.size) : (inv v).size = v.size := by
  unfold inv
  rw [ByteArray.size_append, ByteArray.size_extract]
  show _ + 1 = _
  omega
theorem inv_last {v : ByteArray} (h : 0 < v.size) : lastB (inv v) = UInt8.ofNat (255 - (lastB v).toNat) := by
  have e : (inv v).data.toList = (v.extract 0 (v.size - 1)).data.toList ++ [UInt8.ofNat (255 - (lastB v).toNat)] := by unfold inv; rw [app_l]
  have := get_last e
  rw [Wm.len_l] at this
  exact this
theorem inv_bad {v : ByteArray} (h : 0 < v.size) (h2 : lastB v ≠ 255) : Bad (inv v) := bad_last (by
  rw [inv_last h]
  intro e
  have e2 := congrArg UInt8.toNat e
  have hl := (lastB v).toNat_lt
  rw [ofNat_toNat _ (by omega)] at e2
  have : (lastB v).toNat = 255 := by
    have : (0 : UInt8).toNat = 0 := rfl
    omega
  exact h2 (UInt8.toNat_inj.1 (by rw [this]; rfl)))
theorem getD_set {l : List UInt8} {i j : Nat} {b : UInt8} (hj : j < l.length) : (l.set i b).getD j 0 = if i = j then b else l.getD j 0 := by
  rw [List.getD_eq_getElem?_getD, List.getD_eq_getElem?_getD, List.getElem?_set]
  by_cases h : i = j
  · subst h
    rw [if_pos rfl, if_pos rfl, if_pos hj]
    rfl
  · rw [if_neg h, if_neg h]
theorem trn_bad (r : ByteArray) (B : Nat) (hr : r.size ≤ 9223372036854775807) (hB : B < 8 * (vz r).size) : Bad (trn (vz r) B) := by
  have hs := vz_size r
  have hps := pk_size r
  have hB8 : B / 8 < (vz r).size := by omega
  have hl := trn_list (vz r) B hB8
  intro t he
  have hsz := congrArg ByteArray.size he
  rw [trn_size _ _ hB8, vz_size, vz_size] at hsz
  have hrt : r.size = t.size := vb_same (by omega)
  have hg : (vz t).data.toList.getD (B / 8) 0 ≠ (vz r).data.toList.getD (B / 8) 0 := by
    rw [← he, hl, getD_set (by rw [Wm.len_l]; exact hB8), if_pos rfl]
    intro e
    have e2 := congrArg UInt8.toNat e
    rw [ofNat_toNat _ (flip_lt _ _ (getD_lt _ _) (by omega))] at e2
    exact flip_ne _ _ (getD_lt _ _) (by omega) e2
  by_cases h1 : B / 8 < (vb r.size).length
  · refine hg ?_
    rw [vz_list, vz_list, List.getD_eq_getElem?_getD, List.getD_eq_getElem?_getD, List.getElem?_append_left (by rw [← hrt]; exact h1), List.getElem?_append_left h1, hrt]
  · by_cases h2 : B / 8 < (Fm.pk r).size
    · have ht := fr_turned r [0] B hr (by omega) (by omega)
      have e : (⟨((trn (Fm.pk r) B).data.toList ++ [0]).toArray⟩ : ByteArray) = trn (vz r) B := by
        apply ba_ext
        rw [hl, trn_list (Fm.pk r) B h2]
        show (Fm.pk r).data.toList.set _ _ ++ [0] = _
        have e0 : (vz r).data.toList = (Fm.pk r).data.toList ++ [0] := by unfold vz; rw [app_l]; rfl
        have hlt : B / 8 < (Fm.pk r).data.toList.length := by rw [Wm.len_l]; exact h2
        rw [e0, List.set_append_left _ _ hlt, List.getD_eq_getElem?_getD, List.getD_eq_getElem?_getD, List.getElem?_append_left hlt]
      rw [e, he, fr_vz t (by omega)] at ht
      have h9 : (0 : Nat) = 6 := congrArg (fun z : ByteArray × Nat × Nat => z.2.2) ht
      exact absurd h9 (by decide)
    · refine hg ?_
      have e1 : B / 8 = (vz r).size - 1 := by omega
      have e2 : B / 8 = (vz t).size - 1 := by rw [vz_size, ← hrt, ← vz_size r]; exact e1
      have h3 := vz_last r
      have h4 := vz_last t
      unfold lastB at h3 h4
      rw [e2, h4, show (vz t).size - 1 = (vz r).size - 1 by omega, h3]
theorem tn_bad (r : ByteArray) (b : Int) (hr : r.size ≤ 9223372036854775807) : Bad (tn (vz r) b) := by
  have hs := vz_size r
  rw [tn, if_neg (by omega)]
  have h3 := Int.emod_nonneg b (show ((8 * (vz r).size : Nat) : Int) ≠ 0 by omega)
  have h4 := Int.emod_lt_of_pos b (show (0 : Int) < ((8 * (vz r).size : Nat) : Int) by omega)
  exact trn_bad r _ hr (by omega)
theorem tn_size (v : ByteArray) (b : Int) : (tn v b).size = v.size := by
  unfold tn
  split
  · rename_i h; rw [h]; rfl
  · rename_i h
    have h3 := Int.emod_nonneg b (show ((8 * v.size : Nat) : Int) ≠ 0 by omega)
    have h4 := Int.emod_lt_of_pos b (show (0 : Int) < ((8 * v.size : Nat) : Int) by omega)
    exact trn_size v _ (by omega)
theorem tn_tn (v : ByteArray) (b : Int) (h : 0 < v.size) : tn (tn v b) b = v := by
  have e : tn v b = trn v (b % (8 * v.size : Nat)).toNat := by unfold tn; rw [if_neg (by omega)]
  have hs := tn_size v b
  have h3 := Int.emod_nonneg b (show ((8 * v.size : Nat) : Int) ≠ 0 by omega)
  have h4 := Int.emod_lt_of_pos b (show (0 : Int) < ((8 * v.size : Nat) : Int) by omega)
  rw [tn, if_neg (by omega), hs, e]
  exact trn_trn v _ (by omega)
theorem tn_last (r : ByteArray) (b : Int) : lastB (tn (vz r) b) ≠ 255 := by
  have hs := vz_size r
  have h3 := Int.emod_nonneg b (show ((8 * (vz r).size : Nat) : Int) ≠ 0 by omega)
  have h4 := Int.emod_lt_of_pos b (show (0 : Int) < ((8 * (vz r).size : Nat) : Int) by omega)
  obtain ⟨B, hB⟩ : ∃ B, B = (b % (8 * (vz r).size : Nat)).toNat := ⟨_, rfl⟩
  have hBl : B < 8 * (vz r).size := by omega
  have e : tn (vz r) b = trn (vz r) B := by unfold tn; rw [if_neg (by omega), hB]
  have hv := vz_last r
  unfold lastB at hv ⊢
  rw [e, trn_size _ _ (by omega), trn_list _ _ (by omega), getD_set (by rw [Wm.len_l]; omega)]
  split
  · rename_i h
    rw [h, hv]
    have : ∀ i : Fin 8, UInt8.ofNat (flip (0 : UInt8).toNat i.val) ≠ 255 := by decide
    exact this ⟨B % 8, Nat.mod_lt _ (by decide)⟩
  · rw [hv]; decide
end Go.Proofs.YtdkgkomjbpggeaaGreatDoor.Az

namespace Go.Proofs.YtdkgkomjbpggeaaGreatDoor.Tb
open Go.RowKit Tx Pm Dk Wm Wr Wl Pl
set_option linter.unusedVariables false
set_option linter.unusedSimpArgs false
set_option linter.unnecessarySimpa false
theorem oldK_len (l : List Ch) (K : List ByteArray) : (oldK l K).length ≤ K.length := List.length_filter_le _ _
theorem newK_len (p : ByteArray) (l : List Ch) : (newK p l).length ≤ l.length := by unfold newK; rw [List.length_map]; exact List.length_filter_le _ _
theorem take_snoc {α : Type} {l : List α} {k : Nat} {x : α} (h : l[k]? = some x) : l.take (k + 1) = l.take k ++ [x] := by
  have hk := (List.getElem?_eq_some_iff.1 h).1
  rw [List.take_succ_eq_append_getElem hk]
  rw [List.getElem?_eq_getElem hk] at h
  injection h with h
  rw [h]
set_option maxRecDepth 100000 in
set_option maxHeartbeats 4000000 in
theorem bKeys_any (u t m pm : Nat) (vO : Value) (L : List It) (l : List Ch) (p : ByteArray) (w : World) {G : Nat → Prop} (hB : BAt u pm (some ⟨t, 0, none⟩) vO w G l) (ht : w.cell? ⟨t, 3, none⟩ = some (.map (some m))) (hm : Mo w m L) (hR : Rises L) (hn : L.length ≤ 100000000) (hln : l.length ≤ 100000000) (hps : ∀ x ∈ L, x.path.size ≤ 1000000000000) (hks : ∀ c ∈ l, c.key.size ≤ 1000000000000) (hp : p.size ≤ 1000000000000) :
    Calls Tryz.prog 20 #[.pointer (some ⟨u, 0, none⟩), .string p] w (ListTo (held (pre7 p) (all7 L l)) w) := by
  obtain ⟨i0, hi, hz0, hz1, hz2⟩ := info_parts Tx.info9
  obtain ⟨c0, c1, c2⟩ := hB.cell
  have ck := tKeys_any t m L p w ht hm hR (by omega) hps hp
  have HPERM := Lib.hid (perm_keys hR hB.once p)
  have HRS := Lib.hid (held_rises (φ := pre7 p) (rises_all hR l))
  have HKL := Lib.hid (held_len (pre7 p) L)
  have HKS : Hid (∀ k ∈ held (pre7 p) L, k.size ≤ 1000000000000) := Lib.hid (fun k hk => by
    obtain ⟨x, hx, rfl⟩ := List.mem_map.1 hk
    exact hps x (List.mem_filter.1 hx).1)
  have HCS := Lib.hid hks
  have HB := Lib.hid hB
  obtain ⟨aO, cO, hvO, hO1, hO2, hO3⟩ := hB.ops.form
  obtain ⟨nO, hnO⟩ : ∃ n, n = l.length := ⟨_, rfl⟩
  rw [← hnO] at hvO hO1 hO2 hln
  have HOP := Lib.hid hO1
  have HNO := Lib.hid hnO
  have hul : u < w.heap.size := World.block_lt_of_cell? w _ c0
  generalize held (pre7 p) L = K at ck HPERM HKL HKS
  obtain ⟨n, hnK⟩ : ∃ n, n = K.length := ⟨_, rfl⟩
  have HNK := Lib.hid hnK
  have hnb : n ≤ 100000000 := by have := HKL.out; omega
  subst hvO
  clear hB hm ht hR hps hks hO1 hnO hn hnK HKL
  go_enter Tryz.func20, Tryz.ntmps20
  go_wp2_with fail
  go_at_call 52
  refine ck.mono ?_
  rintro e w1 ⟨vK, rfl, hK, hb1⟩
  obtain ⟨aK, cK, hv, hsK, hcK, _⟩ := hK.form
  rw [← HNK.out] at hv hsK hcK
  have HSK := Lib.hid (fun W (hW : Below w1.heap.size w1 W) => hsK.below hW)
  have HB1 := Lib.hid (HB.out.below hb1)
  have HOP1 := Lib.hid (HOP.out.below hb1)
  have d1 := (hb1.cell (p := ⟨u, 1, none⟩) hul).trans c1
  have d2 := (hb1.cell (p := ⟨u, 2, none⟩) hul).trans c2
  have hul1 : u < w1.heap.size := Nat.lt_of_lt_of_le hul hb1.size
  clear hK hsK ck c0 c1 c2
  subst hv
  go_wp2_with fail
  go_loopw [5, 21] (fun v iv wr => ∃ k T : Nat, k ≤ n ∧ iv = .int .i64 k ∧ Hid ((oldK l (K.take k)).length = T) ∧ T ≤ 100000000 ∧ wr.ownsRow w1.heap.size 9 1 v T ((oldK l (K.take k)).map sv) ∧ Below w1.heap.size w1 wr) (fun _ iv _ => n - (intOf iv).toNat)
  case atStart => exact ⟨0, 0, Nat.zero_le _, rfl, rfl, by omega, World.ownsRow_nil _ _ _ _, Below.refl _ _⟩
  case round =>
    obtain ⟨k, T, hk, rfl, hT, hTm, hown, hB⟩ := hrel
    have e1 := (hB.cell (p := ⟨u, 1, none⟩) hul1).trans d1
    have e2 := (hB.cell (p := ⟨u, 2, none⟩) hul1).trans d2
    by_cases hlt : k < n
    · obtain ⟨x, hx⟩ : ∃ x, K[k]? = some x := ⟨_, List.getElem?_eq_getElem (by rw [← HNK.out]; exact hlt)⟩
      obtain ⟨_, hne⟩ := HSK.out _ hB
      obtain ⟨bk, off, rfl, hbk, hcc⟩ := hne.resolve_left (by omega)
      have g0 := hcc k x hx
      have hkz : (k : Int) < (n : Int) := by omega
      have hl := (HB1.out.plc.kept (hB.block pm HB1.out.plc.lt)).look (p := x) (by have := HKS.out x (List.mem_of_getElem? hx); unfold maxLen; omega)
      unfold placeV at hl
      have htk := oldK_snoc l (K.take k) x
      rw [← take_snoc hx] at htk
      have hle := oldK_len l (K.take (k + 1))
      have hle2 : (K.take (k + 1)).length ≤ n := by rw [List.length_take, HNK.out]; omega
      cases ha : at7 l x with
      | none =>
        rw [ha] at hl
        rw [ha, Option.isNone_none, if_pos rfl] at htk
        have HTK := Lib.hid htk
        have hT2 : T + 1 ≤ 100000000 := by
          have := congrArg List.length htk
          rw [List.length_append, List.length_singleton, hT.out] at this
          omega
        have HLN := Lib.hid (show (oldK l (K.take (k + 1))).length = T + 1 by rw [htk, List.length_append, hT.out]; rfl)
        clear hx hcc hne htk ha hle hle2
        go_wp2_with (at_builtin; refine wpList_append_own _ rfl _ _ 52 rfl w1.heap.size 9 i0 (.string ⟨#[]⟩) 1 16 Tryz.underlying52 hi hz0 hz1 hz2 rfl (by decide) _ _ _ rfl (hown.alloc _) ⟨wr.heap.size, 0, none⟩ 1 1 [sv x] rfl rfl ?c1_2 ?c2_2 ?c3_2 ?c4_2 ?c5_2 ?_)
        case c1_2 => first | exact cell_one_new _ _ _ | exact fun _ _ h => h
        case c2_2 => first | exact sv_one [x] | rfl
        case c3_2 => unfold maxLen; omega
        case c4_2 => omega
        case c5_2 => first | (have := hB.size; simp; omega) | (have := hB.size; omega)
        intro v' w6 hown6 hgrow6 _
        have hB6 : Below w1.heap.size w1 w6 := (hB.alloc hB.size _).grown hgrow6 (by simp; have := hB.size; omega) (fun g hg => (hown.lt g hg).1)
        have hO6 : w6.ownsRow w1.heap.size 9 1 v' (T + 1) ((oldK l (K.take (k + 1))).map sv) := by
          rw [HTK.out, List.map_append]
          exact hown6
        clear hown6 hgrow6 hown hB e1 e2
        go_wp2_with fail
        go_roundw
        case rel => exact ⟨k + 1, T + 1, by omega, by go_num, HLN, hT2, hO6, hB6⟩
        case measure => simp [intOf]; omega
      | some i =>
        rw [ha] at hl
        rw [ha, Option.isNone_some, if_neg (by decide), List.append_nil] at htk
        have HLN := Lib.hid (show (oldK l (K.take (k + 1))).length = T by rw [htk]; exact hT.out)
        have HO := Lib.hid (show wr.ownsRow w1.heap.size 9 1 u5 T ((oldK l (K.take (k + 1))).map sv) by rw [htk]; exact hown)
        clear hx hcc hne htk ha hle hle2 hown
        go_wp2_with fail
        go_roundw
        case rel => exact ⟨k + 1, T, by omega, by go_num, HLN, hTm, HO.out, hB⟩
        case measure => simp [intOf]; omega
    · obtain rfl : k = n := by omega
      have eK : K.take k = K := List.take_of_length_le (by rw [HNK.out]; exact Nat.le_refl _)
      rw [eK] at hT hown
      have HOP2 := Lib.hid (fun W (hW : Below w1.heap.size w1 W) => HOP1.out.below hW)
      clear HSK HKS hlt eK
      go_wp2_with fail
      go_loopw [5, 46] (fun v iv wr2 => ∃ q T2 : Nat, q ≤ nO ∧ iv = .int .i64 q ∧ Hid ((oldK l K ++ newK p (l.take q)).length = T2) ∧ T2 ≤ 1000000000 ∧ wr2.ownsRow w1.heap.size 9 1 v T2 ((oldK l K ++ newK p (l.take q)).map sv) ∧ Below w1.heap.size w1 wr2) (fun _ iv _ => nO - (intOf iv).toNat)
      case atStart => exact ⟨0, T, Nat.zero_le _, rfl, by rw [List.take_zero]; show (oldK l K ++ []).length = T; rw [List.append_nil]; exact hT.out, by omega, by rw [List.take_zero]; show wr.ownsRow w1.heap.size 9 1 _ T ((oldK l K ++ []).map sv); rw [List.append_nil]; exact hown, hB⟩
      case round =>
        clear hown hB e1 e2
        obtain ⟨q, T2, hq, rfl, hT2, hTm2, hown, hB⟩ := hrel
        by_cases hltq : q < nO
        · obtain ⟨x, hx⟩ : ∃ x, l[q]? = some x := ⟨_, List.getElem?_eq_getElem (by rw [← HNO.out]; exact hltq)⟩
          obtain ⟨g, off, rfl, hg, g0, g1, g2⟩ := (HOP2.out _ hB).nth hx
          have hqz : (q : Int) < (nO : Int) := by omega
          have htk := newK_snoc p (l.take q) x
          rw [← take_snoc hx] at htk
          have hxk := HCS.out x (List.mem_of_getElem? hx)
          have hle := newK_len p (l.take (q + 1))
          have hle1 : (l.take (q + 1)).length ≤ nO := by rw [List.length_take, HNO.out]; omega
          have hle2 : (oldK l K).length ≤ 100000000 := by rw [hT.out]; exact hTm
          obtain ⟨key, val, gone⟩ := x
          simp only at g0 g1 g2 htk hxk
          have hB2 := hB.alloc hB.size (.cells #[.string key, .string val, .bool gone] 105)
          have hO2 := hown.alloc (.cells #[.string key, .string val, .bool gone] 105)
          have hC3 : Cells3 wr.heap.size key val gone (wr.alloc (.cells #[.string key, .string val, .bool gone] 105)) := cells3_new wr ⟨key, val, gone⟩ _
          have hlt2 : wr.heap.size < (wr.alloc (.cells #[.string key, .string val, .bool gone] 105)).heap.size := by simp
          have hsz2 : w1.heap.size ≤ (wr.alloc (.cells #[.string key, .string val, .bool gone] 105)).heap.size := hB2.size
          clear hx
          cases gone
          · cases hbg : beg p key
            · rw [hbg] at htk
              rw [if_neg (by decide), List.append_nil] at htk
              have HLN := Lib.hid (show (oldK l K ++ newK p (l.take (q + 1))).length = T2 by rw [htk]; exact hT2.out)
              have HO := Lib.hid (show (wr.alloc (.cells #[.string key, .string val, .bool false] 105)).ownsRow w1.heap.size 9 1 u5 T2 ((oldK l K ++ newK p (l.take (q + 1))).map sv) by rw [htk]; exact hO2)
              have cx := fun W => hasPrefix_any key p W (by omega) (by omega)
              unfold beg at hbg
              rw [hbg] at cx
              clear htk hO2 hown hB hbg hle hle1 hle2
              obtain ⟨f0, f1, f2⟩ := hC3
              go_wp2_with fail
              go_at_call 53
              refine (cx _).mono ?_
              rintro e w5 ⟨rfl, rfl⟩
              go_wp2_with fail
              go_roundw
              case rel => exact ⟨q + 1, T2, by omega, by go_num, HLN, hTm2, HO.out, hB2⟩
              case measure => simp [intOf]; omega
            · rw [hbg] at htk
              rw [if_pos (by decide)] at htk
              have HTK := Lib.hid htk
              have hT3 : T2 + 1 ≤ 1000000000 := by
                have := congrArg List.length htk
                rw [List.length_append, List.length_singleton] at this
                have h3 := hT2.out
                rw [List.length_append] at h3
                omega
              have HLN := Lib.hid (show (oldK l K ++ newK p (l.take (q + 1))).length = T2 + 1 by rw [htk, ← List.append_assoc, List.length_append, hT2.out]; rfl)
              have cx := fun W => hasPrefix_any key p W (by omega) (by omega)
              unfold beg at hbg
              rw [hbg] at cx
              clear htk hown hB hbg hle hle1 hle2
              obtain ⟨f0, f1, f2⟩ := hC3
              go_wp2_with fail
              go_at_call 53
              refine (cx _).mono ?_
              rintro e w5 ⟨rfl, rfl⟩
              go_wp2_with (at_builtin; refine wpList_append_own _ rfl _ _ 52 rfl w1.heap.size 9 i0 (.string ⟨#[]⟩) 1 16 Tryz.underlying52 hi hz0 hz1 hz2 rfl (by decide) _ _ _ rfl (hO2.alloc _) ⟨wr.heap.size + 1, 0, none⟩ 1 1 [sv key] rfl rfl ?c1_2 ?c2_2 ?c3_2 ?c4_2 ?c5_2 ?_)
              case c1_2 => exact (World.size_alloc wr (.cells #[.string key, .string val, .bool false] 105)) ▸ cell_one_new (wr.alloc (.cells #[.string key, .string val, .bool false] 105)) (sv key) 9
              case c2_2 => first | exact sv_one [key] | rfl
              case c3_2 => unfold maxLen; omega
              case c4_2 => omega
              case c5_2 => exact Nat.le_trans hB2.size (((Below.refl _ _).alloc (Nat.le_refl _) _).size)
              intro v' w6 hown6 hgrow6 _
              have hB6 : Below w1.heap.size w1 w6 := (hB2.alloc hB2.size _).grown hgrow6 (Nat.le_trans hB2.size (((Below.refl _ _).alloc (Nat.le_refl _) _).size)) (fun g hg => (hO2.lt g hg).1)
              have hO6 : w6.ownsRow w1.heap.size 9 1 v' (T2 + 1) ((oldK l K ++ newK p (l.take (q + 1))).map sv) := by
                rw [HTK.out]
                simp only [List.map_append, List.map_cons, List.map_nil, List.append_assoc] at hown6 ⊢
                exact hown6
              clear hown6 hgrow6 hO2 hB2
              go_wp2_with fail
              go_roundw
              case rel => exact ⟨q + 1, T2 + 1, by omega, by go_num, HLN, hT3, hO6, hB6⟩
              case measure => simp [intOf]; omega
          · rw [Bool.not_true, Bool.false_and, if_neg (by decide), List.append_nil] at htk
            have HLN := Lib.hid (show (oldK l K ++ newK p (l.take (q + 1))).length = T2 by rw [htk]; exact hT2.out)
            have HO := Lib.hid (show (wr.alloc (.cells #[.string key, .string val, .bool true] 105)).ownsRow w1.heap.size 9 1 u5 T2 ((oldK l K ++ newK p (l.take (q + 1))).map sv) by rw [htk]; exact hO2)
            clear htk hO2 hown hB hle hle1 hle2
            go_wp2_with fail
            go_roundw
            case rel => exact ⟨q + 1, T2, by omega, by go_num, HLN, hTm2, HO.out, hB2⟩
            case measure => simp [intOf]; omega
        · obtain rfl : q = nO := by omega
          have el : l.take q = l := List.take_of_length_le (by rw [HNO.out]; exact Nat.le_refl _)
          rw [el] at hT2 hown
          have hO : Texts wr w.heap.size _ (oldK l K ++ newK p l) := own_toT (Dk.own_base hown hb1.size) hT2.out
          have hol : (oldK l K ++ newK p l).length ≤ 4000000000 := by rw [hT2.out]; omega
          have hBw := Tx.below_call hb1 hB
          have cs := sortS_any _ (oldK l K ++ newK p l) wr w.heap.size hO hBw.size hol
          clear hO hown hT2 hB hol
          go_wp2_with (go_at_call 54; refine cs.mono ?_; rintro e w5 ⟨rfl, ts, hts, hso, htx, hb5⟩)
          go_ret
          obtain rfl : ts = held (pre7 p) (all7 L l) := rising_perm (hts.trans HPERM.out) hso HRS.out
          exact ⟨_, rfl, htx, hBw.trans hb5⟩
end Go.Proofs.YtdkgkomjbpggeaaGreatDoor.Tb

namespace Go.Proofs.YtdkgkomjbpggeaaGreatDoor.Bl
open Go.RowKit Tx Pm Dk Wm Wr Wl Pl Tb
set_option linter.unusedVariables false
set_option linter.unusedSimpArgs false
set_option linter.unnecessarySimpa false
def OwF {α : Type} (Obj : World → (Nat → Prop) → α → Prop) (z : World × (Nat → Prop)) (x : α) (W : World) : Prop := LeftA Obj z.1 z.2 x W
section
variable {α β : Type} {Obj : World → (Nat → Prop) → α → Prop} {Obj' : World → (Nat → Prop) → β → Prop} {z : World × (Nat → Prop)} {x : α} {y : β} {W : World}
theorem OwF.chg (h : OwF Obj z x W) : Chg z.2 z.1 W := by
  obtain ⟨F, _, h2, _⟩ := h
  exact h2
theorem OwF.call {f : FuncId} {args : Array Value} {P : Ending → Prop} (h : OwF Obj z x W) (hc : ∀ F, Obj W F x → Calls Tryz.prog f args W fun e w' => P e ∧ LeftA Obj' W F y w') : Calls Tryz.prog f args W fun e w' => P e ∧ OwF Obj' z y w' := by
  obtain ⟨F, h1, h2, h3⟩ := h
  refine (hc F h1).mono fun e w' ⟨hp, F', q1, q2, q3⟩ => ⟨hp, F', q1, h2.trans q2 h3, fun g hg => ?_⟩
  rcases q3 g hg with hh | hh
  · exact h3 g hh
  · exact .inr (Nat.le_trans h2.size hh)
theorem OwF.kept (hk : ∀ {w w1 : World} {F : Nat → Prop} {x : α}, Obj w F x → Below w.heap.size w w1 → Obj w1 F x) {w' : World} (h : OwF Obj z x W) (hb : Below W.heap.size W w') : OwF Obj z x w' := by
  obtain ⟨F, h1, h2, h3⟩ := h
  exact ⟨F, hk h1 hb, h2.then (Chg.of_below hb), h3⟩
end
section
variable {w0 : World × (Nat → Prop)} {W : World} {b j t m u k : Nat} {x y : Tst} {l : List Ch}
theorem owf_below {w' : World} (h : OwF (Tu b j t m u) w0 (x, l) W) (hb : Below W.heap.size W w') : OwF (Tu b j t m u) w0 (x, l) w' := OwF.kept (Obj := Tu b j t m u) (fun h hb => tb_below h hb) h hb
theorem f_batch {f : FuncId} {args : Array Value} {l' : List Ch} {P : Ending → Prop} (h : OwF (Tu b j t m u) w0 (x, l) W) (hc : ∀ pm vO G, BAt u pm (some ⟨t, 0, none⟩) vO W G l → Calls Tryz.prog f args W fun e w' => P e ∧ LeftA (Bn u (some ⟨t, 0, none⟩)) W G l' w') :
    Calls Tryz.prog f args W fun e w' => P e ∧ OwF (Tu b j t m u) w0 (x, l') w' :=
  h.call (fun H ⟨F, G, ⟨Fj, h1⟩, ⟨pm, vO, h2⟩, hd, hH⟩ => (hc pm vO G h2).mono fun e w' hh => ⟨hh.1, by
    obtain ⟨G', q, c, n⟩ := hh.2
    refine ⟨fun i => F i ∨ G' i, ⟨F, G', ⟨Fj, h1.kept (fun i hi => c.block i (h1.lt i hi) (hd i hi))⟩, q, fun i hi hg => ?_, fun i => Iff.rfl⟩, c.mono (fun i hi => (hH i).2 (.inr hi)), fun g hg => ?_⟩
    · rcases n i hg with hh | hh
      · exact hd i hi hh
      · have := h1.lt i hi; omega
    · rcases hg with hg | hg
      · exact .inl ((hH g).2 (.inl hg))
      · exact (n g hg).imp (fun hh => (hH g).2 (.inr hh)) id⟩)
theorem f_put {key val : ByteArray} (h : OwF (Tu b j t m u) w0 (x, l) W) (hk : key.size ≤ 1000000000000) (hl : l.length < 1000000000) : Calls Tryz.prog 32 #[.pointer (some ⟨u, 0, none⟩), .string key, .string val] W fun e w' => e = .returned (.tuple #[]) ∧ OwF (Tu b j t m u) w0 (x, bat l ⟨key, val, false⟩) w' :=
  f_batch h (fun pm vO G hB => bPut_any u pm _ vO key val W hB hk hl)
theorem f_drop {key : ByteArray} (h : OwF (Tu b j t m u) w0 (x, l) W) (hk : key.size ≤ 1000000000000) (hl : l.length < 1000000000) : Calls Tryz.prog 43 #[.pointer (some ⟨u, 0, none⟩), .string key] W fun e w' => e = .returned (.tuple #[]) ∧ OwF (Tu b j t m u) w0 (x, bat l ⟨key, ⟨#[]⟩, true⟩) w' :=
  f_batch h (fun pm vO G hB => bDrop_any u pm _ vO key W hB hk hl)
theorem f_bget {key : ByteArray} (h : OwF (Tu b j t m u) w0 (x, l) W) (hk : key.size ≤ 1000000000000000) : Calls Tryz.prog 38 #[.pointer (some ⟨u, 0, none⟩), .string key] W fun e w' => e = .returned (.tuple #[.string (overV x.L l key), .bool (overB x.L l key)]) ∧ Below W.heap.size W w' := by
  obtain ⟨H, ⟨F, G, ⟨Fj, h1⟩, ⟨pm, vO, h2⟩, hd, hH⟩, _, _⟩ := h
  exact bGet_any u t m pm vO x.L l key W h2 h1.cell.2.2.2 h1.rows hk
def Xk (x : Tst) : Prop := x.L.length ≤ 100000000 ∧ ∀ z ∈ x.L, z.path.size ≤ 1000
theorem f_facts (h : OwF (Tu b j t m u) w0 (x, l) W) : Rises x.L ∧ Once l := by
  obtain ⟨H, ⟨F, G, ⟨Fj, h1⟩, ⟨pm, vO, h2⟩, hd, hH⟩, _, _⟩ := h
  exact ⟨h1.rises, h2.once⟩
theorem f_bkeys {p : ByteArray} (h : OwF (Tu b j t m u) w0 (x, l) W) (hx : Xk x) (hl : l.length ≤ 100000000) (hks : ∀ c ∈ l, c.key.size ≤ 1000) (hp : p.size ≤ 1000) : Calls Tryz.prog 20 #[.pointer (some ⟨u, 0, none⟩), .string p] W (ListTo (held (pre7 p) (all7 x.L l)) W) := by
  obtain ⟨H, ⟨F, G, ⟨Fj, h1⟩, ⟨pm, vO, h2⟩, hd, hH⟩, _, _⟩ := h
  exact bKeys_any u t m pm vO x.L l p W h2 h1.cell.2.2.2 h1.rows h1.rises hx.1 hl (fun z hz => by have := hx.2 z hz; omega) (fun c hc => by have := hks c hc; omega) (by omega)
end
end Go.Proofs.YtdkgkomjbpggeaaGreatDoor.Bl

namespace Go.Proofs
open Go.Shelf
def Tryz.itoa_ren : Go.Shelf.Ren := ⟨fun | 171 => 68 | 243 => 105 | 246 => 140 | 283 => 164 | 284 => 165 | 285 => 166 | 286 => 167 | 129 => 130 | 317 => 179 | 318 => 180 | 319 => 181 | 320 => 182 | 337 => 191 | 338 => 192 | n => n, fun | 3 => 3 | 9 => 9 | 2 => 2 | 4 => 4 | 171 => 204 | 0 => 0 | 53 => 152 | 37 => 87 | 5 => 5 | 173 => 206 | 212 => 215 | 51 => 153 | 20 => 20 | 213 => 216 | 46 => 139 | 232 => 222 | 233 => 223 | n => n, fun | 17 => 0 | 18 => 2 | 19 => 3 | n => n⟩
theorem Tryz.itoa : Go.Proofs.LaysM.n171 Tryz.prog Tryz.itoa_ren := {
  mixed := by kernel_rfl
  f129 := Tryz.func130.trans (congrArg some (by kernel_rfl))
  f171 := Tryz.func68.trans (congrArg some (by kernel_rfl))
  f243 := Tryz.func105.trans (congrArg some (by kernel_rfl))
  f246 := Tryz.func140.trans (congrArg some (by kernel_rfl))
  f283 := Tryz.func164.trans (congrArg some (by kernel_rfl))
  f284 := Tryz.func165.trans (congrArg some (by kernel_rfl))
  f285 := Tryz.func166.trans (congrArg some (by kernel_rfl))
  f286 := Tryz.func167.trans (congrArg some (by kernel_rfl))
  f317 := Tryz.func179.trans (congrArg some (by kernel_rfl))
  f318 := Tryz.func180.trans (congrArg some (by kernel_rfl))
  f319 := Tryz.func181.trans (congrArg some (by kernel_rfl))
  f320 := Tryz.func182.trans (congrArg some (by kernel_rfl))
  f337 := Tryz.func191.trans (congrArg some (by kernel_rfl))
  f338 := Tryz.func192.trans (congrArg some (by kernel_rfl))
  t0 := Tryz.underlying0
  a0 := Tryz.isAgg0
  z0 := Tryz.sizeOf0
  v0 := Tryz.zeroValue0
  t2 := Tryz.underlying2
  a2 := Tryz.isAgg2
  z2 := Tryz.sizeOf2
  v2 := Tryz.zeroValue2
  t3 := Tryz.underlying3
  a3 := Tryz.isAgg3
  z3 := Tryz.sizeOf3
  v3 := Tryz.zeroValue3
  t4 := Tryz.underlying4
  a4 := Tryz.isAgg4
  z4 := Tryz.sizeOf4
  v4 := Tryz.zeroValue4
  t5 := Tryz.underlying5
  a5 := Tryz.isAgg5
  z5 := Tryz.sizeOf5
  v5 := Tryz.zeroValue5
  t9 := Tryz.underlying9
  a9 := Tryz.isAgg9
  z9 := Tryz.sizeOf9
  v9 := Tryz.zeroValue9
  t20 := Tryz.underlying20
  a20 := Tryz.isAgg20
  z20 := Tryz.sizeOf20
  v20 := Tryz.zeroValue20
  t37 := Tryz.underlying87
  a37 := Tryz.isAgg87
  z37 := Tryz.sizeOf87
  v37 := Tryz.zeroValue87
  t46 := Tryz.underlying139
  a46 := Tryz.isAgg139
  z46 := Tryz.sizeOf139
  v46 := Tryz.zeroValue139
  t51 := Tryz.underlying153
  a51 := Tryz.isAgg153
  z51 := Tryz.sizeOf153
  v51 := Tryz.zeroValue153
  t53 := Tryz.underlying152
  a53 := Tryz.isAgg152
  z53 := Tryz.sizeOf152
  v53 := Tryz.zeroValue152
  t171 := Tryz.underlying204
  a171 := Tryz.isAgg204
  z171 := Tryz.sizeOf204
  v171 := Tryz.zeroValue204
  t173 := Tryz.underlying206
  a173 := Tryz.isAgg206
  z173 := Tryz.sizeOf206
  v173 := Tryz.zeroValue206
  t212 := Tryz.underlying215
  a212 := Tryz.isAgg215
  z212 := Tryz.sizeOf215
  v212 := Tryz.zeroValue215
  t213 := Tryz.underlying216
  a213 := Tryz.isAgg216
  z213 := Tryz.sizeOf216
  t232 := Tryz.underlying222
  a232 := Tryz.isAgg222
  z232 := Tryz.sizeOf222
  v232 := Tryz.zeroValue222
  t233 := Tryz.underlying223
  a233 := Tryz.isAgg223
  z233 := Tryz.sizeOf223
  v233 := Tryz.zeroValue223
  g17 := by kernel_rfl
  g18 := by kernel_rfl
  g19 := by kernel_rfl
  i0 := by kernel_rfl
  i2 := by kernel_rfl
  i3 := by kernel_rfl
  i4 := by kernel_rfl
  i5 := by kernel_rfl
  i9 := by kernel_rfl
  i20 := by kernel_rfl
  i37 := by kernel_rfl
  i46 := by kernel_rfl
  i51 := by kernel_rfl
  i53 := by kernel_rfl
  i171 := by kernel_rfl
  i173 := by kernel_rfl
  i212 := by kernel_rfl
  i232 := by kernel_rfl
  i233 := by kernel_rfl
  m17 := by kernel_rfl
  m18 := by kernel_rfl
  m19 := by kernel_rfl }
end Go.Proofs

namespace Go.Proofs.YtdkgkomjbpggeaaGreatDoor.Bl
open Go.RowKit Tx Pm Dk Wm Wr Wl Pl Tb
set_option linter.unusedVariables false
set_option linter.unusedSimpArgs false
set_option linter.unnecessarySimpa false
theorem over_find {L : List It} {l : List Ch} {p : ByteArray} : overB L l p = (find (all7 L l) p).isSome := by
  rw [find_all]
  unfold overB after
  cases lastOf l p with
  | none => rfl
  | some c => cases hg : c.gone <;> simp [hg]
theorem over_val {L : List It} {l : List Ch} {p : ByteArray} {x : It} (h : find (all7 L l) p = some x) : overV L l p = x.data := by
  rw [find_all] at h
  unfold overV
  unfold after at h
  cases hl : lastOf l p with
  | none =>
    rw [hl] at h
    show (lookC L p).val = _
    unfold lookC
    rw [show find L p = some x from h]
    rfl
  | some c =>
    rw [hl] at h
    cases hg : c.gone
    · simp only [hg] at h
      injection h with h
      rw [← h]
      rfl
    · simp [hg] at h
def Tab (w : World) : Prop := Lib.TabIs Tryz.prog w "internal/strconv.uint64pow10" .u64 Lib.pow10Tab
theorem Tab.below {w w1 : World} (h : Tab w) (hb : Below w.heap.size w w1) : Tab w1 := Lib.tabBelow_of_tabIs h _ hb
def hexB : ByteArray := ⟨#[48, 49, 50, 51, 52, 53, 54, 55, 56, 57, 97, 98, 99, 100, 101, 102]⟩
theorem hexAt : ∀ i : Fin 16, hexB[i.val]'(by have := i.isLt; have : hexB.size = 16 := rfl; omega) = hexd i.val := by decide +kernel
theorem grp_cat (a b : UInt8) : (⟨#[98, 47]⟩ ++ ⟨#[a, b]⟩ ++ ⟨#[47]⟩ : ByteArray) = ⟨#[98, 47, a, b, 47]⟩ := ba_ext (by rw [app_l, app_l]; rfl)
theorem conv_two (a b : UInt8) (W : World) (g : Nat) (h : W.cell? ⟨g, 0, none⟩ = some (.int .u8 (a.toNat : Int))) (h2 : W.cell? ⟨g, 1, none⟩ = some (.int .u8 (b.toNat : Int))) : (convert 87 9 (.slice (some ⟨g, 0, none⟩) 2 2)).run Tryz.prog W = .ok (.string ⟨#[a, b]⟩) W := by
  exact run_convert_bytes_back W 87 9 5 ⟨g, 0, none⟩ 2 [a, b] Tryz.underlying87 Tryz.underlying5 Tryz.underlying9 (fun j hj => by
    match j, hj with
    | 0, _ => exact h
    | 1, _ => exact h2)
set_option maxRecDepth 100000 in
set_option maxHeartbeats 1000000 in
theorem group_any (s : ByteArray) (w : World) (hs : s.size ≤ 1000000000000000000) :
    Calls Tryz.prog 109 #[.string s] w fun e w' => e = .returned (.string (grp (lowO s))) ∧ Below w.heap.size w w' := by
  have c := Fr.fSum_w s w hs
  have hl := lowO_lt s
  have hlt := Fm.fsum_lt s.data.toList
  unfold lowO at hl ⊢
  generalize Fm.fsum s.data.toList = X at c hl hlt ⊢
  obtain ⟨l, hlX⟩ : ∃ l, l = X % 256 := ⟨_, rfl⟩
  rw [← hlX] at hl ⊢
  go_enter Tryz.func109, Tryz.ntmps109
  go_wp2_with (go_at_call 108; refine c.mono ?_; rintro e w1 ⟨rfl, rfl⟩)
  have e : (X : Int) % 256 = (l : Nat) := by omega
  rw [e]
  have hi1 : 0 ≤ (l : Int) / 16 ∧ (l : Int) / 16 < 16 := by omega
  have hi2 : 0 ≤ (l : Int) % 16 ∧ (l : Int) % 16 < 16 := by omega
  have hz1 : l / 16 < hexB.size := by have : hexB.size = 16 := rfl; omega
  have hz2 : l % 16 < hexB.size := by have : hexB.size = 16 := rfl; omega
  have hc := conv_two (hexB[l / 16]'hz1) (hexB[l % 16]'hz2) (w.alloc (.cells #[.int .u8 ((hexB[l / 16]'hz1).toNat : Int), .int .u8 ((hexB[l % 16]'hz2).toNat : Int)] 5)).drew w.heap.size (by go_simp) (by go_simp)
  have HX1 := Lib.hid (hexAt ⟨l / 16, by omega⟩)
  have HX2 := Lib.hid (hexAt ⟨l % 16, by omega⟩)
  have HB := Lib.hid (fun o => ((Below.refl w.heap.size w).alloc (Nat.le_refl _) o).drew)
  unfold hexB at hc hz1 hz2
  clear e c hlX hlt
  go_region
  all_goals
    go_wp2_with fail
    go_ret
    have e1 := HX1.out
    have e2 := HX2.out
    refine ⟨?_, HB.out _⟩
    unfold grp
    rw [← e1, ← e2]
    exact congrArg (fun x => Ending.returned (.string x)) (grp_cat _ _)
theorem store2 {w1 : World} {B : Nat} {T : TypeId} {v0 v1 : Value} (h : w1.heap[B]? = some (.cells #[v0, v1] T (0, 0))) (x0 x1 : Value) :
    (w1.cell? ⟨B, 0, none⟩ = some v0 ∧ w1.frozen? ⟨B, 0, none⟩ = false) ∧ ((w1.setCell ⟨B, 0, none⟩ x0).cell? ⟨B, 1, none⟩ = some v1 ∧ (w1.setCell ⟨B, 0, none⟩ x0).frozen? ⟨B, 1, none⟩ = false) ∧
    ((w1.setCell ⟨B, 0, none⟩ x0).setCell ⟨B, 1, none⟩ x1).heap[B]? = some (.cells #[x0, x1] T (0, 0)) ∧ Chg (· = B) w1 ((w1.setCell ⟨B, 0, none⟩ x0).setCell ⟨B, 1, none⟩ x1) := by
  have h1 : (w1.setCell ⟨B, 0, none⟩ x0).heap[B]? = some (.cells #[x0, v1] T (0, 0)) := by rw [set_block h]; rfl
  have h2 : ((w1.setCell ⟨B, 0, none⟩ x0).setCell ⟨B, 1, none⟩ x1).heap[B]? = some (.cells #[x0, x1] T (0, 0)) := by rw [set_block h1]; rfl
  refine ⟨⟨?_, ?_⟩, ⟨?_, ?_⟩, h2, (chg_set (b := B) (k := 0) x0).then (chg_set (b := B) (k := 1) x1)⟩
  · unfold World.cell?; rw [h]; rfl
  · unfold World.frozen?; rw [h]; simp
  · unfold World.cell?; rw [h1]; rfl
  · unfold World.frozen?; rw [h1]; simp
theorem infoCt : (Tryz.prog.info? 126).map (·.size) = some 2 := by kernel_rfl
section
variable {w0 : World × (Nat → Prop)} {W : World} {b j t m u M : Nat} {x : Tst} {l : List Ch} {C : List On} {key : ByteArray}
def onV (h : Nat) (d : ByteArray) : Value := .agg #[.int .i64 (h : Nat), .string d]
abbrev nC : Obj := .cells #[.int .i64 0, .string ⟨#[]⟩] 126
set_option maxRecDepth 100000 in
set_option maxHeartbeats 2000000 in
theorem find_not (h : OwF (Tu b j t m u) w0 (x, l) W) (hk : key.size ≤ 500000000000000) (hf : beg pB2 key = true → find (all7 x.L l) key = none) :
    Calls Tryz.prog 75 #[.pointer (some ⟨u, 0, none⟩), .string key] W fun e w' => e = .returned (.tuple #[onV 0 ⟨#[]⟩, .bool false]) ∧ Below W.heap.size W w' := by
  have cx := fun V => hasPrefix_any key pB2 V (by omega) (by decide)
  have hB0 : Below W.heap.size W (W.alloc nC) := (Below.refl _ W).alloc (Nat.le_refl _) _
  have hnew : (W.alloc nC).heap[W.heap.size]? = some nC := heap_alloc_new _ _
  have HB := Lib.hid hB0
  cases hb : beg pB2 key
  · unfold beg at hb
    rw [hb] at cx
    unfold pB2 at cx
    have HN := Lib.hid hnew
    clear hf h hb hB0 hnew
    go_enter Tryz.func75, Tryz.ntmps75
    go_wp2_with (go_at_call 53; refine (cx _).mono ?_; rintro e w1 ⟨rfl, rfl⟩)
    (try simp only [Exit.inBlock, Exit.then])
    refine bodyPost_ret (results_cell_row_tmp rfl _ _ _ _ _ _ _ rfl HN.out Tryz.underlying126 rfl infoCt) rfl ?_
    exact ⟨rfl, HB.out⟩
  · have ho := owf_below h hB0
    have cg := f_bget (key := key) ho (by omega)
    have e1 : overB x.L l key = false := by rw [over_find, hf hb]; rfl
    rw [e1] at cg
    generalize overV x.L l key = V at cg
    unfold beg at hb
    rw [hb] at cx
    unfold pB2 at cx
    have HN := Lib.hid hnew
    clear hf h hb hB0 hnew e1 ho
    go_enter Tryz.func75, Tryz.ntmps75
    go_wp2_with (go_at_call 53; refine (cx _).mono ?_; rintro e w1 ⟨rfl, rfl⟩)
    go_at_call 38
    refine cg.mono ?_
    rintro e w2 ⟨rfl, hb2⟩
    have hn2 : w2.heap[W.heap.size]? = some nC := (hb2.block _ (by simp)).trans HN.out
    obtain ⟨⟨a0, b0⟩, ⟨a1, b1⟩, hb3, hc3⟩ := store2 hn2 (.int .i64 0) (.string ⟨#[]⟩)
    have HC := Lib.hid hc3
    have HB2 := Lib.hid hb2
    clear hc3 hb2 cg cx
    go_wp2_with fail
    (try simp only [Exit.inBlock, Exit.then])
    refine bodyPost_ret (results_cell_row_tmp rfl _ _ _ _ _ _ _ rfl hb3 Tryz.underlying126 rfl infoCt) rfl ?_
    exact ⟨rfl, below_chgB (Tx.below_call HB.out HB2.out) HC.out (Nat.le_refl _)⟩
set_option maxRecDepth 100000 in
set_option maxHeartbeats 4000000 in
theorem find_val {h : Nat} {d : ByteArray} (ho : OwF (Tu b j t m u) w0 (x, l) W) (hk : key.size ≤ 500000000000000) (hbg : beg pB2 key = true) (hf : find (all7 x.L l) key = some (rw7 key (enc h d))) (hh : h ≤ 1000000000000) (hd : d.size ≤ 140737488351232) :
    Calls Tryz.prog 75 #[.pointer (some ⟨u, 0, none⟩), .string key] W fun e w' => e = .returned (.tuple #[onV h d, .bool true]) ∧ Below W.heap.size W w' := by
  have cx := fun V => hasPrefix_any key pB2 V (by omega) (by decide)
  have hB0 : Below W.heap.size W (W.alloc nC) := (Below.refl _ W).alloc (Nat.le_refl _) _
  have hnew : (W.alloc nC).heap[W.heap.size]? = some nC := heap_alloc_new _ _
  have HB := Lib.hid hB0
  have ho1 := owf_below ho hB0
  have cg := f_bget (key := key) ho1 (by omega)
  have e1 : overB x.L l key = true := by rw [over_find, hf]; rfl
  have e2 : overV x.L l key = enc h d := over_val hf
  rw [e1, e2] at cg
  have hes := enc_size (h := h) (d := d) (by omega) (by omega)
  have hesm : (enc h d).size ≤ maxLen := by unfold maxLen; omega
  have hts := tl_size (d := d) (by omega)
  have htm : (⟨(tl d).toArray⟩ : ByteArray).size ≤ maxLen := by unfold maxLen; omega
  have H1 := Lib.hid (enc_rdU (h := h) d (by omega))
  have H2 := Lib.hid (enc_rest h d)
  have H3 := Lib.hid (enc_rdT (d := d) (by omega))
  have HES := Lib.hid hesm
  have HTM := Lib.hid htm
  generalize enc h d = E at cg H1 H2 HES
  unfold beg at hbg
  rw [hbg] at cx
  unfold pB2 at cx
  have HN := Lib.hid hnew
  clear hf ho ho1 hbg hB0 hnew e1 e2 hes hts hesm htm
  go_enter Tryz.func75, Tryz.ntmps75
  go_wp2_with (go_at_call 53; refine (cx _).mono ?_; rintro e w1 ⟨rfl, rfl⟩)
  go_at_call 38
  refine cg.mono ?_
  rintro e w2 ⟨rfl, hb2⟩
  have cn := new_any E w2
  go_wp2_with fail
  go_at_call 96
  refine cn.mono ?_
  rintro e w3 ⟨rfl, rfl⟩
  have cu := uint_any w2.heap.size E _ (rat_new w2 E) HES.out
  rw [H1.out, H2.out] at cu
  have HB2 := Lib.hid hb2
  clear cg cx cn
  go_wp2_with fail
  go_at_call 111
  refine cu.mono ?_
  rintro e w4 ⟨rfl, hR4, hg4⟩
  have ct := text_any w2.heap.size _ w4 hR4 HTM.out
  rw [H3.out] at ct
  have HG4 := Lib.hid hg4
  clear cu hg4
  go_wp2_with fail
  go_at_call 97
  refine ct.mono ?_
  rintro e w5 ⟨rfl, hR5, hg5⟩
  have hB2w : Below W.heap.size W w2 := Tx.below_call HB.out HB2.out
  have hs2 : W.heap.size < w2.heap.size := Nat.lt_of_lt_of_le (by simp) HB2.out.size
  have hB3 : Below W.heap.size W (w2.alloc (.cells #[.string E] 172)) := hB2w.alloc hB2w.size _
  have hB4 := below_chgB hB3 (chg_grown HG4.out) (by omega)
  have hB5 := below_chgB hB4 (chg_grown hg5) (by omega)
  have hne : ∀ i, i = W.heap.size → ¬ i = w2.heap.size := fun i hi => by omega
  have hn2 : w2.heap[W.heap.size]? = some nC := (HB2.out.block _ (by simp)).trans HN.out
  have hn3 : (w2.alloc (.cells #[.string E] 172)).heap[W.heap.size]? = some nC := (((Below.refl w2.heap.size w2).alloc (Nat.le_refl _) _).block _ hs2).trans hn2
  have hn4 := ((chg_grown HG4.out).block W.heap.size (by simp; omega) (by omega)).trans hn3
  have hn5 := ((chg_grown hg5).block W.heap.size (by have := HG4.out.size; simp at this; omega) (by omega)).trans hn4
  obtain ⟨⟨a0, b0⟩, ⟨a1, b1⟩, hb3, hc3⟩ := store2 hn5 (.int .i64 (h : Nat)) (.string d)
  have HC := Lib.hid hc3
  have HB5 := Lib.hid hB5
  clear ct hR4 hR5 hg5 hB2w hB3 hB4 hB5 hn2 hn3 hn4 hn5 hc3
  go_wp2_with fail
  (try simp only [Exit.inBlock, Exit.then])
  refine bodyPost_ret (results_cell_row_tmp rfl _ _ _ _ _ _ _ rfl hb3 Tryz.underlying126 rfl infoCt) rfl ?_
  exact ⟨rfl, below_chgB HB5.out HC.out (Nat.le_refl _)⟩
end
end Go.Proofs.YtdkgkomjbpggeaaGreatDoor.Bl

namespace Go.Proofs.YtdkgkomjbpggeaaGreatDoor.Bl
open Go.RowKit Tx Pm Dk Wm Wr Wl Pl Tb
set_option linter.unusedVariables false
set_option linter.unusedSimpArgs false
set_option linter.unnecessarySimpa false
section
variable {w0 : World × (Nat → Prop)} {W : World} {b j t m u M : Nat} {x : Tst} {l : List Ch} {C : List On} {key : ByteArray}
theorem two_cells {W : World} {a c : ByteArray} {T : TypeId} : ∀ (j : Nat) z, [a, c][j]? = some z → (W.alloc (.cells #[.string a, .string c] T)).cell? ⟨W.heap.size, 0 + j, none⟩ = some (.string z) := by
  intro j z hz
  rw [World.cell?_alloc_at _ _ _ _ rfl]
  match j, hz with
  | 0, hz => simpa using hz
  | 1, hz => simpa using hz
  | j + 2, hz => simp at hz
set_option maxRecDepth 100000 in
set_option maxHeartbeats 2000000 in
theorem keep_any {h : Nat} {d : ByteArray} (ho : OwF (Tu b j t m u) w0 (x, l) W) (hk : key.size ≤ 1000000000000) (hl : l.length < 1000000000) (hh : h ≤ 1000000000000) (hd : d.size ≤ 140737488351232) :
    Calls Tryz.prog 76 #[.pointer (some ⟨u, 0, none⟩), .string key, onV h d] W fun e w' => e = .returned (.tuple #[]) ∧ OwF (Tu b j t m u) w0 (x, bat l ⟨key, enc h d, false⟩) w' := by
  have hB1 : Below W.heap.size W (W.alloc (.cells #[.int .i64 (h : Nat), .string d] 126)) := (Below.refl _ W).alloc (Nat.le_refl _) _
  have cu := fun V => putUint_any (h : Nat) V (by omega) (by omega)
  have eus : us (h : Nat) = vs h := by unfold us; rw [if_neg (by omega)]; rfl
  rw [eus] at cu
  have ct := fun V => putText_any d V (by omega)
  have hes := enc_size (h := h) (d := d) (by omega) (by omega)
  have cj := fun V : World => join_any V.heap.size 0 2 [vs h, ts d] (V.alloc (.cells #[.string (vs h), .string (ts d)] 9)) two_cells (by simp) (by show 2 ≤ _; omega) (Nat.le_refl _) (by show (enc h d).size ≤ _; omega)
  have HO := Lib.hid ho
  have HB1 := Lib.hid hB1
  have hc1 : (W.alloc (.cells #[.int .i64 (h : Nat), .string d] 126)).cell? ⟨W.heap.size, 1, none⟩ = some (.string d) := by go_simp
  have hs1 : W.heap.size < (W.alloc (.cells #[.int .i64 (h : Nat), .string d] 126)).heap.size := by simp
  have HC1 := Lib.hid hc1
  have HS1 := Lib.hid hs1
  clear ho hes eus hB1 hc1 hs1
  unfold onV
  go_enter Tryz.func76, Tryz.ntmps76
  go_wp2_with fail
  go_at_call 72
  refine (cu _).mono ?_
  rintro e w2 ⟨rfl, hb2⟩
  have hc2 := (hb2.cell (p := ⟨W.heap.size, 1, none⟩) HS1.out).trans HC1.out
  have hl2 : W.heap.size < w2.heap.size := Nat.lt_of_lt_of_le HS1.out hb2.size
  have HB2 := Lib.hid (Tx.below_call HB1.out hb2)
  clear hb2 cu
  go_wp2_with fail
  go_at_call 70
  refine (ct _).mono ?_
  rintro e w3 ⟨rfl, hb3⟩
  have HB3 := Lib.hid (Tx.below_call HB2.out hb3)
  have cj3 := cj w3
  clear hb3 ct cj hc2
  go_wp2_with fail
  go_at_call 69
  refine cj3.mono ?_
  rintro e w4 ⟨rfl, hb4⟩
  have hB4 : Below W.heap.size W w4 := Tx.below_call (HB3.out.alloc HB3.out.size _) hb4
  have cp := f_put (key := key) (val := enc h d) (owf_below HO.out hB4) hk hl
  clear cj3 hb4 hB4
  go_wp2_with fail
  go_at_call 32
  refine cp.mono ?_
  rintro e w5 ⟨rfl, ho5⟩
  go_wp2_with fail
  go_end0
  exact ⟨rfl, ho5⟩
theorem grow_below {w : World} (k : Nat) (os : Array Obj) : Below w.heap.size w (Sort.grow (w.drewN k) os) := Lib.below_grow w.heap.size w (Nat.le_refl _) k os
theorem itoa_any (n : Nat) (w : World) (hn : n ≤ 1000000000) (ht : Tab w) : Calls Tryz.prog 68 #[.int .i64 n] w fun e w' => e = .returned (.string (decB n)) ∧ Below w.heap.size w w' := by
  refine (Any.strconv_Itoa Tryz.itoa (n : Int) (by omega) (by omega) w ht).mono ?_
  rintro e w' ⟨rfl, k, os, rfl⟩
  have e1 : Lib.itoa (n : Int) = Lib.decDigits n := by unfold Lib.itoa; rw [if_neg (by omega)]; rfl
  rw [e1]
  exact ⟨rfl, grow_below k os⟩
set_option maxRecDepth 100000 in
set_option maxHeartbeats 2000000 in
theorem free_any {low : Nat} (ho : OwF (Tu b j t m u) w0 (x, l) W) (hR : Rep (all7 x.L l) C) (hg : Good8 C M) (hM : M ≤ 100000000) (hlow : low < 256) (ht : Tab W) :
    Calls Tryz.prog 110 #[.pointer (some ⟨u, 0, none⟩), .string (grp low)] W fun e w' => e = .returned (.string (keyN low (freeN C low))) ∧ Below W.heap.size W w' := by
  have HO := Lib.hid ho
  have HT := Lib.hid ht
  have HF := Lib.hid (show ∀ n, (find (all7 x.L l) (keyN low n)).isSome = takenB C low n from fun n => by
    rw [taken_at, hR.look _ (beg_key low n)]
    cases at8 C (keyN low n) <;> rfl)
  have HN := Lib.hid (free_not hg hlow)
  have hfl := free_lt hg hlow
  have hlen := hg.len
  obtain ⟨N, hN⟩ : ∃ N, N = freeN C low := ⟨_, rfl⟩
  have HFN := Lib.hid hN
  rw [← hN] at hfl
  have hNb : N ≤ 100000000 := by omega
  have hsz : (grp low).size = 5 := rfl
  clear ho hR hg ht hfl hlen hN
  go_enter Tryz.func110, Tryz.ntmps110
  go_wp2_with fail
  go_loopw [5] (fun v wr => ∃ n : Nat, n ≤ N ∧ v = .int .i64 n ∧ Below W.heap.size W wr) (fun v _ => N + 1 - (intOf v).toNat)
  case atStart => exact ⟨0, Nat.zero_le _, rfl, Below.refl _ _⟩
  case round =>
    obtain ⟨n, hn, rfl, hB⟩ := hrel
    have ci := itoa_any n wr (by omega) (HT.out.below hB)
    have hdn := decB_size (n := n) (by omega)
    have hsum : (grp low).size + (decB n).size ≤ 9223372036854775807 := by omega
    go_wp2_with fail
    go_at_call 68
    refine ci.mono ?_
    rintro e w1 ⟨rfl, hb1⟩
    have hB1 := Tx.below_call hB hb1
    have hks := keyN_size low (n := n) (by omega)
    have cg := f_bget (key := keyN low n) (owf_below HO.out hB1) (by omega)
    rw [over_find, HF.out n] at cg
    generalize overV x.L l (keyN low n) = V at cg
    clear ci hb1 hdn hB
    cases htk : takenB C low n with
    | false =>
      rw [htk] at cg
      have hnN : n = N := by
        rcases Nat.lt_or_ge n N with hh | hh
        · rw [HFN.out] at hh
          rw [free_below hh] at htk
          cases htk
        · omega
      have HE := Lib.hid (show keyN low n = keyN low (freeN C low) by rw [hnN, HFN.out])
      clear htk hnN
      go_wp2_with fail
      go_at_call 38
      refine cg.mono ?_
      rintro e w2 ⟨rfl, hb2⟩
      go_wp2_with fail
      go_ret
      rw [← HE.out]
      exact ⟨rfl, Tx.below_call hB1 hb2⟩
    | true =>
      rw [htk] at cg
      have hnN : n < N := by
        rcases Nat.lt_or_ge n N with hh | hh
        · exact hh
        · have e1 : n = freeN C low := by rw [← HFN.out]; omega
          rw [e1, HN.out] at htk
          cases htk
      clear htk
      go_wp2_with fail
      go_at_call 38
      refine cg.mono ?_
      rintro e w2 ⟨rfl, hb2⟩
      have hB2 := Tx.below_call hB1 hb2
      clear hB1 hb2
      go_wp2_with fail
      go_roundw
      case rel => exact ⟨n + 1, by omega, by go_num, hB2⟩
      case measure => simp [intOf]; omega
end
end Go.Proofs.YtdkgkomjbpggeaaGreatDoor.Bl

namespace Go.Proofs.YtdkgkomjbpggeaaGreatDoor.Bl
open Go.RowKit Tx Pm Dk Wm Wr Wl Pl Tb
set_option linter.unusedVariables false
set_option linter.unusedSimpArgs false
set_option linter.unnecessarySimpa false
def Bo (b j t m u : Nat) (x : Tst) (Z : List It) (w0 : World × (Nat → Prop)) (C : List On) (M N V : Nat) (W : World) : Prop :=
  ∃ l, OwF (Tu b j t m u) w0 (x, l) W ∧ Rep (all7 x.L l) C ∧ Good8 C M ∧ (∀ p, beg pB2 p = false → find (all7 x.L l) p = find Z p) ∧ l.length ≤ N ∧ (∀ c ∈ l, c.key.size ≤ 1000) ∧ wt l ≤ V
section
variable {w0 : World × (Nat → Prop)} {W : World} {b j t m u M N V : Nat} {x : Tst} {l : List Ch} {C : List On} {Z : List It} {key : ByteArray}
def TabZ (w0 : World × (Nat → Prop)) : Prop := ∀ V, Chg w0.2 w0.1 V → Tab V
theorem Bo.good (h : Bo b j t m u x Z w0 C M N V W) : Good8 C M := by
  obtain ⟨l, _, _, h1, _⟩ := h
  exact h1
theorem Bo.below {W1 : World} (h : Bo b j t m u x Z w0 C M N V W) (hb : Below W.heap.size W W1) : Bo b j t m u x Z w0 C M N V W1 := by
  obtain ⟨l, h1, h2⟩ := h
  exact ⟨l, owf_below h1 hb, h2⟩
theorem keyO_beg (y : On) : beg pB2 (keyO y) = true := beg_key _ _
theorem keyO_size (h : Good8 C M) (hM : M ≤ 100000000) {y : On} (hy : y ∈ C) : (keyO y).size ≤ 14 := keyN_size _ (by have := (h.each y hy).2.2.2.1; omega)
theorem bo_find (h : Bo b j t m u x Z w0 C M N V W) (hM : M ≤ 100000000) (hk : key.size ≤ 500000000000000) :
    Calls Tryz.prog 75 #[.pointer (some ⟨u, 0, none⟩), .string key] W fun e w' => e = .returned (match at8 C key with | some y => .tuple #[onV y.refs y.data, .bool true] | none => .tuple #[onV 0 ⟨#[]⟩, .bool false]) ∧ Below W.heap.size W w' := by
  obtain ⟨l, h1, h2, h3, h4, h5⟩ := h
  cases ha : at8 C key with
  | none => exact find_not h1 hk (fun hb => by rw [h2.look _ hb, ha]; rfl)
  | some y =>
    obtain ⟨hy, rfl⟩ := at8_some ha
    obtain ⟨_, _, e3, _, e5⟩ := h3.each y hy
    exact find_val h1 hk (keyO_beg y) (rep_mem h2 h3 hy) (by omega) e5
set_option maxRecDepth 100000 in
set_option maxHeartbeats 1000000 in
theorem get_any (h : Bo b j t m u x Z w0 C M N V W) (hM : M ≤ 100000000) (hk : key.size ≤ 500000000000000) :
    Calls Tryz.prog 144 #[.pointer (some ⟨u, 0, none⟩), .string key] W fun e w' => e = .returned (match at8 C key with | some y => .tuple #[.string y.data, .int .i64 0] | none => .tuple #[.string ⟨#[]⟩, .int .i64 11]) ∧ Below W.heap.size W w' := by
  have cf := bo_find h hM hk
  clear h
  generalize at8 C key = oy at cf ⊢
  cases oy with
  | none =>
    simp only at cf ⊢
    unfold onV at cf
    go_enter Tryz.func144, Tryz.ntmps144
    go_wp2_with fail
    go_at_call 75
    refine cf.mono ?_
    rintro e w1 ⟨rfl, hb1⟩
    have HB := Lib.hid hb1
    clear hb1 cf
    go_wp2_with fail
    go_ret2
    exact ⟨rfl, HB.out.alloc HB.out.size _⟩
  | some y =>
    simp only at cf ⊢
    unfold onV at cf
    go_enter Tryz.func144, Tryz.ntmps144
    go_wp2_with fail
    go_at_call 75
    refine cf.mono ?_
    rintro e w1 ⟨rfl, hb1⟩
    have HB := Lib.hid hb1
    clear hb1 cf
    go_wp2_with fail
    go_ret2
    exact ⟨rfl, HB.out.alloc HB.out.size _⟩
end
end Go.Proofs.YtdkgkomjbpggeaaGreatDoor.Bl

namespace Go.Proofs.YtdkgkomjbpggeaaGreatDoor.Bl
open Go.RowKit Tx Pm Dk Wm Wr Wl Pl Tb
set_option linter.unusedVariables false
set_option linter.unusedSimpArgs false
set_option linter.unnecessarySimpa false
section
variable {w0 : World × (Nat → Prop)} {W : World} {b j t m u M N V : Nat} {x : Tst} {l : List Ch} {C : List On} {Z : List It} {key : ByteArray}
def relE (r : Bool) : Int := if r then 0 else 11
end
def x0 : Tst := ⟨⟨s0T, [], false⟩, []⟩
theorem tu_lt {b j t m u : Nat} {w : World} {F : Nat → Prop} {y : Tst × List Ch} (h : Tu b j t m u w F y) : ∀ i, F i → i < w.heap.size := by
  obtain ⟨F1, G, ⟨Fj, h1⟩, ⟨pm, vO, h2⟩, hd, hH⟩ := h
  exact fun i hi => ((hH i).1 hi).elim (h1.lt i) (h2.lt i)
def Bw (b j t m u : Nat) (x : Tst) (Z : List It) (w : World) (C : List On) (M N V : Nat) (v : Value) (n : Nat) (xs : List ByteArray) (W : World) : Prop :=
  ∃ F : Nat → Prop, Bo b j t m u x Z (W, F) C M N V W ∧ (∀ i, F i → w.heap.size ≤ i) ∧ (∀ i, F i → i < W.heap.size) ∧ Below w.heap.size w W ∧ W.ownsRow w.heap.size 9 1 v n (xs.map sv) ∧ ∀ g, v.ownBlock = some g → ¬ F g
section
variable {w W : World} {b j t m u M N V M' N' V' n : Nat} {x : Tst} {C C' : List On} {Z : List It} {v : Value} {xs : List ByteArray}
theorem Bw.below {W' : World} (h : Bw b j t m u x Z w C M N V v n xs W) (hb : Below W.heap.size W W') : Bw b j t m u x Z w C M N V v n xs W' := by
  obtain ⟨F, h1, h2, h3, h4, h5, h6⟩ := h
  obtain ⟨l, ⟨F1, g1, g2, g3⟩, hh⟩ := h1
  refine ⟨F1, ⟨l, ⟨F1, tb_below g1 hb, Chg.refl F1 W', fun g hg => .inl hg⟩, hh⟩, fun i hi => (g3 i hi).elim (h2 i) (fun hh => Nat.le_trans h4.size hh), fun i hi => Nat.lt_of_lt_of_le (tu_lt g1 i hi) hb.size, Tx.below_call h4 hb, own_belowT h5 hb, fun g hg hF => ?_⟩
  rcases g3 g hF with hh | hh
  · exact h6 g hg hh
  · have := (h5.lt g hg).2
    have hh : W.heap.size ≤ g := hh
    omega
theorem Bw.app {W1 W' : World} {v' : Value} {y : ByteArray} (h : Bw b j t m u x Z w C M N V v n xs W) (hb : Below W.heap.size W W1) (ho : W'.ownsRow w.heap.size 9 1 v' (n + 1) ((xs ++ [y]).map sv))
    (hg : (v'.ownBlock = v.ownBlock ∧ W1.grownBy W' v.ownBlock) ∨ (v'.ownBlock = some W1.heap.size ∧ W1.grownBy W' none)) : Bw b j t m u x Z w C M N V v' (n + 1) (xs ++ [y]) W' := by
  obtain ⟨F, h1, h2, h3, h4, h5, h6⟩ := h.below hb
  obtain ⟨l, ⟨F1, g1, g2, g3⟩, hh⟩ := h1
  have hF1 : ∀ i, F1 i → i < W1.heap.size := tu_lt g1
  have hsub : ∀ i, F1 i → F i := fun i hi => (g3 i hi).elim id (fun hh => by have := hF1 i hi; have hh : W1.heap.size ≤ i := hh; omega)
  have hkeep : ∀ i, F1 i → W'.heap[i]? = W1.heap[i]? := fun i hi => by
    rcases hg with ⟨_, g⟩ | ⟨_, g⟩
    · exact g.block i (hF1 i hi) (fun e => h6 i e.symm (hsub i hi))
    · exact g.block i (hF1 i hi) (by simp)
  have hsz : W1.heap.size ≤ W'.heap.size := by
    rcases hg with ⟨_, g⟩ | ⟨_, g⟩
    · exact g.size
    · exact g.size
  have hbel : Below w.heap.size w W' := by
    rcases hg with ⟨_, g⟩ | ⟨_, g⟩
    · exact h4.grown g h4.size (fun k hk => (h5.lt k hk).1)
    · exact h4.grown g h4.size (fun k hk => by cases hk)
  have hT : Tu b j t m u W' F1 (x, l) := by
    obtain ⟨Fa, G, ⟨Fj, a1⟩, ⟨pm, vO, a2⟩, hd, hH⟩ := g1
    exact ⟨Fa, G, ⟨Fj, a1.kept (fun i hi => hkeep i ((hH i).2 (.inl hi)))⟩, ⟨pm, vO, a2.kept (fun i hi => hkeep i ((hH i).2 (.inr hi)))⟩, hd, hH⟩
  refine ⟨F1, ⟨l, ⟨F1, hT, Chg.refl F1 W', fun g hg => .inl hg⟩, hh⟩, fun i hi => h2 i (hsub i hi), fun i hi => Nat.lt_of_lt_of_le (hF1 i hi) hsz, hbel, ho, fun g hg2 hF => ?_⟩
  rcases hg with ⟨e, _⟩ | ⟨e, _⟩
  · rw [e] at hg2
    exact h6 g hg2 (hsub g hF)
  · rw [e] at hg2
    injection hg2 with hg2
    have := hF1 g hF
    omega
end
end Go.Proofs.YtdkgkomjbpggeaaGreatDoor.Bl

namespace Go.Proofs.YtdkgkomjbpggeaaGreatDoor.Bl
open Go.RowKit Tx Pm Dk Wm Wr Wl Pl Tb
set_option linter.unusedVariables false
set_option linter.unusedSimpArgs false
set_option linter.unnecessarySimpa false
section
variable {w0 : World × (Nat → Prop)} {W : World} {b j t m u M N V : Nat} {x : Tst} {C : List On} {Z : List It} {d : ByteArray}
end
end Go.Proofs.YtdkgkomjbpggeaaGreatDoor.Bl

namespace Go.Proofs.YtdkgkomjbpggeaaGreatDoor.Dk
open Go.ChangeShapes Go.WideShapes Go.ChangeAt Go.RowKit Tx
set_option linter.unusedVariables false
end Go.Proofs.YtdkgkomjbpggeaaGreatDoor.Dk

namespace Go.Proofs.YtdkgkomjbpggeaaGreatDoor.Bl
open Go.ChangeMaps (open_string shut_string)
open Go.ChangeShapes Go.WideShapes Go.ChangeAt Go.RowKit Tx Pm Dk Wm Wr Wl Pl Tb
set_option linter.unusedVariables false
set_option linter.unusedSimpArgs false
set_option linter.unnecessarySimpa false
theorem gTab : Tryz.prog.globalNamed "internal/strconv.uint64pow10" = some 0 := by kernel_rfl
theorem gTabT : (Tryz.prog.globals[0]?).map (·.type) = some 215 := by kernel_rfl
theorem tab_laid {W : World} (h : laidMetH Tryz.prog [("math/bits.deBruijn32tab", Rows.laid_math_bits_deBruijn32tab), ("math/bits.deBruijn64tab", Rows.laid_math_bits_deBruijn64tab), ("internal/strconv.uint64pow10", Rows.laid_internal_strconv_uint64pow10)] W) : Tab W := by
  rw [MakeChecks.laidMetH_plain _ _ _ (by kernel_rfl)] at h
  obtain ⟨g, t, cs, fuel, p, h1, h2, h3, h4⟩ := Lib.laidMet.reads h (n := "internal/strconv.uint64pow10") (d := Rows.laid_internal_strconv_uint64pow10) (List.mem_cons_of_mem _ (List.mem_cons_of_mem _ (List.mem_cons_self ..)))
  obtain rfl := Option.some.inj (gTab.symm.trans h1)
  obtain rfl := Option.some.inj (gTabT.symm.trans h2)
  have e := Lib.cells_of_tab (k := .u64) (zs := Lib.pow10Tab) (n := 20) Tryz.underlying215 Tryz.underlying152 (by kernel_rfl) (by kernel_rfl) h4
  unfold Tab Lib.TabIs
  rw [h3, ← e]
theorem Strs.at1 {W : World} {b o n : Nat} {l : List ByteArray} (h : Strs W (some ⟨b, o, none⟩) n l) {k : Nat} {x : ByteArray} (hx : l[k]? = some x) : W.cell? ⟨b, o + k, none⟩ = some (.string x) := by
  have hk := (List.getElem?_eq_some_iff.1 hx).1
  rcases h.2 with h0 | ⟨b', o', e, _, hc⟩
  · rw [h.1] at hk; omega
  · injection e with e
    injection e with e1 e2
    subst e1 e2
    exact hc k x hx
theorem Strs.at2 {W : World} {a : Option Addr} {n : Nat} {l : List ByteArray} (h : Strs W a n l) {k : Nat} {x : ByteArray} (hx : l[k]? = some x) (hk : k < n) : ∃ b o, a = some ⟨b, o, none⟩ ∧ b < W.heap.size ∧ W.cell? ⟨b, o + k, none⟩ = some (.string x) := by
  rcases h.2 with h0 | ⟨b, o, e, hb, hc⟩
  · omega
  · exact ⟨b, o, e, hb, hc k x hx⟩
section
variable {w W : World} {b j t m u M N V n : Nat} {x : Tst} {C : List On} {Z : List It} {v : Value} {xs : List ByteArray} {w0 : World × (Nat → Prop)}
theorem Bw.row (h : Bw b j t m u x Z w C M N V v n xs W) : W.ownsRow w.heap.size 9 1 v n (xs.map sv) := by
  obtain ⟨F, _, _, _, _, h5, _⟩ := h
  exact h5
theorem strs_row {W : World} {B n : Nat} {a : Option Addr} {c : Nat} {xs : List ByteArray} (h : W.ownsRow B 9 1 (.slice a n c) n (xs.map sv)) : Strs W a n xs := by
  have hl : xs.length = n := by
    have := h.1
    simpa using this
  have hT : Texts W B (.slice a n c) xs := own_toT h hl
  obtain ⟨a', c', e, hs, _⟩ := hT.form
  rw [hl] at e hs
  injection e with e1 _ e2
  subst e1
  exact hs
theorem keys_perm {R : List It} (hR : Rep R C) (hg : Good8 C M) : (held (pre7 pB2) R).Perm (C.map keyO) := by
  refine (List.perm_ext_iff_of_nodup (nodup_held hR.rises _) (List.pairwise_map.2 hg.keys)).2 (fun a => ?_)
  rw [mem_held hR.rises, List.mem_map]
  constructor
  · rintro ⟨h1, h2⟩
    obtain ⟨y, hy, e, _⟩ := rep_key hR h2 h1
    exact ⟨y, hy, e⟩
  · rintro ⟨y, hy, rfl⟩
    exact ⟨by rw [rep_mem hR hg hy]; rfl, keyO_beg y⟩
end
section
variable {w W : World} {b j t m u M N V n : Nat} {x y : Tst} {C : List On} {Z : List It}
end
end Go.Proofs.YtdkgkomjbpggeaaGreatDoor.Bl

namespace Go.Proofs.YtdkgkomjbpggeaaGreatDoor.Bl
open Go.RowKit Tx Pm Dk Wm Wr Wl Pl Tb
set_option linter.unusedVariables false
set_option linter.unusedSimpArgs false
set_option linter.unnecessarySimpa false
def inL (l : List ByteArray) (s : ByteArray) : Bool := l.any (fun x => decide (x = s))
theorem inL_iff {l : List ByteArray} {s : ByteArray} : inL l s = true ↔ s ∈ l := by
  unfold inL
  rw [List.any_eq_true]
  constructor
  · rintro ⟨x, hx, e⟩
    rw [decide_eq_true_iff] at e
    exact e ▸ hx
  · intro h
    exact ⟨s, h, by simp⟩
theorem inL_snoc (l : List ByteArray) (y s : ByteArray) : inL (l ++ [y]) s = (inL l s || decide (y = s)) := by
  unfold inL
  rw [List.any_append]
  simp
end Go.Proofs.YtdkgkomjbpggeaaGreatDoor.Bl

namespace Go.Proofs.YtdkgkomjbpggeaaGreatDoor.Bl
open Go.RowKit Tx Pm Dk Wm Wr Wl Pl Tb
set_option linter.unusedVariables false
set_option linter.unusedSimpArgs false
set_option linter.unnecessarySimpa false
def ReadsT (D : DataW Unit) (l : List ByteArray) : Prop := ∀ p z, D.atKey (kL p) z = if cnt l p = 0 then z else .lit (.int .i64 (cnt l p : Nat))
def Tc (w : World) (tm : Nat) (l : List ByteArray) : Prop := ∃ D : DataW Unit, w.ownsMap Tryz.prog 9 (plainElem Tryz.prog 3) tm l.length D ∧ ReadsT D l ∧ Go.Maps.size D ≤ l.length
theorem Tc.lt {w : World} {tm : Nat} {l : List ByteArray} (h : Tc w tm l) : tm < w.heap.size := by
  obtain ⟨D, h, _⟩ := h
  exact h.lt
theorem Tc.kept {w w1 : World} {tm : Nat} {l : List ByteArray} (h : Tc w tm l) (he : w1.heap[tm]? = w.heap[tm]?) : Tc w1 tm l := by
  obtain ⟨D, h, r⟩ := h
  exact ⟨D, Dk.ownsMap_at h he, r⟩
theorem Tc.look {w : World} {tm : Nat} {l : List ByteArray} (h : Tc w tm l) {p : ByteArray} (hp : p.size ≤ maxLen) :
    (Instr.lookup 60 (.map (some tm)) (.string p) false).run Tryz.prog w = .ok (.int .i64 (cnt l p : Nat)) w := by
  obtain ⟨D, ho, hr, _⟩ := h
  obtain ⟨u, ps, hrun, hv⟩ := ho.lookup strK Tryz.underlying60 (zeroN w) (plainElem_int Tryz.underlying3 (by decide)) (keyP hp)
  rw [hrun]
  obtain ⟨c, rfl, hc, hwc⟩ := plainElem_int_inv Tryz.underlying3 hv
  have hc := congrArg Prod.fst hc
  simp only [hr p] at hc
  by_cases hz : cnt l p = 0
  · rw [if_pos hz] at hc
    cases hc
    rw [hz]
    rfl
  · rw [if_neg hz] at hc
    cases hc
    rfl
theorem Tc.store {w : World} {tm : Nat} {l : List ByteArray} (h : Tc w tm l) {p : ByteArray} (hp : p.size ≤ maxLen) (hn : l.length < 1000000000000) :
    ∃ w', (Instr.mapUpdate 60 (.map (some tm)) (.string p) (.int .i64 ((cnt l p : Nat) + 1))).run Tryz.prog w = .ok () w' ∧ Tc w' tm (l ++ [p]) ∧ w.mapTurned w' tm := by
  obtain ⟨D, ho, hr, hs⟩ := h
  have hcl : cnt l p ≤ l.length := List.countP_le_length
  have hw : (Lit.int .i64 ((cnt l p : Nat) + 1)).wf = true := by simp [Lit.wf, IntKind.min, IntKind.max, IntKind.signed, IntKind.bits]; omega
  obtain ⟨w', hrun, ho', ht⟩ := ho.store strK Tryz.underlying60 (by unfold maxLen; omega) (keyP hp) (plainElem_int Tryz.underlying3 hw)
  have hsz : Go.Maps.size (D.put (kL p) (.lit (.int .i64 ((cnt l p : Nat) + 1)))) ≤ (l ++ [p]).length := by
    have h1 := Go.Maps.size_put (ho.tidy strK) (k := kL p) (.lit (.int .i64 ((cnt l p : Nat) + 1)))
    rw [h1, List.length_append]
    show _ ≤ l.length + 1
    split <;> omega
  refine ⟨w', hrun, ⟨_, own_len ho' hsz, fun q z => ?_, hsz⟩, ht⟩
  rw [cnt_snoc]
  by_cases he : p = q
  · subst he
    rw [if_pos rfl, if_neg (by omega), Go.Maps.atKey_put_same ho.isMap (kL_key _)]
    rfl
  · rw [if_neg he, Go.Maps.atKey_put_other (fun e => he (kL_inj e).symm)]
    exact hr q z
theorem tc_made (w : World) : Tc (w.alloc (.map #[] 0)) w.heap.size [] := ⟨_, World.ownsMap_made w _ _ _, fun p z => rfl, Nat.le_refl _⟩
def one8 (C : List On) (held : List ByteArray) (p : ByteArray) : List On := if cnt held p = 0 then delR C p else setR C p (cnt held p)
def many8 (C : List On) (held : List ByteArray) (K : List ByteArray) : List On := K.foldl (fun C p => one8 C held p) C
theorem many8_snoc (C : List On) (held K : List ByteArray) (p : ByteArray) : many8 C held (K ++ [p]) = one8 (many8 C held K) held p := by unfold many8; rw [List.foldl_append]; rfl
def swC (C : List On) (held : List ByteArray) : List On := C.filterMap (fun y => if cnt held (keyO y) = 0 then none else some { y with refs := cnt held (keyO y) })
def goneN (held K : List ByteArray) : Nat := K.countP (fun p => decide (cnt held p = 0))
theorem one8_id {C : List On} {M : Nat} (hg : Good8 C M) {y : On} (hy : y ∈ C) : setR C (keyO y) y.refs = C := by
  unfold setR
  refine (List.map_congr_left (fun z hz => ?_)).trans (List.map_id C)
  by_cases he : keyO z = keyO y
  · rw [if_pos he]
    have e1 := hg.at hy
    rw [← he, hg.at hz] at e1
    injection e1 with e1
    rw [e1]
    rfl
  · rw [if_neg he]
    rfl
theorem fm_congr {α β : Type} {f g : α → Option β} : ∀ {l : List α}, (∀ x ∈ l, f x = g x) → l.filterMap f = l.filterMap g
  | [], _ => rfl
  | x :: l, h => by
    rw [List.filterMap_cons, List.filterMap_cons, h x (List.mem_cons_self ..), fm_congr (l := l) (fun y hy => h y (List.mem_cons_of_mem _ hy))]
theorem many8_is (held : List ByteArray) : ∀ (K : List ByteArray) (C : List On), many8 C held K = C.filterMap (fun y => if inL K (keyO y) = true then (if cnt held (keyO y) = 0 then none else some { y with refs := cnt held (keyO y) }) else some y) := by
  intro K
  refine snoc7 (P := fun K => ∀ C, many8 C held K = C.filterMap (fun y => if inL K (keyO y) = true then (if cnt held (keyO y) = 0 then none else some { y with refs := cnt held (keyO y) }) else some y)) (fun C => ?_) (fun K p ih C => ?_) K
  · show C = _
    simp [inL]
  · rw [many8_snoc, ih C]
    unfold one8
    have hin : ∀ y : On, inL (K ++ [p]) (keyO y) = (inL K (keyO y) || decide (p = keyO y)) := fun y => inL_snoc K p (keyO y)
    by_cases h0 : cnt held p = 0
    · rw [if_pos h0]
      unfold delR
      rw [List.filter_filterMap]
      refine fm_congr (fun y hy => ?_)
      have hk2 : keyO { y with refs := cnt held (keyO y) } = keyO y := rfl
      rw [hin]
      by_cases he : p = keyO y
      · subst he
        by_cases hK : inL K (keyO y) = true
        · simp [hK, h0]
        · simp [hK, h0, Option.filter]
      · have he2 : ¬ keyO y = p := fun e => he e.symm
        by_cases hK : inL K (keyO y) = true
        · by_cases hc : cnt held (keyO y) = 0
          · simp [hK, hc]
          · simp [hK, hc, he, he2, hk2, Option.filter]
        · simp [hK, he, he2, Option.filter]
    · rw [if_neg h0]
      unfold setR
      rw [List.map_filterMap]
      refine fm_congr (fun y hy => ?_)
      have hk2 : keyO { y with refs := cnt held (keyO y) } = keyO y := rfl
      rw [hin]
      by_cases he : p = keyO y
      · subst he
        by_cases hK : inL K (keyO y) = true
        · rw [if_pos hK, if_neg h0, if_pos (by rw [hK]; rfl)]
          show some (if keyO { y with refs := cnt held (keyO y) } = keyO y then _ else _) = _
          rw [if_pos hk2]
        · rw [if_neg hK, if_pos (by simp), if_neg h0]
          show some (if keyO y = keyO y then _ else _) = _
          rw [if_pos rfl]
      · have he2 : ¬ keyO y = p := fun e => he e.symm
        have hd : (inL K (keyO y) || decide (p = keyO y)) = inL K (keyO y) := by simp [he]
        rw [hd]
        by_cases hK : inL K (keyO y) = true
        · rw [if_pos hK]
          by_cases hc : cnt held (keyO y) = 0
          · rw [if_pos hc]; rfl
          · rw [if_neg hc]
            show some (if keyO { y with refs := cnt held (keyO y) } = p then _ else _) = _
            rw [if_neg (fun e => he2 (hk2.symm.trans e))]
        · rw [if_neg hK]
          show some (if keyO y = p then _ else y) = _
          rw [if_neg he2]
theorem many8_all {C : List On} {held K : List ByteArray} (h : ∀ y ∈ C, keyO y ∈ K) : many8 C held K = swC C held := by
  rw [many8_is]
  unfold swC
  exact fm_congr (fun y hy => by rw [if_pos (inL_iff.2 (h y hy))])
section
variable {w0 : World × (Nat → Prop)} {W : World} {b j t m u M N V : Nat} {x : Tst} {C : List On} {Z : List It} {key : ByteArray}
theorem bkeys_list (h : Bo b j t m u x Z w0 C M N V W) (hx : Xk x) (hN : N ≤ 100000000) : ∃ K : List ByteArray, K.Perm (C.map keyO) ∧ Calls Tryz.prog 20 #[.pointer (some ⟨u, 0, none⟩), .string ⟨#[98, 47]⟩] W (ListTo K W) := by
  obtain ⟨l, h1, h2, h3, h4, h5, h6, h7⟩ := h
  exact ⟨_, keys_perm h2 h3, f_bkeys (p := pB2) h1 hx (by omega) h6 (by decide)⟩
end
theorem gone_is {C : List On} {held K : List ByteArray} (h : K.Perm (C.map keyO)) : goneN held K + (swC C held).length = C.length := by
  unfold goneN swC
  rw [h.countP_eq, List.countP_map, List.length_filterMap_eq_countP]
  have e : ∀ y : On, (if cnt held (keyO y) = 0 then none else some { y with refs := cnt held (keyO y) } : Option On).isSome = !(((fun p => decide (cnt held p = 0)) ∘ keyO) y) := fun y => by
    by_cases hc : cnt held (keyO y) = 0 <;> simp [hc]
  simp only [e]
  rw [List.length_eq_countP_add_countP ((fun p => decide (cnt held p = 0)) ∘ keyO) (l := C)]
  congr 1
  exact List.countP_congr (fun a _ => by simp)
theorem many8_keep {C : List On} {held K : List ByteArray} {y : On} (hy : y ∈ C) (hK : inL K (keyO y) = false) : y ∈ many8 C held K := by
  rw [many8_is]
  exact List.mem_filterMap.2 ⟨y, hy, by rw [hK]; rfl⟩
theorem bo_find_mem {w0 : World × (Nat → Prop)} {W : World} {b j t m u M N V : Nat} {x : Tst} {C : List On} {Z : List It} {y : On} (h : Bo b j t m u x Z w0 C M N V W) (hM : M ≤ 100000000) (hy : y ∈ C) :
    Calls Tryz.prog 75 #[.pointer (some ⟨u, 0, none⟩), .string (keyO y)] W fun e w' => e = .returned (.tuple #[onV y.refs y.data, .bool true]) ∧ Below W.heap.size W w' := by
  have c := bo_find (key := keyO y) h hM (by have := keyO_size h.good hM hy; omega)
  rw [h.good.at hy] at c
  exact c
end Go.Proofs.YtdkgkomjbpggeaaGreatDoor.Bl

namespace Go.Proofs.YtdkgkomjbpggeaaGreatDoor.Az
open Go.RowKit Tx Pm Dk Wm Wr Wl Pl Tb Bl
set_option linter.unusedVariables false
set_option linter.unusedSimpArgs false
set_option linter.unnecessarySimpa false
def keyA (i : Nat) : ByteArray := ⟨#[97, 47]⟩ ++ decB i
theorem keyA_not (i : Nat) : beg pB2 (keyA i) = false := by
  cases h : beg pB2 (keyA i) with
  | false => rfl
  | true =>
    obtain ⟨r, hr⟩ := (beg_iff _ _).1 h
    have e : (keyA i).data.toList = 97 :: 47 :: Lib.decDigits i := by
      unfold keyA
      rw [app_l]
      rfl
    rw [e] at hr
    have h2 : (97 : UInt8) = 98 := (List.cons.inj hr).1
    exact absurd h2 (by decide)
theorem keyA_inj {i j : Nat} (h : keyA i = keyA j) : i = j := by
  have h1 := congrArg (·.data.toList) h
  unfold keyA at h1
  simp only [app_l] at h1
  exact dec_inj (List.append_cancel_left h1)
theorem keyA_size {i : Nat} (h : i ≤ 6) : (keyA i).size ≤ 14 := by
  have := decB_size (n := i) (by omega)
  unfold keyA
  rw [ByteArray.size_append]
  show 2 + _ ≤ 14
  omega
def Ks (l : List Ch) (C : List On) (N : Nat) : Prop := ∃ S : List ByteArray, S.length ≤ N ∧ (∀ c ∈ l, c.key ∈ S ∧ (c.gone = true → c.val.size = 0)) ∧ (∀ y ∈ C, keyO y ∈ S) ∧ (∀ i, 1 ≤ i → i ≤ 6 → keyA i ∈ S) ∧ ∀ p ∈ S, p.size ≤ 14
theorem Ks.len {l : List Ch} {C : List On} {N : Nat} (h : Ks l C N) (ho : Once l) : l.length ≤ N := by
  obtain ⟨S, h1, h2, _⟩ := h
  have := length_le_of_sub (l := l.map (·.key)) (m := S) (once_keys.1 ho) (fun p hp => by
    obtain ⟨c, hc, rfl⟩ := List.mem_map.1 hp
    exact (h2 c hc).1)
  rw [List.length_map] at this
  omega
theorem Ks.short {l : List Ch} {C : List On} {N : Nat} (h : Ks l C N) : ∀ c ∈ l, c.key.size ≤ 1000 := fun c hc => by
  obtain ⟨S, _, h2, _, _, h5⟩ := h
  have := h5 _ (h2 c hc).1
  omega
theorem Ks.mono {l : List Ch} {C : List On} {N N' : Nat} (h : Ks l C N) (hN : N ≤ N') : Ks l C N' := by
  obtain ⟨S, h1, h2⟩ := h
  exact ⟨S, by omega, h2⟩
theorem Ks.old {l : List Ch} {C C' : List On} {N : Nat} {y : On} {c : Ch} (h : Ks l C N) (hy : y ∈ C) (hk : c.key = keyO y) (hg : c.gone = true → c.val.size = 0) (hC : ∀ y ∈ C', ∃ z ∈ C, keyO y = keyO z) : Ks (bat l c) C' N := by
  obtain ⟨S, h1, h2, h3, h4⟩ := h
  refine ⟨S, h1, fun d hd => ?_, fun y hy => by obtain ⟨z, hz, e⟩ := hC y hy; rw [e]; exact h3 z hz, h4⟩
  rcases bat_mem hd with rfl | hd
  · exact ⟨by rw [hk]; exact h3 y hy, hg⟩
  · exact h2 d hd
theorem Ks.new {l : List Ch} {C : List On} {N : Nat} {y : On} {c : Ch} (h : Ks l C N) (hk : c.key = keyO y) (hg : c.gone = false) (hs : (keyO y).size ≤ 14) : Ks (bat l c) (C ++ [y]) (N + 1) := by
  obtain ⟨S, h1, h2, h3, h4, h5⟩ := h
  refine ⟨keyO y :: S, by rw [List.length_cons]; omega, fun d hd => ?_, fun z hz => ?_, fun i h1 h6 => List.mem_cons_of_mem _ (h4 i h1 h6), fun p hp => ?_⟩
  · rcases bat_mem hd with rfl | hd
    · exact ⟨by rw [hk]; exact List.mem_cons_self, fun e => by rw [hg] at e; cases e⟩
    · exact ⟨List.mem_cons_of_mem _ (h2 d hd).1, (h2 d hd).2⟩
  · rcases List.mem_append.1 hz with hz | hz
    · exact List.mem_cons_of_mem _ (h3 z hz)
    · rw [List.mem_singleton.1 hz]; exact List.mem_cons_self
  · rcases List.mem_cons.1 hp with rfl | hp
    · exact hs
    · exact h5 p hp
theorem Ks.arch {l : List Ch} {C : List On} {N i : Nat} {c : Ch} (h : Ks l C N) (h1 : 1 ≤ i) (h6 : i ≤ 6) (hk : c.key = keyA i) (hg : c.gone = true → c.val.size = 0) : Ks (bat l c) C N := by
  obtain ⟨S, s1, s2, s3, s4, s5⟩ := h
  refine ⟨S, s1, fun d hd => ?_, s3, s4, s5⟩
  rcases bat_mem hd with rfl | hd
  · exact ⟨by rw [hk]; exact s4 i h1 h6, hg⟩
  · exact s2 d hd
theorem setR_from {C : List On} {p : ByteArray} {k : Nat} : ∀ y ∈ setR C p k, ∃ z ∈ C, keyO y = keyO z := fun y hy => by
  have h := setR_keys C p k
  have : keyO y ∈ (setR C p k).map keyO := List.mem_map.2 ⟨y, hy, rfl⟩
  rw [h] at this
  obtain ⟨z, hz, e⟩ := List.mem_map.1 this
  exact ⟨z, hz, e.symm⟩
theorem delR_from {C : List On} {p : ByteArray} : ∀ y ∈ delR C p, ∃ z ∈ C, keyO y = keyO z := fun y hy => ⟨y, (List.mem_filter.1 hy).1, rfl⟩
def Bz (b j t m u : Nat) (x : Tst) (Z : List It) (w0 : World × (Nat → Prop)) (C : List On) (M N : Nat) (W : World) : Prop :=
  ∃ l, OwF (Tu b j t m u) w0 (x, l) W ∧ Rep (all7 x.L l) C ∧ Good8 C M ∧ (∀ p, beg pB2 p = false → find (all7 x.L l) p = find Z p) ∧ Ks l C N
section
variable {w0 : World × (Nat → Prop)} {W : World} {b j t m u M N : Nat} {x : Tst} {l : List Ch} {C : List On} {Z : List It} {key : ByteArray}
theorem Bz.chg (h : Bz b j t m u x Z w0 C M N W) : Chg w0.2 w0.1 W := by
  obtain ⟨l, h1, _⟩ := h
  exact h1.chg
theorem Bz.good (h : Bz b j t m u x Z w0 C M N W) : Good8 C M := by
  obtain ⟨l, _, _, h1, _⟩ := h
  exact h1
theorem Bz.below {W1 : World} (h : Bz b j t m u x Z w0 C M N W) (hb : Below W.heap.size W W1) : Bz b j t m u x Z w0 C M N W1 := by
  obtain ⟨l, h1, h2⟩ := h
  exact ⟨l, owf_below h1 hb, h2⟩
theorem Bz.mono {M' N' : Nat} (h : Bz b j t m u x Z w0 C M N W) (hM : M ≤ M') (hN : N ≤ N') : Bz b j t m u x Z w0 C M' N' W := by
  obtain ⟨l, h1, h2, h3, h4, h5⟩ := h
  exact ⟨l, h1, h2, h3.mono hM, h4, h5.mono hN⟩
theorem Bz.bo (h : Bz b j t m u x Z w0 C M N W) : ∃ V, Bo b j t m u x Z w0 C M N V W := by
  obtain ⟨l, h1, h2, h3, h4, h5⟩ := h
  exact ⟨wt l, l, h1, h2, h3, h4, h5.len (f_facts h1).2, h5.short, Nat.le_refl _⟩
theorem bz_keep {W1 : World} {C' : List On} {M' N' : Nat} {k : Nat} {d : ByteArray} (h1 : OwF (Tu b j t m u) w0 (x, bat l ⟨key, enc k d, false⟩) W1) (hf : Rises x.L ∧ Once l) (hR : Rep (app (all7 x.L l) ⟨key, enc k d, false⟩) C') (hg : Good8 C' M') (hZ : ∀ p, beg pB2 p = false → find (all7 x.L l) p = find Z p)
    (hkb : beg pB2 key = true) (hK : Ks (bat l ⟨key, enc k d, false⟩) C' N') : Bz b j t m u x Z w0 C' M' N' W1 := by
  refine ⟨_, h1, ?_, hg, fun p hp => ?_, hK⟩
  · rw [all_bat hf.1 hf.2]; exact hR
  · rw [all_bat hf.1 hf.2, find_app7, if_neg (fun e => by rw [show key = p from e] at hkb; rw [hkb] at hp; cases hp)]
    exact hZ p hp
theorem bz_drop {W1 : World} {C' : List On} {M' N' : Nat} (h1 : OwF (Tu b j t m u) w0 (x, bat l ⟨key, ⟨#[]⟩, true⟩) W1) (hf : Rises x.L ∧ Once l) (hR : Rep (app (all7 x.L l) ⟨key, ⟨#[]⟩, true⟩) C') (hg : Good8 C' M') (hZ : ∀ p, beg pB2 p = false → find (all7 x.L l) p = find Z p)
    (hkb : beg pB2 key = true) (hK : Ks (bat l ⟨key, ⟨#[]⟩, true⟩) C' N') : Bz b j t m u x Z w0 C' M' N' W1 := by
  refine ⟨_, h1, ?_, hg, fun p hp => ?_, hK⟩
  · rw [all_bat hf.1 hf.2]; exact hR
  · rw [all_bat hf.1 hf.2, find_app7, if_neg (fun e => by rw [show key = p from e] at hkb; rw [hkb] at hp; cases hp)]
    exact hZ p hp
theorem bzfind (h : Bz b j t m u x Z w0 C M N W) (hM : M ≤ 100000000) (hk : key.size ≤ 500000000000000) :
    Calls Tryz.prog 75 #[.pointer (some ⟨u, 0, none⟩), .string key] W fun e w' => e = .returned (match at8 C key with | some y => .tuple #[onV y.refs y.data, .bool true] | none => .tuple #[onV 0 ⟨#[]⟩, .bool false]) ∧ Below W.heap.size W w' := by
  obtain ⟨V, h⟩ := h.bo
  exact bo_find h hM hk
theorem bzget (h : Bz b j t m u x Z w0 C M N W) (hM : M ≤ 100000000) (hk : key.size ≤ 500000000000000) :
    Calls Tryz.prog 144 #[.pointer (some ⟨u, 0, none⟩), .string key] W fun e w' => e = .returned (match at8 C key with | some y => .tuple #[.string y.data, .int .i64 0] | none => .tuple #[.string ⟨#[]⟩, .int .i64 11]) ∧ Below W.heap.size W w' := by
  obtain ⟨V, h⟩ := h.bo
  exact get_any h hM hk
set_option maxRecDepth 100000 in
set_option maxHeartbeats 4000000 in
theorem bzput {d : ByteArray} (h : Bz b j t m u x Z w0 C M N W) (hx : Xk x) (hM : M ≤ 10000000) (hN : N ≤ 10000000) (hd : d.size ≤ 140737488351232) (ht : TabZ w0) :
    Calls Tryz.prog 73 #[.pointer (some ⟨u, 0, none⟩), .string d] W fun e w' => e = .returned (.string (putC C d).2) ∧ Bz b j t m u x Z w0 (putC C d).1 (M + 1) (N + 1) w' := by
  have cg := group_any d W (by omega)
  have HBO := Lib.hid h
  have HG := Lib.hid h.good
  obtain ⟨l, h1, h2, h3, h4, h7⟩ := h
  have h5 := h7.len (f_facts h1).2
  have h6 := h7.short
  have hlow := lowO_lt d
  have HF := Lib.hid (f_facts h1)
  have HK : Hid (∀ key ∈ held (pre7 (grp (lowO d))) (all7 x.L l), ∃ y ∈ C, keyO y = key) := Lib.hid (fun key hk => by
    obtain ⟨e1, e2⟩ := (mem_held h2.rises).1 hk
    obtain ⟨y, hy, e, _⟩ := rep_key h2 (beg_two e2) e1
    exact ⟨y, hy, e⟩)
  have HK2 : Hid (∀ y ∈ C, y.data = d → keyO y ∈ held (pre7 (grp (lowO d))) (all7 x.L l)) := Lib.hid (fun y hy e => by
    refine (mem_held h2.rises).2 ⟨by rw [rep_mem h2 h3 hy]; rfl, ?_⟩
    have := (h3.each y hy).1
    unfold keyO
    rw [this, e]
    exact beg_grp _ _)
  have HO := Lib.hid h1
  have HR := Lib.hid h2
  have HZ := Lib.hid h4
  have HL := Lib.hid h5
  have HKS := Lib.hid h6
  have HW := Lib.hid h7
  have HT := Lib.hid ht
  have HX := Lib.hid hx
  have ck := fun V hV => f_bkeys (p := grp (lowO d)) (owf_below h1 (w' := V) hV) hx (by omega) h6 (by show 5 ≤ 1000; omega)
  have hKL : (held (pre7 (grp (lowO d))) (all7 x.L l)).length ≤ 200000000 := by
    have e1 := held_len (pre7 (grp (lowO d))) (all7 x.L l)
    have e2 := len_all x.L l
    have e3 := hx.1
    omega
  generalize held (pre7 (grp (lowO d))) (all7 x.L l) = K at ck HK HK2 hKL
  obtain ⟨n, hn⟩ : ∃ n, n = K.length := ⟨_, rfl⟩
  rw [← hn] at hKL
  have HNK := Lib.hid hn
  clear h1 h2 h3 h4 h5 h6 h7 ht hx hn
  go_enter Tryz.func73, Tryz.ntmps73
  go_wp2_with fail
  go_at_call 109
  refine cg.mono ?_
  rintro e w1 ⟨rfl, hb1⟩
  have ck1 := ck w1 hb1
  have HB1 := Lib.hid hb1
  clear cg ck hb1
  go_wp2_with fail
  go_at_call 20
  refine ck1.mono ?_
  rintro e w2 ⟨vK, rfl, hK, hb2⟩
  obtain ⟨aK, cK, hv, hsK, hcK, _⟩ := hK.form
  rw [← HNK.out] at hv hsK hcK
  have HSK := Lib.hid (fun V (hV : Below w2.heap.size w2 V) => hsK.below hV)
  have HB2 := Lib.hid (Tx.below_call HB1.out hb2)
  clear hK hsK ck1 hb2
  subst hv
  go_wp2_with fail
  go_loopw [17] (fun iv wr => ∃ k : Nat, k ≤ n ∧ iv = .int .i64 k ∧ Hid (∀ i key, i < k → K[i]? = some key → ∀ y ∈ C, keyO y = key → y.data ≠ d) ∧ Below w2.heap.size w2 wr) (fun iv _ => n - (intOf iv).toNat)
  case atStart => exact ⟨0, Nat.zero_le _, rfl, (fun i key hi => by omega), Below.refl _ _⟩
  case round =>
    obtain ⟨k, hk, rfl, hno, hB⟩ := hrel
    by_cases hlt : k < n
    · obtain ⟨key, hx⟩ : ∃ key, K[k]? = some key := ⟨_, List.getElem?_eq_getElem (by rw [← HNK.out]; exact hlt)⟩
      obtain ⟨_, hne⟩ := HSK.out _ hB
      obtain ⟨bk, off, rfl, hbk, hcc⟩ := hne.resolve_left (by omega)
      have g0 := hcc k key hx
      have hkz : (k : Int) < (n : Int) := by omega
      obtain ⟨y, hy, hye⟩ := HK.out key (List.mem_of_getElem? hx)
      have hyE := HG.out.each y hy
      have hBW := Tx.below_call HB2.out hB
      have cf := bzfind (key := key) (HBO.out.below hBW) (by omega) (by rw [← hye]; have := keyO_size HG.out (by omega) hy; omega)
      rw [← hye, HG.out.at hy] at cf
      simp only at cf
      rw [hye] at cf
      have HX := Lib.hid hx
      clear hcc hne hx
      go_wp2_with fail
      go_at_call 75
      refine cf.mono ?_
      rintro e w3 ⟨rfl, hb3⟩
      unfold onV
      have hs3 : w3.heap.size < (w3.alloc (.cells #[.int .i64 (y.refs : Nat), .string y.data] 126)).heap.size := by simp
      have hB3 : Below W.heap.size W w3 := Tx.below_call hBW hb3
      have hB3r := Tx.below_call hB hb3
      by_cases hyd : y.data = d
      · subst hyd
        have hb : (y.data.toList == y.data.toList) = true := beq_self_eq_true _
        have hput : putC C y.data = (setR C key (y.refs + 1), key) := by unfold putC; rw [HG.out.of hy, ← hye]
        have cp := keep_any (h := y.refs + 1) (d := y.data) (key := key) (owf_below HO.out (hB3.alloc hB3.size (.cells #[.int .i64 ((y.refs : Int) + 1), .string y.data] 126))) (by rw [← hye]; have := keyO_size HG.out (by omega) hy; omega) (by have := HL.out; omega) (by omega) hd
        have e1 : ((y.refs + 1 : Nat) : Int) = (y.refs : Int) + 1 := by omega
        unfold onV at cp
        rw [e1] at cp
        have hnum1 : -9223372036854775808 ≤ (y.refs : Int) + 1 := by omega
        have hnum2 : (y.refs : Int) + 1 ≤ 9223372036854775807 := by omega
        have HPUT := Lib.hid hput
        have HY := Lib.hid hy
        have HYE := Lib.hid hye
        have HYA := Lib.hid hyE
        clear hput hy hye hyE hno e1 hB3 hB3r hBW hb3 cf
        go_wp2_with fail
        go_at_call 76
        refine cp.mono ?_
        rintro e w4 ⟨rfl, ho4⟩
        go_wp2_with fail
        go_ret
        rw [HPUT.out]
        have hrs := rep_set (k := y.refs + 1) HR.out HY.out HG.out
        rw [HYE.out] at hrs
        exact ⟨rfl, bz_keep ho4 HF.out hrs (good_set (HG.out.mono (Nat.le_succ M)) (by omega) (by have := HYA.out.2.2.1; omega)) HZ.out (by rw [← HYE.out]; exact keyO_beg y) ((HW.out.old HY.out HYE.out.symm (fun e => by cases e) setR_from).mono (Nat.le_succ N))⟩
      · have hb : (y.data.toList == d.toList) = false := bytes_ne hyd
        have hno2 : Hid (∀ i key, i < k + 1 → K[i]? = some key → ∀ y ∈ C, keyO y = key → y.data ≠ d) := Lib.hid (fun i key' hi hk' y' hy' he' => by
          by_cases hik : i < k
          · exact hno.out i key' hik hk' y' hy' he'
          · have hik : i = k := by omega
            subst hik
            rw [HX.out] at hk'
            injection hk' with hk'
            have e1 := HG.out.at hy
            rw [hye, hk', ← he', HG.out.at hy'] at e1
            injection e1 with e1
            rw [e1]
            exact hyd)
        have hB4 := hB3r.alloc hB3r.size (.cells #[.int .i64 (y.refs : Nat), .string y.data] 126)
        clear hno hyd hye hyE hB3 hB3r hBW hb3 cf
        go_wp2_with fail
        go_roundw
        case rel => exact ⟨k + 1, by omega, by go_num, hno2, hB4⟩
        case measure => simp [intOf]; omega
    · obtain rfl : k = n := by omega
      have hof : of8 C d = none := by
        cases ho : of8 C d with
        | none => rfl
        | some y =>
          obtain ⟨hy, hyd⟩ := of8_some ho
          obtain ⟨i, hi⟩ := List.getElem?_of_mem (HK2.out y hy hyd)
          exact absurd hyd (hno.out i _ (by have := (List.getElem?_eq_some_iff.1 hi).1; have := HNK.out; omega) hi y hy rfl)
      have hBW := Tx.below_call HB2.out hB
      have hown := owf_below HO.out hBW
      have cf := free_any hown HR.out HG.out (by omega) hlow (HT.out _ hown.chg)
      have hfl := free_lt HG.out hlow
      have hlen := HG.out.len
      have hput : putC C d = (C ++ [newO C d], keyO (newO C d)) := by unfold putC; rw [hof]
      have HPUT := Lib.hid hput
      have HOF := Lib.hid hof
      have ek : keyN (lowO d) (freeN C (lowO d)) = keyO (newO C d) := rfl
      rw [ek] at cf
      have hks : (keyO (newO C d)).size ≤ 14 := keyN_size _ (by show freeN C (lowO d) < _; omega)
      have cp := fun V hV => keep_any (W := V) (h := 1) (d := d) (key := keyO (newO C d)) (owf_below hown (w' := V) hV) (by omega) (by have := HL.out; omega) (by omega) hd
      unfold onV at cp
      have e1 : ((1 : Nat) : Int) = 1 := rfl
      rw [e1] at cp
      have HKZ := Lib.hid hks
      clear hno hof hput hfl hlen ek e1 hB hBW hown hks
      go_wp2_with fail
      go_at_call 110
      refine cf.mono ?_
      rintro e w3 ⟨rfl, hb3⟩
      have cp3 := cp w3 hb3
      clear cp cf hb3
      go_wp2_with fail
      go_at_call 76
      refine cp3.mono ?_
      rintro e w4 ⟨rfl, ho4⟩
      go_wp2_with fail
      go_ret
      rw [HPUT.out]
      exact ⟨rfl, bz_keep ho4 HF.out (rep_new HR.out HG.out) (good_new HG.out HOF.out hd) HZ.out (beg_key _ _) (HW.out.new rfl rfl HKZ.out)⟩
end
end Go.Proofs.YtdkgkomjbpggeaaGreatDoor.Az

namespace Go.Proofs.YtdkgkomjbpggeaaGreatDoor.Az
open Go.RowKit Tx Pm Dk Wm Wr Wl Pl Tb Bl Fm Fr
open En (Et tcheck)
set_option linter.unusedVariables false
set_option linter.unusedSimpArgs false
set_option linter.unnecessarySimpa false
set_option maxRecDepth 100000 in
theorem isSpoke_any (i : Int) (w : World) (h : -9223372036854775808 ≤ i ∧ i ≤ 9223372036854775807) : Calls Tryz.prog 29 #[.int .i64 i] w fun e w' => e = .returned (.bool (Ac.may i)) ∧ w = w' := by
  obtain ⟨h1, h2⟩ := h
  unfold Ac.may
  by_cases h3 : 1 ≤ i
  · by_cases h4 : i ≤ 6
    · rw [decide_eq_true h3, decide_eq_true h4]
      go_enter Tryz.func29, Tryz.ntmps29
      go_wp2_with fail
      go_ret
      exact ⟨rfl, rfl⟩
    · rw [decide_eq_true h3, decide_eq_false h4]
      go_enter Tryz.func29, Tryz.ntmps29
      go_wp2_with fail
      go_ret
      exact ⟨rfl, rfl⟩
  · rw [decide_eq_false h3]
    go_enter Tryz.func29, Tryz.ntmps29
    go_wp2_with fail
    go_ret
    exact ⟨rfl, rfl⟩
set_option maxRecDepth 100000 in
theorem keyOf_any (n : Nat) (w : World) (hn : n ≤ 6) (ht : Tab w) : Calls Tryz.prog 33 #[.int .i64 n] w fun e w' => e = .returned (.string (keyA n)) ∧ Below w.heap.size w w' := by
  have c := itoa_any n w (by omega) ht
  have hs := decB_size (n := n) (by omega)
  go_enter Tryz.func33, Tryz.ntmps33
  go_wp2_with fail
  go_at_call 68
  refine c.mono ?_
  rintro e w1 ⟨rfl, hb⟩
  have HB := Lib.hid hb
  clear c hb
  have hsz : ((⟨#[97, 47]⟩ : ByteArray) ++ decB n).size ≤ 9223372036854775807 := by rw [ByteArray.size_append]; show 2 + _ ≤ _; omega
  go_wp2_with fail
  go_ret
  exact ⟨rfl, HB.out⟩
set_option maxRecDepth 100000 in
theorem sumOf_anyA (d : ByteArray) (w : World) (hd : d.size ≤ maxLen) : Calls Tryz.prog 74 #[.string d] w fun e w' => e = .returned (.string (vs (fsum d.data.toList))) ∧ Below w.heap.size w w' := by
  have c := fSum_any d w hd
  have hf := fsum_lt d.data.toList
  obtain ⟨f, hF⟩ : ∃ f, f = fsum d.data.toList := ⟨_, rfl⟩
  rw [← hF] at c hf ⊢
  have cu := fun V => putUint_any (f : Nat) V (by omega) (by omega)
  have eus : us (f : Nat) = vs f := by unfold us; rw [if_neg (by omega)]; rfl
  rw [eus] at cu
  clear hd hF eus
  go_enter Tryz.func74, Tryz.ntmps74
  go_wp2_with fail
  go_at_call 108
  refine c.mono ?_
  rintro e w1 ⟨rfl, hb⟩
  have HB := Lib.hid hb
  have cu1 := cu w1
  clear c hb cu
  go_wp2_with fail
  go_at_call 72
  refine cu1.mono ?_
  rintro e w2 ⟨rfl, hb2⟩
  have HB2 := Lib.hid hb2
  clear cu1 hb2
  go_wp2_with fail
  go_ret
  exact ⟨rfl, Tx.below_call HB.out HB2.out⟩
theorem conv_one (a : UInt8) (W : World) (g : Nat) (h : W.cell? ⟨g, 0, none⟩ = some (.int .u8 (a.toNat : Int))) : (Go.convert 87 9 (.slice (some ⟨g, 0, none⟩) 1 1)).run Tryz.prog W = .ok (.string ⟨#[a]⟩) W := by
  exact run_convert_bytes_back W 87 9 5 ⟨g, 0, none⟩ 1 [a] Tryz.underlying87 Tryz.underlying5 Tryz.underlying9 (fun j hj => by
    match j, hj with
    | 0, _ => exact h)
theorem conv_zero (W : World) (g : Nat) (h : W.cell? ⟨g, 0, none⟩ = some (.int .u8 0)) : (Go.convert 87 9 (.slice (some ⟨g, 0, none⟩) 1 1)).run Tryz.prog W = .ok (.string ⟨#[0]⟩) W := conv_one 0 W g h
theorem not8 : ∀ x : Fin 256, bits .xor .u8 IntKind.u8.max (x.val : Int) = ((255 - x.val : Nat) : Int) := by decide +kernel
def pop8 (x : Nat) : Nat := ((List.range 8).map fun i => x / 2 ^ i % 2).sum
theorem pop_tab : ∀ x : Fin 256, (Lib.pop8tab.data.toList.getD x.val 0).toNat = pop8 x.val := by decide +kernel
set_option maxRecDepth 100000 in
theorem ones_any (x : UInt8) (w : World) : Calls Tryz.prog 79 #[.int .u8 (x.toNat : Int)] w fun e w' => e = .returned (.int .i64 (pop8 x.toNat : Nat)) ∧ w = w' := by
  have hx := x.toNat_lt
  obtain ⟨n, hn⟩ : ∃ n, n = x.toNat := ⟨_, rfl⟩
  rw [← hn] at hx ⊢
  clear hn
  go_enter Tryz.func79, Tryz.ntmps79
  go_wp2_with fail
  go_ret
  have h := pop_tab ⟨n, hx⟩
  refine ⟨?_, rfl⟩
  congr 2
  rw [show pop8 n = (Lib.pop8tab.data.toList.getD n 0).toNat from h.symm]
  have hlt : n < Lib.pop8tab.size := hx
  have e : Lib.pop8tab.data.toList.getD n 0 = Lib.pop8tab[n] := by
    rw [List.getD_eq_getElem?_getD, List.getElem?_eq_getElem (by rw [Wm.len_l]; exact hlt)]
    rfl
  rw [e]
  have hlt2 := (Lib.pop8tab[n]).toNat_lt
  show Value.int .i64 (wrap64 (Lib.pop8tab[n].toNat : Int)) = _
  have e2 : wrap64 (Lib.pop8tab[n].toNat : Int) = (Lib.pop8tab[n].toNat : Int) := by unfold wrap64; omega
  rw [e2]
set_option maxRecDepth 100000 in
set_option maxHeartbeats 1000000 in
theorem invert_any (v : ByteArray) (w : World) (h0 : 0 < v.size) (hs : v.size ≤ 100000000) : Calls Tryz.prog 41 #[.string v] w fun e w' => e = .returned (.string (inv v)) ∧ Below w.heap.size w w' := by
  obtain ⟨m, hm⟩ : ∃ m, v.size = m + 1 := ⟨v.size - 1, by omega⟩
  have hml : m < v.size := by omega
  have hL : lastB v = v[m] := by
    unfold lastB
    rw [show v.size - 1 = m by omega, List.getD_eq_getElem?_getD, List.getElem?_eq_getElem (by rw [Wm.len_l]; exact hml)]
    rfl
  have hx8 : (v[m]).toNat < 256 := (v[m]).toNat_lt
  have hiv : inv v = v.extract 0 m ++ ⟨#[UInt8.ofNat (255 - (v[m]).toNat)]⟩ := by unfold inv; rw [hL, show v.size - 1 = m by omega]
  have hnot := not8 ⟨(v[m]).toNat, hx8⟩
  have hn1 : (1 : Int) ≤ (v.size : Int) := by omega
  have e1 : (v.size : Int) - 1 = (m : Int) := by omega
  have hnot2 : bits BinOp.xor IntKind.u8 (if IntKind.u8.signed = true then -1 else IntKind.u8.max) ((v[m]).toNat : Int) = (((255 - (v[m]).toNat : Nat) : Nat) : Int) := hnot
  have hc := conv_one (UInt8.ofNat (255 - (v[m]).toNat)) (w.alloc (.cells #[.int .u8 (bits BinOp.xor IntKind.u8 (if IntKind.u8.signed = true then -1 else IntKind.u8.max) ((v[m]).toNat : Int))] 5)).drew w.heap.size (by rw [ofNat_toNat _ (by omega), ← hnot2]; go_simp)
  clear hnot hnot2
  have HI := Lib.hid hiv
  have HM := Lib.hid hm
  have HB := Lib.hid (fun o => ((Below.refl w.heap.size w).alloc (Nat.le_refl _) o).drew)
  have hmz : (m : Int) ≤ (v.size : Int) := by omega
  have hcat : (v.extract 0 m ++ ⟨#[UInt8.ofNat (255 - (v[m]).toNat)]⟩ : ByteArray).size ≤ 9223372036854775807 := by rw [ByteArray.size_append, ByteArray.size_extract]; show _ + 1 ≤ _; omega
  clear hiv hL hm h0
  go_enter Tryz.func41, Tryz.ntmps41
  go_wp2_with fail
  go_region
  all_goals
    go_wp2_with fail
    go_ret
    rw [HI.out]
    exact ⟨rfl, HB.out _⟩
end Go.Proofs.YtdkgkomjbpggeaaGreatDoor.Az

namespace Go.Proofs.YtdkgkomjbpggeaaGreatDoor.Az
open Go.RowKit Tx Pm Dk Wm Wr Wl Pl Tb Bl Fm Fr
open En (Et tcheck)
set_option linter.unusedVariables false
set_option linter.unusedSimpArgs false
set_option linter.unnecessarySimpa false
def kN (x : Et) : Nat := x.node.kind.toNat
def sumN (d : ByteArray) : Nat := fsum d.data.toList
def partsE (κ : ByteArray → ByteArray) (x : Et) : List ByteArray := [ts x.path, vs (kN x)] ++ (if x.node.kind = 2 then [ts (κ x.node.data), vs (sumN x.node.data)] else [])
def bytesE (κ : ByteArray → ByteArray) (x : Et) : List UInt8 := tl x.path ++ (vb (kN x) ++ (if x.node.kind = 2 then tl (κ x.node.data) ++ vb (sumN x.node.data) else []))
def rpP (κ : ByteArray → ByteArray) (t : List Et) : List ByteArray := t.flatMap (partsE κ)
def rpL (κ : ByteArray → ByteArray) (t : List Et) : List UInt8 := t.flatMap (bytesE κ)
def val16 (κ : ByteArray → ByteArray) (t : List Et) : ByteArray := vz (cat (rpP κ t))
theorem parts_bytes (κ : ByteArray → ByteArray) (x : Et) : ((partsE κ x).map (·.data.toList)).flatten = bytesE κ x := by
  unfold partsE bytesE
  by_cases h : x.node.kind = 2
  · rw [if_pos h, if_pos h]
    simp [ts_tl, vs_list]
  · rw [if_neg h, if_neg h]
    simp [ts_tl, vs_list]
theorem rp_list (κ : ByteArray → ByteArray) : ∀ t : List Et, ((rpP κ t).map (·.data.toList)).flatten = rpL κ t
  | [] => rfl
  | x :: t => by
    unfold rpP rpL
    rw [List.flatMap_cons, List.flatMap_cons, List.map_append, List.flatten_append, parts_bytes]
    congr 1
    exact rp_list κ t
theorem cat_rp (κ : ByteArray → ByteArray) (t : List Et) : cat (rpP κ t) = ⟨(rpL κ t).toArray⟩ := by
  unfold cat
  rw [rp_list]
theorem rpL_cons (κ : ByteArray → ByteArray) (x : Et) (t : List Et) : rpL κ (x :: t) = bytesE κ x ++ rpL κ t := by unfold rpL; rw [List.flatMap_cons]
theorem rpL_drop (κ : ByteArray → ByteArray) {t : List Et} {i : Nat} {x : Et} (h : t[i]? = some x) : rpL κ (t.drop i) = bytesE κ x ++ rpL κ (t.drop (i + 1)) := by
  obtain ⟨hi, e⟩ := List.getElem?_eq_some_iff.1 h
  rw [List.drop_eq_getElem_cons hi, e, rpL_cons]
theorem rpP_snoc (κ : ByteArray → ByteArray) {t : List Et} {i : Nat} {x : Et} (h : t[i]? = some x) : rpP κ (t.take (i + 1)) = rpP κ (t.take i) ++ partsE κ x := by
  obtain ⟨hi, e⟩ := List.getElem?_eq_some_iff.1 h
  unfold rpP
  rw [List.take_succ_eq_append_getElem hi, List.flatMap_append, e]
  simp
structure Eok (x : Et) : Prop where
  kind : x.node.kind = 1 ∨ x.node.kind = 2
  dir : x.node.kind = 1 → x.node.data = ⟨#[]⟩
  path : x.path.size ≤ 10000000
  data : x.node.data.size ≤ 10000000
theorem ok_all {t : List Et} (h : tcheck t = 0) (hb : Ac.bk t ≤ 10000000) : t.length ≤ 200 ∧ ∀ x ∈ t, Eok x := by
  unfold tcheck at h
  split at h
  · cases h
  · rename_i hl
    split at h
    · rename_i ha
      refine ⟨by omega, fun x hx => ?_⟩
      obtain ⟨i, hi⟩ := List.getElem?_of_mem hx
      have hil := (List.getElem?_eq_some_iff.1 hi).1
      have h1 := List.all_eq_true.1 ha i (List.mem_range.2 hil)
      rw [En.okAt_eq hi] at h1
      simp only [Bool.and_eq_true, Bool.not_eq_true', decide_eq_false_iff_not] at h1
      obtain ⟨⟨⟨⟨_, h2⟩, h3⟩, _⟩, _⟩ := h1
      have hm := Ac.bk_mem hx
      unfold En.whole at h2
      split at h2
      · rename_i hk
        exact ⟨.inr hk, fun e => (by rw [hk] at e; cases e), by omega, by omega⟩
      · rename_i hk
        simp only [Bool.and_eq_true, Bool.or_eq_true, decide_eq_true_eq] at h2
        refine ⟨.inl (h2.1.resolve_left h3), fun _ => ?_, by omega, by omega⟩
        exact ByteArray.ext (Array.size_eq_zero_iff.1 h2.2)
    · cases h
theorem Eok.kn {x : Et} (h : Eok x) : x.node.kind = (kN x : Nat) ∧ kN x ≤ 2 := by
  unfold kN
  rcases h.kind with e | e <;> · rw [e]; decide
theorem vb_five {x : Nat} (h : x < 34359738368) : (vb x).length ≤ 5 := vb_len_le 4 x (by omega)
theorem tl_small {p : ByteArray} (h : p.size ≤ 10000000) : (tl p).length ≤ p.size + 5 := by
  unfold tl
  rw [List.length_append, Wm.len_l]
  have := vb_five (x := p.size) (by omega)
  omega
theorem bytesE_le {κ : ByteArray → ByteArray} {x : Et} (h : Eok x) (hκ : x.node.kind = 2 → (κ x.node.data).size ≤ 14) : (bytesE κ x).length ≤ x.path.size + 34 := by
  have h1 := tl_small h.path
  have h2 := vb_five (x := kN x) (by have := h.kn.2; omega)
  have h4 := vb_five (x := sumN x.node.data) (by have := fsum_lt x.node.data.data.toList; unfold sumN; omega)
  unfold bytesE
  rw [List.length_append, List.length_append]
  split
  · rename_i hk
    have h5 := hκ hk
    have h3 := tl_small (p := κ x.node.data) (by omega)
    rw [List.length_append]
    omega
  · rw [List.length_nil]
    omega
theorem rpL_le {κ : ByteArray → ByteArray} : ∀ {t : List Et}, (∀ x ∈ t, Eok x) → (∀ x ∈ t, x.node.kind = 2 → (κ x.node.data).size ≤ 14) → (rpL κ t).length ≤ Ac.bk t + 29 * t.length
  | [], _, _ => Nat.zero_le _
  | x :: t, h, hκ => by
    have h1 := bytesE_le (h x List.mem_cons_self) (hκ x List.mem_cons_self)
    have h2 := rpL_le (t := t) (fun y hy => h y (List.mem_cons_of_mem _ hy)) (fun y hy => hκ y (List.mem_cons_of_mem _ hy))
    rw [rpL_cons, List.length_append, Ac.bk_cons, List.length_cons]
    omega
theorem val16_size {κ : ByteArray → ByteArray} {t : List Et} (h : tcheck t = 0) (hb : Ac.bk t ≤ 10000000) (hκ : ∀ x ∈ t, x.node.kind = 2 → (κ x.node.data).size ≤ 14) : (cat (rpP κ t)).size ≤ Ac.bk t + 5800 ∧ (val16 κ t).size ≤ Ac.bk t + 5810 ∧ 0 < (val16 κ t).size := by
  obtain ⟨h1, h2⟩ := ok_all h hb
  have h3 := rpL_le (κ := κ) h2 hκ
  have e : (cat (rpP κ t)).size = (rpL κ t).length := by rw [cat_rp]; exact List.size_toArray
  have h4 := vb_five (x := (cat (rpP κ t)).size) (by omega)
  unfold val16
  rw [vz_size]
  omega
theorem val16_congr {κ κ' : ByteArray → ByteArray} {t : List Et} (h : ∀ x ∈ t, x.node.kind = 2 → κ x.node.data = κ' x.node.data) : rpP κ t = rpP κ' t ∧ val16 κ t = val16 κ' t := by
  have e : rpP κ t = rpP κ' t := by
    unfold rpP
    have : ∀ {l : List Et}, (∀ x ∈ l, x.node.kind = 2 → κ x.node.data = κ' x.node.data) → l.flatMap (partsE κ) = l.flatMap (partsE κ') := by
      intro l
      induction l with
      | nil => intro _; rfl
      | cons x l ih =>
        intro hl
        rw [List.flatMap_cons, List.flatMap_cons, ih (fun y hy => hl y (List.mem_cons_of_mem _ hy))]
        congr 1
        unfold partsE
        split
        · rename_i hk
          rw [hl x List.mem_cons_self hk]
        · rfl
    exact this h
  exact ⟨e, by unfold val16; rw [e]⟩
theorem mem_files {t : List Et} {d : ByteArray} : d ∈ Ac.files t ↔ ∃ x ∈ t, x.node.kind = 2 ∧ x.node.data = d := by
  unfold Ac.files
  rw [List.mem_map]
  constructor
  · rintro ⟨x, hx, rfl⟩
    rw [List.mem_filter] at hx
    exact ⟨x, hx.1, of_decide_eq_true hx.2, rfl⟩
  · rintro ⟨x, hx, hk, rfl⟩
    exact ⟨x, List.mem_filter.2 ⟨hx, decide_eq_true hk⟩, rfl⟩
theorem files_snoc {t : List Et} {i : Nat} {x : Et} (h : t[i]? = some x) : Ac.files (t.take (i + 1)) = Ac.files (t.take i) ++ (if x.node.kind = 2 then [x.node.data] else []) := by
  obtain ⟨hi, e⟩ := List.getElem?_eq_some_iff.1 h
  unfold Ac.files
  rw [List.take_succ_eq_append_getElem hi, List.filter_append, List.map_append, e]
  congr 1
  by_cases hk : x.node.kind = 2
  · rw [if_pos hk, List.filter_cons_of_pos (by simpa using hk)]
    rfl
  · rw [if_neg hk, List.filter_cons_of_neg (by simpa using hk)]
    rfl
def La (l : List UInt8) : ByteArray := ⟨l.toArray⟩
theorem la_size (l : List UInt8) : (La l).size = l.length := List.size_toArray
theorem rd_text {b : Nat} {p : ByteArray} {m : List UInt8} {w : World} (h : Rat w b (La (tl p ++ m))) (hs : (tl p ++ m).length ≤ 100000000000) (hp : p.size ≤ 100000000000) :
    Calls Tryz.prog 97 #[.pointer (some ⟨b, 0, none⟩)] w fun e w' => e = .returned (.tuple #[.string p, .int .i64 0]) ∧ Rat w' b (La m) ∧ w.grownBy w' (some b) := by
  have c := text_any b _ w h (by rw [la_size]; unfold maxLen; omega)
  have e : rdT (La (tl p ++ m)) = (p, (tl p).length, 0) := rdT_back p m (by omega)
  rw [e] at c
  have e2 : (La (tl p ++ m)).extract (tl p).length (La (tl p ++ m)).size = La m := ext_at (tl p) m
  simp only [e2] at c
  exact c
theorem rd_uint {b x : Nat} {m : List UInt8} {w : World} (h : Rat w b (La (vb x ++ m))) (hs : (vb x ++ m).length ≤ 100000000000) (hp : x ≤ 9223372036854775807) :
    Calls Tryz.prog 111 #[.pointer (some ⟨b, 0, none⟩)] w fun e w' => e = .returned (.tuple #[.int .i64 (x : Nat), .int .i64 0]) ∧ Rat w' b (La m) ∧ w.grownBy w' (some b) := by
  have c := uint_any b _ w h (by rw [la_size]; unfold maxLen; omega)
  have e : rdU (La (vb x ++ m)).data.toList = (x, (vb x).length, 0) := by
    show rdU (vb x ++ m) = _
    exact rdU_back x m hp
  rw [e] at c
  have e2 : (La (vb x ++ m)).extract (vb x).length (La (vb x ++ m)).size = La m := ext_at (vb x) m
  simp only [e2] at c
  exact c
theorem rd_left {b : Nat} {m : List UInt8} {w : World} (h : Rat w b (La m)) (hs : m.length ≤ 100000000000) :
    Calls Tryz.prog 98 #[.pointer (some ⟨b, 0, none⟩)] w fun e w' => e = .returned (.int .i64 (m.length : Nat)) ∧ w = w' := by
  have c := left_any b _ w h (by rw [la_size]; unfold maxLen; omega)
  rw [la_size] at c
  exact c
end Go.Proofs.YtdkgkomjbpggeaaGreatDoor.Az
