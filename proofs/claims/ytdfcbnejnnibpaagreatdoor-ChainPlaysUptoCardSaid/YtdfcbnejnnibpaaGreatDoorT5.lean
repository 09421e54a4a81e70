/- Texts of this seat, one behind the other. -/
import Derived.Test.YtdfcbnejnnibpaaGreatDoorT4
import Derived.SliceStrings
import Derived.SizedLaws
import Derived.Test.YtdfcbnejnnibpaaGreatDoorCards
import Derived.Test.YtdfcbnejnnibpaaGreatDoorTie
import Derived.Lib.LaidTab
import Derived.Lib.LaidU8
import Derived.LaidMore
import Derived.Deep.DeepHandedRow
import Derived.Stop.Joined
import Derived.JoinedCond
import Derived.ChangeOld
import Derived.SevenTiedAt
import Derived.Deep.CondSized
namespace Go.Proofs.YtdfcbnejnnibpaaGreatDoor.Cn
open Go.RowKit Tx Pm Dk Wm Wr Wl Pl Tb Bl
set_option linter.unusedVariables false
set_option linter.unusedSimpArgs false
set_option linter.unnecessarySimpa false
theorem ids_set (C : List Vn) (i : Nat) (q : Nat × ByteArray) : ids (setV C i q) = ids C := setV_ids C i q
theorem ids_del (C : List Vn) (i : Nat) : ids (delV C i) = (ids C).filter (fun k => !decide (k = i)) := by
  unfold ids delV
  rw [List.filter_map]
  rfl
theorem near_set {C : List Vn} {i : Nat} {q : Nat × ByteArray} {y : Vn} (hy : y ∈ setV C i q) : (y.id = i ∧ y.near = q.1) ∨ (y ∈ C ∧ y.id ≠ i) := by
  rcases setV_mem hy with ⟨rfl, _⟩ | h
  · exact .inl ⟨rfl, rfl⟩
  · exact .inr h
theorem len_ids (C : List Vn) : (ids C).length = C.length := List.length_map _
structure Mid10 (b j t m u : Nat) (x : Tst) (z : World × (Nat → Prop)) (I : List Nat) (D : Nat → ByteArray) (r : Nat → Nat) (M S N V p i : Nat) (C : List Vn) (l : List Ch) (W : World) : Prop where
  own : OwF (Tu b j t m u) z (x, l) W
  rows : Rp (all7 x.L l) C M
  good : Gv C D r M S
  ids : ids C = I
  none : ∀ y ∈ C, (∃ k, k < i ∧ I[k]? = some y.id) → y.near ≠ p
  len : l.length ≤ N + i
  keys : ∀ c ∈ l, c.key.size ≤ 1000
  wt : wt l ≤ V + i * 4300
section
variable {w0 : World × (Nat → Prop)} {W W1 : World} {b j t m u M S N V p i : Nat} {x : Tst} {l : List Ch} {C : List Vn} {D : Nat → ByteArray} {r : Nat → Nat} {R : List It} {z : World × (Nat → Prop)} {I : List Nat}
theorem Mid10.below (h : Mid10 b j t m u x z I D r M S N V p i C l W) (hb : Below W.heap.size W W1) : Mid10 b j t m u x z I D r M S N V p i C l W1 := ⟨owf_below h.own hb, h.rows, h.good, h.ids, h.none, h.len, h.keys, h.wt⟩
theorem Mid10.skip (h : Mid10 b j t m u x z I D r M S N V p i C l W) {y : Vn} (hy : y ∈ C) (hi : I[i]? = some y.id) (hn : y.near ≠ p) : Mid10 b j t m u x z I D r M S N V p (i + 1) C l W := by
  refine ⟨h.own, h.rows, h.good, h.ids, fun v hv ⟨k, hk, hkv⟩ => ?_, Nat.le_trans h.len (by omega), h.keys, Nat.le_trans h.wt (by omega)⟩
  by_cases hki : k < i
  · exact h.none v hv ⟨k, hki, hkv⟩
  · obtain rfl : k = i := by omega
    rw [hi] at hkv
    injection hkv with hkv
    rw [h.good.uniq hv hy hkv.symm]
    exact hn
theorem Mid10.more {W9 : World} {y : Vn} {g : Nat} (h : Mid10 b j t m u x z I D r M S N V p i C l W) (hy : y ∈ C) (hi : I[i]? = some y.id) (hn : y.near = p) (hp : 1 ≤ p) (hg : g ≠ 0 → r g < r p) (hgp : g ≠ p) (hS : S ≤ 100000000) (hM : M ≤ 1000000000)
    (ho : OwF (Tu b j t m u) z (x, bat l ⟨keyI (y.id : Int), enc (tell C (D y.id) (g : Int)).1 (tell C (D y.id) (g : Int)).2, false⟩) W9) :
    Mid10 b j t m u x z I D r M S N V p (i + 1) (setV C y.id (tell C (D y.id) (g : Int))) (bat l ⟨keyI (y.id : Int), enc (tell C (D y.id) (g : Int)).1 (tell C (D y.id) (g : Int)).2, false⟩) W9 := by
  have hE := h.good.each y hy
  obtain ⟨y2, hy2, e1, e2, _, e4⟩ := h.good.told y hy (by omega)
  obtain ⟨t1, t2, t3⟩ := tell_good h.good (by omega) (D y.id) (g : Int) hE.2.2.2.1
  have hf := f_facts h.own
  have hks := keyI_size (n := (y.id : Int)) (by omega)
  have htn : (tell C (D y.id) (g : Int)).1 ≤ 1000000000 := by
    by_cases h0 : (tell C (D y.id) (g : Int)).1 = 0
    · omega
    · obtain ⟨v, hv, e, _⟩ := t3 h0
      have := (h.good.each v hv).2.1
      omega
  refine ⟨ho, ?_, ?_, ?_, fun v hv ⟨k, hk, hkv⟩ => ?_, ?_, fun c hc => ?_, ?_⟩
  · rw [all_bat hf.1 hf.2]
    exact rp_set h.rows hy h.good
  · refine good_set10 h.good hy t1 t2 (fun hh => ?_)
    obtain ⟨v, hv, f1, f2, _, f4, f5⟩ := t3 hh
    refine ⟨v, hv, f1, ?_, f4, f5⟩
    have hvg : v.id = g := by omega
    have hv1 := (h.good.each v hv).1
    have := hg (by omega)
    rw [hvg]
    rw [e1, hn] at e2
    omega
  · rw [ids_set]; exact h.ids
  · rcases near_set hv with ⟨f1, f2⟩ | ⟨f1, f2⟩
    · rw [f2]
      by_cases h0 : (tell C (D y.id) (g : Int)).1 = 0
      · omega
      · obtain ⟨v2, hv2, f3, f4, _⟩ := t3 h0
        omega
    · by_cases hki : k < i
      · exact h.none v f1 ⟨k, hki, hkv⟩
      · obtain rfl : k = i := by omega
        rw [hi] at hkv
        injection hkv with hkv
        exact absurd hkv.symm f2
  · have := bat_len l ⟨keyI (y.id : Int), enc (tell C (D y.id) (g : Int)).1 (tell C (D y.id) (g : Int)).2, false⟩
    have := h.len
    omega
  · rcases bat_mem hc with rfl | hc
    · show (keyI _).size ≤ 1000
      omega
    · exact h.keys c hc
  · have f1 := wt_bat hf.2 ⟨keyI (y.id : Int), enc (tell C (D y.id) (g : Int)).1 (tell C (D y.id) (g : Int)).2, false⟩
    have f2 := enc_size (h := (tell C (D y.id) (g : Int)).1) (d := (tell C (D y.id) (g : Int)).2) (by omega) (by omega)
    have f3 := h.wt
    simp only at f1
    rw [Nat.succ_mul]
    omega
set_option maxRecDepth 100000 in
set_option maxHeartbeats 8000000 in
theorem drop_left {F : Nat → Prop} {v : Vn} (hF : Tu b j t m u W F (x, l)) (hx : Xk x) (hR : Rp (all7 x.L l) C M) (hG : Gv C D r M S) (hv : v ∈ C) (hM : M ≤ 10000000) (hN : l.length ≤ 10000000) (hks : ∀ c ∈ l, c.key.size ≤ 1000) (hS : S ≤ 100000000) (hcl : C.length ≤ 10000000) (ht : TabZ (W, F)) :
    Calls Tryz.prog 12 #[.pointer (some ⟨u, 0, none⟩), .int .i64 (v.id : Nat)] W fun e w' => ∃ l', (e = .returned (.int .i64 0) ∧ ∃ C', Rp (all7 x.L l') C' M ∧ Gv C' D r M S ∧ ids C' = (ids C).filter (fun k => !decide (k = v.id)) ∧ l'.length ≤ l.length + C.length + 1 ∧ (∀ c ∈ l', c.key.size ≤ 1000) ∧ wt l' ≤ wt l + C.length * 4300 + 100) ∧ LeftA (Tu b j t m u) W F (x, l') w' := by
  have hE := hG.each v hv
  have hlt := tu_lt hF
  have how : ∀ V, Below W.heap.size W V → OwF (Tu b j t m u) (V, F) (x, l) V := fun V hV => ⟨F, tb_below hF hV, Chg.refl F V, fun g hg => .inl hg⟩
  have hi0 : i64 (v.id : Nat) := by unfold i64; omega
  have htb : ∀ V, Below W.heap.size W V → Tab V := fun V hV => ht V (Chg.of_below hV)
  have cf := vfind_any (n := (v.id : Int)) (how W (Below.refl _ _)) hR (hG.nice (by omega)) (by omega) hi0 (htb W (Below.refl _ _))
  rw [hG.at hv] at cf
  simp only at cf
  unfold vnV at cf
  have HCV := Lib.hid (fun V (hV : Below W.heap.size W V) => versions_any (how V hV) hx (by omega) hks hR hG (by omega))
  have HG0 : Hid (v.near ≠ 0 → r v.near < r v.id) := Lib.hid (fun hh => by
    obtain ⟨y, hy, e1, e2, _⟩ := hG.told v hv hh
    rw [← e1]
    exact e2)
  have hgp : v.near ≠ v.id := fun hh => by
    by_cases h0 : v.near = 0
    · omega
    · have := HG0.out h0
      rw [hh] at this
      omega
  have hnear : v.near ≤ 1000000000 := (hG.nice (by omega) v hv).1
  have hkid : i64 (v.near : Nat) := by unfold i64; omega
  have HB0 := Lib.hid (fun V (hV : Below W.heap.size W V) => (⟨how V hV, hR, hG, rfl, fun y hy ⟨k, hk, _⟩ => by omega, by omega, hks, by omega⟩ : Mid10 b j t m u x (V, F) (ids C) D r M S l.length (wt l) v.id 0 C l V))
  have HTZ : Hid (∀ V, Below W.heap.size W V → TabZ (V, F)) := Lib.hid (fun V hV V2 h2 => ht V2 ((Chg.of_below hV).trans h2 (fun g hg => .inl hg)))
  have HLT := Lib.hid hlt
  have hIl := len_ids C
  have HIM : Hid (∀ a ∈ ids C, 1 ≤ a ∧ a ≤ 10000000) := Lib.hid (fun a ha => by
    obtain ⟨y, hy, rfl⟩ := List.mem_map.1 ha
    have := hG.each y hy
    exact ⟨this.1, by omega⟩)
  obtain ⟨I, hI⟩ : ∃ I, I = ids C := ⟨_, rfl⟩
  rw [← hI] at HCV HB0 hIl HIM ⊢
  obtain ⟨n, hn⟩ : ∃ n, n = I.length := ⟨_, rfl⟩
  have HN := Lib.hid hn
  have hnc : n = C.length := by omega
  have hnb : n ≤ 10000000 := by omega
  have HNC := Lib.hid hnc
  have HID := Lib.hid (show 1 ≤ v.id ∧ v.id ≤ 10000000 by omega)
  obtain ⟨p, hp⟩ : ∃ p, p = v.id := ⟨_, rfl⟩
  obtain ⟨g, hg⟩ : ∃ g, g = v.near := ⟨_, rfl⟩
  rw [← hp] at cf HG0 hgp HB0 HID ⊢
  rw [← hg] at cf HG0 hgp hnear hkid
  have HGP := Lib.hid hgp
  have hi0 : i64 (p : Nat) := by rw [hp]; exact hi0
  generalize v.kept = gk at cf
  clear hE hlt how ht htb hR hG hv hcl hks hF hx hI hn hnc hgp hp hg hIl
  go_enter Tryz.func12, Tryz.ntmps12
  go_wp2_with fail
  go_at_call 30
  refine cf.mono ?_
  rintro e w1 ⟨rfl, hb1⟩
  have hB2 : Below W.heap.size W (w1.alloc (.cells #[.int .i64 (g : Nat), .string gk] 71)) := hb1.alloc hb1.size _
  have cv := HCV.out _ hB2
  have hg2 : (w1.alloc (.cells #[.int .i64 (g : Nat), .string gk] 71)).cell? ⟨w1.heap.size, 0, none⟩ = some (.int .i64 (g : Nat)) := by go_simp
  have hs2 : w1.heap.size < (w1.alloc (.cells #[.int .i64 (g : Nat), .string gk] 71)).heap.size := by simp
  have HG2 := Lib.hid hg2
  have HS2 := Lib.hid hs2
  have HB2 := Lib.hid hB2
  have HS1 := Lib.hid hb1.size
  clear cf hb1 hg2 hs2 hB2
  go_wp2_with fail
  go_at_call 31
  refine cv.mono ?_
  rintro e w3 ⟨vI, rfl, hO3, hb3⟩
  have hB3 := Tx.below_call HB2.out hb3
  have hg3 := (hb3.cell (p := ⟨w1.heap.size, 0, none⟩) HS2.out).trans HG2.out
  have hs3 : w1.heap.size < w3.heap.size := Nat.lt_of_lt_of_le HS2.out hb3.size
  have hnF : ∀ i, W.heap.size ≤ i → ¬ F i := fun i hi hh => by have := HLT.out i hh; omega
  have HBX := Lib.hid (fun V (hV : Chg F w3 V) => (cell_same10 (k := 0) (hV.block w1.heap.size hs3 (hnF _ HS1.out))).trans hg3)
  obtain ⟨aI, cI, rfl, hsl, hcI, _⟩ := hO3.form
  have hIat : ∀ V, Chg F w3 V → ∀ k y, I[k]? = some y → ∃ gI oI, aI = some ⟨gI, oI, none⟩ ∧ V.cell? ⟨gI, oI + k, none⟩ = some (.int .i64 (y : Nat)) := fun V hV k y hy => by
    have hk := (List.getElem?_eq_some_iff.1 hy).1
    rcases hO3.2 with ⟨h0, _⟩ | ⟨gg, cap, cur, h0, hgb, hh2, _⟩
    · injection h0 with _ h0 _
      omega
    · injection h0 with h0 _ _
      rcases hsl.2 with h1 | ⟨gI, oI, h1, h2, h3⟩
      · omega
      · refine ⟨gI, oI, h1, ?_⟩
        rw [h0] at h1
        injection h1 with h1
        injection h1 with h1 h1'
        have := hV.block gI h2 (hnF _ (by rw [← h1]; have := HB2.out.size; omega))
        exact (cell_same10 this).trans (h3 k y hy)
  have HIA := Lib.hid hIat
  rw [← HN.out] at hcI ⊢
  have HM0 := Lib.hid (HB0.out w3 hB3)
  have HTZ3 : Hid (TabZ (w3, F)) := Lib.hid (HTZ.out w3 hB3)
  have HB3 := Lib.hid hB3
  clear cv hO3 hsl hIat hnF hg3 hb3 hB3 HG2
  go_wp2_with fail
  go_loopw [24] (fun iv wr => ∃ (i : Nat) (C1 : List Vn) (l1 : List Ch), i ≤ n ∧ iv = .int .i64 i ∧ Mid10 b j t m u x (w3, F) I D r M S l.length (wt l) p i C1 l1 wr) (fun iv _ => n - (intOf iv).toNat)
  case atStart => exact ⟨0, C, l, Nat.zero_le _, rfl, HM0.out⟩
  case round =>
    obtain ⟨i, C1, l1, hi, rfl, hm⟩ := hrel
    by_cases hlt : i < n
    · obtain ⟨a, ha⟩ : ∃ a, I[i]? = some a := ⟨_, List.getElem?_eq_getElem (by rw [← HN.out]; exact hlt)⟩
      obtain ⟨gI, oI, rfl, g0⟩ := HIA.out wr hm.own.chg i a ha
      have hiz : (i : Int) < (n : Int) := by omega
      have ham := HIM.out a (List.mem_of_getElem? ha)
      have hai : i64 (a : Nat) := by unfold i64; omega
      obtain ⟨y, hy, hya⟩ : ∃ y ∈ C1, y.id = a := by
        have : a ∈ ids C1 := by rw [hm.ids]; exact List.mem_of_getElem? ha
        obtain ⟨y, hy, e⟩ := List.mem_map.1 this
        exact ⟨y, hy, e⟩
      have htw := tab_below HTZ3.out hm.own.chg
      have cf := vfind_any (n := (a : Int)) hm.own hm.rows (hm.good.nice (by omega)) (by omega) hai (htw wr (Below.refl _ _))
      have hat : atI C1 (a : Int) = some y := by rw [← hya]; exact hm.good.at hy
      rw [hat] at cf
      simp only at cf
      unfold vnV at cf
      have hyn := (hm.good.nice (by omega) y hy).1
      by_cases hnp : y.near = p
      · have hbp : ((y.near : Int) == (p : Int)) = true := by rw [hnp]; exact beq_self_eq_true _
        have hys := hm.good.each y hy
        have HGET := Lib.hid (fun V (hV : Below wr.heap.size wr V) => vget_any (n := (a : Int)) (owf_below hm.own hV) hm.rows hm.good (by omega) hS hai (fun V2 hV2 => htw V2 (Tx.below_call hV hV2)))
        have HTE := Lib.hid (fun V (hV : Below wr.heap.size wr V) => tell_any (n := (g : Int)) (d := D a) (owf_below hm.own hV) hm.rows hm.good (by omega) hS hkid (fun V2 hV2 => htw V2 (Tx.below_call hV hV2)) (by rw [← hya]; omega))
        rw [hat] at HGET
        simp only [hya] at HGET
        obtain ⟨t1, _, t3⟩ := tell_good hm.good (by omega) (D a) (g : Int) (by rw [← hya]; exact hys.2.2.2.1)
        have hda : (D a).size ≤ S := by rw [← hya]; exact hys.2.2.2.1
        have htn : (tell C1 (D a) (g : Int)).1 ≤ 1000000000 := by
          by_cases h0 : (tell C1 (D a) (g : Int)).1 = 0
          · omega
          · obtain ⟨v2, hv2, e, _⟩ := t3 h0
            have := (hm.good.each v2 hv2).2.1
            omega
        have hl1 := hm.len
        have HKE := Lib.hid (fun V (hV : Below wr.heap.size wr V) => vkeep_any (n := (a : Int)) (h := (tell C1 (D a) (g : Int)).1) (d := (tell C1 (D a) (g : Int)).2) (owf_below hm.own hV) hai (fun V2 hV2 => htw V2 (Tx.below_call hV hV2)) (by omega) (by omega) (by omega))
        have HMORE := Lib.hid (fun W9 ho => hm.more (W9 := W9) (y := y) (g := g) hy (by rw [hya]; exact ha) hnp HID.out.1 HG0.out HGP.out hS (by omega) ho)
        rw [hya] at HMORE
        have HCHG := Lib.hid (fun V (hV : Below wr.heap.size wr V) => hm.own.chg.then (Chg.of_below hV))
        generalize (tell C1 (D a) (g : Int)) = TL at HTE HKE HMORE t1 htn
        obtain ⟨p1, p2⟩ := TL
        simp only at HTE HKE HMORE t1 htn
        obtain ⟨yid, ynear, ykept⟩ := y
        simp only at cf hbp hyn
        have HBXw := Lib.hid (fun V (hV : Below wr.heap.size wr V) => HBX.out V (HCHG.out V hV))
        generalize D a = DA at HGET HTE hda t1
        clear hm hy hya hat hnp hys t3 htw ha hl1
        go_wp2_with fail
        go_at_call 30
        refine cf.mono ?_
        rintro e w5 ⟨rfl, hb5⟩
        have hB6 := hb5.alloc hb5.size (.cells #[.int .i64 (ynear : Nat), .string ykept] 71)
        have cg := HGET.out _ hB6
        have HB6 := Lib.hid hB6
        clear cf hb5 hB6 g0
        go_wp2_with fail
        go_at_call 17
        refine cg.mono ?_
        rintro e w6 ⟨rfl, hb6⟩
        have hB7 := Tx.below_call HB6.out hb6
        have hgx := HBXw.out w6 hB7
        have ct := HTE.out w6 hB7
        unfold vnV at ct
        have HB7 := Lib.hid hB7
        clear cg hb6 hB7
        go_wp2_with fail
        go_at_call 29
        refine ct.mono ?_
        rintro e w7 ⟨rfl, hb7⟩
        have ck := HKE.out w7 (Tx.below_call HB7.out hb7)
        unfold vnV at ck
        clear ct hb7 hgx
        go_wp2_with fail
        go_at_call 28
        refine ck.mono ?_
        rintro e w8 ⟨rfl, ho8⟩
        have hm8 := HMORE.out w8 ho8
        clear ck ho8
        go_wp2_with fail
        go_roundw
        case rel => exact ⟨i + 1, _, _, by omega, by go_num, hm8⟩
        case measure => simp [intOf]; omega
      · have hbp : ((y.near : Int) == (p : Int)) = false := by simp; omega
        have HM := Lib.hid (fun V (hV : Below wr.heap.size wr V) => (hm.skip hy (by rw [hya]; exact ha) hnp).below hV)
        obtain ⟨yid, ynear, ykept⟩ := y
        simp only at cf hbp hyn
        clear hm hy hya hat hnp htw ha
        go_wp2_with fail
        go_at_call 30
        refine cf.mono ?_
        rintro e w5 ⟨rfl, hb5⟩
        have hm5 := HM.out _ (hb5.alloc hb5.size (.cells #[.int .i64 (ynear : Nat), .string ykept] 71))
        clear cf hb5 g0
        go_wp2_with fail
        go_roundw
        case rel => exact ⟨i + 1, _, _, by omega, by go_num, hm5⟩
        case measure => simp [intOf]; omega
    · obtain rfl : i = n := by omega
      have ck := keyOf_any (p : Int) wr hi0 (tab_below HTZ3.out hm.own.chg wr (Below.refl _ _))
      have hks := keyI_size hi0
      have hl1 := hm.len
      have HD := Lib.hid (fun V (hV : Below wr.heap.size wr V) => f_drop (key := keyI (p : Int)) (owf_below hm.own hV) (by omega) (by omega))
      have HFIN : Hid (∀ V, OwF (Tu b j t m u) (w3, F) (x, bat l1 ⟨keyI (p : Int), ⟨#[]⟩, true⟩) V → ∃ l', (∃ C', Rp (all7 x.L l') C' M ∧ Gv C' D r M S ∧ ids C' = I.filter (fun k => !decide (k = p)) ∧ l'.length ≤ l.length + C.length + 1 ∧ (∀ c ∈ l', c.key.size ≤ 1000) ∧ wt l' ≤ wt l + C.length * 4300 + 100) ∧ LeftA (Tu b j t m u) W F (x, l') V) := Lib.hid (fun V ho => by
        have hf := f_facts hm.own
        refine ⟨_, ⟨delV C1 p, ?_, good_del10 hm.good (fun y hy => ?_) (by have := HID.out; omega), by rw [ids_del, hm.ids], ?_, fun c hc => ?_, ?_⟩, left_of HB3.out ho⟩
        · rw [all_bat hf.1 hf.2]
          exact rp_del hm.rows p
        · have : y.id ∈ I := by rw [← hm.ids]; exact List.mem_map.2 ⟨y, hy, rfl⟩
          obtain ⟨k, hk⟩ := List.getElem?_of_mem this
          exact hm.none y hy ⟨k, by have := (List.getElem?_eq_some_iff.1 hk).1; rw [HN.out]; exact this, hk⟩
        · have := bat_len l1 ⟨keyI (p : Int), ⟨#[]⟩, true⟩
          have := HNC.out
          omega
        · rcases bat_mem hc with rfl | hc
          · show (keyI _).size ≤ 1000
            omega
          · exact hm.keys c hc
        · have h1 := wt_bat hf.2 ⟨keyI (p : Int), ⟨#[]⟩, true⟩
          have h2 := hm.wt
          have h3 : (⟨#[]⟩ : ByteArray).size = 0 := rfl
          simp only at h1
          rw [← HNC.out]
          omega)
      generalize keyI (p : Int) = KP at ck HD HFIN hks
      clear hm hl1 hlt
      go_wp2_with fail
      go_at_call 33
      refine ck.mono ?_
      rintro e w5 ⟨rfl, hb5⟩
      have cd := HD.out w5 hb5
      clear ck hb5
      go_wp2_with fail
      go_at_call 32
      refine cd.mono ?_
      rintro e w6 ⟨rfl, ho6⟩
      obtain ⟨l', h1, h2⟩ := HFIN.out w6 ho6
      clear cd ho6
      go_wp2_with fail
      go_ret
      exact ⟨l', ⟨rfl, h1⟩, h2⟩
theorem drop_any {v : Vn} (h : Bc b j t m u x w0 C D M S N V W) (hx : Xk x) (hv : v ∈ C) (hM : M ≤ 10000000) (hN : N ≤ 10000000) (hS : S ≤ 100000000) (hcl : C.length ≤ 10000000) (ht : TabZ w0) :
    Calls Tryz.prog 12 #[.pointer (some ⟨u, 0, none⟩), .int .i64 (v.id : Nat)] W fun e w' => e = .returned (.int .i64 0) ∧ ∃ C', ids C' = (ids C).filter (fun k => !decide (k = v.id)) ∧ Bc b j t m u x w0 C' D M S (N + C.length + 1) (V + C.length * 4300 + 100) w' := by
  obtain ⟨l, r, h1, h2, h3, h4, h5, h6⟩ := h
  have hf0 := f_facts h1
  obtain ⟨F, q1, q2, q3⟩ := h1
  have hz : TabZ (W, F) := fun V hV => ht V (q2.trans hV q3)
  refine (drop_left q1 hx h2 h3 hv hM (by omega) h5 hS hcl hz).mono ?_
  rintro e w' ⟨l', ⟨he, C', g1, g2, g3, g4, g5, g6⟩, F', p1, p2, p3⟩
  refine ⟨he, C', g3, l', r, ⟨F', p1, q2.trans p2 q3, fun g hg => ?_⟩, g1, g2, by omega, g5, by omega⟩
  rcases p3 g hg with hh | hh
  · exact q3 g hh
  · exact .inr (Nat.le_trans q2.size hh)
set_option maxRecDepth 100000 in
set_option maxHeartbeats 2000000 in
theorem drop_none {n : Int} (h : Bc b j t m u x w0 C D M S N V W) (hn : i64 n) (ha : atI C n = none) (hM : M ≤ 10000000) (hS : S ≤ 100000000) (ht : TabZ w0) :
    Calls Tryz.prog 12 #[.pointer (some ⟨u, 0, none⟩), .int .i64 n] W fun e w' => e = .returned (.int .i64 11) ∧ Bc b j t m u x w0 C D M S N V w' := by
  have HB := Lib.hid (fun W1 (hb : Below W.heap.size W W1) => h.below hb)
  obtain ⟨l, r, h1, h2, h3, h4, h5, h6⟩ := h
  have cf := vfind_any (n := n) h1 h2 (h3.nice (by omega)) (by omega) hn (tab_below ht h1.chg W (Below.refl _ _))
  rw [ha] at cf
  simp only at cf
  unfold vnV at cf
  clear h1 h2 h3 h4 h5 h6 ha ht
  go_enter Tryz.func12, Tryz.ntmps12
  go_wp2_with fail
  go_at_call 30
  refine cf.mono ?_
  rintro e w1 ⟨rfl, hb1⟩
  have h9 := HB.out _ (hb1.alloc hb1.size (.cells #[.int .i64 ((0 : Nat) : Int), .string ⟨#[]⟩] 71))
  clear cf hb1
  go_wp2_with fail
  go_ret
  exact ⟨rfl, h9⟩
end
end Go.Proofs.YtdfcbnejnnibpaaGreatDoor.Cn

namespace Go.Proofs.YtdfcbnejnnibpaaGreatDoor.Cn
open Go.RowKit Tx Pm Dk Wm Wr Wl Pl Tb Bl
set_option linter.unusedVariables false
set_option linter.unusedSimpArgs false
set_option linter.unnecessarySimpa false
def x0 : Tst := ⟨⟨s0T, [], false⟩, []⟩
theorem xk0 : Xk x0 := ⟨Nat.zero_le _, fun _ h => by cases h⟩
theorem gv_nil (D : Nat → ByteArray) (M S : Nat) : Gv [] D (fun _ => 0) M S := ⟨List.Pairwise.nil, fun _ h => (by cases h), fun _ h => (by cases h), fun _ h => (by cases h)⟩
theorem rp_nil : Rp [] [] 0 := ⟨List.Pairwise.nil, fun p _ => rfl, rfl⟩
theorem bc_new {b j t m u : Nat} {w0 W : World} (D : Nat → ByteArray) (S : Nat) (h : Own (Tu b j t m u) w0 (x0, []) W) : ∃ F : Nat → Prop, (∀ i, F i → w0.heap.size ≤ i) ∧ Bc b j t m u x0 (W, F) [] D 0 S 0 0 W := by
  obtain ⟨F, h1, h2⟩ := own_owf h
  exact ⟨F, h1, [], fun _ => 0, h2, rp_nil, gv_nil D 0 S, Nat.le_refl _, (fun _ h => by cases h), Nat.le_refl _⟩
set_option maxRecDepth 100000 in
theorem made_any10 (D : Nat → ByteArray) (S : Nat) (w0 W : World) (hb : Below w0.heap.size w0 W) : Calls Tryz.prog 16 #[] W fun e w' => ∃ b j t m u F, e = .returned (.pointer (some ⟨u, 0, none⟩)) ∧ Below w0.heap.size w0 w' ∧ (∀ i, F i → w0.heap.size ≤ i) ∧ Bc b j t m u x0 (w', F) [] D 0 S 0 0 w' := by
  go_enter Tryz.func16, Tryz.ntmps16
  go_wp2_with fail
  go_at_call 7
  refine (w_new w0 hb).mono ?_
  rintro e w1 ⟨b, rfl, o1⟩
  go_wp2_with fail
  go_at_call 6
  refine (a_open o1 new_ok7 new_open7).mono ?_
  rintro e w2 ⟨t, j, m, rfl, o2⟩
  clear o1
  go_wp2_with fail
  go_at_call 9
  refine (a_begin o2).mono ?_
  rintro e w3 ⟨u, rfl, o3⟩
  clear o2
  have hbel := o3.bel
  obtain ⟨F, h1, h2⟩ := bc_new D S o3
  clear o3
  go_wp2_with fail
  go_ret
  exact ⟨b, j, t, m, u, F, rfl, hbel, h1, h2⟩
theorem tabz {w W : World} {F : Nat → Prop} (hT : Tab w) (hb : Below w.heap.size w W) (hF : ∀ i, F i → w.heap.size ≤ i) : TabZ (W, F) := fun V hc => hT.below (hb.trans (hc.below hb.size hF))
section
variable {w0 : World × (Nat → Prop)} {W : World} {b j t m u M S N V : Nat} {x : Tst} {C : List Vn} {D : Nat → ByteArray}
theorem mem_at {r : Nat → Nat} {n : Nat} (hg : Gv C D r M S) (hn : n ∈ ids C) : ∃ v ∈ C, v.id = n ∧ atI C (n : Int) = some v := by
  obtain ⟨v, hv, rfl⟩ := List.mem_map.1 hn
  exact ⟨v, hv, rfl, hg.at hv⟩
theorem not_at {n : Int} (hn : ∀ k : Nat, k ∈ ids C → (k : Int) ≠ n) : atI C n = none := by
  cases ha : atI C n with
  | none => rfl
  | some v =>
    obtain ⟨hv, e⟩ := atI_some ha
    exact absurd e (hn v.id (List.mem_map.2 ⟨v, hv, rfl⟩))
theorem ids_le {r : Nat → Nat} {n : Nat} (hg : Gv C D r M S) (hn : n ∈ ids C) : 1 ≤ n ∧ n ≤ M := by
  obtain ⟨v, hv, rfl⟩ := List.mem_map.1 hn
  have := hg.each v hv
  exact ⟨this.1, this.2.1⟩
theorem bc_get {n : Nat} (h : Bc b j t m u x w0 C D M S N V W) (hn : n ∈ ids C) (hM : M ≤ 10000000) (hS : S ≤ 100000000) (ht : TabZ w0) :
    Calls Tryz.prog 17 #[.pointer (some ⟨u, 0, none⟩), .int .i64 (n : Nat)] W fun e w' => e = .returned (.tuple #[.string (D n), .int .i64 0]) ∧ Below W.heap.size W w' := by
  obtain ⟨l, r, h1, h2, h3, _⟩ := h
  have hr := ids_le h3 hn
  obtain ⟨v, hv, e, ha⟩ := mem_at h3 hn
  have c := vget_any (n := (n : Int)) h1 h2 h3 (by omega) hS (by unfold i64; omega) (tab_below ht h1.chg)
  rw [ha] at c
  simp only [e] at c
  exact c
theorem bc_get_none {n : Int} (h : Bc b j t m u x w0 C D M S N V W) (hi : i64 n) (hn : ∀ k : Nat, k ∈ ids C → (k : Int) ≠ n) (hM : M ≤ 10000000) (hS : S ≤ 100000000) (ht : TabZ w0) :
    Calls Tryz.prog 17 #[.pointer (some ⟨u, 0, none⟩), .int .i64 n] W fun e w' => e = .returned (.tuple #[.string ⟨#[]⟩, .int .i64 11]) ∧ Below W.heap.size W w' := by
  obtain ⟨l, r, h1, h2, h3, _⟩ := h
  have c := vget_any (n := n) h1 h2 h3 (by omega) hS hi (tab_below ht h1.chg)
  rw [not_at hn] at c
  exact c
theorem bc_depth {n : Int} (h : Bc b j t m u x w0 C D M S N V W) (hi : i64 n) (hM : M ≤ 10000000) (hS : S ≤ 100000000) (ht : TabZ w0) :
    Calls Tryz.prog 18 #[.pointer (some ⟨u, 0, none⟩), .int .i64 n] W fun e w' => e = .returned (.int .i64 (((lnC C n).length : Nat) - 1)) ∧ Below W.heap.size W w' := by
  obtain ⟨l, r, h1, h2, h3, _⟩ := h
  exact depth_any h1 h2 h3 (by omega) hS hi (tab_below ht h1.chg)
theorem bc_bytes (h : Bc b j t m u x w0 C D M S N V W) (hx : Xk x) (hM : M ≤ 10000000) (hN : N ≤ 10000000) (hS : S ≤ 100000000) (ht : TabZ w0) :
    Calls Tryz.prog 19 #[.pointer (some ⟨u, 0, none⟩)] W fun e w' => e = .returned (.int .i64 (byC C : Nat)) ∧ Below W.heap.size W w' := by
  obtain ⟨l, r, h1, h2, h3, h4, h5, _⟩ := h
  exact bytes_any h1 hx (by omega) h5 h2 h3 (by omega) hS (tab_below ht h1.chg)
theorem ids_add (C : List Vn) (M : Nat) (d : ByteArray) (n : Int) : ids (addC C M d n) = ids C ++ [M + 1] := by
  unfold ids addC
  rw [List.map_append]
  rfl
end
def h1B : ByteArray := ⟨#[104, 101, 108, 108, 111, 32, 104, 101, 108, 108, 111, 32, 104, 101, 108, 108, 111]⟩
def h2B : ByteArray := ⟨#[104, 101, 108, 108, 111, 32, 104, 101, 108, 108, 111, 32, 104, 101, 108, 108, 111, 33]⟩
set_option maxRecDepth 100000 in
set_option maxHeartbeats 2000000 in
theorem awake_any10 (w0 W : World) (hb : Below w0.heap.size w0 W) (ht : Tab w0) : Calls Tryz.prog 8 #[] W fun e w' => e = .returned (.bool true) ∧ Below w0.heap.size w0 w' := by
  go_enter Tryz.func8, Tryz.ntmps8
  go_wp2_with fail
  go_at_call 16
  refine (made_any10 (fun _ => ⟨#[]⟩) 100 w0 W hb).mono ?_
  rintro e w1 ⟨b, j, t, m, u, F, rfl, hb1, hF, o1⟩
  have HZ : Hid (TabZ (w1, F)) := Lib.hid (tabz ht hb1 hF)
  have c1 := add_any (d := h1B) (n := 0) o1 (by omega) (by omega) (by omega) (by decide) (by unfold i64; omega) HZ.out
  have i1 : ids (addC [] 0 h1B 0) = [1] := rfl
  obtain ⟨C1, hC1⟩ : ∃ C1, C1 = addC [] 0 h1B 0 := ⟨_, rfl⟩
  obtain ⟨D1, hD1⟩ : ∃ D1, D1 = addD (fun _ => ⟨#[]⟩) 0 h1B := ⟨_, rfl⟩
  rw [← hC1, ← hD1] at c1
  rw [← hC1] at i1
  have I1 := Lib.hid i1
  unfold h1B at c1
  clear o1 i1 hC1 hD1
  go_wp2_with fail
  go_at_call 10
  refine c1.mono ?_
  rintro e w2 ⟨rfl, o2⟩
  have c2 := add_any (d := h2B) (n := 1) o2 (by omega) (by omega) (by omega) (by decide) (by unfold i64; omega) HZ.out
  have i2 : ids (addC C1 (0 + 1) h2B 1) = [1, 2] := by rw [ids_add, I1.out]; rfl
  have l2 : (addC C1 (0 + 1) h2B 1).length = 2 := by rw [← len_ids, i2]; rfl
  have d2 : addD D1 (0 + 1) h2B 2 = h2B := by unfold addD; rw [if_pos (by omega)]
  generalize addC C1 (0 + 1) h2B 1 = C2 at c2 i2 l2
  generalize addD D1 (0 + 1) h2B = D2 at c2 d2
  have I2 := Lib.hid i2
  have L2 := Lib.hid l2
  have D2' := Lib.hid d2
  unfold h2B at c2
  clear c1 o2 i2 l2 d2
  go_wp2_with fail
  go_at_call 10
  refine c2.mono ?_
  rintro e w3 ⟨rfl, o3⟩
  obtain ⟨v, hv, hv1⟩ : ∃ v ∈ C2, v.id = 1 := by
    have : 1 ∈ ids C2 := by rw [I2.out]; simp
    obtain ⟨v, hv, e⟩ := List.mem_map.1 this
    exact ⟨v, hv, e⟩
  have c3 := drop_any o3 xk0 hv (by omega) (by omega) (by omega) (by rw [L2.out]; omega) HZ.out
  rw [hv1, I2.out] at c3
  clear c2 o3 hv hv1
  go_wp2_with fail
  go_at_call 12
  refine c3.mono ?_
  rintro e w4 ⟨rfl, C', hi', o4⟩
  have c4 := bc_get (n := 2) o4 (by rw [hi']; decide) (by omega) (by omega) HZ.out
  rw [D2'.out] at c4
  unfold h2B at c4
  have hbel := hb1.trans (o4.chg.below hb1.size hF)
  have HBE := Lib.hid hbel
  clear c3 o4 hi' hbel
  go_wp2_with fail
  go_at_call 17
  refine c4.mono ?_
  rintro e w5 ⟨rfl, hb5⟩
  have hB5 := Tx.below_call HBE.out hb5
  clear c4 hb5
  go_wp2_with fail
  go_ret
  exact ⟨rfl, hB5⟩
end Go.Proofs.YtdfcbnejnnibpaaGreatDoor.Cn

namespace Go.Proofs.YtdfcbnejnnibpaaGreatDoor.Dk
open Go.ChangeShapes Go.WideShapes Go.ChangeAt Go.RowKit Tx
set_option linter.unusedVariables false
theorem bulk_strs {H : Type} (l : List ByteArray) : Rows.uptoBulkAll (strs (H := H) l) = (l.map (·.size)).sum + l.length := by
  induction l with
  | nil => rfl
  | cons s l ih =>
    have e : Rows.uptoBulkAll (strs (H := H) (s :: l)) = (s.data.toList.length + 1) + Rows.uptoBulkAll (strs (H := H) l) := rfl
    rw [e, ih, len_l, List.map_cons, List.sum_cons, List.length_cons]
    omega
theorem str_weights {H : Type} (s : ByteArray) : DataW.weights Tryz.prog 9 (.lit (.string s.data.toList) : DataW H) = [s.data.toList.length] := by
  rw [DataW.weights]
theorem strs_weights {H : Type} {x : ByteArray} {n : Nat} : ∀ {l : List ByteArray}, x ∈ l → n ∈ DataW.weights Tryz.prog 9 (.lit (.string x.data.toList) : DataW H) → n ∈ DataW.weightsAll Tryz.prog 9 (strs (H := H) l)
  | y :: l, hx, hn => by
    have e : strs (H := H) (y :: l) = .lit (.string y.data.toList) :: strs l := rfl
    rw [e, DataW.weightsAll, List.mem_append]
    rcases List.mem_cons.1 hx with rfl | hx
    · exact .inl hn
    · exact .inr (strs_weights hx hn)
def Wide1 (l : List ByteArray) : Prop := ∀ x ∈ l, x.size ≤ 140737488351232
theorem wide_strs {H : Type} {ts : List TypeId} {ds : List (DataW H)} (h : (DataW.weightsEach Tryz.prog ts ds).all (· ≤ reachBytes) = true) {j : Nat} {l : List ByteArray} {rest : List (DataW H)} (ht : ts[j]? = some 45) (hd : ds[j]? = some (.slice (strs l) rest)) : Wide1 l := by
  intro x hx
  have hall := List.all_eq_true.1 h
  have hm := DataW.weights_mem_each (P := Tryz.prog) ht hd x.data.toList.length (by
    rw [DataW.weights, Tryz.underlying45]
    exact List.mem_cons_of_mem _ (List.mem_append_left _ (strs_weights hx (by rw [str_weights]; simp))))
  have := of_decide_eq_true (hall _ hm)
  rw [len_l] at this
  exact this
theorem arg_texts {H : Type} {enc : TypeId × Value → H} {w : World} {base : Nat} {spare : Nat → Bool} {held : Bool} {a : Option Addr} {n c : Nat} {d : DataW H} {p : List MemPlace} (h : DataW.Trod enc Tryz.prog w base spare held 45 (.slice a n c) d p) :
    ∃ l : List ByteArray, Strs w a n l ∧ (l.map (·.size)).sum ≤ Rows.uptoBulk d ∧ l.length ≤ Rows.uptoBulk d ∧ n ≤ c ∧ c ≤ 9223372036854775807 ∧ ∀ {ts : List TypeId} {ds : List (DataW H)} {j : Nat}, (DataW.weightsEach Tryz.prog ts ds).all (· ≤ reachBytes) = true → ts[j]? = some 45 → ds[j]? = some d → Wide1 l := by
  obtain ⟨fuel, hf⟩ := h
  rcases open_strings Tryz.underlying45 Tryz.underlying9 (by kernel_rfl) hf with ⟨hcs, _⟩ | ⟨x, len, cap, ss, hcs, _, hl, hm, hz, hx, hcell, _⟩
  · simp [Value.cells] at hcs
    obtain ⟨rfl, rfl, rfl⟩ := hcs
    exact ⟨[], ⟨rfl, .inl rfl⟩, Nat.zero_le _, Nat.zero_le _, by omega, by omega, fun _ _ _ x hx => by cases hx⟩
  · simp [Value.cells] at hcs
    obtain ⟨rfl, rfl, rfl⟩ := hcs
    unfold maxLen at hm
    have hz' : n ≤ ss.length := by rw [hz]; split <;> omega
    have hd : d = .slice (strs (ss.take n)) (strs (ss.drop n)) := congrArg Prod.fst hx
    have e : Rows.uptoBulk d = Rows.uptoBulkAll (strs (H := H) (ss.take n)) + Rows.uptoBulkAll (strs (H := H) (ss.drop n)) + 1 := by rw [hd]; rfl
    rw [bulk_strs] at e
    have hlen : (ss.take n).length = n := by rw [List.length_take]; omega
    refine ⟨ss.take n, ⟨hlen, ?_⟩, by omega, by omega, hl, by omega, fun h1 h2 h3 => wide_strs h1 h2 (by rw [h3, hd])⟩
    by_cases h0 : n = 0
    · exact .inl h0
    · right
      obtain ⟨b, off, spot⟩ := x
      have hc0 := hcell 0 (by omega)
      have hspot : spot = none := by simpa [Addr.add] using World.cell?_spot hc0
      subst hspot
      refine ⟨b, off, rfl, ?_, fun k y hk => ?_⟩
      · have := World.block_lt_of_cell? w _ hc0
        rwa [WideShapes.add_plain] at this
      · have hk2 := (List.getElem?_eq_some_iff.1 hk).1
        rw [hlen] at hk2
        have hk3 := hcell k (by omega)
        rw [WideShapes.add_plain] at hk3
        rw [hk3]
        rw [List.getElem?_take_of_lt hk2] at hk
        rw [List.getD_eq_getElem?_getD, hk]
        rfl
end Go.Proofs.YtdfcbnejnnibpaaGreatDoor.Dk

namespace Go.Proofs.YtdfcbnejnnibpaaGreatDoor.Cn
open Go.ChangeMaps (open_string shut_string)
open Go.ChangeShapes Go.WideShapes Go.ChangeAt Go.RowKit Tx Pm Dk Wm Wr Wl Pl Tb Bl
set_option linter.unusedVariables false
set_option linter.unusedSimpArgs false
set_option linter.unnecessarySimpa false
theorem gTab : Tryz.prog.globalNamed "internal/strconv.uint64pow10" = some 2 := by kernel_rfl
theorem gTabT : (Tryz.prog.globals[(2 : Nat)]?).map (·.type) = some 229 := by kernel_rfl
theorem tab_laid {W : World} (h : laidMetH Tryz.prog Rows.chainSmallRow.laid W) : Tab W := by
  rw [MakeChecks.laidMetH_plain _ _ _ (by kernel_rfl)] at h
  obtain ⟨g, t, cs, fuel, p, h1, h2, h3, h4⟩ := Lib.laidMet.reads h (n := "internal/strconv.uint64pow10") (d := Rows.laid_internal_strconv_uint64pow10) (List.mem_cons_of_mem _ (List.mem_cons_of_mem _ (List.mem_cons_self ..)))
  obtain rfl := Option.some.inj (gTab.symm.trans h1)
  obtain rfl := Option.some.inj (gTabT.symm.trans h2)
  have e := Lib.cells_of_tab (k := .u64) (zs := Lib.pow10Tab) (n := 20) Tryz.underlying229 Tryz.underlying131 (by kernel_rfl) (by kernel_rfl) h4
  unfold Tab Lib.TabIs
  rw [h3, ← e]
end Go.Proofs.YtdfcbnejnnibpaaGreatDoor.Cn
