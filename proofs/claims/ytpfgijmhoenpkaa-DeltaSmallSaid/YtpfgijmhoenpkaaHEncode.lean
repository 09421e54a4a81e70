/- Package delta's Encode: contract. -/
import Derived.Test.YtpfgijmhoenpkaaHLong2
import Derived.Test.YtpfgijmhoenpkaaHPut
namespace Go.Proofs.Ytpfgijmhoenpkaa.Dl
open Go.RowKit Wm Wr Dm
set_option linter.unusedVariables false

theorem enR_end {base text : List UInt8} {A T : Nat} {sh : Int} {out : List UInt8} (h : ¬ A < text.length) : enR base text A T sh out = out ++ Dm.put (text.drop T) := by rw [enR, if_neg h]
theorem enR_skip {base text : List UInt8} {A T : Nat} {sh : Int} {out : List UInt8} {i n : Nat} (h : A < text.length) (hr : lg base (text.drop A) ((A : Int) + sh) = (i, n)) (hn : n < (cop i n).length + 2) : enR base text A T sh out = enR base text (A + 1) T sh out := by
  rw [enR, if_pos h, hr]
  exact dif_pos hn
theorem enR_cop {base text : List UInt8} {A T : Nat} {sh : Int} {out : List UInt8} {i n : Nat} (h : A < text.length) (hr : lg base (text.drop A) ((A : Int) + sh) = (i, n)) (hn : ¬ n < (cop i n).length + 2) : enR base text A T sh out = enR base text (A + n) (A + n) ((i : Int) - A) (out ++ Dm.put ((text.take A).drop T) ++ cop i n) := by
  rw [enR, if_pos h, hr]
  exact dif_neg hn
theorem put_len (x : List UInt8) (h : x.length ≤ 4611686018427387904) : (Dm.put x).length ≤ x.length + 10 := by
  unfold Dm.put
  split
  · simp
  · rw [List.length_append]
    have := vb_len (x := 2 * x.length) (by omega)
    omega
theorem cop_len (i n : Nat) (hi : i < 18446744073709551616) (hn : n < 9000000000000000000) : (cop i n).length ≤ 20 ∧ 0 < (cop i n).length := by
  unfold cop
  rw [List.length_append]
  have h1 := vb_len (x := 2 * n + 1) (by omega)
  have h2 := vb_len (x := i) hi
  have h3 := vb_pos i
  omega
/-- A row that holds something: where it lies. -/
theorem By.cut {w : World} {B : Nat} {v : Value} {l : List UInt8} (h : By w B v l) (hl : 0 < l.length) : ∃ g c, v = .slice (some ⟨g, 0, none⟩) l.length c ∧ B ≤ g ∧ g < w.heap.size ∧ ∀ W : World, W.heap[g]? = w.heap[g]? → ∀ j u, (l.map bv)[j]? = some u → W.cell? (Addr.add ⟨g, 0, none⟩ j) = some u := by
  have hh : w.ownsRow B 5 1 v l.length (l.map bv) := h
  rcases h.2 with ⟨_, h0⟩ | ⟨g, cap, cur, hv, hbg, hg, hnc, _⟩
  · omega
  · refine ⟨g, cap, hv, hbg, (Array.getElem?_eq_some_iff.1 hg).1, fun W hW j u hu => ?_⟩
    have := hh.cells (g := g) (by rw [hv]; rfl) j u hu
    rw [WideShapes.add_plain] at this ⊢
    exact (cell_same hW).trans this
theorem bv_one (l : List UInt8) : ∀ u ∈ l.map bv, u.oneCell' = true := by
  intro u hu
  obtain ⟨b, _, rfl⟩ := List.mem_map.1 hu
  rfl
theorem ext_l2 (s : ByteArray) (i j : Nat) : (s.extract i j).data.toList = (s.data.toList.take j).drop i := by
  rw [ByteArray.data_extract, Array.toList_extract, List.extract_eq_take_drop, List.drop_take]

set_option maxRecDepth 100000 in
set_option maxHeartbeats 16000000 in
theorem encode_any (base text : ByteArray) (w : World) (hb : base.size ≤ 100000000000) (ht : text.size ≤ 100000000000) :
    Calls Try.prog 9 #[.string base, .string text] w fun e w' => e = .returned (.string (Tx.tb (en base.data.toList text.data.toList))) ∧ Below w.heap.size w w' := by
  obtain ⟨i0, hi, hz0, hz1, hz2⟩ := info_parts info5
  have ci := indexed_any base w (by omega)
  have htl := Wm.len_l text
  have hbl := Wm.len_l base
  obtain ⟨RES, hres⟩ : ∃ R, R = en base.data.toList text.data.toList := ⟨_, rfl⟩
  rw [← hres]
  unfold en at hres
  rw [htl] at hres
  have cn := fun W : World => appNum_any (.slice none 0 0) [] text.size W.heap.size W (By.nil _ _) (Nat.le_refl _) (Nat.zero_le _) (by omega)
  rw [List.nil_append] at cn
  have hv0 : (vb text.size).length ≤ 10 := vb_len (by omega)
  have hop0 := vb_pos text.size
  generalize vb text.size = o0 at cn hres hv0 hop0
  have HRES := Lib.hid hres
  clear hres
  go_enter Try.func9, Try.ntmps9
  go_wp2_with fail
  go_at_call 13
  refine ci.mono ?_
  rintro e w1 ⟨b, rfl, hix, hb1⟩
  clear ci
  have cn1 := cn w1
  clear cn
  have HIX := Lib.hid (fun V (hV : Below w1.heap.size w1 V) => hix.below hV)
  clear hix
  go_wp2_with fail
  go_at_call 14
  refine cn1.mono ?_
  rintro e w2 ⟨v2, rfl, ho2, hb2, _, _⟩
  clear cn1
  go_wp2_with fail
  go_loopw [6, 7, 8, 9] (fun ov tv sv av wr => ∃ (A T : Nat) (sh : Int) (out : List UInt8), tv = .int .i64 (T : Nat) ∧ sv = .int .i64 sh ∧ av = .int .i64 (A : Nat) ∧ T ≤ A ∧ A ≤ text.size ∧ (-(text.size : Int) ≤ sh ∧ sh ≤ (base.size : Int)) ∧ out.length ≤ 10 + 11 * T ∧ 0 < out.length ∧ Hid (RES = enR base.data.toList text.data.toList A T sh out) ∧ By wr w1.heap.size ov out ∧ Below w1.heap.size w1 wr) (fun _ _ _ av _ => text.size - (intOf av).toNat)
  case atStart => exact ⟨0, 0, 0, o0, rfl, rfl, rfl, Nat.le_refl _, Nat.zero_le _, by omega, by omega, hop0, HRES, ho2, hb2⟩
  case round =>
    obtain ⟨A, T, sh, out, rfl, rfl, rfl, hTA, hA, hsh, hol, hop, hR, ho, hB⟩ := hrel
    clear ho2 hb2
    by_cases hlt : A < text.size
    · have hltz : (A : Int) < (text.size : Int) := by omega
      have cl := longest_any b base (text.extract A text.size) ((A : Int) + sh) wr (HIX.out wr hB) (by omega) (by simp; omega) (by omega)
      rw [drop_l] at cl
      have hrun := run_lg base.data.toList (text.data.toList.drop A) ((A : Int) + sh)
      obtain ⟨i, n, hr⟩ : ∃ i n, lg base.data.toList (text.data.toList.drop A) ((A : Int) + sh) = (i, n) := ⟨_, _, rfl⟩
      rw [hr] at cl hrun
      unfold Run at hrun
      simp only [List.length_drop] at cl hrun
      rw [htl, hbl] at hrun
      obtain ⟨hr1, hr2, _⟩ := hrun
      have hAs : -9223372036854775808 ≤ (A : Int) + sh ∧ (A : Int) + sh ≤ 9223372036854775807 := by omega
      obtain ⟨hAs1, hAs2⟩ := hAs
      have cc := fun W => appCop_any i n W (by omega) (by omega)
      have hcl := cop_len i n (by omega) (by omega)
      have hlt2 : A < text.data.toList.length := by rw [htl]; exact hlt
      by_cases hn : n < (cop i n).length + 2
      · have hE : Hid (RES = enR base.data.toList text.data.toList (A + 1) T sh out) := Lib.hid (by rw [hR.out]; exact enR_skip hlt2 hr hn)
        obtain ⟨hcl1, hcl2⟩ := hcl
        generalize cop i n = P at cc hn hcl1 hcl2
        generalize hpn : P.length = pn at hn hcl1 hcl2
        have hnz : (n : Int) < (pn : Int) + 2 := by omega
        have HPN := Lib.hid hpn
        clear hR hr hlt2 hpn
        go_wp2_with fail
        go_at_call 15
        refine cl.mono ?_
        rintro e w3 ⟨rfl, hb3⟩
        have hB3 := hB.trans (hb3.mono hB.size)
        have ho3 := ho.kept hb3
        have cc3 := cc w3
        clear cl cc ho hB hb3
        go_wp2_with fail
        go_at_call 16
        refine cc3.mono ?_
        rintro e w4 ⟨v4, rfl, ho4, hb4⟩
        have hB4 := hB3.trans (hb4.mono hB3.size)
        have ho5 := ho3.kept hb4
        obtain ⟨a4, c4, rfl, _, _⟩ := ho4.form
        rw [HPN.out]
        clear cc3 ho3 hB3 hb4 ho4
        go_wp2_with fail
        go_roundw
        case rel => exact ⟨A + 1, T, sh, out, rfl, rfl, by go_num, by omega, by omega, hsh, hol, hop, hE, ho5, hB4⟩
        case measure => simp [intOf]; omega
      · have hE : Hid (RES = enR base.data.toList text.data.toList (A + n) (A + n) ((i : Int) - A) (out ++ Dm.put ((text.data.toList.take A).drop T) ++ cop i n)) := Lib.hid (by rw [hR.out]; exact enR_cop hlt2 hr hn)
        obtain ⟨hcl1, hcl2⟩ := hcl
        have cp := fun v W (h : By W w1.heap.size v out) (hB : w1.heap.size ≤ W.heap.size) => appPut_any v out (text.extract T A) w1.heap.size W h hB (by omega) (by simp; omega)
        rw [ext_l2] at cp
        have hputl := put_len ((text.data.toList.take A).drop T) (by rw [List.length_drop, List.length_take, htl]; omega)
        rw [List.length_drop, List.length_take, htl] at hputl
        have hTz : (T : Int) ≤ (A : Int) := by omega
        have hAz : (A : Int) ≤ (text.size : Int) := by omega
        generalize Dm.put ((text.data.toList.take A).drop T) = PT at cp hE hputl
        generalize cop i n = P at cc hn hcl1 hcl2 hE
        generalize hpn : P.length = pn at hn hcl1 hcl2
        have hnz : ¬ ((n : Int) < (pn : Int) + 2) := by omega
        have HPN := Lib.hid hpn
        have hn4 : 2 ≤ n := by omega
        have hbnd : out.length + PT.length + pn ≤ 10 + 11 * (A + n) := by omega
        have HBND := Lib.hid hbnd
        clear hR hr hlt2 hpn hbnd hputl
        go_wp2_with fail
        go_at_call 15
        refine cl.mono ?_
        rintro e w3 ⟨rfl, hb3⟩
        have hB3 := hB.trans (hb3.mono hB.size)
        have ho3 := ho.kept hb3
        have cc3 := cc w3
        clear cl cc ho hB hb3
        go_wp2_with fail
        go_at_call 16
        refine cc3.mono ?_
        rintro e w4 ⟨v4, rfl, ho4, hb4⟩
        have hB4 := hB3.trans (hb4.mono hB3.size)
        have ho5 := ho3.kept hb4
        obtain ⟨g, c4, rfl, hg3, hg4, hcells⟩ := ho4.cut (by rw [HPN.out]; exact hcl2)
        rw [HPN.out]
        have hgo : some g ≠ u6.ownBlock := fun e => by
          have := (ho3.lt g e.symm).2
          omega
        have cp4 := cp u6 w4 ho5 hB4.size
        have HCE := Lib.hid hcells
        have HGO := Lib.hid hgo
        clear cc3 ho3 hB3 hb4 ho4 cp hcells hgo
        go_wp2_with fail
        go_at_call 17
        refine cp4.mono ?_
        rintro e w5 ⟨v5, rfl, ho6, hb6, ha6⟩
        have hB6 := hB4.trans hb6
        have hce := HCE.out w5 (ha6 g hg4 HGO.out)
        have k0 : P.map bv = P.map bv := rfl
        have k1 : (P.map bv).length = pn * 1 := by rw [List.length_map, HPN.out, Nat.mul_one]
        have k2 := bv_one P
        have k3 : (out ++ PT).length + pn ≤ maxLen := by unfold maxLen; have := HBND.out; rw [List.length_append]; omega
        have k4 : ((out ++ PT).length + pn) * 1 ≤ 140737488355328 := by have := HBND.out; rw [List.length_append]; omega
        have k5 := hB6.size
        have HO6 := Lib.hid ho6
        unfold By at ho6
        clear cp4 ha6 hb6 ho5 hB4
        go_wp2_with (at_builtin; refine wpList_append_own _ rfl _ _ 32 rfl w1.heap.size 5 i0 (.int .u8 0) 1 1 Try.underlying32 hi hz0 hz1 hz2 rfl (by decide) _ _ _ rfl ho6 ⟨g, 0, none⟩ pn c4 (P.map bv) rfl k1 hce k2 k3 k4 k5 ?_)
        intro v7 w7 ho7 hg7 _
        have hB7 : Below w1.heap.size w1 w7 := hB6.grown hg7 hB6.size (fun k hk => (ho6.lt k hk).1)
        have hO7 : By w7 w1.heap.size v7 (out ++ PT ++ P) := by
          have e1 : (out ++ PT ++ P).length = out.length + PT.length + pn := by rw [List.length_append, List.length_append, HPN.out]
          have e2 : (out ++ PT ++ P).map bv = List.map bv out ++ (List.map bv PT ++ List.map bv P) := by rw [List.map_append, List.map_append, List.append_assoc]
          unfold By
          rw [e1, e2]
          exact ho7
        have hl7 : (out ++ PT ++ P).length ≤ 10 + 11 * (A + n) := by rw [List.length_append, List.length_append, HPN.out]; exact HBND.out
        have hl8 : 0 < (out ++ PT ++ P).length := by rw [List.length_append, List.length_append]; omega
        have HO7 := Lib.hid hO7
        have HL7 := Lib.hid hl7
        have HL8 := Lib.hid hl8
        clear ho7 hg7 hO7 ho6 hB6 hce hl7 hl8 k0 k1 k2 k3 k4 k5
        go_wp2_with fail
        go_roundw
        case rel => exact ⟨A + n, A + n, (i : Int) - A, out ++ PT ++ P, by go_num, by go_num, by go_num, Nat.le_refl _, by omega, by omega, HL7.out, HL8.out, hE, HO7.out, hB7⟩
        case measure => simp [intOf]; omega
    · have hltz : ¬ ((A : Int) < (text.size : Int)) := by omega
      have hE : RES = out ++ Dm.put (text.data.toList.drop T) := by rw [hR.out]; exact enR_end (by rw [htl]; exact hlt)
      have HE := Lib.hid hE
      have cp := appPut_any u6 out (text.extract T text.size) w1.heap.size wr ho hB.size (by omega) (by simp; omega)
      rw [drop_l, ← hE] at cp
      have hTz : (T : Int) ≤ (text.size : Int) := by omega
      clear hR hE ho
      go_wp2_with fail
      go_at_call 17
      refine cp.mono ?_
      rintro e w5 ⟨v5, rfl, ho6, hb6, _⟩
      obtain ⟨a6, c6, rfl, _, hcv⟩ := ho6.form
      have hB6 : Below w.heap.size w w5 := hb1.trans ((hB.trans hb6).mono hb1.size)
      clear cp ho6 hb6
      go_wp2_with fail
      go_ret
      exact ⟨rfl, hB6⟩
end Go.Proofs.Ytpfgijmhoenpkaa.Dl
