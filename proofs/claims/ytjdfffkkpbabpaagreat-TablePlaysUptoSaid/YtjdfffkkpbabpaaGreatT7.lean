/- Texts of this seat, one behind the other. -/
import Derived.Test.YtjdfffkkpbabpaaGreatT6
import Derived.ProofKit
import Derived.OpenShut
import Derived.ShutString
import Derived.Deep.Slices
import Derived.Deep.Fields
import Derived.ChangeSame
import Derived.Test.YtjdfffkkpbabpaaGreatRows
namespace Go.Proofs.YtjdfffkkpbabpaaGreat.Tb
open Go.RowKit Tx Pm Dk Wm Wr Wl Pl Od
set_option linter.unusedVariables false
set_option linter.unusedSimpArgs false
set_option linter.unnecessarySimpa false
def cellsN (bw : Nat) (vR : Value) : Obj := .cells #[.pointer (some ⟨bw, 0, none⟩), .string pS, .pointer none, vR] 74 (0, 0)
theorem ncell {bw v : Nat} {vR : Value} {W : World} (hb : W.heap[v]? = some (cellsN bw vR)) : W.cell? ⟨v, 0, none⟩ = some (.pointer (some ⟨bw, 0, none⟩)) ∧ W.cell? ⟨v, 1, none⟩ = some (.string pS) ∧ W.cell? ⟨v, 2, none⟩ = some (.pointer none) ∧ W.cell? ⟨v, 3, none⟩ = some vR ∧ ∀ q, W.frozen? ⟨v, q, none⟩ = false := by
  refine ⟨?_, ?_, ?_, ?_, fun q => ?_⟩
  · unfold World.cell?; rw [hb]; rfl
  · unfold World.cell?; rw [hb]; rfl
  · unfold World.cell?; rw [hb]; rfl
  · unfold World.cell?; rw [hb]; rfl
  · unfold World.frozen?; rw [hb]; simp [cellsN]
def ROpenTo (bw : Nat) (w : World) (F : Nat → Prop) (r : Nat × Tst) (e : Ending) (w' : World) : Prop :=
  (r.1 = 0 ∧ ∃ jw v, e = .returned (.tuple #[.pointer (some ⟨v, 0, none⟩), .int .i64 0]) ∧ LeftA (Rn bw jw v) w F r.2 w') ∨ (r.1 ≠ 0 ∧ e = .returned (.tuple #[.pointer none, .int .i64 (r.1 : Nat)]) ∧ Dk.Left (RefAt bw) w F r.2.j.s w')
theorem rowv_nil (W : World) : RowV W (.slice none 0 0) [] := ⟨none, 0, rfl, ⟨rfl, .inl rfl⟩, Nat.le_refl _⟩
theorem base_inv {s : St} {p : ByteArray} {L : List It} (hk : kind s.L p ≠ 0) (h : base0 s p = (L, 0)) : ∃ d r n l, readS s p = (d, 0) ∧ Fm.fr d = (r, n, 0) ∧ ¬ n < d.size ∧ opsS r = (l, 0) ∧ L = all7 [] l := by
  obtain ⟨d, e, h1⟩ : ∃ d e, readS s p = (d, e) := ⟨_, _, rfl⟩
  by_cases he : e = 0
  · subst he
    obtain ⟨r, n, e2, h2⟩ := Fm.trip (Fm.fr d)
    by_cases he2 : e2 = 0
    · subst he2
      by_cases hn : n < d.size
      · rw [base_3 hk h1 h2 hn] at h
        injection h with _ h
        exact absurd h (by decide)
      · obtain ⟨l, e3, h3⟩ : ∃ l e, opsS r = (l, e) := ⟨_, _, rfl⟩
        by_cases he3 : e3 = 0
        · subst he3
          rw [base_5 hk h1 h2 hn h3] at h
          injection h with h _
          exact ⟨d, r, n, l, h1, h2, hn, h3, h.symm⟩
        · rw [base_4 hk h1 h2 hn h3 he3] at h
          injection h with _ h
          exact absurd h he3
    · rw [base_2 hk h1 h2 he2] at h
      injection h with _ h
      exact absurd h he2
  · rw [base_1 hk h1 he] at h
    injection h with _ h
    exact absurd h he
theorem refAll_own8 {w : World} {v : Value} {l : List Ch} (h : OwnC w 0 v l) (hn : l.length ≤ 1000000000) : Calls Tryz.prog 35 #[.slice none 0 0, v] w fun e w' => ∃ v', e = .returned v' ∧ (OwR w' w.heap.size v' (all7 [] l) ∨ v' = .slice none 0 0 ∧ l = []) ∧ Below w.heap.size w w' := by
  obtain ⟨a, c, rfl, h1, h2⟩ := h.val
  exact refAll_any (.slice none 0 0) [] a l.length c l w (rowv_nil w) h1 List.Pairwise.nil (fun x hx => by cases hx) (by show 0 + l.length ≤ _; omega) h2
set_option maxRecDepth 100000 in
set_option maxHeartbeats 40000000 in
theorem refOpen7_a (bw : Nat) {F : Nat → Prop} {s s1 : St} {L0 : List It} {k : Nat} {y : Jst} {r : Nat × Tst} (w : World) (h : RefAt bw w F s) (hs : s = newS ∧ s1 = (mkdirS s pS).2 ∧ kind s.L pS = 0 ∧ (mkdirS s pS).1 = 0 ∧ kind s1.L pB = 0 ∧ L0 = []) (ok : Ok s) (hb0 : base0 s1 pB = (L0, 0)) (hos : openS s1 pG = (k, y)) (ho : OpenOk s1 pG) (hrec : k = 0 → RecOk L0 y.R) (hn : s.L.length ≤ 1000000000 ∧ s1.L.length ≤ 1000000000) (hz : (readS s1 pG).1.size ≤ 8796093022207) (hbz : (readS s1 pB).1.size ≤ 1000000000) (hr : r = if k = 0 then (0, ⟨y, rows7 L0 y.R⟩) else (k, ⟨y, []⟩)) :
    Calls Tryz.prog 8 #[.pointer (some ⟨bw, 0, none⟩), .string pS] w (ROpenTo bw w F r) := by
  obtain ⟨ob, hob⟩ : ∃ ob, ob = cellsN bw (.slice none 0 0) := ⟨_, rfl⟩
  obtain ⟨v, hv⟩ : ∃ v, v = w.heap.size := ⟨_, rfl⟩
  have hblk0 : (w.alloc ob).heap[v]? = some (cellsN bw (.slice none 0 0)) := by rw [hob, hv]; exact new_at w _ rfl
  have hB0 : Below w.heap.size w (w.alloc ob) := (Below.refl w.heap.size w).alloc (Nat.le_refl _) ob
  have hlt := (ref_kind bw).lt h
  have hD0 : RefAt bw (w.alloc ob) F s := (ref_kind bw).kept h (fun i hi => hB0.block i (hlt i hi))
  have hnv : ¬ F v := fun hh => by have := hlt v hh; omega
  have hsz0 : (w.alloc ob).heap.size = w.heap.size + 1 := by simp
  have ck1 := rw_kind pS hD0 hn.1
  have hbi := base_is
  unfold pS at hbi ck1
  unfold cellsN pS at hob
  have HOB := Lib.hid hob
  have HOK := Lib.hid ho
  have HOS := Lib.hid hos
  have HRC := Lib.hid hrec
  have HR := Lib.hid hr
  have HV := Lib.hid hv
  have HBLK := Lib.hid hblk0
  have HD0 := Lib.hid hD0
  have HB0 := Lib.hid hB0
  obtain ⟨hs0, rfl, hk0, hm0, hkb, hE0⟩ := hs
  rw [show kind s.L ⟨#[115, 121, 115]⟩ = 0 from hk0] at ck1
  have HE0 := Lib.hid hE0
  have cm : Calls Tryz.prog 31 #[.pointer (some ⟨bw, 0, none⟩), .string pS] (w.alloc ob) fun e w' => e = .returned (.int .i64 ((mkdirS s pS).1 : Nat)) ∧ Dk.Left (RefAt bw) (w.alloc ob) F (mkdirS s pS).2 w' := by
    obtain ⟨vL, vR, hat, hF⟩ := hD0
    exact (rMkdir_any bw _ vL vR pS _ hat ok (by decide)).mono fun e w' ht => to_left hF ht
  rw [hm0] at cm
  have hkb' := hkb
  generalize hs1 : (mkdirS s pS).2 = s1 at cm hkb' HOK HOS hz hn
  unfold pS at cm
  have HKB := Lib.hid hkb'
  have HL0 := Lib.hid (show Rises L0 ∧ Plain L0 from by rw [hE0]; exact ⟨List.Pairwise.nil, fun x hx => by cases hx⟩)
  unfold pS
  clear hE0 hs0 h hD0 hob ho hos hrec hr hblk0 hB0 hv hm0 hk0 hkb hkb' hb0 hbz ok hs1
  go_enter Tryz.func8, Tryz.ntmps8
  go_wp2_with fail
  go_at_call 30
  rw [← HOB.out, ← HV.out]
  refine ck1.mono ?_
  rintro e w4 ⟨rfl, rfl⟩
  go_wp2_with fail
  go_at_call 31
  refine cm.mono ?_
  rintro e W ⟨rfl, F1, hD, hCh0, hn0⟩
  have hCh : Chg F w W := (Chg.of_below HB0.out).trans hCh0 (fun i hi => .inl hi)
  have hF1 : ∀ g, F1 g → F g ∨ w.heap.size ≤ g := fun g hg => (hn0 g hg).imp id (fun hh => by omega)
  have hvF : ¬ F1 v := fun hh => by
    have := HV.out
    rcases hn0 v hh with hh | hh
    · exact hnv hh
    · omega
  have hvw : w.heap.size ≤ v := by have := HV.out; omega
  have hblk := (hCh0.block v (by have := HV.out; omega) hnv).trans HBLK.out
  have hrow : OwR W 0 (.slice none 0 0) L0 := by rw [HE0.out]; exact World.ownsRow_nil _ _ _ _
  have hrF : ∀ g, (Value.slice none 0 0).ownBlock = some g → w.heap.size ≤ g ∧ g ≠ v ∧ ¬ F1 g := fun g hg => by cases hg
  obtain ⟨vR, hvR⟩ : ∃ vR, vR = Value.slice none 0 0 := ⟨_, rfl⟩
  have ck2 := rw_kind pB hD hn.2
  rw [HKB.out] at ck2
  rw [← hvR] at hblk hrow hrF
  clear hCh0 hn0 cm ck1 hvR
  go_wp2_with fail
  go_at_call 30
  refine ck2.mono ?_
  rintro e w5 ⟨rfl, rfl⟩
  clear ck2
  have hj1 := log_is
  unfold pS at hj1
  have co := rOpen_any bw pG W hD HOK.out (by omega) hz (by decide)
  rw [HOS.out] at co
  have hRL : Rises L0 ∧ Plain L0 := HL0.out
  by_cases hk : k = 0
  · subst hk
    have HREC := Lib.hid (HRC.out rfl)
    have HRN := Lib.hid HREC.out.2.2
    have HR0 := Lib.hid (HR.out.trans (if_pos rfl))
    clear HR
    go_wp2_with fail
    go_at_call 36
    refine (co).mono ?_
    rintro e W2 hh
    obtain ⟨_, jw, rfl, Fj, hjn, hc2, hn2⟩ | ⟨hne, _⟩ := hh
    rotate_left
    · exact absurd rfl hne
    have hvlt : v < W.heap.size := (Array.getElem?_eq_some_iff.1 hblk).1
    have hblk2 := (hc2.block v hvlt hvF).trans hblk
    have hrow2 : OwR W2 0 vR L0 := own_kept hrow (fun g hg => hc2.block g (hrow.lt g hg).2 (hrF g hg).2.2)
    have hFjv : ¬ Fj v := fun hh => by rcases hn2 v hh with hh | hh; exact hvF hh; omega
    have hFjr : ∀ g, vR.ownBlock = some g → ¬ Fj g := fun g hg hh => by rcases hn2 g hh with hh | hh; exact (hrF g hg).2.2 hh; have := (hrow.lt g hg).2; omega
    obtain ⟨t0, t1, t2, t3, tw⟩ := ncell hblk2
    have hset : ∀ i, i ≠ v → (W2.setCell ⟨v, 2, none⟩ (.pointer (some ⟨jw, 0, none⟩))).heap[i]? = W2.heap[i]? := fun i hi => set_other _ hi
    have hblk3 : (W2.setCell ⟨v, 2, none⟩ (.pointer (some ⟨jw, 0, none⟩))).heap[v]? = some (cellsT bw jw vR) := by
      rw [set_block hblk2 _]
      rfl
    have hR3 : RAt bw jw v vR Fj (W2.setCell ⟨v, 2, none⟩ (.pointer (some ⟨jw, 0, none⟩))) (fun i => Fj i ∨ i = v ∨ vR.ownBlock = some i) ⟨y, L0⟩ :=
      ⟨(jr_kind bw jw).2 hjn (fun i hi => hset i (fun e => hFjv (e ▸ hi))), hblk3, own_kept hrow2 (fun g hg => hset g (hrF g hg).2.1), fun e => (hrF v e).2.1 rfl, fun i hi => ⟨fun e => hFjv (e ▸ hi), fun e => hFjr i e hi⟩, fun i => Iff.rfl, hRL.1, hRL.2⟩
    have hC3 : Chg F w (W2.setCell ⟨v, 2, none⟩ (.pointer (some ⟨jw, 0, none⟩))) := (hCh.trans hc2 hF1).trans (chg_set (b := v) (k := 2) _) (fun i hi => .inr (by omega))
    have hF3 : ∀ g, (Fj g ∨ g = v ∨ vR.ownBlock = some g) → F g ∨ w.heap.size ≤ g := fun g hg => by
      rcases hg with hg | hg | hg
      · rcases hn2 g hg with hh | hh
        · exact hF1 g hh
        · have := hCh.size; exact .inr (by omega)
      · exact .inr (by omega)
      · exact .inr (hrF g hg).1
    have HR3 := Lib.hid hR3
    have HC3 := Lib.hid hC3
    have HF3 := Lib.hid hF3
    have hw2 := tw 2
    have e00 : (((0 : Nat) : Int) == 0) = true := rfl
    clear hD hCh hblk hrow hrF hvF co hjn hc2 hblk2 hrow2 hFjv hFjr hset hblk3 hR3 hC3 hF3 t0 t1 t3 tw
    go_wp2_with fail
    go_loopw [15] (fun iv wr => ∃ (i : Nat) (vR : Value) (F1 : Nat → Prop), i ≤ y.R.length ∧ iv = .int .i64 i ∧ RAt bw jw v vR Fj wr F1 ⟨y, rows7 L0 (y.R.take i)⟩ ∧ Chg F w wr ∧ ∀ g, F1 g → F g ∨ w.heap.size ≤ g) (fun iv _ => y.R.length - (intOf iv).toNat)
    case atStart => exact ⟨0, vR, _, Nat.zero_le _, rfl, HR3.out, HC3.out, HF3.out⟩
    case round =>
      clear hw2 t2
      obtain ⟨i, vR, F1, hi, rfl, hA, hCw, hFw⟩ := hrel
      obtain ⟨vj, Fd, hj⟩ := hA.jn
      obtain ⟨q0, q1, q2, q3⟩ := hj.cell
      obtain ⟨aT, cT, hvj, hst, hcT, _⟩ := Tx.Texts.form (show Tx.Texts wr 0 vj y.R from hj.row)
      rw [hvj] at q2
      have hRN := HRN.out
      by_cases hlt : i < y.R.length
      · obtain ⟨r, hr⟩ : ∃ r, y.R[i]? = some r := ⟨_, List.getElem?_eq_getElem hlt⟩
        obtain ⟨hr0, hr1⟩ := HREC.out.1 r (List.mem_of_getElem? hr)
        have hsum := HREC.out.2.1
        have hlen := len_rows L0 (y.R.take i)
        have hst2 := sum_take y.R (i + 1)
        have hst1 := sum_take y.R i
        have hsn : rows7 L0 (y.R.take (i + 1)) = all7 (rows7 L0 (y.R.take i)) (opsS r).1 := by rw [take_snoc7 hr, rows7_snoc]
        have hol := opsS_len r
        have hs12 : ((y.R.take (i + 1)).map (·.size)).sum = ((y.R.take i).map (·.size)).sum + r.size := by rw [take_snoc7 hr, List.map_append, List.sum_append]; simp
        obtain ⟨gT, offT, haT, hgT, hcell⟩ : ∃ b off, aT = some ⟨b, off, none⟩ ∧ b < wr.heap.size ∧ wr.cell? ⟨b, off + i, none⟩ = some (.string r) := by
          rcases hst.2 with h0 | ⟨b, off, ha, hb, hc⟩
          · omega
          · exact ⟨b, off, ha, hb, hc i r hr⟩
        subst haT
        have cops := refOps_any r wr (by omega)
        unfold OpsTo at cops
        rw [hr0] at cops
        obtain ⟨c0, c1, c2, c3, cw⟩ := tcell hA.blk
        have hvlt2 : v < wr.heap.size := (Array.getElem?_eq_some_iff.1 hA.blk).1
        have hiz : (i : Int) < (y.R.length : Int) := by omega
        have HA := Lib.hid hA
        have HCW := Lib.hid hCw
        have HFW := Lib.hid hFw
        have HSN := Lib.hid hsn
        have hbnd : (rows7 L0 (y.R.take i)).length + (opsS r).1.length ≤ 1000000000 := by omega
        generalize (opsS r).1 = l at cops HSN hbnd hol
        generalize hrl : y.R.length = RL at hiz q2 hi hlt hst hcT hRN
        clear q0 q1 q3 hst hj hA hCw hFw hr0 hr1 hsum hlen hst2 hst1 hsn hs12 hr hvj
        go_wp2_with fail
        go_at_call 34
        refine cops.mono ?_
        rintro e w5 ⟨v5, rfl, ho5, hb5⟩
        have hA5 := HA.out.below hb5
        obtain ⟨aO, cO, rfl, hop, hoc⟩ := ho5.val
        have hrv := (OwR.val hA5.row)
        have ca := refAll_any vR (rows7 L0 (y.R.take i)) aO l.length cO l w5 hrv hop hA5.rises hA5.plain hbnd hoc
        rw [← HSN.out] at ca
        obtain ⟨d0, d1, d2, d3, dw⟩ := tcell hA5.blk
        have hvs : ∃ a c, vR = .slice a (rows7 L0 (y.R.take i)).length c := by obtain ⟨a, c, h1, _⟩ := hrv; exact ⟨a, c, h1⟩
        have HA5 := Lib.hid hA5
        have HB5 := Lib.hid hb5
        have HRV := Lib.hid hrv
        obtain ⟨aR, cR, rfl⟩ := hvs
        generalize hlm : l.length = m at ca
        generalize hln : (rows7 L0 (y.R.take i)).length = nr at ca d3 HA5 HA HRV
        clear cops c0 c1 c2 c3 cw ho5 hop hoc hA5 hrv hb5 d0 d1 d2
        go_wp2_with fail
        go_at_call 35
        refine ca.mono ?_
        rintro e w6 ⟨v6, rfl, ho6, hb6⟩
        have hrow6 : OwR w6 0 v6 (rows7 L0 (y.R.take (i + 1))) ∧ ∀ g, v6.ownBlock = some g → (Value.slice aR nr cR).ownBlock = some g ∨ w5.heap.size ≤ g := by
          rcases ho6 with ho6 | ⟨rfl, hl0⟩
          · exact ⟨own_less ho6 (Nat.zero_le _), fun g hg => .inr (ho6.lt g hg).1⟩
          · have := (HA5.out.below hb6).row
            rw [HSN.out, hl0]
            exact ⟨this, fun g hg => .inl hg⟩
        obtain ⟨a6, n6, c6, rfl⟩ : ∃ a n c, v6 = .slice a n c := by obtain ⟨a, c, h, _⟩ := hrow6.1.form; exact ⟨a, _, c, h⟩
        obtain ⟨F7, hA7, hC7, hN7⟩ := HA5.out.poke hb6 hrow6.1 hrow6.2 (rises_rows HL0.out.1 _) (plain_rows HL0.out.2 _)
        obtain ⟨f0, f1, f2, f3, fw⟩ := tcell ((hb6.block v (Array.getElem?_eq_some_iff.1 HA5.out.blk).1).trans HA5.out.blk)
        have hfw := fw 3
        have hC8 : Chg F w (w6.setCell ⟨v, 3, none⟩ (.slice a6 n6 c6)) := (HCW.out.trans (Chg.of_below (F := fun _ => False) HB5.out) (fun i hi => hi.elim)).trans hC7 (fun g hg => by
          rcases HFW.out g hg with hh | hh
          · exact .inl hh
          · exact .inr hh)
        have hN8 : ∀ g, F7 g → F g ∨ w.heap.size ≤ g := fun g hg => by
          rcases hN7 g hg with hh | hh
          · exact HFW.out g hh
          · have h1 := HCW.out.size
            have h2 := HB5.out.size
            exact .inr (by omega)
        have HA7 := Lib.hid hA7
        have HC8 := Lib.hid hC8
        have HN8 := Lib.hid hN8
        clear ca ho6 hrow6 hA7 hC7 hN7 hC8 hN8 f0 f1 f2 fw d3 dw hb6
        go_wp2_with fail
        go_roundw
        case rel => exact ⟨i + 1, _, F7, by omega, by go_num, HA7.out, HC8.out, HN8.out⟩
        case measure => first | omega | (simp [intOf]; omega)
      · obtain rfl : i = y.R.length := by omega
        rw [List.take_of_length_le (Nat.le_refl _)] at hA
        obtain ⟨c0, c1, c2, c3, cw⟩ := tcell hA.blk
        have hfin : LeftA (Rn bw jw v) w F ⟨y, rows7 L0 y.R⟩ wr := ⟨F1, ⟨vR, Fj, hA⟩, hCw, hFw⟩
        have HFIN := Lib.hid hfin
        clear hfin hA hCw hFw hj q0 q1 q3 hst c0 c1 c3 cw hvj
        go_wp2_with fail
        go_ret2
        rw [HR0.out]
        exact .inl ⟨rfl, jw, v, rfl, HFIN.out⟩
  · have nk := Dk.ne_eq hk
    have HK := Lib.hid hk
    have HR0 := Lib.hid (HR.out.trans (if_neg hk))
    clear HR
    go_wp2_with fail
    go_at_call 36
    refine (co).mono ?_
    rintro e W2 hh
    obtain ⟨h0, _⟩ | ⟨_, rfl, hl⟩ := hh
    · exact absurd h0 HK.out
    obtain ⟨F2, l1, l2, l3⟩ := hl
    have hfin : Dk.Left (RefAt bw) w F y.s W2 := ⟨F2, l1, hCh.trans l2 hF1, fun g hg => by
      rcases l3 g hg with hh | hh
      · exact hF1 g hh
      · have := hCh.size; exact .inr (by omega)⟩
    have HFIN := Lib.hid hfin
    clear hfin hk l1 l2 l3 hD hCh hblk hrow hrF hvF co
    go_wp2_with fail
    go_ret2
    rw [HR0.out]
    exact .inr ⟨HK.out, rfl, HFIN.out⟩
set_option maxRecDepth 100000 in
set_option maxHeartbeats 40000000 in
theorem refOpen7_b (bw : Nat) {F : Nat → Prop} {s s1 : St} {L0 : List It} {k : Nat} {y : Jst} {r : Nat × Tst} (w : World) (h : RefAt bw w F s) (hs : s1 = s ∧ kind s.L pS ≠ 0) (ok : Ok s) (hb0 : base0 s1 pB = (L0, 0)) (hos : openS s1 pG = (k, y)) (ho : OpenOk s1 pG) (hrec : k = 0 → RecOk L0 y.R) (hn : s.L.length ≤ 1000000000 ∧ s1.L.length ≤ 1000000000) (hz : (readS s1 pG).1.size ≤ 8796093022207) (hbz : (readS s1 pB).1.size ≤ 1000000000) (hr : r = if k = 0 then (0, ⟨y, rows7 L0 y.R⟩) else (k, ⟨y, []⟩)) (hkb : kind s.L pB = 0) :
    Calls Tryz.prog 8 #[.pointer (some ⟨bw, 0, none⟩), .string pS] w (ROpenTo bw w F r) := by
  obtain ⟨ob, hob⟩ : ∃ ob, ob = cellsN bw (.slice none 0 0) := ⟨_, rfl⟩
  obtain ⟨v, hv⟩ : ∃ v, v = w.heap.size := ⟨_, rfl⟩
  have hblk0 : (w.alloc ob).heap[v]? = some (cellsN bw (.slice none 0 0)) := by rw [hob, hv]; exact new_at w _ rfl
  have hB0 : Below w.heap.size w (w.alloc ob) := (Below.refl w.heap.size w).alloc (Nat.le_refl _) ob
  have hlt := (ref_kind bw).lt h
  have hD0 : RefAt bw (w.alloc ob) F s := (ref_kind bw).kept h (fun i hi => hB0.block i (hlt i hi))
  have hnv : ¬ F v := fun hh => by have := hlt v hh; omega
  have hsz0 : (w.alloc ob).heap.size = w.heap.size + 1 := by simp
  have ck1 := rw_kind pS hD0 hn.1
  have hbi := base_is
  unfold pS at hbi ck1
  unfold cellsN pS at hob
  have HOB := Lib.hid hob
  have HOK := Lib.hid ho
  have HOS := Lib.hid hos
  have HRC := Lib.hid hrec
  have HR := Lib.hid hr
  have HV := Lib.hid hv
  have HBLK := Lib.hid hblk0
  have HD0 := Lib.hid hD0
  have HB0 := Lib.hid hB0
  obtain ⟨rfl, hk0⟩ := hs
  have nk0 := Dk.ne_eq hk0
  have hrises := base_rises s1 pB
  rw [hb0] at hrises
  have HL0 := Lib.hid hrises
  have ck2 := rw_kind pB hD0 hn.2
  rw [hkb] at ck2
  have hE0 : L0 = [] := by rw [base_0 hkb] at hb0; injection hb0 with e _; exact e.symm
  have HE0 := Lib.hid hE0
  clear hE0
  unfold pS at nk0 ⊢
  clear h hD0 hob ho hos hrec hr hblk0 hB0 hv hk0 hkb hb0 hbz ok hrises
  go_enter Tryz.func8, Tryz.ntmps8
  go_wp2_with fail
  go_at_call 30
  rw [← HOB.out, ← HV.out]
  refine ck1.mono ?_
  rintro e w4 ⟨rfl, rfl⟩
  go_wp2_with fail
  go_at_call 30
  refine ck2.mono ?_
  rintro e w5 ⟨rfl, rfl⟩
  obtain ⟨W, hW⟩ : ∃ W, W = w.alloc ob := ⟨_, rfl⟩
  have hD := HD0.out
  have hCh : Chg F w (w.alloc ob) := Chg.of_below HB0.out
  have hF1 : ∀ g, F g → F g ∨ w.heap.size ≤ g := fun g hg => .inl hg
  have hvF := hnv
  have hvw : w.heap.size ≤ v := by have := HV.out; omega
  have hblk := HBLK.out
  have hrow : OwR (w.alloc ob) 0 (.slice none 0 0) L0 := by rw [HE0.out]; exact World.ownsRow_nil _ _ _ _
  have hrF : ∀ g, (Value.slice none 0 0).ownBlock = some g → w.heap.size ≤ g ∧ g ≠ v ∧ ¬ F g := fun g hg => by cases hg
  obtain ⟨vR, hvR⟩ : ∃ vR, vR = Value.slice none 0 0 := ⟨_, rfl⟩
  rw [← hvR] at hblk hrow hrF
  rw [← hW] at hD hCh hblk hrow ⊢
  clear ck1 ck2 hvR hW
  have hj1 := log_is
  unfold pS at hj1
  have co := rOpen_any bw pG W hD HOK.out (by omega) hz (by decide)
  rw [HOS.out] at co
  have hRL : Rises L0 ∧ Plain L0 := HL0.out
  by_cases hk : k = 0
  · subst hk
    have HREC := Lib.hid (HRC.out rfl)
    have HRN := Lib.hid HREC.out.2.2
    have HR0 := Lib.hid (HR.out.trans (if_pos rfl))
    clear HR
    go_wp2_with fail
    go_at_call 36
    refine (co).mono ?_
    rintro e W2 hh
    obtain ⟨_, jw, rfl, Fj, hjn, hc2, hn2⟩ | ⟨hne, _⟩ := hh
    rotate_left
    · exact absurd rfl hne
    have hvlt : v < W.heap.size := (Array.getElem?_eq_some_iff.1 hblk).1
    have hblk2 := (hc2.block v hvlt hvF).trans hblk
    have hrow2 : OwR W2 0 vR L0 := own_kept hrow (fun g hg => hc2.block g (hrow.lt g hg).2 (hrF g hg).2.2)
    have hFjv : ¬ Fj v := fun hh => by rcases hn2 v hh with hh | hh; exact hvF hh; omega
    have hFjr : ∀ g, vR.ownBlock = some g → ¬ Fj g := fun g hg hh => by rcases hn2 g hh with hh | hh; exact (hrF g hg).2.2 hh; have := (hrow.lt g hg).2; omega
    obtain ⟨t0, t1, t2, t3, tw⟩ := ncell hblk2
    have hset : ∀ i, i ≠ v → (W2.setCell ⟨v, 2, none⟩ (.pointer (some ⟨jw, 0, none⟩))).heap[i]? = W2.heap[i]? := fun i hi => set_other _ hi
    have hblk3 : (W2.setCell ⟨v, 2, none⟩ (.pointer (some ⟨jw, 0, none⟩))).heap[v]? = some (cellsT bw jw vR) := by
      rw [set_block hblk2 _]
      rfl
    have hR3 : RAt bw jw v vR Fj (W2.setCell ⟨v, 2, none⟩ (.pointer (some ⟨jw, 0, none⟩))) (fun i => Fj i ∨ i = v ∨ vR.ownBlock = some i) ⟨y, L0⟩ :=
      ⟨(jr_kind bw jw).2 hjn (fun i hi => hset i (fun e => hFjv (e ▸ hi))), hblk3, own_kept hrow2 (fun g hg => hset g (hrF g hg).2.1), fun e => (hrF v e).2.1 rfl, fun i hi => ⟨fun e => hFjv (e ▸ hi), fun e => hFjr i e hi⟩, fun i => Iff.rfl, hRL.1, hRL.2⟩
    have hC3 : Chg F w (W2.setCell ⟨v, 2, none⟩ (.pointer (some ⟨jw, 0, none⟩))) := (hCh.trans hc2 hF1).trans (chg_set (b := v) (k := 2) _) (fun i hi => .inr (by omega))
    have hF3 : ∀ g, (Fj g ∨ g = v ∨ vR.ownBlock = some g) → F g ∨ w.heap.size ≤ g := fun g hg => by
      rcases hg with hg | hg | hg
      · rcases hn2 g hg with hh | hh
        · exact hF1 g hh
        · have := hCh.size; exact .inr (by omega)
      · exact .inr (by omega)
      · exact .inr (hrF g hg).1
    have HR3 := Lib.hid hR3
    have HC3 := Lib.hid hC3
    have HF3 := Lib.hid hF3
    have hw2 := tw 2
    have e00 : (((0 : Nat) : Int) == 0) = true := rfl
    clear hD hCh hblk hrow hrF hvF co hjn hc2 hblk2 hrow2 hFjv hFjr hset hblk3 hR3 hC3 hF3 t0 t1 t3 tw
    go_wp2_with fail
    go_loopw [15] (fun iv wr => ∃ (i : Nat) (vR : Value) (F1 : Nat → Prop), i ≤ y.R.length ∧ iv = .int .i64 i ∧ RAt bw jw v vR Fj wr F1 ⟨y, rows7 L0 (y.R.take i)⟩ ∧ Chg F w wr ∧ ∀ g, F1 g → F g ∨ w.heap.size ≤ g) (fun iv _ => y.R.length - (intOf iv).toNat)
    case atStart => exact ⟨0, vR, _, Nat.zero_le _, rfl, HR3.out, HC3.out, HF3.out⟩
    case round =>
      clear hw2 t2
      obtain ⟨i, vR, F1, hi, rfl, hA, hCw, hFw⟩ := hrel
      obtain ⟨vj, Fd, hj⟩ := hA.jn
      obtain ⟨q0, q1, q2, q3⟩ := hj.cell
      obtain ⟨aT, cT, hvj, hst, hcT, _⟩ := Tx.Texts.form (show Tx.Texts wr 0 vj y.R from hj.row)
      rw [hvj] at q2
      have hRN := HRN.out
      by_cases hlt : i < y.R.length
      · obtain ⟨r, hr⟩ : ∃ r, y.R[i]? = some r := ⟨_, List.getElem?_eq_getElem hlt⟩
        obtain ⟨hr0, hr1⟩ := HREC.out.1 r (List.mem_of_getElem? hr)
        have hsum := HREC.out.2.1
        have hlen := len_rows L0 (y.R.take i)
        have hst2 := sum_take y.R (i + 1)
        have hst1 := sum_take y.R i
        have hsn : rows7 L0 (y.R.take (i + 1)) = all7 (rows7 L0 (y.R.take i)) (opsS r).1 := by rw [take_snoc7 hr, rows7_snoc]
        have hol := opsS_len r
        have hs12 : ((y.R.take (i + 1)).map (·.size)).sum = ((y.R.take i).map (·.size)).sum + r.size := by rw [take_snoc7 hr, List.map_append, List.sum_append]; simp
        obtain ⟨gT, offT, haT, hgT, hcell⟩ : ∃ b off, aT = some ⟨b, off, none⟩ ∧ b < wr.heap.size ∧ wr.cell? ⟨b, off + i, none⟩ = some (.string r) := by
          rcases hst.2 with h0 | ⟨b, off, ha, hb, hc⟩
          · omega
          · exact ⟨b, off, ha, hb, hc i r hr⟩
        subst haT
        have cops := refOps_any r wr (by omega)
        unfold OpsTo at cops
        rw [hr0] at cops
        obtain ⟨c0, c1, c2, c3, cw⟩ := tcell hA.blk
        have hvlt2 : v < wr.heap.size := (Array.getElem?_eq_some_iff.1 hA.blk).1
        have hiz : (i : Int) < (y.R.length : Int) := by omega
        have HA := Lib.hid hA
        have HCW := Lib.hid hCw
        have HFW := Lib.hid hFw
        have HSN := Lib.hid hsn
        have hbnd : (rows7 L0 (y.R.take i)).length + (opsS r).1.length ≤ 1000000000 := by omega
        generalize (opsS r).1 = l at cops HSN hbnd hol
        generalize hrl : y.R.length = RL at hiz q2 hi hlt hst hcT hRN
        clear q0 q1 q3 hst hj hA hCw hFw hr0 hr1 hsum hlen hst2 hst1 hsn hs12 hr hvj
        go_wp2_with fail
        go_at_call 34
        refine cops.mono ?_
        rintro e w5 ⟨v5, rfl, ho5, hb5⟩
        have hA5 := HA.out.below hb5
        obtain ⟨aO, cO, rfl, hop, hoc⟩ := ho5.val
        have hrv := (OwR.val hA5.row)
        have ca := refAll_any vR (rows7 L0 (y.R.take i)) aO l.length cO l w5 hrv hop hA5.rises hA5.plain hbnd hoc
        rw [← HSN.out] at ca
        obtain ⟨d0, d1, d2, d3, dw⟩ := tcell hA5.blk
        have hvs : ∃ a c, vR = .slice a (rows7 L0 (y.R.take i)).length c := by obtain ⟨a, c, h1, _⟩ := hrv; exact ⟨a, c, h1⟩
        have HA5 := Lib.hid hA5
        have HB5 := Lib.hid hb5
        have HRV := Lib.hid hrv
        obtain ⟨aR, cR, rfl⟩ := hvs
        generalize hlm : l.length = m at ca
        generalize hln : (rows7 L0 (y.R.take i)).length = nr at ca d3 HA5 HA HRV
        clear cops c0 c1 c2 c3 cw ho5 hop hoc hA5 hrv hb5 d0 d1 d2
        go_wp2_with fail
        go_at_call 35
        refine ca.mono ?_
        rintro e w6 ⟨v6, rfl, ho6, hb6⟩
        have hrow6 : OwR w6 0 v6 (rows7 L0 (y.R.take (i + 1))) ∧ ∀ g, v6.ownBlock = some g → (Value.slice aR nr cR).ownBlock = some g ∨ w5.heap.size ≤ g := by
          rcases ho6 with ho6 | ⟨rfl, hl0⟩
          · exact ⟨own_less ho6 (Nat.zero_le _), fun g hg => .inr (ho6.lt g hg).1⟩
          · have := (HA5.out.below hb6).row
            rw [HSN.out, hl0]
            exact ⟨this, fun g hg => .inl hg⟩
        obtain ⟨a6, n6, c6, rfl⟩ : ∃ a n c, v6 = .slice a n c := by obtain ⟨a, c, h, _⟩ := hrow6.1.form; exact ⟨a, _, c, h⟩
        obtain ⟨F7, hA7, hC7, hN7⟩ := HA5.out.poke hb6 hrow6.1 hrow6.2 (rises_rows HL0.out.1 _) (plain_rows HL0.out.2 _)
        obtain ⟨f0, f1, f2, f3, fw⟩ := tcell ((hb6.block v (Array.getElem?_eq_some_iff.1 HA5.out.blk).1).trans HA5.out.blk)
        have hfw := fw 3
        have hC8 : Chg F w (w6.setCell ⟨v, 3, none⟩ (.slice a6 n6 c6)) := (HCW.out.trans (Chg.of_below (F := fun _ => False) HB5.out) (fun i hi => hi.elim)).trans hC7 (fun g hg => by
          rcases HFW.out g hg with hh | hh
          · exact .inl hh
          · exact .inr hh)
        have hN8 : ∀ g, F7 g → F g ∨ w.heap.size ≤ g := fun g hg => by
          rcases hN7 g hg with hh | hh
          · exact HFW.out g hh
          · have h1 := HCW.out.size
            have h2 := HB5.out.size
            exact .inr (by omega)
        have HA7 := Lib.hid hA7
        have HC8 := Lib.hid hC8
        have HN8 := Lib.hid hN8
        clear ca ho6 hrow6 hA7 hC7 hN7 hC8 hN8 f0 f1 f2 fw d3 dw hb6
        go_wp2_with fail
        go_roundw
        case rel => exact ⟨i + 1, _, F7, by omega, by go_num, HA7.out, HC8.out, HN8.out⟩
        case measure => first | omega | (simp [intOf]; omega)
      · obtain rfl : i = y.R.length := by omega
        rw [List.take_of_length_le (Nat.le_refl _)] at hA
        obtain ⟨c0, c1, c2, c3, cw⟩ := tcell hA.blk
        have hfin : LeftA (Rn bw jw v) w F ⟨y, rows7 L0 y.R⟩ wr := ⟨F1, ⟨vR, Fj, hA⟩, hCw, hFw⟩
        have HFIN := Lib.hid hfin
        clear hfin hA hCw hFw hj q0 q1 q3 hst c0 c1 c3 cw hvj
        go_wp2_with fail
        go_ret2
        rw [HR0.out]
        exact .inl ⟨rfl, jw, v, rfl, HFIN.out⟩
  · have nk := Dk.ne_eq hk
    have HK := Lib.hid hk
    have HR0 := Lib.hid (HR.out.trans (if_neg hk))
    clear HR
    go_wp2_with fail
    go_at_call 36
    refine (co).mono ?_
    rintro e W2 hh
    obtain ⟨h0, _⟩ | ⟨_, rfl, hl⟩ := hh
    · exact absurd h0 HK.out
    obtain ⟨F2, l1, l2, l3⟩ := hl
    have hfin : Dk.Left (RefAt bw) w F y.s W2 := ⟨F2, l1, hCh.trans l2 hF1, fun g hg => by
      rcases l3 g hg with hh | hh
      · exact hF1 g hh
      · have := hCh.size; exact .inr (by omega)⟩
    have HFIN := Lib.hid hfin
    clear hfin hk l1 l2 l3 hD hCh hblk hrow hrF hvF co
    go_wp2_with fail
    go_ret2
    rw [HR0.out]
    exact .inr ⟨HK.out, rfl, HFIN.out⟩
set_option maxRecDepth 100000 in
set_option maxHeartbeats 40000000 in
theorem refOpen7_c (bw : Nat) {F : Nat → Prop} {s s1 : St} {L0 : List It} {k : Nat} {y : Jst} {r : Nat × Tst} (w : World) (h : RefAt bw w F s) (hs : s1 = s ∧ kind s.L pS ≠ 0) (ok : Ok s) (hb0 : base0 s1 pB = (L0, 0)) (hos : openS s1 pG = (k, y)) (ho : OpenOk s1 pG) (hrec : k = 0 → RecOk L0 y.R) (hn : s.L.length ≤ 1000000000 ∧ s1.L.length ≤ 1000000000) (hz : (readS s1 pG).1.size ≤ 8796093022207) (hbz : (readS s1 pB).1.size ≤ 1000000000) (hr : r = if k = 0 then (0, ⟨y, rows7 L0 y.R⟩) else (k, ⟨y, []⟩)) (hkb : kind s1.L pB ≠ 0) :
    Calls Tryz.prog 8 #[.pointer (some ⟨bw, 0, none⟩), .string pS] w (ROpenTo bw w F r) := by
  obtain ⟨ob, hob⟩ : ∃ ob, ob = cellsN bw (.slice none 0 0) := ⟨_, rfl⟩
  obtain ⟨v, hv⟩ : ∃ v, v = w.heap.size := ⟨_, rfl⟩
  have hblk0 : (w.alloc ob).heap[v]? = some (cellsN bw (.slice none 0 0)) := by rw [hob, hv]; exact new_at w _ rfl
  have hB0 : Below w.heap.size w (w.alloc ob) := (Below.refl w.heap.size w).alloc (Nat.le_refl _) ob
  have hlt := (ref_kind bw).lt h
  have hD0 : RefAt bw (w.alloc ob) F s := (ref_kind bw).kept h (fun i hi => hB0.block i (hlt i hi))
  have hnv : ¬ F v := fun hh => by have := hlt v hh; omega
  have hsz0 : (w.alloc ob).heap.size = w.heap.size + 1 := by simp
  have ck1 := rw_kind pS hD0 hn.1
  have hbi := base_is
  unfold pS at hbi ck1
  unfold cellsN pS at hob
  have HOB := Lib.hid hob
  have HOK := Lib.hid ho
  have HOS := Lib.hid hos
  have HRC := Lib.hid hrec
  have HR := Lib.hid hr
  have HV := Lib.hid hv
  have HBLK := Lib.hid hblk0
  have HD0 := Lib.hid hD0
  have HB0 := Lib.hid hB0
  obtain ⟨rfl, hk0⟩ := hs
  have nk0 := Dk.ne_eq hk0
  have hrises := base_rises s1 pB
  rw [hb0] at hrises
  have HL0 := Lib.hid hrises
  have nkb := Dk.ne_eq hkb
  obtain ⟨d, r0, n, l, q1, q2, q3, q4, hE0⟩ := base_inv hkb hb0
  have HE0 := Lib.hid hE0
  clear hE0
  have ck2 := rw_kind pB hD0 hn.2
  have cr := rw_read pB hD0 hn.2
  rw [q1] at cr hbz
  simp only at hbz
  have cf := fun W => Fr.refRead_any d W (by omega)
  rw [q2] at cf
  obtain ⟨hrs, hns⟩ := fr_size q2
  have cops := fun W => refOps_any r0 W (by omega)
  unfold OpsTo at cops
  rw [q4] at cops
  have hol := opsS_len r0
  rw [q4] at hol
  simp only at hol
  have hnz : ¬ ((n : Int) < (d.size : Int)) := by omega
  have HCF := Lib.hid cf
  have HCO := Lib.hid cops
  unfold pS at nk0 ⊢
  clear h hD0 hob ho hos hrec hr hblk0 hB0 hv hk0 hkb hb0 ok hrises cf cops q1 q2 q3 q4
  go_enter Tryz.func8, Tryz.ntmps8
  go_wp2_with fail
  go_at_call 30
  rw [← HOB.out, ← HV.out]
  refine ck1.mono ?_
  rintro e w4 ⟨rfl, rfl⟩
  go_wp2_with fail
  go_at_call 30
  refine ck2.mono ?_
  rintro e w5 ⟨rfl, rfl⟩
  go_wp2_with fail
  go_at_call 32
  refine cr.mono ?_
  rintro e w6 ⟨rfl, hb6⟩
  clear cr ck1 ck2
  go_wp2_with fail
  go_at_call 33
  refine (HCF.out _).mono ?_
  rintro e w7 ⟨rfl, hb7⟩
  go_wp2_with fail
  go_at_call 34
  refine (HCO.out _).mono ?_
  rintro e w8 ⟨v8, rfl, ho8, hb8⟩
  have hB8 : Below (w.alloc ob).heap.size (w.alloc ob) w8 := Tx.below_call (Tx.below_call hb6 hb7) hb8
  have hblk8 := (hB8.block v (by have := HV.out; omega)).trans HBLK.out
  have ca := refAll_own8 (own_less ho8 (Nat.zero_le _)) (by omega)
  obtain ⟨a8, c8, hv8⟩ : ∃ a c, v8 = .slice a l.length c := by obtain ⟨a, c, e, _⟩ := ho8.val; exact ⟨a, c, e⟩
  rw [hv8] at ca
  generalize l.length = m8 at ca hol hv8
  subst hv8
  obtain ⟨t0, t1, t2, t3, tw⟩ := ncell hblk8
  have HB8 := Lib.hid hB8
  have HBLK8 := Lib.hid hblk8
  clear hb6 hb7 hb8 hB8 hblk8 ho8 t0 t1 t2 tw
  go_wp2_with fail
  go_at_call 35
  refine ca.mono ?_
  rintro e w9 ⟨v9, rfl, ho9, hb9⟩
  have hrow9 : OwR w9 0 v9 (all7 [] l) ∧ ∀ g, v9.ownBlock = some g → w8.heap.size ≤ g := by
    rcases ho9 with ho9 | ⟨rfl, rfl⟩
    · exact ⟨own_less ho9 (Nat.zero_le _), fun g hg => (ho9.lt g hg).1⟩
    · exact ⟨World.ownsRow_nil _ _ _ _, fun g hg => by cases hg⟩
  obtain ⟨a9, n9, c9, rfl⟩ : ∃ a n c, v9 = .slice a n c := by obtain ⟨a, c, h, _⟩ := hrow9.1.form; exact ⟨a, _, c, h⟩
  have hvlt : v < w8.heap.size := (Array.getElem?_eq_some_iff.1 HBLK8.out).1
  have hblk9 := (hb9.block v hvlt).trans HBLK8.out
  clear t3
  obtain ⟨t0, t1, t2, t3, tw⟩ := ncell hblk9
  have hfz := tw 3
  obtain ⟨vR, hvR⟩ : ∃ vR, vR = Value.slice a9 n9 c9 := ⟨_, rfl⟩
  rw [← hvR] at hrow9
  have hB9 : Below (w.alloc ob).heap.size (w.alloc ob) w9 := Tx.below_call HB8.out hb9
  have hnev : ∀ g, vR.ownBlock = some g → g ≠ v := fun g hg e => by have := hrow9.2 g hg; omega
  have hltF := (ref_kind bw).lt HD0.out
  have hset : ∀ i, i ≠ v → (w9.setCell ⟨v, 3, none⟩ vR).heap[i]? = w9.heap[i]? := fun i hi => set_other _ hi
  have hD : RefAt bw (w9.setCell ⟨v, 3, none⟩ vR) F s1 := (ref_kind bw).kept HD0.out (fun i hi => (hset i (fun e => hnv (e ▸ hi))).trans (hB9.block i (hltF i hi)))
  have hB9w : Below w.heap.size w w9 := HB0.out.trans (hB9.mono (by omega))
  have hCh : Chg F w (w9.setCell ⟨v, 3, none⟩ vR) := (Chg.of_below hB9w).trans (chg_set (b := v) (k := 3) vR) (fun i hi => .inr (by have := HV.out; omega))
  have hF1 : ∀ g, F g → F g ∨ w.heap.size ≤ g := fun g hg => .inl hg
  have hvF := hnv
  have hvw : w.heap.size ≤ v := by have := HV.out; omega
  have hblk : (w9.setCell ⟨v, 3, none⟩ vR).heap[v]? = some (cellsN bw vR) := by
    rw [set_block hblk9 _]
    rfl
  have hrow : OwR (w9.setCell ⟨v, 3, none⟩ vR) 0 vR L0 := by rw [HE0.out]; exact own_kept hrow9.1 (fun g hg => hset g (hnev g hg))
  have hrF : ∀ g, vR.ownBlock = some g → w.heap.size ≤ g ∧ g ≠ v ∧ ¬ F g := fun g hg => by
    have h1 := hrow9.2 g hg
    have h2 := HB8.out.size
    exact ⟨by omega, hnev g hg, fun hf => by have := hltF g hf; omega⟩
  subst hvR
  clear ca ho9 hb9 t0 t1 t2 tw hblk9 hB9 hB9w hset hnev hrow9 HB8 HBLK8
  go_wp2_with fail
  clear t3 hfz
  generalize w9.setCell ⟨v, 3, none⟩ (Value.slice a9 n9 c9) = W at hD hCh hblk hrow ⊢
  generalize Value.slice a9 n9 c9 = vR at hblk hrow hrF ⊢
  have hj1 := log_is
  unfold pS at hj1
  have co := rOpen_any bw pG W hD HOK.out (by omega) hz (by decide)
  rw [HOS.out] at co
  have hRL : Rises L0 ∧ Plain L0 := HL0.out
  by_cases hk : k = 0
  · subst hk
    have HREC := Lib.hid (HRC.out rfl)
    have HRN := Lib.hid HREC.out.2.2
    have HR0 := Lib.hid (HR.out.trans (if_pos rfl))
    clear HR
    go_wp2_with fail
    go_at_call 36
    refine (co).mono ?_
    rintro e W2 hh
    obtain ⟨_, jw, rfl, Fj, hjn, hc2, hn2⟩ | ⟨hne, _⟩ := hh
    rotate_left
    · exact absurd rfl hne
    have hvlt : v < W.heap.size := (Array.getElem?_eq_some_iff.1 hblk).1
    have hblk2 := (hc2.block v hvlt hvF).trans hblk
    have hrow2 : OwR W2 0 vR L0 := own_kept hrow (fun g hg => hc2.block g (hrow.lt g hg).2 (hrF g hg).2.2)
    have hFjv : ¬ Fj v := fun hh => by rcases hn2 v hh with hh | hh; exact hvF hh; omega
    have hFjr : ∀ g, vR.ownBlock = some g → ¬ Fj g := fun g hg hh => by rcases hn2 g hh with hh | hh; exact (hrF g hg).2.2 hh; have := (hrow.lt g hg).2; omega
    obtain ⟨t0, t1, t2, t3, tw⟩ := ncell hblk2
    have hset : ∀ i, i ≠ v → (W2.setCell ⟨v, 2, none⟩ (.pointer (some ⟨jw, 0, none⟩))).heap[i]? = W2.heap[i]? := fun i hi => set_other _ hi
    have hblk3 : (W2.setCell ⟨v, 2, none⟩ (.pointer (some ⟨jw, 0, none⟩))).heap[v]? = some (cellsT bw jw vR) := by
      rw [set_block hblk2 _]
      rfl
    have hR3 : RAt bw jw v vR Fj (W2.setCell ⟨v, 2, none⟩ (.pointer (some ⟨jw, 0, none⟩))) (fun i => Fj i ∨ i = v ∨ vR.ownBlock = some i) ⟨y, L0⟩ :=
      ⟨(jr_kind bw jw).2 hjn (fun i hi => hset i (fun e => hFjv (e ▸ hi))), hblk3, own_kept hrow2 (fun g hg => hset g (hrF g hg).2.1), fun e => (hrF v e).2.1 rfl, fun i hi => ⟨fun e => hFjv (e ▸ hi), fun e => hFjr i e hi⟩, fun i => Iff.rfl, hRL.1, hRL.2⟩
    have hC3 : Chg F w (W2.setCell ⟨v, 2, none⟩ (.pointer (some ⟨jw, 0, none⟩))) := (hCh.trans hc2 hF1).trans (chg_set (b := v) (k := 2) _) (fun i hi => .inr (by omega))
    have hF3 : ∀ g, (Fj g ∨ g = v ∨ vR.ownBlock = some g) → F g ∨ w.heap.size ≤ g := fun g hg => by
      rcases hg with hg | hg | hg
      · rcases hn2 g hg with hh | hh
        · exact hF1 g hh
        · have := hCh.size; exact .inr (by omega)
      · exact .inr (by omega)
      · exact .inr (hrF g hg).1
    have HR3 := Lib.hid hR3
    have HC3 := Lib.hid hC3
    have HF3 := Lib.hid hF3
    have hw2 := tw 2
    have e00 : (((0 : Nat) : Int) == 0) = true := rfl
    clear hD hCh hblk hrow hrF hvF co hjn hc2 hblk2 hrow2 hFjv hFjr hset hblk3 hR3 hC3 hF3 t0 t1 t3 tw
    go_wp2_with fail
    go_loopw [15] (fun iv wr => ∃ (i : Nat) (vR : Value) (F1 : Nat → Prop), i ≤ y.R.length ∧ iv = .int .i64 i ∧ RAt bw jw v vR Fj wr F1 ⟨y, rows7 L0 (y.R.take i)⟩ ∧ Chg F w wr ∧ ∀ g, F1 g → F g ∨ w.heap.size ≤ g) (fun iv _ => y.R.length - (intOf iv).toNat)
    case atStart => exact ⟨0, vR, _, Nat.zero_le _, rfl, HR3.out, HC3.out, HF3.out⟩
    case round =>
      clear hw2 t2
      obtain ⟨i, vR, F1, hi, rfl, hA, hCw, hFw⟩ := hrel
      obtain ⟨vj, Fd, hj⟩ := hA.jn
      obtain ⟨q0, q1, q2, q3⟩ := hj.cell
      obtain ⟨aT, cT, hvj, hst, hcT, _⟩ := Tx.Texts.form (show Tx.Texts wr 0 vj y.R from hj.row)
      rw [hvj] at q2
      have hRN := HRN.out
      by_cases hlt : i < y.R.length
      · obtain ⟨r, hr⟩ : ∃ r, y.R[i]? = some r := ⟨_, List.getElem?_eq_getElem hlt⟩
        obtain ⟨hr0, hr1⟩ := HREC.out.1 r (List.mem_of_getElem? hr)
        have hsum := HREC.out.2.1
        have hlen := len_rows L0 (y.R.take i)
        have hst2 := sum_take y.R (i + 1)
        have hst1 := sum_take y.R i
        have hsn : rows7 L0 (y.R.take (i + 1)) = all7 (rows7 L0 (y.R.take i)) (opsS r).1 := by rw [take_snoc7 hr, rows7_snoc]
        have hol := opsS_len r
        have hs12 : ((y.R.take (i + 1)).map (·.size)).sum = ((y.R.take i).map (·.size)).sum + r.size := by rw [take_snoc7 hr, List.map_append, List.sum_append]; simp
        obtain ⟨gT, offT, haT, hgT, hcell⟩ : ∃ b off, aT = some ⟨b, off, none⟩ ∧ b < wr.heap.size ∧ wr.cell? ⟨b, off + i, none⟩ = some (.string r) := by
          rcases hst.2 with h0 | ⟨b, off, ha, hb, hc⟩
          · omega
          · exact ⟨b, off, ha, hb, hc i r hr⟩
        subst haT
        have cops := refOps_any r wr (by omega)
        unfold OpsTo at cops
        rw [hr0] at cops
        obtain ⟨c0, c1, c2, c3, cw⟩ := tcell hA.blk
        have hvlt2 : v < wr.heap.size := (Array.getElem?_eq_some_iff.1 hA.blk).1
        have hiz : (i : Int) < (y.R.length : Int) := by omega
        have HA := Lib.hid hA
        have HCW := Lib.hid hCw
        have HFW := Lib.hid hFw
        have HSN := Lib.hid hsn
        have hbnd : (rows7 L0 (y.R.take i)).length + (opsS r).1.length ≤ 1000000000 := by omega
        generalize (opsS r).1 = l at cops HSN hbnd hol
        generalize hrl : y.R.length = RL at hiz q2 hi hlt hst hcT hRN
        clear q0 q1 q3 hst hj hA hCw hFw hr0 hr1 hsum hlen hst2 hst1 hsn hs12 hr hvj
        go_wp2_with fail
        go_at_call 34
        refine cops.mono ?_
        rintro e w5 ⟨v5, rfl, ho5, hb5⟩
        have hA5 := HA.out.below hb5
        obtain ⟨aO, cO, rfl, hop, hoc⟩ := ho5.val
        have hrv := (OwR.val hA5.row)
        have ca := refAll_any vR (rows7 L0 (y.R.take i)) aO l.length cO l w5 hrv hop hA5.rises hA5.plain hbnd hoc
        rw [← HSN.out] at ca
        obtain ⟨d0, d1, d2, d3, dw⟩ := tcell hA5.blk
        have hvs : ∃ a c, vR = .slice a (rows7 L0 (y.R.take i)).length c := by obtain ⟨a, c, h1, _⟩ := hrv; exact ⟨a, c, h1⟩
        have HA5 := Lib.hid hA5
        have HB5 := Lib.hid hb5
        have HRV := Lib.hid hrv
        obtain ⟨aR, cR, rfl⟩ := hvs
        generalize hlm : l.length = m at ca
        generalize hln : (rows7 L0 (y.R.take i)).length = nr at ca d3 HA5 HA HRV
        clear cops c0 c1 c2 c3 cw ho5 hop hoc hA5 hrv hb5 d0 d1 d2
        go_wp2_with fail
        go_at_call 35
        refine ca.mono ?_
        rintro e w6 ⟨v6, rfl, ho6, hb6⟩
        have hrow6 : OwR w6 0 v6 (rows7 L0 (y.R.take (i + 1))) ∧ ∀ g, v6.ownBlock = some g → (Value.slice aR nr cR).ownBlock = some g ∨ w5.heap.size ≤ g := by
          rcases ho6 with ho6 | ⟨rfl, hl0⟩
          · exact ⟨own_less ho6 (Nat.zero_le _), fun g hg => .inr (ho6.lt g hg).1⟩
          · have := (HA5.out.below hb6).row
            rw [HSN.out, hl0]
            exact ⟨this, fun g hg => .inl hg⟩
        obtain ⟨a6, n6, c6, rfl⟩ : ∃ a n c, v6 = .slice a n c := by obtain ⟨a, c, h, _⟩ := hrow6.1.form; exact ⟨a, _, c, h⟩
        obtain ⟨F7, hA7, hC7, hN7⟩ := HA5.out.poke hb6 hrow6.1 hrow6.2 (rises_rows HL0.out.1 _) (plain_rows HL0.out.2 _)
        obtain ⟨f0, f1, f2, f3, fw⟩ := tcell ((hb6.block v (Array.getElem?_eq_some_iff.1 HA5.out.blk).1).trans HA5.out.blk)
        have hfw := fw 3
        have hC8 : Chg F w (w6.setCell ⟨v, 3, none⟩ (.slice a6 n6 c6)) := (HCW.out.trans (Chg.of_below (F := fun _ => False) HB5.out) (fun i hi => hi.elim)).trans hC7 (fun g hg => by
          rcases HFW.out g hg with hh | hh
          · exact .inl hh
          · exact .inr hh)
        have hN8 : ∀ g, F7 g → F g ∨ w.heap.size ≤ g := fun g hg => by
          rcases hN7 g hg with hh | hh
          · exact HFW.out g hh
          · have h1 := HCW.out.size
            have h2 := HB5.out.size
            exact .inr (by omega)
        have HA7 := Lib.hid hA7
        have HC8 := Lib.hid hC8
        have HN8 := Lib.hid hN8
        clear ca ho6 hrow6 hA7 hC7 hN7 hC8 hN8 f0 f1 f2 fw d3 dw hb6
        go_wp2_with fail
        go_roundw
        case rel => exact ⟨i + 1, _, F7, by omega, by go_num, HA7.out, HC8.out, HN8.out⟩
        case measure => first | omega | (simp [intOf]; omega)
      · obtain rfl : i = y.R.length := by omega
        rw [List.take_of_length_le (Nat.le_refl _)] at hA
        obtain ⟨c0, c1, c2, c3, cw⟩ := tcell hA.blk
        have hfin : LeftA (Rn bw jw v) w F ⟨y, rows7 L0 y.R⟩ wr := ⟨F1, ⟨vR, Fj, hA⟩, hCw, hFw⟩
        have HFIN := Lib.hid hfin
        clear hfin hA hCw hFw hj q0 q1 q3 hst c0 c1 c3 cw hvj
        go_wp2_with fail
        go_ret2
        rw [HR0.out]
        exact .inl ⟨rfl, jw, v, rfl, HFIN.out⟩
  · have nk := Dk.ne_eq hk
    have HK := Lib.hid hk
    have HR0 := Lib.hid (HR.out.trans (if_neg hk))
    clear HR
    go_wp2_with fail
    go_at_call 36
    refine (co).mono ?_
    rintro e W2 hh
    obtain ⟨h0, _⟩ | ⟨_, rfl, hl⟩ := hh
    · exact absurd h0 HK.out
    obtain ⟨F2, l1, l2, l3⟩ := hl
    have hfin : Dk.Left (RefAt bw) w F y.s W2 := ⟨F2, l1, hCh.trans l2 hF1, fun g hg => by
      rcases l3 g hg with hh | hh
      · exact hF1 g hh
      · have := hCh.size; exact .inr (by omega)⟩
    have HFIN := Lib.hid hfin
    clear hfin hk l1 l2 l3 hD hCh hblk hrow hrF hvF co
    go_wp2_with fail
    go_ret2
    rw [HR0.out]
    exact .inr ⟨HK.out, rfl, HFIN.out⟩
theorem refOpen7_any (bw : Nat) {F : Nat → Prop} {s s1 : St} {L0 : List It} {k : Nat} {y : Jst} {r : Nat × Tst} (w : World) (h : RefAt bw w F s) (hs : (s = newS ∧ s1 = (mkdirS s pS).2 ∧ kind s.L pS = 0 ∧ (mkdirS s pS).1 = 0 ∧ kind s1.L pB = 0 ∧ L0 = []) ∨ (s1 = s ∧ kind s.L pS ≠ 0)) (ok : Ok s) (hb0 : base0 s1 pB = (L0, 0)) (hos : openS s1 pG = (k, y)) (ho : OpenOk s1 pG) (hrec : k = 0 → RecOk L0 y.R) (hn : s.L.length ≤ 1000000000 ∧ s1.L.length ≤ 1000000000) (hz : (readS s1 pG).1.size ≤ 8796093022207) (hbz : (readS s1 pB).1.size ≤ 1000000000) (hr : r = if k = 0 then (0, ⟨y, rows7 L0 y.R⟩) else (k, ⟨y, []⟩)) :
    Calls Tryz.prog 8 #[.pointer (some ⟨bw, 0, none⟩), .string pS] w (ROpenTo bw w F r) := by
  rcases hs with hs | hs
  · exact refOpen7_a bw w h hs ok hb0 hos ho hrec hn hz hbz hr
  · by_cases hkb : kind s1.L pB = 0
    · exact refOpen7_b bw w h hs ok hb0 hos ho hrec hn hz hbz hr (by rw [← hs.1]; exact hkb)
    · exact refOpen7_c bw w h hs ok hb0 hos ho hrec hn hz hbz hr hkb
end Go.Proofs.YtjdfffkkpbabpaaGreat.Tb

namespace Go.Proofs.YtjdfffkkpbabpaaGreat.Tb
open Go.RowKit Tx Pm Dk Wm Wr Wl Pl
set_option linter.unusedVariables false
set_option linter.unusedSimpArgs false
set_option linter.unnecessarySimpa false
def overV (L : List It) (l : List Ch) (p : ByteArray) : ByteArray := match lastOf l p with
  | some c => c.val
  | none => (lookC L p).val
def overB (L : List It) (l : List Ch) (p : ByteArray) : Bool := match lastOf l p with
  | some c => !c.gone
  | none => (find L p).isSome
theorem last_at {l : List Ch} (h : Once l) {p : ByteArray} {i : Nat} {c : Ch} (hi : at7 l p = some i) (hc : l[i]? = some c) : lastOf l p = some c := by
  obtain ⟨d, hd, hk, hlt⟩ := at7_lt hi
  rw [hc] at hd
  injection hd with hd
  subst hd
  have hm := List.mem_of_getElem? hc
  unfold lastOf
  have : ∀ (l : List Ch), Once l → c ∈ l → l.find? (fun x => decide (x.key = p)) = some c := by
    intro l
    induction l with
    | nil => intro _ h; cases h
    | cons x l ih =>
      intro ho h
      rcases List.mem_cons.1 h with rfl | h
      · exact List.find?_cons_of_pos (by simpa using hk)
      · have hne : x.key ≠ c.key := (List.pairwise_cons.1 ho).1 c h
        rw [List.find?_cons_of_neg (by rw [← hk]; simpa using hne)]
        exact ih (List.pairwise_cons.1 ho).2 h
  refine this _ ?_ (List.mem_reverse.2 hm)
  exact List.pairwise_reverse.2 (h.imp (fun hab => fun e => hab e.symm))
theorem last_none {l : List Ch} {p : ByteArray} (h : at7 l p = none) : lastOf l p = none := by
  unfold lastOf
  refine List.find?_eq_none.2 (fun x hx he => ?_)
  have := at7_none h
  exact absurd (List.any_eq_true.2 ⟨x, List.mem_reverse.1 hx, he⟩) (by rw [this]; decide)
set_option maxRecDepth 100000 in
set_option maxHeartbeats 4000000 in
theorem bGet_any (u t m pm : Nat) (vO : Value) (L : List It) (l : List Ch) (key : ByteArray) (w : World) {G : Nat → Prop} (hB : BAt u pm (some ⟨t, 0, none⟩) vO w G l) (ht : w.cell? ⟨t, 3, none⟩ = some (.map (some m))) (hm : Mo w m L) (hk : key.size ≤ 1000000000000000) :
    Calls Tryz.prog 59 #[.pointer (some ⟨u, 0, none⟩), .string key] w fun e w' => e = .returned (.tuple #[.string (overV L l key), .bool (overB L l key)]) ∧ Below w.heap.size w w' := by
  obtain ⟨c0, c1, c2⟩ := hB.cell
  have hl := hB.plc.look (p := key) (by unfold maxLen; omega)
  unfold placeV at hl
  have HBl := Lib.hid (fun o => (Below.refl w.heap.size w).alloc (Nat.le_refl _) o)
  cases ha : at7 l key with
  | none =>
    rw [ha] at hl
    have e1 : overV L l key = (lookC L key).val := by unfold overV; rw [last_none ha]
    have e2 : overB L l key = (find L key).isSome := by unfold overB; rw [last_none ha]
    have cg := tGet_any t m L key w ht hm (by unfold maxLen; omega)
    rw [← e1, ← e2] at cg
    generalize overV L l key = V at cg ⊢
    generalize overB L l key = O at cg ⊢
    clear ha hB hm ht e1 e2
    go_enter Tryz.func59, Tryz.ntmps59
    go_wp2_with fail
    go_at_call 23
    refine cg.mono ?_
    rintro e w1 ⟨rfl, hb1⟩
    go_wp2_with fail
    go_ret2
    exact ⟨rfl, hb1⟩
  | some i =>
    obtain ⟨c, hc, hck, hlt⟩ := at7_lt ha
    rw [ha] at hl
    have e1 : overV L l key = c.val := by unfold overV; rw [last_at hB.once ha hc]
    have e2 : overB L l key = !c.gone := by unfold overB; rw [last_at hB.once ha hc]
    rw [e1, e2]
    obtain ⟨a, cp, rfl, hopl, hcp, _⟩ := hB.ops.form
    obtain ⟨g, off, rfl, hg, g0, g1, g2⟩ := hopl.nth hc
    obtain ⟨key1, val1, gone1⟩ := c
    simp only at g0 g1 g2 ⊢
    obtain ⟨N, hN⟩ : ∃ N, N = l.length := ⟨_, rfl⟩
    rw [← hN] at c1 hlt hcp
    have hiz : (i : Int) < (N : Int) := by omega
    clear ha hB hm ht e1 e2 hc hck hopl hN
    go_enter Tryz.func59, Tryz.ntmps59
    go_wp2_with fail
    go_region
    all_goals
      go_wp2_with fail
      go_ret2
      exact ⟨rfl, (HBl.out _).drew⟩
theorem norm_key (o : Ch) : (norm o).key = o.key ∧ (norm o).val.size ≤ o.val.size ∧ (norm o).gone = o.gone := by
  obtain ⟨k, v, g⟩ := o
  cases g
  · exact ⟨rfl, Nat.le_refl _, rfl⟩
  · exact ⟨rfl, Nat.zero_le _, rfl⟩
end Go.Proofs.YtjdfffkkpbabpaaGreat.Tb

namespace Go.Proofs.YtjdfffkkpbabpaaGreat.Tb
open Go.RowKit Tx Pm Dk Wm Wr Wl
set_option linter.unusedVariables false
set_option linter.unusedSimpArgs false
set_option linter.unnecessarySimpa false
def tot (S : List (ByteArray × ByteArray)) : Nat := (S.map fun s => s.1.size + s.2.size + 40).sum
theorem tot_cons (s : ByteArray × ByteArray) (S : List (ByteArray × ByteArray)) : tot (s :: S) = s.1.size + s.2.size + 40 + tot S := by unfold tot; rw [List.map_cons, List.sum_cons]
def FromC (S : List (ByteArray × ByteArray)) (c : Ch) : Prop := c.gone = false → (c.key, c.val) ∈ S
def FromL (S : List (ByteArray × ByteArray)) (L : List It) : Prop := ∀ x ∈ L, (x.path, x.data) ∈ S
def Rc (S : List (ByteArray × ByteArray)) (r : ByteArray) : Prop := (opsS r).2 = 0 ∧ r.size ≤ 1100010 ∧ ∀ c ∈ (opsS r).1, FromC S c
section
variable {S : List (ByteArray × ByteArray)}
theorem from_app {L : List It} {c : Ch} (hL : FromL S L) (hc : FromC S c) : FromL S (app L c) := fun x hx => by
  unfold app at hx
  cases hg : c.gone with
  | true =>
    rw [hg] at hx
    exact hL x (List.mem_filter.1 hx).1
  | false =>
    rw [hg] at hx
    rcases mem_ins hx with rfl | hx
    · exact hc hg
    · exact hL x hx
theorem from_all {L : List It} : ∀ {l : List Ch}, FromL S L → (∀ c ∈ l, FromC S c) → FromL S (all7 L l) := fun {l} => by
  induction l generalizing L with
  | nil => exact fun h _ => h
  | cons c l ih => exact fun h hc => ih (from_app h (hc c List.mem_cons_self)) (fun d hd => hc d (List.mem_cons_of_mem _ hd))
theorem from_rows {L : List It} {R : List ByteArray} (hL : FromL S L) (hR : ∀ r ∈ R, Rc S r) : FromL S (rows7 L R) := by
  induction R generalizing L with
  | nil => exact hL
  | cons r R ih => exact ih (from_all hL (hR r List.mem_cons_self).2.2) (fun d hd => hR d (List.mem_cons_of_mem _ hd))
theorem ws_pick : ∀ {L : List It} {x : It}, L.Pairwise (fun a b => a.path ≠ b.path) → x ∈ L → ws L = ws (L.filter fun y => !decide (y.path = x.path)) + (x.path.size + x.data.size + 40)
  | [], _, _, h => by cases h
  | y :: L, x, hp, h => by
    obtain ⟨h1, h2⟩ := List.pairwise_cons.1 hp
    by_cases he : y.path = x.path
    · have hyx : x = y := by
        rcases List.mem_cons.1 h with h | h
        · exact h
        · exact absurd he (h1 x h)
      subst hyx
      have hf : L.filter (fun y => !decide (y.path = x.path)) = L := List.filter_eq_self.2 (fun z hz => by have := h1 z hz; simp [Ne.symm this])
      rw [List.filter_cons_of_neg (by simp), hf, ws_cons]
      omega
    · have hx : x ∈ L := by
        rcases List.mem_cons.1 h with h | h
        · exact absurd (by rw [h]) he
        · exact h
      rw [List.filter_cons_of_pos (by simp [he]), ws_cons, ws_cons, ws_pick h2 hx]
      omega
theorem ws_from : ∀ {S : List (ByteArray × ByteArray)} {L : List It}, L.Pairwise (fun a b => a.path ≠ b.path) → FromL S L → ws L ≤ tot S
  | [], L, _, h => by
    cases L with
    | nil => exact Nat.le_refl _
    | cons x L => exact absurd (h x List.mem_cons_self) (by simp)
  | s :: S, L, hp, h => by
    rw [tot_cons]
    by_cases hx : ∃ x ∈ L, (x.path, x.data) = s
    · obtain ⟨x, hx, rfl⟩ := hx
      rw [ws_pick hp hx]
      have ih := ws_from (S := S) (L := L.filter fun y => !decide (y.path = x.path)) (hp.filter _) (fun y hy => by
        obtain ⟨hy1, hy2⟩ := List.mem_filter.1 hy
        rcases List.mem_cons.1 (h y hy1) with e | e
        · simp only [Prod.mk.injEq] at e
          rw [e.1] at hy2
          simp at hy2
        · exact e)
      show _ ≤ x.path.size + x.data.size + 40 + tot S
      omega
    · have ih := ws_from (S := S) (L := L) hp (fun y hy => by
        rcases List.mem_cons.1 (h y hy) with e | e
        · exact absurd ⟨y, hy, e⟩ hx
        · exact e)
      omega
theorem rises_ne {L : List It} (h : Rises L) : L.Pairwise (fun a b => a.path ≠ b.path) := List.Pairwise.imp (fun {a b} hab e => by rw [e, less_irrefl] at hab; cases hab) h
theorem ws_len (L : List It) : L.length * 40 ≤ ws L := by
  induction L with
  | nil => exact Nat.le_refl _
  | cons x L ih => rw [ws_cons, List.length_cons, Nat.succ_mul]; omega
theorem sum_le : ∀ {l : List Nat} {N : Nat}, (∀ x ∈ l, x ≤ N) → l.sum ≤ l.length * N
  | [], _, _ => Nat.zero_le _
  | x :: l, N, h => by
    have h1 := h x List.mem_cons_self
    have h2 := sum_le (l := l) (fun y hy => h y (List.mem_cons_of_mem _ hy))
    rw [List.sum_cons, List.length_cons, Nat.succ_mul]
    omega
theorem pk_le {R : List ByteArray} (h : ∀ r ∈ R, r.size ≤ 1100010) : (PK R).size ≤ R.length * 1100030 := by
  refine snoc7 (P := fun R => (∀ r ∈ R, r.size ≤ 1100010) → (PK R).size ≤ R.length * 1100030) (fun _ => Nat.le_refl _) (fun l v ih h => ?_) R h
  have h1 := ih (fun x hx => h x (List.mem_append_left _ hx))
  have hv := h v (by simp)
  have h3 := pk_bound (r := v) (by omega)
  rw [PK_snoc, ByteArray.size_append, List.length_append]
  show _ ≤ (l.length + 1) * 1100030
  omega
theorem rc_rec {l : List Ch} (hw : wt l ≤ 1100000) (h : ∀ c ∈ l, FromC S c) : Rc S (rec7 l) := by
  have hb := ops_back (l := l) (by omega)
  have hr := rec7_le (l := l) (by omega)
  unfold Rc
  rw [hb]
  refine ⟨rfl, by omega, fun c hc => ?_⟩
  obtain ⟨d, hd, rfl⟩ := List.mem_map.1 hc
  intro hg
  have hdg : d.gone = false := by have := (norm_key d).2.2; rw [this] at hg; exact hg
  have hn : norm d = d := by unfold norm; rw [hdg]; rfl
  rw [hn]
  exact h d hd hdg
theorem rc_empty : Rc S (rec7 []) := rc_rec (by decide) (fun c hc => by cases hc)
theorem recok {L : List It} {R : List ByteArray} (hL : FromL S L) (hr : Rises L) (hS : tot S ≤ 1100000) (hR : ∀ r ∈ R, Rc S r) (hl : R.length ≤ 340) : RecOk L R := by
  have h1 := ws_from (rises_ne hr) hL
  have h2 := ws_len L
  have h3 := sum_le (l := R.map (·.size)) (N := 1100010) (fun x hx => by
    obtain ⟨r, hr, rfl⟩ := List.mem_map.1 hx
    exact (hR r hr).2.1)
  rw [List.length_map] at h3
  have h4 := Nat.mul_le_mul_right 1100010 hl
  exact ⟨fun r hr => ⟨(hR r hr).1, by have := (hR r hr).2.1; omega⟩, by omega, by omega⟩
theorem based_rises {B : Option Fi} {L : List It} (h : Based B L) : Rises L ∧ Plain L := by
  rcases h with ⟨_, rfl⟩ | ⟨r, n, ops, _, _, _, rfl⟩
  · exact ⟨List.Pairwise.nil, fun x hx => by cases hx⟩
  · exact ⟨rises_all List.Pairwise.nil _, plain_all (fun x hx => by cases hx) _⟩
theorem ins_end {acc : List It} {x : It} (h : ∀ y ∈ acc, Op.bytesLess y.path.toList x.path.toList = true) : ins acc x = acc ++ [x] := by
  have h1 : acc.takeWhile (fun y => Op.bytesLess y.path.toList x.path.toList) = acc ∧ acc.dropWhile (fun y => Op.bytesLess y.path.toList x.path.toList) = [] := by
    induction acc with
    | nil => exact ⟨rfl, rfl⟩
    | cons y acc ih =>
      have hy := h y List.mem_cons_self
      obtain ⟨i1, i2⟩ := ih (fun z hz => h z (List.mem_cons_of_mem _ hz))
      rw [List.takeWhile_cons, List.dropWhile_cons, hy]
      simp only [if_true, i1, i2]
      exact ⟨trivial, trivial⟩
  unfold ins
  rw [h1.1, h1.2]
theorem all_asc : ∀ (L acc : List It), Rises (acc ++ L) → Plain L → all7 acc (whole7 L) = acc ++ L
  | [], acc, _, _ => by rw [List.append_nil]; rfl
  | x :: L, acc, hr, hp => by
    have hx : rw7 x.path x.data = x := (hp x List.mem_cons_self).symm
    have e : acc ++ x :: L = (acc ++ [x]) ++ L := by simp
    rw [e] at hr ⊢
    have ih := all_asc L (acc ++ [x]) hr (fun y hy => hp y (List.mem_cons_of_mem _ hy))
    have hlow : ∀ y ∈ acc, Op.bytesLess y.path.toList x.path.toList = true := fun y hy => by
      have h1 := (List.pairwise_append.1 hr).1
      exact (List.pairwise_append.1 h1).2.2 y hy x (by simp)
    show all7 (app acc ⟨x.path, x.data, false⟩) (whole7 L) = _
    have ha : app acc ⟨x.path, x.data, false⟩ = acc ++ [x] := by
      unfold app
      show ins acc (rw7 x.path x.data) = _
      rw [hx]
      exact ins_end hlow
    rw [ha]
    exact ih
theorem based_whole {L : List It} {n : Nat} (hr : Rises L) (hP : Plain L) (hw : ws L ≤ 1100000) : Based (some (sy (Fm.pk (rec7 (whole7 L))) n)) L := by
  have hww := wt_whole L
  have hb := ops_back (l := whole7 L) (by omega)
  have hrs := rec7_le (l := whole7 L) (by omega)
  refine .inr ⟨rec7 (whole7 L), n, (whole7 L).map norm, rfl, hb, by omega, ?_⟩
  rw [all_norm]
  have := all_asc L [] hr hP
  rw [List.nil_append] at this
  exact this.symm
structure Cx (S : List (ByteArray × ByteArray)) (K M : Nat) (B BT G GT : Option Fi) (st sm : Nat) (L0 : List It) (R : List ByteArray) (r : ByteArray) : Prop where
  sz : Sz B BT G GT st sm
  bs : B = none ∨ ∃ d n, B = some (sy d n)
  based : Based B L0
  from0 : FromL S L0
  recs : ∀ x ∈ R ++ [r], Rc S x
  len : R.length ≤ M
  st : st ≤ K
  sm : sm ≤ K
  log : ∀ G', Re G G' → ∃ c n, G' = some (sy c n) ∧ Torn R r c
def Dsk (S : List (ByteArray × ByteArray)) (K M : Nat) (s : St) : Prop := ∃ B BT G GT st sm a dn L0 R r, s = T7 B BT G GT st sm a dn ∧ Rng a ∧ Cx S K M B BT G GT st sm L0 R r
def Wk (S : List (ByteArray × ByteArray)) (K M : Nat) (x : Tst) : Prop := ∃ B BT n GT st sm a L0 R, x = ⟨⟨T7 B BT (some (sy (PK R) n)) GT st sm a false, R, false⟩, rows7 L0 R⟩ ∧ Rng a ∧ Cx S K M B BT (some (sy (PK R) n)) GT st sm L0 R (rec7 [])
theorem re_sy7 {c : ByteArray} {n : Nat} {o : Option Fi} (h : Re (some (sy c n)) o) : o = some (sy c n) := by
  obtain ⟨c', m, rfl, _, h1, _⟩ := h
  obtain ⟨rfl, rfl⟩ := h1 rfl
  rfl
theorem re_bs7 {B o : Option Fi} (h : Re B o) (hB : B = none ∨ ∃ d n, B = some (sy d n)) : o = B := by
  rcases hB with rfl | ⟨d, n, rfl⟩
  · exact h
  · exact re_sy7 h
theorem log_w {R : List ByteArray} {r : ByteArray} {n : Nat} : ∀ G', Re (some (sy (PK R) n)) G' → ∃ c n, G' = some (sy c n) ∧ Torn R r c := fun G' hG => ⟨_, _, re_sy7 hG, torn_whole _ _⟩
theorem log_l {R : List ByteArray} {r : ByteArray} {m : Nat} : ∀ G', Re (some ⟨PK R ++ Fm.pk r, PK R, true, false, m⟩) G' → ∃ c n, G' = some (sy c n) ∧ Torn R r c := fun G' hG => by
  obtain ⟨c, n, rfl, _, _, h⟩ := hG
  obtain ⟨h1, h2⟩ := h rfl rfl
  refine ⟨c, n, rfl, ⟨h1, ?_⟩⟩
  rw [PK_snoc]
  exact h2
theorem pk_ook {R : List ByteArray} {n : Nat} (h : ∀ r ∈ R, Rc S r) (hl : R.length ≤ 340) : Ook (some (sy (PK R) n)) := by
  have h1 := pk_le (R := R) (fun r hr => (h r hr).2.1)
  have h2 := Nat.mul_le_mul_right 1100030 hl
  exact ook_sy (by omega)
theorem Wk.dsk {K M : Nat} {x : Tst} (h : Wk S K M x) : Dsk S K M x.j.s := by
  obtain ⟨B, BT, n, GT, st, sm, a, L0, R, rfl, ha, hc⟩ := h
  exact ⟨B, BT, _, GT, st, sm, a, false, L0, R, _, rfl, ha, hc⟩
theorem Wk.rows {K M : Nat} {x : Tst} (h : Wk S K M x) (hS : tot S ≤ 1100000) : Rises x.L ∧ Plain x.L ∧ FromL S x.L ∧ ws x.L ≤ 1100000 := by
  obtain ⟨B, BT, n, GT, st, sm, a, L0, R, rfl, ha, hc⟩ := h
  obtain ⟨h1, h2⟩ := based_rises hc.based
  have hr := rises_rows h1 R
  have hf := from_rows hc.from0 (fun r hr => hc.recs r (List.mem_append_left _ hr))
  have := ws_from (rises_ne hr) hf
  exact ⟨hr, plain_rows h2 R, hf, by show ws (rows7 L0 R) ≤ _; omega⟩
theorem Wk.up {K K' M M' : Nat} {x : Tst} (h : Wk S K M x) (hK : K ≤ K') (hM : M ≤ M') : Wk S K' M' x := by
  obtain ⟨B, BT, n, GT, st, sm, a, L0, R, rfl, ha, hc⟩ := h
  exact ⟨B, BT, n, GT, st, sm, a, L0, R, rfl, ha, hc.sz, hc.bs, hc.based, hc.from0, hc.recs, Nat.le_trans hc.len hM, Nat.le_trans hc.st hK, Nat.le_trans hc.sm hK, hc.log⟩
theorem Dsk.up {K K' M M' : Nat} {s : St} (h : Dsk S K M s) (hK : K ≤ K') (hM : M ≤ M') : Dsk S K' M' s := by
  obtain ⟨B, BT, G, GT, st, sm, a, dn, L0, R, r, rfl, ha, hc⟩ := h
  exact ⟨B, BT, G, GT, st, sm, a, dn, L0, R, r, rfl, ha, hc.sz, hc.bs, hc.based, hc.from0, hc.recs, Nat.le_trans hc.len hM, Nat.le_trans hc.st hK, Nat.le_trans hc.sm hK, hc.log⟩
theorem Wk.down {K M : Nat} {x : Tst} (h : Wk S K M x) : x.j.s.down = false ∧ x.j.dm = false := by
  obtain ⟨B, BT, n, GT, st, sm, a, L0, R, rfl, ha, hc⟩ := h
  exact ⟨rfl, rfl⟩
theorem wk_new : Wk S 4 0 ⟨⟨s0T, [], false⟩, []⟩ :=
  ⟨none, none, 2, none, 4, 2, -1, [], [], rfl, rng_m1, ⟨ook_none, ook_none, ook_sy (by decide), ook_none, by decide, by decide⟩, .inl rfl, .inl ⟨rfl, rfl⟩, fun x hx => (by cases hx), fun x hx => by rw [List.mem_singleton.1 hx]; exact rc_empty, Nat.le_refl _, by decide, by decide, log_w⟩
theorem wk_arm {K M : Nat} {x : Tst} {a : Int} (h : Wk S K M x) (ha : Rng a) : Wk S K M ⟨⟨{ x.j.s with armed := a }, x.j.R, x.j.dm⟩, x.L⟩ := by
  obtain ⟨B, BT, n, GT, st, sm, a0, L0, R, rfl, _, hc⟩ := h
  exact ⟨B, BT, n, GT, st, sm, a, L0, R, rfl, ha, hc⟩
def Rst (S : List (ByteArray × ByteArray)) (K M : Nat) (s : St) : Prop := ∃ B BT c n GT st sm a L0 R r, s = T7 B BT (some (sy c n)) GT st sm a false ∧ Rng a ∧ Cx S K M B BT (some (sy c n)) GT st sm L0 R r
theorem dsk_restart {K M : Nat} {s : St} (h : Dsk S K M s) (hK : K ≤ 90000) (loss : Int) : SoundW s ∧ s.L.length ≤ 1000000000 ∧ (∀ x ∈ s.L, x.path.size ≤ 8000000000000) ∧ Rst S (K + 4) M (restartS s loss) := by
  obtain ⟨B, BT, G, GT, st, sm, a, dn, L0, R, r, rfl, _, hc⟩ := h
  have hl := t7_len (B := B) (BT := BT) (G := G) (GT := GT) (st := st) (sm := sm) (a := a) (dn := dn)
  refine ⟨t7_sound hc.sz, by omega, fun x hx => by have := (t7_mem hc.sz hx).1; omega, ?_⟩
  obtain ⟨B', BT', G', GT', sm', hr, r1, r2, r3, r4, b1, b2⟩ := t7_restart a dn hc.sz loss
  obtain ⟨c, n, rfl, ht⟩ := hc.log _ r3
  obtain rfl := re_bs7 r1 hc.bs
  have h1 := hc.st
  have h2 := hc.sm
  refine ⟨B', BT', c, n, GT', st, sm', -1, L0, R, r, hr, rng_m1, ⟨hc.sz.b, r2.ook, r3.ook, r4.ook, by omega, by omega⟩, hc.bs, hc.based, hc.from0, hc.recs, hc.len, by omega, by omega, fun G' hG => ?_⟩
  rw [re_sy7 hG]
  exact ⟨c, n, rfl, ht⟩
theorem Wk.rst {K M : Nat} {x : Tst} (h : Wk S K M x) : Rst S K M x.j.s := by
  obtain ⟨B, BT, n, GT, st, sm, a, L0, R, rfl, ha, hc⟩ := h
  exact ⟨B, BT, _, n, GT, st, sm, a, L0, R, _, rfl, ha, hc⟩
theorem rst_open {K M : Nat} {s : St} (h : Rst S K M s) (hS : tot S ≤ 1100000) (hK : K ≤ 90000) (hM : M ≤ 330) : Open7Ok s pS pB pG ∧ ∃ k x, open7 s pS pB pG = (k, x) ∧ ((k = 0 ∧ Wk S (K + 4) (M + 1) x) ∨ k = 14) := by
  obtain ⟨B, BT, c, n, GT, st, sm, a, L0, R, r, rfl, ha, hc⟩ := h
  obtain ⟨hr1, _⟩ := based_rises hc.based
  obtain ⟨c', n', e, ht⟩ := hc.log (some (sy c n)) ⟨c, n, rfl, (hc.sz.g _ rfl).1, fun _ => ⟨rfl, rfl⟩, fun _ e => (by cases e)⟩
  injection e with e
  have ec : c = c' := congrArg Fi.data e
  subst ec
  have h1 := hc.st
  have h2 := hc.sm
  have hlen := hc.len
  obtain ⟨o1, R', k, x, hR, o2, hcs⟩ := open_T hc.based hc.sz ha (recok hc.from0 hr1 hS hc.recs (by rw [List.length_append]; show R.length + 1 ≤ _; omega)) (by omega) ht (by omega) (by omega)
  refine ⟨o1, k, x, o2, ?_⟩
  rcases hcs with ⟨rfl, GT', n2, st', sm', a', rfl, hsz, hG, b1, b2, ra, _⟩ | ⟨rfl, _⟩
  · refine .inl ⟨rfl, ?_⟩
    have hrec : (∀ y ∈ R', Rc S y) ∧ R'.length ≤ M + 1 := by
      rcases hR with rfl | rfl
      · exact ⟨fun y hy => hc.recs y (List.mem_append_left _ hy), by omega⟩
      · exact ⟨hc.recs, by rw [List.length_append]; show R.length + 1 ≤ _; omega⟩
    exact ⟨B, BT, n2, GT', st', sm', a', L0, R', rfl, ra, ⟨hc.sz.b, hc.sz.bt, pk_ook hrec.1 (by omega), hG, by omega, by omega⟩, hc.bs, hc.based, hc.from0, fun y hy => by
      rcases List.mem_append.1 hy with hy | hy
      · exact hrec.1 y hy
      · rw [List.mem_singleton.1 hy]; exact rc_empty, hrec.2, by omega, by omega, log_w⟩
  · exact .inr rfl
theorem snoc_rc {R : List ByteArray} {r : ByteArray} (h : ∀ x ∈ R, Rc S x) (hr : Rc S r) : ∀ x ∈ R ++ [r], Rc S x := fun x hx => by
  rcases List.mem_append.1 hx with hx | hx
  · exact h x hx
  · rw [List.mem_singleton.1 hx]; exact hr
theorem wk_pack {K M : Nat} {x : Tst} (h : Wk S K M x) (hS : tot S ≤ 1100000) (hK : K ≤ 80000) (hM : M ≤ 330) : PackOk x pB pG ∧ ∃ k y, packS x pB pG = (k, y) ∧ ((k = 0 ∧ Wk S (K + 6) M y) ∨ (k = 14 ∧ y.j.s.down = true ∧ Dsk S (K + 6) M y.j.s)) := by
  obtain ⟨hr, hP, hf, hw⟩ := h.rows hS
  obtain ⟨B, BT, n, GT, st, sm, a, L0, R, rfl, ha, hc⟩ := h
  have hww := wt_whole (rows7 L0 R)
  have h1 := hc.st
  have h2 := hc.sm
  have hlen := hc.len
  simp only at hr hP hf hw
  obtain ⟨hpo, k2, y2, hpa, hpc⟩ := pack_T (B := B) (BT := BT) (GT := GT) (c := PK R) (n := n) (st := st) (sm := sm) (a := a) (R := R) (dm := false) (L := rows7 L0 R) hc.sz ha (by omega) (by omega) (by omega)
  have hbl : (Fm.pk (rec7 (whole7 (rows7 L0 R)))).size ≤ 20000000000 := by
    have := rec7_le (l := whole7 (rows7 L0 R)) (by omega)
    have := pk_bound (r := rec7 (whole7 (rows7 L0 R))) (by omega)
    omega
  refine ⟨hpo, k2, y2, hpa, ?_⟩
  rcases hpc with ⟨rfl, a2, rfl, ra2, _⟩ | ⟨rfl, _, BT', st', sm', hy, hBT, b1, b2⟩ | ⟨rfl, _, GT', st', sm', hy, hGT, b1, b2⟩
  · exact .inl ⟨rfl, _, none, _, none, _, _, a2, rows7 L0 R, [], rfl, ra2, ⟨ook_sy hbl, ook_none, ook_sy (by decide), ook_none, by omega, by omega⟩, .inr ⟨_, _, rfl⟩, based_whole hr hP hw, hf, fun x hx => by rw [List.mem_singleton.1 hx]; exact rc_empty, Nat.zero_le _, by omega, by omega, log_w⟩
  · refine .inr ⟨rfl, by rw [hy]; rfl, ?_⟩
    rw [hy]
    exact ⟨B, BT', _, GT, st', sm', -1, true, L0, R, _, rfl, rng_m1, ⟨hc.sz.b, hBT, hc.sz.g, hc.sz.gt, by omega, by omega⟩, hc.bs, hc.based, hc.from0, hc.recs, hlen, by omega, by omega, hc.log⟩
  · refine .inr ⟨rfl, by rw [hy]; rfl, ?_⟩
    rw [hy]
    exact ⟨_, none, _, GT', st', sm', -1, true, rows7 L0 R, R, _, rfl, rng_m1, ⟨ook_sy hbl, ook_none, hc.sz.g, hGT, by omega, by omega⟩, .inr ⟨_, _, rfl⟩, based_whole hr hP hw, hf, hc.recs, hlen, by omega, by omega, hc.log⟩
theorem down_write {B BT G GT : Option Fi} {st sm : Nat} {d : ByteArray} : writeS (T7 B BT G GT st sm (-1) true) pBT d = (14, T7 B BT G GT st sm (-1) true) := by
  unfold writeS
  cases B <;> cases BT <;> cases G <;> cases GT <;> kernel_rfl
theorem down_fillok {B BT G GT : Option Fi} {st sm : Nat} {d : ByteArray} (h : Sz B BT G GT st sm) : FillOk (T7 B BT G GT st sm (-1) true) pB d := by
  have e : syncS (T7 B BT G GT st sm (-1) true) pBT = (14, T7 B BT G GT st sm (-1) true) := by
    unfold syncS
    cases B <;> cases BT <;> cases G <;> cases GT <;> kernel_rfl
  refine ⟨t7_ok h rng_m1, ?_, ?_⟩
  · rw [pB_tT, down_write]
    exact t7_ok h rng_m1
  · rw [pB_tT, down_write]
    show Ok (syncS (T7 B BT G GT st sm (-1) true) pBT).2
    rw [e]
    exact t7_ok h rng_m1
theorem wk_commit {K M : Nat} {x : Tst} {l : List Ch} (h : Wk S K M x) (hS : tot S ≤ 1100000) (hK : K ≤ 79000) (hM : M ≤ 320) (hwl : wt l ≤ 1100000) (hfl : ∀ c ∈ l, FromC S c) :
    CommitOk x l pB pG ∧ (l ≠ [] → ∃ k y, commitS x l pB pG = (k, y) ∧ ((k = 0 ∧ Wk S (K + 8) (M + 1) y) ∨ (k = 14 ∧ y.j.s.down = true ∧ Dsk S (K + 8) (M + 1) y.j.s))) := by
  obtain ⟨hr, hP, hf, hw⟩ := h.rows hS
  obtain ⟨B, BT, n, GT, st, sm, a, L0, R, rfl, ha, hc⟩ := h
  have h1 := hc.st
  have h2 := hc.sm
  have hlen := hc.len
  simp only at hr hP hf hw
  have hR : ∀ x ∈ R, Rc S x := fun x hx => hc.recs x (List.mem_append_left _ hx)
  have hrl := rc_rec (S := S) hwl hfl
  have hsn := snoc_rc hR hrl
  have hpk := pk_le (R := R) (fun r hr => (hR r hr).2.1)
  have hpk2 := Nat.mul_le_mul_right 1100030 (show R.length ≤ 320 by omega)
  have hpr := pk_bound (r := rec7 l) (by have := hrl.2.1; omega)
  have hrs := hrl.2.1
  have hwl2 := ws_len (rows7 L0 R)
  have hwl3 := wt_len l
  obtain ⟨k1, x1, hadd, hcs⟩ := add7 (B := B) (BT := BT) (GT := GT) (c := PK R) (r := rec7 l) (n := n) (st := st) (sm := sm) (R := R) (dm := false) ha
  have hao := addok7 (B := B) (BT := BT) (GT := GT) (c := PK R) (r := rec7 l) (n := n) (st := st) (sm := sm) (R := R) (dm := false) hc.sz ha (by omega) (by omega) (by omega) (by omega) (by omega)
  rcases hcs with ⟨rfl, a', rfl, ra, _⟩ | ⟨rfl, _, G', st', sm', rfl, hG, b1, b2⟩
  · have hops : all7 (rows7 L0 R) l = rows7 L0 (R ++ [rec7 l]) := by rw [rows7_snoc, ops_back (l := l) (by omega)]; exact (all_norm _ _).symm
    have hlenS : (R ++ [rec7 l]).length = R.length + 1 := by rw [List.length_append]; rfl
    have ePK : PK R ++ Fm.pk (rec7 l) = PK (R ++ [rec7 l]) := (PK_snoc R (rec7 l)).symm
    rw [ePK] at hadd
    have hwk : Wk S (K + 2) (M + 1) ⟨⟨T7 B BT (some (sy (PK (R ++ [rec7 l])) (sm + 1))) GT (st + 2) (sm + 1) a' false, R ++ [rec7 l], false⟩, all7 (rows7 L0 R) l⟩ := by
      rw [hops]
      exact ⟨B, BT, _, GT, _, _, a', L0, R ++ [rec7 l], rfl, ra, ⟨hc.sz.b, hc.sz.bt, pk_ook hsn (by omega), hc.sz.gt, by omega, by omega⟩, hc.bs, hc.based, hc.from0, snoc_rc hsn rc_empty, by omega, by omega, by omega, log_w⟩
    obtain ⟨hpo, k2, y2, hpa, hpc⟩ := wk_pack hwk hS (by omega) (by omega)
    have hco : CommitOk ⟨⟨T7 B BT (some (sy (PK R) n)) GT st sm a false, R, false⟩, rows7 L0 R⟩ l pB pG := by
      refine ⟨by omega, hao, by show (rows7 L0 R).length + l.length ≤ _; omega, by decide, ?_, fun _ => ?_⟩
      · show (addS _ pG (rec7 l)).2.R.length ≤ _
        rw [hadd]
        show (R ++ [rec7 l]).length ≤ _
        omega
      · show PackOk ⟨(addS _ pG (rec7 l)).2, all7 (rows7 L0 R) l⟩ pB pG
        rw [hadd]
        exact hpo
    refine ⟨hco, fun hne => ?_⟩
    by_cases h16 : 16 ≤ (R ++ [rec7 l]).length
    · have hc3 := commit_3 (x := ⟨⟨T7 B BT (some (sy (PK R) n)) GT st sm a false, R, false⟩, rows7 L0 R⟩) (p := pB) hne hadd h16
      rw [hpa] at hc3
      refine ⟨k2, y2, hc3, hpc.imp (fun h => ⟨h.1, h.2.up (by omega) (Nat.le_refl _)⟩) (fun h => ⟨h.1, h.2.1, h.2.2.up (by omega) (Nat.le_refl _)⟩)⟩
    · have hc2 := commit_2 (x := ⟨⟨T7 B BT (some (sy (PK R) n)) GT st sm a false, R, false⟩, rows7 L0 R⟩) (p := pB) hne hadd h16
      exact ⟨0, _, hc2, .inl ⟨rfl, hwk.up (by omega) (Nat.le_refl _)⟩⟩
  · have hco : CommitOk ⟨⟨T7 B BT (some (sy (PK R) n)) GT st sm a false, R, false⟩, rows7 L0 R⟩ l pB pG := by
      refine ⟨by omega, hao, by show (rows7 L0 R).length + l.length ≤ _; omega, by decide, ?_, fun h16 => ?_⟩
      · show (addS _ pG (rec7 l)).2.R.length ≤ _
        rw [hadd]
        show R.length ≤ _
        omega
      · show PackOk ⟨(addS _ pG (rec7 l)).2, all7 (rows7 L0 R) l⟩ pB pG
        rw [hadd]
        have hfa := from_all hf hfl
        have hra := rises_all hr l
        have hwa := ws_from (rises_ne hra) hfa
        have hwwa := wt_whole (all7 (rows7 L0 R) l)
        have hz : Sz B BT G' GT st' sm' := by
          have hs0 : (PK R ++ Fm.pk (rec7 l)).size ≤ 20000000000 := by rw [ByteArray.size_append]; omega
          rcases hG with rfl | rfl
          · exact ⟨hc.sz.b, hc.sz.bt, hc.sz.g, hc.sz.gt, by omega, by omega⟩
          · exact ⟨hc.sz.b, hc.sz.bt, ook_app hs0 (by rw [ByteArray.size_append]; omega), hc.sz.gt, by omega, by omega⟩
        have e1 := down_write (B := B) (BT := BT) (G := G') (GT := GT) (st := st') (sm := sm') (d := Fm.pk (rec7 (whole7 (all7 (rows7 L0 R) l))))
        refine ⟨down_fillok hz, fun h0 => ?_, by show wt (whole7 (all7 (rows7 L0 R) l)) ≤ _; omega, by decide, by decide⟩
        simp only at h0
        unfold fillS at h0
        rw [pB_tT, e1] at h0
        simp at h0
    refine ⟨hco, fun hne => ?_⟩
    have hc1 := commit_1 (x := ⟨⟨T7 B BT (some (sy (PK R) n)) GT st sm a false, R, false⟩, rows7 L0 R⟩) (p := pB) hne hadd (by decide)
    refine ⟨14, _, hc1, .inr ⟨rfl, rfl, ?_⟩⟩
    have hs1 : (PK R ++ Fm.pk (rec7 l)).size ≤ 20000000000 := by rw [ByteArray.size_append]; omega
    rcases hG with rfl | rfl
    · exact ⟨B, BT, _, GT, st', sm', -1, true, L0, R, _, rfl, rng_m1, ⟨hc.sz.b, hc.sz.bt, hc.sz.g, hc.sz.gt, by omega, by omega⟩, hc.bs, hc.based, hc.from0, hc.recs, by omega, by omega, by omega, hc.log⟩
    · exact ⟨B, BT, _, GT, st', sm', -1, true, L0, R, rec7 l, rfl, rng_m1, ⟨hc.sz.b, hc.sz.bt, ook_app hs1 (by rw [ByteArray.size_append]; omega), hc.sz.gt, by omega, by omega⟩, hc.bs, hc.based, hc.from0, hsn, by omega, by omega, by omega, log_l⟩
end
end Go.Proofs.YtjdfffkkpbabpaaGreat.Tb

namespace Go.Proofs.YtjdfffkkpbabpaaGreat.Tb
open Go.RowKit Tx Pm Dk Wm Wr Wl Pl
set_option linter.unusedVariables false
set_option linter.unusedSimpArgs false
set_option linter.unnecessarySimpa false
def beg (p a : ByteArray) : Bool := Lib.hasPrefix a.data.toList p.data.toList
theorem last_mem {l : List Ch} (h : Once l) {p : ByteArray} {c : Ch} : lastOf l p = some c ↔ c ∈ l ∧ c.key = p := by
  constructor
  · intro hl
    have h1 := List.mem_of_find?_eq_some hl
    have h2 := List.find?_some hl
    exact ⟨List.mem_reverse.1 h1, of_decide_eq_true h2⟩
  · rintro ⟨hm, rfl⟩
    obtain ⟨i, hi⟩ := List.getElem?_of_mem hm
    exact last_at h (once_at h hi) hi
theorem last_at7 {l : List Ch} {p : ByteArray} (h : Once l) : (at7 l p).isNone = (lastOf l p).isNone := by
  cases ha : at7 l p with
  | none => rw [last_none ha]; rfl
  | some i =>
    obtain ⟨c, hc, hk, _⟩ := at7_lt ha
    rw [last_at h ha hc]
    rfl
theorem find_has {L : List It} (hR : Rises L) {a : ByteArray} : (∃ x ∈ L, x.path = a) ↔ (find L a).isSome = true := by
  unfold find
  rw [List.find?_isSome]
  constructor
  · rintro ⟨x, hx, h⟩; exact ⟨x, hx, by simpa using h⟩
  · rintro ⟨x, hx, h⟩; exact ⟨x, hx, by simpa using h⟩
theorem mem_held {L : List It} (hR : Rises L) {p a : ByteArray} : a ∈ held (pre7 p) L ↔ (find L a).isSome = true ∧ beg p a = true := by
  unfold held
  rw [List.mem_map, ← find_has hR]
  constructor
  · rintro ⟨x, hx, rfl⟩
    obtain ⟨h1, h2⟩ := List.mem_filter.1 hx
    exact ⟨⟨x, h1, rfl⟩, h2⟩
  · rintro ⟨⟨x, hx, rfl⟩, h⟩
    exact ⟨x, List.mem_filter.2 ⟨hx, h⟩, rfl⟩
theorem nodup_held {L : List It} (hR : Rises L) (p : ByteArray) : (held (pre7 p) L).Nodup := by
  refine (held_rises hR).imp (fun {a b} h e => ?_)
  subst e
  rw [less_irrefl] at h
  cases h
def oldK (l : List Ch) (K : List ByteArray) : List ByteArray := K.filter (fun k => (at7 l k).isNone)
def newK (p : ByteArray) (l : List Ch) : List ByteArray := (l.filter (fun c => !c.gone && beg p c.key)).map (·.key)
theorem newK_snoc (p : ByteArray) (l : List Ch) (c : Ch) : newK p (l ++ [c]) = newK p l ++ (if (!c.gone && beg p c.key) = true then [c.key] else []) := by
  unfold newK
  rw [List.filter_append, List.map_append]
  congr 1
  cases h : (!c.gone && beg p c.key) <;> simp [List.filter_cons, h]
theorem oldK_snoc (l : List Ch) (K : List ByteArray) (k : ByteArray) : oldK l (K ++ [k]) = oldK l K ++ (if (at7 l k).isNone = true then [k] else []) := by
  unfold oldK
  rw [List.filter_append]
  congr 1
  cases h : (at7 l k).isNone <;> simp [List.filter_cons, h]
theorem perm_keys {L : List It} (hR : Rises L) {l : List Ch} (hO : Once l) (p : ByteArray) : (oldK l (held (pre7 p) L) ++ newK p l).Perm (held (pre7 p) (all7 L l)) := by
  have hnew : ∀ a, a ∈ newK p l ↔ ∃ c, lastOf l a = some c ∧ c.gone = false ∧ beg p a = true := by
    intro a
    unfold newK
    rw [List.mem_map]
    constructor
    · rintro ⟨c, hc, rfl⟩
      obtain ⟨h1, h2⟩ := List.mem_filter.1 hc
      rw [Bool.and_eq_true, Bool.not_eq_true'] at h2
      exact ⟨c, (last_mem hO).2 ⟨h1, rfl⟩, h2.1, h2.2⟩
    · rintro ⟨c, hc, h1, h2⟩
      obtain ⟨h3, rfl⟩ := (last_mem hO).1 hc
      exact ⟨c, List.mem_filter.2 ⟨h3, by rw [h1, h2]; rfl⟩, rfl⟩
  refine (List.perm_ext_iff_of_nodup ?_ (nodup_held (rises_all hR l) p)).2 (fun a => ?_)
  · refine List.nodup_append.2 ⟨(nodup_held hR p).filter _, ?_, fun a ha b hb e => ?_⟩
    · unfold newK
      rw [List.Nodup, List.pairwise_map]
      exact List.Pairwise.filter _ hO
    · subst e
      obtain ⟨c, hc, _⟩ := (hnew _).1 hb
      have h1 := (List.mem_filter.1 ha).2
      rw [last_at7 hO, hc] at h1
      cases h1
  · rw [List.mem_append, hnew, mem_held (rises_all hR l), find_all]
    unfold oldK
    rw [List.mem_filter, mem_held hR, last_at7 hO]
    cases hc : lastOf l a with
    | none => simp [after]
    | some c => cases hg : c.gone <;> simp [after, hg]
end Go.Proofs.YtjdfffkkpbabpaaGreat.Tb

namespace Go.Proofs.YtjdfffkkpbabpaaGreat.Tb
open Go.RowKit Tx Pm Dk Wm Wr Wl Pl
set_option linter.unusedVariables false
set_option linter.unusedSimpArgs false
set_option linter.unnecessarySimpa false
theorem oldK_len (l : List Ch) (K : List ByteArray) : (oldK l K).length ≤ K.length := List.length_filter_le _ _
theorem newK_len (p : ByteArray) (l : List Ch) : (newK p l).length ≤ l.length := by unfold newK; rw [List.length_map]; exact List.length_filter_le _ _
theorem take_snoc {α : Type} {l : List α} {k : Nat} {x : α} (h : l[k]? = some x) : l.take (k + 1) = l.take k ++ [x] := by
  have hk := (List.getElem?_eq_some_iff.1 h).1
  rw [List.take_succ_eq_append_getElem hk]
  rw [List.getElem?_eq_getElem hk] at h
  injection h with h
  rw [h]
set_option maxRecDepth 100000 in
set_option maxHeartbeats 4000000 in
theorem bKeys_any (u t m pm : Nat) (vO : Value) (L : List It) (l : List Ch) (p : ByteArray) (w : World) {G : Nat → Prop} (hB : BAt u pm (some ⟨t, 0, none⟩) vO w G l) (ht : w.cell? ⟨t, 3, none⟩ = some (.map (some m))) (hm : Mo w m L) (hR : Rises L) (hn : L.length ≤ 100000000) (hln : l.length ≤ 100000000) (hps : ∀ x ∈ L, x.path.size ≤ 1000000000000) (hks : ∀ c ∈ l, c.key.size ≤ 1000000000000) (hp : p.size ≤ 1000000000000) :
    Calls Tryz.prog 62 #[.pointer (some ⟨u, 0, none⟩), .string p] w (ListTo (held (pre7 p) (all7 L l)) w) := by
  obtain ⟨i0, hi, hz0, hz1, hz2⟩ := info_parts Tx.info9
  obtain ⟨c0, c1, c2⟩ := hB.cell
  have ck := tKeys_any t m L p w ht hm hR (by omega) hps hp
  have HPERM := Lib.hid (perm_keys hR hB.once p)
  have HRS := Lib.hid (held_rises (φ := pre7 p) (rises_all hR l))
  have HKL := Lib.hid (held_len (pre7 p) L)
  have HKS : Hid (∀ k ∈ held (pre7 p) L, k.size ≤ 1000000000000) := Lib.hid (fun k hk => by
    obtain ⟨x, hx, rfl⟩ := List.mem_map.1 hk
    exact hps x (List.mem_filter.1 hx).1)
  have HCS := Lib.hid hks
  have HB := Lib.hid hB
  obtain ⟨aO, cO, hvO, hO1, hO2, hO3⟩ := hB.ops.form
  obtain ⟨nO, hnO⟩ : ∃ n, n = l.length := ⟨_, rfl⟩
  rw [← hnO] at hvO hO1 hO2 hln
  have HOP := Lib.hid hO1
  have HNO := Lib.hid hnO
  have hul : u < w.heap.size := World.block_lt_of_cell? w _ c0
  generalize held (pre7 p) L = K at ck HPERM HKL HKS
  obtain ⟨n, hnK⟩ : ∃ n, n = K.length := ⟨_, rfl⟩
  have HNK := Lib.hid hnK
  have hnb : n ≤ 100000000 := by have := HKL.out; omega
  subst hvO
  clear hB hm ht hR hps hks hO1 hnO hn hnK HKL
  go_enter Tryz.func62, Tryz.ntmps62
  go_wp2_with fail
  go_at_call 61
  refine ck.mono ?_
  rintro e w1 ⟨vK, rfl, hK, hb1⟩
  obtain ⟨aK, cK, hv, hsK, hcK, _⟩ := hK.form
  rw [← HNK.out] at hv hsK hcK
  have HSK := Lib.hid (fun W (hW : Below w1.heap.size w1 W) => hsK.below hW)
  have HB1 := Lib.hid (HB.out.below hb1)
  have HOP1 := Lib.hid (HOP.out.below hb1)
  have d1 := (hb1.cell (p := ⟨u, 1, none⟩) hul).trans c1
  have d2 := (hb1.cell (p := ⟨u, 2, none⟩) hul).trans c2
  have hul1 : u < w1.heap.size := Nat.lt_of_lt_of_le hul hb1.size
  clear hK hsK ck c0 c1 c2
  subst hv
  go_wp2_with fail
  go_loopw [5, 21] (fun v iv wr => ∃ k T : Nat, k ≤ n ∧ iv = .int .i64 k ∧ Hid ((oldK l (K.take k)).length = T) ∧ T ≤ 100000000 ∧ wr.ownsRow w1.heap.size 9 1 v T ((oldK l (K.take k)).map sv) ∧ Below w1.heap.size w1 wr) (fun _ iv _ => n - (intOf iv).toNat)
  case atStart => exact ⟨0, 0, Nat.zero_le _, rfl, rfl, by omega, World.ownsRow_nil _ _ _ _, Below.refl _ _⟩
  case round =>
    obtain ⟨k, T, hk, rfl, hT, hTm, hown, hB⟩ := hrel
    have e1 := (hB.cell (p := ⟨u, 1, none⟩) hul1).trans d1
    have e2 := (hB.cell (p := ⟨u, 2, none⟩) hul1).trans d2
    by_cases hlt : k < n
    · obtain ⟨x, hx⟩ : ∃ x, K[k]? = some x := ⟨_, List.getElem?_eq_getElem (by rw [← HNK.out]; exact hlt)⟩
      obtain ⟨_, hne⟩ := HSK.out _ hB
      obtain ⟨bk, off, rfl, hbk, hcc⟩ := hne.resolve_left (by omega)
      have g0 := hcc k x hx
      have hkz : (k : Int) < (n : Int) := by omega
      have hl := (HB1.out.plc.kept (hB.block pm HB1.out.plc.lt)).look (p := x) (by have := HKS.out x (List.mem_of_getElem? hx); unfold maxLen; omega)
      unfold placeV at hl
      have htk := oldK_snoc l (K.take k) x
      rw [← take_snoc hx] at htk
      have hle := oldK_len l (K.take (k + 1))
      have hle2 : (K.take (k + 1)).length ≤ n := by rw [List.length_take, HNK.out]; omega
      cases ha : at7 l x with
      | none =>
        rw [ha] at hl
        rw [ha, Option.isNone_none, if_pos rfl] at htk
        have HTK := Lib.hid htk
        have hT2 : T + 1 ≤ 100000000 := by
          have := congrArg List.length htk
          rw [List.length_append, List.length_singleton, hT.out] at this
          omega
        have HLN := Lib.hid (show (oldK l (K.take (k + 1))).length = T + 1 by rw [htk, List.length_append, hT.out]; rfl)
        clear hx hcc hne htk ha hle hle2
        go_wp2_with (at_builtin; refine wpList_append_own _ rfl _ _ 84 rfl w1.heap.size 9 i0 (.string ⟨#[]⟩) 1 16 Tryz.underlying84 hi hz0 hz1 hz2 rfl (by decide) _ _ _ rfl (hown.alloc _) ⟨wr.heap.size, 0, none⟩ 1 1 [sv x] rfl rfl ?c1_2 ?c2_2 ?c3_2 ?c4_2 ?c5_2 ?_)
        case c1_2 => first | exact cell_one_new _ _ _ | exact fun _ _ h => h
        case c2_2 => first | exact sv_one [x] | rfl
        case c3_2 => unfold maxLen; omega
        case c4_2 => omega
        case c5_2 => first | (have := hB.size; simp; omega) | (have := hB.size; omega)
        intro v' w6 hown6 hgrow6 _
        have hB6 : Below w1.heap.size w1 w6 := (hB.alloc hB.size _).grown hgrow6 (by simp; have := hB.size; omega) (fun g hg => (hown.lt g hg).1)
        have hO6 : w6.ownsRow w1.heap.size 9 1 v' (T + 1) ((oldK l (K.take (k + 1))).map sv) := by
          rw [HTK.out, List.map_append]
          exact hown6
        clear hown6 hgrow6 hown hB e1 e2
        go_wp2_with fail
        go_roundw
        case rel => exact ⟨k + 1, T + 1, by omega, by go_num, HLN, hT2, hO6, hB6⟩
        case measure => simp [intOf]; omega
      | some i =>
        rw [ha] at hl
        rw [ha, Option.isNone_some, if_neg (by decide), List.append_nil] at htk
        have HLN := Lib.hid (show (oldK l (K.take (k + 1))).length = T by rw [htk]; exact hT.out)
        have HO := Lib.hid (show wr.ownsRow w1.heap.size 9 1 u5 T ((oldK l (K.take (k + 1))).map sv) by rw [htk]; exact hown)
        clear hx hcc hne htk ha hle hle2 hown
        go_wp2_with fail
        go_roundw
        case rel => exact ⟨k + 1, T, by omega, by go_num, HLN, hTm, HO.out, hB⟩
        case measure => simp [intOf]; omega
    · obtain rfl : k = n := by omega
      have eK : K.take k = K := List.take_of_length_le (by rw [HNK.out]; exact Nat.le_refl _)
      rw [eK] at hT hown
      have HOP2 := Lib.hid (fun W (hW : Below w1.heap.size w1 W) => HOP1.out.below hW)
      clear HSK HKS hlt eK
      go_wp2_with fail
      go_loopw [5, 46] (fun v iv wr2 => ∃ q T2 : Nat, q ≤ nO ∧ iv = .int .i64 q ∧ Hid ((oldK l K ++ newK p (l.take q)).length = T2) ∧ T2 ≤ 1000000000 ∧ wr2.ownsRow w1.heap.size 9 1 v T2 ((oldK l K ++ newK p (l.take q)).map sv) ∧ Below w1.heap.size w1 wr2) (fun _ iv _ => nO - (intOf iv).toNat)
      case atStart => exact ⟨0, T, Nat.zero_le _, rfl, by rw [List.take_zero]; show (oldK l K ++ []).length = T; rw [List.append_nil]; exact hT.out, by omega, by rw [List.take_zero]; show wr.ownsRow w1.heap.size 9 1 _ T ((oldK l K ++ []).map sv); rw [List.append_nil]; exact hown, hB⟩
      case round =>
        clear hown hB e1 e2
        obtain ⟨q, T2, hq, rfl, hT2, hTm2, hown, hB⟩ := hrel
        by_cases hltq : q < nO
        · obtain ⟨x, hx⟩ : ∃ x, l[q]? = some x := ⟨_, List.getElem?_eq_getElem (by rw [← HNO.out]; exact hltq)⟩
          obtain ⟨g, off, rfl, hg, g0, g1, g2⟩ := (HOP2.out _ hB).nth hx
          have hqz : (q : Int) < (nO : Int) := by omega
          have htk := newK_snoc p (l.take q) x
          rw [← take_snoc hx] at htk
          have hxk := HCS.out x (List.mem_of_getElem? hx)
          have hle := newK_len p (l.take (q + 1))
          have hle1 : (l.take (q + 1)).length ≤ nO := by rw [List.length_take, HNO.out]; omega
          have hle2 : (oldK l K).length ≤ 100000000 := by rw [hT.out]; exact hTm
          obtain ⟨key, val, gone⟩ := x
          simp only at g0 g1 g2 htk hxk
          have hB2 := hB.alloc hB.size (.cells #[.string key, .string val, .bool gone] 43)
          have hO2 := hown.alloc (.cells #[.string key, .string val, .bool gone] 43)
          have hC3 : Cells3 wr.heap.size key val gone (wr.alloc (.cells #[.string key, .string val, .bool gone] 43)) := cells3_new wr ⟨key, val, gone⟩ _
          have hlt2 : wr.heap.size < (wr.alloc (.cells #[.string key, .string val, .bool gone] 43)).heap.size := by simp
          have hsz2 : w1.heap.size ≤ (wr.alloc (.cells #[.string key, .string val, .bool gone] 43)).heap.size := hB2.size
          clear hx
          cases gone
          · cases hbg : beg p key
            · rw [hbg] at htk
              rw [if_neg (by decide), List.append_nil] at htk
              have HLN := Lib.hid (show (oldK l K ++ newK p (l.take (q + 1))).length = T2 by rw [htk]; exact hT2.out)
              have HO := Lib.hid (show (wr.alloc (.cells #[.string key, .string val, .bool false] 43)).ownsRow w1.heap.size 9 1 u5 T2 ((oldK l K ++ newK p (l.take (q + 1))).map sv) by rw [htk]; exact hO2)
              have cx := fun W => hasPrefix_any key p W (by omega) (by omega)
              unfold beg at hbg
              rw [hbg] at cx
              clear htk hO2 hown hB hbg hle hle1 hle2
              obtain ⟨f0, f1, f2⟩ := hC3
              go_wp2_with fail
              go_at_call 99
              refine (cx _).mono ?_
              rintro e w5 ⟨rfl, rfl⟩
              go_wp2_with fail
              go_roundw
              case rel => exact ⟨q + 1, T2, by omega, by go_num, HLN, hTm2, HO.out, hB2⟩
              case measure => simp [intOf]; omega
            · rw [hbg] at htk
              rw [if_pos (by decide)] at htk
              have HTK := Lib.hid htk
              have hT3 : T2 + 1 ≤ 1000000000 := by
                have := congrArg List.length htk
                rw [List.length_append, List.length_singleton] at this
                have h3 := hT2.out
                rw [List.length_append] at h3
                omega
              have HLN := Lib.hid (show (oldK l K ++ newK p (l.take (q + 1))).length = T2 + 1 by rw [htk, ← List.append_assoc, List.length_append, hT2.out]; rfl)
              have cx := fun W => hasPrefix_any key p W (by omega) (by omega)
              unfold beg at hbg
              rw [hbg] at cx
              clear htk hown hB hbg hle hle1 hle2
              obtain ⟨f0, f1, f2⟩ := hC3
              go_wp2_with fail
              go_at_call 99
              refine (cx _).mono ?_
              rintro e w5 ⟨rfl, rfl⟩
              go_wp2_with (at_builtin; refine wpList_append_own _ rfl _ _ 84 rfl w1.heap.size 9 i0 (.string ⟨#[]⟩) 1 16 Tryz.underlying84 hi hz0 hz1 hz2 rfl (by decide) _ _ _ rfl (hO2.alloc _) ⟨wr.heap.size + 1, 0, none⟩ 1 1 [sv key] rfl rfl ?c1_2 ?c2_2 ?c3_2 ?c4_2 ?c5_2 ?_)
              case c1_2 => exact (World.size_alloc wr (.cells #[.string key, .string val, .bool false] 43)) ▸ cell_one_new (wr.alloc (.cells #[.string key, .string val, .bool false] 43)) (sv key) 9
              case c2_2 => first | exact sv_one [key] | rfl
              case c3_2 => unfold maxLen; omega
              case c4_2 => omega
              case c5_2 => exact Nat.le_trans hB2.size (((Below.refl _ _).alloc (Nat.le_refl _) _).size)
              intro v' w6 hown6 hgrow6 _
              have hB6 : Below w1.heap.size w1 w6 := (hB2.alloc hB2.size _).grown hgrow6 (Nat.le_trans hB2.size (((Below.refl _ _).alloc (Nat.le_refl _) _).size)) (fun g hg => (hO2.lt g hg).1)
              have hO6 : w6.ownsRow w1.heap.size 9 1 v' (T2 + 1) ((oldK l K ++ newK p (l.take (q + 1))).map sv) := by
                rw [HTK.out]
                simp only [List.map_append, List.map_cons, List.map_nil, List.append_assoc] at hown6 ⊢
                exact hown6
              clear hown6 hgrow6 hO2 hB2
              go_wp2_with fail
              go_roundw
              case rel => exact ⟨q + 1, T2 + 1, by omega, by go_num, HLN, hT3, hO6, hB6⟩
              case measure => simp [intOf]; omega
          · rw [Bool.not_true, Bool.false_and, if_neg (by decide), List.append_nil] at htk
            have HLN := Lib.hid (show (oldK l K ++ newK p (l.take (q + 1))).length = T2 by rw [htk]; exact hT2.out)
            have HO := Lib.hid (show (wr.alloc (.cells #[.string key, .string val, .bool true] 43)).ownsRow w1.heap.size 9 1 u5 T2 ((oldK l K ++ newK p (l.take (q + 1))).map sv) by rw [htk]; exact hO2)
            clear htk hO2 hown hB hle hle1 hle2
            go_wp2_with fail
            go_roundw
            case rel => exact ⟨q + 1, T2, by omega, by go_num, HLN, hTm2, HO.out, hB2⟩
            case measure => simp [intOf]; omega
        · obtain rfl : q = nO := by omega
          have el : l.take q = l := List.take_of_length_le (by rw [HNO.out]; exact Nat.le_refl _)
          rw [el] at hT2 hown
          have hO : Texts wr w.heap.size _ (oldK l K ++ newK p l) := own_toT (Dk.own_base hown hb1.size) hT2.out
          have hol : (oldK l K ++ newK p l).length ≤ 4000000000 := by rw [hT2.out]; omega
          have hBw := Tx.below_call hb1 hB
          have cs := sortS_any _ (oldK l K ++ newK p l) wr w.heap.size hO hBw.size hol
          clear hO hown hT2 hB hol
          go_wp2_with (go_at_call 97; refine cs.mono ?_; rintro e w5 ⟨rfl, ts, hts, hso, htx, hb5⟩)
          go_ret
          obtain rfl : ts = held (pre7 p) (all7 L l) := rising_perm (hts.trans HPERM.out) hso HRS.out
          exact ⟨_, rfl, htx, hBw.trans hb5⟩
end Go.Proofs.YtjdfffkkpbabpaaGreat.Tb

namespace Go.Proofs.YtjdfffkkpbabpaaGreat.Bl
open Go.RowKit Tx Pm Dk Wm Wr Wl Pl Tb
set_option linter.unusedVariables false
set_option linter.unusedSimpArgs false
set_option linter.unnecessarySimpa false
def OwF {α : Type} (Obj : World → (Nat → Prop) → α → Prop) (z : World × (Nat → Prop)) (x : α) (W : World) : Prop := LeftA Obj z.1 z.2 x W
section
variable {α β : Type} {Obj : World → (Nat → Prop) → α → Prop} {Obj' : World → (Nat → Prop) → β → Prop} {z : World × (Nat → Prop)} {x : α} {y : β} {W : World}
theorem OwF.kept (hk : ∀ {w w1 : World} {F : Nat → Prop} {x : α}, Obj w F x → Below w.heap.size w w1 → Obj w1 F x) {w' : World} (h : OwF Obj z x W) (hb : Below W.heap.size W w') : OwF Obj z x w' := by
  obtain ⟨F, h1, h2, h3⟩ := h
  exact ⟨F, hk h1 hb, h2.then (Chg.of_below hb), h3⟩
end
section
variable {w0 : World × (Nat → Prop)} {W : World} {b j t m u k : Nat} {x y : Tst} {l : List Ch}
end
end Go.Proofs.YtjdfffkkpbabpaaGreat.Bl

namespace Go.Proofs.YtjdfffkkpbabpaaGreat.Tb
open Go.RowKit Tx Pm Dk Wm Wr Wl Pl Od
set_option linter.unusedVariables false
set_option linter.unusedSimpArgs false
set_option linter.unnecessarySimpa false
theorem kd_tt (b j t m : Nat) : Kd (Tt b j t m) := ⟨tn_kind.1, tn_kind.2⟩
theorem kd_rn (bw jw v : Nat) : Kd (Rn bw jw v) := ⟨(rn_kind bw jw v).1, (rn_kind bw jw v).2⟩
theorem kd_tu (b j t m u : Nat) : Kd (Tu b j t m u) := by
  refine ⟨fun {w F s} h i hi => ?_, fun {w w1 F s} h hk => ?_⟩
  · obtain ⟨F1, G, ⟨Fj, h1⟩, ⟨pm, vO, h2⟩, hd, hH⟩ := h
    rcases (hH i).1 hi with hi | hi
    · exact h1.lt i hi
    · exact h2.lt i hi
  · obtain ⟨F1, G, ⟨Fj, h1⟩, ⟨pm, vO, h2⟩, hd, hH⟩ := h
    exact ⟨F1, G, ⟨Fj, h1.kept (fun i hi => hk i ((hH i).2 (.inl hi)))⟩, ⟨pm, vO, h2.kept (fun i hi => hk i ((hH i).2 (.inr hi)))⟩, hd, hH⟩
theorem kd_rb (bw jw v : Nat) (vO : Value) : Kd (Rb bw jw v vO) := by
  refine ⟨fun {w F s} h i hi => ?_, fun {w w1 F s} h hk => ?_⟩
  · obtain ⟨F1, h1, h2, hd, hH⟩ := h
    rcases (hH i).1 hi with hi | hi
    · exact (rn_kind bw jw v).1 h1 i hi
    · exact (h2.lt i hi).2
  · obtain ⟨F1, h1, h2, hd, hH⟩ := h
    exact ⟨F1, (rn_kind bw jw v).2 h1 (fun i hi => hk i ((hH i).2 (.inl hi))), own_kept h2 (fun g hg => hk g ((hH g).2 (.inr hg))), hd, hH⟩
section
variable {b j t m u bw jw v k : Nat} {vO : Value} {w0 W w1 : World} {x y : Tst} {l : List Ch} {s : St} {q : Option (Nat × Obj)} {H : Nat → Prop}
theorem tu_batch {f : FuncId} {args : Array Value} {l' : List Ch} {P : Ending → Prop} (h : Tu b j t m u W H (x, l)) (hc : ∀ pm vO G, BAt u pm (some ⟨t, 0, none⟩) vO W G l → Calls Tryz.prog f args W fun e w' => P e ∧ LeftA (Bn u (some ⟨t, 0, none⟩)) W G l' w') :
    Calls Tryz.prog f args W fun e w' => P e ∧ LeftA (Tu b j t m u) W H (x, l') w' := by
  obtain ⟨F, G, ⟨Fj, h1⟩, ⟨pm, vO, h2⟩, hd, hH⟩ := h
  refine (hc pm vO G h2).mono fun e w' hh => ⟨hh.1, ?_⟩
  obtain ⟨G', q, c, n⟩ := hh.2
  refine ⟨fun i => F i ∨ G' i, ⟨F, G', ⟨Fj, h1.kept (fun i hi => c.block i (h1.lt i hi) (hd i hi))⟩, q, fun i hi hg => ?_, fun i => Iff.rfl⟩, c.mono (fun i hi => (hH i).2 (.inr hi)), fun g hg => ?_⟩
  · rcases n i hg with hh | hh
    · exact hd i hi hh
    · have := h1.lt i hi; omega
  · rcases hg with hg | hg
    · exact .inl ((hH g).2 (.inl hg))
    · exact (n g hg).imp (fun hh => (hH g).2 (.inr hh)) id
theorem tu_table {f : FuncId} {args : Array Value} {P : Ending → Prop} (h : Tu b j t m u W H (x, l)) (hc : ∀ F, Tt b j t m W F x → Calls Tryz.prog f args W fun e w' => P e ∧ LeftA (Tt b j t m) W F y w') :
    Calls Tryz.prog f args W fun e w' => P e ∧ LeftA (Tu b j t m u) W H (y, l) w' := by
  obtain ⟨F, G, h1, ⟨pm, vO, h2⟩, hd, hH⟩ := h
  refine (hc F h1).mono fun e w' hh => ⟨hh.1, ?_⟩
  obtain ⟨F', q, c, n⟩ := hh.2
  have hb := bat_beside (x := x) (y := y) (p := pB) (q := pG) (b := b) (j := j) (t := t) (m := m) h2 hd c n
  exact ⟨fun i => F' i ∨ G i, ⟨F', G, q, ⟨pm, vO, hb.1⟩, hb.2, fun i => Iff.rfl⟩, c.mono (fun i hi => (hH i).2 (.inl hi)), fun g hg => by
    rcases hg with hg | hg
    · exact (n g hg).imp (fun hh => (hH g).2 (.inl hh)) id
    · exact .inl ((hH g).2 (.inr hg))⟩
theorem tt_disk {f : FuncId} {args : Array Value} {P : Ending → Prop} {s' : St} {F : Nat → Prop} (h : Tt b j t m W F x) (hc : ∀ F, ImpAt b W F x.j.s → Calls Tryz.prog f args W fun e w' => P e ∧ Dk.Left (ImpAt b) W F s' w') :
    Calls Tryz.prog f args W fun e w' => P e ∧ LeftA (Tt b j t m) W F ⟨⟨s', x.j.R, x.j.dm⟩, x.L⟩ w' := by
  obtain ⟨Fj, hh⟩ := h
  obtain ⟨v, Fd, hj⟩ := hh.jn
  refine (hc Fd hj.dsk).mono fun e w' h2 => ⟨h2.1, ?_⟩
  obtain ⟨Fd', F', q, c, n⟩ := hj.disk_left (imp_kind b) h2.2
  exact hh.jleft ⟨F', ⟨v, Fd', q⟩, c, n⟩
theorem rb_left {F1 : Nat → Prop} (h : Rb bw jw v vO W H (x, l)) (hF1 : Rn bw jw v W F1 x) (hd : ∀ i, vO.ownBlock = some i → ¬ F1 i) (hH : ∀ i, H i ↔ F1 i ∨ vO.ownBlock = some i) (ho : OwnC W 0 vO l) (hl : LeftA (Rn bw jw v) W F1 y w1) : LeftA (Rb bw jw v vO) W H (y, l) w1 := by
  obtain ⟨F', q, c, n⟩ := hl
  refine ⟨fun i => F' i ∨ vO.ownBlock = some i, ⟨F', q, own_kept ho (fun g hg => c.block g (ho.lt g hg).2 (hd g hg)), fun i hi hf => ?_, fun i => Iff.rfl⟩, c.mono (fun i hi => (hH i).2 (.inl hi)), fun g hg => ?_⟩
  · rcases n i hf with hh | hh
    · exact hd i hi hh
    · have := (ho.lt i hi).2; omega
  · rcases hg with hg | hg
    · exact (n g hg).imp (fun hh => (hH g).2 (.inl hh)) id
    · exact .inl ((hH g).2 (.inr hg))
theorem rb_table {f : FuncId} {args : Array Value} {P : Ending → Prop} (h : Rb bw jw v vO W H (x, l)) (hc : ∀ F, Rn bw jw v W F x → Calls Tryz.prog f args W fun e w' => P e ∧ LeftA (Rn bw jw v) W F y w') :
    Calls Tryz.prog f args W fun e w' => P e ∧ LeftA (Rb bw jw v vO) W H (y, l) w' := by
  obtain ⟨F1, h1, h2, hd, hH⟩ := h
  exact (hc F1 h1).mono fun e w' hh => ⟨hh.1, rb_left ⟨F1, h1, h2, hd, hH⟩ h1 hd hH h2 hh.2⟩
theorem rb_list {vO' : Value} {l' : List Ch} (h : Rb bw jw v vO W H (x, l)) (hb : Below W.heap.size W w1) (ho : OwnC w1 W.heap.size vO' l') : LeftA (Rb bw jw v vO') W H (x, l') w1 := by
  obtain ⟨F1, h1, h2, hd, hH⟩ := h
  have hlt := (rn_kind bw jw v).1 h1
  refine ⟨fun i => F1 i ∨ vO'.ownBlock = some i, ⟨F1, (rn_kind bw jw v).2 h1 (fun i hi => hb.block i (hlt i hi)), own_less ho (Nat.zero_le _), fun i hi hf => ?_, fun i => Iff.rfl⟩, Chg.of_below hb, fun g hg => ?_⟩
  · have h3 := (ho.lt i hi).1
    have := hlt i hf
    omega
  · rcases hg with hg | hg
    · exact .inl ((hH g).2 (.inl hg))
    · exact .inr (ho.lt g hg).1
section
variable {α β : Type} {OA : World → (Nat → Prop) → α → Prop} {OB : World → (Nat → Prop) → β → Prop} {z : α} {zb : β}
theorem tw_nil (h : Tw OA (Rb bw jw v vO) w0 q z (x, l) W) : Tw OA (Rb bw jw v (.slice none 0 0)) w0 q z (x, []) W := by
  obtain ⟨F, G, h1, ⟨F1, h2, h3, hd, hH⟩, h4, h5, h6, h7⟩ := h
  exact ⟨F, F1, h1, ⟨F1, h2, World.ownsRow_nil _ _ _ _, (fun i hi => by cases hi), fun i => ⟨fun hi => .inl hi, fun hi => hi.elim id (fun hi => by cases hi)⟩⟩, fun i hi hg => h4 i hi ((hH i).2 (.inl hg)), fun i hi => h5 i (hi.imp id (fun hg => (hH i).2 (.inl hg))), h6, fun p hp => ⟨(h7 p hp).1, (h7 p hp).2.1, fun hg => (h7 p hp).2.2 ((hH p.1).2 (.inl hg))⟩⟩
theorem tw_rn (h : Tw OA (Rb bw jw v vO) w0 q z (x, l) W) : Tw OA (Rn bw jw v) w0 q z x W := by
  obtain ⟨F, G, h1, ⟨F1, h2, h3, hd, hH⟩, h4, h5, h6, h7⟩ := h
  exact ⟨F, F1, h1, h2, fun i hi hg => h4 i hi ((hH i).2 (.inl hg)), fun i hi => h5 i (hi.imp id (fun hg => (hH i).2 (.inl hg))), h6, fun p hp => ⟨(h7 p hp).1, (h7 p hp).2.1, fun hg => (h7 p hp).2.2 ((hH p.1).2 (.inl hg))⟩⟩
theorem tw_rb (h : Tw OA (Rn bw jw v) w0 q z x W) : Tw OA (Rb bw jw v (.slice none 0 0)) w0 q z (x, []) W := by
  obtain ⟨F, G, h1, h2, h4, h5, h6, h7⟩ := h
  exact ⟨F, G, h1, ⟨G, h2, World.ownsRow_nil _ _ _ _, (fun i hi => by cases hi), fun i => ⟨fun hi => .inl hi, fun hi => hi.elim id (fun hi => by cases hi)⟩⟩, h4, h5, h6, h7⟩
theorem tw_tt (h : Tw (Tu b j t m u) OB w0 q (x, l) zb W) : Tw (Tt b j t m) OB w0 q x zb W := by
  obtain ⟨F, G, ⟨F1, G1, h1, _, _, hH⟩, h2, h4, h5, h6, h7⟩ := h
  exact ⟨F1, G, h1, h2, fun i hi hg => h4 i ((hH i).2 (.inl hi)) hg, fun i hi => h5 i (hi.imp (fun hf => (hH i).2 (.inl hf)) id), h6, fun p hp => ⟨(h7 p hp).1, fun hf => (h7 p hp).2.1 ((hH p.1).2 (.inl hf)), (h7 p hp).2.2⟩⟩
theorem tw_imp (h : Tw (Tt b j t m) OB w0 q x zb W) : Tw (ImpAt b) OB w0 q x.j.s zb W := by
  obtain ⟨F, G, ⟨Fj, h1⟩, h2, h4, h5, h6, h7⟩ := h
  obtain ⟨v, Fd, hj⟩ := h1.jn
  have hsub : ∀ i, Fd i → F i := fun i hi => (h1.foot i).2 (.inl ((hj.foot i).2 (.inl hi)))
  exact ⟨Fd, G, hj.dsk, h2, fun i hi hg => h4 i (hsub i hi) hg, fun i hi => h5 i (hi.imp (hsub i) id), h6, fun p hp => ⟨(h7 p hp).1, fun hf => (h7 p hp).2.1 (hsub _ hf), (h7 p hp).2.2⟩⟩
theorem tw_ref (h : Tw OA (Rn bw jw v) w0 q z x W) : Tw OA (RefAt bw) w0 q z x.j.s W := by
  obtain ⟨F, G, h1, ⟨vR, Fj, h2⟩, h4, h5, h6, h7⟩ := h
  obtain ⟨vj, Fd, hj⟩ := h2.jn
  have hsub : ∀ i, Fd i → G i := fun i hi => (h2.foot i).2 (.inl ((hj.foot i).2 (.inl hi)))
  exact ⟨F, Fd, h1, hj.dsk, fun i hi hg => h4 i hi (hsub i hg), fun i hi => h5 i (hi.imp id (hsub i)), h6, fun p hp => ⟨(h7 p hp).1, (h7 p hp).2.1, fun hf => (h7 p hp).2.2 (hsub _ hf)⟩⟩
theorem t_put (kB : Kd OB) {key val : ByteArray} (h : Tw (Tu b j t m u) OB w0 q (x, l) zb W) (hk : key.size ≤ 1000000000000) (hl : l.length < 1000000000) : Calls Tryz.prog 10 #[.pointer (some ⟨u, 0, none⟩), .string key, .string val] W fun e w' => e = .returned (.tuple #[]) ∧ Tw (Tu b j t m u) OB w0 q (x, bat l ⟨key, val, false⟩) zb w' :=
  h.callA (kd_tu b j t m u) kB (fun F hh => tu_batch hh (fun pm vO G hB => bPut_any u pm _ vO key val W hB hk hl))
theorem t_drop (kB : Kd OB) {key : ByteArray} (h : Tw (Tu b j t m u) OB w0 q (x, l) zb W) (hk : key.size ≤ 1000000000000) (hl : l.length < 1000000000) : Calls Tryz.prog 12 #[.pointer (some ⟨u, 0, none⟩), .string key] W fun e w' => e = .returned (.tuple #[]) ∧ Tw (Tu b j t m u) OB w0 q (x, bat l ⟨key, ⟨#[]⟩, true⟩) zb w' :=
  h.callA (kd_tu b j t m u) kB (fun F hh => tu_batch hh (fun pm vO G hB => bDrop_any u pm _ vO key W hB hk hl))
theorem t_commit (kB : Kd OB) (h : Tw (Tu b j t m u) OB w0 q (x, l) zb W) (o : CommitOk x l pB pG) (he : commitS x l pB pG = (k, y)) : Calls Tryz.prog 13 #[.pointer (some ⟨u, 0, none⟩)] W fun e w' => e = .returned (.int .i64 (k : Nat)) ∧ Tw (Tt b j t m) OB w0 q y zb w' ∧ (k = 0 → Tw (Tu b j t m u) OB w0 q (y, []) zb w') := by
  obtain ⟨F, G, h1, h2, h3, h4, h5, h6⟩ := h
  have c := commit_any b j t m u pB pG W h1 o
  rw [he] at c
  exact c.mono fun e w' hh => ⟨hh.1, tw_left (kd_tu b j t m u) kB h1 h2 h3 h4 h5 h6 hh.2.1, fun h0 => tw_left (kd_tu b j t m u) kB h1 h2 h3 h4 h5 h6 (hh.2.2 h0)⟩
theorem t_pack (kB : Kd OB) (h : Tw (Tu b j t m u) OB w0 q (x, l) zb W) (o : PackOk x pB pG) (he : packS x pB pG = (k, y)) : Calls Tryz.prog 15 #[.pointer (some ⟨t, 0, none⟩)] W fun e w' => e = .returned (.int .i64 (k : Nat)) ∧ Tw (Tu b j t m u) OB w0 q (y, l) zb w' :=
  h.callA (kd_tu b j t m u) kB (fun F hh => tu_table hh (fun F ⟨Fj, hh⟩ => by
    have c := pack_any b j t m pB pG W hh o
    rw [he] at c
    exact c))
theorem t_begin (kB : Kd OB) (h : Tw (Tt b j t m) OB w0 q x zb W) : Calls Tryz.prog 9 #[.pointer (some ⟨t, 0, none⟩)] W fun e w' => ∃ u, e = .returned (.pointer (some ⟨u, 0, none⟩)) ∧ Tw (Tu b j t m u) OB w0 q (x, []) zb w' := by
  obtain ⟨F, G, ⟨Fj, h1⟩, h2, h3, h4, h5, h6⟩ := h
  refine (begin_any (some ⟨t, 0, none⟩) W).mono fun e w' hh => ?_
  obtain ⟨u, he, G', hB, hG, hb⟩ := hh
  exact ⟨u, he, tw_left (kd_tt b j t m) kB (OC := Tu b j t m u) ⟨Fj, h1⟩ h2 h3 h4 h5 h6 ⟨fun i => F i ∨ G' i, ⟨F, G', ⟨Fj, h1.below hb⟩, hB, fun i hi hg => by have := h1.lt i hi; have := hG i hg; omega, fun i => Iff.rfl⟩, Chg.of_below hb, fun g hg => hg.imp id (fun hh => hG g hh)⟩⟩
theorem t_arm (kB : Kd OB) {n : Int} (h : Tw (Tu b j t m u) OB w0 q (x, l) zb W) (hm : -9223372036854775808 ≤ n ∧ n ≤ 9223372036854775807) : Calls Tryz.prog 17 #[.pointer (some ⟨b, 0, none⟩), .int .i64 n] W fun e w' => e = .returned (.tuple #[]) ∧ Tw (Tu b j t m u) OB w0 q (⟨⟨{ x.j.s with armed := if n < 0 then -1 else n }, x.j.R, x.j.dm⟩, x.L⟩, l) zb w' :=
  h.callA (kd_tu b j t m u) kB (fun F hh => tu_table hh (fun F hh => tt_disk hh (fun Fd hd => d_arm hd hm)))
theorem t_downD (h : Tw (ImpAt b) OB w0 q s zb W) : Calls Tryz.prog 20 #[.pointer (some ⟨b, 0, none⟩)] W fun e w' => e = .returned (.bool s.down) ∧ w' = W := by
  obtain ⟨F, G, ⟨bi, bl, ll, hI, _⟩, _⟩ := h
  exact (iDown_any b bi bl ll _ W hI).mono fun e w' ht => ⟨ht.1, ht.2.symm⟩
theorem t_stepsD (h : Tw (ImpAt b) OB w0 q s zb W) : Calls Tryz.prog 22 #[.pointer (some ⟨b, 0, none⟩)] W fun e w' => e = .returned (.int .i64 (s.steps : Nat)) ∧ w' = W := by
  obtain ⟨F, G, ⟨bi, bl, ll, hI, _⟩, _⟩ := h
  exact (iSteps_any b bi bl ll _ W hI).mono fun e w' ht => ⟨ht.1, ht.2.symm⟩
theorem t_restartA (kB : Kd OB) {n : Int} (h : Tw (ImpAt b) OB w0 q s zb W) (hs : SoundW s ∧ s.L.length ≤ 1000000000 ∧ ∀ x ∈ s.L, x.path.size ≤ 8000000000000) (hm : -9223372036854775808 ≤ n ∧ n ≤ 9223372036854775807) : Calls Tryz.prog 18 #[.pointer (some ⟨b, 0, none⟩), .int .i64 n] W fun e w' => e = .returned (.int .i64 (0 : Nat)) ∧ Tw (ImpAt b) OB w0 q (restartS s n) zb w' :=
  h.callA (kd_imp b) kB (fun F hd => by
    obtain ⟨bi, bl, ll, hI, hg, hF⟩ := hd
    exact (iRestart_any b bi bl ll _ n W hI hg hs.1 hs.2.1 hs.2.2 hm).mono fun e w' ht => ⟨ht.1, ht.2.left (good_restart hg) hF⟩)
theorem t_open (kB : Kd OB) (h : Tw (ImpAt b) OB w0 q s zb W) (o : Open7Ok s pS pB pG) (he : open7 s pS pB pG = (k, x)) : Calls Tryz.prog 7 #[.pointer (some ⟨b, 0, none⟩), .string pS] W fun e w' => (k = 0 ∧ ∃ t j m, e = .returned (.tuple #[.pointer (some ⟨t, 0, none⟩), .int .i64 0]) ∧ Tw (Tt b j t m) OB w0 q x zb w') ∨ (k ≠ 0 ∧ e = .returned (.tuple #[.pointer none, .int .i64 (k : Nat)]) ∧ Tw (ImpAt b) OB w0 q x.j.s zb w') := by
  obtain ⟨F, G, h1, h2, h3, h4, h5, h6⟩ := h
  have c := open_any b pS pB pG W h1 sys_base sys_log o
  rw [he] at c
  refine c.mono fun e w' hh => ?_
  rcases hh with ⟨h0, t, j, m, he, hl⟩ | ⟨h0, he, hl⟩
  · exact .inl ⟨h0, t, j, m, he, tw_left (kd_imp b) kB h1 h2 h3 h4 h5 h6 hl⟩
  · exact .inr ⟨h0, he, tw_left (kd_imp b) kB (OC := ImpAt b) h1 h2 h3 h4 h5 h6 hl⟩
theorem r_batch (kA : Kd OA) {c : Ch} (h : Tw OA (Rb bw jw v vO) w0 q z (x, l) W) (hn : l.length ≤ 1000000) : Calls Tryz.prog 11 #[vO, ov c] W fun e w' => ∃ v', e = .returned v' ∧ Tw OA (Rb bw jw v v') w0 q z (x, bat l c) w' := by
  have ht := h.turn
  obtain ⟨F, G, h1, h2, h3, h4, h5, h6⟩ := ht
  obtain ⟨F1, hR, ho, hd, hH⟩ := h1
  obtain ⟨a, cc, hv, hop, hoc⟩ := ho.val
  have cb := refBatch_any a l.length cc l c W hop hn hoc
  rw [← hv] at cb
  refine cb.mono fun e w' hh => ?_
  obtain ⟨v', he, ho', hb⟩ := hh
  exact ⟨v', he, (tw_left (kd_rb bw jw v vO) kA ⟨F1, hR, ho, hd, hH⟩ h2 h3 h4 h5 h6 (rb_list ⟨F1, hR, ho, hd, hH⟩ hb ho')).turn⟩
theorem r_commit (kA : Kd OA) (h : Tw OA (Rb bw jw v vO) w0 q z (x, l) W) (o : CommitOk x l pB pG) (hra : ∀ y ∈ x.j.s.L, y.data.size ≤ 10000000000000) (hwl : wt l ≤ 10000000) (hws : ws (all7 x.L l) ≤ 10000000) (he : commitS x l pB pG = (k, y)) : Calls Tryz.prog 14 #[.pointer (some ⟨v, 0, none⟩), vO] W fun e w' => e = .returned (.int .i64 (k : Nat)) ∧ Tw OA (Rn bw jw v) w0 q z y w' := by
  have ht := h.turn
  obtain ⟨F, G, h1, h2, h3, h4, h5, h6⟩ := ht
  obtain ⟨F1, ⟨vR, Fj, hR⟩, ho, hd, hH⟩ := h1
  have c := refCommit_any bw jw v W hR ho hd o hra hwl hws
  rw [he] at c
  refine c.mono fun e w' hh => ⟨hh.1, ?_⟩
  obtain ⟨F', q', c', n'⟩ := hh.2
  exact (tw_left (kd_rb bw jw v vO) kA (OC := Rn bw jw v) ⟨F1, ⟨vR, Fj, hR⟩, ho, hd, hH⟩ h2 h3 h4 h5 h6 ⟨F', q', c'.mono (fun i hi => (hH i).2 (.inl hi)), fun g hg => (n' g hg).imp (fun hh => (hH g).2 (.inl hh)) id⟩).turn
theorem r_pack (kA : Kd OA) (h : Tw OA (Rb bw jw v vO) w0 q z (x, l) W) (o : PackOk x pB pG) (hw : ws x.L ≤ 10000000) (he : packS x pB pG = (k, y)) : Calls Tryz.prog 16 #[.pointer (some ⟨v, 0, none⟩)] W fun e w' => e = .returned (.int .i64 (k : Nat)) ∧ Tw OA (Rb bw jw v vO) w0 q z (y, l) w' :=
  h.callB kA (kd_rb bw jw v vO) (fun F hh => rb_table hh (fun F ⟨vR, Fj, hh⟩ => by
    have c := refPack7_any bw jw v W hh o hw
    rw [he] at c
    exact c))
theorem r_restart (kA : Kd OA) {n : Int} (h : Tw OA (RefAt bw) w0 q z s W) (hs : Sound s) (hl : s.L.length ≤ 1000000000) (hm : -9223372036854775808 ≤ n ∧ n ≤ 9223372036854775807) : Calls Tryz.prog 19 #[.pointer (some ⟨bw, 0, none⟩), .int .i64 n] W fun e w' => e = .returned (.int .i64 (0 : Nat)) ∧ Tw OA (RefAt bw) w0 q z (restartS s n) w' :=
  h.callB kA (kd_ref bw) (fun F hd => by
    obtain ⟨vL, vR, hat, hF⟩ := hd
    exact (rRestart_any bw _ vL vR n W hat hs hl hm).mono fun e w' ht => to_left hF ht)
theorem r_open (kA : Kd OA) {r : Nat × Tst} (h : Tw OA (RefAt bw) w0 q z s W) (hc : ∀ F, RefAt bw W F s → Calls Tryz.prog 8 #[.pointer (some ⟨bw, 0, none⟩), .string pS] W (ROpenTo bw W F r)) : Calls Tryz.prog 8 #[.pointer (some ⟨bw, 0, none⟩), .string pS] W fun e w' => (r.1 = 0 ∧ ∃ jw v, e = .returned (.tuple #[.pointer (some ⟨v, 0, none⟩), .int .i64 0]) ∧ Tw OA (Rn bw jw v) w0 q z r.2 w') ∨ (r.1 ≠ 0 ∧ e = .returned (.tuple #[.pointer none, .int .i64 (r.1 : Nat)]) ∧ Tw OA (RefAt bw) w0 q z r.2.j.s w') := by
  have ht := h.turn
  obtain ⟨F, G, h1, h2, h3, h4, h5, h6⟩ := ht
  refine (hc F h1).mono fun e w' hh => ?_
  rcases hh with ⟨h0, jw, v, he, hl⟩ | ⟨h0, he, hl⟩
  · exact .inl ⟨h0, jw, v, he, (tw_left (kd_ref bw) kA h1 h2 h3 h4 h5 h6 hl).turn⟩
  · exact .inr ⟨h0, he, (tw_left (kd_ref bw) kA (OC := RefAt bw) h1 h2 h3 h4 h5 h6 hl).turn⟩
end
end
end Go.Proofs.YtjdfffkkpbabpaaGreat.Tb

namespace Go.Proofs.YtjdfffkkpbabpaaGreat.Aq
open Go.RowKit Tx
set_option linter.unusedVariables false
def three (a b c : Option Addr) (na nb nc ca cb cc bo B : Nat) : Ls := { m := 3, A := fun j => if j = 0 then a else if j = 1 then b else c, N := fun j => if j = 0 then na else if j = 1 then nb else nc, C := fun j => if j = 0 then ca else if j = 1 then cb else cc, bo := bo, B := B }
theorem three_apart {w : World} {a b c : Option Addr} {na nb nc ca cb cc B Ba Bb Bc : Nat} {la lb lc : List ByteArray} (hna : na ≤ 10000000000) (hnb : nb ≤ 10000000000) (hnc : nc ≤ 10000000000) (hla : la.length = na) (hlb : lb.length = nb) (hlc : lc.length = nc) (ha : Texts w Ba (.slice a na ca) la) (hb : Texts w Bb (.slice b nb cb) lb) (hc : Texts w Bc (.slice c nc cc) lc)
    (h1 : B ≤ Ba) (h2 : B ≤ Bb) (h3 : B ≤ Bc) (hsa : ∀ x, a = some x → x.block < Bb ∧ x.block < Bc) (hsb : ∀ x, b = some x → x.block < Bc) (hBw : B ≤ w.heap.size) :
    Calls Tryz.prog 65 #[.slice (some ⟨w.heap.size, 0, none⟩) 3 3] (w.alloc (.cells #[.slice a na ca, .slice b nb cb, .slice c nc cc] 84)) fun e w' => e = .returned (.bool true) ∧ Below B (w.alloc (.cells #[.slice a na ca, .slice b nb cb, .slice c nc cc] 84)) w' := by
  have ra := (texts_row ha h1 hla).alloc (.cells #[.slice a na ca, .slice b nb cb, .slice c nc cc] 84)
  have rb := (texts_row hb h2 hlb).alloc (.cells #[.slice a na ca, .slice b nb cb, .slice c nc cc] 84)
  have rc := (texts_row hc h3 hlc).alloc (.cells #[.slice a na ca, .slice b nb cb, .slice c nc cc] 84)
  refine apart_any (three a b c na nb nc ca cb cc w.heap.size B) 3 _ (by show 3 ≤ 1048576; omega) (fun j _ => ?_) (by rw [World.size_alloc]; show B ≤ _; omega) (by rw [World.size_alloc]; show w.heap.size < _; omega) hBw ?_ ?_ ?_
  · show (if j = 0 then na else if j = 1 then nb else nc) ≤ _
    split
    · exact hna
    · split
      · exact hnb
      · exact hnc
  · have kab : ∀ x, a = some x → b ≠ some x := fun x h3 h4 => by
      have h5 := (hsa x h3).1
      have h6 := (texts_block hb h4).1
      omega
    have kac : ∀ x, a = some x → c ≠ some x := fun x h3 h4 => by
      have h5 := (hsa x h3).2
      have h6 := (texts_block hc h4).1
      omega
    have kbc : ∀ x, b = some x → c ≠ some x := fun x h3 h4 => by
      have h5 := hsb x h3
      have h6 := (texts_block hc h4).1
      omega
    refine ⟨fun i j hi hj hne x h3 => ?_, fun j hj g h3 => ?_⟩
    · have hi : i < 3 := hi
      have hj : j < 3 := hj
      show (if j = 0 then a else if j = 1 then b else c) ≠ some x
      have h3 : (if i = 0 then a else if i = 1 then b else c) = some x := h3
      match i, j, hi, hj with
      | 0, 0, _, _ => exact absurd rfl hne
      | 0, 1, _, _ => exact kab x h3
      | 0, 2, _, _ => exact kac x h3
      | 1, 0, _, _ => exact fun h4 => kab x h4 h3
      | 1, 1, _, _ => exact absurd rfl hne
      | 1, 2, _, _ => exact kbc x h3
      | 2, 0, _, _ => exact fun h4 => kac x h4 h3
      | 2, 1, _, _ => exact fun h4 => kbc x h4 h3
      | 2, 2, _, _ => exact absurd rfl hne
    · have hj : j < 3 := hj
      have h3 : (if j = 0 then a else if j = 1 then b else c) = some ⟨g, 0, none⟩ := h3
      show g ≠ w.heap.size
      match j, hj with
      | 0, _ => have : g < w.heap.size := (texts_block ha h3).2; omega
      | 1, _ => have : g < w.heap.size := (texts_block hb h3).2; omega
      | 2, _ => have : g < w.heap.size := (texts_block hc h3).2; omega
  · intro j hj
    have hj : j < 3 := hj
    match j, hj with
    | 0, _ => show (w.alloc _).cell? ⟨w.heap.size, 0, none⟩ = _; go_simp; exact ⟨rfl, rfl, rfl⟩
    | 1, _ => show (w.alloc _).cell? ⟨w.heap.size, 1, none⟩ = _; go_simp; exact ⟨rfl, rfl, rfl⟩
    | 2, _ => show (w.alloc _).cell? ⟨w.heap.size, 2, none⟩ = _; go_simp; exact ⟨rfl, rfl, rfl⟩
  · intro j hj
    have hj : j < 3 := hj
    match j, hj with
    | 0, _ => exact ⟨la.map sv, ra, fun k hk hh => by omega⟩
    | 1, _ => exact ⟨lb.map sv, rb, fun k hk hh => by omega⟩
    | 2, _ => exact ⟨lc.map sv, rc, fun k hk hh => by omega⟩
end Go.Proofs.YtjdfffkkpbabpaaGreat.Aq

namespace Go.Proofs.YtjdfffkkpbabpaaGreat.Tb
open Go.RowKit Tx Pm Dk Wm Wr Wl Pl Od
set_option linter.unusedVariables false
set_option linter.unusedSimpArgs false
set_option linter.unnecessarySimpa false
theorem over_find7 {L : List It} {l : List Ch} {p : ByteArray} : overB L l p = (find (all7 L l) p).isSome := by
  rw [find_all]
  unfold overB after
  cases lastOf l p with
  | none => rfl
  | some c => cases hg : c.gone <;> simp [hg]
theorem over_val7 {L : List It} {l : List Ch} {p : ByteArray} {x : It} (h : find (all7 L l) p = some x) : overV L l p = x.data := by
  rw [find_all] at h
  unfold overV
  unfold after at h
  cases hl : lastOf l p with
  | none =>
    rw [hl] at h
    show (lookC L p).val = _
    unfold lookC
    rw [show find L p = some x from h]
    rfl
  | some c =>
    rw [hl] at h
    cases hg : c.gone
    · simp only [hg] at h
      injection h with h
      rw [← h]
      rfl
    · simp [hg] at h
theorem getv_find (L : List It) (p : ByteArray) : getV (getR L p) = .tuple #[.string (lookC L p).val, .bool (find L p).isSome] := by
  unfold lookC
  show getV (find L p) = _
  cases find L p <;> rfl
theorem getv_all {L : List It} {l : List Ch} {p : ByteArray} (hg : ∀ c ∈ l, c.gone = true → c.val = ⟨#[]⟩) : getV (getR (all7 L l) p) = .tuple #[.string (overV L l p), .bool (overB L l p)] := by
  rw [over_find7]
  show getV (find (all7 L l) p) = _
  cases h : find (all7 L l) p with
  | some x => rw [over_val7 h]; rfl
  | none =>
    have e : overV L l p = ⟨#[]⟩ := by
      rw [find_all] at h
      unfold overV
      unfold after at h
      cases hl : lastOf l p with
      | none =>
        rw [hl] at h
        show (lookC L p).val = _
        unfold lookC
        rw [show find L p = none from h]
        rfl
      | some c =>
        rw [hl] at h
        have hm : c ∈ l := List.mem_reverse.1 (List.mem_of_find?_eq_some (show l.reverse.find? _ = some c from hl))
        cases hc : c.gone
        · simp [hc] at h
        · exact hg c hm hc
    rw [e]
    rfl
set_option maxRecDepth 100000 in
set_option maxHeartbeats 8000000 in
theorem seen_any {b j t m u bw jw v : Nat} {vO : Value} {w0 W : World} {q : Option (Nat × Obj)} {x : Tst} {l : List Ch} {key : ByteArray} (h : Tw (Tu b j t m u) (Rb bw jw v vO) w0 q (x, l) (x, l) W) (hx : x.L.length ≤ 100000000 ∧ ∀ y ∈ x.L, y.path.size ≤ 1000000000) (hl : l.length ≤ 1000000 ∧ ∀ c ∈ l, c.key.size ≤ 1000000000 ∧ (c.gone = true → c.val = ⟨#[]⟩)) (hk : key.size ≤ 1000000000) :
    Calls Tryz.prog 21 #[.pointer (some ⟨t, 0, none⟩), .pointer (some ⟨u, 0, none⟩), .pointer (some ⟨v, 0, none⟩), vO, .string key] W fun e w' => e = .returned (.bool true) ∧ Below W.heap.size W w' := by
  obtain ⟨F, G, ⟨F1, G1, ⟨Fj, ht⟩, ⟨pm, vB, hb⟩, _, _⟩, ⟨F2, ⟨vR, Fj2, hr⟩, ho, _, _⟩, _⟩ := h
  obtain ⟨aR, cR, rfl, hrs, hnc, _⟩ := hr.row.form
  obtain ⟨aO, cO, rfl, hop, hoc⟩ := ho.val
  have hkm : key.size ≤ maxLen := by unfold maxLen; omega
  have hrv : RowV W (.slice aR x.L.length cR) x.L := ⟨aR, cR, rfl, hrs, hnc⟩
  have hal := len_all x.L l
  have hap : ∀ y ∈ all7 x.L l, y.path.size ≤ 1000000000000 := fun y hy => by
    rcases mem_all hy with ⟨c, hc, rfl⟩ | hy
    · have := (hl.2 c hc).1
      show c.key.size ≤ _
      omega
    · have := hx.2 y hy; omega
  have hvl : v < W.heap.size := (Array.getElem?_eq_some_iff.1 hr.blk).1
  have HT := Lib.hid (fun V (hV : Below W.heap.size W V) => tcell ((hV.block v hvl).trans hr.blk))
  have C1 := Lib.hid (fun V (hV : Below W.heap.size W V) => tGet_any t m x.L key V (ht.below hV).cell.2.2.2 (ht.below hV).rows hkm)
  have C2 := fun V (hV : Below W.heap.size W V) => refGet_any aR x.L.length cR x.L key V (hrs.below hV) (by omega) hnc
  rw [getv_find] at C2
  have C2 := Lib.hid C2
  have C3 := Lib.hid (fun V (hV : Below W.heap.size W V) => bGet_any u t m pm vB x.L l key V (hb.below hV) (ht.below hV).cell.2.2.2 (ht.below hV).rows (by omega))
  have C4 := Lib.hid (fun V (hV : Below W.heap.size W V) => refOver_any v (bw := bw) (jw := jw) (vR := .slice aR x.L.length cR) (vO := .slice aO l.length cO) (L := x.L) (l := l) V ((hV.block v hvl).trans hr.blk) (hrv.below hV) ⟨aO, cO, rfl, hop.below hV, hoc⟩ hr.rises hr.plain (by omega))
  have C6 := Lib.hid (fun V (hV : Below W.heap.size W V) => tKeys_any t m x.L key V (ht.below hV).cell.2.2.2 (ht.below hV).rows ht.rises (by omega) (fun y hy => by have := hx.2 y hy; omega) (by omega))
  have C7 := Lib.hid (fun V (hV : Below W.heap.size W V) => bKeys_any u t m pm vB x.L l key V (hb.below hV) (ht.below hV).cell.2.2.2 (ht.below hV).rows ht.rises (by omega) (by omega) (fun y hy => by have := hx.2 y hy; omega) (fun c hc => by have := (hl.2 c hc).1; omega) (by omega))
  have C8 := Lib.hid (fun V (hV : Below W.heap.size W V) => refKeys_any (.slice aR x.L.length cR) x.L key V (hrv.below hV) (by omega) (fun y hy => by have := hx.2 y hy; omega) (by omega))
  have C5 := fun V n c a (hV : RowV V (.slice a n c) (all7 x.L l)) (hn : (all7 x.L l).length = n) => refGet_any a n c (all7 x.L l) key V (by obtain ⟨a', c', e, h1, h2⟩ := hV; injection e with e1 e2 e3; subst e1; rw [e2]; exact h1) (by omega) (by obtain ⟨a', c', e, h1, h2⟩ := hV; injection e with e1 e2 e3; omega)
  rw [getv_all (fun c hc => (hl.2 c hc).2)] at C5
  have C5 := Lib.hid C5
  have C9 := Lib.hid (fun V vv (hV : RowV V vv (all7 x.L l)) => refKeys_any vv (all7 x.L l) key V hV (by omega) hap (by omega))
  obtain ⟨n1, hn1⟩ : ∃ n, n = (held (pre7 key) x.L).length := ⟨_, rfl⟩
  obtain ⟨n2, hn2⟩ : ∃ n, n = (held (pre7 key) (all7 x.L l)).length := ⟨_, rfl⟩
  have hb1 : n1 ≤ 100000000 := by rw [hn1]; unfold held; rw [List.length_map]; exact Nat.le_trans (List.length_filter_le _ _) hx.1
  have hb2 : n2 ≤ 200000000 := by rw [hn2]; unfold held; rw [List.length_map]; refine Nat.le_trans (List.length_filter_le _ _) ?_; omega
  have HN1 := Lib.hid hn1.symm
  have HN2 := Lib.hid hn2.symm
  have HAL := Lib.hid (show (all7 x.L l).length ≤ 200000000 by omega)
  generalize held (pre7 key) x.L = K1 at C6 C8 HN1
  generalize held (pre7 key) (all7 x.L l) = K2 at C7 C9 HN2
  generalize all7 x.L l = LA at C4 C5 C9 HAL
  generalize (lookC x.L key).val = e1 at C1 C2
  generalize (find x.L key).isSome = e2 at C1 C2
  generalize overV x.L l key = e3 at C3 C5
  generalize overB x.L l key = e4 at C3 C5
  generalize x.L.length = n at C2 C4 C8 HT
  generalize l.length = ln at C4
  have B0 := Lib.hid (Below.refl W.heap.size W)
  clear ht hb hr ho hrs hnc hop hoc hrv hal hap hn1 hn2
  go_enter Tryz.func21, Tryz.ntmps21
  go_wp2_with fail
  go_at_call 23
  refine (C1.out _ B0.out).mono ?_
  rintro e w1 ⟨rfl, hb⟩
  have B1 := Lib.hid (Tx.below_call B0.out hb)
  obtain ⟨_, _, _, d3, _⟩ := HT.out _ B1.out
  clear hb
  go_wp2_with fail
  go_at_call 58
  refine (C2.out _ B1.out).mono ?_
  rintro e w2 ⟨rfl, hb⟩
  have B2 := Lib.hid (Tx.below_call B1.out hb)
  clear hb d3
  go_wp2_with fail
  go_at_call 59
  refine (C3.out _ B2.out).mono ?_
  rintro e w3 ⟨rfl, hb⟩
  have B3 := Lib.hid (Tx.below_call B2.out hb)
  clear hb
  go_wp2_with fail
  go_at_call 60
  refine (C4.out _ B3.out).mono ?_
  rintro e w4 ⟨v4, rfl, hv4, hb⟩
  have B4 := Lib.hid (Tx.below_call B3.out hb)
  obtain ⟨a4, c4, rfl, hr4, hc4⟩ := hv4
  have C5' := Lib.hid (C5.out w4 LA.length c4 a4 ⟨a4, c4, rfl, hr4, hc4⟩ rfl)
  clear hb hr4 hc4
  go_wp2_with fail
  go_at_call 58
  refine (C5'.out).mono ?_
  rintro e w5 ⟨rfl, hb⟩
  have B5 := Lib.hid (Tx.below_call B4.out hb)
  clear hb
  go_wp2_with fail
  go_at_call 61
  refine (C6.out _ B5.out).mono ?_
  rintro e w6 ⟨v6, rfl, t6, hb⟩
  have B6 := Lib.hid (Tx.below_call B5.out hb)
  obtain ⟨a6, c6, rfl, s6, _, _⟩ := t6.form
  rw [HN1.out] at t6 s6 ⊢
  have T6 := Lib.hid t6
  have S6 := Lib.hid s6
  clear hb t6 s6
  go_wp2_with fail
  go_at_call 62
  refine (C7.out _ B6.out).mono ?_
  rintro e w7 ⟨v7, rfl, t7, hb⟩
  have B7 := Lib.hid (Tx.below_call B6.out hb)
  obtain ⟨a7, c7, rfl, s7, _, _⟩ := t7.form
  rw [HN2.out] at t7 s7 ⊢
  have T7 := Lib.hid t7
  have S7 := Lib.hid s7
  have hb67 := Lib.hid hb
  obtain ⟨_, _, _, d3, _⟩ := HT.out _ B7.out
  clear hb t7 s7
  go_wp2_with fail
  go_at_call 64
  refine (C8.out _ B7.out).mono ?_
  rintro e w8 ⟨v8, rfl, t8, hb⟩
  have B8 := Lib.hid (Tx.below_call B7.out hb)
  have hb78 := Lib.hid hb
  obtain ⟨a8, c8, rfl, s8, _, _⟩ := t8.form
  rw [HN1.out] at s8 ⊢
  have cs := Lib.hid (same_true a6 a8 n1 c6 c8 K1 w8 (by omega) ((S6.out.below hb67.out).below hb) s8)
  clear hb t8 s8 d3
  go_wp2_with fail
  go_at_call 63
  refine cs.out.mono ?_
  rintro e w9 ⟨rfl, hb⟩
  have B9 := Lib.hid (Tx.below_call B8.out hb)
  have hb89 := Lib.hid hb
  clear hb
  go_wp2_with fail
  go_at_call 60
  refine (C4.out _ B9.out).mono ?_
  rintro e w10 ⟨v10, rfl, hv10, hb⟩
  have B10 := Lib.hid (Tx.below_call B9.out hb)
  have hb910 := Lib.hid hb
  have C9' := Lib.hid (C9.out w10 v10 hv10)
  clear hb hv10
  go_wp2_with fail
  go_at_call 64
  refine (C9'.out).mono ?_
  rintro e w11 ⟨v11, rfl, t11, hb⟩
  have B11 := Lib.hid (Tx.below_call B10.out hb)
  obtain ⟨a11, c11, rfl, s11, _, _⟩ := t11.form
  rw [HN2.out] at s11 ⊢
  have hb711 := Lib.hid (((hb78.out.trans (hb89.out.mono hb78.out.size)).trans (hb910.out.mono (Nat.le_trans hb78.out.size hb89.out.size))).trans (hb.mono (Nat.le_trans hb78.out.size (Nat.le_trans hb89.out.size hb910.out.size))))
  have cs2 := Lib.hid (same_true a7 a11 n2 c7 c11 K2 w11 (by omega) (S7.out.below hb711.out) s11)
  clear hb t11 s11
  go_wp2_with fail
  go_at_call 63
  refine cs2.out.mono ?_
  rintro e w12 ⟨rfl, hb⟩
  have B12 := Lib.hid (Tx.below_call B11.out hb)
  have hb712 := Lib.hid (hb711.out.trans (hb.mono hb711.out.size))
  clear hb
  go_wp2_with fail
  go_at_call 61
  refine (C6.out _ B12.out).mono ?_
  rintro e w13 ⟨v13, rfl, t13, hb⟩
  have B13 := Lib.hid (Tx.below_call B12.out hb)
  have hb713 := Lib.hid (hb712.out.trans (hb.mono hb712.out.size))
  obtain ⟨a13, c13, rfl, s13, _, _⟩ := t13.form
  rw [HN1.out] at t13 ⊢
  have t6' := (T6.out.below hb67.out).below hb713.out
  have t7' := T7.out.below hb713.out
  have ca := Lib.hid (Aq.three_apart (B := W.heap.size) (by omega) (by omega) (by omega) HN1.out HN2.out HN1.out t6' t7' t13 B5.out.size B6.out.size B12.out.size
    (fun y hy => ⟨(Aq.texts_block T6.out hy).2, Nat.lt_of_lt_of_le (Aq.texts_block T6.out hy).2 (Nat.le_trans hb67.out.size hb712.out.size)⟩) (fun y hy => Nat.lt_of_lt_of_le (Aq.texts_block T7.out hy).2 hb712.out.size) B13.out.size)
  have hBn := Lib.hid (Tx.below_new (o := .cells #[.slice a6 n1 c6, .slice a7 n2 c7, .slice a13 n1 c13] 84) B13.out)
  clear hb t13 s13 t6' t7'
  go_wp2_with fail
  go_at_call 65
  refine ca.out.mono ?_
  rintro e w14 ⟨rfl, hb⟩
  have HF := Lib.hid (hBn.out.trans hb)
  clear hb
  go_wp2_with fail
  go_ret
  exact ⟨rfl, HF.out⟩
end Go.Proofs.YtjdfffkkpbabpaaGreat.Tb

namespace Go.Proofs.YtjdfffkkpbabpaaGreat.Ts
open Go.ChangeMaps (open_string shut_string)
open Go.ChangeShapes Go.WideShapes Go.ChangeAt Go.RowKit Tx
set_option linter.unusedVariables false
structure Sp where
  k : Int
  p : ByteArray
  t : ByteArray
  n : Int
def dS {H : Type} (x : Sp) : DataW H := .agg [.lit (.int .i64 x.k), .lit (.string x.p.data.toList), .lit (.string x.t.data.toList), .lit (.int .i64 x.n)]
def int64 (k : Int) : Prop := -9223372036854775808 ≤ k ∧ k ≤ 9223372036854775807
theorem cells9 : Tryz.prog.cellsOf 9 = 1 := by kernel_rfl
theorem cells3 : Tryz.prog.cellsOf 3 = 1 := by kernel_rfl
theorem cellsS : Tryz.prog.cellsOf 39 = 4 := by kernel_rfl
theorem wf_int {k : Int} (h : (Lit.int .i64 k).wf = true) : int64 k := by
  unfold int64
  simpa [Lit.wf, IntKind.min, IntKind.max, IntKind.signed, IntKind.bits] using h
def Script (w : World) (a : Option Addr) (n : Nat) (l : List Sp) : Prop := l.length = n ∧ (n = 0 ∨ ∃ b off, a = some ⟨b, off, none⟩ ∧ b < w.heap.size ∧ ∀ k x, l[k]? = some x → w.cell? ⟨b, off + k * 4, none⟩ = some (.int .i64 x.k) ∧ w.cell? ⟨b, off + k * 4 + 1, none⟩ = some (.string x.p) ∧ w.cell? ⟨b, off + k * 4 + 1 + 1, none⟩ = some (.string x.t) ∧ w.cell? ⟨b, off + k * 4 + 1 + 1 + 1, none⟩ = some (.int .i64 x.n))
theorem step_open {H : Type} {enc : TypeId × Value → H} {w : World} {base : Nat} {spare : Nat → Bool} {held : Bool} {m : Nat} {c0 c1 c2 c3 : Value} {y : DataW H × List MemPlace} (h : DataW.trod enc Tryz.prog w base spare held m 39 [c0, c1, c2, c3] = some y) :
    ∃ x : Sp, c0 = .int .i64 x.k ∧ c1 = .string x.p ∧ c2 = .string x.t ∧ c3 = .int .i64 x.n ∧ y = (dS x, []) ∧ int64 x.k ∧ int64 x.n := by
  obtain ⟨ys, m2, _, hy, _, hyl, hf⟩ := DataW.trod_struct Tryz.underlying39 h
  have h0 := hf 0 _ rfl
  have h1 := hf 1 _ rfl
  have h2 := hf 2 _ rfl
  have h3 := hf 3 _ rfl
  match ys, hyl with
  | [y0, y1, y2, y3], _ =>
    have h0 : DataW.trod enc Tryz.prog w base spare held m2 3 (([c0, c1, c2, c3].drop 0).take (Tryz.prog.cellsOf 3)) = some y0 := h0
    have h1 : DataW.trod enc Tryz.prog w base spare held m2 9 (([c0, c1, c2, c3].drop 1).take (Tryz.prog.cellsOf 9)) = some y1 := h1
    have h2 : DataW.trod enc Tryz.prog w base spare held m2 9 (([c0, c1, c2, c3].drop 2).take (Tryz.prog.cellsOf 9)) = some y2 := h2
    have h3 : DataW.trod enc Tryz.prog w base spare held m2 3 (([c0, c1, c2, c3].drop 3).take (Tryz.prog.cellsOf 3)) = some y3 := h3
    rw [cells3] at h0 h3
    rw [cells9] at h1 h2
    obtain ⟨k, hk, hx0, hw⟩ := DataW.trod_int Tryz.underlying3 h0
    obtain ⟨p, hp, hx1, hl1⟩ := DataW.trod_string Tryz.underlying9 h1
    obtain ⟨t, ht, hx2, hl2⟩ := DataW.trod_string Tryz.underlying9 h2
    obtain ⟨n, hn, hx3, hw3⟩ := DataW.trod_int Tryz.underlying3 h3
    simp at hk hp ht hn
    refine ⟨⟨k, p, t, n⟩, hk, hp, ht, hn, ?_, wf_int hw, wf_int hw3⟩
    rw [hy, hx0, hx1, hx2, hx3]
    rfl
theorem step_at {H : Type} {enc : TypeId × Value → H} {w : World} {base : Nat} {spare : Nat → Bool} {held : Bool} {m : Nat} {a : Addr} {cs' : List Value} {y : DataW H × List MemPlace} (hc : w.cells? base a 4 = some cs') (h : DataW.trod enc Tryz.prog w base spare held m 39 cs' = some y) :
    ∃ x : Sp, w.cell? a = some (.int .i64 x.k) ∧ w.cell? (a.add 1) = some (.string x.p) ∧ w.cell? (a.add 2) = some (.string x.t) ∧ w.cell? (a.add 3) = some (.int .i64 x.n) ∧ y = (dS x, []) ∧ int64 x.k ∧ int64 x.n := by
  obtain ⟨_, hcl, hat⟩ := World.cells?_some hc
  match cs', hcl with
  | [c0, c1, c2, c3], _ =>
    obtain ⟨x, h0, h1, h2, h3, hy, hr⟩ := step_open h
    have a0 := hat 0 (by omega)
    have a1 := hat 1 (by omega)
    have a2 := hat 2 (by omega)
    have a3 := hat 3 (by omega)
    refine ⟨x, ?_, ?_, ?_, ?_, hy, hr⟩
    · have e : a.add 0 = a := by simp [Addr.add]
      rw [e] at a0
      rw [a0, h0]
      rfl
    · rw [a1, h1]; rfl
    · rw [a2, h2]; rfl
    · rw [a3, h3]; rfl
theorem open_steps {H : Type} {enc : TypeId × Value → H} {w : World} {base : Nat} {spare : Nat → Bool} {held : Bool} {fuel : Nat} {cs : List Value} {x : DataW H × List MemPlace} (h : DataW.trod enc Tryz.prog w base spare held fuel 22 cs = some x) :
    (cs = [.slice none 0 0] ∧ x = (.nil, [])) ∨ ∃ (a : Addr) (len cap : Nat) (l : List Sp) (rest : List (DataW H)) (pl : List MemPlace), cs = [.slice (some a) len cap] ∧ len ≤ cap ∧ cap ≤ maxLen ∧ x = (.slice (l.map dS) rest, pl) ∧ Script w (some a) len l ∧ ∀ e ∈ l, int64 e.k ∧ int64 e.n := by
  rcases Go.Deep.open_slice Tryz.underlying22 h with h0 | ⟨a, len, cap, m, n, D, Pl, rfl, hb, hl, hm, hmm, hx, hi⟩
  · exact .inl h0
  · right
    have hlm : len ≤ m := by
      rw [hmm]
      split
      · exact hl
      · exact Nat.le_refl _
    have hex : ∀ i, i < len → ∃ e : Sp, w.cell? (a.add (i * 4)) = some (.int .i64 e.k) ∧ w.cell? ((a.add (i * 4)).add 1) = some (.string e.p) ∧ w.cell? ((a.add (i * 4)).add 2) = some (.string e.t) ∧ w.cell? ((a.add (i * 4)).add 3) = some (.int .i64 e.n) ∧ D i = dS e ∧ int64 e.k ∧ int64 e.n := by
      intro i him
      obtain ⟨cs', hc, ht⟩ := hi i (by omega)
      rw [cellsS] at hc
      obtain ⟨e, h1, h2, h3, h4, h5, hr⟩ := step_at hc ht
      exact ⟨e, h1, h2, h3, h4, congrArg Prod.fst h5, hr⟩
    have : Inhabited Sp := ⟨⟨0, ⟨#[]⟩, ⟨#[]⟩, 0⟩⟩
    obtain ⟨X, hX⟩ := Go.Deep.choose_lt hex
    have hget : ∀ k y, ((List.range len).map X)[k]? = some y → k < len ∧ y = X k := by
      intro k y hk
      have hk2 := (List.getElem?_eq_some_iff.1 hk).1
      simp at hk2
      rw [List.getElem?_map, List.getElem?_range hk2] at hk
      injection hk with hk
      exact ⟨hk2, hk.symm⟩
    refine ⟨a, len, cap, (List.range len).map X, (List.range (m - len)).map fun j => D (len + j), x.2, rfl, hl, hm, ?_, ⟨by simp, ?_⟩, ?_⟩
    · rw [hx]
      refine Prod.ext ?_ rfl
      show DataW.slice _ _ = DataW.slice _ _
      congr 1
      rw [List.map_map]
      refine List.map_congr_left (fun i hi' => ?_)
      exact (hX i (List.mem_range.1 hi')).2.2.2.2.1
    · by_cases h0 : len = 0
      · exact .inl h0
      · right
        obtain ⟨b, off, spot⟩ := a
        have hc0 := (hX 0 (by omega)).1
        rw [Nat.zero_mul] at hc0
        have hspot : spot = none := by simpa [Addr.add] using World.cell?_spot hc0
        subst hspot
        refine ⟨b, off, rfl, ?_, fun k y hk => ?_⟩
        · have := World.block_lt_of_cell? w _ hc0
          simpa [Addr.add] using this
        · obtain ⟨hk2, rfl⟩ := hget k y hk
          obtain ⟨h1, h2, h3, h4, _⟩ := hX k hk2
          rw [add_plain] at h1 h2 h3 h4
          rw [add_plain] at h2 h3 h4
          exact ⟨h1, h2, h3, h4⟩
    · intro e he
      obtain ⟨k, hk⟩ := List.getElem?_of_mem he
      obtain ⟨hk2, rfl⟩ := hget k e hk
      exact (hX k hk2).2.2.2.2.2
def kv (x : Sp) : ByteArray × ByteArray := (x.p, x.t)
theorem bulk_step {H : Type} (x : Sp) : Rows.uptoBulk (dS (H := H) x) = x.p.size + x.t.size + 5 := by
  have e : Rows.uptoBulk (dS (H := H) x) = 1 + ((x.p.data.toList.length + 1) + ((x.t.data.toList.length + 1) + (1 + 0))) + 1 := rfl
  rw [e, len_l, len_l]
  omega
theorem bulk_steps {H : Type} : ∀ l : List Sp, l.length ≤ Rows.uptoBulkAll (l.map (dS (H := H))) ∧ (l.map fun x => x.p.size + x.t.size + 5).sum ≤ Rows.uptoBulkAll (l.map (dS (H := H)))
  | [] => ⟨Nat.zero_le _, Nat.zero_le _⟩
  | y :: l => by
    obtain ⟨h1, h2⟩ := bulk_steps (H := H) l
    have e : Rows.uptoBulkAll ((y :: l).map (dS (H := H))) = Rows.uptoBulk (dS (H := H) y) + Rows.uptoBulkAll (l.map (dS (H := H))) := rfl
    rw [e, bulk_step]
    refine ⟨by rw [List.length_cons]; omega, ?_⟩
    rw [List.map_cons, List.sum_cons]
    omega
theorem take_sum : ∀ (l : List Sp) (m : Nat), ((l.take m).map fun x => x.p.size + x.t.size + 40).sum ≤ (l.map fun x => x.p.size + x.t.size + 5).sum + 35 * m
  | [], m => by simp
  | y :: l, 0 => by simp
  | y :: l, m + 1 => by
    have := take_sum l m
    rw [List.take_succ_cons, List.map_cons, List.sum_cons, List.map_cons, List.sum_cons]
    omega
theorem arg_steps {H : Type} {enc : TypeId × Value → H} {w : World} {base : Nat} {spare : Nat → Bool} {held : Bool} {a : Option Addr} {n c : Nat} {d : DataW H} {p : List MemPlace} (h : DataW.Trod enc Tryz.prog w base spare held 22 (.slice a n c) d p) :
    ∃ l : List Sp, Script w a n l ∧ (∀ e ∈ l, int64 e.k ∧ int64 e.n) ∧ n ≤ Rows.uptoBulk d ∧ (l.map fun x => x.p.size + x.t.size + 5).sum ≤ Rows.uptoBulk d := by
  obtain ⟨fuel, hf⟩ := h
  rcases open_steps hf with ⟨hcs, _⟩ | ⟨x, len, cap, l, rest, pl, hcs, _, _, hx, he, hall⟩
  · simp [Value.cells] at hcs
    obtain ⟨rfl, rfl, rfl⟩ := hcs
    exact ⟨[], ⟨rfl, .inl rfl⟩, (fun e he => by cases he), Nat.zero_le _, Nat.zero_le _⟩
  · simp [Value.cells] at hcs
    obtain ⟨rfl, rfl, rfl⟩ := hcs
    have hd : d = .slice (l.map dS) rest := congrArg Prod.fst hx
    have e : Rows.uptoBulk d = Rows.uptoBulkAll (l.map (dS (H := H))) + Rows.uptoBulkAll rest + 1 := by rw [hd]; rfl
    obtain ⟨h1, h2⟩ := bulk_steps (H := H) l
    rw [he.1] at h1
    exact ⟨l, he, hall, by omega, by omega⟩
end Go.Proofs.YtjdfffkkpbabpaaGreat.Ts

namespace Go.Proofs.YtjdfffkkpbabpaaGreat.Tb
open Go.RowKit Tx Pm Dk Wm Wr Wl Pl Od
set_option linter.unusedVariables false
set_option linter.unusedSimpArgs false
set_option linter.unnecessarySimpa false
theorem steps_nth {w : World} {a : Option Addr} {n : Nat} {l : List Ts.Sp} (h : Ts.Script w a n l) {k : Nat} {x : Ts.Sp} (hx : l[k]? = some x) : ∃ b off, a = some ⟨b, off, none⟩ ∧ b < w.heap.size ∧ w.cell? ⟨b, off + k * 4, none⟩ = some (.int .i64 x.k) ∧ w.cell? ⟨b, off + k * 4 + 1, none⟩ = some (.string x.p) ∧ w.cell? ⟨b, off + k * 4 + 1 + 1, none⟩ = some (.string x.t) ∧ w.cell? ⟨b, off + k * 4 + 1 + 1 + 1, none⟩ = some (.int .i64 x.n) := by
  have hk := (List.getElem?_eq_some_iff.1 hx).1
  rcases h.2 with h0 | ⟨b, off, ha, hlt, hc⟩
  · rw [h.1] at hk; omega
  · exact ⟨b, off, ha, hlt, hc k x hx⟩
def bx (K M : Int) (p T : ByteArray) : Obj := .cells #[.int .i64 K, .string p, .string T, .int .i64 M] 39
theorem bx_cells {W : World} {bs : Nat} {K M : Int} {p T : ByteArray} (h : W.heap[bs]? = some (bx K M p T)) : W.cell? ⟨bs, 0, none⟩ = some (.int .i64 K) ∧ W.cell? ⟨bs, 1, none⟩ = some (.string p) ∧ W.cell? ⟨bs, 2, none⟩ = some (.string T) ∧ W.cell? ⟨bs, 3, none⟩ = some (.int .i64 M) := by
  refine ⟨?_, ?_, ?_, ?_⟩ <;> · unfold World.cell?; rw [h]; rfl
def Sl (ls : List Ts.Sp) : List (ByteArray × ByteArray) := (ls.take 150).map Ts.kv
def su (ls : List Ts.Sp) (i : Nat) : Nat := ((ls.take i).map fun x => x.p.size + x.t.size + 40).sum
theorem tot_sl (ls : List Ts.Sp) : tot (Sl ls) = su ls 150 := by
  unfold tot Sl su
  rw [List.map_map]
  rfl
theorem su_succ {ls : List Ts.Sp} {i : Nat} {x : Ts.Sp} (h : ls[i]? = some x) : su ls (i + 1) = su ls i + (x.p.size + x.t.size + 40) := by
  unfold su
  rw [take_snoc7 h, List.map_append, List.sum_append]
  simp
theorem su_mono {ls : List Ts.Sp} {i j : Nat} (h : i ≤ j) : su ls i ≤ su ls j := by
  obtain ⟨d, rfl⟩ := Nat.exists_eq_add_of_le h
  unfold su
  rw [List.take_add, List.map_append, List.sum_append]
  exact Nat.le_add_right _ _
theorem in_sl {ls : List Ts.Sp} {i : Nat} {x : Ts.Sp} (h : ls[i]? = some x) (hi : i < 150) : (x.p, x.t) ∈ Sl ls := by
  unfold Sl
  refine List.mem_map.2 ⟨x, ?_, rfl⟩
  refine List.mem_of_getElem? (i := i) ?_
  rw [List.getElem?_take_of_lt hi]
  exact h
structure Ba (ls : List Ts.Sp) (i : Nat) (l : List Ch) : Prop where
  once : Once l
  frm : ∀ c ∈ l, FromC (Sl ls) c
  wt : wt l ≤ su ls i
  gone : ∀ c ∈ l, c.gone = true → c.val = ⟨#[]⟩
theorem ba_nil (ls : List Ts.Sp) (i : Nat) : Ba ls i [] := ⟨List.Pairwise.nil, fun c hc => (by cases hc), Nat.zero_le _, fun c hc => (by cases hc)⟩
theorem Ba.up {ls : List Ts.Sp} {i j : Nat} {l : List Ch} (h : Ba ls i l) (hij : i ≤ j) : Ba ls j l := ⟨h.once, h.frm, Nat.le_trans h.wt (su_mono hij), h.gone⟩
theorem Ba.bat {ls : List Ts.Sp} {i : Nat} {l : List Ch} {x : Ts.Sp} {c : Ch} (h : Ba ls i l) (hx : ls[i]? = some x) (hw : c.key.size + c.val.size ≤ x.p.size + x.t.size) (hf : FromC (Sl ls) c) (hg : c.gone = true → c.val = ⟨#[]⟩) : Ba ls (i + 1) (bat l c) := by
  refine ⟨once_bat h.once c, fun d hd => ?_, ?_, fun d hd => ?_⟩
  · rcases bat_mem hd with rfl | hd
    · exact hf
    · exact h.frm d hd
  · have := wt_bat h.once c
    have := h.wt
    rw [su_succ hx]
    omega
  · rcases bat_mem hd with rfl | hd
    · exact hg
    · exact h.gone d hd
theorem Ba.put {ls : List Ts.Sp} {i : Nat} {l : List Ch} {x : Ts.Sp} (h : Ba ls i l) (hx : ls[i]? = some x) (hi : i < 150) : Ba ls (i + 1) (Tb.bat l ⟨x.p, x.t, false⟩) := h.bat hx (Nat.le_refl _) (fun _ => in_sl hx hi) (fun e => by cases e)
theorem Ba.drop {ls : List Ts.Sp} {i : Nat} {l : List Ch} {x : Ts.Sp} (h : Ba ls i l) (hx : ls[i]? = some x) : Ba ls (i + 1) (Tb.bat l ⟨x.p, ⟨#[]⟩, true⟩) := h.bat hx (by show x.p.size + 0 ≤ _; omega) (fun e => by cases e) (fun _ => rfl)
theorem Ba.len {ls : List Ts.Sp} {i : Nat} {l : List Ch} (h : Ba ls i l) (hs : su ls i ≤ 1100000) : l.length ≤ 30000 ∧ Tb.wt l ≤ 1100000 ∧ ∀ c ∈ l, c.key.size ≤ 1000000000 ∧ (c.gone = true → c.val = ⟨#[]⟩) := by
  have h1 := wt_len l
  have h2 := h.wt
  exact ⟨by omega, by omega, fun c hc => ⟨by have := wt_mem hc; omega, h.gone c hc⟩⟩
section
variable {S : List (ByteArray × ByteArray)} {K M : Nat} {s : St} {x : Tst}
theorem wk_len (h : Wk S K M x) (hS : tot S ≤ 1100000) : x.L.length ≤ 100000000 ∧ ∀ y ∈ x.L, y.path.size ≤ 1000000000 := by
  obtain ⟨_, _, _, hw⟩ := h.rows hS
  have h1 := ws_len x.L
  refine ⟨by omega, fun y hy => ?_⟩
  have h2 := wt_mem (l := whole7 x.L) (c := ⟨y.path, y.data, false⟩) (List.mem_map.2 ⟨y, hy, rfl⟩)
  have h3 := wt_whole x.L
  simp only at h2
  omega
theorem dsk_data (h : Dsk S K M s) : ∀ y ∈ s.L, y.data.size ≤ 10000000000000 := by
  obtain ⟨B, BT, G, GT, st, sm, a, dn, L0, R, r, rfl, _, hc⟩ := h
  exact fun y hy => by have := (t7_mem hc.sz hy).2.1; omega
theorem dsk_sound (h : Dsk S K M s) : Sound s ∧ s.L.length ≤ 1000000000 := by
  obtain ⟨B, BT, G, GT, st, sm, a, dn, L0, R, r, rfl, _, hc⟩ := h
  have hl := t7_len (B := B) (BT := BT) (G := G) (GT := GT) (st := st) (sm := sm) (a := a) (dn := dn)
  have hw := t7_sound (a := a) (dn := dn) hc.sz
  exact ⟨⟨hw.rises, hw.kept, fun x hx => by have := t7_mem hc.sz hx; omega, hw.stamps⟩, by omega⟩
theorem rst_down (h : Rst S K M s) : s.down = false := by
  obtain ⟨B, BT, c, n, GT, st, sm, a, L0, R, r, rfl, _⟩ := h
  rfl
theorem Rst.up {K' M' : Nat} (h : Rst S K M s) (hK : K ≤ K') (hM : M ≤ M') : Rst S K' M' s := by
  obtain ⟨B, BT, c, n, GT, st, sm, a, L0, R, r, rfl, ha, hc⟩ := h
  exact ⟨B, BT, c, n, GT, st, sm, a, L0, R, r, rfl, ha, hc.sz, hc.bs, hc.based, hc.from0, hc.recs, Nat.le_trans hc.len hM, Nat.le_trans hc.st hK, Nat.le_trans hc.sm hK, hc.log⟩
theorem new_ropen (bw : Nat) {F : Nat → Prop} (w : World) (h : RefAt bw w F newS) : Calls Tryz.prog 8 #[.pointer (some ⟨bw, 0, none⟩), .string pS] w (ROpenTo bw w F (0, ⟨⟨s0T, [], false⟩, []⟩)) := by
  have hf : fillS (T7 none none none none 1 0 (-1) false) pG ⟨#[]⟩ = (0, s0T) := by
    unfold fillS
    rw [pG_tT, g_write (by decide)]
    simp only [dec_neg, g_sync (a := -1) (by decide), g_rename (a := -1) (by decide)]
    rfl
  obtain ⟨hb, hb2⟩ := base_T (B := none) (BT := none) (G := none) (GT := none) (L0 := []) (st := 1) (sm := 0) (a := -1) (.inl ⟨rfl, rfl⟩)
  exact refOpen7_any bw w (s1 := T7 none none none none 1 0 (-1) false) (L0 := []) (k := 0) (y := ⟨s0T, [], false⟩) h (.inl ⟨rfl, (congrArg Prod.snd n_mkdir).symm, by decide +kernel, congrArg Prod.fst n_mkdir, k_base0, rfl⟩) ok_new hb (open_0 k_log0 hf)
    ⟨fun _ => fillokG sz0 (by decide) rng_m1 (by decide) (by decide), fun h => absurd k_log0 h⟩ (fun _ => ⟨fun x hx => (by cases hx), by show 0 + 0 ≤ 500000000; omega, by show 0 ≤ 10000000000; omega⟩)
    ⟨by decide, by decide⟩ (by rw [show (readS (T7 none none none none 1 0 (-1) false) pG).1 = ⟨#[]⟩ from by kernel_rfl]; decide) (by omega) rfl
theorem rst_ropen (bw : Nat) (h : Rst S K M s) (hS : tot S ≤ 1100000) (hK : K ≤ 90000) (hM : M ≤ 330) {F : Nat → Prop} (w : World) (hd : RefAt bw w F s) : Calls Tryz.prog 8 #[.pointer (some ⟨bw, 0, none⟩), .string pS] w (ROpenTo bw w F (open7 s pS pB pG)) := by
  obtain ⟨B, BT, c, n, GT, st, sm, a, L0, R, r, rfl, ha, hc⟩ := h
  obtain ⟨hr1, _⟩ := based_rises hc.based
  obtain ⟨c', n', e, ht⟩ := hc.log (some (sy c n)) ⟨c, n, rfl, (hc.sz.g _ rfl).1, fun _ => ⟨rfl, rfl⟩, fun _ e => (by cases e)⟩
  injection e with e
  have ec : c = c' := congrArg Fi.data e
  subst ec
  have h1 := hc.st
  have h2 := hc.sm
  have hlen := hc.len
  have hrec := recok hc.from0 hr1 hS hc.recs (by rw [List.length_append]; show R.length + 1 ≤ _; omega)
  have hw := recok_wide hrec
  obtain ⟨hb1, hb2⟩ := base_T (BT := BT) (G := some (sy c n)) (GT := GT) (st := st) (sm := sm) (a := a) hc.based
  have hop : opened (T7 B BT (some (sy c n)) GT st sm a false) pS = (0, T7 B BT (some (sy c n)) GT st sm a false) := by
    unfold opened
    rw [if_neg (by rw [k_sys]; decide)]
  obtain ⟨R', k, y, hR, ho, hcases⟩ := openG hc.sz ha hw ht
  have hl := t7_len (B := B) (BT := BT) (G := some (sy c n)) (GT := GT) (st := st) (sm := sm) (a := a) (dn := false)
  have hrd : (readS (T7 B BT (some (sy c n)) GT st sm a false) pG).1 = c := by rw [r_log]; rfl
  have hcs : c.size ≤ 20000000000 := (hc.sz.g _ rfl).1
  refine refOpen7_any bw w (s1 := T7 B BT (some (sy c n)) GT st sm a false) (L0 := L0) (k := k) (y := y) hd (.inr ⟨rfl, by rw [k_sys]; decide⟩) (t7_ok hc.sz ha) hb1 ho (openok_T hc.sz ha hw (by omega) ht (by omega) (by omega)) (fun h0 => ?_) ⟨by omega, by omega⟩ (by rw [hrd]; omega) (by omega) ?_
  · rcases hcases with ⟨_, GT', n', st', sm', a', rfl, _⟩ | ⟨hk, _⟩
    · exact recok_pre hrec hR
    · omega
  · rcases hcases with ⟨rfl, GT', n', st', sm', a', rfl, hh⟩ | ⟨rfl, hne, GT', st', sm', hx, hh⟩
    · rw [(open_n hop).trans (open1_o hb1 ho)]; rfl
    · rw [(open_n hop).trans (open1_l hb1 ho (by decide))]; rfl
end
theorem tw_new7 {w W1 W2 W3 : World} {b bw : Nat} (o1 : Own (ImpAt b) w newS W1) (hbw : W1.heap.size ≤ bw) (hat : At W2 bw newS (.slice none 0 0) (.slice none 0 0)) (hb2 : Below W1.heap.size W1 W2) (hb3 : Below W2.heap.size W2 W3) : Tw (ImpAt b) (RefAt bw) w none newS newS W3 := by
  obtain ⟨F, h1, h2, h3⟩ := o1
  have b13 := Tx.below_call hb2 hb3
  have hs := h3.size
  have hw3 : RefAt bw W3 (fun i => i = bw) newS := ⟨_, _, hat.below hb3, fun i => ⟨fun h => .inl h, fun h => by rcases h with h | h | h; exact h; cases h; cases h⟩⟩
  refine ⟨F, _, (kd_imp b).kept h1 (fun i hi => b13.block i ((kd_imp b).lt h1 i hi)), hw3, fun i hi hj => ?_, fun i hi => ?_, Tx.below_call h3 b13, fun p hp => by cases hp⟩
  · have := (kd_imp b).lt h1 i hi
    omega
  · rcases hi with hi | hi
    · exact h2 i hi
    · omega
section
variable {b j t m u bw jw v : Nat} {vO : Value} {w0 W : World} {q : Option (Nat × Obj)} {x y : Tst} {l : List Ch}
theorem ref_armed7 {b : Nat} {w : World} {F : Nat → Prop} {s : St} (M : Int) (h : RefAt b w F s) : (w.cell? ⟨b, 4, none⟩ = some (.int .i64 s.armed) ∧ w.frozen? ⟨b, 4, none⟩ = false) ∧ Dk.Left (RefAt b) w F { s with armed := M } (w.setCell ⟨b, 4, none⟩ (.int .i64 M)) := by
  obtain ⟨vL, vR, hat, hF⟩ := h
  obtain ⟨_, _, _, _, p4, _⟩ := hat.cell
  refine ⟨⟨p4, hat.warm 4⟩, Foot b vL vR, ⟨vL, vR, hat.poke ?_ (fun i hi => set_other _ hi) rfl rfl, fun _ => Iff.rfl⟩, (chg_set (b := b) (k := 4) (.int .i64 M)).mono (fun i hi => (hF i).2 (.inl hi)), fun g hg => .inl ((hF g).2 hg)⟩
  rw [set_block hat.blk _]
  rfl
theorem rb_armed {OA : World → (Nat → Prop) → Tst × List Ch → Prop} (kA : Kd OA) {z : Tst × List Ch} (M : Int) (h : Tw OA (Rb bw jw v vO) w0 q z (x, l) W) : (W.cell? ⟨bw, 4, none⟩ = some (.int .i64 x.j.s.armed) ∧ W.frozen? ⟨bw, 4, none⟩ = false) ∧ Tw OA (Rb bw jw v vO) w0 q z (⟨⟨{ x.j.s with armed := M }, x.j.R, x.j.dm⟩, x.L⟩, l) (W.setCell ⟨bw, 4, none⟩ (.int .i64 M)) := by
  have ht := h.turn
  obtain ⟨F, G, h1, h2, h3, h4, h5, h6⟩ := ht
  obtain ⟨F1, ⟨vR, Fj, hR⟩, ho, hd, hH⟩ := h1
  obtain ⟨vj, Fd, hj⟩ := hR.jn
  obtain ⟨a1, a2⟩ := ref_armed7 M hj.dsk
  obtain ⟨Fd', F', q1, c1, n1⟩ := hj.disk_left (ref_kind bw) a2
  obtain ⟨Fj', F2, q2, c2, n2⟩ := hR.jleft (y := ⟨{ x.j.s with armed := M }, x.j.R, x.j.dm⟩) ⟨F', ⟨vj, Fd', q1⟩, c1, n1⟩
  have hl : LeftA (Rn bw jw v) W F1 ⟨⟨{ x.j.s with armed := M }, x.j.R, x.j.dm⟩, x.L⟩ (W.setCell ⟨bw, 4, none⟩ (.int .i64 M)) := ⟨F2, ⟨vR, Fj', q2⟩, c2, n2⟩
  have hrb := rb_left (H := F) ⟨F1, ⟨vR, Fj, hR⟩, ho, hd, hH⟩ ⟨vR, Fj, hR⟩ hd hH ho hl
  exact ⟨a1, (tw_left (kd_rb bw jw v vO) kA ⟨F1, ⟨vR, Fj, hR⟩, ho, hd, hH⟩ h2 h3 h4 h5 h6 hrb).turn⟩
theorem rb_steps {OA : World → (Nat → Prop) → Tst × List Ch → Prop} {z : Tst × List Ch} (h : Tw OA (Rb bw jw v vO) w0 q z (x, l) W) : W.cell? ⟨bw, 2, none⟩ = some (.int .i64 (x.j.s.steps : Nat)) ∧ bw < W.heap.size := by
  obtain ⟨F, G, _, ⟨F1, ⟨vR, Fj, hR⟩, _⟩, _⟩ := h
  obtain ⟨vj, Fd, hj⟩ := hR.jn
  obtain ⟨vL, vR2, hat, hF⟩ := hj.dsk
  obtain ⟨_, _, p2, _⟩ := hat.cell
  exact ⟨p2, (Array.getElem?_eq_some_iff.1 hat.blk).1⟩
theorem tw_disks (h : Tw (Tt b j t m) (Rn bw jw v) w0 q x y W) : Tw (ImpAt b) (RefAt bw) w0 q x.j.s y.j.s W := tw_ref (tw_imp h)
theorem tw_disks2 (h : Tw (Tu b j t m u) (Rb bw jw v vO) w0 q (x, l) (y, l) W) : Tw (ImpAt b) (RefAt bw) w0 q x.j.s y.j.s W := tw_disks (tw_rn (tw_tt h))
end
def Wrk (b j t m bw jw v : Nat) (w : World) (q : Option (Nat × Obj)) (ls : List Ts.Sp) (K M i : Nat) (bv ov : Value) (W : World) : Prop :=
  ∃ u x l, bv = .pointer (some ⟨u, 0, none⟩) ∧ Tw (Tu b j t m u) (Rb bw jw v ov) w q (x, l) (x, l) W ∧ Wk (Sl ls) K M x ∧ Ba ls i l
def Dwn (b bw : Nat) (w : World) (q : Option (Nat × Obj)) (ls : List Ts.Sp) (K M : Nat) (W : World) : Prop := ∃ s, Tw (ImpAt b) (RefAt bw) w q s s W ∧ s.down = true ∧ Dsk (Sl ls) K M s
def Rsd (b bw : Nat) (w : World) (q : Option (Nat × Obj)) (ls : List Ts.Sp) (K M : Nat) (W : World) : Prop := ∃ s, Tw (ImpAt b) (RefAt bw) w q s s W ∧ Rst (Sl ls) K M s
def Swt (b j t m bw jw v : Nat) (w : World) (q : Option (Nat × Obj)) (ls : List Ts.Sp) (KK : Int) (K M i : Nat) (bv ov : Value) (W : World) : Prop :=
  (KK ≠ 8 ∧ Wrk b j t m bw jw v w q ls K M i bv ov W) ∨ Dwn b bw w q ls K M W ∨ (KK = 8 ∧ Rsd b bw w q ls K M W)
def Askd (b j t m bw jw v : Nat) (w : World) (q : Option (Nat × Obj)) (ls : List Ts.Sp) (K M i : Nat) (g : Bool) (bv ov : Value) (W : World) : Prop :=
  (g = false ∧ Wrk b j t m bw jw v w q ls K M i bv ov W) ∨ (g = true ∧ (Dwn b bw w q ls K M W ∨ Rsd b bw w q ls K M W))
end Go.Proofs.YtjdfffkkpbabpaaGreat.Tb

namespace Go.Proofs.YtjdfffkkpbabpaaGreat.Tb
open Go.RowKit
set_option linter.unusedVariables false
def ShT (sp bw : Nat) (key : ByteArray) (X : Nat) (W : World) : Prop := W.cell? ⟨sp, 1, none⟩ = some (.string key) ∧ W.cell? ⟨bw, 2, none⟩ = some (.int .i64 (X : Int))
set_option maxRecDepth 100000 in
set_option maxHeartbeats 4000000 in
theorem regSeen (ops : Array Oper) (hops : ops = (Rg.opsOf Tryz.f3 47)) (id : Nat) (b bw t u v sp X : Nat) (key : ByteArray) (vO : Value) {u0 u1 u2 u6 u8 u11 u13 u14 u15 u16 u17 u18 u19 u20 u21 u22 u23 u24 u25 u26 u27 u28 u29 u30 u31 u32 u33 u34 u35 u36 u37 u38 u39 u40 u41 u42 u43 u44 u45 u46 u47 u48 u49 u50 u51 u52 u53 u54 u55 u56 u57 u58 u59 u60 u61 u62 u63 u64 u65 u66 u67 u68 u69 u70 u71 u72 u73 u74 u75 u76 u77 u78 u79 u80 u81 u82 u83 u84 u85 u86 u87 u88 u89 u90 u91 u92 u93 u94 u95 u96 u97 u98 u99 u100 u101 u102 u103 u104 u105 u106 u107 u108 u109 u110 u111 u112 u113 u114 u115 u116 u117 u118 u119 u120 u121 u122 u123 u124 u125 u126 u127 u128 u129 u130 u131 u132 u133 u134 u135 u136 u137 u138 u139 u140 u141 u142 u143 u144 u145 u146 u147 u148 u149 u150 u151 u152 u153 u154 u155 u156 u157 u158 u159 u160 u161 u162 u163 u164 u165 u166 u167 u168 u169 u170 u171 u172 u173 u174 u175 u176 u177 u178 u179 u180 u181 u182 u183 u184 u185 u186 u187 u188 u189 u190 u191 u192 u193 u194 u195 u196 u197 : Value} (w : World) (B1 B2 B3 : World → Prop) (hS : ShT sp bw key X w)
    (hA : Calls Tryz.prog 21 #[.pointer (some ⟨t, 0, none⟩), .pointer (some ⟨u, 0, none⟩), .pointer (some ⟨v, 0, none⟩), vO, .string key] w.drew fun e w' => e = .returned (.bool true) ∧ B1 w') (hAS : ∀ W, B1 W → ShT sp bw key X W)
    (hB : ∀ W, B1 W → Calls Tryz.prog 22 #[.pointer (some ⟨b, 0, none⟩)] W fun e w' => e = .returned (.int .i64 (X : Int)) ∧ B2 w') (hBS : ∀ W, B2 W → ShT sp bw key X W)
    (hC : ∀ W, B2 W → Calls Tryz.prog 21 #[.pointer (some ⟨t, 0, none⟩), .pointer (some ⟨u, 0, none⟩), .pointer (some ⟨v, 0, none⟩), vO, .string ⟨#[]⟩] W fun e w' => e = .returned (.bool true) ∧ B3 w') (hCS : ∀ W, B3 W → ShT sp bw key X W) :
    (Code.region id ops true).wp Tryz.prog (Rg.Only fun a' w' => a' = ⟨#[u0, u1, u2, (.pointer (some ⟨b, 0, none⟩)), (.pointer (some ⟨bw, 0, none⟩)), (.pointer (some ⟨t, 0, none⟩)), u6, (.pointer (some ⟨v, 0, none⟩)), u8, (.pointer (some ⟨u, 0, none⟩)), vO, u11, (.pointer (some ⟨sp, 0, none⟩)), u13, u14, u15, u16, u17, u18, u19, u20, u21, u22, u23, u24, u25, u26, u27, u28, u29, u30, u31, u32, u33, u34, u35, u36, u37, u38, u39, u40, u41, u42, u43, u44, u45, u46, u47, u48, u49, u50, u51, u52, u53, u54, u55, u56, u57, u58, u59, u60, u61, u62, u63, u64, u65, u66, u67, u68, u69, u70, u71, u72, u73, u74, u75, u76, u77, u78, u79, u80, u81, u82, u83, u84, u85, u86, u87, u88, u89, u90, u91, u92, u93, u94, u95, u96, u97, u98, u99, u100, u101, u102, u103, u104, u105, u106, u107, u108, u109, u110, u111, u112, u113, u114, u115, u116, u117, u118, u119, u120, u121, u122, u123, u124, u125, u126, u127, u128, u129, u130, u131, u132, u133, u134, u135, u136, u137, u138, u139, u140, u141, u142, u143, u144, u145, u146, u147, u148, u149, u150, u151, u152, u153, u154, u155, u156, u157, u158, u159, u160, u161, u162, u163, u164, u165, u166, u167, u168, u169, u170, u171, u172, (.pointer (some ⟨t, 0, none⟩)), (.pointer (some ⟨u, 0, none⟩)), (.pointer (some ⟨v, 0, none⟩)), vO, (.pointer (some ⟨sp, 1, none⟩)), (.string key), (.bool true), (.bool false), (.bool false), (.pointer (some ⟨b, 0, none⟩)), (.int .i64 (X : Int)), (.pointer (some ⟨bw, 0, none⟩)), (.pointer (some ⟨bw, 0, none⟩)), (.pointer (some ⟨bw, 2, none⟩)), (.int .i64 (X : Int)), (.bool false), (.bool false), (.bool false), (.pointer (some ⟨t, 0, none⟩)), (.pointer (some ⟨u, 0, none⟩)), (.pointer (some ⟨v, 0, none⟩)), vO, (.bool true), (.bool false), (.bool false)], []⟩ ∧ B3 w') ⟨#[u0, u1, u2, (.pointer (some ⟨b, 0, none⟩)), (.pointer (some ⟨bw, 0, none⟩)), (.pointer (some ⟨t, 0, none⟩)), u6, (.pointer (some ⟨v, 0, none⟩)), u8, (.pointer (some ⟨u, 0, none⟩)), vO, u11, (.pointer (some ⟨sp, 0, none⟩)), u13, u14, u15, u16, u17, u18, u19, u20, u21, u22, u23, u24, u25, u26, u27, u28, u29, u30, u31, u32, u33, u34, u35, u36, u37, u38, u39, u40, u41, u42, u43, u44, u45, u46, u47, u48, u49, u50, u51, u52, u53, u54, u55, u56, u57, u58, u59, u60, u61, u62, u63, u64, u65, u66, u67, u68, u69, u70, u71, u72, u73, u74, u75, u76, u77, u78, u79, u80, u81, u82, u83, u84, u85, u86, u87, u88, u89, u90, u91, u92, u93, u94, u95, u96, u97, u98, u99, u100, u101, u102, u103, u104, u105, u106, u107, u108, u109, u110, u111, u112, u113, u114, u115, u116, u117, u118, u119, u120, u121, u122, u123, u124, u125, u126, u127, u128, u129, u130, u131, u132, u133, u134, u135, u136, u137, u138, u139, u140, u141, u142, u143, u144, u145, u146, u147, u148, u149, u150, u151, u152, u153, u154, u155, u156, u157, u158, u159, u160, u161, u162, u163, u164, u165, u166, u167, u168, u169, u170, u171, u172, u173, u174, u175, u176, u177, u178, u179, u180, u181, u182, u183, u184, u185, u186, u187, u188, u189, u190, u191, u192, u193, u194, u195, u196, u197], []⟩ w := by
  subst hops
  have hNS : Region.noSelect (Rg.opsOf Tryz.f3 47) = true := by kernel_rfl
  refine wp_region_held_drew (S := ShT sp bw key X) (by kernel_rfl) hS (fun hHeld => ?_)
  rw [show (Rg.opsOf Tryz.f3 47).size = 25 by kernel_rfl]
  refine Rg.takek 0 (some 173) (.pointer (some ⟨t, 0, none⟩)) hNS hHeld (Rg.y_movekL (x := .tmp 5)) ?_
  refine Rg.takek 1 (some 174) (.pointer (some ⟨u, 0, none⟩)) hNS hHeld (Rg.y_movekL (x := .tmp 9)) ?_
  refine Rg.takek 2 (some 175) (.pointer (some ⟨v, 0, none⟩)) hNS hHeld (Rg.y_movekL (x := .tmp 7)) ?_
  refine Rg.takek 3 (some 176) (vO) hNS hHeld (Rg.y_movekL (x := .tmp 10)) ?_
  refine Rg.takek 4 (some 177) (.pointer (some ⟨sp, 1, none⟩)) hNS hHeld (Rg.y_fieldk (T := 39) (k := 1) (x := .tmp 12) (vx := (.pointer (some ⟨sp, 0, none⟩))) ?_) ?_
  · (intro w hSw; clear hSw; go_simp)
  refine Rg.takek 5 (some 178) (.string key) hNS hHeld (Rg.y_loadk (T := 9) (x := .tmp 177) (vx := (.pointer (some ⟨sp, 1, none⟩))) ?_) ?_
  · (intro w hSw; obtain ⟨s0, s1⟩ := hSw; go_simp)
  refine Rg.callk (fn := Tryz.f21) (xs := #[.tmp 173, .tmp 174, .tmp 175, .tmp 176, .tmp 178]) (ats := #[28, 35, 32, 37, 9]) 6 (some 179) 21 #[(.pointer (some ⟨t, 0, none⟩)), (.pointer (some ⟨u, 0, none⟩)), (.pointer (some ⟨v, 0, none⟩)), vO, (.string key)] Tryz.func21 ?_
  refine hA.mono ?_
  rintro e w5 ⟨rfl, h5⟩
  refine ⟨_, rfl, hAS _ h5, fun hHeld => ?_⟩
  refine Rg.takek 7 (some 180) (.bool false) hNS hHeld (Rg.y_unk (b := UnOp.not) (T := 4) (x := .tmp 179) (vx := (.bool true)) ?_) ?_
  · (intro w hSw; clear hSw; go_simp)
  refine Rg.takek 8 (some 181) (.bool false) hNS hHeld (Rg.y_movekL (x := .tmp 180)) ?_
  refine Rg.takek 9 (some 182) (.pointer (some ⟨b, 0, none⟩)) hNS hHeld (Rg.y_movekL (x := .tmp 3)) ?_
  refine Rg.takek 11 (some 184) (.pointer (some ⟨bw, 0, none⟩)) hNS hHeld (Rg.y_movekL (x := .tmp 4)) ?_
  refine Rg.takek 12 (some 185) (.pointer (some ⟨bw, 0, none⟩)) hNS hHeld (Rg.y_nilk (x := .tmp 184)) ?_
  refine Rg.takek 13 (some 186) (.pointer (some ⟨bw, 2, none⟩)) hNS hHeld (Rg.y_fieldk (T := 52) (k := 2) (x := .tmp 185) (vx := (.pointer (some ⟨bw, 0, none⟩))) ?_) ?_
  · (intro w hSw; clear hSw; go_simp)
  refine Rg.takek 14 (some 187) (.int .i64 (X : Int)) hNS hHeld (Rg.y_loadk (T := 3) (x := .tmp 186) (vx := (.pointer (some ⟨bw, 2, none⟩))) ?_) ?_
  · (intro w hSw; obtain ⟨s0, s1⟩ := hSw; go_simp)
  refine Rg.callk (fn := Tryz.f22) (xs := #[.tmp 182]) (ats := #[23]) 10 (some 183) 22 #[(.pointer (some ⟨b, 0, none⟩))] Tryz.func22 ?_
  refine (hB _ h5).mono ?_
  rintro e w6 ⟨rfl, h6⟩
  refine ⟨_, rfl, hBS _ h6, fun hHeld => ?_⟩
  refine Rg.takek 15 (some 188) (.bool false) hNS hHeld (Rg.y_bink (b := BinOp.neq) (T := 3) (R' := 3) (x := .tmp 183) (y := .tmp 187) (vx := (.int .i64 (X : Int))) (vy := (.int .i64 (X : Int))) ?_) ?_
  · (intro w hSw; clear hSw; go_simp)
  refine Rg.takek 16 (some 189) (.bool false) hNS hHeld (Rg.y_pickk (c := .tmp 181) (x := (.const (Value.bool true))) (y := .tmp 188) (b := false)) ?_
  refine Rg.takek 17 (some 190) (.bool false) hNS hHeld (Rg.y_movekL (x := .tmp 189)) ?_
  refine Rg.takek 18 (some 191) (.pointer (some ⟨t, 0, none⟩)) hNS hHeld (Rg.y_movekL (x := .tmp 5)) ?_
  refine Rg.takek 19 (some 192) (.pointer (some ⟨u, 0, none⟩)) hNS hHeld (Rg.y_movekL (x := .tmp 9)) ?_
  refine Rg.takek 20 (some 193) (.pointer (some ⟨v, 0, none⟩)) hNS hHeld (Rg.y_movekL (x := .tmp 7)) ?_
  refine Rg.takek 21 (some 194) (vO) hNS hHeld (Rg.y_movekL (x := .tmp 10)) ?_
  refine Rg.callk (fn := Tryz.f21) (xs := #[.tmp 191, .tmp 192, .tmp 193, .tmp 194, .const (Value.string { data := #[] })]) (ats := #[28, 35, 32, 37, 9]) 22 (some 195) 21 #[(.pointer (some ⟨t, 0, none⟩)), (.pointer (some ⟨u, 0, none⟩)), (.pointer (some ⟨v, 0, none⟩)), vO, (Value.string { data := #[] })] Tryz.func21 ?_
  refine (hC _ h6).mono ?_
  rintro e w7 ⟨rfl, h7⟩
  refine ⟨_, rfl, hCS _ h7, fun hHeld => ?_⟩
  refine Rg.takek 23 (some 196) (.bool false) hNS hHeld (Rg.y_unk (b := UnOp.not) (T := 4) (x := .tmp 195) (vx := (.bool true)) ?_) ?_
  · (intro w hSw; clear hSw; go_simp)
  refine Rg.takek 24 (some 197) (.bool false) hNS hHeld (Rg.y_pickk (c := .tmp 190) (x := (.const (Value.bool true))) (y := .tmp 196) (b := false)) ?_
  refine Rg.donek ?_
  exact ⟨by kernel_rfl, h7⟩
end Go.Proofs.YtjdfffkkpbabpaaGreat.Tb
