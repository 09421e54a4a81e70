/- Texts of this seat, one behind the other. -/
import Derived.Test.YtcbnpdognadilaaGreatQ2
import Derived.WalkKit
import Derived.Deep.QuietTactic
import Derived.BigQuiet
import Derived.Maps.AppendAt
/- What the document's own Turn answers: contract. -/
namespace Go.Proofs.YtcbnpdognadilaaGreat.Fr
open Go.RowKit Wm Wr Fm
set_option linter.unusedVariables false

/-- A byte with bit i turned. -/
def flip (c i : Nat) : Nat := c ^^^ 2 ^ i
/-- s with the bit number B turned (B below 8 times the size). -/
def trn (s : ByteArray) (B : Nat) : ByteArray := s.extract 0 (B / 8) ++ b1 (UInt8.ofNat (flip (s.data.toList.getD (B / 8) 0).toNat (B % 8))) ++ s.extract (B / 8 + 1) s.size
/-- Turn. -/
def tn (s : ByteArray) (bit : Int) : ByteArray := if s.size = 0 then ⟨#[]⟩ else trn s (bit % (8 * s.size : Nat)).toNat

theorem rem_pos {b : Int} {n : Nat} (h : 0 ≤ b) : b.tmod (n : Int) = b % (n : Int) := Int.tmod_eq_emod_of_nonneg h
theorem rem_neg {b : Int} {n : Nat} (hn : 0 < n) (h : b < 0) : (b.tmod (n : Int) = 0 ∧ b % (n : Int) = 0) ∨ (b.tmod (n : Int) < 0 ∧ b.tmod (n : Int) + n = b % (n : Int)) := by
  have e : b.tmod (n : Int) = -((-b) % (n : Int)) := by
    have h1 : (-b).tmod (n : Int) = (-b) % (n : Int) := Int.tmod_eq_emod_of_nonneg (by omega)
    rw [Int.neg_tmod] at h1
    omega
  rw [e]
  have h1 := Int.emod_nonneg (-b) (show (n : Int) ≠ 0 by omega)
  have h2 := Int.emod_lt_of_pos (-b) (show 0 < (n : Int) by omega)
  by_cases h0 : (-b) % (n : Int) = 0
  · left
    rw [h0]
    refine ⟨rfl, ?_⟩
    have : (n : Int) ∣ b := (Int.dvd_neg).1 (Int.dvd_of_emod_eq_zero h0)
    exact Int.emod_eq_zero_of_dvd this
  · right
    refine ⟨by omega, ?_⟩
    have h3 := Int.mul_ediv_add_emod (-b) (n : Int)
    obtain ⟨q, hq⟩ : ∃ q, q = -b / (n : Int) := ⟨_, rfl⟩
    obtain ⟨m, hm⟩ : ∃ m, m = -b % (n : Int) := ⟨_, rfl⟩
    rw [← hq, ← hm] at h3
    rw [← hm] at h1 h2 h0 ⊢
    have hx : (n : Int) * (-q - 1) = -((n : Int) * q) - n := by rw [Int.mul_sub, Int.mul_neg, Int.mul_one]
    have e2 : b = (n - m) + n * (-q - 1) := by omega
    have e3 : b % (n : Int) = n - m := by
      rw [e2, Int.add_mul_emod_self_left]
      exact Int.emod_eq_of_lt (by omega) (by omega)
    omega

theorem xor_byte (c i : Nat) (hc : c < 256) (hi : i < 8) : (c / 2 ^ i % 2 = 1 → flip c i = c - 2 ^ i ∧ 2 ^ i ≤ c) ∧ (c / 2 ^ i % 2 = 0 → flip c i = c + 2 ^ i) ∧ flip c i < 256 := by
  have h := flip_all c hc i hi
  unfold flip
  refine ⟨fun h1 => ⟨by rw [← h.1, if_pos h1], ?_⟩, fun h1 => by rw [← h.1, if_neg (by omega)], h.2.1⟩
  rcases Nat.lt_or_ge c (2 ^ i) with hlt | hge
  · rw [Nat.div_eq_of_lt hlt] at h1
    omega
  · exact hge
theorem pow_small : ∀ i, i < 8 → 1 ≤ 2 ^ i ∧ 2 ^ i ≤ 128 := by decide

set_option maxRecDepth 100000 in
set_option maxHeartbeats 1000000 in
/-- Behind the reduction: a bit within the text. -/
theorem refTurn_any (s : ByteArray) (bit : Int) (w : World) (hs : s.size ≤ 1125899906842624) (h1 : -9223372036854775808 ≤ bit) (h2 : bit ≤ 9223372036854775807) :
    Calls Tryz.prog 77 #[.string s, .int .i64 bit] w fun e w' => e = .returned (.string (tn s bit)) ∧ Below w.heap.size w w' := by
  by_cases h0 : s.size = 0
  · rw [tn, if_pos h0]
    have e0 : ((s.size : Int) == 0) = true := by simp [h0]
    clear h0
    go_enter Tryz.func77, Tryz.ntmps77
    go_wp2
    go_ret
    exact ⟨rfl, Below.refl _ _⟩
  · have e0 : ((s.size : Int) == 0) = false := beq_eq_false_iff_ne.2 (by omega)
    rw [tn, if_neg h0]
    obtain ⟨B, hB, hBl⟩ : ∃ B : Nat, (B : Int) = bit % (8 * s.size : Nat) ∧ B < 8 * s.size := by
      have h3 := Int.emod_nonneg bit (show ((8 * s.size : Nat) : Int) ≠ 0 by omega)
      have h4 := Int.emod_lt_of_pos bit (show (0 : Int) < ((8 * s.size : Nat) : Int) by omega)
      obtain ⟨M, hM⟩ : ∃ M, M = bit % ((8 * s.size : Nat) : Int) := ⟨_, rfl⟩
      rw [← hM] at h3 h4 ⊢
      exact ⟨M.toNat, Int.toNat_of_nonneg h3, by omega⟩
    rw [← hB, Int.toNat_natCast]
    have hcast : ((8 * s.size : Nat) : Int) = 8 * (s.size : Int) := by omega
    have hcases : (bit.tmod (8 * (s.size : Int)) = B) ∨ (bit.tmod (8 * (s.size : Int)) < 0 ∧ bit.tmod (8 * (s.size : Int)) + 8 * (s.size : Int) = B) := by
      rw [← hcast, hB]
      by_cases hn : 0 ≤ bit
      · left; exact rem_pos hn
      · rcases rem_neg (n := 8 * s.size) (by omega) (show bit < 0 by omega) with ⟨h3, h4⟩ | h3
        · left; rw [h3, h4]
        · right; exact h3
    clear hB hcast h0
    obtain ⟨R, hR⟩ : ∃ R, R = bit.tmod (8 * (s.size : Int)) := ⟨_, rfl⟩
    rw [← hR] at hcases
    have hR' : bit.tmod (8 * (s.size : Int)) = R := hR.symm
    clear hR
    have hsz : 1 ≤ (s.size : Int) := by omega
    rcases hcases with rfl | ⟨hneg, hsum⟩
    all_goals
      go_enter Tryz.func77, Tryz.ntmps77
      go_wp2
      go_loop [6, 7] (fun x i => ∃ k : Nat, k ≤ B % 8 ∧ i = .int .i64 k ∧ x = .int .i64 (2 ^ k : Nat)) (fun _ i => B % 8 - (intOf i).toNat)
      case atStart => exact ⟨0, Nat.zero_le _, rfl, rfl⟩
      case round =>
        obtain ⟨k, hk, rfl, rfl⟩ := hrel
        have hk8 : k < 8 := by omega
        have hp := pow_small k hk8
        by_cases hlt : k < B % 8
        · have hlt' : (k : Int) < (B : Int) % 8 := by omega
          have hpe : 2 ^ (k + 1) = 2 ^ k * 2 := Nat.pow_succ 2 k
          obtain ⟨W, hW⟩ : ∃ W, W = 2 ^ k := ⟨_, rfl⟩
          rw [← hW] at hp hpe ⊢
          obtain ⟨hp1, hp2⟩ := hp
          have HP := Lib.hid hpe
          clear hpe hW hlt
          go_wp2
          go_round
          case rel => exact ⟨k + 1, by omega, by go_num, by rw [HP.out]; go_num⟩
          case measure => simp [intOf]; omega
        · have hlt' : (B : Int) % 8 ≤ (k : Int) := by omega
          have hk' : k = B % 8 := by omega
          obtain ⟨hp1, hp2⟩ := hp
          obtain ⟨W, hW⟩ : ∃ W, W = 2 ^ k := ⟨_, rfl⟩
          rw [← hW] at hp1 hp2 ⊢
          have hdiv : (B : Int) / 8 < s.size := by omega
          have hdiv2 : B / 8 < s.size := by omega
          have hc := s[B / 8].toNat_lt
          obtain ⟨Q, hQ⟩ : ∃ Q, Q = s[B / 8].toNat / W := ⟨_, rfl⟩
          have hq : (s[B / 8].toNat : Int) / (W : Int) = (Q : Int) := by rw [hQ]; simp
          have hQl : Q ≤ 255 := by have := Nat.div_le_self s[B / 8].toNat W; omega
          have hX := xor_byte s[B / 8].toNat (B % 8) hc (by omega)
          have hWB : W = 2 ^ (B % 8) := by rw [hW, hk']
          rw [← hWB] at hX
          have hres : trn s B = s.extract 0 (B / 8) ++ b1 (UInt8.ofNat (flip s[B / 8].toNat (B % 8))) ++ s.extract (B / 8 + 1) s.size := by rw [trn, gd s (B / 8) hdiv2]
          obtain ⟨V, hV⟩ : ∃ V, V = flip s[B / 8].toNat (B % 8) := ⟨_, rfl⟩
          rw [← hV] at hX hres
          have hcv := fun W g h => conv_one (UInt8.ofNat V) W g h
          have hVl : V < 256 := hX.2.2
          have ebv : bv (UInt8.ofNat V) = .int .u8 (V : Int) := by rw [bv]; congr 1; simp; omega
          rw [ebv] at hcv
          have hs1 := b1_le (UInt8.ofNat V)
          obtain ⟨Y, hY⟩ : ∃ Y, Y = b1 (UInt8.ofNat V) := ⟨_, rfl⟩
          rw [← hY] at hcv hs1 hres
          have HRES := Lib.hid hres
          have g1 : (B : Int).tdiv 8 = (B : Int) / 8 := Int.tdiv_eq_ediv_of_nonneg (by omega)
          have g2 : IntKind.i64.wrap ((B : Int) / 8) = (B : Int) / 8 := IntWalk.i64_in _ (by omega)
          have g3 : IntKind.i64.wrap ((B : Int) / 8 + 1) = (B : Int) / 8 + 1 := IntWalk.i64_in _ (by omega)
          have g4 : IntKind.u8.wrap (V : Int) = (V : Int) := by rw [IntKind.wrap_u8]; omega
          have g5 : ((B : Int) / 8).toNat = B / 8 := by omega
          have g6 : ((B : Int) / 8 + 1).toNat = B / 8 + 1 := by omega
          have g7 : (B : Int) / 8 + 1 ≤ s.size := by omega
          have HG := Lib.hid (And.intro g2 (And.intro g3 (And.intro g4 (And.intro g5 g6))))
          clear hres ebv hY g2 g3 g4 g5 g6 hW hk' hWB hlt
          by_cases hodd : Q % 2 = 1
          · have t1 : ((Q : Int) % 2 == 1) = true := by simp; omega
            obtain ⟨e1, e2⟩ := hX.1 (by rw [← hQ]; exact hodd)
            have hsub : (W : Int) ≤ (s[B / 8].toNat : Int) := by omega
            have e3 : (s[B / 8].toNat : Int) - (W : Int) = (V : Int) := by omega
            clear e1 hodd hX hV hQ
            go_wp2
            obtain ⟨g2, g3, g4, g5, g6⟩ := HG.out
            go_region
            all_goals
              go_wp2
              go_ret
              exact ⟨by rw [HRES.out]; rfl, ((Below.refl _ _).alloc (Nat.le_refl _) _).drew⟩
          · have t1 : ((Q : Int) % 2 == 1) = false := by simp; omega
            have e1 := hX.2.1 (by rw [← hQ]; omega)
            have e3 : (s[B / 8].toNat : Int) + (W : Int) = (V : Int) := by omega
            clear e1 hodd hX hV hQ
            go_wp2
            obtain ⟨g2, g3, g4, g5, g6⟩ := HG.out
            go_region
            all_goals
              go_wp2
              go_ret
              exact ⟨by rw [HRES.out]; rfl, ((Below.refl _ _).alloc (Nat.le_refl _) _).drew⟩

theorem b1_list (b : UInt8) : (b1 b).data.toList = [b] := rfl
/-- What a turned bit makes of the list. -/
theorem trn_list (s : ByteArray) (B : Nat) (h : B / 8 < s.size) : (trn s B).data.toList = s.data.toList.set (B / 8) (UInt8.ofNat (flip (s.data.toList.getD (B / 8) 0).toNat (B % 8))) := by
  have hl : B / 8 < s.data.toList.length := by rw [len_l]; exact h
  rw [trn, ByteArray.data_append, ByteArray.data_append, Array.toList_append, Array.toList_append, b1_list, ByteArray.data_extract, ByteArray.data_extract, Array.toList_extract, Array.toList_extract]
  rw [List.set_eq_take_append_cons_drop, if_pos hl]
  simp only [List.extract_eq_take_drop, List.drop_zero, Nat.sub_zero, List.append_assoc, List.singleton_append]
  congr 2
  exact List.take_of_length_le (by rw [List.length_drop, len_l]; exact Nat.le_refl _)

end Go.Proofs.YtcbnpdognadilaaGreat.Fr

/- The document's own Rot: contract. -/
namespace Go.Proofs.YtcbnpdognadilaaGreat.Dk
open Go.RowKit Tx Pm
set_option linter.unusedVariables false

def rotS (s : St) (p : ByteArray) (bit : Int) : Nat × St :=
  if there s p ≠ 0 then (there s p, s) else (0, putS s { old s.L p with data := Fr.tn (old s.L p).data bit, kept := Fr.tn (old s.L p).kept bit })

theorem rot_chg {w w4 w7 : World} {b bx : Nat} {u1 u2 : Value} (hb : Below w.heap.size w w4) (hge : w.heap.size ≤ bx) (h7 : Chg (· = b) ((w4.setCell ⟨bx, 2, none⟩ u1).setCell ⟨bx, 3, none⟩ u2) w7) :
    Chg (fun i => i = b ∨ w.heap.size ≤ i) w w7 := by
  have hs : ∀ (W : World) (k : Nat) (u : Value), Chg (fun i => i = b ∨ w.heap.size ≤ i) W (W.setCell ⟨bx, k, none⟩ u) := fun W k u => (chg_set u).mono (fun i hi => .inr (by rw [hi]; exact hge))
  exact (((Chg.of_below hb).then (hs _ _ _)).then (hs _ _ _)).then (h7.mono (fun i hi => .inl hi))

set_option maxRecDepth 100000 in
set_option maxHeartbeats 4000000 in
theorem rRot_any (b : Nat) (s : St) (vL vR : Value) (p : ByteArray) (bit : Int) (w : World) (h : At w b s vL vR) (ok : Ok s) (hp : p.size ≤ 8000000000000) (hbit : -9223372036854775808 ≤ bit ∧ bit ≤ 9223372036854775807)
    (hd : ∀ x ∈ s.L, x.data.size ≤ 1125899906842624 ∧ x.kept.size ≤ 1125899906842624) :
    Calls Tryz.prog 34 #[.pointer (some ⟨b, 0, none⟩), .string p, .int .i64 bit] w (To w b vL vR (rotS s p bit)) := by
  have c1 := rThere_any b s vL vR p w h ok.fit hp
  have HSM := Lib.hid (fun (e : Ending) (w' : World) (k : Nat) (he : e = .returned (.int .i64 (k : Nat))) (hb : Below w.heap.size w w') => to_same (vL := vL) (vR := vR) h he hb)
  unfold rotS
  by_cases h1 : there s p = 0
  · obtain ⟨k, x, hk, hx, hf, hpl, hxx⟩ := there_file h1
    clear hxx
    have ho : old s.L p = x := by rw [old, hf]; rfl
    have hn := ok.fit.1
    have hxd := hd x (List.mem_of_getElem? hx)
    rw [h1] at c1 ⊢
    rw [if_neg (by decide), ho]
    have hst : s.stamps ≤ 1000000000000 := ok.stamps
    have c2 := fun W (hW : At W b s vL vR) => rPlace_any b s vL vR p W hW (by omega)
    have c6 := fun W (hW : At W b s vL vR) => rStamped_any b s vL vR { x with data := Fr.tn x.data bit, kept := Fr.tn x.kept bit } W hW hst
    have c5 := fun W (hW : At W b { s with stamps := s.stamps + 1 } vL vR) => rPut_any b { s with stamps := s.stamps + 1 } vL vR (stamped s { x with data := Fr.tn x.data bit, kept := Fr.tn x.kept bit }) W hW hn
    rw [hpl] at c2
    obtain ⟨A, c, rfl, _, _, _⟩ := h.rowL.form
    obtain ⟨gA, hgA, _⟩ := (h.seen (Below.refl _ _)).it k x hx
    subst hgA
    have hsh : Shows b s gA s.L.length c k vR x := shows hx
    obtain ⟨XP, XD, XX, XK, XLO, XA, XS⟩ := x
    unfold stamped iv at c5 c6
    simp only at c5 c6 hxd ⊢
    unfold putS stamped
    simp only
    obtain ⟨n, hnn⟩ : ∃ n, n = s.L.length := ⟨_, rfl⟩
    rw [← hnn] at c2 c5 hsh HSM hk hn c6 ⊢
    have HSH := Lib.hid hsh
    clear h1 hx hf hpl ho hsh hst
    have ct1 := fun W => Fr.refTurn_any XX bit W hxd.1 hbit.1 hbit.2
    have ct2 := fun W => Fr.refTurn_any XK bit W hxd.2 hbit.1 hbit.2
    obtain ⟨TX, hTX⟩ : ∃ TX, TX = Fr.tn XX bit := ⟨_, rfl⟩
    obtain ⟨TK, hTK⟩ : ∃ TK, TK = Fr.tn XK bit := ⟨_, rfl⟩
    rw [← hTX] at ct1 c5 c6 ⊢
    rw [← hTK] at ct2 c5 c6 ⊢
    rw [hnn] at c2 hk
    have HH := Lib.hid h
    have HF := Lib.hid h.lt
    have hnb : n ≤ 1000000000 := hn
    clear h ok hd hxd hTX hTK
    go_enter Tryz.func34, Tryz.ntmps34
    go_wp2_with fail
    go_at_call 62
    refine c1.mono ?_
    rintro e w1 ⟨rfl, hb1⟩
    go_wp2_with fail
    rw [hnn] at HSH
    refine Rg.wp_only ?_ (getRot _ (by kernel_rfl) _ b s gA s.L.length c k vR p XP XX XK XD XLO XA XS _ (HH.out.below hb1) HSH.out hk (by rw [← hnn]; omega) c2)
    rintro _ w9 ⟨rfl, rfl⟩
    have hB : Below w.heap.size w (w1.alloc (.cells #[.string XP, .bool XD, .string XX, .string XK, .bool XLO, .bool XA, .int .i64 XS] 37)).drew := (hb1.trans (((Below.refl _ _).alloc (Nat.le_refl _) _).mono hb1.size)).drew
    have hbox : Box (w1.alloc (.cells #[.string XP, .bool XD, .string XX, .string XK, .bool XLO, .bool XA, .int .i64 XS] 37)).drew w1.heap.size ⟨XP, XD, XX, XK, XLO, XA, XS⟩ := ⟨heap_alloc_new _ _⟩
    obtain ⟨wB, hwB⟩ : ∃ wB, wB = (w1.alloc (.cells #[.string XP, .bool XD, .string XX, .string XK, .bool XLO, .bool XA, .int .i64 XS] 37)).drew := ⟨_, rfl⟩
    have hszB : w1.heap.size < wB.heap.size := by rw [hwB]; simp
    rw [← hwB] at hB hbox
    have hwB2 : w1.drew.alloc (.cells #[.string XP, .bool XD, .string XX, .string XK, .bool XLO, .bool XA, .int .i64 XS] 37) = wB := hwB.symm
    rw [hwB2]
    clear hwB hwB2
    obtain ⟨bx, hbx⟩ : ∃ bx, bx = w1.heap.size := ⟨_, rfl⟩
    have hnf : ¬ Foot b (.slice (some ⟨gA, 0, none⟩) s.L.length c) vR bx := fun hh => by have := HF.out _ hh; have := hb1.size; omega
    have hge : w.heap.size ≤ bx := by have := hb1.size; omega
    rw [← hbx] at hbox hszB
    rw [show w1.drew.heap.size = bx from hbx.symm]
    have HNF := Lib.hid hnf
    have HGE := Lib.hid hge
    have HBX := Lib.hid hbox
    rw [hnn] at c5 c6 HSM ⊢
    clear hnf hge hbx hb1 hnn hn
    clear hbox
    go_wp2_with fail
    refine Rg.wp_only ?_ (turnRot _ (by kernel_rfl) _ bx ⟨XP, XD, XX, XK, XLO, XA, XS⟩ XX XK TX TK bit _ HBX.out rfl rfl ct1 ct2)
    rintro _ w9 ⟨rfl, w4, hb4, rfl⟩
    have hbox4 := HBX.out.below hb4
    obtain ⟨m0, m1, m2, m3, m4, m5, m6⟩ := hbox4.cell
    simp only at m0 m1 m2 m3 m4 m5 m6
    have hw4 := hbox4.warm
    have hB4 := below_call hB hb4
    have hat4 := ((HH.out.below hB4).set HNF.out (.string TX) (k := 2)).set HNF.out (.string TK) (k := 3)
    have HAT := Lib.hid hat4
    have HB4 := Lib.hid hB4
    clear hat4 hB4 hbox4 hb4 hB
    go_wp2_with (go_at_call 59; refine (c6 _ HAT.out).mono ?_; rintro e w7 ⟨rfl, hat7, hc7⟩)
    go_at_call 56
    refine (c5 _ hat7).mono ?_
    rintro e w8 ⟨⟨v8, rfl⟩, vL8, hat8, hn8, hc8⟩
    go_wp2_with fail
    go_ret
    refine to_put2 (w1 := w7) ?_ rfl hat8 hn8 hc8
    exact rot_chg HB4.out HGE.out hc7
  · rw [if_pos h1]
    obtain ⟨E, hE⟩ : ∃ E, E = there s p := ⟨_, rfl⟩
    rw [← hE] at c1 h1 ⊢
    have e1 : ((E : Int) == 0) = false := beq_eq_false_iff_ne.2 (by omega)
    clear hE h ok hd
    go_enter Tryz.func34, Tryz.ntmps34
    go_wp2_with (go_at_call 62; refine c1.mono ?_; rintro e w1 ⟨rfl, hb1⟩)
    go_ret
    exact HSM.out _ _ _ rfl hb1

end Go.Proofs.YtcbnpdognadilaaGreat.Dk

/- The document's own Mix: contract. -/
namespace Go.Proofs.YtcbnpdognadilaaGreat.Dk
open Go.RowKit Tx Pm
set_option linter.unusedVariables false

def m64 : Nat := 18446744073709551616
def mixA (a n : Nat) : Nat := (a + n * 11400714819323198485) % 18446744073709551616
def mixB (x : Nat) : Nat := ((x ^^^ x / 1073741824) * 13787848793156543929) % 18446744073709551616
def mixC (x : Nat) : Nat := ((x ^^^ x / 134217728) * 10723151780598845931) % 18446744073709551616
def mix (a n : Nat) : Nat := mixC (mixB (mixA a n)) ^^^ mixC (mixB (mixA a n)) / 2147483648
theorem mixA_lt (a n : Nat) : mixA a n < 18446744073709551616 := Nat.mod_lt _ (by decide)
theorem mixB_lt (x : Nat) : mixB x < 18446744073709551616 := Nat.mod_lt _ (by decide)
theorem mixC_lt (x : Nat) : mixC x < 18446744073709551616 := Nat.mod_lt _ (by decide)
theorem mix_lt (a n : Nat) : mix a n < 18446744073709551616 := Nat.xor_lt_two_pow (n := 64) (mixC_lt _) (Nat.lt_of_le_of_lt (Nat.div_le_self _ _) (mixC_lt _))
theorem wrap_nat (x : Nat) : IntKind.u64.wrap (x : Int) = ((x % 18446744073709551616 : Nat) : Int) := by
  rw [IntKind.wrap_u64]
  omega
theorem xor_div (x d : Nat) (h : x < 18446744073709551616) : bits .xor .u64 (x : Int) ((x / d : Nat) : Int) = ((x ^^^ x / d : Nat) : Int) :=
  u64_xor_nat x (x / d) h (Nat.lt_of_le_of_lt (Nat.div_le_self _ _) h)

theorem quo_nat (x d : Nat) (h : x < 18446744073709551616) : IntKind.u64.wrap ((x : Int).tdiv (d : Int)) = ((x / d : Nat) : Int) := by
  rw [← Int.ofNat_tdiv, wrap_nat, Nat.mod_eq_of_lt (Nat.lt_of_le_of_lt (Nat.div_le_self _ _) h)]
theorem mul_nat (x k : Nat) : IntKind.u64.wrap ((x : Int) * (k : Int)) = ((x * k % 18446744073709551616 : Nat) : Int) := by
  rw [← Int.natCast_mul, wrap_nat]

set_option maxRecDepth 100000 in
set_option maxHeartbeats 1000000 in
theorem rMix_any (a n : Nat) (w : World) (ha : a < 18446744073709551616) (hn : n < 18446744073709551616) :
    Calls Tryz.prog 75 #[.int .u64 (a : Int), .int .u64 (n : Int)] w fun e w' => e = .returned (.int .u64 (mix a n : Nat)) ∧ w = w' := by
  go_enter Tryz.func75, Tryz.ntmps75
  go_wp2
  go_ret
  refine ⟨?_, rfl⟩
  have hA : IntKind.u64.wrap ((a : Int) + IntKind.u64.wrap ((n : Int) * 11400714819323198485)) = ((mixA a n : Nat) : Int) := by
    rw [IntKind.wrap_u64, IntKind.wrap_u64]
    unfold mixA
    omega
  have q1 := quo_nat (mixA a n) 1073741824 (mixA_lt a n)
  have x1 := xor_div (mixA a n) 1073741824 (mixA_lt a n)
  have k1 := mul_nat (mixA a n ^^^ mixA a n / 1073741824) 13787848793156543929
  have q2 := quo_nat (mixB (mixA a n)) 134217728 (mixB_lt _)
  have x2 := xor_div (mixB (mixA a n)) 134217728 (mixB_lt _)
  have k2 := mul_nat (mixB (mixA a n) ^^^ mixB (mixA a n) / 134217728) 10723151780598845931
  have q3 := quo_nat (mixC (mixB (mixA a n))) 2147483648 (mixC_lt _)
  have x3 := xor_div (mixC (mixB (mixA a n))) 2147483648 (mixC_lt _)
  rw [show ((mixA a n ^^^ mixA a n / 1073741824) * 13787848793156543929 % 18446744073709551616) = mixB (mixA a n) from rfl] at k1
  rw [show ((mixB (mixA a n) ^^^ mixB (mixA a n) / 134217728) * 10723151780598845931 % 18446744073709551616) = mixC (mixB (mixA a n)) from rfl] at k2
  show Ending.returned (Value.int .u64 _) = _
  rw [hA]
  rw [show ((1073741824 : Nat) : Int) = 1073741824 from rfl] at q1
  rw [show ((134217728 : Nat) : Int) = 134217728 from rfl] at q2
  rw [show ((2147483648 : Nat) : Int) = 2147483648 from rfl] at q3
  rw [show ((13787848793156543929 : Nat) : Int) = 13787848793156543929 from rfl] at k1
  rw [show ((10723151780598845931 : Nat) : Int) = 10723151780598845931 from rfl] at k2
  rw [q1, x1, k1, q2, x2, k2, q3, x3]
  rfl
end Go.Proofs.YtcbnpdognadilaaGreat.Dk

/- The document's own New: contract; what Restart makes of the items, as mathematics. -/
namespace Go.Proofs.YtcbnpdognadilaaGreat.Dk
open Go.RowKit Tx Pm
set_option linter.unusedVariables false

/-- A new disk. -/
def newS : St := ⟨[], [], 0, 0, -1, false⟩
set_option maxRecDepth 100000 in
set_option maxHeartbeats 1000000 in
theorem rNew_any (w : World) :
    Calls Tryz.prog 7 #[] w fun e w' => ∃ b, e = .returned (.pointer (some ⟨b, 0, none⟩)) ∧ w.heap.size ≤ b ∧ At w' b newS (.slice none 0 0) (.slice none 0 0) ∧ Below w.heap.size w w' := by
  go_enter Tryz.func7, Tryz.ntmps7
  go_wp2_with fail
  go_ret
  exact ⟨w.heap.size, rfl, Nat.le_refl _, ⟨heap_alloc_new _ _, World.ownsRow_nil _ _ _ _, World.ownsRow_nil _ _ _ _⟩, (Below.refl _ _).alloc (Nat.le_refl _) _⟩

/-- What a restart keeps of a loose item, by the number that it draws. -/
def lose (pick : Nat) (x : It) : It :=
  let k1 := if x.anew then (let k := pick % (x.data.size + 2); if k = 0 then x.kept else x.data.extract 0 (k - 1)) else (let k := pick % (x.data.size - x.kept.size + 1); x.data.extract 0 (x.kept.size + k))
  { x with data := k1, kept := k1, loose := false, anew := false }
def restartL (loss : Nat) : List It → Nat → Nat → List It × Nat
  | [], _, st => ([], st)
  | x :: l, n, st => if x.loose then (let r := restartL loss l (n + 1) (st + 1); ({ lose (mix loss (n + 1)) x with stamp := st + 1 } :: r.1, r.2)) else (let r := restartL loss l n st; (x :: r.1, r.2))
/-- A number of 64 bits without sign, of an int. -/
def u64 (i : Int) : Nat := (IntKind.u64.wrap i).toNat
def restartS (s : St) (loss : Int) : St := let r := restartL (u64 loss) s.L 0 s.stamps; { s with L := r.1, stamps := r.2, down := false, armed := -1 }

/-- The paths rise. -/
def Rises (l : List It) : Prop := l.Pairwise (fun x y => Op.bytesLess x.path.toList y.path.toList = true)
end Go.Proofs.YtcbnpdognadilaaGreat.Dk

/- The document's own Restart: contract. -/
namespace Go.Proofs.YtcbnpdognadilaaGreat.Dk
open Go.RowKit Tx Pm
set_option linter.unusedVariables false

theorem less_irrefl (l : List UInt8) : Op.bytesLess l l = false := by
  induction l with
  | nil => rfl
  | cons c r ih => simp [Op.bytesLess, ih]
theorem ins_same {a c : List It} {x x' : It} (hr : Rises (a ++ x :: c)) (hp : x'.path = x.path) : ins (a ++ x :: c) x' = a ++ x' :: c := by
  have hx : (a ++ x :: c)[a.length]? = some x := by simp
  rw [ins_at (k := a.length) (by simp) ?_ ?_, hx]
  · simp [hp]
  · intro y hy
    rw [List.take_left] at hy
    rw [hp]
    exact (List.pairwise_append.1 hr).2.2 y hy x (by simp)
  · intro y hy
    rw [hx] at hy
    injection hy with hy
    rw [← hy, hp]
    exact less_irrefl _
theorem rises_paths {a b : List It} (h : a.map (·.path) = b.map (·.path)) (hr : Rises a) : Rises b := by
  unfold Rises at *
  have h1 : (a.map (·.path)).Pairwise (fun x y => Op.bytesLess x.toList y.toList = true) := List.pairwise_map.2 hr
  rw [h] at h1
  exact List.pairwise_map.1 h1
/-- What a restart asks of the items. -/
structure Sound (s : St) : Prop where
  rises : Rises s.L
  kept : ∀ x ∈ s.L, x.anew = false → x.kept.size ≤ x.data.size
  size : ∀ x ∈ s.L, x.data.size ≤ 140737488355328 ∧ x.kept.size ≤ 140737488355328
  stamps : s.stamps + s.L.length ≤ 1000000000000
/-- Where the loop stands: k items are through; pre is what they have become, n of them were loose. -/
structure Through (s : St) (loss k n : Nat) (pre : List It) (st : Nat) : Prop where
  le : k ≤ s.L.length
  len : pre.length = k
  paths : pre.map (·.path) = (s.L.take k).map (·.path)
  rest : restartL loss s.L 0 s.stamps = (pre ++ (restartL loss (s.L.drop k) n st).1, (restartL loss (s.L.drop k) n st).2)
  num : n ≤ k
  stamp : st ≤ s.stamps + k
theorem through_zero (s : St) (loss : Nat) : Through s loss 0 0 [] s.stamps :=
  ⟨Nat.zero_le _, rfl, rfl, by rw [List.drop_zero, List.nil_append], Nat.le_refl _, Nat.le_refl _⟩
theorem through_calm {s : St} {loss k n st : Nat} {pre : List It} {x : It} (h : Through s loss k n pre st) (hx : s.L[k]? = some x) (hl : x.loose = false) : Through s loss (k + 1) n (pre ++ [x]) st := by
  obtain ⟨hk, he⟩ := List.getElem?_eq_some_iff.1 hx
  refine ⟨hk, by rw [List.length_append, h.len]; rfl, by rw [take_more hx, List.map_append, List.map_append, h.paths], ?_, by have := h.num; omega, by have := h.stamp; omega⟩
  rw [h.rest, List.drop_eq_getElem_cons hk, he, restartL, if_neg (by rw [hl]; decide), List.append_assoc]
  rfl
theorem through_loose {s : St} {loss k n st : Nat} {pre : List It} {x : It} (h : Through s loss k n pre st) (hx : s.L[k]? = some x) (hl : x.loose = true) :
    Through s loss (k + 1) (n + 1) (pre ++ [{ lose (mix loss (n + 1)) x with stamp := st + 1 }]) (st + 1) := by
  obtain ⟨hk, he⟩ := List.getElem?_eq_some_iff.1 hx
  refine ⟨hk, by rw [List.length_append, h.len]; rfl, by rw [take_more hx, List.map_append, List.map_append, h.paths]; rfl, ?_, by have := h.num; omega, by have := h.stamp; omega⟩
  rw [h.rest, List.drop_eq_getElem_cons hk, he, restartL, if_pos hl, List.append_assoc]
  rfl
theorem through_end {s : St} {loss n st : Nat} {pre : List It} (h : Through s loss s.L.length n pre st) : restartL loss s.L 0 s.stamps = (pre, st) := by
  rw [h.rest, List.drop_of_length_le (Nat.le_refl _), restartL, List.append_nil]
/-- The list, where the loop stands. -/
def mid (s : St) (k : Nat) (pre : List It) (st : Nat) : St := { s with L := pre ++ s.L.drop k, stamps := st }
theorem mid_rises {s : St} {loss k n st : Nat} {pre : List It} (h : Through s loss k n pre st) (hr : Rises s.L) : Rises (mid s k pre st).L := by
  refine rises_paths ?_ hr
  show s.L.map (·.path) = (pre ++ s.L.drop k).map (·.path)
  rw [List.map_append, h.paths, ← List.map_append, List.take_append_drop]
theorem mid_at {s : St} {loss k n st : Nat} {pre : List It} {x : It} (h : Through s loss k n pre st) (hx : s.L[k]? = some x) : (mid s k pre st).L = pre ++ x :: s.L.drop (k + 1) ∧ (mid s k pre st).L[k]? = some x := by
  obtain ⟨hk, he⟩ := List.getElem?_eq_some_iff.1 hx
  have e : (mid s k pre st).L = pre ++ x :: s.L.drop (k + 1) := by
    show pre ++ s.L.drop k = _
    rw [List.drop_eq_getElem_cons hk, he]
  refine ⟨e, ?_⟩
  rw [e, ← h.len]
  simp
theorem mid_len {s : St} {loss k n st : Nat} {pre : List It} (h : Through s loss k n pre st) : (mid s k pre st).L.length = s.L.length := by
  show (pre ++ s.L.drop k).length = _
  have := h.le
  rw [List.length_append, List.length_drop, h.len]
  omega
theorem mid_calm {s : St} {loss k n st : Nat} {pre : List It} {x : It} (h : Through s loss k n pre st) (hx : s.L[k]? = some x) : mid s (k + 1) (pre ++ [x]) st = mid s k pre st := by
  have := (mid_at h hx).1
  unfold mid at *
  rw [List.append_assoc, List.singleton_append]
  simp only at this
  rw [← this]
theorem mid_put {s : St} {loss k n st : Nat} {pre : List It} {x x' : It} (h : Through s loss k n pre st) (hr : Rises s.L) (hx : s.L[k]? = some x) (hp : x'.path = x.path) :
    { mid s k pre st with L := ins (mid s k pre st).L x', stamps := st + 1 } = mid s (k + 1) (pre ++ [x']) (st + 1) := by
  have h1 := mid_rises h hr
  have h2 := (mid_at h hx).1
  have h3 : ins (mid s k pre st).L x' = pre ++ x' :: s.L.drop (k + 1) := by
    rw [h2] at h1 ⊢
    exact ins_same h1 hp
  rw [h3]
  unfold mid
  rw [List.append_assoc, List.singleton_append]

theorem mid_start (s : St) : mid s 0 [] s.stamps = s := rfl
theorem u64_lt (i : Int) : u64 i < 18446744073709551616 := by
  unfold u64
  rw [IntKind.wrap_u64]
  omega
theorem u64_eq (i : Int) : IntKind.u64.wrap i = ((u64 i : Nat) : Int) := by
  unfold u64
  rw [IntKind.wrap_u64]
  omega

set_option maxRecDepth 100000 in
set_option maxHeartbeats 4000000 in
theorem rRestart_any (b : Nat) (s : St) (vL vR : Value) (loss : Int) (w : World) (h : At w b s vL vR) (hs : Sound s) (hn : s.L.length ≤ 1000000000) (hl : -9223372036854775808 ≤ loss ∧ loss ≤ 9223372036854775807) :
    Calls Tryz.prog 32 #[.pointer (some ⟨b, 0, none⟩), .int .i64 loss] w (To w b vL vR (0, restartS s loss)) := by
  obtain ⟨len, hlen⟩ : ∃ len, len = s.L.length := ⟨_, rfl⟩
  have HLEN := Lib.hid hlen
  have HS := Lib.hid hs
  have HH := Lib.hid h
  have hbw := h.lt b (.inl rfl)
  have hU := u64_eq loss
  have hUl := u64_lt loss
  obtain ⟨U, hUU⟩ : ∃ U, U = u64 loss := ⟨_, rfl⟩
  rw [← hUU] at hU hUl
  have HU := Lib.hid hUU
  rw [← hlen] at hn
  clear h hs hlen hUU
  go_enter Tryz.func32, Tryz.ntmps32
  go_wp2_with fail
  go_loopw [5, 6] (fun nv iv wr => ∃ (k n st : Nat) (pre : List It) (vL' : Value), k ≤ len ∧ n ≤ k ∧ iv = .int .i64 k ∧ nv = .int .i64 n ∧ Hid (Through s U k n pre st) ∧ Hid (At wr b (mid s k pre st) vL' vR) ∧ Hid (Chg (fun i => i = b ∨ w.heap.size ≤ i) w wr) ∧ Hid (∀ g, vL'.ownBlock = some g → vL.ownBlock = some g ∨ w.heap.size ≤ g)) (fun _ i _ => len - (intOf i).toNat)
  case atStart => exact ⟨0, 0, s.stamps, [], vL, Nat.zero_le _, Nat.le_refl _, rfl, rfl, through_zero s U, HH.out, Chg.refl _ _, fun g hg => .inl hg⟩
  case round =>
    obtain ⟨k, n, st, pre, vL', hk, hnk, rfl, rfl, hT, hA, hC, hN⟩ := hrel
    obtain ⟨A, c, hvL, _, _, _⟩ := hA.out.rowL.form
    subst hvL
    have hml := mid_len hT.out
    have hseen := hA.out
    rw [hml, ← HLEN.out] at hseen
    have hst9 := hA.out.cell
    obtain ⟨e0, _⟩ := hseen.cell
    clear hst9 hml
    by_cases hlt : k < len
    · obtain ⟨x, hx⟩ : ∃ x, s.L[k]? = some x := ⟨_, List.getElem?_eq_getElem (by rw [← HLEN.out]; exact hlt)⟩
      have hmx := (mid_at hT.out hx).2
      have hsee2 := (hA.out.seen (Below.refl _ _)).it k x hmx
      obtain ⟨g2, hg2, d0, d1, d2, d3, d4, d5, d6⟩ := hsee2
      cases hg2
      have HX := Lib.hid hx
      obtain ⟨XP, XD, XX, XK, XLO, XA, XS⟩ := x
      simp only at d0 d1 d2 d3 d4 d5 d6
      clear hx hmx hseen
      cases XLO with
      | false =>
        have HT2 := Lib.hid (through_calm hT.out HX.out rfl)
        have hAt2 := hA.out
        rw [← mid_calm hT.out HX.out] at hAt2
        have HA2 := Lib.hid hAt2
        clear hAt2
        go_wp2_with fail
        go_roundw
        case rel => exact ⟨k + 1, n, st, _, _, by omega, by omega, by go_num, rfl, HT2.out, HA2.out.below ((Below.refl _ _).alloc (Nat.le_refl _) _), hC.out.then (Chg.of_below ((Below.refl _ _).alloc (Nat.le_refl _) _)), hN.out⟩
        case measure => simp [intOf]; omega
      | true =>
        have cm := fun W => rMix_any U (n + 1) W hUl (by omega)
        rw [show ((n + 1 : Nat) : Int) = (n : Int) + 1 by omega] at cm
        have HT2 := Lib.hid (through_loose hT.out HX.out rfl)
        have hPl := mix_lt U (n + 1)
        obtain ⟨PK, hPK⟩ : ∃ PK, PK = mix U (n + 1) := ⟨_, rfl⟩
        rw [← hPK] at cm hPl
        have HPK := Lib.hid hPK
        clear hPK
        have hsz := HS.out.size _ (List.mem_of_getElem? HX.out)
        simp only at hsz
        cases XA with
        | true =>
          obtain ⟨R, hR⟩ : ∃ R, R = PK % (XX.size + 2) := ⟨_, rfl⟩
          have hRl : R < XX.size + 2 := by rw [hR]; exact Nat.mod_lt _ (by omega)
          have hrem : (PK : Int) % ((XX.size : Int) + 2) = (R : Int) := by rw [hR]; push_cast; rfl
          rcases R with _ | K
          · have hlose : lose PK ⟨XP, XD, XX, XK, true, true, XS⟩ = ⟨XP, XD, XK, XK, false, false, XS⟩ := by
              unfold lose
              simp [← hR]
            rw [show ((0 : Nat) : Int) = 0 from rfl] at hrem
            clear hR
            go_wp2_with fail
            go_at_call 75
            refine (cm _).mono ?_
            rintro e w1 ⟨rfl, rfl⟩
            have c6 := fun W (hW : At W b (mid s k pre st) (.slice (some ⟨g2, 0, none⟩) (mid s k pre st).L.length c) vR) => rStamped_any b (mid s k pre st) (.slice (some ⟨g2, 0, none⟩) (mid s k pre st).L.length c) vR ⟨XP, XD, XK, XK, false, false, XS⟩ W hW (by show st ≤ _; have := hT.out.stamp; have := HS.out.stamps; have := HLEN.out; omega)
            have c5 := fun W (hW : At W b { mid s k pre st with stamps := st + 1 } (.slice (some ⟨g2, 0, none⟩) (mid s k pre st).L.length c) vR) => rPut_any b { mid s k pre st with stamps := st + 1 } (.slice (some ⟨g2, 0, none⟩) (mid s k pre st).L.length c) vR (stamped (mid s k pre st) ⟨XP, XD, XK, XK, false, false, XS⟩) W hW (by show (mid s k pre st).L.length ≤ _; rw [mid_len hT.out, ← HLEN.out]; omega)
            have hput := mid_put (x' := stamped (mid s k pre st) ⟨XP, XD, XK, XK, false, false, XS⟩) hT.out HS.out.rises HX.out rfl
            have hth : Through s U (k + 1) (n + 1) (pre ++ [stamped (mid s k pre st) ⟨XP, XD, XK, XK, false, false, XS⟩]) (st + 1) := by
              have h2 := HT2.out
              rw [← HPK.out, hlose] at h2
              exact h2
            have HPUT := Lib.hid hput
            have HTH := Lib.hid hth
            unfold stamped iv at c5
            unfold iv stamped at c6
            simp only at c5 c6
            rw [show (mid s k pre st).stamps = st from rfl] at c5 c6
            clear hput hth hlose
            go_wp2_with fail
            go_at_call 59
            refine (c6 _ (hA.out.below ((Below.refl _ _).alloc (Nat.le_refl _) _))).mono ?_
            rintro e w7 ⟨rfl, hat7, hc7⟩
            go_wp2_with fail
            go_at_call 56
            refine (c5 _ hat7).mono ?_
            rintro e w8 ⟨⟨v8, rfl⟩, vL8, hat8, hn8, hc8⟩
            have hfin := hat8
            rw [show ({ mid s k pre st with stamps := st + 1 } : St).L = (mid s k pre st).L from rfl] at hfin
            have HFIN : At w8 b (mid s (k + 1) (pre ++ [stamped (mid s k pre st) ⟨XP, XD, XK, XK, false, false, XS⟩]) (st + 1)) vL8 vR := by rw [← HPUT.out]; exact hfin
            have hchg : Chg (fun i => i = b ∨ w.heap.size ≤ i) w w8 := ((hC.out.then (Chg.of_below ((Below.refl _ _).alloc (Nat.le_refl _) _))).then (hc7.mono (fun i hi => .inl hi))).then (hc8.mono (fun i hi => .inl hi))
            have hnew : ∀ g, vL8.ownBlock = some g → vL.ownBlock = some g ∨ w.heap.size ≤ g := fun g hg => .inr (by
              have h1 := hn8 g hg
              have h2 := hc7.size
              have h3 := hC.out.size
              have h4 : (wr.alloc (.cells #[.string XP, .bool XD, .string XK, .string XK, .bool false, .bool false, .int .i64 XS] 37)).heap.size = wr.heap.size + 1 := by simp
              omega)
            have H8 := Lib.hid HFIN
            have HC8 := Lib.hid hchg
            have HN8 := Lib.hid hnew
            clear hfin HFIN hchg hnew hat8 hn8 hc8 hat7 hc7
            go_wp2_with fail
            go_roundw
            case rel => exact ⟨k + 1, n + 1, st + 1, _, vL8, by omega, by omega, by go_num, by go_num, HTH.out, H8.out, HC8.out, HN8.out⟩
            case measure => simp [intOf]; omega
          · have hlose : lose PK ⟨XP, XD, XX, XK, true, true, XS⟩ = ⟨XP, XD, XX.extract 0 K, XX.extract 0 K, false, false, XS⟩ := by
              unfold lose
              simp [← hR]
            rw [show ((K + 1 : Nat) : Int) = (K : Int) + 1 by omega] at hrem
            clear hR
            go_wp2_with fail
            go_at_call 75
            refine (cm _).mono ?_
            rintro e w1 ⟨rfl, rfl⟩
            have c6 := fun W (hW : At W b (mid s k pre st) (.slice (some ⟨g2, 0, none⟩) (mid s k pre st).L.length c) vR) => rStamped_any b (mid s k pre st) (.slice (some ⟨g2, 0, none⟩) (mid s k pre st).L.length c) vR ⟨XP, XD, (XX.extract 0 K), (XX.extract 0 K), false, false, XS⟩ W hW (by show st ≤ _; have := hT.out.stamp; have := HS.out.stamps; have := HLEN.out; omega)
            have c5 := fun W (hW : At W b { mid s k pre st with stamps := st + 1 } (.slice (some ⟨g2, 0, none⟩) (mid s k pre st).L.length c) vR) => rPut_any b { mid s k pre st with stamps := st + 1 } (.slice (some ⟨g2, 0, none⟩) (mid s k pre st).L.length c) vR (stamped (mid s k pre st) ⟨XP, XD, (XX.extract 0 K), (XX.extract 0 K), false, false, XS⟩) W hW (by show (mid s k pre st).L.length ≤ _; rw [mid_len hT.out, ← HLEN.out]; omega)
            have hput := mid_put (x' := stamped (mid s k pre st) ⟨XP, XD, (XX.extract 0 K), (XX.extract 0 K), false, false, XS⟩) hT.out HS.out.rises HX.out rfl
            have hth : Through s U (k + 1) (n + 1) (pre ++ [stamped (mid s k pre st) ⟨XP, XD, (XX.extract 0 K), (XX.extract 0 K), false, false, XS⟩]) (st + 1) := by
              have h2 := HT2.out
              rw [← HPK.out, hlose] at h2
              exact h2
            have HPUT := Lib.hid hput
            have HTH := Lib.hid hth
            unfold stamped iv at c5
            unfold iv stamped at c6
            simp only at c5 c6
            rw [show (mid s k pre st).stamps = st from rfl] at c5 c6
            clear hput hth hlose
            go_wp2_with fail
            go_at_call 59
            refine (c6 _ (hA.out.below ((Below.refl _ _).alloc (Nat.le_refl _) _))).mono ?_
            rintro e w7 ⟨rfl, hat7, hc7⟩
            go_wp2_with fail
            go_at_call 56
            refine (c5 _ hat7).mono ?_
            rintro e w8 ⟨⟨v8, rfl⟩, vL8, hat8, hn8, hc8⟩
            have hfin := hat8
            rw [show ({ mid s k pre st with stamps := st + 1 } : St).L = (mid s k pre st).L from rfl] at hfin
            have HFIN : At w8 b (mid s (k + 1) (pre ++ [stamped (mid s k pre st) ⟨XP, XD, (XX.extract 0 K), (XX.extract 0 K), false, false, XS⟩]) (st + 1)) vL8 vR := by rw [← HPUT.out]; exact hfin
            have hchg : Chg (fun i => i = b ∨ w.heap.size ≤ i) w w8 := ((hC.out.then (Chg.of_below ((Below.refl _ _).alloc (Nat.le_refl _) _))).then (hc7.mono (fun i hi => .inl hi))).then (hc8.mono (fun i hi => .inl hi))
            have hnew : ∀ g, vL8.ownBlock = some g → vL.ownBlock = some g ∨ w.heap.size ≤ g := fun g hg => .inr (by
              have h1 := hn8 g hg
              have h2 := hc7.size
              have h3 := hC.out.size
              have h4 : (wr.alloc (.cells #[.string XP, .bool XD, .string (XX.extract 0 K), .string (XX.extract 0 K), .bool false, .bool false, .int .i64 XS] 37)).heap.size = wr.heap.size + 1 := by simp
              omega)
            have H8 := Lib.hid HFIN
            have HC8 := Lib.hid hchg
            have HN8 := Lib.hid hnew
            clear hfin HFIN hchg hnew hat8 hn8 hc8 hat7 hc7
            go_wp2_with fail
            go_roundw
            case rel => exact ⟨k + 1, n + 1, st + 1, _, vL8, by omega, by omega, by go_num, by go_num, HTH.out, H8.out, HC8.out, HN8.out⟩
            case measure => simp [intOf]; omega
        | false =>
          have hkd := HS.out.kept _ (List.mem_of_getElem? HX.out) rfl
          simp only at hkd
          obtain ⟨R, hR⟩ : ∃ R, R = PK % (XX.size - XK.size + 1) := ⟨_, rfl⟩
          have hRl : R < XX.size - XK.size + 1 := by rw [hR]; exact Nat.mod_lt _ (by omega)
          have hrem : (PK : Int) % ((XX.size : Int) - (XK.size : Int) + 1) = (R : Int) := by rw [hR, show (XX.size : Int) - (XK.size : Int) + 1 = ((XX.size - XK.size + 1 : Nat) : Int) by omega]; push_cast; rfl
          have hlose : lose PK ⟨XP, XD, XX, XK, true, false, XS⟩ = ⟨XP, XD, XX.extract 0 (XK.size + R), XX.extract 0 (XK.size + R), false, false, XS⟩ := by
            unfold lose
            simp [← hR]
          clear hR
          go_wp2_with fail
          go_at_call 75
          refine (cm _).mono ?_
          rintro e w1 ⟨rfl, rfl⟩
          have c6 := fun W (hW : At W b (mid s k pre st) (.slice (some ⟨g2, 0, none⟩) (mid s k pre st).L.length c) vR) => rStamped_any b (mid s k pre st) (.slice (some ⟨g2, 0, none⟩) (mid s k pre st).L.length c) vR ⟨XP, XD, (XX.extract 0 (XK.size + R)), (XX.extract 0 (XK.size + R)), false, false, XS⟩ W hW (by show st ≤ _; have := hT.out.stamp; have := HS.out.stamps; have := HLEN.out; omega)
          have c5 := fun W (hW : At W b { mid s k pre st with stamps := st + 1 } (.slice (some ⟨g2, 0, none⟩) (mid s k pre st).L.length c) vR) => rPut_any b { mid s k pre st with stamps := st + 1 } (.slice (some ⟨g2, 0, none⟩) (mid s k pre st).L.length c) vR (stamped (mid s k pre st) ⟨XP, XD, (XX.extract 0 (XK.size + R)), (XX.extract 0 (XK.size + R)), false, false, XS⟩) W hW (by show (mid s k pre st).L.length ≤ _; rw [mid_len hT.out, ← HLEN.out]; omega)
          have hput := mid_put (x' := stamped (mid s k pre st) ⟨XP, XD, (XX.extract 0 (XK.size + R)), (XX.extract 0 (XK.size + R)), false, false, XS⟩) hT.out HS.out.rises HX.out rfl
          have hth : Through s U (k + 1) (n + 1) (pre ++ [stamped (mid s k pre st) ⟨XP, XD, (XX.extract 0 (XK.size + R)), (XX.extract 0 (XK.size + R)), false, false, XS⟩]) (st + 1) := by
            have h2 := HT2.out
            rw [← HPK.out, hlose] at h2
            exact h2
          have HPUT := Lib.hid hput
          have HTH := Lib.hid hth
          unfold stamped iv at c5
          unfold iv stamped at c6
          simp only at c5 c6
          rw [show (mid s k pre st).stamps = st from rfl] at c5 c6
          clear hput hth hlose
          go_wp2_with fail
          go_at_call 59
          refine (c6 _ (hA.out.below ((Below.refl _ _).alloc (Nat.le_refl _) _))).mono ?_
          rintro e w7 ⟨rfl, hat7, hc7⟩
          go_wp2_with fail
          go_at_call 56
          refine (c5 _ hat7).mono ?_
          rintro e w8 ⟨⟨v8, rfl⟩, vL8, hat8, hn8, hc8⟩
          have hfin := hat8
          rw [show ({ mid s k pre st with stamps := st + 1 } : St).L = (mid s k pre st).L from rfl] at hfin
          have HFIN : At w8 b (mid s (k + 1) (pre ++ [stamped (mid s k pre st) ⟨XP, XD, (XX.extract 0 (XK.size + R)), (XX.extract 0 (XK.size + R)), false, false, XS⟩]) (st + 1)) vL8 vR := by rw [← HPUT.out]; exact hfin
          have hchg : Chg (fun i => i = b ∨ w.heap.size ≤ i) w w8 := ((hC.out.then (Chg.of_below ((Below.refl _ _).alloc (Nat.le_refl _) _))).then (hc7.mono (fun i hi => .inl hi))).then (hc8.mono (fun i hi => .inl hi))
          have hnew : ∀ g, vL8.ownBlock = some g → vL.ownBlock = some g ∨ w.heap.size ≤ g := fun g hg => .inr (by
            have h1 := hn8 g hg
            have h2 := hc7.size
            have h3 := hC.out.size
            have h4 : (wr.alloc (.cells #[.string XP, .bool XD, .string (XX.extract 0 (XK.size + R)), .string (XX.extract 0 (XK.size + R)), .bool false, .bool false, .int .i64 XS] 37)).heap.size = wr.heap.size + 1 := by simp
            omega)
          have H8 := Lib.hid HFIN
          have HC8 := Lib.hid hchg
          have HN8 := Lib.hid hnew
          clear hfin HFIN hchg hnew hat8 hn8 hc8 hat7 hc7
          go_wp2_with fail
          go_roundw
          case rel => exact ⟨k + 1, n + 1, st + 1, _, vL8, by omega, by omega, by go_num, by go_num, HTH.out, H8.out, HC8.out, HN8.out⟩
          case measure => simp [intOf]; omega
    · obtain rfl : k = len := by omega
      have hT' := hT.out
      rw [HLEN.out] at hT'
      have hend := through_end hT'
      have hres : restartS s loss = { s with L := pre, stamps := st, down := false, armed := -1 } := by
        unfold restartS
        rw [← HU.out, hend]
      have hmid : mid s k pre st = { s with L := pre, stamps := st } := by
        unfold mid
        rw [HLEN.out, List.drop_of_length_le (Nat.le_refl _), List.append_nil]
      have hat := hA.out
      rw [hmid] at hat
      have HRES := Lib.hid hres
      have HAT := Lib.hid hat
      have hwarm := hat.warm
      obtain ⟨q0, q1, q2, q3, q4, q5⟩ := hat.cell
      simp only at q0 q1 q2 q3 q4 q5
      clear hT' hend hres hmid hat hseen
      go_wp2_with fail
      go_ret
      rw [HRES.out]
      refine ⟨rfl, _, vR, HAT.out.poke ?_ (fun i hi => ?_) rfl rfl, ?_, ?_⟩
      · rw [set_block (set_block HAT.out.blk _) _]; rfl
      · rw [set_other _ hi, set_other _ hi]
      · have h9 := (hC.out.then ((chg_set (b := b) (k := 5) (.bool false)).mono (fun i hi => .inl hi))).then ((chg_set (b := b) (k := 4) (.int .i64 (-1))).mono (fun i hi => .inl hi))
        exact ⟨h9.os, h9.tape, h9.output, h9.size, fun i hi hn => h9.block i hi (fun hh => by rcases hh with hh | hh; exact hn (.inl hh); omega)⟩
      · rintro g (rfl | hg | hg)
        · exact .inl (.inl rfl)
        · exact (hN.out g (by cases A <;> exact hg)).imp (fun hh => .inr (.inl hh)) id
        · exact .inl (.inr (.inr hg))
end Go.Proofs.YtcbnpdognadilaaGreat.Dk

/- The order of texts (no Go text). -/
namespace Go.Proofs.YtcbnpdognadilaaGreat.Od
set_option linter.unusedVariables false

theorem less_trans : ∀ (a b c : List UInt8), Op.bytesLess a b = true → Op.bytesLess b c = true → Op.bytesLess a c = true
  | [], [], _, h, _ => by rw [Op.bytesLess] at h; cases h
  | [], _ :: _, [], _, h => by rw [Op.bytesLess] at h; cases h
  | [], _ :: _, _ :: _, _, _ => by rw [Op.bytesLess]
  | _ :: _, [], _, h, _ => by rw [Op.bytesLess] at h; cases h
  | _ :: _, _ :: _, [], _, h => by rw [Op.bytesLess] at h; cases h
  | x :: a, y :: b, z :: c, h1, h2 => by
    have ih := less_trans a b c
    rw [Op.bytesLess] at h1 h2 ⊢
    simp only [Bool.or_eq_true, Bool.and_eq_true, decide_eq_true_eq, beq_iff_eq] at h1 h2 ⊢
    rcases h1 with h1 | ⟨rfl, h1⟩
    · rcases h2 with h2 | ⟨rfl, h2⟩
      · left
        rw [UInt8.lt_iff_toNat_lt] at h1 h2 ⊢
        omega
      · exact .inl h1
    · rcases h2 with h2 | ⟨rfl, h2⟩
      · exact .inl h2
      · exact .inr ⟨rfl, ih h1 h2⟩
theorem less_tri : ∀ (a b : List UInt8), Op.bytesLess a b = false → Op.bytesLess b a = false → a = b
  | [], [], _, _ => rfl
  | [], _ :: _, h, _ => by rw [Op.bytesLess] at h; cases h
  | _ :: _, [], _, h => by rw [Op.bytesLess] at h; cases h
  | x :: a, y :: b, h1, h2 => by
    have ih := less_tri a b
    rw [Op.bytesLess] at h1 h2
    simp only [Bool.or_eq_false_iff, Bool.and_eq_false_iff, decide_eq_false_iff_not, beq_eq_false_iff_ne] at h1 h2
    have e : x = y := by
      apply UInt8.toNat_inj.1
      have a1 := h1.1
      have a2 := h2.1
      rw [UInt8.lt_iff_toNat_lt] at a1 a2
      omega
    subst e
    rw [ih (h1.2.resolve_left (fun h => h rfl)) (h2.2.resolve_left (fun h => h rfl))]
theorem to_list {a b : ByteArray} : a.toList = b.toList ↔ a = b := by
  rw [ByteArray.toList_eq, ByteArray.toList_eq]
  exact ⟨fun h => ByteArray.ext (Array.toList_inj.1 h), fun h => by rw [h]⟩
end Go.Proofs.YtcbnpdognadilaaGreat.Od

/- What a disk may be behind some calls: the bounds, kept by every call (no Go text). -/
namespace Go.Proofs.YtcbnpdognadilaaGreat.Dk
open Go.RowKit Tx Pm Od
set_option linter.unusedVariables false

theorem mem_ins {l : List It} {x y : It} (h : y ∈ ins l x) : y = x ∨ y ∈ l := by
  rw [ins, List.mem_append, List.mem_cons] at h
  rcases h with h | h | h
  · exact .inr ((List.takeWhile_prefix _).subset h)
  · exact .inl h
  · have hd := List.dropWhile_suffix (fun y => Op.bytesLess y.path.toList x.path.toList) (l := l)
    cases hdw : l.dropWhile (fun y => Op.bytesLess y.path.toList x.path.toList) with
    | nil => rw [hdw] at h; cases h
    | cons z r =>
      rw [hdw] at h hd
      simp only at h
      split at h
      · exact .inr (hd.subset (List.mem_cons_of_mem _ h))
      · exact .inr (hd.subset h)
theorem len_ins (l : List It) (x : It) : (ins l x).length ≤ l.length + 1 := by
  have h1 := List.takeWhile_append_dropWhile (p := fun y => Op.bytesLess y.path.toList x.path.toList) (l := l)
  have h2 := congrArg List.length h1
  rw [List.length_append] at h2
  rw [ins, List.length_append, List.length_cons]
  cases hdw : l.dropWhile (fun y => Op.bytesLess y.path.toList x.path.toList) with
  | nil => rw [hdw] at h2; simp at h2 ⊢; omega
  | cons z r =>
    rw [hdw] at h2
    simp only
    simp only [List.length_cons] at h2
    split
    · omega
    · simp; omega
theorem rises_ins {l : List It} {x : It} (h : Rises l) : Rises (ins l x) := by
  unfold Rises at *
  have h1 := List.takeWhile_append_dropWhile (p := fun y => Op.bytesLess y.path.toList x.path.toList) (l := l)
  have htw : ∀ y ∈ l.takeWhile (fun y => Op.bytesLess y.path.toList x.path.toList), Op.bytesLess y.path.toList x.path.toList = true := fun y hy => by
    have := List.all_takeWhile (p := fun y => Op.bytesLess y.path.toList x.path.toList) (l := l)
    exact List.all_eq_true.1 this y hy
  rw [← h1] at h
  obtain ⟨p1, p2, p3⟩ := List.pairwise_append.1 h
  rw [ins, List.pairwise_append]
  have hrest : ∀ z r, l.dropWhile (fun y => Op.bytesLess y.path.toList x.path.toList) = z :: r → (z.path = x.path → ∀ y ∈ r, Op.bytesLess x.path.toList y.path.toList = true) ∧ (z.path ≠ x.path → ∀ y ∈ z :: r, Op.bytesLess x.path.toList y.path.toList = true) := by
    intro z r hz
    rw [hz] at p2
    have hn : Op.bytesLess z.path.toList x.path.toList = false := by
      have h0 := List.head?_dropWhile_not (fun y => Op.bytesLess y.path.toList x.path.toList) l
      rw [hz] at h0
      simpa using h0
    refine ⟨fun he y hy => ?_, fun he y hy => ?_⟩
    · rw [← he]
      exact (List.pairwise_cons.1 p2).1 y hy
    · have hxz : Op.bytesLess x.path.toList z.path.toList = true := by
        cases hc : Op.bytesLess x.path.toList z.path.toList with
        | true => rfl
        | false => exact absurd (to_list.1 (less_tri _ _ hn hc)) he
      rcases List.mem_cons.1 hy with rfl | hy
      · exact hxz
      · exact less_trans _ _ _ hxz ((List.pairwise_cons.1 p2).1 y hy)
  cases hdw : l.dropWhile (fun y => Op.bytesLess y.path.toList x.path.toList) with
  | nil =>
    simp only
    refine ⟨p1, List.pairwise_singleton _ _, fun y hy z hz => ?_⟩
    obtain rfl : z = x := by simpa using hz
    exact htw y hy
  | cons z r =>
    have hr := hrest z r hdw
    rw [hdw] at p2 p3
    simp only
    split
    · rename_i he
      refine ⟨p1, List.pairwise_cons.2 ⟨hr.1 he, (List.pairwise_cons.1 p2).2⟩, fun y hy q hq => ?_⟩
      rcases List.mem_cons.1 hq with rfl | hq
      · exact htw y hy
      · exact p3 y hy q (List.mem_cons_of_mem _ hq)
    · rename_i he
      refine ⟨p1, List.pairwise_cons.2 ⟨hr.2 he, p2⟩, fun y hy q hq => ?_⟩
      rcases List.mem_cons.1 hq with rfl | hq
      · exact htw y hy
      · exact p3 y hy q hq
theorem rises_drop {l : List It} (p : ByteArray) (h : Rises l) : Rises (drop l p) := List.Pairwise.filter _ h

/-- What a disk may be behind i calls, each of texts of at most 1048576 bytes. -/
structure Inv (s : St) (i T : Nat) : Prop where
  rises : Rises s.L
  len : s.L.length ≤ i
  path : ∀ x ∈ s.L, x.path.size ≤ 1048576
  size : ∀ x ∈ s.L, x.data.size ≤ T ∧ x.kept.size ≤ T
  kept : ∀ x ∈ s.L, x.anew = false → x.kept.size ≤ x.data.size
  rooms : s.rooms.length ≤ i
  steps : s.steps ≤ i
  stamps : s.stamps ≤ T
  armed : -1 ≤ s.armed ∧ s.armed ≤ 9223372036854775807
theorem inv_new : Inv newS 0 0 where
  rises := List.Pairwise.nil
  len := Nat.le_refl _
  path := fun x hx => by cases hx
  size := fun x hx => by cases hx
  kept := fun x hx => by cases hx
  rooms := Nat.le_refl _
  steps := Nat.le_refl _
  stamps := Nat.le_refl _
  armed := by
    show (-1 : Int) ≤ -1 ∧ (-1 : Int) ≤ 9223372036854775807
    omega
theorem Inv.more {s : St} {i T : Nat} (h : Inv s i T) : Inv s (i + 1) (T + 1048576) where
  rises := h.rises
  len := by have := h.len; omega
  path := h.path
  size := fun x hx => by have := h.size x hx; omega
  kept := h.kept
  rooms := by have := h.rooms; omega
  steps := by have := h.steps; omega
  stamps := by have := h.stamps; omega
  armed := h.armed
theorem whole_le {l : List It} {B : Nat} (h : ∀ x ∈ l, x.data.size ≤ B) : whole l ≤ l.length * B := by
  induction l with
  | nil => simp [whole]
  | cons x l ih =>
    have h1 := h x (by simp)
    have h2 := ih (fun y hy => h y (by simp [hy]))
    unfold whole at *
    rw [List.map_cons, List.sum_cons, List.length_cons, Nat.succ_mul]
    omega
theorem Inv.ok {s : St} {i T : Nat} (h : Inv s i T) (hi : i ≤ 1000) (hT : T ≤ 1048576000) : Ok s := by
  have hl := h.len
  have hw := whole_le (B := T) (fun x hx => (h.size x hx).1)
  have hm : s.L.length * T ≤ 1048576000000 := Nat.le_trans (Nat.mul_le_mul (Nat.le_trans hl hi) hT) (by decide)
  refine ⟨⟨by omega, fun x hx => by have := h.path x hx; omega, by omega⟩, by have := h.rooms; omega, by have := h.steps; omega, by have := h.stamps; omega, by have := h.armed; omega⟩
theorem Inv.sound {s : St} {i T : Nat} (h : Inv s i T) (hi : i ≤ 1000) (hT : T ≤ 1048576000) : Sound s :=
  ⟨h.rises, h.kept, fun x hx => by have := h.size x hx; omega, by have := h.stamps; have := h.len; omega⟩
/-- Behind a call that sets an item. -/
theorem inv_ins {s s' : St} {i T : Nat} {l : List It} {x : It} (h : Inv s i T) (hl : Rises l ∧ ∀ y ∈ l, y ∈ s.L) (hll : l.length ≤ s.L.length) (hL : s'.L = ins l x) (hp : x.path.size ≤ 1048576) (hd : x.data.size ≤ T + 1048576) (hk : x.kept.size ≤ T + 1048576)
    (ha : x.anew = false → x.kept.size ≤ x.data.size) (hr : s'.rooms = s.rooms) (hst : s'.steps ≤ i + 1) (hsm : s'.stamps ≤ T + 1048576) (har : -1 ≤ s'.armed ∧ s'.armed ≤ 9223372036854775807) : Inv s' (i + 1) (T + 1048576) := by
  have hm : ∀ y ∈ s'.L, y = x ∨ y ∈ s.L := fun y hy => by
    rw [hL] at hy
    exact (mem_ins hy).imp id (fun hh => hl.2 y hh)
  refine ⟨by rw [hL]; exact rises_ins hl.1, ?_, fun y hy => ?_, fun y hy => ?_, fun y hy => ?_, by rw [hr]; exact Nat.le_succ_of_le h.rooms, hst, hsm, har⟩
  · rw [hL]
    have := len_ins l x
    have := h.len
    omega
  · rcases hm y hy with rfl | hy
    · exact hp
    · exact h.path y hy
  · rcases hm y hy with rfl | hy
    · exact ⟨hd, hk⟩
    · have := h.size y hy
      omega
  · rcases hm y hy with rfl | hy
    · exact ha
    · exact h.kept y hy
theorem done_steps (s : St) : (done s).2.steps ≤ s.steps + 1 := by unfold done; split <;> simp
theorem done_armed {s : St} (h : -1 ≤ s.armed ∧ s.armed ≤ 9223372036854775807) : -1 ≤ (done s).2.armed ∧ (done s).2.armed ≤ 9223372036854775807 := by
  unfold done
  split
  · exact ⟨by show (-1 : Int) ≤ -1; omega, by show (-1 : Int) ≤ _; omega⟩
  · show -1 ≤ (if s.armed > 0 then s.armed - 1 else s.armed) ∧ _
    split <;> simp only <;> omega
theorem inv_done {s : St} {i T : Nat} (h : Inv s i T) : Inv (done s).2 (i + 1) (T + 1048576) := by
  have h1 := h.more
  refine ⟨by rw [done_L]; exact h1.rises, by rw [done_L]; exact h1.len, by rw [done_L]; exact h1.path, by rw [done_L]; exact h1.size, by rw [done_L]; exact h1.kept, by rw [done_rooms]; exact h1.rooms, ?_, by rw [done_stamps]; exact h1.stamps, done_armed h.armed⟩
  have := done_steps s
  have := h.steps
  omega
theorem find_mem {l : List It} {p : ByteArray} {x : It} (h : find l p = some x) : x ∈ l ∧ x.path = p := ⟨List.mem_of_find?_eq_some h, by have := List.find?_some h; exact of_decide_eq_true this⟩
/-- What the old item may be: there, or new. -/
theorem old_cases (l : List It) (p : ByteArray) : old l p = mk p ∨ (old l p ∈ l ∧ (old l p).path = p) := by
  unfold old
  cases h : find l p with
  | none => exact .inl rfl
  | some x => exact .inr (find_mem h)
theorem old_inv {s : St} {i T : Nat} {p : ByteArray} (h : Inv s i T) (hp : p.size ≤ 1048576) : (old s.L p).path.size ≤ 1048576 ∧ (old s.L p).data.size ≤ T ∧ (old s.L p).kept.size ≤ T ∧ ((old s.L p).anew = false → (old s.L p).kept.size ≤ (old s.L p).data.size) := by
  rcases old_cases s.L p with e | ⟨hm, _⟩
  · rw [e]
    exact ⟨hp, by show 0 ≤ _; omega, by show 0 ≤ _; omega, fun _ => Nat.le_refl _⟩
  · exact ⟨h.path _ hm, (h.size _ hm).1, (h.size _ hm).2, h.kept _ hm⟩
theorem same_in {s : St} {i T : Nat} (h : Inv s i T) : Rises s.L ∧ ∀ y ∈ s.L, y ∈ s.L := ⟨h.rises, fun _ hy => hy⟩

theorem inv_mkdir {s : St} {i T : Nat} {p : ByteArray} (h : Inv s i T) (hp : p.size ≤ 1048576) : Inv (mkdirS s p).2 (i + 1) (T + 1048576) := by
  unfold mkdirS
  split
  · exact h.more
  split
  · exact h.more
  split
  · exact h.more
  split
  · exact inv_done h
  · have hd := inv_done h
    exact inv_ins h (l := (done s).2.L) (by rw [done_L]; exact same_in h) (by rw [done_L]; exact Nat.le_refl _) rfl hp (by show 0 ≤ _; omega) (by show 0 ≤ _; omega) (fun _ => Nat.le_refl _) (done_rooms s) hd.steps hd.stamps hd.armed
theorem inv_putS {s : St} {i T : Nat} {l : List It} {x : It} (h : Inv s i T) (hl : Rises l ∧ ∀ y ∈ l, y ∈ s.L) (hll : l.length ≤ s.L.length) (hp : x.path.size ≤ 1048576) (hd : x.data.size ≤ T + 1048576) (hk : x.kept.size ≤ T + 1048576) (ha : x.anew = false → x.kept.size ≤ x.data.size) :
    Inv (putS { (done s).2 with L := l } x) (i + 1) (T + 1048576) := by
  have h2 := inv_done h
  refine inv_ins h hl hll (x := stamped { (done s).2 with L := l } x) rfl hp hd hk ha (done_rooms s) h2.steps ?_ h2.armed
  show (done s).2.stamps + 1 ≤ _
  rw [done_stamps]
  have := h.stamps
  omega
theorem putS_L {s : St} {i T : Nat} {x : It} (h : Inv (putS { (done s).2 with L := s.L } x) i T) : Inv (putS (done s).2 x) i T := by
  have e : ({ (done s).2 with L := s.L } : St) = (done s).2 := by
    have := done_L s
    generalize (done s).2 = d at this ⊢
    obtain ⟨a1, a2, a3, a4, a5, a6⟩ := d
    simp only at this
    rw [this]
  rw [e] at h
  exact h
theorem inv_write {s : St} {i T : Nat} {p d : ByteArray} (h : Inv s i T) (hp : p.size ≤ 1048576) (hd : d.size ≤ 1048576) : Inv (writeS s p d).2 (i + 1) (T + 1048576) := by
  unfold writeS
  split
  · exact h.more
  split
  · exact h.more
  split
  · exact h.more
  split
  · exact h.more
  split
  · exact inv_done h
  · obtain ⟨o1, o2, o3, o4⟩ := old_inv h hp
    have := inv_putS (x := { old s.L p with data := d, loose := true, anew := true }) h (same_in h) (Nat.le_refl _) o1 (by show d.size ≤ _; omega) (by show (old s.L p).kept.size ≤ _; omega) (fun hh => by cases hh)
    exact putS_L this
theorem inv_append {s : St} {i T : Nat} {p d : ByteArray} (h : Inv s i T) (hp : p.size ≤ 1048576) (hd : d.size ≤ 1048576) : Inv (appendS s p d).2 (i + 1) (T + 1048576) := by
  unfold appendS
  split
  · exact h.more
  split
  · exact h.more
  split
  · exact inv_done h
  · obtain ⟨o1, o2, o3, o4⟩ := old_inv h hp
    have hsz : ((old s.L p).data ++ d).size = (old s.L p).data.size + d.size := ByteArray.size_append
    have := inv_putS (x := { old s.L p with data := (old s.L p).data ++ d, loose := true }) h (same_in h) (Nat.le_refl _) o1 (by show ((old s.L p).data ++ d).size ≤ _; omega) (by show (old s.L p).kept.size ≤ _; omega) (fun hh => by have := o4 hh; show (old s.L p).kept.size ≤ ((old s.L p).data ++ d).size; omega)
    exact putS_L this
theorem inv_sync {s : St} {i T : Nat} {p : ByteArray} (h : Inv s i T) (hp : p.size ≤ 1048576) : Inv (syncS s p).2 (i + 1) (T + 1048576) := by
  unfold syncS
  split
  · exact h.more
  split
  · exact inv_done h
  · obtain ⟨o1, o2, o3, o4⟩ := old_inv h hp
    have hd := inv_done h
    exact inv_ins h (l := (done s).2.L) (by rw [done_L]; exact same_in h) (by rw [done_L]; exact Nat.le_refl _) rfl o1 (by show (old s.L p).data.size ≤ _; omega) (by show (old s.L p).data.size ≤ _; omega) (fun _ => Nat.le_refl _) (done_rooms s) hd.steps hd.stamps hd.armed
theorem drop_in (l : List It) (p : ByteArray) : (∀ y ∈ drop l p, y ∈ l) ∧ (drop l p).length ≤ l.length := ⟨fun y hy => (List.mem_filter.1 hy).1, List.length_filter_le _ _⟩
theorem inv_remove {s : St} {i T : Nat} {p : ByteArray} (h : Inv s i T) : Inv (removeS s p).2 (i + 1) (T + 1048576) := by
  unfold removeS
  split
  · exact h.more
  split
  · exact h.more
  split
  · exact h.more
  split
  · exact inv_done h
  · have hd := inv_done h
    obtain ⟨d1, d2⟩ := drop_in (done s).2.L p
    exact ⟨rises_drop p hd.rises, Nat.le_trans d2 hd.len, fun x hx => hd.path x (d1 x hx), fun x hx => hd.size x (d1 x hx), fun x hx => hd.kept x (d1 x hx), hd.rooms, hd.steps, hd.stamps, hd.armed⟩
theorem inv_rename {s : St} {i T : Nat} {f t : ByteArray} (h : Inv s i T) (hf : f.size ≤ 1048576) (ht : t.size ≤ 1048576) : Inv (renameS s f t).2 (i + 1) (T + 1048576) := by
  unfold renameS
  split
  · exact h.more
  split
  · exact h.more
  split
  · exact h.more
  split
  · exact h.more
  split
  · exact h.more
  split
  · exact inv_done h
  · obtain ⟨o1, o2, o3, o4⟩ := old_inv h hf
    obtain ⟨d1, d2⟩ := drop_in s.L f
    have := inv_putS (l := drop s.L f) (x := { old s.L f with path := t }) h ⟨rises_drop f h.rises, d1⟩ d2 ht (by show (old s.L f).data.size ≤ _; omega) (by show (old s.L f).kept.size ≤ _; omega) o4
    show Inv (putS { (done s).2 with L := drop (done s).2.L f } _) _ _
    rw [done_L s]
    exact this
theorem setRm_len : ∀ (l : List Rm) (v : ByteArray) (n : Int), (setRm l v n).length ≤ l.length + 1
  | [], v, n => Nat.le_refl _
  | r :: l, v, n => by
    rw [setRm]
    split
    · simp
    · have := setRm_len l v n
      simp
      omega
theorem inv_limit {s : St} {i T : Nat} {v : ByteArray} {n : Int} (h : Inv s i T) : Inv (limitS s v n).2 (i + 1) (T + 1048576) := by
  have h1 := h.more
  unfold limitS
  split
  · exact h1
  split
  · exact h1
  · refine ⟨h1.rises, h1.len, h1.path, h1.size, h1.kept, ?_, h1.steps, h1.stamps, h1.armed⟩
    have := setRm_len s.rooms v n
    have := h.rooms
    show (setRm s.rooms v n).length ≤ _
    omega
theorem inv_rot {s : St} {i T : Nat} {p : ByteArray} {bit : Int} (h : Inv s i T) (hp : p.size ≤ 1048576) (ht : ∀ x : ByteArray, (Fr.tn x bit).size = x.size) : Inv (rotS s p bit).2 (i + 1) (T + 1048576) := by
  unfold rotS
  split
  · exact h.more
  · obtain ⟨o1, o2, o3, o4⟩ := old_inv h hp
    have h1 := h.more
    refine inv_ins h (same_in h) (Nat.le_refl _) (x := stamped s { old s.L p with data := Fr.tn (old s.L p).data bit, kept := Fr.tn (old s.L p).kept bit }) rfl o1 ?_ ?_ ?_ rfl h1.steps ?_ h.armed
    · show (Fr.tn (old s.L p).data bit).size ≤ _
      rw [ht]; omega
    · show (Fr.tn (old s.L p).kept bit).size ≤ _
      rw [ht]; omega
    · intro hh
      show (Fr.tn (old s.L p).kept bit).size ≤ (Fr.tn (old s.L p).data bit).size
      rw [ht, ht]
      exact o4 hh
    · show s.stamps + 1 ≤ _
      have := h.stamps
      omega

theorem ext_size (x : ByteArray) (a : Nat) : (x.extract 0 a).size ≤ x.size := by rw [ByteArray.size_extract]; omega
theorem lose_is (pick : Nat) (x : It) : (lose pick x).path = x.path ∧ (lose pick x).anew = false ∧ (lose pick x).kept = (lose pick x).data ∧ ((lose pick x).data = x.kept ∨ (lose pick x).data.size ≤ x.data.size) := by
  unfold lose
  refine ⟨rfl, rfl, rfl, ?_⟩
  simp only
  split
  · split
    · exact .inl rfl
    · exact .inr (ext_size _ _)
  · exact .inr (ext_size _ _)
theorem restartL_is (loss T : Nat) : ∀ (l : List It) (n st : Nat), (∀ x ∈ l, x.path.size ≤ 1048576) → (∀ x ∈ l, x.data.size ≤ T ∧ x.kept.size ≤ T) → (∀ x ∈ l, x.anew = false → x.kept.size ≤ x.data.size) →
    (restartL loss l n st).1.map (·.path) = l.map (·.path) ∧ (restartL loss l n st).2 ≤ st + l.length ∧
    (∀ x ∈ (restartL loss l n st).1, x.path.size ≤ 1048576 ∧ x.data.size ≤ T ∧ x.kept.size ≤ T ∧ (x.anew = false → x.kept.size ≤ x.data.size))
  | [], n, st, _, _, _ => ⟨rfl, Nat.le_refl _, fun x hx => by cases hx⟩
  | y :: l, n, st, h1, h2, h3 => by
    have a1 := fun x hx => h1 x (List.mem_cons_of_mem y hx)
    have a2 := fun x hx => h2 x (List.mem_cons_of_mem y hx)
    have a3 := fun x hx => h3 x (List.mem_cons_of_mem y hx)
    rw [restartL]
    split
    · obtain ⟨i1, i2, i3⟩ := restartL_is loss T l (n + 1) (st + 1) a1 a2 a3
      obtain ⟨l1, l2, l3, l4⟩ := lose_is (mix loss (n + 1)) y
      have hy := h2 y (by simp)
      have hd : (lose (mix loss (n + 1)) y).data.size ≤ T := by
        rcases l4 with l4 | l4
        · rw [l4]; exact hy.2
        · omega
      refine ⟨?_, ?_, fun x hx => ?_⟩
      · show _ :: _ = _
        rw [List.map_cons, ← i1]
        show (lose (mix loss (n + 1)) y).path :: _ = _
        rw [l1]
      · show (restartL loss l (n + 1) (st + 1)).2 ≤ _
        rw [List.length_cons]
        omega
      · rcases List.mem_cons.1 hx with rfl | hx
        · refine ⟨?_, hd, ?_, fun _ => ?_⟩
          · show (lose (mix loss (n + 1)) y).path.size ≤ _
            rw [l1]
            exact h1 y (by simp)
          · show (lose (mix loss (n + 1)) y).kept.size ≤ _
            rw [l3]
            exact hd
          · show (lose (mix loss (n + 1)) y).kept.size ≤ (lose (mix loss (n + 1)) y).data.size
            rw [l3]
            exact Nat.le_refl _
        · exact i3 x hx
    · obtain ⟨i1, i2, i3⟩ := restartL_is loss T l n st a1 a2 a3
      refine ⟨?_, ?_, fun x hx => ?_⟩
      · show y.path :: _ = _
        rw [List.map_cons, ← i1]
      · show (restartL loss l n st).2 ≤ _
        rw [List.length_cons]
        omega
      · rcases List.mem_cons.1 hx with rfl | hx
        · exact ⟨h1 x (by simp), (h2 x (by simp)).1, (h2 x (by simp)).2, h3 x (by simp)⟩
        · exact i3 x hx
theorem inv_restart {s : St} {i T : Nat} {loss : Int} (h : Inv s i T) (hi : i ≤ 1000) : Inv (restartS s loss) (i + 1) (T + 1048576) := by
  obtain ⟨h1, h2, h3⟩ := restartL_is (u64 loss) T s.L 0 s.stamps h.path h.size h.kept
  have hm := h.more
  have hlen : (restartL (u64 loss) s.L 0 s.stamps).1.length = s.L.length := by
    have := congrArg List.length h1
    rwa [List.length_map, List.length_map] at this
  refine ⟨rises_paths h1.symm h.rises, by show (restartL (u64 loss) s.L 0 s.stamps).1.length ≤ _; rw [hlen]; exact hm.len, fun x hx => (h3 x hx).1, fun x hx => ?_, fun x hx => (h3 x hx).2.2.2, hm.rooms, hm.steps, ?_, by show (-1 : Int) ≤ -1; omega, by show (-1 : Int) ≤ _; omega⟩
  · have := h3 x hx
    omega
  · show (restartL (u64 loss) s.L 0 s.stamps).2 ≤ _
    have := h.stamps
    have := h.len
    omega
end Go.Proofs.YtcbnpdognadilaaGreat.Dk

/- A disk by its blocks, whichever it is; what a script's step makes of a disk. -/
namespace Go.Proofs.YtcbnpdognadilaaGreat.Dk
open Go.RowKit Tx Pm
set_option linter.unusedVariables false

/-- The document's own disk, by its blocks. -/
def RefAt (b : Nat) (w : World) (F : Nat → Prop) (s : St) : Prop := ∃ vL vR, At w b s vL vR ∧ ∀ i, F i ↔ Foot b vL vR i
/-- What a call leaves of a disk. -/
def Left (Obj : World → (Nat → Prop) → St → Prop) (w : World) (F : Nat → Prop) (s : St) (w' : World) : Prop := ∃ F', Obj w' F' s ∧ Chg F w w' ∧ ∀ g, F' g → F g ∨ w.heap.size ≤ g
theorem to_left {w w' : World} {b : Nat} {F : Nat → Prop} {vL vR : Value} {r : Nat × St} {e : Ending} (hF : ∀ i, F i ↔ Foot b vL vR i) (h : To w b vL vR r e w') : e = .returned (.int .i64 (r.1 : Nat)) ∧ Left (RefAt b) w F r.2 w' := by
  obtain ⟨he, vL', vR', hat, hc, hn⟩ := h
  exact ⟨he, Foot b vL' vR', ⟨vL', vR', hat, fun _ => Iff.rfl⟩, hc.mono (fun i hi => (hF i).2 hi), fun g hg => (hn g hg).imp (fun hh => (hF g).2 hh) id⟩
theorem RefAt.lt {b : Nat} {w : World} {F : Nat → Prop} {s : St} (h : RefAt b w F s) : ∀ i, F i → i < w.heap.size := by
  obtain ⟨vL, vR, hat, hF⟩ := h
  exact fun i hi => hat.lt i ((hF i).1 hi)
theorem RefAt.kept {b : Nat} {w w1 : World} {F : Nat → Prop} {s : St} (h : RefAt b w F s) (hk : ∀ i, F i → w1.heap[i]? = w.heap[i]?) : RefAt b w1 F s := by
  obtain ⟨vL, vR, hat, hF⟩ := h
  exact ⟨vL, vR, hat.kept (fun i hi => hk i ((hF i).2 hi)), hF⟩
/-- A kind of disk: where it stands, and what that hangs on. -/
structure Kind (Obj : World → (Nat → Prop) → St → Prop) : Prop where
  lt : ∀ {w F s}, Obj w F s → ∀ i, F i → i < w.heap.size
  kept : ∀ {w w1 F s}, Obj w F s → (∀ i, F i → w1.heap[i]? = w.heap[i]?) → Obj w1 F s
theorem ref_kind (b : Nat) : Kind (RefAt b) := ⟨fun h => h.lt, fun h hk => h.kept hk⟩

/-- What a step of a script is: its Kind, P, Q, N. -/
def stepS (s : St) (K : Int) (P Q : ByteArray) (N : Int) : St :=
  if K = 1 then (mkdirS s P).2 else if K = 2 then (writeS s P Q).2 else if K = 3 then (appendS s P Q).2 else if K = 4 then (syncS s P).2 else if K = 5 then (renameS s P Q).2 else if K = 6 then (removeS s P).2 else
  if K = 7 then (limitS s P N).2 else if K = 8 then { s with armed := if N < 0 then -1 else N } else if K = 9 then restartS s N else if K = 10 then (rotS s P N).2 else s
/-- Two disks apart, both of them in the state s. -/
def Pair (O1 O2 : World → (Nat → Prop) → St → Prop) (w : World) (F G : Nat → Prop) (s : St) : Prop := O1 w F s ∧ O2 w G s ∧ ∀ i, F i → ¬ G i
/-- Behind a call of the first, and then of the second. -/
theorem pair_calls {O1 O2 : World → (Nat → Prop) → St → Prop} (k1 : Kind O1) (k2 : Kind O2) {w w1 w2 : World} {F G : Nat → Prop} {s s' : St} (h : Pair O1 O2 w F G s) (h1 : Left O1 w F s' w1)
    (h2 : ∀ G0, (O2 w1 G s) → Left O2 w1 G s' w2 → G0 → True) (h2' : Left O2 w1 G s' w2) :
    ∃ F' G', Pair O1 O2 w2 F' G' s' ∧ Chg (fun i => F i ∨ G i) w w2 ∧ (∀ g, F' g → F g ∨ w.heap.size ≤ g) ∧ (∀ g, G' g → G g ∨ w.heap.size ≤ g) := by
  obtain ⟨o1, o2, hd⟩ := h
  obtain ⟨F', p1, c1, n1⟩ := h1
  obtain ⟨G', p2, c2, n2⟩ := h2'
  have hs1 := c1.size
  have hlt1 := k1.lt p1
  have hlt2 := k2.lt o2
  have hFG : ∀ i, F' i → ¬ G i := fun i hi hg => by
    rcases n1 i hi with hh | hh
    · exact hd i hh hg
    · have := hlt2 i hg
      omega
  refine ⟨F', G', ⟨k1.kept p1 (fun i hi => c2.block i (hlt1 i hi) (hFG i hi)), p2, fun i hi hg => ?_⟩, ?_, n1, fun g hg => (n2 g hg).imp id (fun hh => by omega)⟩
  · rcases n2 i hg with hh | hh
    · exact hFG i hi hh
    · have := hlt1 i hi
      omega
  · exact (c1.mono (fun i hi => .inl hi)).trans (G := G) c2 (fun i hi => .inl (.inr hi))
/-- The second is there behind a call of the first. -/
theorem pair_other {O1 O2 : World → (Nat → Prop) → St → Prop} (k2 : Kind O2) {w w1 : World} {F G : Nat → Prop} {s s' : St} (h : Pair O1 O2 w F G s) (h1 : Left O1 w F s' w1) : O2 w1 G s := by
  obtain ⟨o1, o2, hd⟩ := h
  obtain ⟨F', p1, c1, n1⟩ := h1
  exact k2.kept o2 (fun i hi => c1.block i (k2.lt o2 i hi) (fun hf => hd i hf hi))
end Go.Proofs.YtcbnpdognadilaaGreat.Dk

/- The regions of does, step by step. -/
namespace Go.Proofs.YtcbnpdognadilaaGreat.Dk
open Go.RowKit Tx Pm
set_option linter.unusedVariables false

/-- A step's variable, at block bs. -/
def StepAt (bs : Nat) (K : Int) (P Q : ByteArray) (M : Int) (W : World) : Prop := W.cell? ⟨bs, 0, none⟩ = some (.int .i64 K) ∧ W.cell? ⟨bs, 1, none⟩ = some (.string P) ∧ W.cell? ⟨bs, 2, none⟩ = some (.string Q) ∧ W.cell? ⟨bs, 3, none⟩ = some (.int .i64 M)

set_option maxRecDepth 100000 in
set_option maxHeartbeats 2000000 in
theorem doesMkdir (ops : Array Oper) (hops : ops = (Rg.opsOf Tryz.f8 3)) (id : Nat) (bs : Nat) (K M : Int) (P Q : ByteArray) (X : Nat) (dv wv : Value) {u2 u3 u4 u6 u7 u8 u9 u10 u11 u12 u13 u14 u15 u16 u17 u18 u19 u20 u21 u22 u23 u24 u25 u26 u27 u28 u29 u30 u31 u32 u33 u34 u35 u36 u37 u38 u39 u40 u41 u42 u43 u44 u45 u46 u47 u48 u49 u50 u51 u52 u53 u54 u55 u56 u57 u58 u59 u60 u61 u62 u63 u64 u65 u66 u67 u68 u69 u70 u71 u72 u73 u74 u75 u76 u77 u78 u79 u80 u81 u82 u83 u84 u85 u86 u87 u88 u89 u90 u91 u92 u93 u94 u95 u96 u97 u98 u99 u100 u101 u102 u103 u104 u105 u106 u107 u108 u109 u110 u111 u112 u113 u114 u115 u116 u117 u118 u119 u120 u121 u122 u123 u124 u125 u126 u127 u128 u129 u130 u131 u132 u133 u134 u135 u136 u137 u138 u139 u140 u141 u142 u143 u144 : Value} (w : World) (A B : World → Prop)
    (hS : StepAt bs K P Q M w) (hd : Calls Tryz.prog 14 #[dv, (.string P)] w.drew fun e w' => e = .returned (.int .i64 (X : Int)) ∧ A w') (hAS : ∀ W, A W → StepAt bs K P Q M W)
    (hw : ∀ W, A W → Calls Tryz.prog 19 #[wv, (.string P)] W fun e w' => e = .returned (.int .i64 (X : Int)) ∧ B w') (hBS : ∀ W, B W → StepAt bs K P Q M W) :
    (Code.region id ops true).wp Tryz.prog (Rg.Only fun a' w' => a' = ⟨#[dv, wv, u2, u3, u4, (.pointer (some ⟨bs, 0, none⟩)), (.bool true), u7, u8, u9, u10, dv, (.pointer (some ⟨bs, 1, none⟩)), (.string P), (.int .i64 (X : Int)), wv, (.pointer (some ⟨bs, 1, none⟩)), (.string P), (.int .i64 (X : Int)), (.bool true), u20, u21, u22, u23, u24, u25, u26, u27, u28, u29, u30, u31, u32, u33, u34, u35, u36, u37, u38, u39, u40, u41, u42, u43, u44, u45, u46, u47, u48, u49, u50, u51, u52, u53, u54, u55, u56, u57, u58, u59, u60, u61, u62, u63, u64, u65, u66, u67, u68, u69, u70, u71, u72, u73, u74, u75, u76, u77, u78, u79, u80, u81, u82, u83, u84, u85, u86, u87, u88, u89, u90, u91, u92, u93, u94, u95, u96, u97, u98, u99, u100, u101, u102, u103, u104, u105, u106, u107, u108, u109, u110, u111, u112, u113, u114, u115, u116, u117, u118, u119, u120, u121, u122, u123, u124, u125, u126, u127, u128, u129, u130, u131, u132, u133, u134, u135, u136, u137, u138, u139, u140, u141, u142, u143, u144], []⟩ ∧ B w') ⟨#[dv, wv, u2, u3, u4, (.pointer (some ⟨bs, 0, none⟩)), u6, u7, u8, u9, u10, u11, u12, u13, u14, u15, u16, u17, u18, u19, u20, u21, u22, u23, u24, u25, u26, u27, u28, u29, u30, u31, u32, u33, u34, u35, u36, u37, u38, u39, u40, u41, u42, u43, u44, u45, u46, u47, u48, u49, u50, u51, u52, u53, u54, u55, u56, u57, u58, u59, u60, u61, u62, u63, u64, u65, u66, u67, u68, u69, u70, u71, u72, u73, u74, u75, u76, u77, u78, u79, u80, u81, u82, u83, u84, u85, u86, u87, u88, u89, u90, u91, u92, u93, u94, u95, u96, u97, u98, u99, u100, u101, u102, u103, u104, u105, u106, u107, u108, u109, u110, u111, u112, u113, u114, u115, u116, u117, u118, u119, u120, u121, u122, u123, u124, u125, u126, u127, u128, u129, u130, u131, u132, u133, u134, u135, u136, u137, u138, u139, u140, u141, u142, u143, u144], []⟩ w := by
  subst hops
  have hNS : Region.noSelect (Rg.opsOf Tryz.f8 3) = true := by kernel_rfl
  refine wp_region_held_drew (S := StepAt bs K P Q M) (by kernel_rfl) hS (fun hHeld => ?_)
  rw [show (Rg.opsOf Tryz.f8 3).size = 10 by kernel_rfl]
  refine Rg.take (ops := (Rg.opsOf Tryz.f8 3)) 0 (some 11) (dv) hNS (by kernel_rfl) (by kernel_rfl) (by kernel_rfl) (by kernel_rfl) (by kernel_rfl) hHeld (Rg.y_move (x := (Operand.tmp 0)) (Or.inl (by kernel_rfl)) (by kernel_rfl)) ?_
  refine Rg.take (ops := (Rg.opsOf Tryz.f8 3)) 1 (some 12) ((.pointer (some ⟨bs, 1, none⟩))) hNS (by kernel_rfl) (by kernel_rfl) (by kernel_rfl) (by kernel_rfl) (by kernel_rfl) hHeld (Rg.y_field (T := 29) (k := 1) (x := (Operand.tmp 5)) (vx := (.pointer (some ⟨bs, 0, none⟩))) (by kernel_rfl) (by kernel_rfl) ?_) ?_
  · (intro w hSw; clear hSw; go_simp)
  refine Rg.take (ops := (Rg.opsOf Tryz.f8 3)) 2 (some 13) ((.string P)) hNS (by kernel_rfl) (by kernel_rfl) (by kernel_rfl) (by kernel_rfl) (by kernel_rfl) hHeld (Rg.y_load (T := 9) (x := (Operand.tmp 12)) (vx := (.pointer (some ⟨bs, 1, none⟩))) (by kernel_rfl) (by kernel_rfl) ?_) ?_
  · (intro w hSw; obtain ⟨hS0, hS1, hS2, hS3⟩ := hSw; go_simp)
  refine Rg.take (ops := (Rg.opsOf Tryz.f8 3)) 4 (some 15) (wv) hNS (by kernel_rfl) (by kernel_rfl) (by kernel_rfl) (by kernel_rfl) (by kernel_rfl) hHeld (Rg.y_move (x := (Operand.tmp 1)) (Or.inl (by kernel_rfl)) (by kernel_rfl)) ?_
  refine Rg.take (ops := (Rg.opsOf Tryz.f8 3)) 5 (some 16) ((.pointer (some ⟨bs, 1, none⟩))) hNS (by kernel_rfl) (by kernel_rfl) (by kernel_rfl) (by kernel_rfl) (by kernel_rfl) hHeld (Rg.y_field (T := 29) (k := 1) (x := (Operand.tmp 5)) (vx := (.pointer (some ⟨bs, 0, none⟩))) (by kernel_rfl) (by kernel_rfl) ?_) ?_
  · (intro w hSw; clear hSw; go_simp)
  refine Rg.take (ops := (Rg.opsOf Tryz.f8 3)) 6 (some 17) ((.string P)) hNS (by kernel_rfl) (by kernel_rfl) (by kernel_rfl) (by kernel_rfl) (by kernel_rfl) hHeld (Rg.y_load (T := 9) (x := (Operand.tmp 16)) (vx := (.pointer (some ⟨bs, 1, none⟩))) (by kernel_rfl) (by kernel_rfl) ?_) ?_
  · (intro w hSw; obtain ⟨hS0, hS1, hS2, hS3⟩ := hSw; go_simp)
  refine Rg.call (ops := (Rg.opsOf Tryz.f8 3)) (fn := Tryz.f14) (xs := #[Operand.tmp 11, Operand.tmp 13]) (ats := #[23, 9]) 3 (some 14) 14 #[dv, (.string P)] (by kernel_rfl) (by kernel_rfl) (by kernel_rfl) (by kernel_rfl) (by kernel_rfl) Tryz.func14 (by kernel_rfl) (by kernel_rfl) (by kernel_rfl) ?_
  refine hd.mono ?_
  rintro e w5 ⟨rfl, hA5⟩
  refine ⟨_, rfl, hAS _ hA5, fun hHeld => ?_⟩
  refine Rg.call (ops := (Rg.opsOf Tryz.f8 3)) (fn := Tryz.f19) (xs := #[Operand.tmp 15, Operand.tmp 17]) (ats := #[26, 9]) 7 (some 18) 19 #[wv, (.string P)] (by kernel_rfl) (by kernel_rfl) (by kernel_rfl) (by kernel_rfl) (by kernel_rfl) Tryz.func19 (by kernel_rfl) (by kernel_rfl) (by kernel_rfl) ?_
  refine (hw _ hA5).mono ?_
  rintro e w6 ⟨rfl, hB6⟩
  refine ⟨_, rfl, hBS _ hB6, fun hHeld => ?_⟩
  refine Rg.take (ops := (Rg.opsOf Tryz.f8 3)) 8 (some 19) ((.bool true)) hNS (by kernel_rfl) (by kernel_rfl) (by kernel_rfl) (by kernel_rfl) (by kernel_rfl) hHeld (Rg.y_bin (b := BinOp.eql) (T := 3) (R' := 3) (x := (Operand.tmp 14)) (y := (Operand.tmp 18)) (vx := (.int .i64 (X : Int))) (vy := (.int .i64 (X : Int))) (by kernel_rfl) (by kernel_rfl) (by kernel_rfl) ?_) ?_
  · (intro w hSw; clear hSw; go_simp)
  refine Rg.take (ops := (Rg.opsOf Tryz.f8 3)) 9 (some 6) ((.bool true)) hNS (by kernel_rfl) (by kernel_rfl) (by kernel_rfl) (by kernel_rfl) (by kernel_rfl) hHeld (Rg.y_move (x := (Operand.tmp 19)) (Or.inr (by kernel_rfl)) (by kernel_rfl)) ?_
  refine Rg.done (ops := (Rg.opsOf Tryz.f8 3)) (by kernel_rfl) ?_
  exact ⟨by kernel_rfl, hB6⟩

set_option maxRecDepth 100000 in
set_option maxHeartbeats 2000000 in
theorem doesWrite (ops : Array Oper) (hops : ops = (Rg.opsOf Tryz.f8 5)) (id : Nat) (bs : Nat) (K M : Int) (P Q : ByteArray) (X : Nat) (dv wv : Value) {u2 u3 u4 u6 u7 u8 u9 u10 u11 u12 u13 u14 u15 u16 u17 u18 u19 u20 u21 u22 u23 u24 u25 u26 u27 u28 u29 u30 u31 u32 u33 u34 u35 u36 u37 u38 u39 u40 u41 u42 u43 u44 u45 u46 u47 u48 u49 u50 u51 u52 u53 u54 u55 u56 u57 u58 u59 u60 u61 u62 u63 u64 u65 u66 u67 u68 u69 u70 u71 u72 u73 u74 u75 u76 u77 u78 u79 u80 u81 u82 u83 u84 u85 u86 u87 u88 u89 u90 u91 u92 u93 u94 u95 u96 u97 u98 u99 u100 u101 u102 u103 u104 u105 u106 u107 u108 u109 u110 u111 u112 u113 u114 u115 u116 u117 u118 u119 u120 u121 u122 u123 u124 u125 u126 u127 u128 u129 u130 u131 u132 u133 u134 u135 u136 u137 u138 u139 u140 u141 u142 u143 u144 : Value} (w : World) (A B : World → Prop)
    (hS : StepAt bs K P Q M w) (hd : Calls Tryz.prog 15 #[dv, (.string P), (.string Q)] w.drew fun e w' => e = .returned (.int .i64 (X : Int)) ∧ A w') (hAS : ∀ W, A W → StepAt bs K P Q M W)
    (hw : ∀ W, A W → Calls Tryz.prog 20 #[wv, (.string P), (.string Q)] W fun e w' => e = .returned (.int .i64 (X : Int)) ∧ B w') (hBS : ∀ W, B W → StepAt bs K P Q M W) :
    (Code.region id ops true).wp Tryz.prog (Rg.Only fun a' w' => a' = ⟨#[dv, wv, u2, u3, u4, (.pointer (some ⟨bs, 0, none⟩)), (.bool true), u7, u8, u9, u10, u11, u12, u13, u14, u15, u16, u17, u18, u19, u20, u21, dv, (.pointer (some ⟨bs, 1, none⟩)), (.string P), (.pointer (some ⟨bs, 2, none⟩)), (.string Q), (.int .i64 (X : Int)), wv, (.pointer (some ⟨bs, 1, none⟩)), (.string P), (.pointer (some ⟨bs, 2, none⟩)), (.string Q), (.int .i64 (X : Int)), (.bool true), u35, u36, u37, u38, u39, u40, u41, u42, u43, u44, u45, u46, u47, u48, u49, u50, u51, u52, u53, u54, u55, u56, u57, u58, u59, u60, u61, u62, u63, u64, u65, u66, u67, u68, u69, u70, u71, u72, u73, u74, u75, u76, u77, u78, u79, u80, u81, u82, u83, u84, u85, u86, u87, u88, u89, u90, u91, u92, u93, u94, u95, u96, u97, u98, u99, u100, u101, u102, u103, u104, u105, u106, u107, u108, u109, u110, u111, u112, u113, u114, u115, u116, u117, u118, u119, u120, u121, u122, u123, u124, u125, u126, u127, u128, u129, u130, u131, u132, u133, u134, u135, u136, u137, u138, u139, u140, u141, u142, u143, u144], []⟩ ∧ B w') ⟨#[dv, wv, u2, u3, u4, (.pointer (some ⟨bs, 0, none⟩)), u6, u7, u8, u9, u10, u11, u12, u13, u14, u15, u16, u17, u18, u19, u20, u21, u22, u23, u24, u25, u26, u27, u28, u29, u30, u31, u32, u33, u34, u35, u36, u37, u38, u39, u40, u41, u42, u43, u44, u45, u46, u47, u48, u49, u50, u51, u52, u53, u54, u55, u56, u57, u58, u59, u60, u61, u62, u63, u64, u65, u66, u67, u68, u69, u70, u71, u72, u73, u74, u75, u76, u77, u78, u79, u80, u81, u82, u83, u84, u85, u86, u87, u88, u89, u90, u91, u92, u93, u94, u95, u96, u97, u98, u99, u100, u101, u102, u103, u104, u105, u106, u107, u108, u109, u110, u111, u112, u113, u114, u115, u116, u117, u118, u119, u120, u121, u122, u123, u124, u125, u126, u127, u128, u129, u130, u131, u132, u133, u134, u135, u136, u137, u138, u139, u140, u141, u142, u143, u144], []⟩ w := by
  subst hops
  have hNS : Region.noSelect (Rg.opsOf Tryz.f8 5) = true := by kernel_rfl
  refine wp_region_held_drew (S := StepAt bs K P Q M) (by kernel_rfl) hS (fun hHeld => ?_)
  rw [show (Rg.opsOf Tryz.f8 5).size = 14 by kernel_rfl]
  refine Rg.take (ops := (Rg.opsOf Tryz.f8 5)) 0 (some 22) (dv) hNS (by kernel_rfl) (by kernel_rfl) (by kernel_rfl) (by kernel_rfl) (by kernel_rfl) hHeld (Rg.y_move (x := (Operand.tmp 0)) (Or.inl (by kernel_rfl)) (by kernel_rfl)) ?_
  refine Rg.take (ops := (Rg.opsOf Tryz.f8 5)) 1 (some 23) ((.pointer (some ⟨bs, 1, none⟩))) hNS (by kernel_rfl) (by kernel_rfl) (by kernel_rfl) (by kernel_rfl) (by kernel_rfl) hHeld (Rg.y_field (T := 29) (k := 1) (x := (Operand.tmp 5)) (vx := (.pointer (some ⟨bs, 0, none⟩))) (by kernel_rfl) (by kernel_rfl) ?_) ?_
  · (intro w hSw; clear hSw; go_simp)
  refine Rg.take (ops := (Rg.opsOf Tryz.f8 5)) 2 (some 24) ((.string P)) hNS (by kernel_rfl) (by kernel_rfl) (by kernel_rfl) (by kernel_rfl) (by kernel_rfl) hHeld (Rg.y_load (T := 9) (x := (Operand.tmp 23)) (vx := (.pointer (some ⟨bs, 1, none⟩))) (by kernel_rfl) (by kernel_rfl) ?_) ?_
  · (intro w hSw; obtain ⟨hS0, hS1, hS2, hS3⟩ := hSw; go_simp)
  refine Rg.take (ops := (Rg.opsOf Tryz.f8 5)) 3 (some 25) ((.pointer (some ⟨bs, 2, none⟩))) hNS (by kernel_rfl) (by kernel_rfl) (by kernel_rfl) (by kernel_rfl) (by kernel_rfl) hHeld (Rg.y_field (T := 29) (k := 2) (x := (Operand.tmp 5)) (vx := (.pointer (some ⟨bs, 0, none⟩))) (by kernel_rfl) (by kernel_rfl) ?_) ?_
  · (intro w hSw; clear hSw; go_simp)
  refine Rg.take (ops := (Rg.opsOf Tryz.f8 5)) 4 (some 26) ((.string Q)) hNS (by kernel_rfl) (by kernel_rfl) (by kernel_rfl) (by kernel_rfl) (by kernel_rfl) hHeld (Rg.y_load (T := 9) (x := (Operand.tmp 25)) (vx := (.pointer (some ⟨bs, 2, none⟩))) (by kernel_rfl) (by kernel_rfl) ?_) ?_
  · (intro w hSw; obtain ⟨hS0, hS1, hS2, hS3⟩ := hSw; go_simp)
  refine Rg.take (ops := (Rg.opsOf Tryz.f8 5)) 6 (some 28) (wv) hNS (by kernel_rfl) (by kernel_rfl) (by kernel_rfl) (by kernel_rfl) (by kernel_rfl) hHeld (Rg.y_move (x := (Operand.tmp 1)) (Or.inl (by kernel_rfl)) (by kernel_rfl)) ?_
  refine Rg.take (ops := (Rg.opsOf Tryz.f8 5)) 7 (some 29) ((.pointer (some ⟨bs, 1, none⟩))) hNS (by kernel_rfl) (by kernel_rfl) (by kernel_rfl) (by kernel_rfl) (by kernel_rfl) hHeld (Rg.y_field (T := 29) (k := 1) (x := (Operand.tmp 5)) (vx := (.pointer (some ⟨bs, 0, none⟩))) (by kernel_rfl) (by kernel_rfl) ?_) ?_
  · (intro w hSw; clear hSw; go_simp)
  refine Rg.take (ops := (Rg.opsOf Tryz.f8 5)) 8 (some 30) ((.string P)) hNS (by kernel_rfl) (by kernel_rfl) (by kernel_rfl) (by kernel_rfl) (by kernel_rfl) hHeld (Rg.y_load (T := 9) (x := (Operand.tmp 29)) (vx := (.pointer (some ⟨bs, 1, none⟩))) (by kernel_rfl) (by kernel_rfl) ?_) ?_
  · (intro w hSw; obtain ⟨hS0, hS1, hS2, hS3⟩ := hSw; go_simp)
  refine Rg.take (ops := (Rg.opsOf Tryz.f8 5)) 9 (some 31) ((.pointer (some ⟨bs, 2, none⟩))) hNS (by kernel_rfl) (by kernel_rfl) (by kernel_rfl) (by kernel_rfl) (by kernel_rfl) hHeld (Rg.y_field (T := 29) (k := 2) (x := (Operand.tmp 5)) (vx := (.pointer (some ⟨bs, 0, none⟩))) (by kernel_rfl) (by kernel_rfl) ?_) ?_
  · (intro w hSw; clear hSw; go_simp)
  refine Rg.take (ops := (Rg.opsOf Tryz.f8 5)) 10 (some 32) ((.string Q)) hNS (by kernel_rfl) (by kernel_rfl) (by kernel_rfl) (by kernel_rfl) (by kernel_rfl) hHeld (Rg.y_load (T := 9) (x := (Operand.tmp 31)) (vx := (.pointer (some ⟨bs, 2, none⟩))) (by kernel_rfl) (by kernel_rfl) ?_) ?_
  · (intro w hSw; obtain ⟨hS0, hS1, hS2, hS3⟩ := hSw; go_simp)
  refine Rg.call (ops := (Rg.opsOf Tryz.f8 5)) (fn := Tryz.f15) (xs := #[Operand.tmp 22, Operand.tmp 24, Operand.tmp 26]) (ats := #[23, 9, 9]) 5 (some 27) 15 #[dv, (.string P), (.string Q)] (by kernel_rfl) (by kernel_rfl) (by kernel_rfl) (by kernel_rfl) (by kernel_rfl) Tryz.func15 (by kernel_rfl) (by kernel_rfl) (by kernel_rfl) ?_
  refine hd.mono ?_
  rintro e w5 ⟨rfl, hA5⟩
  refine ⟨_, rfl, hAS _ hA5, fun hHeld => ?_⟩
  refine Rg.call (ops := (Rg.opsOf Tryz.f8 5)) (fn := Tryz.f20) (xs := #[Operand.tmp 28, Operand.tmp 30, Operand.tmp 32]) (ats := #[26, 9, 9]) 11 (some 33) 20 #[wv, (.string P), (.string Q)] (by kernel_rfl) (by kernel_rfl) (by kernel_rfl) (by kernel_rfl) (by kernel_rfl) Tryz.func20 (by kernel_rfl) (by kernel_rfl) (by kernel_rfl) ?_
  refine (hw _ hA5).mono ?_
  rintro e w6 ⟨rfl, hB6⟩
  refine ⟨_, rfl, hBS _ hB6, fun hHeld => ?_⟩
  refine Rg.take (ops := (Rg.opsOf Tryz.f8 5)) 12 (some 34) ((.bool true)) hNS (by kernel_rfl) (by kernel_rfl) (by kernel_rfl) (by kernel_rfl) (by kernel_rfl) hHeld (Rg.y_bin (b := BinOp.eql) (T := 3) (R' := 3) (x := (Operand.tmp 27)) (y := (Operand.tmp 33)) (vx := (.int .i64 (X : Int))) (vy := (.int .i64 (X : Int))) (by kernel_rfl) (by kernel_rfl) (by kernel_rfl) ?_) ?_
  · (intro w hSw; clear hSw; go_simp)
  refine Rg.take (ops := (Rg.opsOf Tryz.f8 5)) 13 (some 6) ((.bool true)) hNS (by kernel_rfl) (by kernel_rfl) (by kernel_rfl) (by kernel_rfl) (by kernel_rfl) hHeld (Rg.y_move (x := (Operand.tmp 34)) (Or.inr (by kernel_rfl)) (by kernel_rfl)) ?_
  refine Rg.done (ops := (Rg.opsOf Tryz.f8 5)) (by kernel_rfl) ?_
  exact ⟨by kernel_rfl, hB6⟩

set_option maxRecDepth 100000 in
set_option maxHeartbeats 2000000 in
theorem doesAppend (ops : Array Oper) (hops : ops = (Rg.opsOf Tryz.f8 7)) (id : Nat) (bs : Nat) (K M : Int) (P Q : ByteArray) (X : Nat) (dv wv : Value) {u2 u3 u4 u6 u7 u8 u9 u10 u11 u12 u13 u14 u15 u16 u17 u18 u19 u20 u21 u22 u23 u24 u25 u26 u27 u28 u29 u30 u31 u32 u33 u34 u35 u36 u37 u38 u39 u40 u41 u42 u43 u44 u45 u46 u47 u48 u49 u50 u51 u52 u53 u54 u55 u56 u57 u58 u59 u60 u61 u62 u63 u64 u65 u66 u67 u68 u69 u70 u71 u72 u73 u74 u75 u76 u77 u78 u79 u80 u81 u82 u83 u84 u85 u86 u87 u88 u89 u90 u91 u92 u93 u94 u95 u96 u97 u98 u99 u100 u101 u102 u103 u104 u105 u106 u107 u108 u109 u110 u111 u112 u113 u114 u115 u116 u117 u118 u119 u120 u121 u122 u123 u124 u125 u126 u127 u128 u129 u130 u131 u132 u133 u134 u135 u136 u137 u138 u139 u140 u141 u142 u143 u144 : Value} (w : World) (A B : World → Prop)
    (hS : StepAt bs K P Q M w) (hd : Calls Tryz.prog 21 #[dv, (.string P), (.string Q)] w.drew fun e w' => e = .returned (.int .i64 (X : Int)) ∧ A w') (hAS : ∀ W, A W → StepAt bs K P Q M W)
    (hw : ∀ W, A W → Calls Tryz.prog 22 #[wv, (.string P), (.string Q)] W fun e w' => e = .returned (.int .i64 (X : Int)) ∧ B w') (hBS : ∀ W, B W → StepAt bs K P Q M W) :
    (Code.region id ops true).wp Tryz.prog (Rg.Only fun a' w' => a' = ⟨#[dv, wv, u2, u3, u4, (.pointer (some ⟨bs, 0, none⟩)), (.bool true), u7, u8, u9, u10, u11, u12, u13, u14, u15, u16, u17, u18, u19, u20, u21, u22, u23, u24, u25, u26, u27, u28, u29, u30, u31, u32, u33, u34, u35, u36, dv, (.pointer (some ⟨bs, 1, none⟩)), (.string P), (.pointer (some ⟨bs, 2, none⟩)), (.string Q), (.int .i64 (X : Int)), wv, (.pointer (some ⟨bs, 1, none⟩)), (.string P), (.pointer (some ⟨bs, 2, none⟩)), (.string Q), (.int .i64 (X : Int)), (.bool true), u50, u51, u52, u53, u54, u55, u56, u57, u58, u59, u60, u61, u62, u63, u64, u65, u66, u67, u68, u69, u70, u71, u72, u73, u74, u75, u76, u77, u78, u79, u80, u81, u82, u83, u84, u85, u86, u87, u88, u89, u90, u91, u92, u93, u94, u95, u96, u97, u98, u99, u100, u101, u102, u103, u104, u105, u106, u107, u108, u109, u110, u111, u112, u113, u114, u115, u116, u117, u118, u119, u120, u121, u122, u123, u124, u125, u126, u127, u128, u129, u130, u131, u132, u133, u134, u135, u136, u137, u138, u139, u140, u141, u142, u143, u144], []⟩ ∧ B w') ⟨#[dv, wv, u2, u3, u4, (.pointer (some ⟨bs, 0, none⟩)), u6, u7, u8, u9, u10, u11, u12, u13, u14, u15, u16, u17, u18, u19, u20, u21, u22, u23, u24, u25, u26, u27, u28, u29, u30, u31, u32, u33, u34, u35, u36, u37, u38, u39, u40, u41, u42, u43, u44, u45, u46, u47, u48, u49, u50, u51, u52, u53, u54, u55, u56, u57, u58, u59, u60, u61, u62, u63, u64, u65, u66, u67, u68, u69, u70, u71, u72, u73, u74, u75, u76, u77, u78, u79, u80, u81, u82, u83, u84, u85, u86, u87, u88, u89, u90, u91, u92, u93, u94, u95, u96, u97, u98, u99, u100, u101, u102, u103, u104, u105, u106, u107, u108, u109, u110, u111, u112, u113, u114, u115, u116, u117, u118, u119, u120, u121, u122, u123, u124, u125, u126, u127, u128, u129, u130, u131, u132, u133, u134, u135, u136, u137, u138, u139, u140, u141, u142, u143, u144], []⟩ w := by
  subst hops
  have hNS : Region.noSelect (Rg.opsOf Tryz.f8 7) = true := by kernel_rfl
  refine wp_region_held_drew (S := StepAt bs K P Q M) (by kernel_rfl) hS (fun hHeld => ?_)
  rw [show (Rg.opsOf Tryz.f8 7).size = 14 by kernel_rfl]
  refine Rg.take (ops := (Rg.opsOf Tryz.f8 7)) 0 (some 37) (dv) hNS (by kernel_rfl) (by kernel_rfl) (by kernel_rfl) (by kernel_rfl) (by kernel_rfl) hHeld (Rg.y_move (x := (Operand.tmp 0)) (Or.inl (by kernel_rfl)) (by kernel_rfl)) ?_
  refine Rg.take (ops := (Rg.opsOf Tryz.f8 7)) 1 (some 38) ((.pointer (some ⟨bs, 1, none⟩))) hNS (by kernel_rfl) (by kernel_rfl) (by kernel_rfl) (by kernel_rfl) (by kernel_rfl) hHeld (Rg.y_field (T := 29) (k := 1) (x := (Operand.tmp 5)) (vx := (.pointer (some ⟨bs, 0, none⟩))) (by kernel_rfl) (by kernel_rfl) ?_) ?_
  · (intro w hSw; clear hSw; go_simp)
  refine Rg.take (ops := (Rg.opsOf Tryz.f8 7)) 2 (some 39) ((.string P)) hNS (by kernel_rfl) (by kernel_rfl) (by kernel_rfl) (by kernel_rfl) (by kernel_rfl) hHeld (Rg.y_load (T := 9) (x := (Operand.tmp 38)) (vx := (.pointer (some ⟨bs, 1, none⟩))) (by kernel_rfl) (by kernel_rfl) ?_) ?_
  · (intro w hSw; obtain ⟨hS0, hS1, hS2, hS3⟩ := hSw; go_simp)
  refine Rg.take (ops := (Rg.opsOf Tryz.f8 7)) 3 (some 40) ((.pointer (some ⟨bs, 2, none⟩))) hNS (by kernel_rfl) (by kernel_rfl) (by kernel_rfl) (by kernel_rfl) (by kernel_rfl) hHeld (Rg.y_field (T := 29) (k := 2) (x := (Operand.tmp 5)) (vx := (.pointer (some ⟨bs, 0, none⟩))) (by kernel_rfl) (by kernel_rfl) ?_) ?_
  · (intro w hSw; clear hSw; go_simp)
  refine Rg.take (ops := (Rg.opsOf Tryz.f8 7)) 4 (some 41) ((.string Q)) hNS (by kernel_rfl) (by kernel_rfl) (by kernel_rfl) (by kernel_rfl) (by kernel_rfl) hHeld (Rg.y_load (T := 9) (x := (Operand.tmp 40)) (vx := (.pointer (some ⟨bs, 2, none⟩))) (by kernel_rfl) (by kernel_rfl) ?_) ?_
  · (intro w hSw; obtain ⟨hS0, hS1, hS2, hS3⟩ := hSw; go_simp)
  refine Rg.take (ops := (Rg.opsOf Tryz.f8 7)) 6 (some 43) (wv) hNS (by kernel_rfl) (by kernel_rfl) (by kernel_rfl) (by kernel_rfl) (by kernel_rfl) hHeld (Rg.y_move (x := (Operand.tmp 1)) (Or.inl (by kernel_rfl)) (by kernel_rfl)) ?_
  refine Rg.take (ops := (Rg.opsOf Tryz.f8 7)) 7 (some 44) ((.pointer (some ⟨bs, 1, none⟩))) hNS (by kernel_rfl) (by kernel_rfl) (by kernel_rfl) (by kernel_rfl) (by kernel_rfl) hHeld (Rg.y_field (T := 29) (k := 1) (x := (Operand.tmp 5)) (vx := (.pointer (some ⟨bs, 0, none⟩))) (by kernel_rfl) (by kernel_rfl) ?_) ?_
  · (intro w hSw; clear hSw; go_simp)
  refine Rg.take (ops := (Rg.opsOf Tryz.f8 7)) 8 (some 45) ((.string P)) hNS (by kernel_rfl) (by kernel_rfl) (by kernel_rfl) (by kernel_rfl) (by kernel_rfl) hHeld (Rg.y_load (T := 9) (x := (Operand.tmp 44)) (vx := (.pointer (some ⟨bs, 1, none⟩))) (by kernel_rfl) (by kernel_rfl) ?_) ?_
  · (intro w hSw; obtain ⟨hS0, hS1, hS2, hS3⟩ := hSw; go_simp)
  refine Rg.take (ops := (Rg.opsOf Tryz.f8 7)) 9 (some 46) ((.pointer (some ⟨bs, 2, none⟩))) hNS (by kernel_rfl) (by kernel_rfl) (by kernel_rfl) (by kernel_rfl) (by kernel_rfl) hHeld (Rg.y_field (T := 29) (k := 2) (x := (Operand.tmp 5)) (vx := (.pointer (some ⟨bs, 0, none⟩))) (by kernel_rfl) (by kernel_rfl) ?_) ?_
  · (intro w hSw; clear hSw; go_simp)
  refine Rg.take (ops := (Rg.opsOf Tryz.f8 7)) 10 (some 47) ((.string Q)) hNS (by kernel_rfl) (by kernel_rfl) (by kernel_rfl) (by kernel_rfl) (by kernel_rfl) hHeld (Rg.y_load (T := 9) (x := (Operand.tmp 46)) (vx := (.pointer (some ⟨bs, 2, none⟩))) (by kernel_rfl) (by kernel_rfl) ?_) ?_
  · (intro w hSw; obtain ⟨hS0, hS1, hS2, hS3⟩ := hSw; go_simp)
  refine Rg.call (ops := (Rg.opsOf Tryz.f8 7)) (fn := Tryz.f21) (xs := #[Operand.tmp 37, Operand.tmp 39, Operand.tmp 41]) (ats := #[23, 9, 9]) 5 (some 42) 21 #[dv, (.string P), (.string Q)] (by kernel_rfl) (by kernel_rfl) (by kernel_rfl) (by kernel_rfl) (by kernel_rfl) Tryz.func21 (by kernel_rfl) (by kernel_rfl) (by kernel_rfl) ?_
  refine hd.mono ?_
  rintro e w5 ⟨rfl, hA5⟩
  refine ⟨_, rfl, hAS _ hA5, fun hHeld => ?_⟩
  refine Rg.call (ops := (Rg.opsOf Tryz.f8 7)) (fn := Tryz.f22) (xs := #[Operand.tmp 43, Operand.tmp 45, Operand.tmp 47]) (ats := #[26, 9, 9]) 11 (some 48) 22 #[wv, (.string P), (.string Q)] (by kernel_rfl) (by kernel_rfl) (by kernel_rfl) (by kernel_rfl) (by kernel_rfl) Tryz.func22 (by kernel_rfl) (by kernel_rfl) (by kernel_rfl) ?_
  refine (hw _ hA5).mono ?_
  rintro e w6 ⟨rfl, hB6⟩
  refine ⟨_, rfl, hBS _ hB6, fun hHeld => ?_⟩
  refine Rg.take (ops := (Rg.opsOf Tryz.f8 7)) 12 (some 49) ((.bool true)) hNS (by kernel_rfl) (by kernel_rfl) (by kernel_rfl) (by kernel_rfl) (by kernel_rfl) hHeld (Rg.y_bin (b := BinOp.eql) (T := 3) (R' := 3) (x := (Operand.tmp 42)) (y := (Operand.tmp 48)) (vx := (.int .i64 (X : Int))) (vy := (.int .i64 (X : Int))) (by kernel_rfl) (by kernel_rfl) (by kernel_rfl) ?_) ?_
  · (intro w hSw; clear hSw; go_simp)
  refine Rg.take (ops := (Rg.opsOf Tryz.f8 7)) 13 (some 6) ((.bool true)) hNS (by kernel_rfl) (by kernel_rfl) (by kernel_rfl) (by kernel_rfl) (by kernel_rfl) hHeld (Rg.y_move (x := (Operand.tmp 49)) (Or.inr (by kernel_rfl)) (by kernel_rfl)) ?_
  refine Rg.done (ops := (Rg.opsOf Tryz.f8 7)) (by kernel_rfl) ?_
  exact ⟨by kernel_rfl, hB6⟩

set_option maxRecDepth 100000 in
set_option maxHeartbeats 2000000 in
theorem doesSync (ops : Array Oper) (hops : ops = (Rg.opsOf Tryz.f8 9)) (id : Nat) (bs : Nat) (K M : Int) (P Q : ByteArray) (X : Nat) (dv wv : Value) {u2 u3 u4 u6 u7 u8 u9 u10 u11 u12 u13 u14 u15 u16 u17 u18 u19 u20 u21 u22 u23 u24 u25 u26 u27 u28 u29 u30 u31 u32 u33 u34 u35 u36 u37 u38 u39 u40 u41 u42 u43 u44 u45 u46 u47 u48 u49 u50 u51 u52 u53 u54 u55 u56 u57 u58 u59 u60 u61 u62 u63 u64 u65 u66 u67 u68 u69 u70 u71 u72 u73 u74 u75 u76 u77 u78 u79 u80 u81 u82 u83 u84 u85 u86 u87 u88 u89 u90 u91 u92 u93 u94 u95 u96 u97 u98 u99 u100 u101 u102 u103 u104 u105 u106 u107 u108 u109 u110 u111 u112 u113 u114 u115 u116 u117 u118 u119 u120 u121 u122 u123 u124 u125 u126 u127 u128 u129 u130 u131 u132 u133 u134 u135 u136 u137 u138 u139 u140 u141 u142 u143 u144 : Value} (w : World) (A B : World → Prop)
    (hS : StepAt bs K P Q M w) (hd : Calls Tryz.prog 23 #[dv, (.string P)] w.drew fun e w' => e = .returned (.int .i64 (X : Int)) ∧ A w') (hAS : ∀ W, A W → StepAt bs K P Q M W)
    (hw : ∀ W, A W → Calls Tryz.prog 24 #[wv, (.string P)] W fun e w' => e = .returned (.int .i64 (X : Int)) ∧ B w') (hBS : ∀ W, B W → StepAt bs K P Q M W) :
    (Code.region id ops true).wp Tryz.prog (Rg.Only fun a' w' => a' = ⟨#[dv, wv, u2, u3, u4, (.pointer (some ⟨bs, 0, none⟩)), (.bool true), u7, u8, u9, u10, u11, u12, u13, u14, u15, u16, u17, u18, u19, u20, u21, u22, u23, u24, u25, u26, u27, u28, u29, u30, u31, u32, u33, u34, u35, u36, u37, u38, u39, u40, u41, u42, u43, u44, u45, u46, u47, u48, u49, u50, u51, dv, (.pointer (some ⟨bs, 1, none⟩)), (.string P), (.int .i64 (X : Int)), wv, (.pointer (some ⟨bs, 1, none⟩)), (.string P), (.int .i64 (X : Int)), (.bool true), u61, u62, u63, u64, u65, u66, u67, u68, u69, u70, u71, u72, u73, u74, u75, u76, u77, u78, u79, u80, u81, u82, u83, u84, u85, u86, u87, u88, u89, u90, u91, u92, u93, u94, u95, u96, u97, u98, u99, u100, u101, u102, u103, u104, u105, u106, u107, u108, u109, u110, u111, u112, u113, u114, u115, u116, u117, u118, u119, u120, u121, u122, u123, u124, u125, u126, u127, u128, u129, u130, u131, u132, u133, u134, u135, u136, u137, u138, u139, u140, u141, u142, u143, u144], []⟩ ∧ B w') ⟨#[dv, wv, u2, u3, u4, (.pointer (some ⟨bs, 0, none⟩)), u6, u7, u8, u9, u10, u11, u12, u13, u14, u15, u16, u17, u18, u19, u20, u21, u22, u23, u24, u25, u26, u27, u28, u29, u30, u31, u32, u33, u34, u35, u36, u37, u38, u39, u40, u41, u42, u43, u44, u45, u46, u47, u48, u49, u50, u51, u52, u53, u54, u55, u56, u57, u58, u59, u60, u61, u62, u63, u64, u65, u66, u67, u68, u69, u70, u71, u72, u73, u74, u75, u76, u77, u78, u79, u80, u81, u82, u83, u84, u85, u86, u87, u88, u89, u90, u91, u92, u93, u94, u95, u96, u97, u98, u99, u100, u101, u102, u103, u104, u105, u106, u107, u108, u109, u110, u111, u112, u113, u114, u115, u116, u117, u118, u119, u120, u121, u122, u123, u124, u125, u126, u127, u128, u129, u130, u131, u132, u133, u134, u135, u136, u137, u138, u139, u140, u141, u142, u143, u144], []⟩ w := by
  subst hops
  have hNS : Region.noSelect (Rg.opsOf Tryz.f8 9) = true := by kernel_rfl
  refine wp_region_held_drew (S := StepAt bs K P Q M) (by kernel_rfl) hS (fun hHeld => ?_)
  rw [show (Rg.opsOf Tryz.f8 9).size = 10 by kernel_rfl]
  refine Rg.take (ops := (Rg.opsOf Tryz.f8 9)) 0 (some 52) (dv) hNS (by kernel_rfl) (by kernel_rfl) (by kernel_rfl) (by kernel_rfl) (by kernel_rfl) hHeld (Rg.y_move (x := (Operand.tmp 0)) (Or.inl (by kernel_rfl)) (by kernel_rfl)) ?_
  refine Rg.take (ops := (Rg.opsOf Tryz.f8 9)) 1 (some 53) ((.pointer (some ⟨bs, 1, none⟩))) hNS (by kernel_rfl) (by kernel_rfl) (by kernel_rfl) (by kernel_rfl) (by kernel_rfl) hHeld (Rg.y_field (T := 29) (k := 1) (x := (Operand.tmp 5)) (vx := (.pointer (some ⟨bs, 0, none⟩))) (by kernel_rfl) (by kernel_rfl) ?_) ?_
  · (intro w hSw; clear hSw; go_simp)
  refine Rg.take (ops := (Rg.opsOf Tryz.f8 9)) 2 (some 54) ((.string P)) hNS (by kernel_rfl) (by kernel_rfl) (by kernel_rfl) (by kernel_rfl) (by kernel_rfl) hHeld (Rg.y_load (T := 9) (x := (Operand.tmp 53)) (vx := (.pointer (some ⟨bs, 1, none⟩))) (by kernel_rfl) (by kernel_rfl) ?_) ?_
  · (intro w hSw; obtain ⟨hS0, hS1, hS2, hS3⟩ := hSw; go_simp)
  refine Rg.take (ops := (Rg.opsOf Tryz.f8 9)) 4 (some 56) (wv) hNS (by kernel_rfl) (by kernel_rfl) (by kernel_rfl) (by kernel_rfl) (by kernel_rfl) hHeld (Rg.y_move (x := (Operand.tmp 1)) (Or.inl (by kernel_rfl)) (by kernel_rfl)) ?_
  refine Rg.take (ops := (Rg.opsOf Tryz.f8 9)) 5 (some 57) ((.pointer (some ⟨bs, 1, none⟩))) hNS (by kernel_rfl) (by kernel_rfl) (by kernel_rfl) (by kernel_rfl) (by kernel_rfl) hHeld (Rg.y_field (T := 29) (k := 1) (x := (Operand.tmp 5)) (vx := (.pointer (some ⟨bs, 0, none⟩))) (by kernel_rfl) (by kernel_rfl) ?_) ?_
  · (intro w hSw; clear hSw; go_simp)
  refine Rg.take (ops := (Rg.opsOf Tryz.f8 9)) 6 (some 58) ((.string P)) hNS (by kernel_rfl) (by kernel_rfl) (by kernel_rfl) (by kernel_rfl) (by kernel_rfl) hHeld (Rg.y_load (T := 9) (x := (Operand.tmp 57)) (vx := (.pointer (some ⟨bs, 1, none⟩))) (by kernel_rfl) (by kernel_rfl) ?_) ?_
  · (intro w hSw; obtain ⟨hS0, hS1, hS2, hS3⟩ := hSw; go_simp)
  refine Rg.call (ops := (Rg.opsOf Tryz.f8 9)) (fn := Tryz.f23) (xs := #[Operand.tmp 52, Operand.tmp 54]) (ats := #[23, 9]) 3 (some 55) 23 #[dv, (.string P)] (by kernel_rfl) (by kernel_rfl) (by kernel_rfl) (by kernel_rfl) (by kernel_rfl) Tryz.func23 (by kernel_rfl) (by kernel_rfl) (by kernel_rfl) ?_
  refine hd.mono ?_
  rintro e w5 ⟨rfl, hA5⟩
  refine ⟨_, rfl, hAS _ hA5, fun hHeld => ?_⟩
  refine Rg.call (ops := (Rg.opsOf Tryz.f8 9)) (fn := Tryz.f24) (xs := #[Operand.tmp 56, Operand.tmp 58]) (ats := #[26, 9]) 7 (some 59) 24 #[wv, (.string P)] (by kernel_rfl) (by kernel_rfl) (by kernel_rfl) (by kernel_rfl) (by kernel_rfl) Tryz.func24 (by kernel_rfl) (by kernel_rfl) (by kernel_rfl) ?_
  refine (hw _ hA5).mono ?_
  rintro e w6 ⟨rfl, hB6⟩
  refine ⟨_, rfl, hBS _ hB6, fun hHeld => ?_⟩
  refine Rg.take (ops := (Rg.opsOf Tryz.f8 9)) 8 (some 60) ((.bool true)) hNS (by kernel_rfl) (by kernel_rfl) (by kernel_rfl) (by kernel_rfl) (by kernel_rfl) hHeld (Rg.y_bin (b := BinOp.eql) (T := 3) (R' := 3) (x := (Operand.tmp 55)) (y := (Operand.tmp 59)) (vx := (.int .i64 (X : Int))) (vy := (.int .i64 (X : Int))) (by kernel_rfl) (by kernel_rfl) (by kernel_rfl) ?_) ?_
  · (intro w hSw; clear hSw; go_simp)
  refine Rg.take (ops := (Rg.opsOf Tryz.f8 9)) 9 (some 6) ((.bool true)) hNS (by kernel_rfl) (by kernel_rfl) (by kernel_rfl) (by kernel_rfl) (by kernel_rfl) hHeld (Rg.y_move (x := (Operand.tmp 60)) (Or.inr (by kernel_rfl)) (by kernel_rfl)) ?_
  refine Rg.done (ops := (Rg.opsOf Tryz.f8 9)) (by kernel_rfl) ?_
  exact ⟨by kernel_rfl, hB6⟩

set_option maxRecDepth 100000 in
set_option maxHeartbeats 2000000 in
theorem doesRename (ops : Array Oper) (hops : ops = (Rg.opsOf Tryz.f8 11)) (id : Nat) (bs : Nat) (K M : Int) (P Q : ByteArray) (X : Nat) (dv wv : Value) {u2 u3 u4 u6 u7 u8 u9 u10 u11 u12 u13 u14 u15 u16 u17 u18 u19 u20 u21 u22 u23 u24 u25 u26 u27 u28 u29 u30 u31 u32 u33 u34 u35 u36 u37 u38 u39 u40 u41 u42 u43 u44 u45 u46 u47 u48 u49 u50 u51 u52 u53 u54 u55 u56 u57 u58 u59 u60 u61 u62 u63 u64 u65 u66 u67 u68 u69 u70 u71 u72 u73 u74 u75 u76 u77 u78 u79 u80 u81 u82 u83 u84 u85 u86 u87 u88 u89 u90 u91 u92 u93 u94 u95 u96 u97 u98 u99 u100 u101 u102 u103 u104 u105 u106 u107 u108 u109 u110 u111 u112 u113 u114 u115 u116 u117 u118 u119 u120 u121 u122 u123 u124 u125 u126 u127 u128 u129 u130 u131 u132 u133 u134 u135 u136 u137 u138 u139 u140 u141 u142 u143 u144 : Value} (w : World) (A B : World → Prop)
    (hS : StepAt bs K P Q M w) (hd : Calls Tryz.prog 16 #[dv, (.string P), (.string Q)] w.drew fun e w' => e = .returned (.int .i64 (X : Int)) ∧ A w') (hAS : ∀ W, A W → StepAt bs K P Q M W)
    (hw : ∀ W, A W → Calls Tryz.prog 25 #[wv, (.string P), (.string Q)] W fun e w' => e = .returned (.int .i64 (X : Int)) ∧ B w') (hBS : ∀ W, B W → StepAt bs K P Q M W) :
    (Code.region id ops true).wp Tryz.prog (Rg.Only fun a' w' => a' = ⟨#[dv, wv, u2, u3, u4, (.pointer (some ⟨bs, 0, none⟩)), (.bool true), u7, u8, u9, u10, u11, u12, u13, u14, u15, u16, u17, u18, u19, u20, u21, u22, u23, u24, u25, u26, u27, u28, u29, u30, u31, u32, u33, u34, u35, u36, u37, u38, u39, u40, u41, u42, u43, u44, u45, u46, u47, u48, u49, u50, u51, u52, u53, u54, u55, u56, u57, u58, u59, u60, u61, u62, dv, (.pointer (some ⟨bs, 1, none⟩)), (.string P), (.pointer (some ⟨bs, 2, none⟩)), (.string Q), (.int .i64 (X : Int)), wv, (.pointer (some ⟨bs, 1, none⟩)), (.string P), (.pointer (some ⟨bs, 2, none⟩)), (.string Q), (.int .i64 (X : Int)), (.bool true), u76, u77, u78, u79, u80, u81, u82, u83, u84, u85, u86, u87, u88, u89, u90, u91, u92, u93, u94, u95, u96, u97, u98, u99, u100, u101, u102, u103, u104, u105, u106, u107, u108, u109, u110, u111, u112, u113, u114, u115, u116, u117, u118, u119, u120, u121, u122, u123, u124, u125, u126, u127, u128, u129, u130, u131, u132, u133, u134, u135, u136, u137, u138, u139, u140, u141, u142, u143, u144], []⟩ ∧ B w') ⟨#[dv, wv, u2, u3, u4, (.pointer (some ⟨bs, 0, none⟩)), u6, u7, u8, u9, u10, u11, u12, u13, u14, u15, u16, u17, u18, u19, u20, u21, u22, u23, u24, u25, u26, u27, u28, u29, u30, u31, u32, u33, u34, u35, u36, u37, u38, u39, u40, u41, u42, u43, u44, u45, u46, u47, u48, u49, u50, u51, u52, u53, u54, u55, u56, u57, u58, u59, u60, u61, u62, u63, u64, u65, u66, u67, u68, u69, u70, u71, u72, u73, u74, u75, u76, u77, u78, u79, u80, u81, u82, u83, u84, u85, u86, u87, u88, u89, u90, u91, u92, u93, u94, u95, u96, u97, u98, u99, u100, u101, u102, u103, u104, u105, u106, u107, u108, u109, u110, u111, u112, u113, u114, u115, u116, u117, u118, u119, u120, u121, u122, u123, u124, u125, u126, u127, u128, u129, u130, u131, u132, u133, u134, u135, u136, u137, u138, u139, u140, u141, u142, u143, u144], []⟩ w := by
  subst hops
  have hNS : Region.noSelect (Rg.opsOf Tryz.f8 11) = true := by kernel_rfl
  refine wp_region_held_drew (S := StepAt bs K P Q M) (by kernel_rfl) hS (fun hHeld => ?_)
  rw [show (Rg.opsOf Tryz.f8 11).size = 14 by kernel_rfl]
  refine Rg.take (ops := (Rg.opsOf Tryz.f8 11)) 0 (some 63) (dv) hNS (by kernel_rfl) (by kernel_rfl) (by kernel_rfl) (by kernel_rfl) (by kernel_rfl) hHeld (Rg.y_move (x := (Operand.tmp 0)) (Or.inl (by kernel_rfl)) (by kernel_rfl)) ?_
  refine Rg.take (ops := (Rg.opsOf Tryz.f8 11)) 1 (some 64) ((.pointer (some ⟨bs, 1, none⟩))) hNS (by kernel_rfl) (by kernel_rfl) (by kernel_rfl) (by kernel_rfl) (by kernel_rfl) hHeld (Rg.y_field (T := 29) (k := 1) (x := (Operand.tmp 5)) (vx := (.pointer (some ⟨bs, 0, none⟩))) (by kernel_rfl) (by kernel_rfl) ?_) ?_
  · (intro w hSw; clear hSw; go_simp)
  refine Rg.take (ops := (Rg.opsOf Tryz.f8 11)) 2 (some 65) ((.string P)) hNS (by kernel_rfl) (by kernel_rfl) (by kernel_rfl) (by kernel_rfl) (by kernel_rfl) hHeld (Rg.y_load (T := 9) (x := (Operand.tmp 64)) (vx := (.pointer (some ⟨bs, 1, none⟩))) (by kernel_rfl) (by kernel_rfl) ?_) ?_
  · (intro w hSw; obtain ⟨hS0, hS1, hS2, hS3⟩ := hSw; go_simp)
  refine Rg.take (ops := (Rg.opsOf Tryz.f8 11)) 3 (some 66) ((.pointer (some ⟨bs, 2, none⟩))) hNS (by kernel_rfl) (by kernel_rfl) (by kernel_rfl) (by kernel_rfl) (by kernel_rfl) hHeld (Rg.y_field (T := 29) (k := 2) (x := (Operand.tmp 5)) (vx := (.pointer (some ⟨bs, 0, none⟩))) (by kernel_rfl) (by kernel_rfl) ?_) ?_
  · (intro w hSw; clear hSw; go_simp)
  refine Rg.take (ops := (Rg.opsOf Tryz.f8 11)) 4 (some 67) ((.string Q)) hNS (by kernel_rfl) (by kernel_rfl) (by kernel_rfl) (by kernel_rfl) (by kernel_rfl) hHeld (Rg.y_load (T := 9) (x := (Operand.tmp 66)) (vx := (.pointer (some ⟨bs, 2, none⟩))) (by kernel_rfl) (by kernel_rfl) ?_) ?_
  · (intro w hSw; obtain ⟨hS0, hS1, hS2, hS3⟩ := hSw; go_simp)
  refine Rg.take (ops := (Rg.opsOf Tryz.f8 11)) 6 (some 69) (wv) hNS (by kernel_rfl) (by kernel_rfl) (by kernel_rfl) (by kernel_rfl) (by kernel_rfl) hHeld (Rg.y_move (x := (Operand.tmp 1)) (Or.inl (by kernel_rfl)) (by kernel_rfl)) ?_
  refine Rg.take (ops := (Rg.opsOf Tryz.f8 11)) 7 (some 70) ((.pointer (some ⟨bs, 1, none⟩))) hNS (by kernel_rfl) (by kernel_rfl) (by kernel_rfl) (by kernel_rfl) (by kernel_rfl) hHeld (Rg.y_field (T := 29) (k := 1) (x := (Operand.tmp 5)) (vx := (.pointer (some ⟨bs, 0, none⟩))) (by kernel_rfl) (by kernel_rfl) ?_) ?_
  · (intro w hSw; clear hSw; go_simp)
  refine Rg.take (ops := (Rg.opsOf Tryz.f8 11)) 8 (some 71) ((.string P)) hNS (by kernel_rfl) (by kernel_rfl) (by kernel_rfl) (by kernel_rfl) (by kernel_rfl) hHeld (Rg.y_load (T := 9) (x := (Operand.tmp 70)) (vx := (.pointer (some ⟨bs, 1, none⟩))) (by kernel_rfl) (by kernel_rfl) ?_) ?_
  · (intro w hSw; obtain ⟨hS0, hS1, hS2, hS3⟩ := hSw; go_simp)
  refine Rg.take (ops := (Rg.opsOf Tryz.f8 11)) 9 (some 72) ((.pointer (some ⟨bs, 2, none⟩))) hNS (by kernel_rfl) (by kernel_rfl) (by kernel_rfl) (by kernel_rfl) (by kernel_rfl) hHeld (Rg.y_field (T := 29) (k := 2) (x := (Operand.tmp 5)) (vx := (.pointer (some ⟨bs, 0, none⟩))) (by kernel_rfl) (by kernel_rfl) ?_) ?_
  · (intro w hSw; clear hSw; go_simp)
  refine Rg.take (ops := (Rg.opsOf Tryz.f8 11)) 10 (some 73) ((.string Q)) hNS (by kernel_rfl) (by kernel_rfl) (by kernel_rfl) (by kernel_rfl) (by kernel_rfl) hHeld (Rg.y_load (T := 9) (x := (Operand.tmp 72)) (vx := (.pointer (some ⟨bs, 2, none⟩))) (by kernel_rfl) (by kernel_rfl) ?_) ?_
  · (intro w hSw; obtain ⟨hS0, hS1, hS2, hS3⟩ := hSw; go_simp)
  refine Rg.call (ops := (Rg.opsOf Tryz.f8 11)) (fn := Tryz.f16) (xs := #[Operand.tmp 63, Operand.tmp 65, Operand.tmp 67]) (ats := #[23, 9, 9]) 5 (some 68) 16 #[dv, (.string P), (.string Q)] (by kernel_rfl) (by kernel_rfl) (by kernel_rfl) (by kernel_rfl) (by kernel_rfl) Tryz.func16 (by kernel_rfl) (by kernel_rfl) (by kernel_rfl) ?_
  refine hd.mono ?_
  rintro e w5 ⟨rfl, hA5⟩
  refine ⟨_, rfl, hAS _ hA5, fun hHeld => ?_⟩
  refine Rg.call (ops := (Rg.opsOf Tryz.f8 11)) (fn := Tryz.f25) (xs := #[Operand.tmp 69, Operand.tmp 71, Operand.tmp 73]) (ats := #[26, 9, 9]) 11 (some 74) 25 #[wv, (.string P), (.string Q)] (by kernel_rfl) (by kernel_rfl) (by kernel_rfl) (by kernel_rfl) (by kernel_rfl) Tryz.func25 (by kernel_rfl) (by kernel_rfl) (by kernel_rfl) ?_
  refine (hw _ hA5).mono ?_
  rintro e w6 ⟨rfl, hB6⟩
  refine ⟨_, rfl, hBS _ hB6, fun hHeld => ?_⟩
  refine Rg.take (ops := (Rg.opsOf Tryz.f8 11)) 12 (some 75) ((.bool true)) hNS (by kernel_rfl) (by kernel_rfl) (by kernel_rfl) (by kernel_rfl) (by kernel_rfl) hHeld (Rg.y_bin (b := BinOp.eql) (T := 3) (R' := 3) (x := (Operand.tmp 68)) (y := (Operand.tmp 74)) (vx := (.int .i64 (X : Int))) (vy := (.int .i64 (X : Int))) (by kernel_rfl) (by kernel_rfl) (by kernel_rfl) ?_) ?_
  · (intro w hSw; clear hSw; go_simp)
  refine Rg.take (ops := (Rg.opsOf Tryz.f8 11)) 13 (some 6) ((.bool true)) hNS (by kernel_rfl) (by kernel_rfl) (by kernel_rfl) (by kernel_rfl) (by kernel_rfl) hHeld (Rg.y_move (x := (Operand.tmp 75)) (Or.inr (by kernel_rfl)) (by kernel_rfl)) ?_
  refine Rg.done (ops := (Rg.opsOf Tryz.f8 11)) (by kernel_rfl) ?_
  exact ⟨by kernel_rfl, hB6⟩

set_option maxRecDepth 100000 in
set_option maxHeartbeats 2000000 in
theorem doesRemove (ops : Array Oper) (hops : ops = (Rg.opsOf Tryz.f8 13)) (id : Nat) (bs : Nat) (K M : Int) (P Q : ByteArray) (X : Nat) (dv wv : Value) {u2 u3 u4 u6 u7 u8 u9 u10 u11 u12 u13 u14 u15 u16 u17 u18 u19 u20 u21 u22 u23 u24 u25 u26 u27 u28 u29 u30 u31 u32 u33 u34 u35 u36 u37 u38 u39 u40 u41 u42 u43 u44 u45 u46 u47 u48 u49 u50 u51 u52 u53 u54 u55 u56 u57 u58 u59 u60 u61 u62 u63 u64 u65 u66 u67 u68 u69 u70 u71 u72 u73 u74 u75 u76 u77 u78 u79 u80 u81 u82 u83 u84 u85 u86 u87 u88 u89 u90 u91 u92 u93 u94 u95 u96 u97 u98 u99 u100 u101 u102 u103 u104 u105 u106 u107 u108 u109 u110 u111 u112 u113 u114 u115 u116 u117 u118 u119 u120 u121 u122 u123 u124 u125 u126 u127 u128 u129 u130 u131 u132 u133 u134 u135 u136 u137 u138 u139 u140 u141 u142 u143 u144 : Value} (w : World) (A B : World → Prop)
    (hS : StepAt bs K P Q M w) (hd : Calls Tryz.prog 26 #[dv, (.string P)] w.drew fun e w' => e = .returned (.int .i64 (X : Int)) ∧ A w') (hAS : ∀ W, A W → StepAt bs K P Q M W)
    (hw : ∀ W, A W → Calls Tryz.prog 27 #[wv, (.string P)] W fun e w' => e = .returned (.int .i64 (X : Int)) ∧ B w') (hBS : ∀ W, B W → StepAt bs K P Q M W) :
    (Code.region id ops true).wp Tryz.prog (Rg.Only fun a' w' => a' = ⟨#[dv, wv, u2, u3, u4, (.pointer (some ⟨bs, 0, none⟩)), (.bool true), u7, u8, u9, u10, u11, u12, u13, u14, u15, u16, u17, u18, u19, u20, u21, u22, u23, u24, u25, u26, u27, u28, u29, u30, u31, u32, u33, u34, u35, u36, u37, u38, u39, u40, u41, u42, u43, u44, u45, u46, u47, u48, u49, u50, u51, u52, u53, u54, u55, u56, u57, u58, u59, u60, u61, u62, u63, u64, u65, u66, u67, u68, u69, u70, u71, u72, u73, u74, u75, u76, u77, dv, (.pointer (some ⟨bs, 1, none⟩)), (.string P), (.int .i64 (X : Int)), wv, (.pointer (some ⟨bs, 1, none⟩)), (.string P), (.int .i64 (X : Int)), (.bool true), u87, u88, u89, u90, u91, u92, u93, u94, u95, u96, u97, u98, u99, u100, u101, u102, u103, u104, u105, u106, u107, u108, u109, u110, u111, u112, u113, u114, u115, u116, u117, u118, u119, u120, u121, u122, u123, u124, u125, u126, u127, u128, u129, u130, u131, u132, u133, u134, u135, u136, u137, u138, u139, u140, u141, u142, u143, u144], []⟩ ∧ B w') ⟨#[dv, wv, u2, u3, u4, (.pointer (some ⟨bs, 0, none⟩)), u6, u7, u8, u9, u10, u11, u12, u13, u14, u15, u16, u17, u18, u19, u20, u21, u22, u23, u24, u25, u26, u27, u28, u29, u30, u31, u32, u33, u34, u35, u36, u37, u38, u39, u40, u41, u42, u43, u44, u45, u46, u47, u48, u49, u50, u51, u52, u53, u54, u55, u56, u57, u58, u59, u60, u61, u62, u63, u64, u65, u66, u67, u68, u69, u70, u71, u72, u73, u74, u75, u76, u77, u78, u79, u80, u81, u82, u83, u84, u85, u86, u87, u88, u89, u90, u91, u92, u93, u94, u95, u96, u97, u98, u99, u100, u101, u102, u103, u104, u105, u106, u107, u108, u109, u110, u111, u112, u113, u114, u115, u116, u117, u118, u119, u120, u121, u122, u123, u124, u125, u126, u127, u128, u129, u130, u131, u132, u133, u134, u135, u136, u137, u138, u139, u140, u141, u142, u143, u144], []⟩ w := by
  subst hops
  have hNS : Region.noSelect (Rg.opsOf Tryz.f8 13) = true := by kernel_rfl
  refine wp_region_held_drew (S := StepAt bs K P Q M) (by kernel_rfl) hS (fun hHeld => ?_)
  rw [show (Rg.opsOf Tryz.f8 13).size = 10 by kernel_rfl]
  refine Rg.take (ops := (Rg.opsOf Tryz.f8 13)) 0 (some 78) (dv) hNS (by kernel_rfl) (by kernel_rfl) (by kernel_rfl) (by kernel_rfl) (by kernel_rfl) hHeld (Rg.y_move (x := (Operand.tmp 0)) (Or.inl (by kernel_rfl)) (by kernel_rfl)) ?_
  refine Rg.take (ops := (Rg.opsOf Tryz.f8 13)) 1 (some 79) ((.pointer (some ⟨bs, 1, none⟩))) hNS (by kernel_rfl) (by kernel_rfl) (by kernel_rfl) (by kernel_rfl) (by kernel_rfl) hHeld (Rg.y_field (T := 29) (k := 1) (x := (Operand.tmp 5)) (vx := (.pointer (some ⟨bs, 0, none⟩))) (by kernel_rfl) (by kernel_rfl) ?_) ?_
  · (intro w hSw; clear hSw; go_simp)
  refine Rg.take (ops := (Rg.opsOf Tryz.f8 13)) 2 (some 80) ((.string P)) hNS (by kernel_rfl) (by kernel_rfl) (by kernel_rfl) (by kernel_rfl) (by kernel_rfl) hHeld (Rg.y_load (T := 9) (x := (Operand.tmp 79)) (vx := (.pointer (some ⟨bs, 1, none⟩))) (by kernel_rfl) (by kernel_rfl) ?_) ?_
  · (intro w hSw; obtain ⟨hS0, hS1, hS2, hS3⟩ := hSw; go_simp)
  refine Rg.take (ops := (Rg.opsOf Tryz.f8 13)) 4 (some 82) (wv) hNS (by kernel_rfl) (by kernel_rfl) (by kernel_rfl) (by kernel_rfl) (by kernel_rfl) hHeld (Rg.y_move (x := (Operand.tmp 1)) (Or.inl (by kernel_rfl)) (by kernel_rfl)) ?_
  refine Rg.take (ops := (Rg.opsOf Tryz.f8 13)) 5 (some 83) ((.pointer (some ⟨bs, 1, none⟩))) hNS (by kernel_rfl) (by kernel_rfl) (by kernel_rfl) (by kernel_rfl) (by kernel_rfl) hHeld (Rg.y_field (T := 29) (k := 1) (x := (Operand.tmp 5)) (vx := (.pointer (some ⟨bs, 0, none⟩))) (by kernel_rfl) (by kernel_rfl) ?_) ?_
  · (intro w hSw; clear hSw; go_simp)
  refine Rg.take (ops := (Rg.opsOf Tryz.f8 13)) 6 (some 84) ((.string P)) hNS (by kernel_rfl) (by kernel_rfl) (by kernel_rfl) (by kernel_rfl) (by kernel_rfl) hHeld (Rg.y_load (T := 9) (x := (Operand.tmp 83)) (vx := (.pointer (some ⟨bs, 1, none⟩))) (by kernel_rfl) (by kernel_rfl) ?_) ?_
  · (intro w hSw; obtain ⟨hS0, hS1, hS2, hS3⟩ := hSw; go_simp)
  refine Rg.call (ops := (Rg.opsOf Tryz.f8 13)) (fn := Tryz.f26) (xs := #[Operand.tmp 78, Operand.tmp 80]) (ats := #[23, 9]) 3 (some 81) 26 #[dv, (.string P)] (by kernel_rfl) (by kernel_rfl) (by kernel_rfl) (by kernel_rfl) (by kernel_rfl) Tryz.func26 (by kernel_rfl) (by kernel_rfl) (by kernel_rfl) ?_
  refine hd.mono ?_
  rintro e w5 ⟨rfl, hA5⟩
  refine ⟨_, rfl, hAS _ hA5, fun hHeld => ?_⟩
  refine Rg.call (ops := (Rg.opsOf Tryz.f8 13)) (fn := Tryz.f27) (xs := #[Operand.tmp 82, Operand.tmp 84]) (ats := #[26, 9]) 7 (some 85) 27 #[wv, (.string P)] (by kernel_rfl) (by kernel_rfl) (by kernel_rfl) (by kernel_rfl) (by kernel_rfl) Tryz.func27 (by kernel_rfl) (by kernel_rfl) (by kernel_rfl) ?_
  refine (hw _ hA5).mono ?_
  rintro e w6 ⟨rfl, hB6⟩
  refine ⟨_, rfl, hBS _ hB6, fun hHeld => ?_⟩
  refine Rg.take (ops := (Rg.opsOf Tryz.f8 13)) 8 (some 86) ((.bool true)) hNS (by kernel_rfl) (by kernel_rfl) (by kernel_rfl) (by kernel_rfl) (by kernel_rfl) hHeld (Rg.y_bin (b := BinOp.eql) (T := 3) (R' := 3) (x := (Operand.tmp 81)) (y := (Operand.tmp 85)) (vx := (.int .i64 (X : Int))) (vy := (.int .i64 (X : Int))) (by kernel_rfl) (by kernel_rfl) (by kernel_rfl) ?_) ?_
  · (intro w hSw; clear hSw; go_simp)
  refine Rg.take (ops := (Rg.opsOf Tryz.f8 13)) 9 (some 6) ((.bool true)) hNS (by kernel_rfl) (by kernel_rfl) (by kernel_rfl) (by kernel_rfl) (by kernel_rfl) hHeld (Rg.y_move (x := (Operand.tmp 86)) (Or.inr (by kernel_rfl)) (by kernel_rfl)) ?_
  refine Rg.done (ops := (Rg.opsOf Tryz.f8 13)) (by kernel_rfl) ?_
  exact ⟨by kernel_rfl, hB6⟩

set_option maxRecDepth 100000 in
set_option maxHeartbeats 2000000 in
theorem doesLimit (ops : Array Oper) (hops : ops = (Rg.opsOf Tryz.f8 15)) (id : Nat) (bs : Nat) (K M : Int) (P Q : ByteArray) (X : Nat) (dv wv : Value) {u2 u3 u4 u6 u7 u8 u9 u10 u11 u12 u13 u14 u15 u16 u17 u18 u19 u20 u21 u22 u23 u24 u25 u26 u27 u28 u29 u30 u31 u32 u33 u34 u35 u36 u37 u38 u39 u40 u41 u42 u43 u44 u45 u46 u47 u48 u49 u50 u51 u52 u53 u54 u55 u56 u57 u58 u59 u60 u61 u62 u63 u64 u65 u66 u67 u68 u69 u70 u71 u72 u73 u74 u75 u76 u77 u78 u79 u80 u81 u82 u83 u84 u85 u86 u87 u88 u89 u90 u91 u92 u93 u94 u95 u96 u97 u98 u99 u100 u101 u102 u103 u104 u105 u106 u107 u108 u109 u110 u111 u112 u113 u114 u115 u116 u117 u118 u119 u120 u121 u122 u123 u124 u125 u126 u127 u128 u129 u130 u131 u132 u133 u134 u135 u136 u137 u138 u139 u140 u141 u142 u143 u144 : Value} (w : World) (A B : World → Prop)
    (hS : StepAt bs K P Q M w) (hd : Calls Tryz.prog 28 #[dv, (.string P), (.int .i64 M)] w.drew fun e w' => e = .returned (.int .i64 (X : Int)) ∧ A w') (hAS : ∀ W, A W → StepAt bs K P Q M W)
    (hw : ∀ W, A W → Calls Tryz.prog 29 #[wv, (.string P), (.int .i64 M)] W fun e w' => e = .returned (.int .i64 (X : Int)) ∧ B w') (hBS : ∀ W, B W → StepAt bs K P Q M W) :
    (Code.region id ops true).wp Tryz.prog (Rg.Only fun a' w' => a' = ⟨#[dv, wv, u2, u3, u4, (.pointer (some ⟨bs, 0, none⟩)), (.bool true), u7, u8, u9, u10, u11, u12, u13, u14, u15, u16, u17, u18, u19, u20, u21, u22, u23, u24, u25, u26, u27, u28, u29, u30, u31, u32, u33, u34, u35, u36, u37, u38, u39, u40, u41, u42, u43, u44, u45, u46, u47, u48, u49, u50, u51, u52, u53, u54, u55, u56, u57, u58, u59, u60, u61, u62, u63, u64, u65, u66, u67, u68, u69, u70, u71, u72, u73, u74, u75, u76, u77, u78, u79, u80, u81, u82, u83, u84, u85, u86, u87, u88, dv, (.pointer (some ⟨bs, 1, none⟩)), (.string P), (.pointer (some ⟨bs, 3, none⟩)), (.int .i64 M), (.int .i64 (X : Int)), wv, (.pointer (some ⟨bs, 1, none⟩)), (.string P), (.pointer (some ⟨bs, 3, none⟩)), (.int .i64 M), (.int .i64 (X : Int)), (.bool true), u102, u103, u104, u105, u106, u107, u108, u109, u110, u111, u112, u113, u114, u115, u116, u117, u118, u119, u120, u121, u122, u123, u124, u125, u126, u127, u128, u129, u130, u131, u132, u133, u134, u135, u136, u137, u138, u139, u140, u141, u142, u143, u144], []⟩ ∧ B w') ⟨#[dv, wv, u2, u3, u4, (.pointer (some ⟨bs, 0, none⟩)), u6, u7, u8, u9, u10, u11, u12, u13, u14, u15, u16, u17, u18, u19, u20, u21, u22, u23, u24, u25, u26, u27, u28, u29, u30, u31, u32, u33, u34, u35, u36, u37, u38, u39, u40, u41, u42, u43, u44, u45, u46, u47, u48, u49, u50, u51, u52, u53, u54, u55, u56, u57, u58, u59, u60, u61, u62, u63, u64, u65, u66, u67, u68, u69, u70, u71, u72, u73, u74, u75, u76, u77, u78, u79, u80, u81, u82, u83, u84, u85, u86, u87, u88, u89, u90, u91, u92, u93, u94, u95, u96, u97, u98, u99, u100, u101, u102, u103, u104, u105, u106, u107, u108, u109, u110, u111, u112, u113, u114, u115, u116, u117, u118, u119, u120, u121, u122, u123, u124, u125, u126, u127, u128, u129, u130, u131, u132, u133, u134, u135, u136, u137, u138, u139, u140, u141, u142, u143, u144], []⟩ w := by
  subst hops
  have hNS : Region.noSelect (Rg.opsOf Tryz.f8 15) = true := by kernel_rfl
  refine wp_region_held_drew (S := StepAt bs K P Q M) (by kernel_rfl) hS (fun hHeld => ?_)
  rw [show (Rg.opsOf Tryz.f8 15).size = 14 by kernel_rfl]
  refine Rg.take (ops := (Rg.opsOf Tryz.f8 15)) 0 (some 89) (dv) hNS (by kernel_rfl) (by kernel_rfl) (by kernel_rfl) (by kernel_rfl) (by kernel_rfl) hHeld (Rg.y_move (x := (Operand.tmp 0)) (Or.inl (by kernel_rfl)) (by kernel_rfl)) ?_
  refine Rg.take (ops := (Rg.opsOf Tryz.f8 15)) 1 (some 90) ((.pointer (some ⟨bs, 1, none⟩))) hNS (by kernel_rfl) (by kernel_rfl) (by kernel_rfl) (by kernel_rfl) (by kernel_rfl) hHeld (Rg.y_field (T := 29) (k := 1) (x := (Operand.tmp 5)) (vx := (.pointer (some ⟨bs, 0, none⟩))) (by kernel_rfl) (by kernel_rfl) ?_) ?_
  · (intro w hSw; clear hSw; go_simp)
  refine Rg.take (ops := (Rg.opsOf Tryz.f8 15)) 2 (some 91) ((.string P)) hNS (by kernel_rfl) (by kernel_rfl) (by kernel_rfl) (by kernel_rfl) (by kernel_rfl) hHeld (Rg.y_load (T := 9) (x := (Operand.tmp 90)) (vx := (.pointer (some ⟨bs, 1, none⟩))) (by kernel_rfl) (by kernel_rfl) ?_) ?_
  · (intro w hSw; obtain ⟨hS0, hS1, hS2, hS3⟩ := hSw; go_simp)
  refine Rg.take (ops := (Rg.opsOf Tryz.f8 15)) 3 (some 92) ((.pointer (some ⟨bs, 3, none⟩))) hNS (by kernel_rfl) (by kernel_rfl) (by kernel_rfl) (by kernel_rfl) (by kernel_rfl) hHeld (Rg.y_field (T := 29) (k := 3) (x := (Operand.tmp 5)) (vx := (.pointer (some ⟨bs, 0, none⟩))) (by kernel_rfl) (by kernel_rfl) ?_) ?_
  · (intro w hSw; clear hSw; go_simp)
  refine Rg.take (ops := (Rg.opsOf Tryz.f8 15)) 4 (some 93) ((.int .i64 M)) hNS (by kernel_rfl) (by kernel_rfl) (by kernel_rfl) (by kernel_rfl) (by kernel_rfl) hHeld (Rg.y_load (T := 3) (x := (Operand.tmp 92)) (vx := (.pointer (some ⟨bs, 3, none⟩))) (by kernel_rfl) (by kernel_rfl) ?_) ?_
  · (intro w hSw; obtain ⟨hS0, hS1, hS2, hS3⟩ := hSw; go_simp)
  refine Rg.take (ops := (Rg.opsOf Tryz.f8 15)) 6 (some 95) (wv) hNS (by kernel_rfl) (by kernel_rfl) (by kernel_rfl) (by kernel_rfl) (by kernel_rfl) hHeld (Rg.y_move (x := (Operand.tmp 1)) (Or.inl (by kernel_rfl)) (by kernel_rfl)) ?_
  refine Rg.take (ops := (Rg.opsOf Tryz.f8 15)) 7 (some 96) ((.pointer (some ⟨bs, 1, none⟩))) hNS (by kernel_rfl) (by kernel_rfl) (by kernel_rfl) (by kernel_rfl) (by kernel_rfl) hHeld (Rg.y_field (T := 29) (k := 1) (x := (Operand.tmp 5)) (vx := (.pointer (some ⟨bs, 0, none⟩))) (by kernel_rfl) (by kernel_rfl) ?_) ?_
  · (intro w hSw; clear hSw; go_simp)
  refine Rg.take (ops := (Rg.opsOf Tryz.f8 15)) 8 (some 97) ((.string P)) hNS (by kernel_rfl) (by kernel_rfl) (by kernel_rfl) (by kernel_rfl) (by kernel_rfl) hHeld (Rg.y_load (T := 9) (x := (Operand.tmp 96)) (vx := (.pointer (some ⟨bs, 1, none⟩))) (by kernel_rfl) (by kernel_rfl) ?_) ?_
  · (intro w hSw; obtain ⟨hS0, hS1, hS2, hS3⟩ := hSw; go_simp)
  refine Rg.take (ops := (Rg.opsOf Tryz.f8 15)) 9 (some 98) ((.pointer (some ⟨bs, 3, none⟩))) hNS (by kernel_rfl) (by kernel_rfl) (by kernel_rfl) (by kernel_rfl) (by kernel_rfl) hHeld (Rg.y_field (T := 29) (k := 3) (x := (Operand.tmp 5)) (vx := (.pointer (some ⟨bs, 0, none⟩))) (by kernel_rfl) (by kernel_rfl) ?_) ?_
  · (intro w hSw; clear hSw; go_simp)
  refine Rg.take (ops := (Rg.opsOf Tryz.f8 15)) 10 (some 99) ((.int .i64 M)) hNS (by kernel_rfl) (by kernel_rfl) (by kernel_rfl) (by kernel_rfl) (by kernel_rfl) hHeld (Rg.y_load (T := 3) (x := (Operand.tmp 98)) (vx := (.pointer (some ⟨bs, 3, none⟩))) (by kernel_rfl) (by kernel_rfl) ?_) ?_
  · (intro w hSw; obtain ⟨hS0, hS1, hS2, hS3⟩ := hSw; go_simp)
  refine Rg.call (ops := (Rg.opsOf Tryz.f8 15)) (fn := Tryz.f28) (xs := #[Operand.tmp 89, Operand.tmp 91, Operand.tmp 93]) (ats := #[23, 9, 3]) 5 (some 94) 28 #[dv, (.string P), (.int .i64 M)] (by kernel_rfl) (by kernel_rfl) (by kernel_rfl) (by kernel_rfl) (by kernel_rfl) Tryz.func28 (by kernel_rfl) (by kernel_rfl) (by kernel_rfl) ?_
  refine hd.mono ?_
  rintro e w5 ⟨rfl, hA5⟩
  refine ⟨_, rfl, hAS _ hA5, fun hHeld => ?_⟩
  refine Rg.call (ops := (Rg.opsOf Tryz.f8 15)) (fn := Tryz.f29) (xs := #[Operand.tmp 95, Operand.tmp 97, Operand.tmp 99]) (ats := #[26, 9, 3]) 11 (some 100) 29 #[wv, (.string P), (.int .i64 M)] (by kernel_rfl) (by kernel_rfl) (by kernel_rfl) (by kernel_rfl) (by kernel_rfl) Tryz.func29 (by kernel_rfl) (by kernel_rfl) (by kernel_rfl) ?_
  refine (hw _ hA5).mono ?_
  rintro e w6 ⟨rfl, hB6⟩
  refine ⟨_, rfl, hBS _ hB6, fun hHeld => ?_⟩
  refine Rg.take (ops := (Rg.opsOf Tryz.f8 15)) 12 (some 101) ((.bool true)) hNS (by kernel_rfl) (by kernel_rfl) (by kernel_rfl) (by kernel_rfl) (by kernel_rfl) hHeld (Rg.y_bin (b := BinOp.eql) (T := 3) (R' := 3) (x := (Operand.tmp 94)) (y := (Operand.tmp 100)) (vx := (.int .i64 (X : Int))) (vy := (.int .i64 (X : Int))) (by kernel_rfl) (by kernel_rfl) (by kernel_rfl) ?_) ?_
  · (intro w hSw; clear hSw; go_simp)
  refine Rg.take (ops := (Rg.opsOf Tryz.f8 15)) 13 (some 6) ((.bool true)) hNS (by kernel_rfl) (by kernel_rfl) (by kernel_rfl) (by kernel_rfl) (by kernel_rfl) hHeld (Rg.y_move (x := (Operand.tmp 101)) (Or.inr (by kernel_rfl)) (by kernel_rfl)) ?_
  refine Rg.done (ops := (Rg.opsOf Tryz.f8 15)) (by kernel_rfl) ?_
  exact ⟨by kernel_rfl, hB6⟩

set_option maxRecDepth 100000 in
set_option maxHeartbeats 2000000 in
theorem doesRestart (ops : Array Oper) (hops : ops = (Rg.opsOf Tryz.f8 22)) (id : Nat) (bs : Nat) (K M : Int) (P Q : ByteArray) (X : Nat) (dv wv : Value) {u2 u3 u4 u6 u7 u8 u9 u10 u11 u12 u13 u14 u15 u16 u17 u18 u19 u20 u21 u22 u23 u24 u25 u26 u27 u28 u29 u30 u31 u32 u33 u34 u35 u36 u37 u38 u39 u40 u41 u42 u43 u44 u45 u46 u47 u48 u49 u50 u51 u52 u53 u54 u55 u56 u57 u58 u59 u60 u61 u62 u63 u64 u65 u66 u67 u68 u69 u70 u71 u72 u73 u74 u75 u76 u77 u78 u79 u80 u81 u82 u83 u84 u85 u86 u87 u88 u89 u90 u91 u92 u93 u94 u95 u96 u97 u98 u99 u100 u101 u102 u103 u104 u105 u106 u107 u108 u109 u110 u111 u112 u113 u114 u115 u116 u117 u118 u119 u120 u121 u122 u123 u124 u125 u126 u127 u128 u129 u130 u131 u132 u133 u134 u135 u136 u137 u138 u139 u140 u141 u142 u143 u144 : Value} (w : World) (A B : World → Prop)
    (hS : StepAt bs K P Q M w) (hd : Calls Tryz.prog 31 #[dv, (.int .i64 M)] w.drew fun e w' => e = .returned (.int .i64 (X : Int)) ∧ A w') (hAS : ∀ W, A W → StepAt bs K P Q M W)
    (hw : ∀ W, A W → Calls Tryz.prog 32 #[wv, (.int .i64 M)] W fun e w' => e = .returned (.int .i64 (X : Int)) ∧ B w') (hBS : ∀ W, B W → StepAt bs K P Q M W) :
    (Code.region id ops true).wp Tryz.prog (Rg.Only fun a' w' => a' = ⟨#[dv, wv, u2, u3, u4, (.pointer (some ⟨bs, 0, none⟩)), (.bool true), u7, u8, u9, u10, u11, u12, u13, u14, u15, u16, u17, u18, u19, u20, u21, u22, u23, u24, u25, u26, u27, u28, u29, u30, u31, u32, u33, u34, u35, u36, u37, u38, u39, u40, u41, u42, u43, u44, u45, u46, u47, u48, u49, u50, u51, u52, u53, u54, u55, u56, u57, u58, u59, u60, u61, u62, u63, u64, u65, u66, u67, u68, u69, u70, u71, u72, u73, u74, u75, u76, u77, u78, u79, u80, u81, u82, u83, u84, u85, u86, u87, u88, u89, u90, u91, u92, u93, u94, u95, u96, u97, u98, u99, u100, u101, u102, u103, u104, u105, u106, u107, u108, u109, u110, u111, u112, u113, u114, u115, u116, u117, u118, u119, u120, dv, (.pointer (some ⟨bs, 3, none⟩)), (.int .i64 M), (.int .i64 (X : Int)), wv, (.pointer (some ⟨bs, 3, none⟩)), (.int .i64 M), (.int .i64 (X : Int)), (.bool true), u130, u131, u132, u133, u134, u135, u136, u137, u138, u139, u140, u141, u142, u143, u144], []⟩ ∧ B w') ⟨#[dv, wv, u2, u3, u4, (.pointer (some ⟨bs, 0, none⟩)), u6, u7, u8, u9, u10, u11, u12, u13, u14, u15, u16, u17, u18, u19, u20, u21, u22, u23, u24, u25, u26, u27, u28, u29, u30, u31, u32, u33, u34, u35, u36, u37, u38, u39, u40, u41, u42, u43, u44, u45, u46, u47, u48, u49, u50, u51, u52, u53, u54, u55, u56, u57, u58, u59, u60, u61, u62, u63, u64, u65, u66, u67, u68, u69, u70, u71, u72, u73, u74, u75, u76, u77, u78, u79, u80, u81, u82, u83, u84, u85, u86, u87, u88, u89, u90, u91, u92, u93, u94, u95, u96, u97, u98, u99, u100, u101, u102, u103, u104, u105, u106, u107, u108, u109, u110, u111, u112, u113, u114, u115, u116, u117, u118, u119, u120, u121, u122, u123, u124, u125, u126, u127, u128, u129, u130, u131, u132, u133, u134, u135, u136, u137, u138, u139, u140, u141, u142, u143, u144], []⟩ w := by
  subst hops
  have hNS : Region.noSelect (Rg.opsOf Tryz.f8 22) = true := by kernel_rfl
  refine wp_region_held_drew (S := StepAt bs K P Q M) (by kernel_rfl) hS (fun hHeld => ?_)
  rw [show (Rg.opsOf Tryz.f8 22).size = 10 by kernel_rfl]
  refine Rg.take (ops := (Rg.opsOf Tryz.f8 22)) 0 (some 121) (dv) hNS (by kernel_rfl) (by kernel_rfl) (by kernel_rfl) (by kernel_rfl) (by kernel_rfl) hHeld (Rg.y_move (x := (Operand.tmp 0)) (Or.inl (by kernel_rfl)) (by kernel_rfl)) ?_
  refine Rg.take (ops := (Rg.opsOf Tryz.f8 22)) 1 (some 122) ((.pointer (some ⟨bs, 3, none⟩))) hNS (by kernel_rfl) (by kernel_rfl) (by kernel_rfl) (by kernel_rfl) (by kernel_rfl) hHeld (Rg.y_field (T := 29) (k := 3) (x := (Operand.tmp 5)) (vx := (.pointer (some ⟨bs, 0, none⟩))) (by kernel_rfl) (by kernel_rfl) ?_) ?_
  · (intro w hSw; clear hSw; go_simp)
  refine Rg.take (ops := (Rg.opsOf Tryz.f8 22)) 2 (some 123) ((.int .i64 M)) hNS (by kernel_rfl) (by kernel_rfl) (by kernel_rfl) (by kernel_rfl) (by kernel_rfl) hHeld (Rg.y_load (T := 3) (x := (Operand.tmp 122)) (vx := (.pointer (some ⟨bs, 3, none⟩))) (by kernel_rfl) (by kernel_rfl) ?_) ?_
  · (intro w hSw; obtain ⟨hS0, hS1, hS2, hS3⟩ := hSw; go_simp)
  refine Rg.take (ops := (Rg.opsOf Tryz.f8 22)) 4 (some 125) (wv) hNS (by kernel_rfl) (by kernel_rfl) (by kernel_rfl) (by kernel_rfl) (by kernel_rfl) hHeld (Rg.y_move (x := (Operand.tmp 1)) (Or.inl (by kernel_rfl)) (by kernel_rfl)) ?_
  refine Rg.take (ops := (Rg.opsOf Tryz.f8 22)) 5 (some 126) ((.pointer (some ⟨bs, 3, none⟩))) hNS (by kernel_rfl) (by kernel_rfl) (by kernel_rfl) (by kernel_rfl) (by kernel_rfl) hHeld (Rg.y_field (T := 29) (k := 3) (x := (Operand.tmp 5)) (vx := (.pointer (some ⟨bs, 0, none⟩))) (by kernel_rfl) (by kernel_rfl) ?_) ?_
  · (intro w hSw; clear hSw; go_simp)
  refine Rg.take (ops := (Rg.opsOf Tryz.f8 22)) 6 (some 127) ((.int .i64 M)) hNS (by kernel_rfl) (by kernel_rfl) (by kernel_rfl) (by kernel_rfl) (by kernel_rfl) hHeld (Rg.y_load (T := 3) (x := (Operand.tmp 126)) (vx := (.pointer (some ⟨bs, 3, none⟩))) (by kernel_rfl) (by kernel_rfl) ?_) ?_
  · (intro w hSw; obtain ⟨hS0, hS1, hS2, hS3⟩ := hSw; go_simp)
  refine Rg.call (ops := (Rg.opsOf Tryz.f8 22)) (fn := Tryz.f31) (xs := #[Operand.tmp 121, Operand.tmp 123]) (ats := #[23, 3]) 3 (some 124) 31 #[dv, (.int .i64 M)] (by kernel_rfl) (by kernel_rfl) (by kernel_rfl) (by kernel_rfl) (by kernel_rfl) Tryz.func31 (by kernel_rfl) (by kernel_rfl) (by kernel_rfl) ?_
  refine hd.mono ?_
  rintro e w5 ⟨rfl, hA5⟩
  refine ⟨_, rfl, hAS _ hA5, fun hHeld => ?_⟩
  refine Rg.call (ops := (Rg.opsOf Tryz.f8 22)) (fn := Tryz.f32) (xs := #[Operand.tmp 125, Operand.tmp 127]) (ats := #[26, 3]) 7 (some 128) 32 #[wv, (.int .i64 M)] (by kernel_rfl) (by kernel_rfl) (by kernel_rfl) (by kernel_rfl) (by kernel_rfl) Tryz.func32 (by kernel_rfl) (by kernel_rfl) (by kernel_rfl) ?_
  refine (hw _ hA5).mono ?_
  rintro e w6 ⟨rfl, hB6⟩
  refine ⟨_, rfl, hBS _ hB6, fun hHeld => ?_⟩
  refine Rg.take (ops := (Rg.opsOf Tryz.f8 22)) 8 (some 129) ((.bool true)) hNS (by kernel_rfl) (by kernel_rfl) (by kernel_rfl) (by kernel_rfl) (by kernel_rfl) hHeld (Rg.y_bin (b := BinOp.eql) (T := 3) (R' := 3) (x := (Operand.tmp 124)) (y := (Operand.tmp 128)) (vx := (.int .i64 (X : Int))) (vy := (.int .i64 (X : Int))) (by kernel_rfl) (by kernel_rfl) (by kernel_rfl) ?_) ?_
  · (intro w hSw; clear hSw; go_simp)
  refine Rg.take (ops := (Rg.opsOf Tryz.f8 22)) 9 (some 6) ((.bool true)) hNS (by kernel_rfl) (by kernel_rfl) (by kernel_rfl) (by kernel_rfl) (by kernel_rfl) hHeld (Rg.y_move (x := (Operand.tmp 129)) (Or.inr (by kernel_rfl)) (by kernel_rfl)) ?_
  refine Rg.done (ops := (Rg.opsOf Tryz.f8 22)) (by kernel_rfl) ?_
  exact ⟨by kernel_rfl, hB6⟩

set_option maxRecDepth 100000 in
set_option maxHeartbeats 2000000 in
theorem doesRot (ops : Array Oper) (hops : ops = (Rg.opsOf Tryz.f8 24)) (id : Nat) (bs : Nat) (K M : Int) (P Q : ByteArray) (X : Nat) (dv wv : Value) {u2 u3 u4 u6 u7 u8 u9 u10 u11 u12 u13 u14 u15 u16 u17 u18 u19 u20 u21 u22 u23 u24 u25 u26 u27 u28 u29 u30 u31 u32 u33 u34 u35 u36 u37 u38 u39 u40 u41 u42 u43 u44 u45 u46 u47 u48 u49 u50 u51 u52 u53 u54 u55 u56 u57 u58 u59 u60 u61 u62 u63 u64 u65 u66 u67 u68 u69 u70 u71 u72 u73 u74 u75 u76 u77 u78 u79 u80 u81 u82 u83 u84 u85 u86 u87 u88 u89 u90 u91 u92 u93 u94 u95 u96 u97 u98 u99 u100 u101 u102 u103 u104 u105 u106 u107 u108 u109 u110 u111 u112 u113 u114 u115 u116 u117 u118 u119 u120 u121 u122 u123 u124 u125 u126 u127 u128 u129 u130 u131 u132 u133 u134 u135 u136 u137 u138 u139 u140 u141 u142 u143 u144 : Value} (w : World) (A B : World → Prop)
    (hS : StepAt bs K P Q M w) (hd : Calls Tryz.prog 33 #[dv, (.string P), (.int .i64 M)] w.drew fun e w' => e = .returned (.int .i64 (X : Int)) ∧ A w') (hAS : ∀ W, A W → StepAt bs K P Q M W)
    (hw : ∀ W, A W → Calls Tryz.prog 34 #[wv, (.string P), (.int .i64 M)] W fun e w' => e = .returned (.int .i64 (X : Int)) ∧ B w') (hBS : ∀ W, B W → StepAt bs K P Q M W) :
    (Code.region id ops true).wp Tryz.prog (Rg.Only fun a' w' => a' = ⟨#[dv, wv, u2, u3, u4, (.pointer (some ⟨bs, 0, none⟩)), (.bool true), u7, u8, u9, u10, u11, u12, u13, u14, u15, u16, u17, u18, u19, u20, u21, u22, u23, u24, u25, u26, u27, u28, u29, u30, u31, u32, u33, u34, u35, u36, u37, u38, u39, u40, u41, u42, u43, u44, u45, u46, u47, u48, u49, u50, u51, u52, u53, u54, u55, u56, u57, u58, u59, u60, u61, u62, u63, u64, u65, u66, u67, u68, u69, u70, u71, u72, u73, u74, u75, u76, u77, u78, u79, u80, u81, u82, u83, u84, u85, u86, u87, u88, u89, u90, u91, u92, u93, u94, u95, u96, u97, u98, u99, u100, u101, u102, u103, u104, u105, u106, u107, u108, u109, u110, u111, u112, u113, u114, u115, u116, u117, u118, u119, u120, u121, u122, u123, u124, u125, u126, u127, u128, u129, u130, u131, dv, (.pointer (some ⟨bs, 1, none⟩)), (.string P), (.pointer (some ⟨bs, 3, none⟩)), (.int .i64 M), (.int .i64 (X : Int)), wv, (.pointer (some ⟨bs, 1, none⟩)), (.string P), (.pointer (some ⟨bs, 3, none⟩)), (.int .i64 M), (.int .i64 (X : Int)), (.bool true)], []⟩ ∧ B w') ⟨#[dv, wv, u2, u3, u4, (.pointer (some ⟨bs, 0, none⟩)), u6, u7, u8, u9, u10, u11, u12, u13, u14, u15, u16, u17, u18, u19, u20, u21, u22, u23, u24, u25, u26, u27, u28, u29, u30, u31, u32, u33, u34, u35, u36, u37, u38, u39, u40, u41, u42, u43, u44, u45, u46, u47, u48, u49, u50, u51, u52, u53, u54, u55, u56, u57, u58, u59, u60, u61, u62, u63, u64, u65, u66, u67, u68, u69, u70, u71, u72, u73, u74, u75, u76, u77, u78, u79, u80, u81, u82, u83, u84, u85, u86, u87, u88, u89, u90, u91, u92, u93, u94, u95, u96, u97, u98, u99, u100, u101, u102, u103, u104, u105, u106, u107, u108, u109, u110, u111, u112, u113, u114, u115, u116, u117, u118, u119, u120, u121, u122, u123, u124, u125, u126, u127, u128, u129, u130, u131, u132, u133, u134, u135, u136, u137, u138, u139, u140, u141, u142, u143, u144], []⟩ w := by
  subst hops
  have hNS : Region.noSelect (Rg.opsOf Tryz.f8 24) = true := by kernel_rfl
  refine wp_region_held_drew (S := StepAt bs K P Q M) (by kernel_rfl) hS (fun hHeld => ?_)
  rw [show (Rg.opsOf Tryz.f8 24).size = 14 by kernel_rfl]
  refine Rg.take (ops := (Rg.opsOf Tryz.f8 24)) 0 (some 132) (dv) hNS (by kernel_rfl) (by kernel_rfl) (by kernel_rfl) (by kernel_rfl) (by kernel_rfl) hHeld (Rg.y_move (x := (Operand.tmp 0)) (Or.inl (by kernel_rfl)) (by kernel_rfl)) ?_
  refine Rg.take (ops := (Rg.opsOf Tryz.f8 24)) 1 (some 133) ((.pointer (some ⟨bs, 1, none⟩))) hNS (by kernel_rfl) (by kernel_rfl) (by kernel_rfl) (by kernel_rfl) (by kernel_rfl) hHeld (Rg.y_field (T := 29) (k := 1) (x := (Operand.tmp 5)) (vx := (.pointer (some ⟨bs, 0, none⟩))) (by kernel_rfl) (by kernel_rfl) ?_) ?_
  · (intro w hSw; clear hSw; go_simp)
  refine Rg.take (ops := (Rg.opsOf Tryz.f8 24)) 2 (some 134) ((.string P)) hNS (by kernel_rfl) (by kernel_rfl) (by kernel_rfl) (by kernel_rfl) (by kernel_rfl) hHeld (Rg.y_load (T := 9) (x := (Operand.tmp 133)) (vx := (.pointer (some ⟨bs, 1, none⟩))) (by kernel_rfl) (by kernel_rfl) ?_) ?_
  · (intro w hSw; obtain ⟨hS0, hS1, hS2, hS3⟩ := hSw; go_simp)
  refine Rg.take (ops := (Rg.opsOf Tryz.f8 24)) 3 (some 135) ((.pointer (some ⟨bs, 3, none⟩))) hNS (by kernel_rfl) (by kernel_rfl) (by kernel_rfl) (by kernel_rfl) (by kernel_rfl) hHeld (Rg.y_field (T := 29) (k := 3) (x := (Operand.tmp 5)) (vx := (.pointer (some ⟨bs, 0, none⟩))) (by kernel_rfl) (by kernel_rfl) ?_) ?_
  · (intro w hSw; clear hSw; go_simp)
  refine Rg.take (ops := (Rg.opsOf Tryz.f8 24)) 4 (some 136) ((.int .i64 M)) hNS (by kernel_rfl) (by kernel_rfl) (by kernel_rfl) (by kernel_rfl) (by kernel_rfl) hHeld (Rg.y_load (T := 3) (x := (Operand.tmp 135)) (vx := (.pointer (some ⟨bs, 3, none⟩))) (by kernel_rfl) (by kernel_rfl) ?_) ?_
  · (intro w hSw; obtain ⟨hS0, hS1, hS2, hS3⟩ := hSw; go_simp)
  refine Rg.take (ops := (Rg.opsOf Tryz.f8 24)) 6 (some 138) (wv) hNS (by kernel_rfl) (by kernel_rfl) (by kernel_rfl) (by kernel_rfl) (by kernel_rfl) hHeld (Rg.y_move (x := (Operand.tmp 1)) (Or.inl (by kernel_rfl)) (by kernel_rfl)) ?_
  refine Rg.take (ops := (Rg.opsOf Tryz.f8 24)) 7 (some 139) ((.pointer (some ⟨bs, 1, none⟩))) hNS (by kernel_rfl) (by kernel_rfl) (by kernel_rfl) (by kernel_rfl) (by kernel_rfl) hHeld (Rg.y_field (T := 29) (k := 1) (x := (Operand.tmp 5)) (vx := (.pointer (some ⟨bs, 0, none⟩))) (by kernel_rfl) (by kernel_rfl) ?_) ?_
  · (intro w hSw; clear hSw; go_simp)
  refine Rg.take (ops := (Rg.opsOf Tryz.f8 24)) 8 (some 140) ((.string P)) hNS (by kernel_rfl) (by kernel_rfl) (by kernel_rfl) (by kernel_rfl) (by kernel_rfl) hHeld (Rg.y_load (T := 9) (x := (Operand.tmp 139)) (vx := (.pointer (some ⟨bs, 1, none⟩))) (by kernel_rfl) (by kernel_rfl) ?_) ?_
  · (intro w hSw; obtain ⟨hS0, hS1, hS2, hS3⟩ := hSw; go_simp)
  refine Rg.take (ops := (Rg.opsOf Tryz.f8 24)) 9 (some 141) ((.pointer (some ⟨bs, 3, none⟩))) hNS (by kernel_rfl) (by kernel_rfl) (by kernel_rfl) (by kernel_rfl) (by kernel_rfl) hHeld (Rg.y_field (T := 29) (k := 3) (x := (Operand.tmp 5)) (vx := (.pointer (some ⟨bs, 0, none⟩))) (by kernel_rfl) (by kernel_rfl) ?_) ?_
  · (intro w hSw; clear hSw; go_simp)
  refine Rg.take (ops := (Rg.opsOf Tryz.f8 24)) 10 (some 142) ((.int .i64 M)) hNS (by kernel_rfl) (by kernel_rfl) (by kernel_rfl) (by kernel_rfl) (by kernel_rfl) hHeld (Rg.y_load (T := 3) (x := (Operand.tmp 141)) (vx := (.pointer (some ⟨bs, 3, none⟩))) (by kernel_rfl) (by kernel_rfl) ?_) ?_
  · (intro w hSw; obtain ⟨hS0, hS1, hS2, hS3⟩ := hSw; go_simp)
  refine Rg.call (ops := (Rg.opsOf Tryz.f8 24)) (fn := Tryz.f33) (xs := #[Operand.tmp 132, Operand.tmp 134, Operand.tmp 136]) (ats := #[23, 9, 3]) 5 (some 137) 33 #[dv, (.string P), (.int .i64 M)] (by kernel_rfl) (by kernel_rfl) (by kernel_rfl) (by kernel_rfl) (by kernel_rfl) Tryz.func33 (by kernel_rfl) (by kernel_rfl) (by kernel_rfl) ?_
  refine hd.mono ?_
  rintro e w5 ⟨rfl, hA5⟩
  refine ⟨_, rfl, hAS _ hA5, fun hHeld => ?_⟩
  refine Rg.call (ops := (Rg.opsOf Tryz.f8 24)) (fn := Tryz.f34) (xs := #[Operand.tmp 138, Operand.tmp 140, Operand.tmp 142]) (ats := #[26, 9, 3]) 11 (some 143) 34 #[wv, (.string P), (.int .i64 M)] (by kernel_rfl) (by kernel_rfl) (by kernel_rfl) (by kernel_rfl) (by kernel_rfl) Tryz.func34 (by kernel_rfl) (by kernel_rfl) (by kernel_rfl) ?_
  refine (hw _ hA5).mono ?_
  rintro e w6 ⟨rfl, hB6⟩
  refine ⟨_, rfl, hBS _ hB6, fun hHeld => ?_⟩
  refine Rg.take (ops := (Rg.opsOf Tryz.f8 24)) 12 (some 144) ((.bool true)) hNS (by kernel_rfl) (by kernel_rfl) (by kernel_rfl) (by kernel_rfl) (by kernel_rfl) hHeld (Rg.y_bin (b := BinOp.eql) (T := 3) (R' := 3) (x := (Operand.tmp 137)) (y := (Operand.tmp 143)) (vx := (.int .i64 (X : Int))) (vy := (.int .i64 (X : Int))) (by kernel_rfl) (by kernel_rfl) (by kernel_rfl) ?_) ?_
  · (intro w hSw; clear hSw; go_simp)
  refine Rg.take (ops := (Rg.opsOf Tryz.f8 24)) 13 (some 6) ((.bool true)) hNS (by kernel_rfl) (by kernel_rfl) (by kernel_rfl) (by kernel_rfl) (by kernel_rfl) hHeld (Rg.y_move (x := (Operand.tmp 144)) (Or.inr (by kernel_rfl)) (by kernel_rfl)) ?_
  refine Rg.done (ops := (Rg.opsOf Tryz.f8 24)) (by kernel_rfl) ?_
  exact ⟨by kernel_rfl, hB6⟩

end Go.Proofs.YtcbnpdognadilaaGreat.Dk

/- What every kind of disk does at a call, in the same words; the document's own does so. -/
namespace Go.Proofs.YtcbnpdognadilaaGreat.Dk
open Go.RowKit Tx Pm
set_option linter.unusedVariables false

/-- How far a script has come: i calls, texts of T bytes in all. -/
structure Far (s : St) (i T : Nat) : Prop where
  inv : Inv s i T
  i : i ≤ 1000
  T : T ≤ 1048576000
/-- A call answers a number and leaves the disk so. -/
def Does (O : World → (Nat → Prop) → St → Prop) (w : World) (F : Nat → Prop) (r : Nat × St) (e : Ending) (w' : World) : Prop := e = .returned (.int .i64 (r.1 : Nat)) ∧ Left O w F r.2 w'
/-- The nine calls that change a disk. -/
structure Works (O : World → (Nat → Prop) → St → Prop) (v : Value) (f : Fin 9 → FuncId) : Prop where
  kind : Kind O
  mkdir : ∀ {w F s i T} (P : ByteArray), O w F s → Far s i T → P.size ≤ 1048576 → Calls Tryz.prog (f 0) #[v, .string P] w (Does O w F (mkdirS s P))
  write : ∀ {w F s i T} (P Q : ByteArray), O w F s → Far s i T → P.size ≤ 1048576 → Q.size ≤ 1048576 → Calls Tryz.prog (f 1) #[v, .string P, .string Q] w (Does O w F (writeS s P Q))
  append : ∀ {w F s i T} (P Q : ByteArray), O w F s → Far s i T → P.size ≤ 1048576 → Q.size ≤ 1048576 → Calls Tryz.prog (f 2) #[v, .string P, .string Q] w (Does O w F (appendS s P Q))
  sync : ∀ {w F s i T} (P : ByteArray), O w F s → Far s i T → P.size ≤ 1048576 → Calls Tryz.prog (f 3) #[v, .string P] w (Does O w F (syncS s P))
  rename : ∀ {w F s i T} (P Q : ByteArray), O w F s → Far s i T → P.size ≤ 1048576 → Q.size ≤ 1048576 → Calls Tryz.prog (f 4) #[v, .string P, .string Q] w (Does O w F (renameS s P Q))
  remove : ∀ {w F s i T} (P : ByteArray), O w F s → Far s i T → P.size ≤ 1048576 → Calls Tryz.prog (f 5) #[v, .string P] w (Does O w F (removeS s P))
  limit : ∀ {w F s i T} (P : ByteArray) (M : Int), O w F s → Far s i T → P.size ≤ 1048576 → -9223372036854775808 ≤ M ∧ M ≤ 9223372036854775807 → Calls Tryz.prog (f 6) #[v, .string P, .int .i64 M] w (Does O w F (limitS s P M))
  restart : ∀ {w F s i T} (M : Int), O w F s → Far s i T → -9223372036854775808 ≤ M ∧ M ≤ 9223372036854775807 → Calls Tryz.prog (f 7) #[v, .int .i64 M] w (Does O w F (0, restartS s M))
  rot : ∀ {w F s i T} (P : ByteArray) (M : Int), O w F s → Far s i T → P.size ≤ 1048576 → -9223372036854775808 ≤ M ∧ M ≤ 9223372036854775807 → Calls Tryz.prog (f 8) #[v, .string P, .int .i64 M] w (Does O w F (rotS s P M))
def refF : Fin 9 → FuncId
  | 0 => 19
  | 1 => 20
  | 2 => 22
  | 3 => 24
  | 4 => 25
  | 5 => 27
  | 6 => 29
  | 7 => 32
  | 8 => 34
theorem ref_works (b : Nat) : Works (RefAt b) (.pointer (some ⟨b, 0, none⟩)) refF where
  kind := ref_kind b
  mkdir := fun P h hf hP => by
    obtain ⟨vL, vR, hat, hF⟩ := h
    exact (rMkdir_any b _ vL vR P _ hat (hf.inv.ok hf.i hf.T) (by omega)).mono fun e w' ht => to_left hF ht
  write := fun P Q h hf hP hQ => by
    obtain ⟨vL, vR, hat, hF⟩ := h
    exact (rWrite_any b _ vL vR P Q _ hat (hf.inv.ok hf.i hf.T) (by omega) (by omega)).mono fun e w' ht => to_left hF ht
  append := fun P Q h hf hP hQ => by
    obtain ⟨vL, vR, hat, hF⟩ := h
    exact (rAppend_any b _ vL vR P Q _ hat (hf.inv.ok hf.i hf.T) (by omega) (fun x hx => by have := (hf.inv.size x hx).1; have := hf.T; omega) (by omega)).mono fun e w' ht => to_left hF ht
  sync := fun P h hf hP => by
    obtain ⟨vL, vR, hat, hF⟩ := h
    exact (rSync_any b _ vL vR P _ hat (hf.inv.ok hf.i hf.T) (by omega)).mono fun e w' ht => to_left hF ht
  rename := fun P Q h hf hP hQ => by
    obtain ⟨vL, vR, hat, hF⟩ := h
    exact (rRename_any b _ vL vR P Q _ hat (hf.inv.ok hf.i hf.T) (by omega) (by omega)).mono fun e w' ht => to_left hF ht
  remove := fun P h hf hP => by
    obtain ⟨vL, vR, hat, hF⟩ := h
    exact (rRemove_any b _ vL vR P _ hat (hf.inv.ok hf.i hf.T) (by omega)).mono fun e w' ht => to_left hF ht
  limit := fun P M h hf hP hM => by
    obtain ⟨vL, vR, hat, hF⟩ := h
    exact (rLimit_any b _ vL vR P M _ hat (hf.inv.ok hf.i hf.T) (by omega) hM).mono fun e w' ht => to_left hF ht
  restart := fun M h hf hM => by
    obtain ⟨vL, vR, hat, hF⟩ := h
    exact (rRestart_any b _ vL vR M _ hat (hf.inv.sound hf.i hf.T) (by have := hf.inv.len; have := hf.i; omega) hM).mono fun e w' ht => to_left hF ht
  rot := fun P M h hf hP hM => by
    obtain ⟨vL, vR, hat, hF⟩ := h
    exact (rRot_any b _ vL vR P M _ hat (hf.inv.ok hf.i hf.T) (by omega) hM (fun x hx => by have := hf.inv.size x hx; have := hf.T; omega)).mono fun e w' ht => to_left hF ht
end Go.Proofs.YtcbnpdognadilaaGreat.Dk

/- The law's own does, over any kind of disk that works: contract. -/
namespace Go.Proofs.YtcbnpdognadilaaGreat.Dk
open Go.RowKit Tx Pm
set_option linter.unusedVariables false

def impF : Fin 9 → FuncId
  | 0 => 14
  | 1 => 15
  | 2 => 21
  | 3 => 23
  | 4 => 16
  | 5 => 26
  | 6 => 28
  | 7 => 31
  | 8 => 33
/-- Both disks behind a step. -/
def Both (O : World → (Nat → Prop) → St → Prop) (b : Nat) (w : World) (F G : Nat → Prop) (s : St) (w' : World) : Prop :=
  ∃ F' G', Pair O (RefAt b) w' F' G' s ∧ Chg (fun i => F i ∨ G i) w w' ∧ (∀ g, F' g → F g ∨ w.heap.size ≤ g) ∧ (∀ g, G' g → G g ∨ w.heap.size ≤ g)
theorem pair_below {O1 O2 : World → (Nat → Prop) → St → Prop} (k1 : Kind O1) (k2 : Kind O2) {w w1 : World} {F G : Nat → Prop} {s : St} (h : Pair O1 O2 w F G s) (hb : Below w.heap.size w w1) : Pair O1 O2 w1 F G s :=
  ⟨k1.kept h.1 (fun i hi => hb.block i (k1.lt h.1 i hi)), k2.kept h.2.1 (fun i hi => hb.block i (k2.lt h.2.1 i hi)), h.2.2⟩
theorem both_after {O : World → (Nat → Prop) → St → Prop} {b : Nat} {w w1 w2 : World} {F G : Nat → Prop} {s : St} (hb : Below w.heap.size w w1) (h : Both O b w1 F G s w2) : Both O b w F G s w2 := by
  obtain ⟨F', G', hp, hc, n1, n2⟩ := h
  have := hb.size
  exact ⟨F', G', hp, (Chg.of_below hb).trans hc (fun i hi => .inl hi), fun g hg => (n1 g hg).imp id (fun hh => by omega), fun g hg => (n2 g hg).imp id (fun hh => by omega)⟩
theorem both_same {O : World → (Nat → Prop) → St → Prop} (k1 : Kind O) {b : Nat} {w w1 : World} {F G : Nat → Prop} {s : St} (h : Pair O (RefAt b) w F G s) (hb : Below w.heap.size w w1) : Both O b w F G s w1 :=
  ⟨F, G, pair_below k1 (ref_kind b) h hb, Chg.of_below hb, fun g hg => .inl hg, fun g hg => .inl hg⟩
/-- A variable of a step stays through a call of either disk. -/
theorem step_left {O : World → (Nat → Prop) → St → Prop} {w w1 : World} {F : Nat → Prop} {s' : St} {bs : Nat} {K M : Int} {P Q : ByteArray} (h : StepAt bs K P Q M w) (hl : Left O w F s' w1) (hn : ¬ F bs) (hb : bs < w.heap.size) : StepAt bs K P Q M w1 := by
  obtain ⟨F', _, hc, _⟩ := hl
  have e : ∀ k, w1.cell? ⟨bs, k, none⟩ = w.cell? ⟨bs, k, none⟩ := fun k => by unfold World.cell?; rw [hc.block bs hb hn]
  unfold StepAt
  rw [e, e, e, e]
  exact h

set_option maxRecDepth 100000 in
set_option maxHeartbeats 4000000 in
theorem does_any {O : World → (Nat → Prop) → St → Prop} (v : Value) (b : Nat) (hwk : Works O v impF)
    (harm : ∀ {w F s i T} (M : Int), O w F s → Far s i T → -9223372036854775808 ≤ M ∧ M ≤ 9223372036854775807 → Calls Tryz.prog 30 #[v, .int .i64 M] w fun e w' => (∃ u, e = .returned u) ∧ Left O w F { s with armed := if M < 0 then -1 else M } w')
    {F G : Nat → Prop} {s : St} {i T : Nat} (w : World) (hp : Pair O (RefAt b) w F G s) (far : Far s i T) (K M : Int) (P Q : ByteArray)
    (hP : P.size ≤ 1048576) (hQ : Q.size ≤ 1048576) (hM : -9223372036854775808 ≤ M ∧ M ≤ 9223372036854775807) :
    Calls Tryz.prog 8 #[v, .pointer (some ⟨b, 0, none⟩), .agg #[.int .i64 K, .string P, .string Q, .int .i64 M]] w fun e w' => e = .returned (.bool true) ∧ Both O b w F G (stepS s K P Q M) w' := by
  have k1 := hwk.kind
  have k2 := ref_kind b
  have hr := ref_works b
  obtain ⟨o, ho⟩ : ∃ o : Obj, o = .cells #[.int .i64 K, .string P, .string Q, .int .i64 M] 29 := ⟨_, rfl⟩
  have hB0 : Below w.heap.size w (w.alloc o) := (Below.refl _ _).alloc (Nat.le_refl _) _
  have hp0 := pair_below k1 k2 hp hB0
  have hp1 := pair_below k1 k2 hp0 (Below.refl _ _).drew
  have hst : StepAt w.heap.size K P Q M (w.alloc o) := by
    rw [ho]
    exact ⟨by simp, by simp, by simp, by simp⟩
  have hst1 : StepAt w.heap.size K P Q M (w.alloc o).drew := hst
  have hnF : ¬ F w.heap.size := fun hh => by have := k1.lt hp.1 _ hh; omega
  have hnG : ¬ G w.heap.size := fun hh => by have := k2.lt hp.2.1 _ hh; omega
  have hlt1 : w.heap.size < (w.alloc o).drew.heap.size := by show _ < (w.alloc o).heap.size; simp
  -- a call of both
  have two : ∀ (X : Nat × St) (w6 : World), (∃ W : World, Left O (w.alloc o).drew F X.2 W ∧ Left (RefAt b) W G X.2 w6) → Both O b w F G X.2 w6 := by
    rintro X w6 ⟨W, hA, hB⟩
    exact both_after (hB0.trans (((Below.refl _ _).drew).mono hB0.size)) (pair_calls k1 k2 hp1 hA (fun (_ : Prop) _ _ _ => trivial) hB)
  have stepA : ∀ (s' : St) (W : World), Left O (w.alloc o).drew F s' W → StepAt w.heap.size K P Q M W := fun s' W hA => step_left hst1 hA hnF hlt1
  have stepB : ∀ (s' : St) (W : World), (∃ W0 : World, Left O (w.alloc o).drew F s' W0 ∧ Left (RefAt b) W0 G s' W) → StepAt w.heap.size K P Q M W := by
    rintro s' W ⟨W0, hA, hB⟩
    have := hA
    obtain ⟨_, _, hc, _⟩ := this
    exact step_left (stepA s' W0 hA) hB hnG (Nat.lt_of_lt_of_le hlt1 hc.size)
  have HTWO := Lib.hid two
  have HSA := Lib.hid stepA
  have HSB := Lib.hid stepB
  have HP1 := Lib.hid hp1
  have HP0 := Lib.hid hp0
  have HPP := Lib.hid hp
  have HST := Lib.hid hst
  have hcells := hst
  obtain ⟨q0, q1, q2, q3⟩ := hcells
  obtain ⟨r, hr0⟩ : ∃ r, r = stepS s K P Q M := ⟨_, rfl⟩
  rw [← hr0]
  have HR := Lib.hid hr0
  have HO := Lib.hid ho
  have HNF := Lib.hid hnF
  have HNG := Lib.hid hnG
  clear two stepA stepB hp1 hp0 hp hst hst1 hr0 hnF hnG hlt1

  by_cases h1 : K = 1
  · subst h1
    have hs : stepS s 1 P Q M = (mkdirS s P).2 := rfl
    have hd := hwk.mkdir P HP1.out.1 far hP
    clear ho
    go_enter Tryz.func8, Tryz.ntmps8
    go_wp2_with fail
    rw [← HO.out]
    refine Rg.wp_only ?_ (doesMkdir _ (by kernel_rfl) _ w.heap.size _ M P Q (mkdirS s P).1 v (.pointer (some ⟨b, 0, none⟩)) _ (fun W => Left O (w.alloc o).drew F (mkdirS s P).2 W) (fun W => ∃ W0, Left O (w.alloc o).drew F (mkdirS s P).2 W0 ∧ Left (RefAt b) W0 G (mkdirS s P).2 W)
      HST.out hd (HSA.out _) (fun W hA => (hr.mkdir P (pair_other k2 HP1.out hA) far hP).mono fun e w' hh => ⟨hh.1, W, hA, hh.2⟩) (HSB.out _))
    rintro _ w9 ⟨rfl, hB9⟩
    go_wp2_with fail
    go_ret
    refine ⟨rfl, ?_⟩
    rw [HR.out, hs]
    exact HTWO.out (mkdirS s P) _ hB9
  have e1 : ((K : Int) == 1) = false := beq_eq_false_iff_ne.2 h1

  by_cases h2 : K = 2
  · subst h2
    have hs : stepS s 2 P Q M = (writeS s P Q).2 := rfl
    have hd := hwk.write P Q HP1.out.1 far hP hQ
    clear ho
    go_enter Tryz.func8, Tryz.ntmps8
    go_wp2_with fail
    rw [← HO.out]
    refine Rg.wp_only ?_ (doesWrite _ (by kernel_rfl) _ w.heap.size _ M P Q (writeS s P Q).1 v (.pointer (some ⟨b, 0, none⟩)) _ (fun W => Left O (w.alloc o).drew F (writeS s P Q).2 W) (fun W => ∃ W0, Left O (w.alloc o).drew F (writeS s P Q).2 W0 ∧ Left (RefAt b) W0 G (writeS s P Q).2 W)
      HST.out hd (HSA.out _) (fun W hA => (hr.write P Q (pair_other k2 HP1.out hA) far hP hQ).mono fun e w' hh => ⟨hh.1, W, hA, hh.2⟩) (HSB.out _))
    rintro _ w9 ⟨rfl, hB9⟩
    go_wp2_with fail
    go_ret
    refine ⟨rfl, ?_⟩
    rw [HR.out, hs]
    exact HTWO.out (writeS s P Q) _ hB9
  have e2 : ((K : Int) == 2) = false := beq_eq_false_iff_ne.2 h2

  by_cases h3 : K = 3
  · subst h3
    have hs : stepS s 3 P Q M = (appendS s P Q).2 := rfl
    have hd := hwk.append P Q HP1.out.1 far hP hQ
    clear ho
    go_enter Tryz.func8, Tryz.ntmps8
    go_wp2_with fail
    rw [← HO.out]
    refine Rg.wp_only ?_ (doesAppend _ (by kernel_rfl) _ w.heap.size _ M P Q (appendS s P Q).1 v (.pointer (some ⟨b, 0, none⟩)) _ (fun W => Left O (w.alloc o).drew F (appendS s P Q).2 W) (fun W => ∃ W0, Left O (w.alloc o).drew F (appendS s P Q).2 W0 ∧ Left (RefAt b) W0 G (appendS s P Q).2 W)
      HST.out hd (HSA.out _) (fun W hA => (hr.append P Q (pair_other k2 HP1.out hA) far hP hQ).mono fun e w' hh => ⟨hh.1, W, hA, hh.2⟩) (HSB.out _))
    rintro _ w9 ⟨rfl, hB9⟩
    go_wp2_with fail
    go_ret
    refine ⟨rfl, ?_⟩
    rw [HR.out, hs]
    exact HTWO.out (appendS s P Q) _ hB9
  have e3 : ((K : Int) == 3) = false := beq_eq_false_iff_ne.2 h3

  by_cases h4 : K = 4
  · subst h4
    have hs : stepS s 4 P Q M = (syncS s P).2 := rfl
    have hd := hwk.sync P HP1.out.1 far hP
    clear ho
    go_enter Tryz.func8, Tryz.ntmps8
    go_wp2_with fail
    rw [← HO.out]
    refine Rg.wp_only ?_ (doesSync _ (by kernel_rfl) _ w.heap.size _ M P Q (syncS s P).1 v (.pointer (some ⟨b, 0, none⟩)) _ (fun W => Left O (w.alloc o).drew F (syncS s P).2 W) (fun W => ∃ W0, Left O (w.alloc o).drew F (syncS s P).2 W0 ∧ Left (RefAt b) W0 G (syncS s P).2 W)
      HST.out hd (HSA.out _) (fun W hA => (hr.sync P (pair_other k2 HP1.out hA) far hP).mono fun e w' hh => ⟨hh.1, W, hA, hh.2⟩) (HSB.out _))
    rintro _ w9 ⟨rfl, hB9⟩
    go_wp2_with fail
    go_ret
    refine ⟨rfl, ?_⟩
    rw [HR.out, hs]
    exact HTWO.out (syncS s P) _ hB9
  have e4 : ((K : Int) == 4) = false := beq_eq_false_iff_ne.2 h4

  by_cases h5 : K = 5
  · subst h5
    have hs : stepS s 5 P Q M = (renameS s P Q).2 := rfl
    have hd := hwk.rename P Q HP1.out.1 far hP hQ
    clear ho
    go_enter Tryz.func8, Tryz.ntmps8
    go_wp2_with fail
    rw [← HO.out]
    refine Rg.wp_only ?_ (doesRename _ (by kernel_rfl) _ w.heap.size _ M P Q (renameS s P Q).1 v (.pointer (some ⟨b, 0, none⟩)) _ (fun W => Left O (w.alloc o).drew F (renameS s P Q).2 W) (fun W => ∃ W0, Left O (w.alloc o).drew F (renameS s P Q).2 W0 ∧ Left (RefAt b) W0 G (renameS s P Q).2 W)
      HST.out hd (HSA.out _) (fun W hA => (hr.rename P Q (pair_other k2 HP1.out hA) far hP hQ).mono fun e w' hh => ⟨hh.1, W, hA, hh.2⟩) (HSB.out _))
    rintro _ w9 ⟨rfl, hB9⟩
    go_wp2_with fail
    go_ret
    refine ⟨rfl, ?_⟩
    rw [HR.out, hs]
    exact HTWO.out (renameS s P Q) _ hB9
  have e5 : ((K : Int) == 5) = false := beq_eq_false_iff_ne.2 h5

  by_cases h6 : K = 6
  · subst h6
    have hs : stepS s 6 P Q M = (removeS s P).2 := rfl
    have hd := hwk.remove P HP1.out.1 far hP
    clear ho
    go_enter Tryz.func8, Tryz.ntmps8
    go_wp2_with fail
    rw [← HO.out]
    refine Rg.wp_only ?_ (doesRemove _ (by kernel_rfl) _ w.heap.size _ M P Q (removeS s P).1 v (.pointer (some ⟨b, 0, none⟩)) _ (fun W => Left O (w.alloc o).drew F (removeS s P).2 W) (fun W => ∃ W0, Left O (w.alloc o).drew F (removeS s P).2 W0 ∧ Left (RefAt b) W0 G (removeS s P).2 W)
      HST.out hd (HSA.out _) (fun W hA => (hr.remove P (pair_other k2 HP1.out hA) far hP).mono fun e w' hh => ⟨hh.1, W, hA, hh.2⟩) (HSB.out _))
    rintro _ w9 ⟨rfl, hB9⟩
    go_wp2_with fail
    go_ret
    refine ⟨rfl, ?_⟩
    rw [HR.out, hs]
    exact HTWO.out (removeS s P) _ hB9
  have e6 : ((K : Int) == 6) = false := beq_eq_false_iff_ne.2 h6

  by_cases h7 : K = 7
  · subst h7
    have hs : stepS s 7 P Q M = (limitS s P M).2 := rfl
    have hd := hwk.limit P M HP1.out.1 far hP hM
    clear ho
    go_enter Tryz.func8, Tryz.ntmps8
    go_wp2_with fail
    rw [← HO.out]
    refine Rg.wp_only ?_ (doesLimit _ (by kernel_rfl) _ w.heap.size _ M P Q (limitS s P M).1 v (.pointer (some ⟨b, 0, none⟩)) _ (fun W => Left O (w.alloc o).drew F (limitS s P M).2 W) (fun W => ∃ W0, Left O (w.alloc o).drew F (limitS s P M).2 W0 ∧ Left (RefAt b) W0 G (limitS s P M).2 W)
      HST.out hd (HSA.out _) (fun W hA => (hr.limit P M (pair_other k2 HP1.out hA) far hP hM).mono fun e w' hh => ⟨hh.1, W, hA, hh.2⟩) (HSB.out _))
    rintro _ w9 ⟨rfl, hB9⟩
    go_wp2_with fail
    go_ret
    refine ⟨rfl, ?_⟩
    rw [HR.out, hs]
    exact HTWO.out (limitS s P M) _ hB9
  have e7 : ((K : Int) == 7) = false := beq_eq_false_iff_ne.2 h7

  by_cases h8 : K = 8
  · subst h8
    have hs : stepS s 8 P Q M = { s with armed := if M < 0 then -1 else M } := rfl
    have hd := harm M HP0.out.1 far hM
    have hA1 : ∀ W, Left O (w.alloc o) F { s with armed := if M < 0 then -1 else M } W → StepAt w.heap.size 8 P Q M W := fun W hA => step_left HST.out hA HNF.out (by simp)
    have HA1 := Lib.hid hA1
    have HHS := Lib.hid hs
    clear ho hA1 hs
    go_enter Tryz.func8, Tryz.ntmps8
    go_wp2_with fail
    go_at_call 30
    rw [← HO.out]
    refine hd.mono ?_
    rintro e w5 ⟨⟨u, rfl⟩, hA⟩
    have hst5 := HA1.out _ hA
    have hw5 := pair_other k2 HP0.out hA
    have hne : w.heap.size ≠ b := fun hh => HNG.out (by obtain ⟨vL, vR, hat, hF⟩ := HPP.out.2.1; exact (hF _).2 (.inl hh))
    have hne' : b ≠ w.heap.size := fun hh => hne hh.symm
    have HW5 := Lib.hid hw5
    have HA := Lib.hid hA
    obtain ⟨vL, vR, hat, hF⟩ := hw5
    have hwarm := hat.warm
    obtain ⟨p0, p1, p2, p3, p4, p5⟩ := hat.cell
    obtain ⟨r0, r1, r2, r3⟩ := hst5
    have HAT := Lib.hid hat
    have HF := Lib.hid hF
    clear hat hF hd hA q0 q1 q2 q3
    by_cases hneg : M < 0
    · have hlt : decide (M < 0) = true := decide_eq_true hneg
      go_wp2_with fail
      go_ret
      refine ⟨rfl, ?_⟩
      rw [HR.out, HHS.out]
      refine both_after hB0 (pair_calls k1 k2 HP0.out HA.out (fun (_ : Prop) _ _ _ => trivial) ⟨Foot b vL vR, ⟨vL, vR, HAT.out.poke ?_ (fun i hi => by rw [set_other _ hi, set_other _ hi]) rfl rfl, fun _ => Iff.rfl⟩, ((chg_set (b := b) (k := 4) (.int .i64 M)).then (chg_set (b := b) (k := 4) (.int .i64 (-1)))).mono (fun i hi => (HF.out i).2 (.inl hi)), fun g hg => .inl ((HF.out g).2 hg)⟩)
      rw [set_block (set_block HAT.out.blk _) _]
      simp only [if_pos hneg]
      rfl
    · have hlt : decide (M < 0) = false := decide_eq_false hneg
      go_wp2_with fail
      go_ret
      refine ⟨rfl, ?_⟩
      rw [HR.out, HHS.out]
      refine both_after hB0 (pair_calls k1 k2 HP0.out HA.out (fun (_ : Prop) _ _ _ => trivial) ⟨Foot b vL vR, ⟨vL, vR, HAT.out.poke ?_ (fun i hi => set_other _ hi) rfl rfl, fun _ => Iff.rfl⟩, (chg_set (b := b) (k := 4) (.int .i64 M)).mono (fun i hi => (HF.out i).2 (.inl hi)), fun g hg => .inl ((HF.out g).2 hg)⟩)
      rw [set_block HAT.out.blk _]
      simp only [if_neg (show ¬ M < 0 by omega)]
      rfl
  have e8 : ((K : Int) == 8) = false := beq_eq_false_iff_ne.2 h8

  by_cases h9 : K = 9
  · subst h9
    have hs : stepS s 9 P Q M = ((0, restartS s M)).2 := rfl
    have hd := hwk.restart M HP1.out.1 far hM
    clear ho
    go_enter Tryz.func8, Tryz.ntmps8
    go_wp2_with fail
    rw [← HO.out]
    refine Rg.wp_only ?_ (doesRestart _ (by kernel_rfl) _ w.heap.size _ M P Q ((0, restartS s M)).1 v (.pointer (some ⟨b, 0, none⟩)) _ (fun W => Left O (w.alloc o).drew F ((0, restartS s M)).2 W) (fun W => ∃ W0, Left O (w.alloc o).drew F ((0, restartS s M)).2 W0 ∧ Left (RefAt b) W0 G ((0, restartS s M)).2 W)
      HST.out hd (HSA.out _) (fun W hA => (hr.restart M (pair_other k2 HP1.out hA) far hM).mono fun e w' hh => ⟨hh.1, W, hA, hh.2⟩) (HSB.out _))
    rintro _ w9 ⟨rfl, hB9⟩
    go_wp2_with fail
    go_ret
    refine ⟨rfl, ?_⟩
    rw [HR.out, hs]
    exact HTWO.out ((0, restartS s M)) _ hB9
  have e9 : ((K : Int) == 9) = false := beq_eq_false_iff_ne.2 h9

  by_cases h10 : K = 10
  · subst h10
    have hs : stepS s 10 P Q M = (rotS s P M).2 := rfl
    have hd := hwk.rot P M HP1.out.1 far hP hM
    clear ho
    go_enter Tryz.func8, Tryz.ntmps8
    go_wp2_with fail
    rw [← HO.out]
    refine Rg.wp_only ?_ (doesRot _ (by kernel_rfl) _ w.heap.size _ M P Q (rotS s P M).1 v (.pointer (some ⟨b, 0, none⟩)) _ (fun W => Left O (w.alloc o).drew F (rotS s P M).2 W) (fun W => ∃ W0, Left O (w.alloc o).drew F (rotS s P M).2 W0 ∧ Left (RefAt b) W0 G (rotS s P M).2 W)
      HST.out hd (HSA.out _) (fun W hA => (hr.rot P M (pair_other k2 HP1.out hA) far hP hM).mono fun e w' hh => ⟨hh.1, W, hA, hh.2⟩) (HSB.out _))
    rintro _ w9 ⟨rfl, hB9⟩
    go_wp2_with fail
    go_ret
    refine ⟨rfl, ?_⟩
    rw [HR.out, hs]
    exact HTWO.out (rotS s P M) _ hB9
  have e10 : ((K : Int) == 10) = false := beq_eq_false_iff_ne.2 h10

  have hs : r = s := by rw [HR.out, stepS, if_neg h1, if_neg h2, if_neg h3, if_neg h4, if_neg h5, if_neg h6, if_neg h7, if_neg h8, if_neg h9, if_neg h10]
  have HS := Lib.hid hs
  clear hs ho
  go_enter Tryz.func8, Tryz.ntmps8
  go_wp2_with fail
  go_ret
  refine ⟨rfl, ?_⟩
  rw [HS.out]
  exact both_same k1 HPP.out ((Below.refl _ _).alloc (Nat.le_refl _) _)
end Go.Proofs.YtcbnpdognadilaaGreat.Dk

/- A step of a script keeps the bounds. -/
namespace Go.Proofs.YtcbnpdognadilaaGreat.Dk
open Go.RowKit Tx Pm
set_option linter.unusedVariables false

theorem tn_size (x : ByteArray) (bit : Int) : (Fr.tn x bit).size = x.size := by
  unfold Fr.tn
  split
  · rename_i h; rw [h]; rfl
  · rename_i h
    have hp : (0 : Int) < (8 * x.size : Nat) := by omega
    have h1 := Int.emod_lt_of_pos bit hp
    have h2 := Int.emod_nonneg bit (show ((8 * x.size : Nat) : Int) ≠ 0 by omega)
    have h3 : (bit % (8 * x.size : Nat)).toNat < 8 * x.size := by omega
    generalize (bit % (8 * x.size : Nat)).toNat = B at h3
    unfold Fr.trn
    have hb : ∀ c : UInt8, (Wr.b1 c).size = 1 := fun c => rfl
    rw [ByteArray.size_append, ByteArray.size_append, ByteArray.size_extract, ByteArray.size_extract, hb]
    omega
theorem inv_arm {s : St} {i T : Nat} {M : Int} (h : Inv s i T) (hM : -9223372036854775808 ≤ M ∧ M ≤ 9223372036854775807) : Inv { s with armed := if M < 0 then -1 else M } (i + 1) (T + 1048576) := by
  have h1 := h.more
  exact ⟨h1.rises, h1.len, h1.path, h1.size, h1.kept, h1.rooms, h1.steps, h1.stamps, by show -1 ≤ (if M < 0 then (-1 : Int) else M) ∧ (if M < 0 then (-1 : Int) else M) ≤ _; split <;> omega⟩
/-- Behind a step of a script. -/
theorem inv_step {s : St} {i T : Nat} {K M : Int} {P Q : ByteArray} (h : Inv s i T) (hi : i ≤ 1000) (hP : P.size ≤ 1048576) (hQ : Q.size ≤ 1048576) (hM : -9223372036854775808 ≤ M ∧ M ≤ 9223372036854775807) :
    Inv (stepS s K P Q M) (i + 1) (T + 1048576) := by
  unfold stepS
  split
  · exact inv_mkdir h hP
  split
  · exact inv_write h hP hQ
  split
  · exact inv_append h hP hQ
  split
  · exact inv_sync h hP
  split
  · exact inv_rename h hP hQ
  split
  · exact inv_remove h
  split
  · exact inv_limit h
  split
  · exact inv_arm h hM
  split
  · exact inv_restart h hi
  split
  · exact inv_rot h hP (fun x => tn_size x M)
  · exact h.more
theorem far_new : Far newS 0 0 := ⟨inv_new, by omega, by omega⟩
theorem Far.step {s : St} {i : Nat} {K M : Int} {P Q : ByteArray} (h : Far s i (i * 1048576)) (hi : i < 1000) (hP : P.size ≤ 1048576) (hQ : Q.size ≤ 1048576) (hM : -9223372036854775808 ≤ M ∧ M ≤ 9223372036854775807) :
    Far (stepS s K P Q M) (i + 1) ((i + 1) * 1048576) := by
  refine ⟨?_, by omega, by omega⟩
  rw [Nat.succ_mul]
  exact inv_step h.inv h.i hP hQ hM
end Go.Proofs.YtcbnpdognadilaaGreat.Dk

/- What every kind of disk answers when it is read, in the same words; the document's own answers so. -/
namespace Go.Proofs.YtcbnpdognadilaaGreat.Dk
open Go.RowKit Tx Pm
set_option linter.unusedVariables false

/-- The five calls that read a disk. -/
structure Reads (O : World → (Nat → Prop) → St → Prop) (v : Value) (f : Fin 5 → FuncId) : Prop where
  read : ∀ {w F s i T} (P : ByteArray), O w F s → Far s i T → P.size ≤ 1048576 → Calls Tryz.prog (f 0) #[v, .string P] w fun e w' => e = .returned (.tuple #[.string (readS s P).1, .int .i64 ((readS s P).2 : Nat)]) ∧ Below w.heap.size w w'
  kind : ∀ {w F s i T} (P : ByteArray), O w F s → Far s i T → P.size ≤ 1048576 → Calls Tryz.prog (f 1) #[v, .string P] w fun e w' => e = .returned (.int .i64 (kind s.L P : Nat)) ∧ Below w.heap.size w w'
  stamp : ∀ {w F s i T} (P : ByteArray), O w F s → Far s i T → P.size ≤ 1048576 → Calls Tryz.prog (f 2) #[v, .string P] w fun e w' => e = .returned (.int .i64 (stampS s P : Nat)) ∧ Below w.heap.size w w'
  used : ∀ {w F s i T} (P : ByteArray), O w F s → Far s i T → P.size ≤ 1048576 → Calls Tryz.prog (f 3) #[v, .string P] w fun e w' => e = .returned (.int .i64 (used s.L P : Nat)) ∧ Below w.heap.size w w'
  list : ∀ {w F s i T} (P : ByteArray), O w F s → Far s i T → P.size ≤ 1048576 → Calls Tryz.prog (f 4) #[v, .string P] w (ListTo (list s.L P) w)
def refR : Fin 5 → FuncId
  | 0 => 35
  | 1 => 37
  | 2 => 38
  | 3 => 39
  | 4 => 41
def impR : Fin 5 → FuncId
  | 0 => 11
  | 1 => 12
  | 2 => 13
  | 3 => 18
  | 4 => 36
theorem ref_reads (b : Nat) : Reads (RefAt b) (.pointer (some ⟨b, 0, none⟩)) refR where
  read := fun P h hf hP => by
    obtain ⟨vL, vR, hat, hF⟩ := h
    exact rRead_any b _ vL vR P _ hat (by have := hf.inv.len; have := hf.i; omega)
  kind := fun P h hf hP => by
    obtain ⟨vL, vR, hat, hF⟩ := h
    refine (rKind_any b _ vL vR P _ hat (by have := hf.inv.len; have := hf.i; omega)).mono ?_
    rintro e w' ⟨rfl, rfl⟩
    exact ⟨rfl, Below.refl _ _⟩
  stamp := fun P h hf hP => by
    obtain ⟨vL, vR, hat, hF⟩ := h
    exact rStamp_any b _ vL vR P _ hat (by have := hf.inv.len; have := hf.i; omega)
  used := fun P h hf hP => by
    obtain ⟨vL, vR, hat, hF⟩ := h
    exact rUsed_any b _ vL vR P _ hat (hf.inv.ok hf.i hf.T).fit
  list := fun P h hf hP => by
    obtain ⟨vL, vR, hat, hF⟩ := h
    exact rList_any b _ vL vR P _ hat (hf.inv.ok hf.i hf.T).fit
end Go.Proofs.YtcbnpdognadilaaGreat.Dk

/- Region 6 of looks, step by step. -/
namespace Go.Proofs.YtcbnpdognadilaaGreat.Dk
open Go.RowKit Tx Pm
set_option linter.unusedVariables false

/-- What a disk counts stands in its cells. -/
def CountAt (b X : Nat) (dn : Bool) (W : World) : Prop := W.cell? ⟨b, 2, none⟩ = some (.int .i64 (X : Int)) ∧ W.cell? ⟨b, 5, none⟩ = some (.bool dn)
set_option maxRecDepth 100000 in
set_option maxHeartbeats 4000000 in
theorem looksReg (ops : Array Oper) (hops : ops = (Rg.opsOf Tryz.f9 6)) (id : Nat) (b X : Nat) (dn : Bool) (P : ByteArray) (dv la lb : Value) {u3 u4 u5 u6 u7 u8 u9 u10 u13 u14 u15 u16 u17 u18 u19 u20 u21 u22 u23 u24 u25 u26 u27 u28 u29 u30 u31 u32 u33 u34 u35 u36 u37 u38 u39 u40 u41 u42 u43 u44 u45 u46 u47 u48 u49 u50 u51 u52 u53 u54 u55 u56 u57 u58 u59 u60 u61 u62 u63 u64 u65 u66 u67 u68 u69 u70 u71 u72 u73 u74 u75 u76 u77 u78 u79 u80 u81 u82 u83 u84 u85 u86 u87 u88 u89 u90 u91 u92 u93 u94 u95 u96 u97 u98 u99 u100 u101 u102 u103 u104 u105 u106 : Value} (w : World) (A B D E : World → Prop) (C : Value → World → Prop)
    (hS : CountAt b X dn w) (hA : Calls Tryz.prog 17 #[dv] w.drew fun e w' => e = .returned (.int .i64 (X : Int)) ∧ A w') (hAS : ∀ W, A W → CountAt b X dn W)
    (hB : ∀ W, A W → Calls Tryz.prog 10 #[dv] W fun e w' => e = .returned (.bool dn) ∧ B w') (hBS : ∀ W, B W → CountAt b X dn W)
    (hC : ∀ W, B W → Calls Tryz.prog 41 #[.pointer (some ⟨b, 0, none⟩), .string P] W fun e w' => ∃ v, e = .returned v ∧ C v w') (hCS : ∀ v W, C v W → CountAt b X dn W)
    (hD : ∀ v W, C v W → Calls Tryz.prog 40 #[la, v] W fun e w' => e = .returned (.bool true) ∧ D w') (hDS : ∀ W, D W → CountAt b X dn W)
    (hE : ∀ W, D W → Calls Tryz.prog 40 #[lb, la] W fun e w' => e = .returned (.bool true) ∧ E w') (hES : ∀ W, E W → CountAt b X dn W) :
    (Code.region id ops true).wp Tryz.prog (Rg.Only fun a' w' => ∃ lw : Value, a' = ⟨#[dv, (.pointer (some ⟨b, 0, none⟩)), (.string P), u3, u4, u5, u6, u7, u8, u9, u10, la, lb, u13, u14, u15, u16, u17, u18, u19, u20, u21, u22, u23, u24, u25, u26, u27, u28, u29, u30, u31, u32, u33, u34, u35, u36, u37, u38, u39, u40, u41, u42, u43, u44, u45, u46, u47, u48, u49, u50, u51, u52, u53, u54, u55, u56, u57, u58, u59, u60, u61, u62, u63, u64, u65, dv, (.int .i64 (X : Int)), (.pointer (some ⟨b, 0, none⟩)), (.pointer (some ⟨b, 0, none⟩)), (.pointer (some ⟨b, 2, none⟩)), (.int .i64 (X : Int)), (.bool false), (.bool false), dv, (.bool dn), (.pointer (some ⟨b, 0, none⟩)), (.pointer (some ⟨b, 0, none⟩)), (.pointer (some ⟨b, 5, none⟩)), (.bool dn), (.bool false), (.bool false), (.bool false), la, (.pointer (some ⟨b, 0, none⟩)), (.string P), lw, (.bool true), (.bool false), (.bool false), (.bool false), lb, la, (.bool true), (.bool false), (.bool false), u96, u97, u98, u99, u100, u101, u102, u103, u104, u105, u106], []⟩ ∧ E w') ⟨#[dv, (.pointer (some ⟨b, 0, none⟩)), (.string P), u3, u4, u5, u6, u7, u8, u9, u10, la, lb, u13, u14, u15, u16, u17, u18, u19, u20, u21, u22, u23, u24, u25, u26, u27, u28, u29, u30, u31, u32, u33, u34, u35, u36, u37, u38, u39, u40, u41, u42, u43, u44, u45, u46, u47, u48, u49, u50, u51, u52, u53, u54, u55, u56, u57, u58, u59, u60, u61, u62, u63, u64, u65, u66, u67, u68, u69, u70, u71, u72, u73, u74, u75, u76, u77, u78, u79, u80, u81, u82, u83, u84, u85, u86, u87, u88, u89, u90, u91, u92, u93, u94, u95, u96, u97, u98, u99, u100, u101, u102, u103, u104, u105, u106], []⟩ w := by
  subst hops
  have hNS : Region.noSelect (Rg.opsOf Tryz.f9 6) = true := by kernel_rfl
  refine wp_region_held_drew (S := CountAt b X dn) (by kernel_rfl) hS (fun hHeld => ?_)
  rw [show (Rg.opsOf Tryz.f9 6).size = 30 by kernel_rfl]
  refine Rg.take (ops := (Rg.opsOf Tryz.f9 6)) 0 (some 66) (dv) hNS (by kernel_rfl) (by kernel_rfl) (by kernel_rfl) (by kernel_rfl) (by kernel_rfl) hHeld (Rg.y_move (x := (Operand.tmp 0)) (Or.inl (by kernel_rfl)) (by kernel_rfl)) ?_
  refine Rg.take (ops := (Rg.opsOf Tryz.f9 6)) 2 (some 68) ((.pointer (some ⟨b, 0, none⟩))) hNS (by kernel_rfl) (by kernel_rfl) (by kernel_rfl) (by kernel_rfl) (by kernel_rfl) hHeld (Rg.y_move (x := (Operand.tmp 1)) (Or.inl (by kernel_rfl)) (by kernel_rfl)) ?_
  refine Rg.take (ops := (Rg.opsOf Tryz.f9 6)) 3 (some 69) ((.pointer (some ⟨b, 0, none⟩))) hNS (by kernel_rfl) (by kernel_rfl) (by kernel_rfl) (by kernel_rfl) (by kernel_rfl) hHeld (Rg.y_nil (x := (Operand.tmp 68)) (by kernel_rfl) (by kernel_rfl)) ?_
  refine Rg.take (ops := (Rg.opsOf Tryz.f9 6)) 4 (some 70) ((.pointer (some ⟨b, 2, none⟩))) hNS (by kernel_rfl) (by kernel_rfl) (by kernel_rfl) (by kernel_rfl) (by kernel_rfl) hHeld (Rg.y_field (T := 35) (k := 2) (x := (Operand.tmp 69)) (vx := (.pointer (some ⟨b, 0, none⟩))) (by kernel_rfl) (by kernel_rfl) ?_) ?_
  · (intro w hSw; clear hSw; go_simp)
  refine Rg.take (ops := (Rg.opsOf Tryz.f9 6)) 5 (some 71) ((.int .i64 (X : Int))) hNS (by kernel_rfl) (by kernel_rfl) (by kernel_rfl) (by kernel_rfl) (by kernel_rfl) hHeld (Rg.y_load (T := 3) (x := (Operand.tmp 70)) (vx := (.pointer (some ⟨b, 2, none⟩))) (by kernel_rfl) (by kernel_rfl) ?_) ?_
  · (intro w hSw; obtain ⟨hS0, hS1⟩ := hSw; go_simp)
  refine Rg.call (ops := (Rg.opsOf Tryz.f9 6)) (fn := Tryz.f17) (xs := #[Operand.tmp 66]) (ats := #[23]) 1 (some 67) 17 #[dv] (by kernel_rfl) (by kernel_rfl) (by kernel_rfl) (by kernel_rfl) (by kernel_rfl) Tryz.func17 (by kernel_rfl) (by kernel_rfl) (by kernel_rfl) ?_
  refine hA.mono ?_
  rintro e w5 ⟨rfl, h5⟩
  refine ⟨_, rfl, hAS _ h5, fun hHeld => ?_⟩
  refine Rg.take (ops := (Rg.opsOf Tryz.f9 6)) 6 (some 72) ((.bool false)) hNS (by kernel_rfl) (by kernel_rfl) (by kernel_rfl) (by kernel_rfl) (by kernel_rfl) hHeld (Rg.y_bin (b := BinOp.neq) (T := 3) (R' := 3) (x := (Operand.tmp 67)) (y := (Operand.tmp 71)) (vx := (.int .i64 (X : Int))) (vy := (.int .i64 (X : Int))) (by kernel_rfl) (by kernel_rfl) (by kernel_rfl) ?_) ?_
  · (intro w hSw; clear hSw; go_simp)
  refine Rg.take (ops := (Rg.opsOf Tryz.f9 6)) 7 (some 73) ((.bool false)) hNS (by kernel_rfl) (by kernel_rfl) (by kernel_rfl) (by kernel_rfl) (by kernel_rfl) hHeld (Rg.y_move (x := (Operand.tmp 72)) (Or.inl (by kernel_rfl)) (by kernel_rfl)) ?_
  refine Rg.take (ops := (Rg.opsOf Tryz.f9 6)) 8 (some 74) (dv) hNS (by kernel_rfl) (by kernel_rfl) (by kernel_rfl) (by kernel_rfl) (by kernel_rfl) hHeld (Rg.y_move (x := (Operand.tmp 0)) (Or.inl (by kernel_rfl)) (by kernel_rfl)) ?_
  refine Rg.take (ops := (Rg.opsOf Tryz.f9 6)) 10 (some 76) ((.pointer (some ⟨b, 0, none⟩))) hNS (by kernel_rfl) (by kernel_rfl) (by kernel_rfl) (by kernel_rfl) (by kernel_rfl) hHeld (Rg.y_move (x := (Operand.tmp 1)) (Or.inl (by kernel_rfl)) (by kernel_rfl)) ?_
  refine Rg.take (ops := (Rg.opsOf Tryz.f9 6)) 11 (some 77) ((.pointer (some ⟨b, 0, none⟩))) hNS (by kernel_rfl) (by kernel_rfl) (by kernel_rfl) (by kernel_rfl) (by kernel_rfl) hHeld (Rg.y_nil (x := (Operand.tmp 76)) (by kernel_rfl) (by kernel_rfl)) ?_
  refine Rg.take (ops := (Rg.opsOf Tryz.f9 6)) 12 (some 78) ((.pointer (some ⟨b, 5, none⟩))) hNS (by kernel_rfl) (by kernel_rfl) (by kernel_rfl) (by kernel_rfl) (by kernel_rfl) hHeld (Rg.y_field (T := 35) (k := 5) (x := (Operand.tmp 77)) (vx := (.pointer (some ⟨b, 0, none⟩))) (by kernel_rfl) (by kernel_rfl) ?_) ?_
  · (intro w hSw; clear hSw; go_simp)
  refine Rg.take (ops := (Rg.opsOf Tryz.f9 6)) 13 (some 79) ((.bool dn)) hNS (by kernel_rfl) (by kernel_rfl) (by kernel_rfl) (by kernel_rfl) (by kernel_rfl) hHeld (Rg.y_load (T := 4) (x := (Operand.tmp 78)) (vx := (.pointer (some ⟨b, 5, none⟩))) (by kernel_rfl) (by kernel_rfl) ?_) ?_
  · (intro w hSw; obtain ⟨hS0, hS1⟩ := hSw; go_simp)
  refine Rg.call (ops := (Rg.opsOf Tryz.f9 6)) (fn := Tryz.f10) (xs := #[Operand.tmp 74]) (ats := #[23]) 9 (some 75) 10 #[dv] (by kernel_rfl) (by kernel_rfl) (by kernel_rfl) (by kernel_rfl) (by kernel_rfl) Tryz.func10 (by kernel_rfl) (by kernel_rfl) (by kernel_rfl) ?_
  refine (hB _ h5).mono ?_
  rintro e w6 ⟨rfl, h6⟩
  refine ⟨_, rfl, hBS _ h6, fun hHeld => ?_⟩
  refine Rg.take (ops := (Rg.opsOf Tryz.f9 6)) 14 (some 80) ((.bool false)) hNS (by kernel_rfl) (by kernel_rfl) (by kernel_rfl) (by kernel_rfl) (by kernel_rfl) hHeld (Rg.y_bin (b := BinOp.neq) (T := 4) (R' := 4) (x := (Operand.tmp 75)) (y := (Operand.tmp 79)) (vx := (.bool dn)) (vy := (.bool dn)) (by kernel_rfl) (by kernel_rfl) (by kernel_rfl) ?_) ?_
  · (intro w hSw; clear hSw; cases dn <;> go_simp)
  refine Rg.take (ops := (Rg.opsOf Tryz.f9 6)) 15 (some 81) ((.bool false)) hNS (by kernel_rfl) (by kernel_rfl) (by kernel_rfl) (by kernel_rfl) (by kernel_rfl) hHeld (Rg.y_pick (c := (Operand.tmp 73)) (x := (Operand.const (Value.bool true))) (y := (Operand.tmp 80)) (b := false) (by kernel_rfl) (by kernel_rfl) (by kernel_rfl)) ?_
  refine Rg.take (ops := (Rg.opsOf Tryz.f9 6)) 16 (some 82) ((.bool false)) hNS (by kernel_rfl) (by kernel_rfl) (by kernel_rfl) (by kernel_rfl) (by kernel_rfl) hHeld (Rg.y_move (x := (Operand.tmp 81)) (Or.inl (by kernel_rfl)) (by kernel_rfl)) ?_
  refine Rg.take (ops := (Rg.opsOf Tryz.f9 6)) 17 (some 83) (la) hNS (by kernel_rfl) (by kernel_rfl) (by kernel_rfl) (by kernel_rfl) (by kernel_rfl) hHeld (Rg.y_move (x := (Operand.tmp 11)) (Or.inl (by kernel_rfl)) (by kernel_rfl)) ?_
  refine Rg.take (ops := (Rg.opsOf Tryz.f9 6)) 18 (some 84) ((.pointer (some ⟨b, 0, none⟩))) hNS (by kernel_rfl) (by kernel_rfl) (by kernel_rfl) (by kernel_rfl) (by kernel_rfl) hHeld (Rg.y_move (x := (Operand.tmp 1)) (Or.inl (by kernel_rfl)) (by kernel_rfl)) ?_
  refine Rg.take (ops := (Rg.opsOf Tryz.f9 6)) 19 (some 85) ((.string P)) hNS (by kernel_rfl) (by kernel_rfl) (by kernel_rfl) (by kernel_rfl) (by kernel_rfl) hHeld (Rg.y_move (x := (Operand.tmp 2)) (Or.inl (by kernel_rfl)) (by kernel_rfl)) ?_
  refine Rg.call (ops := (Rg.opsOf Tryz.f9 6)) (fn := Tryz.f41) (xs := #[Operand.tmp 84, Operand.tmp 85]) (ats := #[26, 9]) 20 (some 86) 41 #[(.pointer (some ⟨b, 0, none⟩)), (.string P)] (by kernel_rfl) (by kernel_rfl) (by kernel_rfl) (by kernel_rfl) (by kernel_rfl) Tryz.func41 (by kernel_rfl) (by kernel_rfl) (by kernel_rfl) ?_
  refine (hC _ h6).mono ?_
  rintro e w7 ⟨lw, rfl, h7⟩
  refine ⟨_, rfl, hCS _ _ h7, fun hHeld => ?_⟩
  refine Rg.call (ops := (Rg.opsOf Tryz.f9 6)) (fn := Tryz.f40) (xs := #[Operand.tmp 83, Operand.tmp 86]) (ats := #[59, 59]) 21 (some 87) 40 #[la, lw] (by kernel_rfl) (by kernel_rfl) (by kernel_rfl) (by kernel_rfl) (by kernel_rfl) Tryz.func40 (by kernel_rfl) (by kernel_rfl) (by kernel_rfl) ?_
  refine (hD _ _ h7).mono ?_
  rintro e w8 ⟨rfl, h8⟩
  refine ⟨_, rfl, hDS _ h8, fun hHeld => ?_⟩
  refine Rg.take (ops := (Rg.opsOf Tryz.f9 6)) 22 (some 88) ((.bool false)) hNS (by kernel_rfl) (by kernel_rfl) (by kernel_rfl) (by kernel_rfl) (by kernel_rfl) hHeld (Rg.y_un (b := UnOp.not) (T := 4) (x := (Operand.tmp 87)) (vx := (.bool true)) (by kernel_rfl) (by kernel_rfl) ?_) ?_
  · (intro w hSw; clear hSw; go_simp)
  refine Rg.take (ops := (Rg.opsOf Tryz.f9 6)) 23 (some 89) ((.bool false)) hNS (by kernel_rfl) (by kernel_rfl) (by kernel_rfl) (by kernel_rfl) (by kernel_rfl) hHeld (Rg.y_pick (c := (Operand.tmp 82)) (x := (Operand.const (Value.bool true))) (y := (Operand.tmp 88)) (b := false) (by kernel_rfl) (by kernel_rfl) (by kernel_rfl)) ?_
  refine Rg.take (ops := (Rg.opsOf Tryz.f9 6)) 24 (some 90) ((.bool false)) hNS (by kernel_rfl) (by kernel_rfl) (by kernel_rfl) (by kernel_rfl) (by kernel_rfl) hHeld (Rg.y_move (x := (Operand.tmp 89)) (Or.inl (by kernel_rfl)) (by kernel_rfl)) ?_
  refine Rg.take (ops := (Rg.opsOf Tryz.f9 6)) 25 (some 91) (lb) hNS (by kernel_rfl) (by kernel_rfl) (by kernel_rfl) (by kernel_rfl) (by kernel_rfl) hHeld (Rg.y_move (x := (Operand.tmp 12)) (Or.inl (by kernel_rfl)) (by kernel_rfl)) ?_
  refine Rg.take (ops := (Rg.opsOf Tryz.f9 6)) 26 (some 92) (la) hNS (by kernel_rfl) (by kernel_rfl) (by kernel_rfl) (by kernel_rfl) (by kernel_rfl) hHeld (Rg.y_move (x := (Operand.tmp 11)) (Or.inl (by kernel_rfl)) (by kernel_rfl)) ?_
  refine Rg.call (ops := (Rg.opsOf Tryz.f9 6)) (fn := Tryz.f40) (xs := #[Operand.tmp 91, Operand.tmp 92]) (ats := #[59, 59]) 27 (some 93) 40 #[lb, la] (by kernel_rfl) (by kernel_rfl) (by kernel_rfl) (by kernel_rfl) (by kernel_rfl) Tryz.func40 (by kernel_rfl) (by kernel_rfl) (by kernel_rfl) ?_
  refine (hE _ h8).mono ?_
  rintro e w9 ⟨rfl, h9⟩
  refine ⟨_, rfl, hES _ h9, fun hHeld => ?_⟩
  refine Rg.take (ops := (Rg.opsOf Tryz.f9 6)) 28 (some 94) ((.bool false)) hNS (by kernel_rfl) (by kernel_rfl) (by kernel_rfl) (by kernel_rfl) (by kernel_rfl) hHeld (Rg.y_un (b := UnOp.not) (T := 4) (x := (Operand.tmp 93)) (vx := (.bool true)) (by kernel_rfl) (by kernel_rfl) ?_) ?_
  · (intro w hSw; clear hSw; go_simp)
  refine Rg.take (ops := (Rg.opsOf Tryz.f9 6)) 29 (some 95) ((.bool false)) hNS (by kernel_rfl) (by kernel_rfl) (by kernel_rfl) (by kernel_rfl) (by kernel_rfl) hHeld (Rg.y_pick (c := (Operand.tmp 90)) (x := (Operand.const (Value.bool true))) (y := (Operand.tmp 94)) (b := false) (by kernel_rfl) (by kernel_rfl) (by kernel_rfl)) ?_
  refine Rg.done (ops := (Rg.opsOf Tryz.f9 6)) (by kernel_rfl) ?_
  exact ⟨lw, by kernel_rfl, h9⟩
end Go.Proofs.YtcbnpdognadilaaGreat.Dk

/- What the statements' own Same (of texts) answers of two lists that are alike: true. -/
namespace Go.Proofs.YtcbnpdognadilaaGreat.Tx
open Go.RowKit
set_option linter.unusedVariables false

theorem below_drewN {B : Nat} {a w : World} (h : Below B a w) (n : Nat) : Below B a (w.drewN n) := ⟨h.os, h.tape, h.output, h.size, h.block⟩

set_option maxRecDepth 100000 in
set_option maxHeartbeats 1000000 in
theorem same_true (a b : Option Addr) (n ca cb : Nat) (l : List ByteArray) (w : World) (hn : n ≤ 9223372036854775807) (ha : Strs w a n l) (hb : Strs w b n l) :
    Calls Tryz.prog 40 #[.slice a n ca, .slice b n cb] w fun e w' => e = .returned (.bool true) ∧ Below w.heap.size w w' := by
  by_cases h0 : n = 0
  · subst h0
    clear ha hb
    go_enter Tryz.func40, Tryz.ntmps40
    go_wp2_with fail
    go_loop [5] (fun i => i = .int .i64 0) (fun _ => 0)
    case atStart => exact rfl
    case round =>
      obtain rfl := hrel
      go_wp2_with fail
      go_ret
      exact ⟨rfl, Below.refl _ _⟩
  · obtain ⟨hl, ha⟩ := ha
    obtain ⟨ba, oa, rfl, hba, hca⟩ := ha.resolve_left h0
    obtain ⟨bb, ob, rfl, hbb, hcb⟩ := hb.2.resolve_left h0
    have HA := Lib.hid hca
    have HB := Lib.hid hcb
    clear hca hcb ha hb h0
    go_enter Tryz.func40, Tryz.ntmps40
    go_wp2_with fail
    go_loopw [5] (fun i wr => ∃ k : Nat, k ≤ n ∧ i = .int .i64 k ∧ Below w.heap.size w wr) (fun i _ => n - (intOf i).toNat)
    case atStart => exact ⟨0, Nat.zero_le _, rfl, Below.refl _ _⟩
    case round =>
      obtain ⟨k, hk, rfl, hB⟩ := hrel
      by_cases hlt : k < n
      · have c1 := (hB.cell (p := ⟨ba, oa + k, none⟩) hba).trans (HA.out k l[k] (List.getElem?_eq_getElem (by omega)))
        have c2 := (hB.cell (p := ⟨bb, ob + k, none⟩) hbb).trans (HB.out k l[k] (List.getElem?_eq_getElem (by omega)))
        obtain ⟨S, hS⟩ : ∃ S, S = l[k] := ⟨_, rfl⟩
        rw [← hS] at c1 c2
        clear hS hl
        have hlt1 : (k : Int) < (n : Int) := by omega
        go_wp2_with fail
        go_quiet (fail)
        go_wp2_with fail
        go_roundw
        case rel => exact ⟨k + 1, by omega, by go_num, below_drewN hB _⟩
        case measure => simp [intOf]; omega
      · go_wp2_with fail
        go_ret
        exact ⟨rfl, hB⟩

end Go.Proofs.YtcbnpdognadilaaGreat.Tx

/- Rows of one's own: an append that tells where it lies and what it leaves, a store, a row of another type. -/
namespace Go.Proofs.YtcbnpdognadilaaGreat.Aq
open Go.RowKit Tx
set_option linter.unusedVariables false

section
variable {P : Program}
/-- Behind an append to one's own row: it lies where it lay, and no other block has turned; or it lies in a new block, and no old block has turned. -/
theorem append_two (w : World) (base : Nat) (t ty e : TypeId) (i : TypeInfo) (z : Value) (bytes : Nat) (ht : P.underlying t = some (.slice e)) (hi : P.info? e = some i) (hz : i.zero = some z)
    (hsize : i.size = 1) (hby : i.bytes = bytes) (hzs : z.cells.size = 1)
    (v : Value) (n : Nat) (xs : List Value) (hown : w.ownsRow base e 1 v n xs)
    (a : Addr) (c : Nat) (u : Value) (hu : w.cell? a = some u) (h1 : u.oneCell' = true)
    (hn : n + 1 ≤ 1152921504606846976) (hbytes : (n + 1) * bytes ≤ 140737488355328) (hbase : base ≤ w.heap.size) :
    ∃ v' w', (Builtin.append_ #[t, t] ty #[v, .slice (some a) 1 c]).run P w = .ok v' w' ∧ w'.ownsRow base e 1 v' (n + 1) (xs ++ [u]) ∧
      ((v'.ownBlock = v.ownBlock ∧ w.grownBy w' v.ownBlock) ∨ (v'.ownBlock = some w.heap.size ∧ w.grownBy w' none)) := by
  have hnews : ∀ j x, [u][j]? = some x → w.cell? (a.add j) = some x := by
    intro j x hj
    match j, hj with
    | 0, hj =>
      simp at hj
      subst hj
      simpa [Addr.add] using hu
  have hone : ∀ x ∈ [u], x.oneCell' = true := by intro x hx; simp at hx; subst hx; exact h1
  have hlen : (xs ++ [u]).length = (n + 1) * 1 := by rw [List.length_append, hown.1]; simp
  have made : ∀ old, old < n + 1 → (w.drew.alloc (.cells (xs.toArray ++ [u].toArray ++ Builtin.zeroCells z.cells (grownCap w (n + 1) old e - (n + 1))) e)).ownsRow base e 1 (.slice (some ⟨w.heap.size, 0, none⟩) (n + 1) (grownCap w (n + 1) old e)) (n + 1) (xs ++ [u]) ∧
      w.grownBy (w.drew.alloc (.cells (xs.toArray ++ [u].toArray ++ Builtin.zeroCells z.cells (grownCap w (n + 1) old e - (n + 1))) e)) none := by
    intro old _
    have hge := grownCap_ge w (n + 1) old e
    have hcm := grownCap_le_maxLen w (n + 1) old e (by unfold maxLen; omega)
    refine ⟨⟨hlen, .inr ⟨w.heap.size, _, _, rfl, hbase, heap_alloc_new w.drew _, hge, hcm, ?_, ?_⟩⟩, ⟨rfl, rfl, rfl, by simp, fun k hk _ => Below.heap_alloc w.drew _ k hk⟩⟩
    · have h0 := hown.1
      simp only [Array.size_append, List.size_toArray, size_zeroCells, hzs, List.length_singleton]
      omega
    · simp only [Array.toList_append, List.append_assoc]
      rw [← List.append_assoc]
      exact List.take_left' hlen
  rcases hown.2 with ⟨rfl, rfl⟩ | ⟨g, cap, cur, rfl, hbg, hg, hnc, hcm, hcs, htake⟩
  · have hx : xs = [] := List.eq_nil_of_length_eq_zero (by simpa using hown.1)
    subst hx
    have hr := run_append_nil (P := P) w t ty e i z ht hi hz a 1 c [u] (by rw [hsize]; rfl) hnews (by omega) (by omega) (by rw [hby]; have h2 := hbytes; simp only [Nat.zero_add] at h2; omega)
    have hm := made 0 (by omega)
    simp only [Nat.zero_add, List.nil_append, Array.empty_append] at hm ⊢
    exact ⟨_, _, hr, hm.1, .inr ⟨rfl, hm.2⟩⟩
  · by_cases hroom : n + 1 ≤ cap
    · have hfit : n * i.size + [u].length ≤ cur.size := by rw [hsize, hcs]; simp; omega
      have hr := run_append_room (P := P) w t ty e i ht hi g n cap cur hg a 1 c [u] (by rw [hsize]; rfl) hnews hone hroom hfit
      refine ⟨_, _, hr, ⟨hlen, .inr ⟨g, cap, _, rfl, hbg, setRow_heap w g cur _ e _ hg, hroom, hcm, ?_, ?_⟩⟩, .inl ⟨rfl, ⟨rfl, rfl, rfl, by simp, fun k _ hk => setRow_other w g k _ (fun e => hk (by simp [Value.ownBlock, e]))⟩⟩⟩
      · simp only [List.size_toArray, List.length_append, List.length_take, List.length_drop, Array.length_toList, hsize, List.length_singleton]
        simp only [hsize, List.length_singleton] at hfit
        omega
      · rw [hsize, htake]
        exact List.take_left' hlen
    · have hr := run_append_grow (P := P) w t ty e i z ht hi hz ⟨g, 0, none⟩ n cap xs (by rw [hsize]; exact hown.1) (hown.cells (g := g) rfl) a 1 c [u] (by rw [hsize]; rfl) hnews (by omega) (by omega) (growslice_fits (by omega) (by rw [hby]; exact hbytes))
      have hm := made cap (by omega)
      exact ⟨_, _, hr, hm.1, .inr ⟨rfl, hm.2⟩⟩
end

/-- At the operation, for the walk. -/
theorem wpList_append_two {P : Program} (w : World) {ops : Array Oper} {rest : List Oper} {o : Oper} {a : Act} {Q : Exit → Act → World → Prop} (hgd : o.guard = none) (s x : Operand) (t : TypeId)
    (ho : o.op = .call { callee := .builtin .append, args := #[s, x], argTypes := #[t, t] })
    (base : Nat) (e : TypeId) (i : TypeInfo) (z : Value) (bytes : Nat) (ht : P.underlying t = some (.slice e)) (hi : P.info? e = some i) (hz : i.zero = some z)
    (hsize : i.size = 1) (hby : i.bytes = bytes) (hzs : z.cells.size = 1)
    (v : Value) (n : Nat) (xs : List Value) (hs : a.eval s = v) (hown : w.ownsRow base e 1 v n xs)
    (ad : Addr) (c : Nat) (u : Value) (hx : a.eval x = .slice (some ad) 1 c) (hu : w.cell? ad = some u) (h1 : u.oneCell' = true)
    (hn : n + 1 ≤ 1152921504606846976) (hbytes : (n + 1) * bytes ≤ 140737488355328) (hbase : base ≤ w.heap.size)
    (h : ∀ v' w', w'.ownsRow base e 1 v' (n + 1) (xs ++ [u]) → ((v'.ownBlock = v.ownBlock ∧ w.grownBy w' v.ownBlock) ∨ (v'.ownBlock = some w.heap.size ∧ w.grownBy w' none)) → wpList P ops Q rest (a.put o.dst v') w') :
    wpList P ops Q (o :: rest) a w := by
  refine wpList_plain hgd fun K hK => ?_
  obtain ⟨v', w', hr, h2, h3⟩ := append_two (P := P) w base t o.type e i z bytes ht hi hz hsize hby hzs v n xs hown ad c u hu h1 hn hbytes hbase
  unfold Oper.wp execOp
  simp only [ho, resolve, invoke, builtin, Sem.run_bind, Sem.run_pure, Result.andThen_ok, List.map_toArray, List.map_cons, List.map_nil, hs, hx, hr]
  exact hK _ _ (h v' w' h2 h3)

/-! ### a store into one's own row -/
theorem own_frozen {w : World} {base g n cap : Nat} {e : TypeId} {xs : List Value} (h : w.ownsRow base e 1 (.slice (some ⟨g, 0, none⟩) n cap) n xs) (k : Nat) : w.frozen? ⟨g, k, none⟩ = false := by
  rcases h.2 with ⟨h0, _⟩ | ⟨g', cap', cur, hv, _, hh, _⟩
  · cases h0
  · injection hv with hg
    injection hg with hg
    injection hg with hg
    subst hg
    simp [World.frozen?, hh]
theorem own_cell {w : World} {base g n cap : Nat} {e : TypeId} {xs : List Value} (h : w.ownsRow base e 1 (.slice (some ⟨g, 0, none⟩) n cap) n xs) {k : Nat} {u : Value} (hk : xs[k]? = some u) : w.cell? ⟨g, k, none⟩ = some u := by
  have := h.cells (g := g) rfl k u hk
  rwa [WideShapes.add_plain, Nat.zero_add] at this
theorem own_store {w : World} {base g n cap : Nat} {e : TypeId} {xs : List Value} (h : w.ownsRow base e 1 (.slice (some ⟨g, 0, none⟩) n cap) n xs) {k : Nat} (hk : k < n) (u : Value) :
    (w.setCell ⟨g, k, none⟩ u).ownsRow base e 1 (.slice (some ⟨g, 0, none⟩) n cap) n (xs.set k u) := by
  refine ⟨by rw [List.length_set]; exact h.1, ?_⟩
  rcases h.2 with ⟨h0, _⟩ | ⟨g', cap', cur, hv, hb, hh, hn, hc, hs, ht⟩
  · cases h0
  · injection hv with hg _ hcap
    injection hg with hg
    injection hg with hg
    subst hg
    subst hcap
    refine .inr ⟨g, cap, cur.setIfInBounds k u, rfl, hb, ?_, hn, hc, by simpa using hs, ?_⟩
    · simp [World.setCell, Array.getElem?_modify, hh]
    · rw [Array.toList_setIfInBounds, List.take_set, ht]
theorem own_far {w : World} {base n : Nat} {e : TypeId} {v : Value} {xs : List Value} (h : w.ownsRow base e 1 v n xs) {g k : Nat} (hne : v.ownBlock ≠ some g) (u : Value) : (w.setCell ⟨g, k, none⟩ u).ownsRow base e 1 v n xs := by
  have hg : w.grownBy (w.setCell ⟨g, k, none⟩ u) (some g) := ⟨rfl, rfl, rfl, by simp [World.setCell], fun j _ hj => Below.heap_setCell w ⟨g, k, none⟩ u j (fun e => hj (by rw [e]))⟩
  exact h.kept hg (.inr hne)
theorem own_kept {w w1 : World} {base n : Nat} {e : TypeId} {v : Value} {xs : List Value} {row : Option Nat} (h : w.ownsRow base e 1 v n xs) (hg : w.grownBy w1 row) (hne : v.ownBlock ≠ row ∨ row = none) : w1.ownsRow base e 1 v n xs := by
  rcases hne with hne | rfl
  · exact h.kept hg (.inr hne)
  · refine h.kept hg ?_
    cases hv : v.ownBlock
    · exact .inl rfl
    · exact .inr (by simp)
/-- Rows of two types don't share a block. -/
theorem types_ne {w : World} {base b2 n n2 : Nat} {e e2 : TypeId} {v v2 : Value} {xs ys : List Value} (h : w.ownsRow base e 1 v n xs) (h2 : w.ownsRow b2 e2 1 v2 n2 ys) (hne : e ≠ e2) {g : Nat} (hg : v.ownBlock = some g) : v2.ownBlock ≠ some g := by
  rcases h.2 with ⟨rfl, _⟩ | ⟨a, cap, cur, rfl, _, hh, _⟩
  · simp [Value.ownBlock] at hg
  · rcases h2.2 with ⟨rfl, _⟩ | ⟨a2, cap2, cur2, rfl, _, hh2, _⟩
    · simp [Value.ownBlock]
    · simp only [Value.ownBlock, Option.some.injEq] at hg ⊢
      subst hg
      intro he
      injection he with he
      subst he
      rw [hh] at hh2
      injection hh2 with hh2
      injection hh2 with _ ht
      exact hne ht

end Go.Proofs.YtcbnpdognadilaaGreat.Aq

/- The statements' own Apart: what its loops keep. -/
namespace Go.Proofs.YtcbnpdognadilaaGreat.Aq
open Go.RowKit Tx
set_option linter.unusedVariables false

def MK : ByteArray := ⟨#[97, 98, 99, 100, 101, 102, 103, 104, 105, 106, 107, 108, 109, 110, 111, 112, 113, 114, 115, 116, 117, 118, 119, 120, 121, 122]⟩
/-- The marks of list j. -/
def was (j : Nat) : ByteArray := ⟨#[119, 97, 115]⟩ ++ MK.extract (j % 26) (j % 26 + 1)
def new (j : Nat) : ByteArray := ⟨#[110, 101, 119]⟩ ++ MK.extract (j % 26) (j % 26 + 1)

/-- m lists: where each lies, how long it is. -/
structure Ls where
  m : Nat
  A : Nat → Option Addr
  N : Nat → Nat
  C : Nat → Nat
  bo : Nat
  B : Nat
namespace Ls
variable (L : Ls)
def val (j : Nat) : Value := .slice (L.A j) (L.N j) (L.C j)
def cells (w : World) : Prop := ∀ j, j < L.m → w.cell? ⟨L.bo, j, none⟩ = some (.slice (L.A j) (L.N j) (L.C j))
/-- All lists lie apart, and none in the block of the list of lists. -/
def far : Prop := (∀ i j, i < L.m → j < L.m → i ≠ j → ∀ x, L.A i = some x → L.A j ≠ some x) ∧ ∀ j, j < L.m → ∀ g, L.A j = some ⟨g, 0, none⟩ → g ≠ L.bo
/-- The lists before i are marked, and of list i the first k places. -/
def marked (w : World) (i k : Nat) : Prop := ∀ j, j < L.m → ∃ xs, w.ownsRow L.B 9 1 (.slice (L.A j) (L.N j) (L.C j)) (L.N j) xs ∧ ∀ l, l < L.N j → (j < i ∨ j = i ∧ l < k) → xs[l]? = some (.string (was j))
end Ls

theorem marked_next {L : Ls} {w : World} {i : Nat} (h : L.marked w i (L.N i)) : L.marked w (i + 1) 0 := by
  intro j hj
  obtain ⟨xs, h1, h2⟩ := h j hj
  refine ⟨xs, h1, fun l hl hh => h2 l hl ?_⟩
  rcases hh with hh | ⟨_, hh⟩
  · by_cases e : j = i
    · subst e; exact .inr ⟨rfl, hl⟩
    · exact .inl (by omega)
  · omega
theorem marked_drew {L : Ls} {w : World} {i k : Nat} (h : L.marked w i k) (n : Nat) : L.marked (w.drewN n) i k := h
theorem addr_eq {A : Option Addr} {n c : Nat} {w : World} {B : Nat} {e : TypeId} {xs : List Value} (h : w.ownsRow B e 1 (.slice A n c) n xs) (hn : 0 < n) : ∃ g, A = some ⟨g, 0, none⟩ ∧ B ≤ g := by
  obtain ⟨g, cap, hv, hg, _⟩ := h.form hn
  injection hv with ha
  exact ⟨g, ha, hg⟩
/-- The mark of a place. -/
theorem marked_store {L : Ls} {w : World} {i k g : Nat} (hf : L.far) (h : L.marked w i k) (hi : i < L.m) (hk : k < L.N i) (ha : L.A i = some ⟨g, 0, none⟩) : L.marked (w.setCell ⟨g, k, none⟩ (.string (was i))) i (k + 1) := by
  intro j hj
  obtain ⟨xs, h1, h2⟩ := h j hj
  by_cases e : j = i
  · subst e
    rw [ha] at h1 ⊢
    refine ⟨xs.set k (.string (was j)), own_store h1 hk _, fun l hl hh => ?_⟩
    have hl2 : k < xs.length := by rw [h1.1]; omega
    by_cases e2 : l = k
    · subst e2
      exact List.getElem?_set_self hl2
    · rw [List.getElem?_set_ne (fun e => e2 e.symm)]
      exact h2 l hl (.inr ⟨rfl, by rcases hh with hh | ⟨_, hh⟩ <;> omega⟩)
  · refine ⟨xs, own_far h1 ?_ _, fun l hl hh => h2 l hl ?_⟩
    · intro hb
      cases hA : L.A j with
      | none => rw [hA] at hb; simp [Value.ownBlock] at hb
      | some x =>
        by_cases h0 : L.N j = 0
        · rcases h1.2 with ⟨hv, _⟩ | ⟨g', cap', cur, hv, _⟩
          · rw [hA] at hv; cases hv
          · rw [hA] at hv hb
            injection hv with hx
            injection hx with hx
            subst hx
            simp only [Value.ownBlock, Option.some.injEq] at hb
            subst hb
            exact hf.1 j i hj hi e _ hA ha
        · obtain ⟨g', ha', _⟩ := addr_eq h1 (by omega)
          rw [hA] at ha' hb
          injection ha' with hx
          subst hx
          simp only [Value.ownBlock, Option.some.injEq] at hb
          subst hb
          exact hf.1 j i hj hi e _ hA ha
    · rcases hh with hh | ⟨hh, _⟩
      · exact .inl hh
      · exact absurd hh e

theorem cells_store {L : Ls} {w : World} {i k g : Nat} (hf : L.far) (h : L.cells w) (hi : i < L.m) (ha : L.A i = some ⟨g, 0, none⟩) (u : Value) : L.cells (w.setCell ⟨g, k, none⟩ u) := by
  intro j hj
  have hne := hf.2 i hi g ha
  rw [World.cell?_setCell_other _ _ _ _ (fun e => hne (by injection e))]
  exact h j hj

/-! ### the second loop -/
def sw (j : Nat) : Value := .string (was j)
def sn (j : Nat) : Value := .string (new j)
/-- What a list, made longer, holds. -/
def row (L : Ls) (j k : Nat) : List Value := List.replicate (L.N j) (sw j) ++ List.replicate k (sn j)
theorem row_len (L : Ls) (j k : Nat) : (row L j k).length = L.N j + k := by simp [row]
theorem row_was {L : Ls} {j k l : Nat} (h : l < L.N j) : (row L j k)[l]? = some (sw j) := by
  rw [row, List.getElem?_append_left (by simpa using h), List.getElem?_replicate, if_pos h]
theorem row_new {L : Ls} {j k l : Nat} (h : ¬ l < L.N j) (h2 : l < L.N j + k) : (row L j k)[l]? = some (sn j) := by
  rw [row, List.getElem?_append_right (by simp; omega), List.length_replicate, List.getElem?_replicate, if_pos (by omega)]
theorem row_zero (L : Ls) (j : Nat) : row L j 0 = List.replicate (L.N j) (sw j) := by simp [row]
theorem row_step (L : Ls) (j k : Nat) : row L j k ++ [sn j] = row L j (k + 1) := by
  rw [row, row, List.append_assoc, List.replicate_succ']

/-- A row in a block that has not turned. -/
theorem own_same {w w1 : World} {base n : Nat} {e : TypeId} {v : Value} {xs : List Value} (h : w.ownsRow base e 1 v n xs) (hk : ∀ q, q < w.heap.size → v.ownBlock = some q → w1.heap[q]? = w.heap[q]?) : w1.ownsRow base e 1 v n xs := by
  refine ⟨h.1, ?_⟩
  rcases h.2 with h0 | ⟨g, cap, cur, rfl, hb, hh, r⟩
  · exact .inl h0
  · exact .inr ⟨g, cap, cur, rfl, hb, (hk g (Array.getElem?_eq_some_iff.1 hh).1 rfl).trans hh, r⟩
theorem own_lt {w : World} {base n : Nat} {e : TypeId} {v : Value} {xs : List Value} (h : w.ownsRow base e 1 v n xs) {g : Nat} (hg : v.ownBlock = some g) : base ≤ g ∧ g < w.heap.size := h.lt g hg
theorem cell_same {w w1 : World} {g k : Nat} {u : Value} (h : w.cell? ⟨g, k, none⟩ = some u) (hk : w1.heap[g]? = w.heap[g]?) : w1.cell? ⟨g, k, none⟩ = some u := (World.cell?_of_block (a := ⟨g, k, none⟩) hk).trans h

/-- What the second loop keeps: H: the heap's size at its beginning. -/
structure Inv (L : Ls) (w0 : World) (H i r : Nat) (w : World) (v6 : Value) (vs : List Value) (b c : Nat → Nat) : Prop where
  cells : L.cells w
  held : ∀ j, j < L.m → ∀ l, l < L.N j → ∃ g, L.A j = some ⟨g, 0, none⟩ ∧ w.cell? ⟨g, l, none⟩ = some (sw j)
  rows : ∀ j, r ≤ j → j < L.m → w.ownsRow L.B 9 1 (.slice (L.A j) (L.N j) (L.C j)) (L.N j) (row L j 0)
  outer : w.ownsRow L.B 59 1 v6 i vs
  high : ∀ g, v6.ownBlock = some g → H ≤ g
  long : ∀ j, j < i → vs[j]? = some (.slice (some ⟨b j, 0, none⟩) (L.N j + 20) (c j)) ∧ w.ownsRow L.B 9 1 (.slice (some ⟨b j, 0, none⟩) (L.N j + 20) (c j)) (L.N j + 20) (row L j 20) ∧ (L.A j = some ⟨b j, 0, none⟩ ∨ H ≤ b j)
  apart : ∀ j k, j < i → k < i → j ≠ k → b j ≠ b k
  low : ∀ j, j < L.m → ∀ g, L.A j = some ⟨g, 0, none⟩ → g < H
  bo : L.bo < H
  size : H ≤ w.heap.size
  below : Below L.B w0 w
  base : L.B ≤ H
/-- The list that is made longer. -/
structure Cur (L : Ls) (H i k : Nat) (w : World) (v : Value) (b : Nat → Nat) : Prop where
  own : w.ownsRow L.B 9 1 v (L.N i + k) (row L i k)
  at_ : ∀ g, v.ownBlock = some g → (L.A i = some ⟨g, 0, none⟩ ∨ H ≤ g) ∧ ∀ j, j < i → b j ≠ g

theorem inv_start {L : Ls} {w0 w : World} (hf : L.far) (hc : L.cells w) (hm : L.marked w L.m 0) (hbo : L.bo < w.heap.size) (hB : L.B ≤ w.heap.size) (hb : Below L.B w0 w) : Inv L w0 w.heap.size 0 0 w (.slice none 0 0) [] (fun _ => 0) (fun _ => 0) := by
  have hrow : ∀ j, j < L.m → w.ownsRow L.B 9 1 (.slice (L.A j) (L.N j) (L.C j)) (L.N j) (row L j 0) := by
    intro j hj
    obtain ⟨xs, h1, h2⟩ := hm j hj
    have e : xs = row L j 0 := by
      rw [row_zero]
      apply List.ext_getElem?
      intro l
      rw [List.getElem?_replicate]
      by_cases hl : l < L.N j
      · rw [if_pos hl]; exact h2 l hl (.inl hj)
      · rw [if_neg hl, List.getElem?_eq_none (by rw [h1.1]; omega)]
    rw [← e]
    exact h1
  refine ⟨hc, ?_, fun j _ hj => hrow j hj, World.ownsRow_nil _ _ _ _, fun g hg => by simp [Value.ownBlock] at hg, fun j hj => absurd hj (by omega), fun j k hj => absurd hj (by omega), ?_, hbo, Nat.le_refl _, hb, hB⟩
  · intro j hj l hl
    have h1 := hrow j hj
    obtain ⟨g, ha, _⟩ := addr_eq h1 (by omega)
    rw [ha] at h1
    exact ⟨g, ha, own_cell h1 (row_was hl)⟩
  · intro j hj g ha
    have h1 := hrow j hj
    rw [ha] at h1
    exact (own_lt h1 rfl).2

theorem cur_start {L : Ls} {w0 w : World} {H i r : Nat} {v6 : Value} {vs : List Value} {b c : Nat → Nat} (hf : L.far) (h : Inv L w0 H i r w v6 vs b c) (hr : r ≤ i) (hi : i < L.m) : Cur L H i 0 w (.slice (L.A i) (L.N i) (L.C i)) b := by
  have h1 := h.rows i hr hi
  refine ⟨h1, fun g hg => ?_⟩
  have ha : L.A i = some ⟨g, 0, none⟩ := by
    rcases h1.2 with ⟨hv, _⟩ | ⟨g', cap', cur, hv, _⟩
    · rw [hv] at hg; simp [Value.ownBlock] at hg
    · rw [hv] at hg
      simp only [Value.ownBlock, Option.some.injEq] at hg
      subst hg
      injection hv
  refine ⟨.inl ha, fun j hj e => ?_⟩
  rcases (h.long j hj).2.2 with h2 | h2
  · rw [e] at h2
    exact hf.1 j i (by omega) hi (by omega) _ h2 ha
  · have := h.low i hi g ha
    omega

/-- An append to the list that is made longer. -/
theorem cur_step {L : Ls} {w0 w w1 : World} {H i k r : Nat} {v v1 v6 : Value} {vs : List Value} {b c : Nat → Nat} {o : Obj} (hf : L.far) (h : Inv L w0 H i r w v6 vs b c) (hi : i < L.m) (hc : Cur L H i k w v b)
    (hown : w1.ownsRow L.B 9 1 v1 (L.N i + k + 1) (row L i k ++ [sn i]))
    (hg : (v1.ownBlock = v.ownBlock ∧ (w.alloc o).grownBy w1 v.ownBlock) ∨ (v1.ownBlock = some (w.heap.size + 1) ∧ (w.alloc o).grownBy w1 none)) :
    (∀ q, q < w.heap.size → (∀ g, v.ownBlock = some g → q ≠ g) → w1.heap[q]? = w.heap[q]?) ∧ Cur L H i (k + 1) w1 v1 b ∧ w.heap.size ≤ w1.heap.size ∧ Below L.B w0 w1 ∧
      (∀ q, L.A i = some ⟨q, 0, none⟩ → ∀ l, l < L.N i → w1.cell? ⟨q, l, none⟩ = some (sw i)) := by
  have hB : L.B ≤ w.heap.size := Nat.le_trans h.base h.size
  have hal : w.heap.size + 1 = (w.alloc o).heap.size := (World.size_alloc _ _).symm
  have hk : ∀ q, q < w.heap.size → (∀ g, v.ownBlock = some g → q ≠ g) → w1.heap[q]? = w.heap[q]? := by
    intro q hq hne
    rcases hg with ⟨_, hg⟩ | ⟨_, hg⟩
    · exact (hg.block q (by omega) (fun e => hne q e.symm rfl)).trans (Below.heap_alloc w o q hq)
    · exact (hg.block q (by omega) (by simp)).trans (Below.heap_alloc w o q hq)
  have hown2 : w1.ownsRow L.B 9 1 v1 (L.N i + (k + 1)) (row L i (k + 1)) := by
    rw [← row_step]
    exact hown
  have hsz : w.heap.size ≤ w1.heap.size := by
    rcases hg with ⟨_, hg⟩ | ⟨_, hg⟩
    · have := hg.size; omega
    · have := hg.size; omega
  have hbel : Below L.B w0 w1 := by
    have h2 := h.below.alloc hB o
    rcases hg with ⟨_, hg⟩ | ⟨_, hg⟩
    · exact h2.grown hg (by omega) (fun q hq => (own_lt hc.own hq).1)
    · exact h2.grown hg (by omega) (fun q hq => by cases hq)
  refine ⟨hk, ⟨hown2, fun g hg1 => ?_⟩, hsz, hbel, fun q hq l hl => ?_⟩
  · rcases hg with ⟨he, _⟩ | ⟨he, _⟩
    · exact hc.at_ g (by rw [← he]; exact hg1)
    · rw [he] at hg1
      injection hg1 with hg1
      have hs := h.size
      refine ⟨.inr (by omega), fun j hj e => ?_⟩
      have h9 : b j < w.heap.size := (own_lt (h.long j hj).2.1 rfl).2
      omega
  · by_cases hv : v.ownBlock = some q
    · rcases hg with ⟨he, _⟩ | ⟨_, hg⟩
      · obtain ⟨g', cap', hv', _, _⟩ := hown2.form (by omega)
        rw [hv'] at he hown2
        rw [hv] at he
        simp only [Value.ownBlock, Option.some.injEq] at he
        subst he
        exact own_cell hown2 (row_was hl)
      · obtain ⟨g', hA, hcell⟩ := h.held i hi l hl
        rw [hq] at hA
        injection hA with hA
        injection hA with hA
        subst hA
        have hq' := World.block_lt_of_cell? w _ hcell
        exact cell_same hcell ((hg.block q (by have : q < w.heap.size := hq'; omega) (by simp)).trans (Below.heap_alloc w o q hq'))
    · obtain ⟨g', hA, hcell⟩ := h.held i hi l hl
      rw [hq] at hA
      injection hA with hA
      injection hA with hA
      subst hA
      exact cell_same hcell (hk q (World.block_lt_of_cell? w _ hcell) (fun g hg e => hv (by rw [hg, e])))

theorem inv_step {L : Ls} {w0 w w1 : World} {H i k r : Nat} {v v6 : Value} {vs : List Value} {b c : Nat → Nat} (hf : L.far) (h : Inv L w0 H i r w v6 vs b c) (hi : i < L.m) (hc : Cur L H i k w v b) (rowsi : ∀ j, i < j → j < L.m → w.ownsRow L.B 9 1 (.slice (L.A j) (L.N j) (L.C j)) (L.N j) (row L j 0))
    (hk : ∀ q, q < w.heap.size → (∀ g, v.ownBlock = some g → q ≠ g) → w1.heap[q]? = w.heap[q]?) (hsz : w.heap.size ≤ w1.heap.size) (hbel : Below L.B w0 w1)
    (hi1 : ∀ q, L.A i = some ⟨q, 0, none⟩ → ∀ l, l < L.N i → w1.cell? ⟨q, l, none⟩ = some (sw i)) :
    L.cells w1 ∧ (∀ j, j < L.m → ∀ l, l < L.N j → ∃ g, L.A j = some ⟨g, 0, none⟩ ∧ w1.cell? ⟨g, l, none⟩ = some (sw j)) ∧
      (∀ j, i < j → j < L.m → w1.ownsRow L.B 9 1 (.slice (L.A j) (L.N j) (L.C j)) (L.N j) (row L j 0)) ∧ w1.ownsRow L.B 59 1 v6 i vs ∧
      (∀ j, j < i → vs[j]? = some (.slice (some ⟨b j, 0, none⟩) (L.N j + 20) (c j)) ∧ w1.ownsRow L.B 9 1 (.slice (some ⟨b j, 0, none⟩) (L.N j + 20) (c j)) (L.N j + 20) (row L j 20) ∧ (L.A j = some ⟨b j, 0, none⟩ ∨ H ≤ b j)) := by
  have hs := h.size
  have hbo := h.bo
  refine ⟨fun j hj => ?_, fun j hj l hl => ?_, fun j hij hj => ?_, ?_, fun j hj => ?_⟩
  · refine cell_same (h.cells j hj) (hk L.bo (by omega) (fun g hg e => ?_))
    subst e
    rcases (hc.at_ _ hg).1 with ha | ha
    · exact hf.2 i hi _ ha rfl
    · omega
  · by_cases e : j = i
    · subst e
      obtain ⟨g, ha, _⟩ := h.held j hj l hl
      exact ⟨g, ha, hi1 g ha l hl⟩
    · obtain ⟨g, ha, hcell⟩ := h.held j hj l hl
      refine ⟨g, ha, cell_same hcell (hk g (World.block_lt_of_cell? w _ hcell) (fun q hq e2 => ?_))⟩
      subst e2
      rcases (hc.at_ _ hq).1 with h2 | h2
      · exact hf.1 j i hj hi e _ ha h2
      · have := h.low j hj _ ha
        omega
  · have h1 := rowsi j hij hj
    refine own_same h1 (fun q hq hv => hk q hq (fun g hg e => ?_))
    subst e
    have ha : L.A j = some ⟨q, 0, none⟩ := by
      rcases h1.2 with ⟨hv2, _⟩ | ⟨g', cap', cur, hv2, _⟩
      · rw [hv2] at hv; simp [Value.ownBlock] at hv
      · rw [hv2] at hv
        simp only [Value.ownBlock, Option.some.injEq] at hv
        subst hv
        injection hv2
    rcases (hc.at_ _ hg).1 with h2 | h2
    · exact hf.1 j i hj hi (by omega) _ ha h2
    · have := h.low j hj _ ha
      omega
  · exact own_same h.outer (fun q hq hv => hk q hq (fun g hg e => by
      subst e
      exact types_ne hc.own h.outer (by decide) hg hv))
  · obtain ⟨h1, h2, h3⟩ := h.long j hj
    refine ⟨h1, own_same h2 (fun q hq hv => hk q hq (fun g hg e => ?_)), h3⟩
    simp only [Value.ownBlock, Option.some.injEq] at hv
    subst hv
    exact (hc.at_ g hg).2 j hj e

/-- The list that was made longer is laid to the others. -/
theorem inv_next {L : Ls} {w0 w w1 : World} {H i bv cv r : Nat} {v6 v7 : Value} {vs : List Value} {b c : Nat → Nat} {o : Obj} (hf : L.far) (h : Inv L w0 H i r w v6 vs b c) (hi : i < L.m) (hc : Cur L H i 20 w (.slice (some ⟨bv, 0, none⟩) (L.N i + 20) cv) b)
    (rowsi : ∀ j, i < j → j < L.m → w.ownsRow L.B 9 1 (.slice (L.A j) (L.N j) (L.C j)) (L.N j) (row L j 0))
    (hown : w1.ownsRow L.B 59 1 v7 (i + 1) (vs ++ [.slice (some ⟨bv, 0, none⟩) (L.N i + 20) cv]))
    (hg : (v7.ownBlock = v6.ownBlock ∧ (w.alloc o).grownBy w1 v6.ownBlock) ∨ (v7.ownBlock = some (w.heap.size + 1) ∧ (w.alloc o).grownBy w1 none)) :
    Inv L w0 H (i + 1) (i + 1) w1 v7 (vs ++ [.slice (some ⟨bv, 0, none⟩) (L.N i + 20) cv]) (fun j => if j = i then bv else b j) (fun j => if j = i then cv else c j) := by
  have hB : L.B ≤ w.heap.size := Nat.le_trans h.base h.size
  have hal : w.heap.size + 1 = (w.alloc o).heap.size := (World.size_alloc _ _).symm
  have hs := h.size
  have hbo := h.bo
  have hvl : vs.length = i := by have := h.outer.1; omega
  have hk : ∀ q, q < w.heap.size → (∀ g, v6.ownBlock = some g → q ≠ g) → w1.heap[q]? = w.heap[q]? := by
    intro q hq hne
    rcases hg with ⟨_, hg⟩ | ⟨_, hg⟩
    · exact (hg.block q (by omega) (fun e => hne q e.symm rfl)).trans (Below.heap_alloc w o q hq)
    · exact (hg.block q (by omega) (by simp)).trans (Below.heap_alloc w o q hq)
  have hsz : w.heap.size ≤ w1.heap.size := by
    rcases hg with ⟨_, hg⟩ | ⟨_, hg⟩
    · have := hg.size; omega
    · have := hg.size; omega
  have hbel : Below L.B w0 w1 := by
    have h2 := h.below.alloc hB o
    rcases hg with ⟨_, hg⟩ | ⟨_, hg⟩
    · exact h2.grown hg (by omega) (fun q hq => (own_lt h.outer hq).1)
    · exact h2.grown hg (by omega) (fun q hq => by cases hq)
  have hrow : ∀ {n : Nat} {v : Value} {xs : List Value}, w.ownsRow L.B 9 1 v n xs → w1.ownsRow L.B 9 1 v n xs := by
    intro n v xs h1
    exact own_same h1 (fun q hq hv => hk q hq (fun g hg e => by
      subst e
      exact types_ne h1 h.outer (by decide) hv hg))
  refine ⟨fun j hj => ?_, fun j hj l hl => ?_, fun j hij hj => hrow (rowsi j (by omega) hj), hown, fun g hg7 => ?_, fun j hj => ?_, fun j k hj hk2 hne => ?_, h.low, hbo, by omega, hbel, h.base⟩
  · refine cell_same (h.cells j hj) (hk L.bo (by omega) (fun g hg e => ?_))
    have := h.high g hg
    omega
  · obtain ⟨g, ha, hcell⟩ := h.held j hj l hl
    refine ⟨g, ha, cell_same hcell (hk g (World.block_lt_of_cell? w _ hcell) (fun q hq e2 => ?_))⟩
    have h1 := h.high q hq
    have h2 := h.low j hj g ha
    omega
  · rcases hg with ⟨he, _⟩ | ⟨he, _⟩
    · exact h.high g (by rw [← he]; exact hg7)
    · rw [he] at hg7
      injection hg7 with hg7
      omega
  · by_cases e : j = i
    · subst e
      rw [if_pos rfl, if_pos rfl]
      refine ⟨?_, hrow hc.own, (hc.at_ bv rfl).1⟩
      rw [List.getElem?_append_right (by omega), hvl, Nat.sub_self]
      rfl
    · rw [if_neg e, if_neg e]
      obtain ⟨h1, h2, h3⟩ := h.long j (by omega)
      refine ⟨?_, hrow h2, h3⟩
      rw [List.getElem?_append_left (by omega)]
      exact h1
  · by_cases e : j = i
    · by_cases e2 : k = i
      · omega
      · rw [if_pos e, if_neg e2]
        exact fun hh => (hc.at_ bv rfl).2 k (by omega) hh.symm
    · by_cases e2 : k = i
      · rw [if_neg e, if_pos e2]
        exact fun hh => (hc.at_ bv rfl).2 j (by omega) hh
      · rw [if_neg e, if_neg e2]
        exact h.apart j k (by omega) (by omega) hne

/-- One append in the inner loop, whole. -/
theorem both_step {L : Ls} {w0 w w1 : World} {H i k r : Nat} {v v1 v6 : Value} {vs : List Value} {b c : Nat → Nat} {o : Obj} (hf : L.far) (h : Inv L w0 H i r w v6 vs b c) (hr : r ≤ i + 1) (hi : i < L.m) (hc : Cur L H i k w v b)
    (hown : w1.ownsRow L.B 9 1 v1 (L.N i + k + 1) (row L i k ++ [sn i]))
    (hg : (v1.ownBlock = v.ownBlock ∧ (w.alloc o).grownBy w1 v.ownBlock) ∨ (v1.ownBlock = some (w.heap.size + 1) ∧ (w.alloc o).grownBy w1 none)) :
    Inv L w0 H i (i + 1) w1 v6 vs b c ∧ Cur L H i (k + 1) w1 v1 b := by
  obtain ⟨hk, hc1, hsz, hbel, hi1⟩ := cur_step hf h hi hc hown hg
  have rowsi := fun j (hij : i < j) (hj : j < L.m) => h.rows j (by omega) hj
  obtain ⟨a1, a2, a3, a4, a5⟩ := inv_step hf h hi hc rowsi hk hsz hbel hi1
  exact ⟨⟨a1, a2, fun j hij hj => a3 j (by omega) hj, a4, h.high, a5, h.apart, h.low, h.bo, Nat.le_trans h.size hsz, hbel, h.base⟩, hc1⟩
theorem outer_next {L : Ls} {w0 w w1 : World} {H i bv cv r : Nat} {v6 v7 : Value} {vs : List Value} {b c : Nat → Nat} {o : Obj} (hf : L.far) (h : Inv L w0 H i r w v6 vs b c) (hr : r ≤ i + 1) (hi : i < L.m) (hc : Cur L H i 20 w (.slice (some ⟨bv, 0, none⟩) (L.N i + 20) cv) b)
    (hown : w1.ownsRow L.B 59 1 v7 (i + 1) (vs ++ [.slice (some ⟨bv, 0, none⟩) (L.N i + 20) cv]))
    (hg : (v7.ownBlock = v6.ownBlock ∧ (w.alloc o).grownBy w1 v6.ownBlock) ∨ (v7.ownBlock = some (w.heap.size + 1) ∧ (w.alloc o).grownBy w1 none)) :
    ∃ b2 c2, Inv L w0 H (i + 1) (i + 1) w1 v7 (vs ++ [.slice (some ⟨bv, 0, none⟩) (L.N i + 20) cv]) b2 c2 :=
  ⟨_, _, inv_next hf h hi hc (fun j hij hj => h.rows j (by omega) hj) hown hg⟩
theorem inv_more {L : Ls} {w0 w : World} {H i r : Nat} {v6 : Value} {vs : List Value} {b c : Nat → Nat} (h : Inv L w0 H i r w v6 vs b c) (hr : r ≤ i + 1) : Inv L w0 H i (i + 1) w v6 vs b c :=
  ⟨h.cells, h.held, fun j hij hj => h.rows j (by omega) hj, h.outer, h.high, h.long, h.apart, h.low, h.bo, h.size, h.below, h.base⟩

end Go.Proofs.YtcbnpdognadilaaGreat.Aq

/- The statements' own Apart: lists that lie apart are told so: contract. -/
namespace Go.Proofs.YtcbnpdognadilaaGreat.Aq
open Go.RowKit Tx
set_option linter.unusedVariables false

theorem info33 : (Tryz.prog.info? 59).map (fun i => (i.zero, i.size, i.bytes)) = some (some (.slice none 0 0), 1, 24) := by kernel_rfl

set_option maxRecDepth 100000 in
set_option maxHeartbeats 4000000 in
theorem apart_any (L : Ls) (co : Nat) (w : World) (hm : L.m ≤ 1048576) (hN : ∀ j, j < L.m → L.N j ≤ 1048576) (hB : L.B ≤ w.heap.size) (hbo : L.bo < w.heap.size) (hbB : L.B ≤ L.bo) (hf : L.far) (hc : L.cells w) (hr : L.marked w 0 0) :
    Calls Tryz.prog 42 #[.slice (some ⟨L.bo, 0, none⟩) L.m co] w fun e w' => e = .returned (.bool true) ∧ Below L.B w w' := by
  obtain ⟨i0, hi0, hz0, hz1, hz2⟩ := info_parts info9
  obtain ⟨i33, hi33, hy0, hy1, hy2⟩ := info_parts info33
  have HN := Lib.hid hN
  have HF := Lib.hid hf
  have HC := Lib.hid hc
  have HR := Lib.hid hr
  clear hN hf hc hr
  go_enter Tryz.func42, Tryz.ntmps42
  go_wp2
  obtain ⟨M, hM⟩ : ∃ M, M = MK := ⟨_, rfl⟩
  have hM26 : 26 ≤ M.size := by rw [hM]; decide
  rw [show ({ data := #[97, 98, 99, 100, 101, 102, 103, 104, 105, 106, 107, 108, 109, 110, 111, 112, 113, 114, 115, 116, 117, 118, 119, 120, 121, 122] } : ByteArray) = MK from rfl, ← hM]
  have HM := Lib.hid hM
  clear hM
  go_loopw [4, 5] (fun i _ wr => ∃ j : Nat, j ≤ L.m ∧ i = .int .i64 j ∧ Hid (L.cells wr) ∧ Hid (L.marked wr j 0) ∧ Below L.B w wr ∧ w.heap.size ≤ wr.heap.size) (fun i _ _ => L.m - (intOf i).toNat)
  case atStart => exact ⟨0, Nat.zero_le _, rfl, HC, HR, Below.refl _ _, Nat.le_refl _⟩
  case round =>
    obtain ⟨i, hi, rfl, hcells, hmark, hb, hsz⟩ := hrel
    by_cases hlt : i < L.m
    · have hcell := hcells.out i hlt
      have hNi := HN.out i hlt
      obtain ⟨n, hn⟩ : ∃ n, n = L.N i := ⟨_, rfl⟩
      rw [← hn] at hcell hNi
      have HNN := Lib.hid hn
      clear hn
      obtain ⟨r, hr⟩ : ∃ r, r = i % 26 := ⟨_, rfl⟩
      have hrl : r < 26 := by omega
      have hr1 : (i : Int) % 26 = (r : Int) := by omega
      have hr2 : (i : Int).tmod 26 = (r : Int) := by rw [Int.tmod_eq_emod_of_nonneg (by omega)]; exact hr1
      have hr3 : IntKind.i64.wrap ((r : Int) + 1) = (r : Int) + 1 := IntWalk.i64_in _ (by omega)
      have hr4 : ((r : Int) + 1).toNat = r + 1 := by omega
      have hW : ({ data := #[119, 97, 115] } : ByteArray) ++ M.extract r (r + 1) = was i := by rw [was, HM.out, hr]
      have hWs : (M.extract r (r + 1)).size ≤ 1 := by simp; omega
      obtain ⟨Y, hY⟩ : ∃ Y, Y = was i := ⟨_, rfl⟩
      rw [← hY] at hW
      have HY := Lib.hid hY
      clear hr hY
      go_wp2
      go_loopw [5] (fun x wx => ∃ k : Nat, k ≤ n ∧ x = .int .i64 k ∧ Hid (L.cells wx) ∧ Hid (L.marked wx i k) ∧ Below L.B w wx ∧ w.heap.size ≤ wx.heap.size) (fun x _ => n - (intOf x).toNat)
      case atStart => exact ⟨0, Nat.zero_le _, rfl, hcells, hmark, hb, hsz⟩
      case round =>
        obtain ⟨k, hk, rfl, hcells2, hmark2, hb2, hsz2⟩ := hrel
        have hcell2 := hcells2.out i hlt
        rw [← HNN.out] at hcell2
        clear hcell hcells hmark hb hsz
        by_cases hkn : k < n
        · obtain ⟨xs, hx1, hx2⟩ := hmark2.out i hlt
          rw [← HNN.out] at hx1
          obtain ⟨g, ha, hg⟩ := addr_eq hx1 (by omega)
          rw [ha] at hcell2 hx1
          have hfz := own_frozen hx1 k
          have hst := own_cell hx1 (List.getElem?_eq_getElem (show k < xs.length by rw [hx1.1]; omega))
          obtain ⟨old, hold⟩ : ∃ old, old = xs[k]'(by rw [hx1.1]; omega) := ⟨_, rfl⟩
          rw [← hold] at hst
          have hkn' : (k : Int) < (n : Int) := by omega
          have hlt' : (i : Int) < (L.m : Int) := by omega
          have HX := Lib.hid hx1
          clear hx1 hx2 hold
          go_wp2
          go_region
          all_goals
            go_wp2
            go_roundw
            case rel => exact ⟨k + 1, by omega, by go_num, cells_store HF.out hcells2.out hlt ha _, by rw [HY.out]; exact marked_store HF.out hmark2.out hlt (by rw [← HNN.out]; exact hkn) ha, (hb2.setCell (p := ⟨g, k, none⟩) hg _).drew, by simpa [World.setCell] using hsz2⟩
            case measure => simp [intOf]; omega
        · obtain rfl : k = n := by omega
          have hdone : Hid (L.marked wr (i + 1) 0) := marked_next (by rw [← HNN.out]; exact hmark2.out)
          go_wp2
          go_roundw
          case rel => exact ⟨i + 1, by omega, by go_num, hcells2, hdone, hb2, hsz2⟩
          case measure => simp [intOf]; omega
    · obtain rfl : i = L.m := by omega
      clear HC HR
      have hinv := inv_start HF.out hcells.out hmark.out (by omega) (by omega) hb
      have HI := Lib.hid hinv
      obtain ⟨H, hH⟩ : ∃ H, H = wr.heap.size := ⟨_, rfl⟩
      rw [← hH] at HI
      clear hinv hH hcells hmark hb hsz hlt
      go_wp2
      go_loopw [6, 7, 8, 9] (fun v6 i _ _ wx => ∃ (k : Nat) (vs : List Value) (b c : Nat → Nat), k ≤ L.m ∧ i = .int .i64 k ∧ Hid (Inv L w H k k wx v6 vs b c)) (fun _ i _ _ _ => L.m - (intOf i).toNat)
      case atStart => exact ⟨0, [], _, _, Nat.zero_le _, rfl, HI⟩
      case round =>
        obtain ⟨i, vs, b, c, hi, rfl, HV⟩ := hrel
        clear HI
        by_cases hlt : i < L.m
        · have hcell := HV.out.cells i hlt
          have hcur := Lib.hid (cur_start HF.out HV.out (Nat.le_refl _) hlt)
          have hmore := Lib.hid (inv_more HV.out (by omega))
          have hNi := HN.out i hlt
          have hlt' : (i : Int) < (L.m : Int) := by omega
          obtain ⟨r, hr⟩ : ∃ r, r = i % 26 := ⟨_, rfl⟩
          have hrl : r < 26 := by omega
          have hr1 : (i : Int) % 26 = (r : Int) := by omega
          have hX : ({ data := #[110, 101, 119] } : ByteArray) ++ M.extract r (r + 1) = new i := by rw [new, HM.out, hr]
          have hXs : (M.extract r (r + 1)).size ≤ 1 := by simp; omega
          obtain ⟨Y, hY⟩ : ∃ Y, Y = new i := ⟨_, rfl⟩
          rw [← hY] at hX
          have HY := Lib.hid hY
          clear hr hY
          go_wp2
          go_loopw [8, 9] (fun v x wy => ∃ k : Nat, k ≤ 20 ∧ x = .int .i64 k ∧ Hid (Inv L w H i (i + 1) wy u6 vs b c) ∧ Hid (Cur L H i k wy v b)) (fun _ x _ => 20 - (intOf x).toNat)
          case atStart => exact ⟨0, by omega, rfl, hmore, hcur⟩
          case round =>
            obtain ⟨k, hk, rfl, hI, hC⟩ := hrel
            clear HV hcell hcur hmore
            have hsz := hI.out.size
            have hbs := hI.out.base
            by_cases hk20 : k < 20
            · have hown := hC.out.own
              go_wp2_with (at_builtin; refine wpList_append_two _ rfl _ _ 59 rfl L.B 9 i0 (.string ⟨#[]⟩) 16 Tryz.underlying59 hi0 hz0 hz1 hz2 rfl _ _ _ rfl (hown.alloc _) ⟨wr.heap.size, 0, none⟩ 1 (.string Y) rfl ?c1 rfl ?c3 ?c4 ?c5 ?_)
              case c1 => go_simp
              case c3 => omega
              case c4 => omega
              case c5 => simp; omega
              intro v1 w1 hown1 hg1
              have hst := both_step HF.out hI.out (Nat.le_refl _) hlt hC.out (by rw [HY.out] at hown1; exact hown1) hg1
              have h1 := Lib.hid hst.1
              have h2 := Lib.hid hst.2
              clear hst hown hown1 hg1
              go_wp2
              go_roundw
              case rel => exact ⟨k + 1, by omega, by go_num, h1, h2⟩
              case measure => simp [intOf]; omega
            · obtain rfl : k = 20 := by omega
              obtain ⟨bv, cv, hv, _, _⟩ := hC.out.own.form (by omega)
              rw [hv] at hC ⊢
              clear hv
              have hout := hI.out.outer
              go_wp2_with (at_builtin; refine wpList_append_two _ rfl _ _ 63 rfl L.B 59 i33 (.slice none 0 0) 24 Tryz.underlying63 hi33 hy0 hy1 hy2 rfl _ _ _ rfl (hout.alloc _) ⟨wr.heap.size, 0, none⟩ 1 (.slice (some ⟨bv, 0, none⟩) (L.N i + 20) cv) rfl ?c1 rfl ?c3 ?c4 ?c5 ?_)
              case c1 => go_simp
              case c3 => omega
              case c4 => omega
              case c5 => simp; omega
              intro v7 w1 hown1 hg1
              obtain ⟨b2, c2, hst⟩ := outer_next HF.out hI.out (Nat.le_refl _) hlt hC.out hown1 hg1
              have h1 := Lib.hid hst
              clear hst hout hown1 hg1
              go_wp2
              go_roundw
              case rel => exact ⟨i + 1, _, b2, c2, by omega, by go_num, h1⟩
              case measure => simp [intOf]; omega
        · obtain rfl : i = L.m := by omega
          have hbelow := HV.out.below
          by_cases hm0 : L.m = 0
          · have hm0' : (L.m : Int) ≤ 0 := by omega
            go_wp2
            go_loop [10] (fun i => i = .int .i64 0) (fun _ => 0)
            case atStart => exact rfl
            case round =>
              obtain rfl := hrel
              go_wp2
              go_ret
              exact ⟨rfl, hbelow⟩
          · obtain ⟨g6, c6, hv6, _, _⟩ := HV.out.outer.form (by omega)
            rw [hv6] at HV ⊢
            clear hv6 hm0
            go_wp2
            go_loop [10, 11, 12] (fun i _ _ => ∃ j : Nat, j ≤ L.m ∧ i = .int .i64 j) (fun i _ _ => L.m - (intOf i).toNat)
            case atStart => exact ⟨0, Nat.zero_le _, rfl⟩
            case round =>
              obtain ⟨j, hj, rfl⟩ := hrel
              by_cases hjm : j < L.m
              · obtain ⟨hlv, hlo, _⟩ := HV.out.long j hjm
                have hcl := own_cell HV.out.outer hlv
                have hcj := HV.out.cells j hjm
                have HLO := Lib.hid hlo
                have HH := Lib.hid (HV.out.held j hjm)
                have hNj := HN.out j hjm
                have hjm' : (j : Int) < (L.m : Int) := by omega
                obtain ⟨n, hn⟩ : ∃ n, n = L.N j := ⟨_, rfl⟩
                obtain ⟨bj, hbj⟩ : ∃ x, x = b j := ⟨_, rfl⟩
                obtain ⟨cj, hcj2⟩ : ∃ x, x = c j := ⟨_, rfl⟩
                rw [← hn, ← hbj, ← hcj2] at hcl HLO
                rw [← hn] at hcj hNj HH
                have HNN := Lib.hid hn
                clear hn hbj hcj2 hlo hlv
                obtain ⟨r, hr⟩ : ∃ r, r = j % 26 := ⟨_, rfl⟩
                have hrl : r < 26 := by omega
                have hr1 : (j : Int) % 26 = (r : Int) := by omega
                have hXs : (M.extract r (r + 1)).size ≤ 1 := by simp; omega
                have hW : ({ data := #[119, 97, 115] } : ByteArray) ++ M.extract r (r + 1) = was j := by rw [was, HM.out, hr]
                have hX : ({ data := #[110, 101, 119] } : ByteArray) ++ M.extract r (r + 1) = new j := by rw [new, HM.out, hr]
                obtain ⟨Wj, hWj⟩ : ∃ x, x = was j := ⟨_, rfl⟩
                obtain ⟨Xj, hXj⟩ : ∃ x, x = new j := ⟨_, rfl⟩
                rw [← hWj] at hW
                rw [← hXj] at hX
                have HWJ := Lib.hid hWj
                have HXJ := Lib.hid hXj
                clear hr hWj hXj
                go_wp2
                go_loop [11, 12] (fun x _ => ∃ l : Nat, l ≤ n + 20 ∧ x = .int .i64 l) (fun x _ => n + 20 - (intOf x).toNat)
                case atStart => exact ⟨0, Nat.zero_le _, rfl⟩
                case round =>
                  obtain ⟨l, hl, rfl⟩ := hrel
                  by_cases hln : l < n
                  · obtain ⟨g, ha, hcg⟩ := HH.out l hln
                    have hcb := own_cell HLO.out (row_was (L := L) (j := j) (k := 20) (l := l) (by rw [← HNN.out]; exact hln))
                    rw [sw, ← HWJ.out] at hcg hcb
                    rw [ha] at hcj
                    have hln1 : (l : Int) < (n : Int) := by omega
                    have hln2 : (l : Int) < (n : Int) + 20 := by omega
                    go_wp2
                    go_round
                    case rel => exact ⟨l + 1, by omega, by go_num⟩
                    case measure => simp [intOf]; omega
                  · by_cases hl20 : l < n + 20
                    · have hcb := own_cell HLO.out (row_new (L := L) (j := j) (k := 20) (l := l) (by rw [← HNN.out]; exact hln) (by rw [← HNN.out]; exact hl20))
                      rw [sn, ← HXJ.out] at hcb
                      have hln1 : (n : Int) ≤ (l : Int) := by omega
                      have hln2 : (l : Int) < (n : Int) + 20 := by omega
                      go_wp2
                      go_round
                      case rel => exact ⟨l + 1, by omega, by go_num⟩
                      case measure => simp [intOf]; omega
                    · obtain rfl : l = n + 20 := by omega
                      go_wp2
                      go_round
                      case rel => exact ⟨j + 1, by omega, by go_num⟩
                      case measure => simp [intOf]; omega
              · go_wp2
                go_ret
                exact ⟨rfl, hbelow⟩

end Go.Proofs.YtcbnpdognadilaaGreat.Aq

/- Two lists of texts that lie apart, as the statements' own Apart takes them. -/
namespace Go.Proofs.YtcbnpdognadilaaGreat.Aq
open Go.RowKit Tx
set_option linter.unusedVariables false

theorem texts_row {w : World} {B B2 n c : Nat} {a : Option Addr} {l : List ByteArray} (h : Texts w B (.slice a n c) l) (hB : B2 ≤ B) (hn : l.length = n) : w.ownsRow B2 9 1 (.slice a n c) n (l.map sv) := by
  subst hn
  refine ⟨h.1, ?_⟩
  rcases h.2 with h0 | ⟨g, cap, cur, hv, hg, r⟩
  · exact .inl h0
  · exact .inr ⟨g, cap, cur, hv, by omega, r⟩
theorem texts_block {w : World} {B n c : Nat} {a : Option Addr} {x : Addr} {l : List ByteArray} (h : Texts w B (.slice a n c) l) (ha : a = some x) : B ≤ x.block ∧ x.block < w.heap.size := by
  rcases h.2 with ⟨hv, _⟩ | ⟨g, cap, cur, hv, hg, hh, _⟩
  · injection hv with h1
    rw [ha] at h1
    cases h1
  · injection hv with h1
    rw [ha] at h1
    injection h1 with h1
    subst h1
    exact ⟨hg, (Array.getElem?_eq_some_iff.1 hh).1⟩

/-- Two lists, as Apart takes them. -/
def two (a b : Option Addr) (n ca cb bo B : Nat) : Ls := { m := 2, A := fun j => if j = 0 then a else b, N := fun _ => n, C := fun j => if j = 0 then ca else cb, bo := bo, B := B }
theorem two_apart {w : World} {a b : Option Addr} {n ca cb B Ba Bb : Nat} {l : List ByteArray} (hn : n ≤ 1048576) (hl : l.length = n) (ha : Texts w Ba (.slice a n ca) l) (hb : Texts w Bb (.slice b n cb) l) (h1 : B ≤ Ba) (h2 : B ≤ Bb) (hsep : ∀ x, a = some x → x.block < Bb) (hBw : B ≤ w.heap.size) :
    Calls Tryz.prog 42 #[.slice (some ⟨w.heap.size, 0, none⟩) 2 2] (w.alloc (.cells #[.slice a n ca, .slice b n cb] 59)) fun e w' => e = .returned (.bool true) ∧ Below B (w.alloc (.cells #[.slice a n ca, .slice b n cb] 59)) w' := by
  have ra := (texts_row ha h1 hl).alloc (.cells #[.slice a n ca, .slice b n cb] 59)
  have rb := (texts_row hb h2 hl).alloc (.cells #[.slice a n ca, .slice b n cb] 59)
  refine apart_any (two a b n ca cb w.heap.size B) 2 _ (by show 2 ≤ 1048576; omega) (fun j _ => hn) (by rw [World.size_alloc]; show B ≤ _; omega) (by rw [World.size_alloc]; show w.heap.size < _; omega) hBw ?_ ?_ ?_
  · have key : ∀ x, a = some x → b ≠ some x := fun x h3 h4 => by
      have h5 := hsep x h3
      have h6 := (texts_block hb h4).1
      omega
    refine ⟨fun i j hi hj hne x h3 => ?_, fun j hj g h3 => ?_⟩
    · have hi : i < 2 := hi
      have hj : j < 2 := hj
      show (if j = 0 then a else b) ≠ some x
      have h3 : (if i = 0 then a else b) = some x := h3
      by_cases hi0 : i = 0
      · rw [if_pos hi0] at h3
        rw [if_neg (by omega)]
        exact key x h3
      · rw [if_neg hi0] at h3
        rw [if_pos (by omega)]
        exact fun h4 => key x h4 h3
    · have h3 : (if j = 0 then a else b) = some ⟨g, 0, none⟩ := h3
      show g ≠ w.heap.size
      by_cases hj0 : j = 0
      · rw [if_pos hj0] at h3
        have : g < w.heap.size := (texts_block ha h3).2
        omega
      · rw [if_neg hj0] at h3
        have : g < w.heap.size := (texts_block hb h3).2
        omega
  · intro j hj
    have hj : j < 2 := hj
    match j, hj with
    | 0, _ => show (w.alloc _).cell? ⟨w.heap.size, 0, none⟩ = _; go_simp; exact ⟨rfl, rfl, rfl⟩
    | 1, _ => show (w.alloc _).cell? ⟨w.heap.size, 1, none⟩ = _; go_simp; exact ⟨rfl, rfl, rfl⟩
  · intro j hj
    have hj : j < 2 := hj
    match j, hj with
    | 0, _ => exact ⟨l.map sv, ra, fun k hk hh => by omega⟩
    | 1, _ => exact ⟨l.map sv, rb, fun k hk hh => by omega⟩
end Go.Proofs.YtcbnpdognadilaaGreat.Aq
