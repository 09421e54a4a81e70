/- What the document's own functions of frames answer: contracts. -/
import Derived.Test.YtihbibhmkpefgaaFMath
import Derived.RegionTactic
import Derived.ChangeAlike
import Derived.Deep.RegionWith
namespace Go.Proofs.Ytihbibhmkpefgaa.Fr
open Go.RowKit Wm Wr Fm
set_option linter.unusedVariables false

theorem cstep_eq {c b : Nat} (h : c % 2 = b) : cstep c b = c / 2 := by rw [cstep, if_pos h]
theorem cstep_other {c b : Nat} (h : c % 2 ≠ b) : cstep c b = (c / 2) ^^^ 3988292384 := by rw [cstep, if_neg h]
theorem xor32 (a : Nat) (h : a < 4294967296) : bits .xor .u32 (a : Int) 3988292384 = ((a ^^^ 3988292384 : Nat) : Int) := u32_xor_nat a 3988292384 h (by decide)

set_option maxRecDepth 100000 in
set_option maxHeartbeats 1000000 in
theorem refSum_any (s : ByteArray) (w : World) (hs : s.size ≤ maxLen) :
    Calls Try.prog 10 #[.string s] w fun e w' => e = .returned (.int .u32 (fsum s.data.toList : Nat)) ∧ w = w' := by
  unfold maxLen at hs
  go_enter Try.func10, Try.ntmps10
  go_wp2
  go_loop [3, 4] (fun c i => ∃ (k C : Nat), k ≤ s.size ∧ i = .int .i64 k ∧ Hid (C = csum 4294967295 (s.data.toList.take k)) ∧ C < 4294967296 ∧ c = .int .u32 (C : Nat)) (fun _ i => s.size - (intOf i).toNat)
  case atStart => exact ⟨0, 4294967295, Nat.zero_le _, rfl, rfl, by decide, rfl⟩
  case round =>
    obtain ⟨k, C, hk, rfl, hC, hlt, rfl⟩ := hrel
    by_cases hks : k < s.size
    · have hb := s[k].toNat_lt
      have hnext := csum_take s k hks
      rw [← hC.out] at hnext
      go_wp2
      obtain ⟨X, hX⟩ : ∃ X, X = s[k].toNat := ⟨_, rfl⟩
      rw [← hX] at hb hnext ⊢
      have HN := Lib.hid hnext
      clear hX hnext hC
      go_loop [3, 5, 6] (fun c x i => ∃ (j D Y : Nat), j ≤ 8 ∧ i = .int .i64 j ∧ Hid (D = cbits j C X) ∧ Hid (Y = X / 2 ^ j) ∧ D < 4294967296 ∧ Y < 256 ∧ c = .int .u32 (D : Nat) ∧ x = .int .i64 (Y : Nat)) (fun _ _ i => 8 - (intOf i).toNat)
      case atStart => exact ⟨0, C, X, by omega, rfl, rfl, by show X = X / 2 ^ 0; simp, hlt, hb, rfl, rfl⟩
      case round =>
        obtain ⟨j, D, Y, hj, rfl, hD, hY, hDl, hYl, rfl, rfl⟩ := hrel
        by_cases hj8 : j < 8
        · have hnD : cbits (j + 1) C X = cstep D (Y % 2) := by rw [cbits_snoc, ← hD.out, ← hY.out]
          have hnY : X / 2 ^ (j + 1) = Y / 2 := by rw [hY.out, Nat.div_div_eq_div_mul, Nat.pow_succ]
          have HD := Lib.hid hnD
          have HY := Lib.hid hnY
          clear hnD hnY hD hY
          have hxor := xor32 (D / 2) (by omega)
          rw [show ((D / 2 : Nat) : Int) = (D : Int) / 2 by omega] at hxor
          rcases Nat.mod_two_eq_zero_or_one D with hd | hd <;> rcases Nat.mod_two_eq_zero_or_one Y with hy | hy
          · have e := cstep_eq (c := D) (b := Y % 2) (by omega)
            have HE := Lib.hid e
            have t1 : ((D : Int) % 2 == 1) = false := by simp; omega
            have t2 : ((Y : Int) % 2 == 1) = false := by simp; omega
            clear e hd hy
            go_wp2
            go_round
            case rel => exact ⟨j + 1, D / 2, Y / 2, by omega, by go_num, by show _ = _; rw [HD.out, HE.out], HY.out.symm, by omega, by omega, by go_num, by go_num⟩
            case measure => simp [intOf]; omega
          · have e := cstep_other (c := D) (b := Y % 2) (by omega)
            have HE := Lib.hid e
            have t1 : ((D : Int) % 2 == 1) = false := by simp; omega
            have t2 : ((Y : Int) % 2 == 1) = true := by simp; omega
            have hl := xor_lt (a := D / 2) (b := 3988292384) (by omega) (by decide)
            clear e hd hy
            go_wp2
            go_round
            case rel => exact ⟨j + 1, _, Y / 2, by omega, by go_num, by show _ = _; rw [HD.out, HE.out], HY.out.symm, hl, by omega, rfl, by go_num⟩
            case measure => simp [intOf]; omega
          · have e := cstep_other (c := D) (b := Y % 2) (by omega)
            have HE := Lib.hid e
            have t1 : ((D : Int) % 2 == 1) = true := by simp; omega
            have t2 : ((Y : Int) % 2 == 1) = false := by simp; omega
            have hl := xor_lt (a := D / 2) (b := 3988292384) (by omega) (by decide)
            clear e hd hy
            go_wp2
            go_round
            case rel => exact ⟨j + 1, _, Y / 2, by omega, by go_num, by show _ = _; rw [HD.out, HE.out], HY.out.symm, hl, by omega, rfl, by go_num⟩
            case measure => simp [intOf]; omega
          · have e := cstep_eq (c := D) (b := Y % 2) (by omega)
            have HE := Lib.hid e
            have t1 : ((D : Int) % 2 == 1) = true := by simp; omega
            have t2 : ((Y : Int) % 2 == 1) = true := by simp; omega
            clear e hd hy
            go_wp2
            go_round
            case rel => exact ⟨j + 1, D / 2, Y / 2, by omega, by go_num, by show _ = _; rw [HD.out, HE.out], HY.out.symm, by omega, by omega, by go_num, by go_num⟩
            case measure => simp [intOf]; omega
        · obtain rfl : j = 8 := by omega
          go_wp2
          go_round
          case rel => exact ⟨k + 1, D, by omega, by go_num, by show D = _; rw [HN.out, hD.out], hDl, rfl⟩
          case measure => simp [intOf]; omega
    · obtain rfl : k = s.size := by omega
      have hall := csum_all s
      rw [← hC.out] at hall
      go_wp2
      go_ret
      refine ⟨?_, rfl⟩
      rw [← hall]
      exact ret1 (by omega)

theorem le4_take (c j : Nat) (h : j < 4) : (le4 c).take (j + 1) = (le4 c).take j ++ [UInt8.ofNat (c / 256 ^ j % 256)] := by
  have e2 : c / 256 ^ 2 = c / 256 / 256 := by rw [Nat.div_div_eq_div_mul]
  have e3 : c / 256 ^ 3 = c / 256 / 256 / 256 := by rw [Nat.div_div_eq_div_mul, Nat.div_div_eq_div_mul]
  match j, h with
  | 0, _ => simp [le4]
  | 1, _ => simp [le4]
  | 2, _ => simp [le4, e2]
  | 3, _ => simp [le4, e3]
theorem own_at {w w1 : World} {base g cap n : Nat} {xs : List Value} {e : TypeId} (h : w.ownsRow base e 1 (.slice (some ⟨g, 0, none⟩) n cap) n xs) (hb : Below w.heap.size w w1) : w1.ownsRow base e 1 (.slice (some ⟨g, 0, none⟩) n cap) n xs := by
  refine ⟨h.1, ?_⟩
  rcases h.2 with ⟨h0, _⟩ | ⟨g', cap', cur, hv, hg, hh, r⟩
  · cases h0
  · exact .inr ⟨g', cap', cur, hv, hg, (hb.block g' (Array.getElem?_eq_some_iff.1 hh).1).trans hh, r⟩
theorem conv_below {w w1 : World} {base g cap n : Nat} {l : List UInt8} (h : w.ownsRow base 5 1 (.slice (some ⟨g, 0, none⟩) n cap) n (l.map bv)) (hl : l.length = n) (hn : 0 < n) (hb : Below w.heap.size w w1) :
    (convert 46 9 (.slice (some ⟨g, 0, none⟩) n cap)).run Try.prog w1 = .ok (.string ⟨l.toArray⟩) w1 := by
  obtain ⟨g', cap', hv, hc⟩ := own_str (own_at h hb) hl hn
  injection hv with hg _ hcap
  injection hg with hg
  injection hg with hg
  subst hg
  subst hcap
  exact hc

theorem conv_q {w w1 : World} {base g cap F : Nat} {Q : ByteArray} (h : w.ownsRow base 5 1 (.slice (some ⟨g, 0, none⟩) 4 cap) 4 ((le4 F).map bv)) (hq : Q = ⟨(le4 F).toArray⟩) (hb : Below w.heap.size w w1) :
    (convert 46 9 (.slice (some ⟨g, 0, none⟩) 4 cap)).run Try.prog w1 = .ok (.string Q) w1 := by
  rw [hq]
  exact conv_below h rfl (by omega) hb
theorem mod_byte (D : Nat) : Value.int .u8 ((D : Int) % 256) = bv (UInt8.ofNat (D % 256)) := by
  rw [bv]
  congr 1
  simp

set_option maxRecDepth 100000 in
set_option maxHeartbeats 1000000 in
theorem refPack_any (s : ByteArray) (w : World) (hs : s.size ≤ 9223372036854775793) :
    Calls Try.prog 12 #[.string s] w fun e w' => e = .returned (.string (pk s)) ∧ Below w.heap.size w w' := by
  obtain ⟨i0, hi, hz0, hz1, hz2⟩ := info_parts info5
  have cs := fun W => refSum_any s W (by unfold maxLen; omega)
  have cT := fun W => refText_any s W (by omega)
  have hFl := fsum_lt s.data.toList
  have hTl : (ts s).size ≤ 10 + s.size := by
    rw [ts, ByteArray.size_append]
    have := vs_le (x := s.size) (by omega)
    omega
  have hpk : Hid (ts s ++ ⟨(le4 (fsum s.data.toList)).toArray⟩ = pk s) := rfl
  obtain ⟨F, hF⟩ : ∃ F, F = fsum s.data.toList := ⟨_, rfl⟩
  obtain ⟨T, hT⟩ : ∃ T, T = ts s := ⟨_, rfl⟩
  rw [← hF] at cs hFl hpk
  rw [← hT] at cT hTl hpk
  clear hF hT
  go_enter Try.func12, Try.ntmps12
  go_wp2_with (go_at_call 10; refine (cs _).mono ?_; rintro e w1 ⟨rfl, rfl⟩)
  go_loopw [3, 4, 5] (fun c v i wr => ∃ j : Nat, j ≤ 4 ∧ i = .int .i64 j ∧ c = .int .u32 (F / 256 ^ j : Nat) ∧ wr.ownsRow w.heap.size 5 1 v j (((le4 F).take j).map bv) ∧ Below w.heap.size w wr) (fun _ _ i _ => 4 - (intOf i).toNat)
  case atStart => exact ⟨0, by omega, rfl, by simp, World.ownsRow_nil _ _ _ _, Below.refl _ _⟩
  case round =>
    obtain ⟨j, hj, rfl, rfl, hown, hb⟩ := hrel
    clear cs
    have hsz := hb.size
    by_cases hlt : j < 4
    · have hnext := le4_take F j hlt
      have hdiv : F / 256 ^ (j + 1) = F / 256 ^ j / 256 := by rw [Nat.pow_succ, Nat.div_div_eq_div_mul]
      have hdl : F / 256 ^ j ≤ F := Nat.div_le_self _ _
      obtain ⟨D, hD⟩ : ∃ D, D = F / 256 ^ j := ⟨_, rfl⟩
      rw [← hD] at hnext hdiv hdl ⊢
      have HN := Lib.hid hnext
      have HD := Lib.hid hdiv
      clear hnext hdiv hD
      go_wp2_with (at_builtin; refine wpList_append_own _ rfl _ _ 46 rfl w.heap.size 5 i0 (.int .u8 0) 1 1 Try.underlying46 hi hz0 hz1 hz2 rfl (by decide) _ _ _ rfl (hown.alloc _) ⟨wr.heap.size, 0, none⟩ 1 1 [.int .u8 ((D : Int) % 256)] rfl rfl ?c1 ?c2 ?c3 ?c4 ?c5 ?_)
      case c1 => exact cell_one_new _ _ _
      case c2 => intro u hu; simp at hu; subst hu; rfl
      case c3 => unfold maxLen; omega
      case c4 => omega
      case c5 => simp; omega
      intro v' w1 hown' hgrow _
      have hb' := below_step hb hown hgrow
      have hown2 : w1.ownsRow w.heap.size 5 1 v' (j + 1) (((le4 F).take (j + 1)).map bv) := by
        rw [mod_byte D] at hown'
        rw [HN.out, List.map_append, List.map_take]
        exact hown'
      clear hown'
      clear hown hgrow hb
      go_wp2
      go_roundw
      case rel => exact ⟨j + 1, by omega, by go_num, by rw [HD.out]; go_num, hown2, hb'⟩
      case measure => simp [intOf]; omega
    · obtain rfl : j = 4 := by omega
      rw [show (le4 F).take 4 = le4 F from rfl] at hown
      obtain ⟨g, cap, hv, _⟩ := own_str hown rfl (by omega)
      rw [hv] at hown ⊢
      have hown1 : wr.drew.ownsRow w.heap.size 5 1 (.slice (some ⟨g, 0, none⟩) 4 cap) 4 ((le4 F).map bv) := hown
      have hc0 := conv_below hown1 rfl (by omega) (Below.refl _ _)
      have HO := Lib.hid hown1
      obtain ⟨Q, hQ⟩ : ∃ Q : ByteArray, Q = ⟨(le4 F).toArray⟩ := ⟨_, rfl⟩
      have hQs : Q.size ≤ 4 := by rw [hQ]; exact Nat.le_refl _
      rw [← hQ] at hc0 hpk
      have HQ := Lib.hid hQ
      clear hown1 hown hv hQ
      go_wp2_with fail
      go_region_with ((go_at_call 24; refine (cT _).mono ?_; rintro e w1 ⟨rfl, hb1⟩; have hc1 := conv_q HO.out HQ.out hb1))
      all_goals
        go_wp2_with fail
        go_ret
        exact ⟨by rw [← hpk.out]; rfl, below_call hb.drew hb1⟩

/-- A frame's error, as the document tells it. -/
theorem fr_e (s : ByteArray) : (∃ e, e ≠ 0 ∧ e ≤ 3 ∧ (rdT s).2.2 = e ∧ fr s = (⟨#[]⟩, 0, e)) ∨
    (∃ t n, rdT s = (t, n, 0) ∧ n ≤ s.size ∧ t.size ≤ s.size ∧ s.size - n < 4 ∧ fr s = (⟨#[]⟩, 0, 2)) ∨
    (∃ t n, rdT s = (t, n, 0) ∧ n + 4 ≤ s.size ∧ t.size ≤ s.size ∧ s.extract 0 (n + 4) ≠ pk t ∧ fr s = (⟨#[]⟩, 0, 6)) ∨
    (∃ t n, rdT s = (t, n, 0) ∧ n + 4 ≤ s.size ∧ t.size ≤ s.size ∧ s.extract 0 (n + 4) = pk t ∧ fr s = (t, n + 4, 0)) := by
  have key : ∀ t n, rdT s = (t, n, 0) → n ≤ s.size → t.size ≤ s.size →
      (s.size - n < 4 ∧ fr s = (⟨#[]⟩, 0, 2)) ∨ (n + 4 ≤ s.size ∧ s.extract 0 (n + 4) ≠ pk t ∧ fr s = (⟨#[]⟩, 0, 6)) ∨ (n + 4 ≤ s.size ∧ s.extract 0 (n + 4) = pk t ∧ fr s = (t, n + 4, 0)) := by
    intro t n h hn ht
    unfold fr
    rw [h, if_neg (fun h => h rfl)]
    simp only
    by_cases h1 : s.size - n < 4
    · rw [if_pos h1]; exact .inl ⟨h1, rfl⟩
    · rw [if_neg h1]
      by_cases h2 : s.extract 0 (n + 4) = pk t
      · rw [if_neg (fun h => h h2)]; exact .inr (.inr ⟨by omega, h2, rfl⟩)
      · rw [if_pos h2]; exact .inr (.inl ⟨by omega, h2, rfl⟩)
  rcases rdT_cases s with ⟨e, h0, h1, _, h3⟩ | ⟨x, m, _, _, _, _, h3⟩ | ⟨x, m, hu, hn, hx, h3⟩
  · left
    exact ⟨e, h0, h1, by rw [h3], by unfold fr; rw [h3, if_pos h0]⟩
  · left
    exact ⟨2, by omega, by omega, by rw [h3], by unfold fr; rw [h3, if_pos (by simp)]⟩
  · right
    have hs : (s.extract m (m + x)).size ≤ s.size := by simp; omega
    rcases key _ _ h3 (by omega) hs with ⟨a, b⟩ | ⟨a, b, c⟩ | ⟨a, b, c⟩
    · exact .inl ⟨_, _, h3, by omega, hs, a, b⟩
    · exact .inr (.inl ⟨_, _, h3, a, hs, b, c⟩)
    · exact .inr (.inr ⟨_, _, h3, a, hs, b, c⟩)

theorem bytes_ne {a b : ByteArray} (h : a ≠ b) : (a.toList == b.toList) = false := by
  rw [ByteArray.toList_eq, ByteArray.toList_eq]
  apply Bool.eq_false_iff.2
  intro hc
  exact h (ByteArray.ext (Array.toList_inj.1 (eq_of_beq hc)))

set_option maxRecDepth 100000 in
set_option maxHeartbeats 1000000 in
theorem refRead_any (s : ByteArray) (w : World) (hs : s.size ≤ 9223372036854775700) :
    Calls Try.prog 16 #[.string s] w fun e w' => e = .returned (.tuple #[.string (fr s).1, .int .i64 ((fr s).2.1 : Int), .int .i64 ((fr s).2.2 : Int)]) ∧ Below w.heap.size w w' := by
  have c := readText_any s w (by unfold maxLen; omega)
  rcases fr_e s with ⟨e, h0, h1, h2, h3⟩ | ⟨t, n, h, hn, ht, hlt, h3⟩ | ⟨t, n, h, hn, ht, hne, h3⟩ | ⟨t, n, h, hn, ht, heq, h3⟩
  · obtain ⟨t, n, e', h⟩ := trip (rdT s)
    rw [h] at c h2
    have h2' : e' = e := h2
    subst h2'
    rw [h3]
    have hne : ((e' : Int) == 0) = false := by simp; omega
    have hne' : (!((e' : Int) == 0)) = true := by simp; omega
    clear h h3 h2 h0
    go_enter Try.func16, Try.ntmps16
    go_wp2_with (go_at_call 28; refine c.mono ?_; rintro e w' ⟨rfl, rfl⟩)
    go_ret3
    exact ⟨rfl, Below.refl _ _⟩
  · rw [h] at c
    rw [h3]
    have hlt' : (s.size : Int) - n < 4 := by omega
    clear h h3
    go_enter Try.func16, Try.ntmps16
    go_wp2_with (go_at_call 28; refine c.mono ?_; rintro e w' ⟨rfl, rfl⟩)
    go_ret3
    exact ⟨rfl, Below.refl _ _⟩
  · rw [h] at c
    rw [h3]
    have cp := fun W => refPack_any t W (by omega)
    have hlt' : 4 ≤ (s.size : Int) - n := by omega
    have hw : IntKind.i64.wrap ((n : Int) + 4) = (n : Int) + 4 := IntWalk.i64_in _ (by omega)
    have hw2 : (n : Int) + 4 ≤ s.size := by omega
    have hx := bytes_ne hne
    obtain ⟨P, hP⟩ : ∃ P, P = pk t := ⟨_, rfl⟩
    rw [← hP] at cp hx
    clear h h3 hne hP
    go_enter Try.func16, Try.ntmps16
    go_wp2_with (go_at_call 28; refine c.mono ?_; rintro e w' ⟨rfl, rfl⟩)
    go_region_with ((go_at_call 12; refine (cp _).mono ?_; rintro e w1 ⟨rfl, hb1⟩))
    all_goals
      go_wp2_with fail
      go_ret3
      exact ⟨rfl, (Below.refl _ w).drew.trans hb1⟩
  · rw [h] at c
    rw [h3]
    have cp := fun W => refPack_any t W (by omega)
    have hlt' : 4 ≤ (s.size : Int) - n := by omega
    have hw : IntKind.i64.wrap ((n : Int) + 4) = (n : Int) + 4 := IntWalk.i64_in _ (by omega)
    have hw2 : (n : Int) + 4 ≤ s.size := by omega
    have hx : ((s.extract 0 (n + 4)).toList == (pk t).toList) = true := by rw [heq]; exact beq_self_eq_true _
    obtain ⟨P, hP⟩ : ∃ P, P = pk t := ⟨_, rfl⟩
    rw [← hP] at cp hx
    clear h h3 heq hP
    go_enter Try.func16, Try.ntmps16
    go_wp2_with (go_at_call 28; refine c.mono ?_; rintro e w' ⟨rfl, rfl⟩)
    go_region_with ((go_at_call 12; refine (cp _).mono ?_; rintro e w1 ⟨rfl, hb1⟩))
    all_goals
      go_wp2_with fail
      go_ret3
      exact ⟨rfl, (Below.refl _ w).drew.trans hb1⟩

end Go.Proofs.Ytihbibhmkpefgaa.Fr
