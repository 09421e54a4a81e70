/-
  DiffScripts: for every two lists of lines: the script, the pairs of places that are kept and the distance are the document's; lists that are handed in stay as they are, and what a call answers is new memory.
  It is said of the code of package diff as it landed, for every argument of the given row's domain, in the first form; the law returns true, and writes nothing that was there. No other condition.
-/
import Derived.Test.YtmlmgmodgcpkpaaT2
import Derived.Deep.QuietTactic
import Derived.BigQuiet
import Derived.ProofKit
import Derived.OpenShut
import Derived.ChangeOld
import Derived.Below
import Derived.JoinedCond
namespace Go.Proofs.Ytmlmgmodgcpkpaa.Ud
open Go.RowKit Tx Um Aq
set_option linter.unusedVariables false
def SameT (la lb : List ByteArray) (w : World) (e : Ending) (w' : World) : Prop := ∃ B, (B = true ↔ la = lb) ∧ e = .returned (.bool B) ∧ Below w.heap.size w w'
set_option maxRecDepth 100000 in
set_option maxHeartbeats 1000000 in
theorem same_any (A B : Option Addr) (ca cb : Nat) (a b : List ByteArray) (w : World) (hA : Strs w A a.length a) (hB : Strs w B b.length b) (hn : a.length ≤ 9223372036854775806) (hm : b.length ≤ 9223372036854775806) :
    Calls Try.prog 15 #[.slice A a.length ca, .slice B b.length cb] w (SameT a b w) := by
  have HAS := Lib.hid hA
  have HBS := Lib.hid hB
  obtain ⟨m, hm'⟩ : ∃ m, m = a.length := ⟨_, rfl⟩
  obtain ⟨n, hn'⟩ : ∃ n, n = b.length := ⟨_, rfl⟩
  rw [← hm'] at hn ⊢
  rw [← hn'] at hm ⊢
  have HM := Lib.hid hm'
  have HN := Lib.hid hn'
  clear hA hB hm' hn'
  by_cases hmn : m = n
  · have e0 : ((m : Int) == n) = true := beq_iff_eq.2 (by omega)
    have hmn' : (m : Int) = (n : Int) := by omega
    go_enter Try.func15, Try.ntmps15
    go_wp2_with fail
    go_loopw [5] (fun i wr => ∃ k : Nat, k ≤ m ∧ i = .int .i64 k ∧ Hid (a.take k = b.take k) ∧ Below w.heap.size w wr) (fun i _ => m - (intOf i).toNat)
    case atStart => exact ⟨0, Nat.zero_le _, rfl, rfl, Below.refl _ _⟩
    case round =>
      obtain ⟨k, hk, rfl, hT, hW⟩ := hrel
      by_cases hlt : k < m
      · have hka : k < a.length := by rw [← HM.out]; exact hlt
        have hkb : k < b.length := by rw [← HN.out]; omega
        obtain ⟨ba, oa, rfl, c1⟩ := strs_cell HAS.out hka hW
        obtain ⟨bb, ob, rfl, c2⟩ := strs_cell HBS.out hkb hW
        obtain ⟨S, hS⟩ : ∃ S, S = a[k] := ⟨_, rfl⟩
        obtain ⟨T, hT0⟩ : ∃ T, T = b[k] := ⟨_, rfl⟩
        rw [← hS] at c1
        rw [← hT0] at c2
        have hlt1 : (k : Int) < (m : Int) := by omega
        have hlt2 : (k : Int) < (n : Int) := by omega
        by_cases he : S = T
        · have e1 : (S.toList == T.toList) = true := by rw [he]; exact beq_self_eq_true _
          have HNX : Hid (a.take (k + 1) = b.take (k + 1)) := by
            show _ = _
            rw [List.take_succ_eq_append_getElem hka, List.take_succ_eq_append_getElem hkb, hT.out, ← hS, ← hT0, he]
          clear hS hT0 he hT hka hkb
          go_wp2_with fail
          go_quiet (fail)
          go_wp2_with fail
          go_roundw
          case rel => exact ⟨k + 1, by omega, by go_num, HNX, below_drewN hW _⟩
          case measure => simp [intOf]; omega
        · have e1 : (S.toList == T.toList) = false := bytes_ne he
          have HE : Hid (a ≠ b) := fun h => he (by subst h; rw [hS, hT0])
          clear hS hT0 he hT hka hkb
          go_wp2_with fail
          go_quiet (fail)
          go_wp2_with fail
          go_ret
          exact ⟨false, Iff.intro (fun h => by cases h) (fun h => absurd h HE.out), rfl, below_drewN hW _⟩
      · have hkm : k = m := by omega
        have h := hT.out
        rw [List.take_of_length_le (by rw [← HM.out]; omega), List.take_of_length_le (by rw [← HN.out]; omega)] at h
        have HE := Lib.hid h
        clear hT h
        go_wp2_with fail
        go_ret
        exact ⟨true, Iff.intro (fun _ => HE.out) (fun _ => rfl), rfl, hW⟩
  · have e0 : ((m : Int) == n) = false := beq_eq_false_iff_ne.2 (by omega)
    have HE : Hid (a ≠ b) := fun h => hmn (by rw [HM.out, HN.out, h])
    clear hmn
    go_enter Try.func15, Try.ntmps15
    go_wp2
    go_ret
    exact ⟨false, Iff.intro (fun h => by cases h) (fun h => absurd h HE.out), rfl, Below.refl _ _⟩
end Go.Proofs.Ytmlmgmodgcpkpaa.Ud

namespace Go.Proofs.Ytmlmgmodgcpkpaa.diffScripts
open Go.ChangeShapes Go.WideShapes Go.ChangeAt Go.RowKit Tx Um Ud Aq
set_option linter.unusedVariables false
theorem grown_below {B : Nat} {W w w1 : World} {e : TypeId} {s n : Nat} {v : Value} {xs : List Value} (hb : Below B W w) (hB : B ≤ w.heap.size) (hown : w.ownsRow B e s v n xs) (hg : w.grownBy w1 v.ownBlock) : Below B W w1 := hb.grown hg hB (fun k hk => (hown.lt k hk).1)
theorem none_made (w : World) : (w.alloc (.cells #[] 9)).ownsRow w.heap.size 9 1 (.slice (some ⟨w.heap.size, 0, none⟩) 0 0) ([] : List ByteArray).length (([] : List ByteArray).map sv) := made0 w
theorem none_below (w : World) : Below w.heap.size w (w.alloc (.cells #[] 9)) := (Below.refl _ w).alloc (Nat.le_refl _) _
theorem cop_form {w : World} {B : Nat} {v : Value} {l : List ByteArray} (h : w.ownsRow B 9 1 v (l.length + 1) (l.map sv ++ [sv SP])) : ∃ g cp, v = .slice (some ⟨g, 0, none⟩) (l.length + 1) cp ∧ Cop w B g cp l := by
  obtain ⟨g, cp, hv, _, _⟩ := h.form (by omega)
  subst hv
  refine ⟨g, cp, rfl, ⟨?_⟩⟩
  rw [List.map_append]
  exact h
theorem cop_keep {w w1 : World} {B g cp : Nat} {l : List ByteArray} (h : Cop w B g cp l) (hk : w1.heap[g]? = w.heap[g]?) : Cop w1 B g cp l :=
  ⟨own_stay h.own (fun q hq => by simp only [Value.ownBlock, Option.some.injEq] at hq; subst hq; exact hk)⟩
theorem prs_keep {w w1 : World} {a : Option Addr} {n : Nat} {l : List (Nat × Nat)} (h : PrsR w a n l) (hk : ∀ b off, a = some ⟨b, off, none⟩ → w1.heap[b]? = w.heap[b]?) (hs : w.heap.size ≤ w1.heap.size) : PrsR w1 a n l := by
  refine ⟨h.1, ?_⟩
  rcases h.2 with h0 | ⟨b, off, ha, hlt, hc⟩
  · exact .inl h0
  · exact .inr ⟨b, off, ha, Nat.lt_of_lt_of_le hlt hs, fun k x hx => ⟨cell_keep (hc k x hx).1 (hk b off ha), cell_keep (hc k x hx).2 (hk b off ha)⟩⟩
theorem prs_blk {E : TypeId} {w : World} {B n c : Nat} {a : Option Addr} {l : List (Nat × Nat)} (h : Prs E w B (.slice a n c) l) {b off : Nat} (ha : a = some ⟨b, off, none⟩) : B ≤ b ∧ b < w.heap.size := by
  subst ha
  exact h.lt b rfl
theorem _root_.Go.World.ownsRow.form2 {w : World} {B n c : Nat} {e : TypeId} {s : Nat} {a : Option Addr} {xs : List Value} (h : w.ownsRow B e s (.slice a n c) n xs) (hn : 0 < n) : ∃ g c', Value.slice a n c = .slice (some ⟨g, 0, none⟩) n c' ∧ B ≤ g ∧ g < w.heap.size := by
  rcases h.2 with ⟨h0, h1⟩ | ⟨g, cap, cur, hv, hg, hh, _⟩
  · omega
  · exact ⟨g, cap, hv, hg, (Array.getElem?_eq_some_iff.1 hh).1⟩
theorem any2_cells {w : World} {B g L c : Nat} {xs : List Value} (h : w.ownsRow B 37 2 (.slice (some ⟨g, 0, none⟩) L c) L xs) {q : Nat} (hq : q < L) : (∃ u, w.cell? ⟨g, q * 2, none⟩ = some u) ∧ ∃ u, w.cell? ⟨g, q * 2 + 1, none⟩ = some u := by
  have hl := h.1
  have h1 := h.cells (g := g) rfl (q * 2) _ (List.getElem?_eq_getElem (by omega))
  have h2 := h.cells (g := g) rfl (q * 2 + 1) _ (List.getElem?_eq_getElem (by omega))
  rw [WideShapes.add_plain, Nat.zero_add] at h1 h2
  exact ⟨⟨_, h1⟩, ⟨_, h2⟩⟩
theorem any2_frozen {w : World} {B g L c : Nat} {xs : List Value} (h : w.ownsRow B 37 2 (.slice (some ⟨g, 0, none⟩) L c) L xs) (k : Nat) : w.frozen? ⟨g, k, none⟩ = false := by
  rcases h.2 with ⟨h0, _⟩ | ⟨g', cap', cur, hv, _, hh, _⟩
  · cases h0
  · injection hv with hg
    injection hg with hg
    injection hg with hg
    subst hg
    simp [World.frozen?, hh]
def Any2 (w : World) (B g L c : Nat) : Prop := ∃ xs, w.ownsRow B 37 2 (.slice (some ⟨g, 0, none⟩) L c) L xs
theorem any2_store {w : World} {B g L c : Nat} (h : Any2 w B g L c) (k : Nat) (u : Value) : Any2 (w.setCell ⟨g, k, none⟩ u) B g L c := by
  obtain ⟨xs, h1, h2⟩ := h
  rcases h2 with ⟨h0, _⟩ | ⟨g', cap', cur, hv, hb, hh, hn, hc, hs, ht⟩
  · cases h0
  · injection hv with hg h3 h4
    injection hg with hg
    injection hg with hg
    subst hg
    subst h4
    refine ⟨(cur.setIfInBounds k u).toList.take (L * 2), ?_, .inr ⟨g, c, cur.setIfInBounds k u, rfl, hb, ?_, hn, hc, by simpa using hs, rfl⟩⟩
    · rw [List.length_take, Array.length_toList, Array.size_setIfInBounds, hs]
      omega
    · simp [World.setCell, Array.getElem?_modify, hh]
set_option maxRecDepth 100000 in
set_option maxHeartbeats 1000000 in
theorem walk (hM : Impl) (A B : Option Addr) (ca cb : Nat) (a b : List ByteArray) (w : World) (hA : Arg w A a.length ca a) (hB : Arg w B b.length cb b) :
    Calls Try.prog 3 #[.slice A a.length ca, .slice B b.length cb] w fun e w' => e = .returned (.bool true) ∧ Below w.heap.size w w' := by
  obtain ⟨i0, hi, hz0, hz1, hz2⟩ := info_parts info9
  obtain ⟨hA1, hA2, hA3, hza⟩ := hA
  obtain ⟨hB1, hB2, hB3, hzb⟩ := hB
  have cS := fun W A B p q h1 h2 => hM.script A B p q a b W h1 h2 hza hzb
  have cK := fun W A B p q h1 h2 => hM.kept A B p q a b W h1 h2 hza hzb
  have cD := fun W A B p q h1 h2 => hM.dist A B p q a b W h1 h2 hza hzb
  clear hza hzb
  have cRS := fun W h1 h2 => refScript_any A B ca cb a b W h1 h2
  have cRK := fun W h1 h2 => refKept_any A B ca cb a b W h1 h2
  unfold PrsTo at cS cK cRS cRK
  have hfar : far (scr a b) = dst a b := by
    cases h : lng a b
    · rw [scr_no h, dst_no h, far_dist]
    · rw [scr_yes h, dst_yes h]; rfl
  have hsl : (scr a b).length ≤ 800 ∧ (kep a b).length ≤ 800 ∧ dst a b ≤ 800 := by
    cases h : lng a b
    · obtain ⟨h1, h2⟩ := lng_small h
      have h3 := (makes a b).lens
      have h4 := runs_len (steps a b)
      have h5 := pairs_len (steps a b) 0 0
      have h6 := dist_eq a b
      rw [scr_no h, kep_no h, dst_no h]
      refine ⟨by omega, by omega, by omega⟩
    · rw [scr_yes h, kep_yes h, dst_yes h]; exact ⟨Nat.zero_le _, Nat.zero_le _, Nat.zero_le _⟩
  obtain ⟨s, hs⟩ : ∃ s, s = scr a b := ⟨_, rfl⟩
  obtain ⟨kp, hkp⟩ : ∃ kp, kp = kep a b := ⟨_, rfl⟩
  obtain ⟨d, hd⟩ : ∃ d, d = dst a b := ⟨_, rfl⟩
  obtain ⟨er, her⟩ : ∃ er, er = err a b := ⟨_, rfl⟩
  rw [← hs, ← hkp, ← hd] at hsl
  rw [← hs, ← hd] at hfar
  rw [← hs, ← her] at cS cRS
  rw [← hkp, ← her] at cK cRK
  rw [← hd, ← her] at cD
  obtain ⟨hsl1, hsl2, hd8⟩ := hsl
  obtain ⟨m, hm⟩ : ∃ m, m = a.length := ⟨_, rfl⟩
  obtain ⟨n, hn⟩ : ∃ n, n = b.length := ⟨_, rfl⟩
  rw [← hm] at hA3 cS cK cD cRS cRK ⊢
  rw [← hn] at hB3 cS cK cD cRS cRK ⊢
  obtain ⟨L, hL⟩ : ∃ L, L = s.length := ⟨_, rfl⟩
  obtain ⟨K, hK⟩ : ∃ K, K = kp.length := ⟨_, rfl⟩
  rw [← hL] at hsl1
  rw [← hK] at hsl2
  have HM := Lib.hid hm
  have HN := Lib.hid hn
  have HL := Lib.hid hL
  have HK := Lib.hid hK
  have HFAR := Lib.hid hfar
  have HA : Hid (Strs w A m a) := by show Strs w A m a; rw [HM.out]; exact hA1
  have HB : Hid (Strs w B n b) := by show Strs w B n b; rw [HN.out]; exact hB1
  have HA2 := Lib.hid hA2
  have HB2 := Lib.hid hB2
  have CS := Lib.hid cS
  have CK := Lib.hid cK
  have CD := Lib.hid cD
  have CRS := Lib.hid cRS
  have CRK := Lib.hid cRK
  have f0 : ((er : Int) == (er : Int)) = true := beq_self_eq_true _
  have f1 : ((d : Int) == (d : Int)) = true := beq_self_eq_true _
  clear hA1 hB1 hA2 hB2 hm hn hs hkp hd her hL hK hfar cS cK cD cRS cRK
  go_enter Try.func3, Try.ntmps3
  have hlit := none_made w
  have hlb := none_below w
  have hls : w.heap.size ≤ (w.alloc (.cells #[] 9)).heap.size := hlb.size
  go_wp2_with (at_builtin; refine wp_append_list rfl (.tmp 22) (.tmp 23) rfl w.heap.size rfl hlit rfl ((HA.out).below hlb) HA2.out (by show (0 + _) * 16 ≤ _; omega) hls (fun e => by cases e) ?_)
  intro v1 w1 ho1 hv1 hg1
  have hb1 := grown_below hlb hls hlit hg1
  have hs1 : w.heap.size ≤ w1.heap.size := hb1.size
  try rw [List.nil_append] at ho1
  clear hlit hlb hls hg1
  go_wp2_with (at_builtin; refine wpList_append_own _ rfl (.tmp 24) (.tmp 25) 22 rfl w.heap.size 9 i0 (.string ⟨#[]⟩) 1 16 Try.underlying22 hi hz0 hz1 hz2 rfl (by decide) _ _ _ rfl (ho1.alloc _) ⟨w1.heap.size, 0, none⟩ 1 1 [sv SP] rfl rfl ?d1 ?d2 ?d3 ?d4 ?d5 ?_)
  case d1 => exact cell_one_new _ _ _
  case d2 => exact sv_one [SP]
  case d3 => have k1 := HM.out; have k2 := HN.out; unfold maxLen; omega
  case d4 => have k1 := HM.out; have k2 := HN.out; omega
  case d5 => simp; omega
  intro v2 gxw ho2 hg2 _
  have gxb := below_step hb1 ho1 hg2
  obtain ⟨gx, gxp, rfl, gxc⟩ := cop_form ho2
  obtain ⟨gx1, gx2, gx3⟩ := gxc.cap
  clear ho1 hv1 hs1 hb1 ho2 hg2
  have hxm : (m : Int) ≤ (gxp : Int) := by have := HM.out; omega
  have hxm2 : (m : Int) + 1 ≤ (gxp : Int) := by have := HM.out; omega
  have hlit := none_made gxw
  have hlb := none_below gxw
  have hls : gxw.heap.size ≤ (gxw.alloc (.cells #[] 9)).heap.size := hlb.size
  go_wp2_with (at_builtin; refine wp_append_list rfl (.tmp 30) (.tmp 31) rfl gxw.heap.size rfl hlit rfl ((HB.out.below gxb).below hlb) HB2.out (by show (0 + _) * 16 ≤ _; omega) hls (fun e => by cases e) ?_)
  intro v1 w1 ho1 hv1 hg1
  have hb1 := grown_below hlb hls hlit hg1
  have hs1 : gxw.heap.size ≤ w1.heap.size := hb1.size
  try rw [List.nil_append] at ho1
  clear hlit hlb hls hg1
  go_wp2_with (at_builtin; refine wpList_append_own _ rfl (.tmp 32) (.tmp 33) 22 rfl gxw.heap.size 9 i0 (.string ⟨#[]⟩) 1 16 Try.underlying22 hi hz0 hz1 hz2 rfl (by decide) _ _ _ rfl (ho1.alloc _) ⟨w1.heap.size, 0, none⟩ 1 1 [sv SP] rfl rfl ?d1 ?d2 ?d3 ?d4 ?d5 ?_)
  case d1 => exact cell_one_new _ _ _
  case d2 => exact sv_one [SP]
  case d3 => have k1 := HM.out; have k2 := HN.out; unfold maxLen; omega
  case d4 => have k1 := HM.out; have k2 := HN.out; omega
  case d5 => simp; omega
  intro v2 gyw ho2 hg2 _
  have gyb := below_step hb1 ho1 hg2
  obtain ⟨gy, gyp, rfl, gyc⟩ := cop_form ho2
  obtain ⟨gy1, gy2, gy3⟩ := gyc.cap
  clear ho1 hv1 hs1 hb1 ho2 hg2
  have hym : (n : Int) ≤ (gyp : Int) := by have := HN.out; omega
  have hym2 : (n : Int) + 1 ≤ (gyp : Int) := by have := HN.out; omega
  have x0 := gxc.below gyb
  have hB0 : Below w.heap.size w gyw := gxb.trans (gyb.mono gxb.size)
  have hxy : gx ≠ gy := by have := gxc.cap; omega
  have hsx := gxb.size
  have hsxy := gyb.size
  clear gxc gxb gyb
  have sx0 : Strs gyw (some ⟨gx, 0, none⟩) m a := by have := x0.strs; rwa [← HM.out] at this
  have sy0 : Strs gyw (some ⟨gy, 0, none⟩) n b := by have := gyc.strs; rwa [← HN.out] at this
  go_wp2_with fail
  go_at_call 7
  refine (CS.out _ _ _ _ _ sx0 sy0).mono ?_
  rintro e w3 ⟨v3, rfl, hp3, hb3⟩
  obtain ⟨sa, sc, rfl, _⟩ := hp3.form
  rw [← HL.out] at hp3 ⊢
  have HSB : Hid (∀ b off, sa = some ⟨b, off, none⟩ → gyw.heap.size ≤ b ∧ b < w3.heap.size) := fun b off h => prs_blk (n := L) (by rw [HL.out] at hp3 ⊢; exact hp3) h
  have x3 := x0.below hb3
  have y3 := gyc.below hb3
  have hB3' := below_call hB0 hb3
  clear x0 gyc hb3 sx0 sy0
  go_wp2_with fail
  go_at_call 8
  refine (CRS.out _ (HA.out.below hB3') (HB.out.below hB3')).mono ?_
  rintro e w4 ⟨v4, rfl, hp4, hb4⟩
  obtain ⟨ta, tc, rfl, _⟩ := hp4.form
  rw [← HL.out] at hp4 ⊢
  have x4 := x3.below hb4
  have y4 := y3.below hb4
  have s4 := hp3.below hb4
  have hB4 := below_call hB3' hb4
  have hsz34 := hb4.size
  clear x3 y3 hb4 hp3 hB3'
  have sx4 : Strs w4 (some ⟨gx, 0, none⟩) m a := by have := x4.strs; rwa [← HM.out] at this
  have sy4 : Strs w4 (some ⟨gy, 0, none⟩) n b := by have := y4.strs; rwa [← HN.out] at this
  go_wp2_with fail
  go_at_call 9
  refine (CK.out _ _ _ _ _ sx4 sy4).mono ?_
  rintro e w5 ⟨v5, rfl, hp5, hb5⟩
  obtain ⟨ka, kc, rfl, k5⟩ := hp5.form
  rw [← HK.out] at k5 ⊢
  have x5 := x4.below hb5
  have y5 := y4.below hb5
  have s5 := s4.below hb5
  have t5 := hp4.below hb5
  have hB5 := below_call hB4 hb5
  have hsz45 := hb5.size
  clear x4 y4 hb5 hp4 s4 hB4 hp5 sx4 sy4
  go_wp2_with fail
  go_at_call 10
  refine (CRK.out _ (HA.out.below hB5) (HB.out.below hB5)).mono ?_
  rintro e w6 ⟨v6, rfl, hp6, hb6⟩
  obtain ⟨la, lc, rfl, l6⟩ := hp6.form
  rw [← HK.out] at l6 ⊢
  have x6 := x5.below hb6
  have y6 := y5.below hb6
  have s6 := s5.below hb6
  have t6 := t5.below hb6
  have k6 := k5.below hb6
  have hB6 := below_call hB5 hb6
  have hsz56 := hb6.size
  clear x5 y5 hb6 s5 t5 k5 hB5 hp6
  have sx6 : Strs w6 (some ⟨gx, 0, none⟩) m a := by have := x6.strs; rwa [← HM.out] at this
  have sy6 : Strs w6 (some ⟨gy, 0, none⟩) n b := by have := y6.strs; rwa [← HN.out] at this
  go_wp2_with fail
  go_at_call 11
  refine (CD.out _ _ _ _ _ sx6 sy6).mono ?_
  rintro e w7 ⟨rfl, hb7⟩
  have x7 := x6.below hb7
  have y7 := y6.below hb7
  have s7 := s6.below hb7
  have t7 := t6.below hb7
  have k7 := k6.below hb7
  have l7 := l6.below hb7
  have hB7 := below_call hB6 hb7
  have hsz67 := hb7.size
  clear x6 y6 hb7 s6 t6 k6 l6 hB6 sx6 sy6
  obtain ⟨ta', tc', htv, tr7⟩ := t7.form
  injection htv with ht1 ht2 ht3
  subst ht1
  subst ht3
  rw [← HL.out] at tr7
  obtain ⟨sa', sc', hsv, sr7⟩ := s7.form
  injection hsv with hs1 hs2 hs3
  subst hs1
  subst hs3
  rw [← HL.out] at sr7
  clear ht2 hs2
  go_wp2_with fail
  go_loop [17, 18] (fun x i => ∃ k : Nat, k ≤ L ∧ i = .int .i64 k ∧ x = .int .i64 (far (s.take k) : Nat)) (fun _ i => L - (intOf i).toNat)
  case atStart => exact ⟨0, Nat.zero_le _, rfl, rfl⟩
  case round =>
    obtain ⟨k, hk, rfl, rfl⟩ := hrel
    have hfl := far_le s k
    rw [HFAR.out] at hfl
    by_cases hlt : k < L
    · have e1 : (k : Int) < (L : Int) := by omega
      obtain ⟨bt, ot, rfl, hbt, hc⟩ := tr7.2.resolve_left (by omega)
      obtain ⟨p, hp⟩ : ∃ p, s[k]? = some p := ⟨_, List.getElem?_eq_getElem (by rw [← HL.out]; exact hlt)⟩
      obtain ⟨d1, d2⟩ := hc k p hp
      have hft := far_take s k p hp
      have hfl2 := far_le s (k + 1)
      rw [HFAR.out] at hfl2
      obtain ⟨F1, hF1⟩ : ∃ F1, F1 = far (s.take k) := ⟨_, rfl⟩
      obtain ⟨F2, hF2⟩ : ∃ F2, F2 = far (s.take (k + 1)) := ⟨_, rfl⟩
      rw [← hF1] at hft hfl ⊢
      rw [← hF2] at hft hfl2
      have HF2 := Lib.hid hF2
      obtain ⟨x, N⟩ := p
      unfold iv at d1 d2
      simp only at d1 d2 hft
      clear hc hp hF1 hF2 tr7 t7
      by_cases hx : x = 0
      · rw [if_pos hx] at hft
        have q0 : ((x : Int) == 0) = true := beq_iff_eq.2 (by omega)
        have q1 : (x == 0) = true := beq_iff_eq.2 hx
        clear hx
        go_wp2_with fail
        go_round
        case rel => exact ⟨k + 1, by omega, by go_num, by rw [← HF2.out, hft]; rfl⟩
        case measure => simp only [intOf]; omega
      · rw [if_neg hx] at hft
        have q0 : ((x : Int) == 0) = false := beq_eq_false_iff_ne.2 (by omega)
        have q1 : (x == 0) = false := beq_eq_false_iff_ne.2 hx
        clear hx
        go_wp2_with fail
        go_round
        case rel => exact ⟨k + 1, by omega, by go_num, by rw [← HF2.out, hft] <;> first | rfl | go_num⟩
        case measure => simp only [intOf]; omega
    · have e1 : ¬ (k : Int) < (L : Int) := by omega
      obtain rfl : k = L := by omega
      rw [HL.out, List.take_length, HFAR.out]
      rw [← HL.out]
      clear hfl hlt hk e1
      go_wp2_with fail
      go_at_call 12
      refine (awake_any12 hM _).mono ?_
      rintro e w8 ⟨rfl, hb8⟩
      have x8 := x7.below hb8
      have y8 := y7.below hb8
      have s8 := s7.below hb8
      have t8 := t7.below hb8
      have tr8 := tr7.below hb8
      have sr8 := sr7.below hb8
      have k8 := k7.below hb8
      have l8 := l7.below hb8
      have hB8 := below_call hB7 hb8
      have hsz78 := hb8.size
      clear x7 y7 hb8 s7 t7 k7 l7 hB7 tr7 sr7
      go_wp2_with fail
      go_at_call 13
      refine (sameEdits_true _ _ k _ _ s _ sr8 tr8 (by omega)).mono ?_
      rintro e w9 ⟨rfl, hb9⟩
      have x9 := x8.below hb9
      have y9 := y8.below hb9
      have s9 := s8.below hb9
      have t9 := t8.below hb9
      have tr9 := tr8.below hb9
      have k9 := k8.below hb9
      have l9 := l8.below hb9
      have hB9 := below_call hB8 hb9
      have hsz89 := hb9.size
      clear x8 y8 hb9 s8 t8 k8 l8 hB8 tr8 sr8
      go_wp2_with fail
      go_at_call 14
      refine (samePairs_true _ _ K _ _ kp _ k9 l9 (by omega)).mono ?_
      rintro e wx ⟨rfl, hbx⟩
      have xx := x9.below hbx
      have yx := y9.below hbx
      have sx := s9.below hbx
      have tx := t9.below hbx
      have trx := tr9.below hbx
      have hBx := below_call hB9 hbx
      have hsz9x := hbx.size
      clear x9 y9 hbx s9 t9 k9 l9 hB9 tr9
      have sxx : Strs wx (some ⟨gx, 0, none⟩) m a := by have := xx.strs; rwa [← HM.out] at this
      have syx : Strs wx (some ⟨gy, 0, none⟩) n b := by have := yx.strs; rwa [← HN.out] at this
      go_wp2_with fail
      go_at_call 7
      refine (CS.out _ _ _ _ _ sxx syx).mono ?_
      rintro e wu ⟨vu, rfl, hpu, hbu⟩
      obtain ⟨ua, uc, rfl, ur⟩ := hpu.form
      rw [← HL.out] at ur ⊢
      have xu := xx.below hbu
      have yu := yx.below hbu
      have su := sx.below hbu
      have tu := tx.below hbu
      have tru := trx.below hbu
      have hBu := below_call hBx hbu
      have hszxu := hbu.size
      have hszu := hBu.size
      clear xx yx hbu sx tx hBx trx sxx syx
      by_cases hk0 : k = 0
      · subst hk0
        have xK := xu
        have yK := yu
        have uK := ur
        have tK := tru
        have hBz := hBu
        clear xu yu ur tru hBu su tu hpu
        go_wp2_with fail
        go_loop [21] (fun i => i = .int .i64 0) (fun _ => 0)
        case atStart => exact rfl
        case round =>
          obtain rfl := hrel
          have hxs := xK.strs
          have hxp := xK.spare
          have hyp := yK.spare
          rw [← HM.out] at hxs hxp
          rw [← HN.out] at hyp
          go_wp2_with fail
          go_at_call 13
          refine (sameEdits_true _ _ 0 _ _ s _ uK tK (by omega)).mono ?_
          rintro e wA ⟨rfl, hbA⟩
          have hA9 := HA.out.below (below_call hBz hbA)
          have hB9 := HB.out.below (below_call hBz hbA)
          have hBA := below_call hBz hbA
          go_wp2_with fail
          go_at_call 15
          refine (same_true _ _ m _ _ a _ (by omega) (hxs.below hbA) hA9).mono ?_
          rintro e wB ⟨rfl, hbB⟩
          have hBB := below_call hBA hbB
          have hyB := (yK.strs.below hbA).below hbB
          rw [← HN.out] at hyB
          go_wp2_with fail
          go_at_call 15
          refine (same_true _ _ n _ _ b _ (by omega) hyB (hB9.below hbB)).mono ?_
          rintro e wC ⟨rfl, hbC⟩
          have hBC := below_call hBB hbC
          have hABC := below_call (below_call hbA hbB) hbC
          have k1 := (hABC.cell (p := ⟨gx, m, none⟩) (by have := (xK.cap).2.2; exact this)).trans hxp
          have k2 := (hABC.cell (p := ⟨gy, n, none⟩) (by have := (yK.cap).2.2; exact this)).trans hyp
          clear hxs hxp hyp hyB hA9 hB9 hBA hBB hABC hbA hbB hbC uK tK xK yK
          go_wp2_with fail
          go_ret
          exact ⟨rfl, hBC⟩
      · have hkp : 0 < k := by omega
        have su' : wu.ownsRow gyw.heap.size 37 2 (.slice sa k sc) k (s.flatMap Ud.c2) := by
          have h := su
          unfold Prs at h
          rw [← HL.out] at h
          exact h
        obtain ⟨gs, cs, hv, _, _⟩ := su'.form2 hkp
        injection hv with hv1 hv2 hv3
        subst hv1
        subst hv3
        obtain ⟨hgs1, hgs2⟩ := HSB.out gs 0 rfl
        have hany : Any2 wu w.heap.size gs k sc := ⟨_, own_base su' (by omega)⟩
        have tb : ∀ b off, ta = some ⟨b, off, none⟩ → w3.heap.size ≤ b := fun b off h => (prs_blk tu h).1
        have ub : ∀ b off, ua = some ⟨b, off, none⟩ → wx.heap.size ≤ b := fun b off h => (prs_blk hpu h).1
        have HTB := Lib.hid tb
        have HUB := Lib.hid ub
        have HX := Lib.hid xu
        have HY := Lib.hid yu
        have HU := Lib.hid ur
        have HT := Lib.hid tru
        have HSTART := Lib.hid hany
        clear su su' tu hpu tb ub xu yu ur tru hany hv2
        go_wp2_with fail
        go_loopw [21] (fun i wz => ∃ q : Nat, q ≤ k ∧ i = .int .i64 q ∧ Hid (Any2 wz w.heap.size gs k sc) ∧ Hid (∀ j, j ≠ gs → wz.heap[j]? = wu.heap[j]?) ∧ wz.heap.size = wu.heap.size ∧ Below w.heap.size w wz) (fun i _ => k - (intOf i).toNat)
        case atStart => exact ⟨0, Nat.zero_le _, rfl, HSTART, fun _ _ => rfl, rfl, hBu⟩
        case round =>
          obtain ⟨q, hq, rfl, HANY, HKEEP, hwz, hBz⟩ := hrel
          clear HSTART hBu
          by_cases hlt : q < k
          · have e1 : (q : Int) < (k : Int) := by omega
            obtain ⟨xs, hxs⟩ := HANY.out
            obtain ⟨⟨u1, h1⟩, ⟨u2, h2⟩⟩ := any2_cells hxs hlt
            have hfz := any2_frozen hxs (q * 2)
            have hfz2 := any2_frozen hxs (q * 2 + 1)
            clear hxs
            go_wp2_with fail
            refine ⟨⟨q + 1, by omega, by go_num, any2_store (any2_store HANY.out _ _) _ _, fun j hj => (Below.heap_setCell _ ⟨gs, q * 2 + 1, none⟩ _ j hj).trans ((Below.heap_setCell _ ⟨gs, q * 2, none⟩ _ j hj).trans (HKEEP.out j hj)), by rw [show ((wr.setCell ⟨gs, q * 2, none⟩ (Value.int .i64 7)).setCell ⟨gs, q * 2 + 1, none⟩ (Value.int .i64 0)).heap.size = wr.heap.size by simp [World.setCell]]; exact hwz, (hBz.setCell (p := ⟨gs, q * 2, none⟩) (by show w.heap.size ≤ gs; omega) _).setCell (p := ⟨gs, q * 2 + 1, none⟩) (by show w.heap.size ≤ gs; omega) _⟩, ?_⟩
            simp only [intOf]
            omega
          · have e1 : ¬ (q : Int) < (k : Int) := by omega
            have xc := (HX.out).cap
            have yc := (HY.out).cap
            have xK := cop_keep HX.out (HKEEP.out gx (by omega))
            have yK := cop_keep HY.out (HKEEP.out gy (by omega))
            have uK := prs_keep HU.out (fun b off h => HKEEP.out b (by have := HUB.out b off h; omega)) (by omega)
            have tK := prs_keep HT.out (fun b off h => HKEEP.out b (by have := HTB.out b off h; omega)) (by omega)
            clear xc yc HANY HKEEP HX HY HU HT
            have hxs := xK.strs
            have hxp := xK.spare
            have hyp := yK.spare
            rw [← HM.out] at hxs hxp
            rw [← HN.out] at hyp
            go_wp2_with fail
            go_at_call 13
            refine (sameEdits_true _ _ k _ _ s _ uK tK (by omega)).mono ?_
            rintro e wA ⟨rfl, hbA⟩
            have hA9 := HA.out.below (below_call hBz hbA)
            have hB9 := HB.out.below (below_call hBz hbA)
            have hBA := below_call hBz hbA
            go_wp2_with fail
            go_at_call 15
            refine (same_true _ _ m _ _ a _ (by omega) (hxs.below hbA) hA9).mono ?_
            rintro e wB ⟨rfl, hbB⟩
            have hBB := below_call hBA hbB
            have hyB := (yK.strs.below hbA).below hbB
            rw [← HN.out] at hyB
            go_wp2_with fail
            go_at_call 15
            refine (same_true _ _ n _ _ b _ (by omega) hyB (hB9.below hbB)).mono ?_
            rintro e wC ⟨rfl, hbC⟩
            have hBC := below_call hBB hbC
            have hABC := below_call (below_call hbA hbB) hbC
            have k1 := (hABC.cell (p := ⟨gx, m, none⟩) (by have := (xK.cap).2.2; exact this)).trans hxp
            have k2 := (hABC.cell (p := ⟨gy, n, none⟩) (by have := (yK.cap).2.2; exact this)).trans hyp
            clear hxs hxp hyp hyB hA9 hB9 hBA hBB hABC hbA hbB hbC uK tK xK yK
            go_wp2_with fail
            go_ret
            exact ⟨rfl, hBC⟩
theorem own : ownKnob Try.prog.godebug = none := by kernel_rfl
theorem laidOut : laidOutB Try.prog = true := by kernel_rfl
set_option maxRecDepth 100000 in
theorem contract (hM : Impl) (H : Type) (enc : TypeId × Value → H) (W : World) (base : Nat) (args : Array Value) (ds gs : List (DataW H)) (before : List MemPlace)
    (hval0 : ∀ (j : Nat) t v, Try.f3.params[j]? = some t → args[j]? = some v → Value.okWide Try.prog W .any base t v)
    (hW : DataW.Whole enc Try.prog Try.f3.params.toList Rows.diffScriptsSpec.vars false W args.toList ds gs before)
    (hsz0 : (DataW.weightsEach Try.prog (Try.f3.params.toList ++ Rows.diffScriptsSpec.plain.varTypes Try.prog) (ds ++ gs)).all (· ≤ reachBytes) = true) :
    Calls Try.prog 3 args W fun e W' => ∃ v, e = .returned v ∧ Rows.diffScriptsSpec.post enc Try.prog Try.f3 false true false false W args v W' := by
  have hval : ∀ (j : Nat) t v, Try.f3.params[j]? = some t → args[j]? = some v → Value.okWide Try.prog W .any base t v := hval0
  have hsz := hsz0
  clear hsz0
  have hW' := hW
  obtain ⟨p, q, hA0, hV, rfl, hfz, hnd⟩ := hW
  have hA : DataW.TrodAll enc Try.prog W 0 (fun _ => true) true Try.f3.params.toList args.toList ds p := hA0
  rw [Try.params3] at hA hval hsz
  obtain ⟨v0, vs0, d0, ds0, p0, q0, hargs, rfl, rfl, h0, r0⟩ := trodAll_cons hA
  obtain ⟨v1, vs1, d1, ds1, p1, q1, rfl, rfl, rfl, h1, r1⟩ := trodAll_cons r0
  obtain ⟨rfl, rfl, rfl⟩ := trodAll_nil r1
  obtain rfl : args = #[v0, v1] := by cases args; simp_all
  obtain ⟨rfl, rfl⟩ := trodVars_none hV
  obtain ⟨A0, n0, c0, rfl⟩ := okWide_slice Try.underlying22 (hval 0 22 v0 rfl rfl)
  have k0 := h0
  have lt0 : ∀ x ∈ p0, x.block < W.heap.size := by obtain ⟨m, hm⟩ := k0; exact DataW.trod_lt m _ _ _ hm
  obtain ⟨A1, n1, c1, rfl⟩ := okWide_slice Try.underlying22 (hval 1 22 v1 rfl rfl)
  have k1 := h1
  have lt1 : ∀ x ∈ p1, x.block < W.heap.size := by obtain ⟨m, hm⟩ := k1; exact DataW.trod_lt m _ _ _ hm
  clear hA0 hval0
  obtain ⟨l0, hl0⟩ := arg_list h0 (j := 0) hsz rfl rfl
  obtain ⟨l1, hl1⟩ := arg_list h1 (j := 1) hsz rfl rfl
  have e0 := hl0.1.1
  have e1 := hl1.1.1
  subst e0
  subst e1
  refine (walk hM A0 A1 c0 c1 l0 l1 W hl0 hl1).mono fun e W' ⟨he, bel⟩ => ?_
  subst he
  exact ⟨_, rfl, _, _, _, [], _, [], hW', trodAll_mk1 (shut_bool Try.underlying4 _), (trodAll_cons_mk (Below.trod laidOut (by kernel_rfl) (of_decide_eq_true (by kernel_rfl)) k0 bel lt0) (trodAll_cons_mk (Below.trod laidOut (by kernel_rfl) (of_decide_eq_true (by kernel_rfl)) k1 bel lt1) trodAll_mk0)), rfl, bel.frame _, fun h => by cases h⟩
set_option maxRecDepth 100000 in
theorem lifted (hM : Impl) (os : Os) (started : os.Started) (H : Type) (enc : TypeId × Value → H) :
    ReturnsInHanded {} Try.checked os 3 .any (Rows.diffScriptsSpec.pre6 enc Try.prog Try.f3 Rows.diffScriptsRow.domain false) (Rows.diffScriptsSpec.post enc Try.prog Try.f3 false true false false) := by
  refine returnsInHanded_of_change_sized (C := Try.checked) own started (by kernel_rfl) Try.func3
    (ChangeSpec.witness6 (enc := enc) (C := Try.checked) false ⟨#[], #[.slice none 0 0, .slice none 0 0], []⟩ 8 (by kernel_rfl) (by kernel_rfl) (by kernel_rfl) (by kernel_rfl)) ?_
  intro W base args ds gs before hval0 hW _ hsz0 _
  exact contract hM H enc W base args ds gs before hval0 hW hsz0
theorem over (hM : Impl) : Rows.diffScriptsRow.holds Try.pinned (OpenSpec.ofChange Rows.diffScriptsSpec) :=
  OpenClaim.holds_of_wide 3 Try.f3 rfl rfl rfl rfl rfl rfl rfl ⟨rfl, rfl, rfl, rfl, rfl⟩ rfl rfl rfl rfl rfl (by kernel_rfl) Try.func3 (by kernel_rfl)
    (of_decide_eq_true (by kernel_rfl)) (by unfold Func.isWrapper; first | (rw [if_pos (by decide +kernel)]; kernel_rfl) | (rw [if_neg (by decide +kernel)]; exact ⟨rfl, rfl⟩))
    (fun os started H enc _ => lifted hM os started H enc)
end Go.Proofs.Ytmlmgmodgcpkpaa.diffScripts

namespace Go.Proofs.Ytmlmgmodgcpkpaa
theorem diffScripts_holds : Rows.DiffScriptsSaid := diffScripts.over Ud.impl
#print axioms diffScripts_holds
end Go.Proofs.Ytmlmgmodgcpkpaa
