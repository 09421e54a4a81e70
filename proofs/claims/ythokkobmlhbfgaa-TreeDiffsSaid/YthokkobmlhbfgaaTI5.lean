/- What Check answers: contract. -/
import Derived.Test.YthokkobmlhbfgaaTI4
import Derived.Deep.RegionWith
namespace Go.Proofs.Ythokkobmlhbfgaa.En
open Go.RowKit Tx Pm Pr
set_option linter.unusedVariables false

set_option maxRecDepth 100000 in
set_option maxHeartbeats 4000000 in
theorem tCheck_any (a : Option Addr) (n c : Nat) (l : List Et) (w : World) (hl : Ents w a n l) (hcap : n ≤ c) (hcm : c ≤ 9223372036854775807) (hn : n ≤ 1000000000) (hs : Small l) :
    Calls Try.prog 10 #[.slice a n c] w fun e w' => e = .returned (.int .i64 (tcheck l : Nat)) ∧ Below w.heap.size w w' := by
  have hln := hl.1
  by_cases hbig : 200 < n
  · have e : tcheck l = 4 := by rw [tcheck, if_pos (by omega)]
    rw [e]
    clear e hln hl
    go_enter Try.func10, Try.ntmps10
    go_wp2
    go_ret
    exact ⟨rfl, Below.refl _ _⟩
  by_cases h0 : n = 0
  · subst h0
    obtain rfl : l = [] := List.length_eq_zero_iff.1 hln
    have e : tcheck [] = 0 := rfl
    rw [e]
    clear hl hs e hbig
    go_enter Try.func10, Try.ntmps10
    go_wp2
    go_loop [10] (fun i => i = .int .i64 0) (fun _ => 0)
    case atStart => exact rfl
    case round =>
      obtain rfl := hrel
      go_wp2
      go_ret
      exact ⟨rfl, Below.refl _ _⟩
  have hE : Hid (Ents w a n l) := hl
  obtain ⟨b, off, rfl, hb, hc⟩ := hl.2.resolve_left h0
  have HC := Lib.hid hc
  have HS := Lib.hid hs
  have HBAD := Lib.hid (fun i x (hx : l[i]? = some x) (hf : fol (l.take i) x = false) => check_bad hx hf (by omega))
  have HGOOD := Lib.hid (fun h : fols l l.length => fols_check h (by omega))
  obtain ⟨T, hT⟩ : ∃ T, T = tcheck l := ⟨_, rfl⟩
  rw [← hT] at HBAD HGOOD
  rw [← hT]
  clear hc h0 hs hT hl
  go_enter Try.func10, Try.ntmps10
  go_wp2_with fail
  go_loopw [10] (fun i wr => ∃ k : Nat, k ≤ n ∧ i = .int .i64 k ∧ Hid (fols l k) ∧ Below w.heap.size w wr) (fun i _ => n - (intOf i).toNat)
  case atStart => exact ⟨0, Nat.zero_le _, rfl, (fun i x hi _ => absurd hi (Nat.not_lt_zero _)), Below.refl _ _⟩
  case round =>
    obtain ⟨k, hk, rfl, hgood, hB⟩ := hrel
    by_cases hlt : k < n
    · obtain ⟨x, hx⟩ : ∃ x, l[k]? = some x := ⟨_, List.getElem?_eq_getElem (by omega)⟩
      obtain ⟨c1, c2, c3⟩ := HC.out k x hx
      have hxs := HS.out x (List.mem_of_getElem? hx)
      have hri := Lib.hid (fols_rise (by omega) hgood.out)
      have cf := fun W (hW : Below w.heap.size w W) => follows_any (some ⟨b, off, none⟩) k c (l.take k) x W ((hE.out.below hW).take (by omega)) hri.out (by omega) hxs
      have hbad := HBAD.out k x hx
      have hnext := fun hf => fols_next hgood.out hx hf
      have d1 := (hB.cell (p := ⟨b, _, none⟩) hb).trans c1
      have d2 := (hB.cell (p := ⟨b, _, none⟩) hb).trans c2
      have d3 := (hB.cell (p := ⟨b, _, none⟩) hb).trans c3
      obtain ⟨F, hF⟩ : ∃ F, F = fol (l.take k) x := ⟨_, rfl⟩
      rw [← hF] at cf hbad hnext
      obtain ⟨P, K, D⟩ := x
      unfold ev at cf
      simp only at d1 d2 d3 cf
      have hltz : (k : Int) < (n : Int) := by omega
      have hkc : k ≤ c := by omega
      clear c1 c2 c3 hx hxs hF hgood hln
      cases F with
      | true =>
        have HN := Lib.hid (hnext rfl)
        clear hnext hbad
        go_wp2_with fail
        have hB2 := hB.alloc hB.size (.cells #[.string P, .int .i64 K, .string D] 51)
        go_region_with (go_at_call 32; refine (cf _ hB2.drew).mono ?_; rintro e w2 ⟨rfl, hb2⟩)
        all_goals
          have hB3 := below_call hB2.drew hb2
          go_wp2_with fail
          go_roundw
          case rel => exact ⟨k + 1, by omega, by go_num, HN, hB3⟩
          case measure => simp [intOf]; omega
      | false =>
        have hT := hbad rfl
        subst hT
        clear hnext hbad
        go_wp2_with fail
        have hB2 := hB.alloc hB.size (.cells #[.string P, .int .i64 K, .string D] 51)
        go_region_with (go_at_call 32; refine (cf _ hB2.drew).mono ?_; rintro e w2 ⟨rfl, hb2⟩)
        all_goals
          have hB3 := below_call hB2.drew hb2
          go_wp2_with fail
          go_ret
          exact ⟨rfl, hB3⟩
    · obtain rfl : k = n := by omega
      have hT := HGOOD.out (fun i x hi hx => hgood.out i x (by omega) hx)
      subst hT
      clear hgood hln
      go_wp2_with fail
      go_ret
      exact ⟨rfl, hB⟩
end Go.Proofs.Ythokkobmlhbfgaa.En
