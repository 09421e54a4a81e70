/- What the document's own Put answers: contract. -/
import Derived.Test.YthokkobmlhbfgaaEnts6
import Derived.Test.YthokkobmlhbfgaaEnts4
import Derived.Deep.Cut
namespace Go.Proofs.Ythokkobmlhbfgaa.En
open Go.RowKit Tx Pm Pr
set_option linter.unusedVariables false

/-- Without what stands at p. -/
def tdel (l : List Et) (p : ByteArray) : List Et := l.filter (fun x => !decide (x.path = p))
theorem tdel_take (l : List Et) (p : ByteArray) (k : Nat) (x : Et) (h : l[k]? = some x) : tdel (l.take (k + 1)) p = tdel (l.take k) p ++ (if x.path = p then [] else [x]) := by
  obtain ⟨hk, he⟩ := List.getElem?_eq_some_iff.1 h
  rw [List.take_succ_eq_append_getElem hk, he, tdel, List.filter_append, List.filter_cons, List.filter_nil]
  by_cases hp : x.path = p
  · rw [if_pos hp, if_neg (by simp [hp])]; rfl
  · rw [if_neg hp, if_pos (by simp [hp])]; rfl
def putList (l : List Et) (p : ByteArray) (n : Nd) : List Et := tsort (tdel l p ++ if n.kind = 0 then [] else [⟨p, n⟩])
/-- Put's error. -/
def putCode (l : List Et) (p : ByteArray) (n : Nd) : Nat :=
  if chk p.data.toList 5 ≠ 0 then 10
  else if whole n = false then 1
  else if (n.kind = 0 ∧ (tget l p).kind = 0) ∨ (n.kind ≠ 0 ∧ tb (par p.data.toList) ≠ ⟨#[]⟩ ∧ (tget l (tb (par p.data.toList))).kind ≠ 1) then 11
  else if n.kind ≠ 1 ∧ 1 < (tsub l p).length then 12
  else if n.kind ≠ 0 ∧ (tget l p).kind = 0 ∧ 200 ≤ l.length then 4
  else 0
/-- Put. -/
def tput (l : List Et) (p : ByteArray) (n : Nd) : List Et × Nat := (if putCode l p n = 0 then putList l p n else [], putCode l p n)
theorem tput_bad {l : List Et} {p : ByteArray} {n : Nd} {e : Nat} (h : putCode l p n = e) (he : e ≠ 0) : tput l p n = ([], e) := by
  rw [tput, h, if_neg he]
theorem tput_good {l : List Et} {p : ByteArray} {n : Nd} (h : putCode l p n = 0) : tput l p n = (putList l p n, 0) := by
  rw [tput, h, if_pos rfl]
def PairTo (r : List Et × Nat) (w : World) (e : Ending) (w' : World) : Prop := ∃ v, e = .returned (.tuple #[v, .int .i64 (r.2 : Int)]) ∧ Own w' w.heap.size v r.1 ∧ Below w.heap.size w w'
theorem pair_nil {w w' : World} {r : List Et × Nat} {e : Nat} {E : Ending} (h : r = ([], e)) (hE : E = .returned (.tuple #[.slice none 0 0, .int .i64 (e : Int)])) (hB : Below w.heap.size w w') : PairTo r w E w' := by
  subst h
  exact ⟨_, hE, World.ownsRow_nil _ _ _ _, hB⟩

theorem grow_below2 {w0 w w1 : World} {B C n : Nat} {v : Value} {xs : List Value} (hBC : B ≤ C) (hb : Below B w0 w) (hs : B ≤ w.heap.size) (h : w.ownsRow C 51 3 v n xs) (hg : w.grownBy w1 v.ownBlock) : Below B w0 w1 :=
  hb.grown hg hs (fun k hk => Nat.le_trans hBC (h.lt k hk).1)
theorem bool_t {c : Prop} [Decidable c] (h : c) : Value.bool true = .bool (decide c) := by rw [decide_eq_true h]
theorem bool_f {c : Prop} [Decidable c] (h : ¬ c) : Value.bool false = .bool (decide c) := by rw [decide_eq_false h]

set_option maxRecDepth 100000 in
set_option maxHeartbeats 4000000 in
theorem refPut_any (a : Option Addr) (n c : Nat) (l : List Et) (p : ByteArray) (nd : Nd) (w : World) (hl : Ents w a n l) (hn : n ≤ 1000000000) (hs : Small l) (hp : p.size ≤ 8000000000000) (hd : nd.data.size ≤ 9223372036854775807) :
    Calls Try.prog 28 #[.slice a n c, .string p, nv nd] w (PairTo (tput l p nd) w) := by
  obtain ⟨i0, hi, hz0, hz1, hz2⟩ := info_parts infoE
  have hln := hl.1
  have cc := fun W => refCheck_any p 5 W (by omega) (by omega) (by omega)
  have cw := fun W => refWhole_any nd W hd
  have cg := fun W (h : Below w.heap.size w W) => refGet_any a n c l p W (hl.below h) (by omega)
  have cp := fun W => refParent_any p W (by omega)
  have cg2 := fun W (h : Below w.heap.size w W) => refGet_any a n c l (tb (par p.data.toList)) W (hl.below h) (by omega)
  have cs := fun W (h : Below w.heap.size w W) => refSub_any a n c l p W (hl.below h) (by omega) (fun x hx => by have := (hs x hx).1; omega) (by omega)
  obtain ⟨K, D⟩ := nd
  have hbx : ∀ W, Below (w.alloc (.cells #[.int .i64 K, .string D] 24)).heap.size (w.alloc (.cells #[.int .i64 K, .string D] 24)) W → W.cell? ⟨w.heap.size, 0, none⟩ = some (.int .i64 K) ∧ W.cell? ⟨w.heap.size, 1, none⟩ = some (.string D) := by
    intro W h
    constructor
    · rw [h.cell (p := ⟨w.heap.size, 0, none⟩) (by simp)]; go_simp
    · rw [h.cell (p := ⟨w.heap.size, 1, none⟩) (by simp)]; go_simp
  have hbw : ∀ W, Below (w.alloc (.cells #[.int .i64 K, .string D] 24)).heap.size (w.alloc (.cells #[.int .i64 K, .string D] 24)) W → Below w.heap.size w W := fun W h => ((Below.refl _ w).alloc (Nat.le_refl _) _).trans (h.mono (by simp))
  have HX := Lib.hid hbx
  have HW := Lib.hid hbw
  have HL := Lib.hid hl
  clear hbx hbw hl
  rw [show nv ⟨K, D⟩ = .agg #[.int .i64 K, .string D] from rfl] at cw ⊢
  by_cases hchk : chk p.data.toList 5 ≠ 0
  · have hr := tput_bad (n := ⟨K, D⟩) (l := l) (show putCode l p ⟨K, D⟩ = 10 by rw [putCode, if_pos hchk]) (by decide)
    have e1 : (((chk p.data.toList 5 : Nat) : Int) == 0) = false := beq_eq_false_iff_ne.2 (by omega)
    have e2 : (!(((chk p.data.toList 5 : Nat) : Int) == 0)) = true := by rw [e1]; rfl
    clear hchk
    go_enter Try.func28, Try.ntmps28
    go_wp2_with fail
    go_at_call 31
    refine (cc _).mono ?_
    rintro e w1 ⟨rfl, hb1⟩
    go_wp2_with fail
    go_ret2
    exact pair_nil hr rfl (HW.out _ hb1)
  have hchk0 : chk p.data.toList 5 = 0 := by omega
  rw [hchk0] at cc
  by_cases hwh : whole ⟨K, D⟩ = false
  · have hr := tput_bad (n := ⟨K, D⟩) (l := l) (show putCode l p ⟨K, D⟩ = 1 by rw [putCode, if_neg hchk, if_pos hwh]) (by decide)
    rw [hwh] at cw
    clear hchk
    go_enter Try.func28, Try.ntmps28
    go_wp2_with fail
    go_at_call 31
    refine (cc _).mono ?_
    rintro e w1 ⟨rfl, hb1⟩
    obtain ⟨k1, k2⟩ := HX.out _ hb1
    go_wp2_with fail
    go_at_call 13
    refine (cw _).mono ?_
    rintro e w2 ⟨rfl, hb2⟩
    go_wp2_with fail
    go_ret2
    exact pair_nil hr rfl (HW.out _ (hb1.trans (hb2.mono hb1.size)))
  have hwh2 := hwh
  rw [Bool.not_eq_false] at hwh
  rw [hwh] at cw
  have hpc : putCode l p ⟨K, D⟩ = (if (K = 0 ∧ (tget l p).kind = 0) ∨ (K ≠ 0 ∧ tb (par p.data.toList) ≠ ⟨#[]⟩ ∧ (tget l (tb (par p.data.toList))).kind ≠ 1) then 11
    else if K ≠ 1 ∧ 1 < (tsub l p).length then 12
    else if K ≠ 0 ∧ (tget l p).kind = 0 ∧ 200 ≤ l.length then 4
    else 0) := by
    rw [putCode, if_neg hchk, if_neg hwh2]
  unfold nv at cg cg2
  obtain ⟨G, hG⟩ : ∃ G, G = (tget l p).kind := ⟨_, rfl⟩
  obtain ⟨G2, hG2⟩ : ∃ G2, G2 = (tget l p).data := ⟨_, rfl⟩
  rw [← hG] at hpc cg
  rw [← hG2] at cg
  obtain ⟨N, hN⟩ : ∃ N, N = (tget l (tb (par p.data.toList))).kind := ⟨_, rfl⟩
  obtain ⟨N2, hN2⟩ : ∃ N2, N2 = (tget l (tb (par p.data.toList))).data := ⟨_, rfl⟩
  rw [← hN] at hpc cg2
  rw [← hN2] at cg2
  obtain ⟨U, hU⟩ : ∃ U, U = tb (par p.data.toList) := ⟨_, rfl⟩
  rw [← hU] at hpc cg2 cp
  obtain ⟨S, hS⟩ : ∃ S, S = (tsub l p).length := ⟨_, rfl⟩
  rw [← hS] at hpc
  have HPC := Lib.hid hpc
  have hfd : ∀ (a : Int) (d : ByteArray) (w : World), (Instr.field 24 (.agg #[.int .i64 a, .string d]) 0).run Try.prog w = .ok (.int .i64 a) w := fun _ _ _ => by kernel_rfl
  clear hchk hwh2 hwh hG hG2 hN hN2 hU hpc hchk0
  have HS := Lib.hid hS
  clear hS
  go_enter Try.func28, Try.ntmps28
  go_wp2_with fail
  go_at_call 31
  refine (cc _).mono ?_
  rintro e w1 ⟨rfl, hb1⟩
  obtain ⟨k1, k2⟩ := HX.out _ hb1
  go_wp2_with fail
  go_at_call 13
  refine (cw _).mono ?_
  rintro e w2 ⟨rfl, hb2'⟩
  have hb2 := hb1.trans (hb2'.mono hb1.size)
  clear hb1 hb2' k1 k2
  go_wp2_with fail
  go_at_call 17
  refine (cg _ (HW.out _ hb2)).mono ?_
  rintro e w3 ⟨rfl, hb3'⟩
  have hb3 := hb2.trans (hb3'.mono hb2.size)
  clear hb2 hb3'
  go_upto_region 7 with (go_at_call 33; refine (cp _).mono ?_; rintro e w4 ⟨rfl, rfl⟩)
  go_cut [8, 47] from 12 to 100 (fun hv cv wq => hv = .bool (G != 0) ∧ cv = .bool (decide ((K = 0 ∧ G = 0) ∨ (K ≠ 0 ∧ U ≠ ⟨#[]⟩ ∧ N ≠ 1))) ∧ Below (w.alloc (.cells #[.int .i64 K, .string D] 24)).heap.size (w.alloc (.cells #[.int .i64 K, .string D] 24)) wq)
  case first =>
    obtain ⟨k1, k2⟩ := HX.out _ hb3
    by_cases hK : K = 0
    · have eK : ((K : Int) == 0) = true := by simp [hK]
      have eK2 : ((K : Int) != 0) = false := by simp [hK]
      by_cases hG : G = 0
      · have HQ := Lib.hid (show ((K = 0 ∧ G = 0) ∨ (K ≠ 0 ∧ U ≠ ⟨#[]⟩ ∧ N ≠ 1)) from .inl ⟨hK, hG⟩)
        have eG : ((G : Int) != 0) = false := by simp [hG]
        clear hK hG
        go_wp2_with fail
        go_meet
        exact ⟨rfl, bool_t HQ.out, hb3⟩
      · have eG : ((G : Int) != 0) = true := by simp [hG]
        have HQ := Lib.hid (show ¬ ((K = 0 ∧ G = 0) ∨ (K ≠ 0 ∧ U ≠ ⟨#[]⟩ ∧ N ≠ 1)) from fun h => h.elim (fun h => hG h.2) (fun h => h.1 hK))
        clear hK hG
        go_wp2_with fail
        go_meet
        exact ⟨by rw [eG], bool_f HQ.out, hb3⟩
    · have eK : ((K : Int) == 0) = false := beq_eq_false_iff_ne.2 hK
      have eK2 : ((K : Int) != 0) = true := by simp [hK]
      by_cases hUe : U = ⟨#[]⟩
      · have eU := is_empty hUe
        have HQ := Lib.hid (show ¬ ((K = 0 ∧ G = 0) ∨ (K ≠ 0 ∧ U ≠ ⟨#[]⟩ ∧ N ≠ 1)) from fun h => h.elim (fun h => hK h.1) (fun h => h.2.1 hUe))
        clear hK hUe
        go_wp2_with fail
        go_meet
        exact ⟨rfl, bool_f HQ.out, hb3⟩
      · have eU := not_empty hUe
        by_cases hN : N = 1
        · have eN3 : ((N : Int) != 1) = false := by simp [hN]
          have eN4 : ((N : Int) == 1) = true := by simp [hN]
          have HQ := Lib.hid (show ¬ ((K = 0 ∧ G = 0) ∨ (K ≠ 0 ∧ U ≠ ⟨#[]⟩ ∧ N ≠ 1)) from fun h => h.elim (fun h => hK h.1) (fun h => h.2.2 hN))
          clear hK hN hUe
          go_wp2_with fail
          go_at_call 17
          refine (cg2 _ (HW.out _ hb3)).mono ?_
          rintro e w5 ⟨rfl, hb4'⟩
          have hb4 := hb3.trans (hb4'.mono hb3.size)
          go_wp2_with fail
          go_meet
          exact ⟨rfl, bool_f HQ.out, hb4⟩
        · have eN3 : ((N : Int) != 1) = true := by simp [hN]
          have eN4 : ((N : Int) == 1) = false := by simp [hN]
          have HQ := Lib.hid (show ((K = 0 ∧ G = 0) ∨ (K ≠ 0 ∧ U ≠ ⟨#[]⟩ ∧ N ≠ 1)) from .inr ⟨hK, hUe, hN⟩)
          clear hK hN hUe
          go_wp2_with fail
          go_at_call 17
          refine (cg2 _ (HW.out _ hb3)).mono ?_
          rintro e w5 ⟨rfl, hb4'⟩
          have hb4 := hb3.trans (hb4'.mono hb3.size)
          go_wp2_with fail
          go_meet
          exact ⟨rfl, bool_t HQ.out, hb4⟩
  case rest =>
    clear hb3
    obtain ⟨rfl, rfl, hb3⟩ := hcut
    by_cases hc1 : ((K = 0 ∧ G = 0) ∨ (K ≠ 0 ∧ U ≠ ⟨#[]⟩ ∧ N ≠ 1))
    · have hr := tput_bad (n := ⟨K, D⟩) (l := l) (show putCode l p ⟨K, D⟩ = 11 by rw [HPC.out, if_pos hc1]) (by decide)
      rw [decide_eq_true hc1]
      clear hc1
      go_wp2_with fail
      go_ret2
      exact pair_nil hr rfl (HW.out _ hb3)
    have hpc := HPC.out
    rw [if_neg hc1] at hpc
    have HPC2 := Lib.hid hpc
    rw [decide_eq_false hc1]
    clear hpc HPC hc1
    go_upto_region 9 with fail
    go_cut [57] from 12 to 100 (fun cv wq => cv = .bool (decide (K ≠ 1 ∧ 1 < S)) ∧ Below (w.alloc (.cells #[.int .i64 K, .string D] 24)).heap.size (w.alloc (.cells #[.int .i64 K, .string D] 24)) wq)
    case first =>
      obtain ⟨k1, k2⟩ := HX.out _ hb3
      by_cases hK : K = 1
      · have eK : ((K : Int) == 1) = true := by simp [hK]
        have eK2 : ((K : Int) != 1) = false := by simp [hK]
        have HQ := Lib.hid (show ¬ (K ≠ 1 ∧ 1 < S) from fun h => h.1 hK)
        clear hK
        go_wp2_with fail
        go_meet
        exact ⟨bool_f HQ.out, hb3⟩
      · have eK : ((K : Int) == 1) = false := by simp [hK]
        have eK2 : ((K : Int) != 1) = true := by simp [hK]
        have HQ := Lib.hid (show (K ≠ 1 ∧ 1 < S) ↔ (1 : Int) < (S : Int) from ⟨fun h => by have := h.2; omega, fun h => ⟨hK, by omega⟩⟩)
        clear hK
        go_wp2_with fail
        go_at_call 19
        refine (cs _ (HW.out _ hb3)).mono ?_
        rintro e w5 ⟨v5, rfl, ho5, hb4'⟩
        have hb4 := hb3.trans (hb4'.mono hb3.size)
        obtain ⟨a5, c5, rfl, _, _, _⟩ := Own.form ho5
        rw [← HS.out]
        clear ho5 hb4'
        go_wp2_with fail
        go_meet
        exact ⟨congrArg Value.bool (decide_eq_decide.2 HQ.out.symm), hb4⟩
    case rest =>
      clear hb3
      obtain ⟨rfl, hb3⟩ := hcut
      by_cases hc2 : (K ≠ 1 ∧ 1 < S)
      · have hr := tput_bad (n := ⟨K, D⟩) (l := l) (show putCode l p ⟨K, D⟩ = 12 by rw [HPC2.out, if_pos hc2]) (by decide)
        rw [decide_eq_true hc2]
        clear hc2
        go_wp2_with fail
        go_ret2
        exact pair_nil hr rfl (HW.out _ hb3)
      have hpc := HPC2.out
      rw [if_neg hc2] at hpc
      have HPC3 := Lib.hid hpc
      rw [decide_eq_false hc2]
      clear hpc HPC2 hc2
      go_upto_region 11 with fail
      go_cut [69] from 12 to 100 (fun cv wq => cv = .bool (decide (K ≠ 0 ∧ G = 0 ∧ 200 ≤ n)) ∧ Below (w.alloc (.cells #[.int .i64 K, .string D] 24)).heap.size (w.alloc (.cells #[.int .i64 K, .string D] 24)) wq)
      case first =>
        obtain ⟨k1, k2⟩ := HX.out _ hb3
        by_cases hK : K = 0
        · have eK2 : ((K : Int) != 0) = false := by simp [hK]
          have HQ := Lib.hid (show ¬ (K ≠ 0 ∧ G = 0 ∧ 200 ≤ n) from fun h => h.1 hK)
          clear hK
          go_wp2_with fail
          go_meet
          exact ⟨bool_f HQ.out, hb3⟩
        · have eK2 : ((K : Int) != 0) = true := by simp [hK]
          by_cases hG : G = 0
          · have eG : ((G : Int) != 0) = false := by simp [hG]
            have HQ := Lib.hid (show (K ≠ 0 ∧ G = 0 ∧ 200 ≤ n) ↔ (200 : Int) ≤ (n : Int) from ⟨fun h => by have := h.2.2; omega, fun h => ⟨hK, hG, by omega⟩⟩)
            clear hK hG
            go_wp2_with fail
            go_meet
            exact ⟨congrArg Value.bool (decide_eq_decide.2 HQ.out.symm), hb3⟩
          · have eG : ((G : Int) != 0) = true := by simp [hG]
            have HQ := Lib.hid (show ¬ (K ≠ 0 ∧ G = 0 ∧ 200 ≤ n) from fun h => hG h.2.1)
            clear hK hG
            go_wp2_with fail
            go_meet
            exact ⟨bool_f HQ.out, hb3⟩
      case rest =>
        clear hb3
        obtain ⟨rfl, hb3⟩ := hcut
        by_cases hc3 : (K ≠ 0 ∧ G = 0 ∧ 200 ≤ n)
        · have hr := tput_bad (n := ⟨K, D⟩) (l := l) (show putCode l p ⟨K, D⟩ = 4 by rw [HPC3.out, if_pos (by rw [hln]; exact hc3)]) (by decide)
          rw [decide_eq_true hc3]
          clear hc3
          go_wp2_with fail
          go_ret2
          exact pair_nil hr rfl (HW.out _ hb3)
        have hr := tput_good (n := ⟨K, D⟩) (l := l) (show putCode l p ⟨K, D⟩ = 0 by rw [HPC3.out, if_neg (by rw [hln]; exact hc3)])
        have HR := Lib.hid hr
        rw [decide_eq_false hc3]
        clear hr HPC3 hc3
        have hlw := HL.out
        go_upto_block 0 with fail
        go_cut [10, 11] from 12 to 100 (fun v _ wq => Own wq (w.heap.size + 1) v (tdel l p) ∧ (tdel l p).length ≤ n ∧ Below (w.alloc (.cells #[.int .i64 K, .string D] 24)).heap.size (w.alloc (.cells #[.int .i64 K, .string D] 24)) wq)
        case first =>
          by_cases h0 : n = 0
          · subst h0
            obtain rfl : l = [] := List.length_eq_zero_iff.1 hln
            clear hlw
            go_wp2_with fail
            go_loop [10, 11] (fun v i => i = .int .i64 0 ∧ v = .slice none 0 0) (fun _ _ => 0)
            case atStart => exact ⟨rfl, rfl⟩
            case round =>
              obtain ⟨rfl, rfl⟩ := hrel
              go_wp2_with fail
              go_meet
              exact ⟨World.ownsRow_nil _ _ _ _, Nat.le_refl _, hb3⟩
          · obtain ⟨b, off, rfl, hb, hc⟩ := hlw.2.resolve_left h0
            have HC := Lib.hid hc
            clear hc h0 hlw
            have HE0 := Lib.hid hln
            clear hln
            go_wp2_with fail
            go_loopw [10, 11] (fun v i wr => ∃ (k : Nat) (out : List Et), k ≤ n ∧ i = .int .i64 k ∧ Hid (out = tdel (l.take k) p) ∧ out.length ≤ k ∧ Own wr (w.heap.size + 1) v out ∧ Below (w.alloc (.cells #[.int .i64 K, .string D] 24)).heap.size (w.alloc (.cells #[.int .i64 K, .string D] 24)) wr) (fun _ i _ => n - (intOf i).toNat)
            case atStart => exact ⟨0, [], Nat.zero_le _, rfl, rfl, Nat.le_refl _, World.ownsRow_nil _ _ _ _, hb3⟩
            case round =>
              obtain ⟨k, out, hk, rfl, hT, hlen, hown, hB⟩ := hrel
              clear hb3
              by_cases hlt : k < n
              · obtain ⟨x, hx⟩ : ∃ x, l[k]? = some x := ⟨_, List.getElem?_eq_getElem (by rw [HE0.out]; exact hlt)⟩
                obtain ⟨c1, c2, c3⟩ := HC.out k x hx
                have hBw := HW.out _ hB
                have d1 := (hBw.cell (p := ⟨b, _, none⟩) hb).trans c1
                have d2 := (hBw.cell (p := ⟨b, _, none⟩) hb).trans c2
                have d3 := (hBw.cell (p := ⟨b, _, none⟩) hb).trans c3
                have hnx := tdel_take l p k x hx
                rw [← hT.out] at hnx
                obtain ⟨P, X, Y⟩ := x
                simp only at d1 d2 d3 hnx
                have hsz : w.heap.size + 1 ≤ wr.heap.size := by have := hB.size; simpa using this
                by_cases hpp : P = p
                · rw [if_pos hpp, List.append_nil] at hnx
                  have e : (P.toList == p.toList) = true := by rw [hpp]; exact beq_self_eq_true _
                  have e' : (P.toList != p.toList) = false := by rw [hpp]; simp
                  have HN := Lib.hid hnx.symm
                  clear hnx hpp hT hx c1 c2 c3 hBw
                  go_wp2_with fail
                  go_roundw
                  case rel => exact ⟨k + 1, out, by omega, by go_num, HN, by omega, hown, hB⟩
                  case measure => simp [intOf]; omega
                · rw [if_neg hpp] at hnx
                  have e := bytes_ne hpp
                  have e' : (P.toList != p.toList) = true := by unfold bne; rw [e]; rfl
                  have HN := Lib.hid hnx
                  clear hnx hpp hT hx c1 c2 c3 hBw
                  unfold Own at hown
                  go_wp2_with (at_builtin; refine wpList_append_own _ rfl _ _ 22 rfl (w.heap.size + 1) 51 i0 (.agg #[.string ⟨#[]⟩, .int .i64 0, .string ⟨#[]⟩]) 3 40 Try.underlying22 hi hz0 hz1 hz2 rfl (by decide) _ _ _ rfl (hown.alloc _) ⟨wr.heap.size, 0, none⟩ 1 1 [.string P, .int .i64 X, .string Y] rfl rfl ?c1 ?c2 ?c3 ?c4 ?c5 ?_)
                  case c1 => exact cell_three_new _ _ _ _ _
                  case c2 => exact cells_one ⟨P, X, Y⟩
                  case c3 => unfold maxLen; omega
                  case c4 => omega
                  case c5 => simp; omega
                  intro v' w2 hown' hgrow _
                  have hb5 := grow_below2 (by simp) (hB.alloc hB.size _) (hB.alloc hB.size _).size (hown.alloc _) hgrow
                  have ht2 : Own w2 (w.heap.size + 1) v' (out ++ [⟨P, X, Y⟩]) := by
                    unfold Own
                    rw [List.length_append, List.flatMap_append]
                    exact hown'
                  clear hown hown' hgrow hB
                  go_wp2_with fail
                  go_roundw
                  case rel => exact ⟨k + 1, _, by omega, by go_num, HN.out.symm, by simp; omega, ht2, hb5⟩
                  case measure => simp [intOf]; omega
              · obtain rfl : k = n := by omega
                have h := hT.out
                rw [List.take_of_length_le (by rw [HE0.out]; omega)] at h
                subst h
                clear hT
                go_wp2_with fail
                go_meet
                exact ⟨hown, hlen, hB⟩
        case rest =>
          clear hb3
          obtain ⟨hown, hlen, hB⟩ := hcut
          obtain ⟨k1, k2⟩ := HX.out _ hB
          have hsz : w.heap.size + 1 ≤ wc.heap.size := by have := hB.size; simpa using this
          by_cases hK : K = 0
          · have eK2 : ((K : Int) != 0) = false := by simp [hK]
            have hput : putList l p ⟨K, D⟩ = tsort (tdel l p) := by rw [putList, if_pos hK, List.append_nil]
            have HPU := Lib.hid hput
            obtain ⟨a5, c5, hv5, he5, _, _⟩ := Own.form hown
            subst hv5
            have cso := refSort_any a5 (tdel l p).length c5 (tdel l p) wc he5 (by omega)
            obtain ⟨n5, hn5⟩ : ∃ n5, n5 = (tdel l p).length := ⟨_, rfl⟩
            rw [← hn5] at cso
            rw [← hn5]
            clear hput hK hown he5 hn5 hlen
            go_wp2_with fail
            go_at_call 43
            refine cso.mono ?_
            rintro e w6 ⟨v6, rfl, ho6, hb6⟩
            go_wp2_with fail
            go_ret2
            exact ⟨v6, by rw [HR.out]; rfl, by rw [HR.out, HPU.out]; exact row_base ho6 (Nat.le_trans (HW.out _ (Below.refl _ _)).size hB.size), HW.out _ (hB.trans (hb6.mono hB.size))⟩
          · have eK2 : ((K : Int) != 0) = true := by simp [hK]
            have hput : putList l p ⟨K, D⟩ = tsort (tdel l p ++ [⟨p, ⟨K, D⟩⟩]) := by rw [putList, if_neg hK]
            have HPU := Lib.hid hput
            clear hput hK
            obtain ⟨out, hout⟩ : ∃ out, out = tdel l p := ⟨_, rfl⟩
            rw [← hout] at hown hlen HPU
            clear hout
            unfold Own at hown
            go_wp2_with (at_builtin; refine wpList_append_own _ rfl _ _ 22 rfl (w.heap.size + 1) 51 i0 (.agg #[.string ⟨#[]⟩, .int .i64 0, .string ⟨#[]⟩]) 3 40 Try.underlying22 hi hz0 hz1 hz2 rfl (by decide) _ _ _ rfl (hown.alloc _) ⟨wc.heap.size, 0, none⟩ 1 1 [.string p, .int .i64 K, .string D] rfl rfl ?c1 ?c2 ?c3 ?c4 ?c5 ?_)
            case c1 => exact cell_three_new _ _ _ _ _
            case c2 => exact cells_one ⟨p, ⟨K, D⟩⟩
            case c3 => unfold maxLen; omega
            case c4 => omega
            case c5 => simp; omega
            intro v' w2 hown' hgrow _
            have hb5 := grow_below2 (by simp) (hB.alloc hB.size _) (hB.alloc hB.size _).size (hown.alloc _) hgrow
            have ht2 : Own w2 (w.heap.size + 1) v' (out ++ [⟨p, ⟨K, D⟩⟩]) := by
              unfold Own
              rw [List.length_append, List.flatMap_append]
              exact hown'
            clear hown hown' hgrow
            have hl5 : (out ++ [(⟨p, ⟨K, D⟩⟩ : Et)]).length ≤ 1000000000000 := by rw [List.length_append]; simp; omega
            obtain ⟨O2, hO2⟩ : ∃ O2, O2 = out ++ [(⟨p, ⟨K, D⟩⟩ : Et)] := ⟨_, rfl⟩
            rw [← hO2] at ht2 hl5 HPU
            obtain ⟨a5, c5, hv5, he5, _, _⟩ := Own.form ht2
            subst hv5
            have cso := refSort_any a5 O2.length c5 O2 w2 he5 hl5
            obtain ⟨n5, hn5⟩ : ∃ n5, n5 = O2.length := ⟨_, rfl⟩
            rw [← hn5] at cso
            rw [← hn5]
            clear ht2 he5 hO2 hl5 hn5
            go_wp2_with fail
            go_at_call 43
            refine cso.mono ?_
            rintro e w6 ⟨v6, rfl, ho6, hb6⟩
            go_wp2_with fail
            go_ret2
            exact ⟨v6, by rw [HR.out]; rfl, by rw [HR.out, HPU.out]; exact row_base ho6 (Nat.le_trans (HW.out _ (Below.refl _ _)).size hb5.size), HW.out _ (hb5.trans (hb6.mono hb5.size))⟩
end Go.Proofs.Ythokkobmlhbfgaa.En
