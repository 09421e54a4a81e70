/-
  DiskApart: a call of a disk of package disk changes nothing at any path but those that it names (a restart aside): the law returns true, and writes nothing that was there.
  Condition: what it reads is of bulk at most 1048576 (the second form: in the first form it is false for size alone).
-/
import Derived.Test.YtcbnpdognadilaaGreatQ5
import Derived.JoinedCond
import Derived.SizedLaws
import Derived.ChangeOld
import Derived.Deep.CondSized
/- One disk beside the document's: what a step and the reads do to them. -/
namespace Go.Proofs.YtcbnpdognadilaaGreat.Dk
open Go.RowKit Tx Pm
set_option linter.unusedVariables false

variable {O : Nat → World → (Nat → Prop) → St → Prop}
/-- A pair of disks in one state, the call's own. -/
def One (O : Nat → World → (Nat → Prop) → St → Prop) (W0 : World) (bd bw : Nat) (s : St) (W : World) : Prop :=
  ∃ Fd Fw : Nat → Prop, Pair (O bd) (RefAt bw) W Fd Fw s ∧ (∀ i, Fd i ∨ Fw i → W0.heap.size ≤ i) ∧ Below W0.heap.size W0 W
theorem One.own {W0 W : World} {bd bw : Nat} {s : St} (h : One O W0 bd bw s W) : Below W0.heap.size W0 W := by
  obtain ⟨_, _, _, _, hb⟩ := h
  exact hb
theorem One.below (hI : Impl O) {W0 W W1 : World} {bd bw : Nat} {s : St} (h : One O W0 bd bw s W) (hb : Below W.heap.size W W1) : One O W0 bd bw s W1 := by
  obtain ⟨Fd, Fw, h1, h4, hb0⟩ := h
  exact ⟨Fd, Fw, pair_below (hI.works bd).kind (ref_kind bw) h1 hb, h4, below_call hb0 hb⟩
theorem one_does (hI : Impl O) {W0 W W1 : World} {bd bw : Nat} {s : St} {i T : Nat} (h : One O W0 bd bw s W) (hb1 : Below W.heap.size W W1) (far : Far s i T) (K M : Int) (P Q : ByteArray) (hP : P.size ≤ 1048576) (hQ : Q.size ≤ 1048576) (hM : -9223372036854775808 ≤ M ∧ M ≤ 9223372036854775807) :
    Calls Tryz.prog 8 #[.pointer (some ⟨bd, 0, none⟩), .pointer (some ⟨bw, 0, none⟩), .agg #[.int .i64 K, .string P, .string Q, .int .i64 M]] W1 fun e w' => e = .returned (.bool true) ∧ One O W0 bd bw (stepS s K P Q M) w' := by
  obtain ⟨Fd, Fw, h1, h4, hb⟩ := h
  have p1 := pair_below (hI.works bd).kind (ref_kind bw) h1 hb1
  refine (does_any _ bw (hI.works bd) (fun M h hf hM => hI.arm bd M h hf hM) W1 p1 far K M P Q hP hQ hM).mono fun e w' he => ⟨he.1, ?_⟩
  obtain ⟨Fd', Fw', p2, hc, n1, n2⟩ := he.2
  have hs : W0.heap.size ≤ W1.heap.size := (below_call hb hb1).size
  refine ⟨Fd', Fw', p2, fun i hi => ?_, (below_call hb hb1).trans (below_chg hc (fun i hi => h4 i hi) hs)⟩
  rcases hi with hi | hi
  · rcases n1 i hi with h | h
    · exact h4 i (.inl h)
    · omega
  · rcases n2 i hi with h | h
    · exact h4 i (.inr h)
    · omega
theorem one_read (hI : Impl O) {W0 W : World} {bd bw : Nat} {s : St} {i T : Nat} (h : One O W0 bd bw s W) (far : Far s i T) (P : ByteArray) (hP : P.size ≤ 1048576) :
    Calls Tryz.prog 11 #[.pointer (some ⟨bd, 0, none⟩), .string P] W fun e w' => e = .returned (.tuple #[.string (readS s P).1, .int .i64 ((readS s P).2 : Nat)]) ∧ One O W0 bd bw s w' := by
  have h' := h
  obtain ⟨Fd, Fw, h1, h4, hb⟩ := h
  exact ((hI.reads bd).read P h1.1 far hP).mono fun e w' he => ⟨he.1, One.below hI h' he.2⟩
theorem one_kind (hI : Impl O) {W0 W : World} {bd bw : Nat} {s : St} {i T : Nat} (h : One O W0 bd bw s W) (far : Far s i T) (P : ByteArray) (hP : P.size ≤ 1048576) :
    Calls Tryz.prog 12 #[.pointer (some ⟨bd, 0, none⟩), .string P] W fun e w' => e = .returned (.int .i64 (kind s.L P : Nat)) ∧ One O W0 bd bw s w' := by
  have h' := h
  obtain ⟨Fd, Fw, h1, h4, hb⟩ := h
  exact ((hI.reads bd).kind P h1.1 far hP).mono fun e w' he => ⟨he.1, One.below hI h' he.2⟩
theorem one_stamp (hI : Impl O) {W0 W : World} {bd bw : Nat} {s : St} {i T : Nat} (h : One O W0 bd bw s W) (far : Far s i T) (P : ByteArray) (hP : P.size ≤ 1048576) :
    Calls Tryz.prog 13 #[.pointer (some ⟨bd, 0, none⟩), .string P] W fun e w' => e = .returned (.int .i64 (stampS s P : Nat)) ∧ One O W0 bd bw s w' := by
  have h' := h
  obtain ⟨Fd, Fw, h1, h4, hb⟩ := h
  exact ((hI.reads bd).stamp P h1.1 far hP).mono fun e w' he => ⟨he.1, One.below hI h' he.2⟩
theorem one_down (hI : Impl O) {W0 W : World} {bd bw : Nat} {s : St} {i T : Nat} (h : One O W0 bd bw s W) (far : Far s i T) :
    Calls Tryz.prog 10 #[.pointer (some ⟨bd, 0, none⟩)] W fun e w' => e = .returned (.bool s.down) ∧ One O W0 bd bw s w' := by
  have h' := h
  obtain ⟨Fd, Fw, h1, h4, hb⟩ := h
  exact (hI.down bd h1.1 far).mono fun e w' he => ⟨he.1, One.below hI h' he.2⟩
theorem one_new {W0 w1 w2 w3 : World} {bd bw : Nat} {Fd : Nat → Prop} (hI : Impl O) (od : O bd w1 Fd newS) (hFd : ∀ i, Fd i → W0.heap.size ≤ i) (hb1 : Below W0.heap.size W0 w1) (hbw : w1.heap.size ≤ bw) (hat : At w2 bw newS (.slice none 0 0) (.slice none 0 0)) (hb2 : Below w1.heap.size w1 w2) (hb3 : Below w2.heap.size w2 w3) : One O W0 bd bw newS w3 := by
  have kd := (hI.works bd).kind
  have hs1 := hb1.size
  have hs2 := hb2.size
  have b13 : Below w1.heap.size w1 w3 := below_call hb2 hb3
  have od3 : O bd w3 Fd newS := kd.kept od (fun i hi => b13.block i (kd.lt od i hi))
  have rw3 : RefAt bw w3 (fun i => i = bw) newS := ⟨_, _, hat.below hb3, fun i => ⟨fun h => .inl h, fun h => by rcases h with h | h | h; exact h; cases h; cases h⟩⟩
  refine ⟨Fd, _, ⟨od3, rw3, fun i hi hj => ?_⟩, fun i hi => ?_, below_call hb1 b13⟩
  · have := kd.lt od i hi; omega
  · rcases hi with hi | hi
    · exact hFd i hi
    · omega
end Go.Proofs.YtcbnpdognadilaaGreat.Dk

/-
  DiskApart, up to the bound: a step that does not name a path leaves its kind, its stamp and what is read of it, whatever script went before: the law returns true, and writes nothing that was there. Condition: the bound of the second form.
-/
namespace Go.Proofs.YtcbnpdognadilaaGreat.diskApart
open Go.ChangeMaps (open_string shut_string)
open Go.ChangeShapes Go.WideShapes Go.ChangeAt Go.RowKit Tx Pm Dk
set_option linter.unusedVariables false

set_option maxRecDepth 100000 in
set_option maxHeartbeats 8000000 in
theorem walk {O : Nat → World → (Nat → Prop) → St → Prop} (hI : Impl O) (a : Option Addr) (n c : Nat) (l : List Sp) (x : Sp) (p : ByteArray) (w : World) (hl : Script w a n l) (hn : n ≤ 1048576) (hs : ∀ x ∈ l, x.p.size ≤ 1048576 ∧ x.q.size ≤ 1048576 ∧ int64 x.n) (hx : x.p.size ≤ 1048576 ∧ x.q.size ≤ 1048576 ∧ int64 x.n) (hp : p.size ≤ 1048576) :
    Calls Tryz.prog 4 #[.slice a n c, spv x, .string p] w fun e w' => e = .returned (.bool true) ∧ Below w.heap.size w w' := by
  have cn := hI.new
  have caw := fun W => awake_any5 hI W
  have HI := Lib.hid hI
  have HL := Lib.hid hl
  have HS := Lib.hid hs
  have hln := hl.1
  have HLN := Lib.hid hln
  clear hI hl hs hln
  obtain ⟨K, P, Q, M⟩ := x
  obtain ⟨hP, hQ, hM⟩ := hx
  simp only at hP hQ hM
  unfold spv
  simp only
  have hb0 : Below w.heap.size w (w.alloc (.cells #[.int .i64 K, .string P, .string Q, .int .i64 M] 29)) := (Below.refl _ w).alloc (Nat.le_refl _) _
  have hbx : ∀ W, Below (w.alloc (.cells #[.int .i64 K, .string P, .string Q, .int .i64 M] 29)).heap.size (w.alloc (.cells #[.int .i64 K, .string P, .string Q, .int .i64 M] 29)) W → W.cell? ⟨w.heap.size, 0, none⟩ = some (.int .i64 K) ∧ W.cell? ⟨w.heap.size, 1, none⟩ = some (.string P) ∧ W.cell? ⟨w.heap.size, 2, none⟩ = some (.string Q) ∧ W.cell? ⟨w.heap.size, 3, none⟩ = some (.int .i64 M) := by
    intro W h
    obtain ⟨e0, e1, e2, e3⟩ := diskPlays.four_new w (.int .i64 K) (.string P) (.string Q) (.int .i64 M) 29
    exact ⟨(h.cell (p := ⟨w.heap.size, 0, none⟩) (by simp)).trans e0, (h.cell (p := ⟨w.heap.size, 1, none⟩) (by simp)).trans e1, (h.cell (p := ⟨w.heap.size, 2, none⟩) (by simp)).trans e2, (h.cell (p := ⟨w.heap.size, 3, none⟩) (by simp)).trans e3⟩
  have HX := Lib.hid hbx
  have HB := Lib.hid hb0
  clear hbx hb0
  go_enter Tryz.func4, Tryz.ntmps4
  go_wp2_with fail
  go_at_call 5
  refine (cn _).mono ?_
  rintro e w1 ⟨bd, Fd, rfl, od, hFd, hb1⟩
  go_wp2_with fail
  go_at_call 7
  refine (rNew_any _).mono ?_
  rintro e w2 ⟨bw, rfl, hbw, hatw, hb2⟩
  obtain ⟨W0, hW0⟩ : ∃ W0, W0 = w.alloc (.cells #[.int .i64 K, .string P, .string Q, .int .i64 M] 29) := ⟨_, rfl⟩
  rw [← hW0] at hFd hb1 HX HB
  clear hW0
  have hT := one_new HI.out od hFd hb1 hbw hatw hb2 (Below.refl _ _)
  clear od hFd hb1 hbw hatw hb2 cn
  obtain ⟨b0, b1, b2, b3⟩ := HX.out w2 hT.own
  by_cases hgo : p = P ∨ p = Q ∨ K = 9 ∨ K = 8
  · by_cases g1 : p = P
    · have t1 : (p.toList == P.toList) = true := by rw [g1]; exact beq_self_eq_true _
      clear hgo
      go_wp2_with fail
      go_at_call 6
      refine (caw _).mono ?_
      rintro e w3 ⟨rfl, hb3⟩
      have hT3 := One.below HI.out hT hb3
      obtain ⟨b0', b1', b2', b3'⟩ := HX.out w3 hT3.own
      clear hT hb3 b0 b1 b2 b3
      go_wp2_with fail
      go_at_call 6
      refine (caw _).mono ?_
      rintro e w4 ⟨rfl, hb4⟩
      have hT4 := One.below HI.out hT3 hb4
      go_wp2_with fail
      go_ret
      exact ⟨rfl, below_call HB.out hT4.own⟩
    have t1 : (p.toList == P.toList) = false := bytes_ne g1
    by_cases g2 : p = Q
    · have t2 : (p.toList == Q.toList) = true := by rw [g2]; exact beq_self_eq_true _
      clear hgo g2
      go_wp2_with fail
      go_at_call 6
      refine (caw _).mono ?_
      rintro e w3 ⟨rfl, hb3⟩
      have hT3 := One.below HI.out hT hb3
      obtain ⟨b0', b1', b2', b3'⟩ := HX.out w3 hT3.own
      clear hT hb3 b0 b1 b2 b3
      go_wp2_with fail
      go_at_call 6
      refine (caw _).mono ?_
      rintro e w4 ⟨rfl, hb4⟩
      have hT4 := One.below HI.out hT3 hb4
      go_wp2_with fail
      go_ret
      exact ⟨rfl, below_call HB.out hT4.own⟩
    have t2 : (p.toList == Q.toList) = false := bytes_ne g2
    by_cases g3 : K = 9
    · have t3 : (K == 9) = true := by rw [g3]; rfl
      clear hgo g3
      go_wp2_with fail
      go_at_call 6
      refine (caw _).mono ?_
      rintro e w3 ⟨rfl, hb3⟩
      have hT3 := One.below HI.out hT hb3
      obtain ⟨b0', b1', b2', b3'⟩ := HX.out w3 hT3.own
      clear hT hb3 b0 b1 b2 b3
      go_wp2_with fail
      go_at_call 6
      refine (caw _).mono ?_
      rintro e w4 ⟨rfl, hb4⟩
      have hT4 := One.below HI.out hT3 hb4
      go_wp2_with fail
      go_ret
      exact ⟨rfl, below_call HB.out hT4.own⟩
    have t3 : (K == 9) = false := beq_eq_false_iff_ne.2 g3
    have t4 : (K == 8) = true := by
      rcases hgo with h | h | h | h
      · exact absurd h g1
      · exact absurd h g2
      · exact absurd h g3
      · rw [h]; rfl
    clear hgo
    go_wp2_with fail
    go_at_call 6
    refine (caw _).mono ?_
    rintro e w3 ⟨rfl, hb3⟩
    have hT3 := One.below HI.out hT hb3
    obtain ⟨b0', b1', b2', b3'⟩ := HX.out w3 hT3.own
    clear hT hb3 b0 b1 b2 b3
    go_wp2_with fail
    go_at_call 6
    refine (caw _).mono ?_
    rintro e w4 ⟨rfl, hb4⟩
    have hT4 := One.below HI.out hT3 hb4
    go_wp2_with fail
    go_ret
    exact ⟨rfl, below_call HB.out hT4.own⟩
  · have g1 : p ≠ P := fun h => hgo (.inl h)
    have g2 : p ≠ Q := fun h => hgo (.inr (.inl h))
    have g3 : K ≠ 9 := fun h => hgo (.inr (.inr (.inl h)))
    have g4 : K ≠ 8 := fun h => hgo (.inr (.inr (.inr h)))
    have t1 : (p.toList == P.toList) = false := bytes_ne g1
    have t2 : (p.toList == Q.toList) = false := bytes_ne g2
    have t3 : (K == 9) = false := beq_eq_false_iff_ne.2 g3
    have t4 : (K == 8) = false := beq_eq_false_iff_ne.2 g4
    clear hgo
    go_wp2_with fail
    go_at_call 6
    refine (caw _).mono ?_
    rintro e w3 ⟨rfl, hb3⟩
    have hT3 := One.below HI.out hT hb3
    obtain ⟨b0', b1', b2', b3'⟩ := HX.out w3 hT3.own
    clear hT hb3 b0 b1 b2 b3
    go_wp2_with fail
    go_loopw [9] (fun iv W => ∃ (k : Nat) (s : St), k ≤ n ∧ k ≤ 60 ∧ iv = .int .i64 k ∧ One O W0 bd bw s W ∧ Far s k (k * 1048576)) (fun iv _ => n - (intOf iv).toNat)
    case atStart => exact ⟨0, newS, Nat.zero_le _, Nat.zero_le _, rfl, hT3, far_new⟩
    case round =>
      obtain ⟨k, s, hk, hk2, rfl, hT, f⟩ := hrel
      by_cases hgo : k < n ∧ k < 60
      · obtain ⟨hlt, hlt2⟩ := hgo
        obtain ⟨x, hx⟩ : ∃ x, l[k]? = some x := ⟨_, List.getElem?_eq_getElem (by have := HLN.out; omega)⟩
        obtain ⟨bs, off, rfl, hbs, c1, c2, c3, c4⟩ := diskPlays.steps_nth HL.out hx
        have hB := below_call HB.out hT.own
        obtain ⟨hp1, hq1, hM1⟩ := HS.out x (List.mem_of_getElem? hx)
        have d1 := (hB.cell (p := ⟨bs, _, none⟩) hbs).trans c1
        have d2 := (hB.cell (p := ⟨bs, _, none⟩) hbs).trans c2
        have d3 := (hB.cell (p := ⟨bs, _, none⟩) hbs).trans c3
        have d4 := (hB.cell (p := ⟨bs, _, none⟩) hbs).trans c4
        obtain ⟨K1, P1, Q1, M1⟩ := x
        simp only at d1 d2 d3 d4 hp1 hq1 hM1
        have hltz : (k : Int) < (n : Int) := by omega
        have hltz2 : (k : Int) < 60 := by omega
        clear c1 c2 c3 c4 hx
        have cd := one_does HI.out hT (Below.refl _ _) f K1 M1 P1 Q1 hp1 hq1 hM1
        have f' := f.step (K := K1) (M := M1) (P := P1) (Q := Q1) (by omega) hp1 hq1 hM1
        go_wp2_with fail
        go_at_call 8
        refine cd.mono ?_
        rintro e w6 ⟨rfl, hT6⟩
        go_wp2_with fail
        go_roundw
        case rel => exact ⟨k + 1, _, by omega, by omega, by go_num, hT6, f'⟩
        case measure => simp [intOf]; omega
      · have hex : (¬ (k : Int) < (n : Int)) ∨ ((k : Int) < (n : Int) ∧ ¬ (k : Int) < 60) := by omega
        clear hgo
        have hF := Lib.hid f
        have hF' := Lib.hid (f.step (K := K) (M := M) (P := P) (Q := Q) (by omega) hP hQ hM)
        clear f
        have ck := fun W (h : One O W0 bd bw s W) => one_kind HI.out h hF.out p hp
        have cs := fun W (h : One O W0 bd bw s W) => one_stamp HI.out h hF.out p hp
        have cr := fun W (h : One O W0 bd bw s W) => one_read HI.out h hF.out p hp
        have ck' := fun W (h : One O W0 bd bw (stepS s K P Q M) W) => one_kind HI.out h hF'.out p hp
        have cs' := fun W (h : One O W0 bd bw (stepS s K P Q M) W) => one_stamp HI.out h hF'.out p hp
        have cr' := fun W (h : One O W0 bd bw (stepS s K P Q M) W) (h0 : s.down = false) (h1 : (stepS s K P Q M).down = false) => (other_read s (N := M) g3 g1 g2 h0 h1) ▸ one_read HI.out h hF'.out p hp
        have cdn := fun W (h : One O W0 bd bw s W) => one_down HI.out h hF.out
        have cdn' := fun W (h : One O W0 bd bw (stepS s K P Q M) W) => one_down HI.out h hF'.out
        rw [other_kind s g3 g1 g2] at ck'
        rw [other_stamp s g3 g1 g2] at cs'
        obtain ⟨K0, hK0⟩ : ∃ K0, K0 = kind s.L p := ⟨_, rfl⟩
        obtain ⟨Z0, hZ0⟩ : ∃ Z0, Z0 = stampS s p := ⟨_, rfl⟩
        obtain ⟨rs, hrs⟩ : ∃ rs, rs = (readS s p).1 := ⟨_, rfl⟩
        obtain ⟨re, hre⟩ : ∃ re, re = (readS s p).2 := ⟨_, rfl⟩
        rw [← hK0] at ck ck'
        rw [← hZ0] at cs cs'
        rw [← hrs, ← hre] at cr cr'
        have hself := beq_self_eq_true rs.toList
        clear hK0 hZ0 hrs hre
        rcases Bool.eq_false_or_eq_true s.down with hd | hd
        · rw [hd] at cdn
          rcases hex with hltz | ⟨hltz, hltz2⟩
          all_goals
            go_wp2_with fail
            go_at_call 10
            refine (cdn _ hT).mono ?_
            rintro e w4 ⟨rfl, hT4⟩
            go_wp2_with fail
            go_ret
            exact ⟨rfl, below_call HB.out hT4.own⟩
        · rw [hd] at cdn
          have cr2 := fun W h h1 => cr' W h hd h1
          clear cr'
          have HE := Lib.hid hd
          clear hd
          obtain ⟨dn, hdn⟩ : ∃ dn, dn = (stepS s K P Q M).down := ⟨_, rfl⟩
          rw [← hdn] at cdn'
          have HDN := Lib.hid hdn
          clear hdn
          rcases hex with hltz | ⟨hltz, hltz2⟩
          all_goals
            go_wp2_with fail
            go_at_call 10
            refine (cdn _ hT).mono ?_
            rintro e w4 ⟨rfl, hT4⟩
            clear hT
            go_wp2_with fail
            go_at_call 11
            refine (cr _ hT4).mono ?_
            rintro e w5 ⟨rfl, hT5⟩
            clear hT4
            go_wp2_with fail
            go_at_call 12
            refine (ck _ hT5).mono ?_
            rintro e w6 ⟨rfl, hT6⟩
            clear hT5
            go_wp2_with fail
            go_at_call 13
            refine (cs _ hT6).mono ?_
            rintro e w7 ⟨rfl, hT7⟩
            clear hT6
            obtain ⟨b0, b1, b2, b3⟩ := HX.out w7 hT7.own
            go_wp2_with fail
            go_at_call 8
            refine (one_does HI.out hT7 (Below.refl _ _) hF.out K M P Q hP hQ hM).mono ?_
            rintro e w8 ⟨rfl, hT8⟩
            clear hT7 b0 b1 b2 b3
            go_wp2_with fail
            go_at_call 10
            refine (cdn' _ hT8).mono ?_
            rintro e w9 ⟨rfl, hT9⟩
            clear hT8
            cases dn with
            | true =>
              go_wp2_with fail
              go_at_call 12
              refine (ck' _ hT9).mono ?_
              rintro e w10 ⟨rfl, hT10⟩
              clear hT9
              go_wp2_with fail
              go_at_call 13
              refine (cs' _ hT10).mono ?_
              rintro e w11 ⟨rfl, hT11⟩
              go_wp2_with fail
              go_ret
              exact ⟨rfl, below_call HB.out hT11.own⟩
            | false =>
              go_wp2_with fail
              go_at_call 11
              refine (cr2 _ hT9 HDN.out.symm).mono ?_
              rintro e w10 ⟨rfl, hT10⟩
              clear hT9
              go_wp2_with fail
              go_at_call 12
              refine (ck' _ hT10).mono ?_
              rintro e w11 ⟨rfl, hT11⟩
              clear hT10
              go_wp2_with fail
              go_at_call 13
              refine (cs' _ hT11).mono ?_
              rintro e w12 ⟨rfl, hT12⟩
              go_wp2_with fail
              go_ret
              exact ⟨rfl, below_call HB.out hT12.own⟩
end Go.Proofs.YtcbnpdognadilaaGreat.diskApart

/- DiskApart's frame, over any disk that keeps what is asked of package disk. -/
namespace Go.Proofs.YtcbnpdognadilaaGreat.diskApart
open Go.ChangeMaps (open_string shut_string)
open Go.ChangeShapes Go.WideShapes Go.ChangeAt Go.RowKit Tx Pm Dk
set_option linter.unusedVariables false

theorem own : ownKnob Tryz.prog.godebug = none := by kernel_rfl
theorem laidOut : laidOutB Tryz.prog = true := by kernel_rfl

set_option maxRecDepth 100000 in
theorem contract {O : Nat → World → (Nat → Prop) → St → Prop} (hI : Impl O) (H : Type) (enc : TypeId × Value → H) (W : World) (base : Nat) (args : Array Value) (ds gs : List (DataW H)) (before : List MemPlace)
    (hval0 : ∀ (j : Nat) t v, Tryz.f4.params[j]? = some t → args[j]? = some v → Value.okWide Tryz.prog W .any base t v)
    (hW : DataW.Whole enc Tryz.prog Tryz.f4.params.toList Rows.diskApartSpec.vars false W args.toList ds gs before)
    (hk : Rows.uptoSmall H (ds ++ gs) = true)
    (hsz0 : (DataW.weightsEach Tryz.prog (Tryz.f4.params.toList ++ Rows.diskApartSpec.plain.varTypes Tryz.prog) (ds ++ gs)).all (· ≤ reachBytes) = true) :
    Calls Tryz.prog 4 args W fun e W' => ∃ v, e = .returned v ∧ Rows.diskApartSpec.post enc Tryz.prog Tryz.f4 false true false false W args v W' := by
  have hval : ∀ (j : Nat) t v, Tryz.f4.params[j]? = some t → args[j]? = some v → Value.okWide Tryz.prog W .any base t v := hval0
  have hsz := hsz0
  clear hsz0
  have hW' := hW
  obtain ⟨p, q, hA0, hV, rfl, hfz, hnd⟩ := hW
  have hA : DataW.TrodAll enc Tryz.prog W 0 (fun _ => true) true Tryz.f4.params.toList args.toList ds p := hA0
  rw [Tryz.params4] at hA hval hsz
  obtain ⟨v0, vs0, d0, ds0, p0, q0, hargs, rfl, rfl, h0, r0⟩ := trodAll_cons hA
  obtain ⟨v1, vs1, d1, ds1, p1, q1, rfl, rfl, rfl, h1, r1⟩ := trodAll_cons r0
  obtain ⟨v2, vs2, d2, ds2, p2, q2, rfl, rfl, rfl, h2, r2⟩ := trodAll_cons r1
  obtain ⟨rfl, rfl, rfl⟩ := trodAll_nil r2
  obtain rfl : args = #[v0, v1, v2] := by cases args; simp_all
  obtain ⟨rfl, rfl⟩ := trodVars_none hV
  obtain ⟨A0, n0, c0, rfl⟩ := okWide_slice Tryz.underlying22 (hval 0 22 v0 rfl rfl)
  have k0 := h0
  have lt0 : ∀ x ∈ p0, x.block < W.heap.size := by obtain ⟨m, hm⟩ := k0; exact DataW.trod_lt m _ _ _ hm
  have k1 := h1
  have lt1 : ∀ x ∈ p1, x.block < W.heap.size := by obtain ⟨m, hm⟩ := k1; exact DataW.trod_lt m _ _ _ hm
  obtain ⟨S1, rfl, rfl, ik1, in1, sp1, sq1⟩ := arg_step (hval 1 29 v1 rfl rfl) h1
  obtain ⟨s2, rfl, rfl, rfl, w2⟩ := open_string Tryz.underlying9 (hval 2 9 v2 rfl rfl) h2
  have hreach2 : s2.size ≤ 140737488351232 := by
    have := sized_string hsz (j := 2) (t := 9) rfl rfl
    simpa [reachBytes] using this
  clear hA0 hval0
  obtain ⟨l0, e0, i0, m0, sm0⟩ := arg_steps k0
  have hbulk : Rows.uptoBulk d0 + (S1.p.size + S1.q.size + 5) + s2.size ≤ 1048576 := by
    have h := of_decide_eq_true hk
    rw [List.append_nil] at h
    have x : Rows.uptoBulkAll [d0, dS (H := H) S1, .lit (.string s2.data.toList)] = Rows.uptoBulk d0 + (Rows.uptoBulk (dS (H := H) S1) + ((s2.data.toList.length + 1) + 0)) := rfl
    have y : s2.data.toList.length = s2.size := Array.length_toList
    rw [x, bulk_step, y] at h
    omega
  refine (walk hI A0 n0 c0 l0 S1 s2 W e0 (by omega) (fun x hx => by have := sm0 x hx; have := i0 x hx; exact ⟨by omega, by omega, this.2⟩) ⟨by omega, by omega, in1⟩ (by omega)).mono fun e W' ⟨he, bel⟩ => ?_
  subst he
  exact ⟨_, rfl, _, _, _, [], _, [], hW', trodAll_mk1 (shut_bool Tryz.underlying4 _), (trodAll_cons_mk (Below.trod laidOut (by kernel_rfl) (of_decide_eq_true (by kernel_rfl)) k0 bel lt0) (trodAll_cons_mk (Below.trod laidOut (by kernel_rfl) (of_decide_eq_true (by kernel_rfl)) k1 bel lt1) (trodAll_cons_mk (shut_string Tryz.underlying9 w2) trodAll_mk0))), rfl, bel.frame _, fun h => by cases h⟩

set_option maxRecDepth 100000 in
theorem lifted {O : Nat → World → (Nat → Prop) → St → Prop} (hI : Impl O) (os : Os) (started : os.Started) (H : Type) (enc : TypeId × Value → H) (F : Stop.Interp) :
    ReturnsInHanded {} Tryz.checked os 4 .any ((Rows.OpenSpec.upto Rows.diskApartSpec).pre6 enc Tryz.prog Tryz.f4 Rows.diskApartUptoRow.domain false) (((Rows.OpenSpec.upto Rows.diskApartSpec).at F).post enc Tryz.prog Tryz.f4 false true false false) := by
  refine returnsInHanded_of_cond_sized (C := Tryz.checked) (s := Rows.OpenSpec.upto Rows.diskApartSpec) (k := Rows.uptoSmall) rfl own started (by kernel_rfl) Tryz.func4
    (OpenSpec.witness (enc := enc) (C := Tryz.checked) (s := Rows.OpenSpec.upto Rows.diskApartSpec) (k := Rows.uptoSmall) rfl false ⟨#[], #[.slice none 0 0, .agg #[.int .i64 0, .string ByteArray.empty, .string ByteArray.empty, .int .i64 0], .string ByteArray.empty], []⟩ 8 (by kernel_rfl) (by kernel_rfl) (by kernel_rfl)
      (x := ([.nil, .agg [.lit (.int .i64 0), .lit (.string []), .lit (.string []), .lit (.int .i64 0)], .lit (.string [])], [], [])) (by kernel_rfl) rfl (by kernel_rfl)) ?_
  intro W base args ds gs before hval hW _ hk hsz0 _
  exact contract hI H enc W base args ds gs before hval hW hk hsz0

theorem over {O : Nat → World → (Nat → Prop) → St → Prop} (hI : Impl O) : Rows.diskApartUptoRow.holds Tryz.pinned (Rows.OpenSpec.upto Rows.diskApartSpec) :=
  OpenClaim.holds_of_cond 4 Tryz.f4 rfl rfl rfl rfl rfl rfl rfl ⟨rfl, rfl, rfl, rfl, rfl⟩ rfl rfl rfl rfl rfl (by kernel_rfl) Tryz.func4 (by kernel_rfl)
    (of_decide_eq_true (by kernel_rfl)) (by unfold Func.isWrapper; first | (rw [if_pos (by decide +kernel)]; kernel_rfl) | (rw [if_neg (by decide +kernel)]; exact ⟨rfl, rfl⟩))
    (fun os started H enc _ F => lifted hI os started H enc F)

end Go.Proofs.YtcbnpdognadilaaGreat.diskApart

namespace Go.Proofs.YtcbnpdognadilaaGreat
theorem diskApartUpto_holds : Rows.DiskApartUptoSaid := diskApart.over Dk.imp_impl
#print axioms diskApartUpto_holds
end Go.Proofs.YtcbnpdognadilaaGreat
