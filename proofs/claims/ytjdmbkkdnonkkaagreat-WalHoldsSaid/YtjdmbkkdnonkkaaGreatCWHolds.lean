/-
  WalHolds: wherever the machine stops, and whatever is lost: opened again, the journal has all records whose Add was OK, perhaps the one at which the machine stopped, and nothing else, in their order; and it takes records again: the law returns true, and writes nothing that was there. No condition beside the sizes that every first form has.
-/
import Derived.Test.YtjdmbkkdnonkkaaGreatQ5
import Derived.SliceStrings
import Derived.SizedLaws
import Derived.ChangeOld
namespace Go.Proofs.YtjdmbkkdnonkkaaGreat.Wl
open Go.RowKit Tx Pm Pl Pr Dk Fr
set_option linter.unusedVariables false
theorem strs_take {w : World} {a : Option Addr} {n m : Nat} {l : List ByteArray} (h : Tx.Strs w a n l) (hm : m ≤ n) : Tx.Strs w a m (l.take m) := Fr.Strs.take h hm
theorem snd_two {A : It} {st sm : Nat} {a : Int} {dn : Bool} (hp : A.path = pL) (hk : A.anew = false → A.kept.size ≤ A.data.size) (h : A.data.size ≤ 100000000000000000 ∧ A.kept.size ≤ 100000000000000000) (h2 : sm ≤ 100000) : SoundW ⟨[dirV, A], [], st, sm, a, dn⟩ := by
  refine ⟨rises_paths (a := [dirV, mk pL]) (by show [_, pL] = [_, A.path]; rw [hp]) (by show List.Pairwise _ _; decide +kernel), fun z hz ha => ?_, fun z hz => ?_, by show sm + 2 ≤ _; omega⟩
  · rcases mem2 hz with rfl | rfl
    · exact Nat.le_refl _
    · exact hk ha
  · rcases mem2 hz with rfl | rfl
    · decide
    · omega
theorem snd_three {A B : It} {st sm : Nat} {a : Int} {dn : Bool} (hp : A.path = pL) (hq : B.path = pT) (hk : A.anew = false → A.kept.size ≤ A.data.size) (hk2 : B.anew = false → B.kept.size ≤ B.data.size) (h : A.data.size ≤ 100000000000000000 ∧ A.kept.size ≤ 100000000000000000) (h3 : B.data.size ≤ 100000000000000000 ∧ B.kept.size ≤ 100000000000000000) (h2 : sm ≤ 100000) : SoundW ⟨[dirV, A, B], [], st, sm, a, dn⟩ := by
  refine ⟨rises_paths (a := [dirV, mk pL, mk pT]) (by show [_, pL, pT] = [_, A.path, B.path]; rw [hp, hq]) (by show List.Pairwise _ _; decide +kernel), fun z hz ha => ?_, fun z hz => ?_, by show sm + 3 ≤ _; omega⟩
  · rcases mem3 hz with rfl | rfl | rfl
    · exact Nat.le_refl _
    · exact hk ha
    · exact hk2 ha
  · rcases mem3 hz with rfl | rfl | rfl
    · decide
    · omega
    · omega
structure Stop (l : List ByteArray) (n k : Nat) (loss : Int) (s : St) : Prop where
  sound : SoundW s
  fit : s.L.length ≤ 1000000000 ∧ ∀ x ∈ s.L, x.path.size ≤ 8000000000000
  back : ∃ (c : ByteArray) (sn st sm : Nat), restartS s loss = J c sn st sm (-1) ∧ OpenOk (J c sn st sm (-1)) pL ∧ ∃ (R : List ByteArray) (sn' st' sm' : Nat), (R = l.take k ∨ (k < n ∧ R = l.take (k + 1))) ∧ openS (J c sn st sm (-1)) pL = (0, ⟨J (PK R) sn' st' sm' (-1), R, false⟩) ∧ st' ≤ 1000 ∧ sm' ≤ 1000
theorem fit_two {A : It} {st sm : Nat} {a : Int} {dn : Bool} (hp : A.path = pL) : (⟨[dirV, A], [], st, sm, a, dn⟩ : St).L.length ≤ 1000000000 ∧ ∀ x ∈ (⟨[dirV, A], [], st, sm, a, dn⟩ : St).L, x.path.size ≤ 8000000000000 := by
  refine ⟨by show 2 ≤ _; omega, fun z hz => ?_⟩
  rcases mem2 hz with rfl | rfl
  · decide
  · rw [hp]; decide
theorem take_wide {l : List ByteArray} (h : ∀ r ∈ l, r.size ≤ 140737488351232) (k : Nat) : ∀ r ∈ l.take k, r.size ≤ 140737488351232 := fun r hr => h r (List.mem_of_mem_take hr)
theorem stop_syn {l : List ByteArray} {n k sn st sm : Nat} {a loss : Int} {dn : Bool} (h : ∀ r ∈ l, r.size ≤ 140737488351232) (hk : k ≤ 61) (h1 : st ≤ 500) (h2 : sm ≤ 500) : Stop l n k loss ⟨[dirV, syn pL (PK (l.take k)) sn], [], st, sm, a, dn⟩ := by
  have hw := take_wide h k
  have hs := PK_le hw (show (l.take k).length ≤ 61 by rw [List.length_take]; omega) (by omega)
  exact ⟨snd_two rfl (fun _ => Nat.le_refl _) ⟨by show (PK (l.take k)).size ≤ _; omega, by show (PK (l.take k)).size ≤ _; omega⟩ (by omega), fit_two rfl, _, sn, st, sm, j_restart _ _ _ _ _ _ _, openok_PK hw (by rw [List.length_take]; omega) (by omega) (by omega) (by omega), l.take k, sn, st, sm, .inl rfl, open_PK hw, by omega, by omega⟩
theorem stop_raw {l : List ByteArray} {n k sn st sm : Nat} {a loss : Int} {dn : Bool} {r : ByteArray} (h : ∀ r ∈ l, r.size ≤ 140737488351232) (hl : l.length = n) (hr : l[k]? = some r) (hk : k ≤ 60) (h1 : st ≤ 500) (h2 : sm ≤ 500) : Stop l n k loss ⟨[dirV, ⟨pL, false, PK (l.take k) ++ Fm.pk r, PK (l.take k), true, false, sn⟩], [], st, sm, a, dn⟩ := by
  have hkn := (List.getElem?_eq_some_iff.1 hr).1
  have e : l.take (k + 1) = l.take k ++ [r] := by
    rw [List.take_succ_eq_append_getElem hkn]
    rw [List.getElem?_eq_getElem hkn] at hr
    injection hr with hr
    rw [hr]
  have hw : ∀ x ∈ l.take k ++ [r], x.size ≤ 140737488351232 := by rw [← e]; exact take_wide h (k + 1)
  have hs := PK_le hw (show (l.take k ++ [r]).length ≤ 61 by rw [← e, List.length_take]; omega) (by omega)
  rw [← PK_snoc]
  have hle : (PK (l.take k)).size ≤ (PK (l.take k ++ [r])).size := by rw [PK_snoc, ByteArray.size_append]; omega
  obtain ⟨c, hc, c1, c2, c3⟩ := l_restart (PK (l.take k ++ [r])) (PK (l.take k)) sn st sm a loss dn hle
  obtain ⟨R, sn', st', sm', hR, ho, b1, b2⟩ := open_torn (l.take k) r c (sm + 1) st (sm + 1) hw c1 c3
  have hlen : (Fm.sc c 0).1.length ≤ 10000000000 := by
    have hs3 := scan_PK (l.take k ++ [r]) c.size hw
    rw [← c3] at hs3
    rw [hs3, ← e]
    show ((l.take (k + 1)).take _).length ≤ _
    rw [List.length_take, List.length_take]
    omega
  refine ⟨snd_two rfl (fun _ => hle) ⟨by show (PK _).size ≤ _; omega, by show (PK _).size ≤ _; omega⟩ (by omega), fit_two rfl, c, _, _, _, hc, openok_J (by omega) (by omega) (by omega) (by omega) hlen, R, sn', st', sm', ?_, ho, by omega, by omega⟩
  rcases hR with hR | hR
  · exact .inl hR
  · exact .inr ⟨by omega, by rw [hR, e]⟩
end Go.Proofs.YtjdmbkkdnonkkaaGreat.Wl

namespace Go.Proofs.YtjdmbkkdnonkkaaGreat.Dk
open Go.ChangeShapes Go.WideShapes Go.ChangeAt Go.RowKit Tx
set_option linter.unusedVariables false
theorem bulk_strs {H : Type} (l : List ByteArray) : Rows.uptoBulkAll (strs (H := H) l) = (l.map (·.size)).sum + l.length := by
  induction l with
  | nil => rfl
  | cons s l ih =>
    have e : Rows.uptoBulkAll (strs (H := H) (s :: l)) = (s.data.toList.length + 1) + Rows.uptoBulkAll (strs (H := H) l) := rfl
    rw [e, ih, len_l, List.map_cons, List.sum_cons, List.length_cons]
    omega
theorem str_weights {H : Type} (s : ByteArray) : DataW.weights Tryz.prog 9 (.lit (.string s.data.toList) : DataW H) = [s.data.toList.length] := by
  rw [DataW.weights]
theorem strs_weights {H : Type} {x : ByteArray} {n : Nat} : ∀ {l : List ByteArray}, x ∈ l → n ∈ DataW.weights Tryz.prog 9 (.lit (.string x.data.toList) : DataW H) → n ∈ DataW.weightsAll Tryz.prog 9 (strs (H := H) l)
  | y :: l, hx, hn => by
    have e : strs (H := H) (y :: l) = .lit (.string y.data.toList) :: strs l := rfl
    rw [e, DataW.weightsAll, List.mem_append]
    rcases List.mem_cons.1 hx with rfl | hx
    · exact .inl hn
    · exact .inr (strs_weights hx hn)
def Wide1 (l : List ByteArray) : Prop := ∀ x ∈ l, x.size ≤ 140737488351232
theorem wide_strs {H : Type} {ts : List TypeId} {ds : List (DataW H)} (h : (DataW.weightsEach Tryz.prog ts ds).all (· ≤ reachBytes) = true) {j : Nat} {l : List ByteArray} {rest : List (DataW H)} (ht : ts[j]? = some 56) (hd : ds[j]? = some (.slice (strs l) rest)) : Wide1 l := by
  intro x hx
  have hall := List.all_eq_true.1 h
  have hm := DataW.weights_mem_each (P := Tryz.prog) ht hd x.data.toList.length (by
    rw [DataW.weights, Tryz.underlying56]
    exact List.mem_cons_of_mem _ (List.mem_append_left _ (strs_weights hx (by rw [str_weights]; simp))))
  have := of_decide_eq_true (hall _ hm)
  rw [len_l] at this
  exact this
theorem arg_texts {H : Type} {enc : TypeId × Value → H} {w : World} {base : Nat} {spare : Nat → Bool} {held : Bool} {a : Option Addr} {n c : Nat} {d : DataW H} {p : List MemPlace} (h : DataW.Trod enc Tryz.prog w base spare held 56 (.slice a n c) d p) :
    ∃ l : List ByteArray, Strs w a n l ∧ (l.map (·.size)).sum ≤ Rows.uptoBulk d ∧ l.length ≤ Rows.uptoBulk d ∧ n ≤ c ∧ c ≤ 9223372036854775807 ∧ ∀ {ts : List TypeId} {ds : List (DataW H)} {j : Nat}, (DataW.weightsEach Tryz.prog ts ds).all (· ≤ reachBytes) = true → ts[j]? = some 56 → ds[j]? = some d → Wide1 l := by
  obtain ⟨fuel, hf⟩ := h
  rcases open_strings Tryz.underlying56 Tryz.underlying9 (by kernel_rfl) hf with ⟨hcs, _⟩ | ⟨x, len, cap, ss, hcs, _, hl, hm, hz, hx, hcell, _⟩
  · simp [Value.cells] at hcs
    obtain ⟨rfl, rfl, rfl⟩ := hcs
    exact ⟨[], ⟨rfl, .inl rfl⟩, Nat.zero_le _, Nat.zero_le _, by omega, by omega, fun _ _ _ x hx => by cases hx⟩
  · simp [Value.cells] at hcs
    obtain ⟨rfl, rfl, rfl⟩ := hcs
    unfold maxLen at hm
    have hz' : n ≤ ss.length := by rw [hz]; split <;> omega
    have hd : d = .slice (strs (ss.take n)) (strs (ss.drop n)) := congrArg Prod.fst hx
    have e : Rows.uptoBulk d = Rows.uptoBulkAll (strs (H := H) (ss.take n)) + Rows.uptoBulkAll (strs (H := H) (ss.drop n)) + 1 := by rw [hd]; rfl
    rw [bulk_strs] at e
    have hlen : (ss.take n).length = n := by rw [List.length_take]; omega
    refine ⟨ss.take n, ⟨hlen, ?_⟩, by omega, by omega, hl, by omega, fun h1 h2 h3 => wide_strs h1 h2 (by rw [h3, hd])⟩
    by_cases h0 : n = 0
    · exact .inl h0
    · right
      obtain ⟨b, off, spot⟩ := x
      have hc0 := hcell 0 (by omega)
      have hspot : spot = none := by simpa [Addr.add] using World.cell?_spot hc0
      subst hspot
      refine ⟨b, off, rfl, ?_, fun k y hk => ?_⟩
      · have := World.block_lt_of_cell? w _ hc0
        rwa [WideShapes.add_plain] at this
      · have hk2 := (List.getElem?_eq_some_iff.1 hk).1
        rw [hlen] at hk2
        have hk3 := hcell k (by omega)
        rw [WideShapes.add_plain] at hk3
        rw [hk3]
        rw [List.getElem?_take_of_lt hk2] at hk
        rw [List.getD_eq_getElem?_getD, hk]
        rfl
end Go.Proofs.YtjdmbkkdnonkkaaGreat.Dk

namespace Go.Proofs.YtjdmbkkdnonkkaaGreat.walHolds
open Go.ChangeMaps (open_string shut_string)
open Go.ChangeShapes Go.WideShapes Go.ChangeAt Go.RowKit Tx Pm Dk Wl
set_option linter.unusedVariables false
def tMore : ByteArray := ⟨#[109, 111, 114, 101]⟩
theorem more_le : tMore.size ≤ 140737488351232 := by decide
theorem wide_snoc {R : List ByteArray} (h : ∀ r ∈ R, r.size ≤ 140737488351232) : ∀ r ∈ R ++ [tMore], r.size ≤ 140737488351232 := fun r hr => by
  rcases List.mem_append.1 hr with hr | hr
  · exact h r hr
  · rw [List.mem_singleton.1 hr]; exact more_le
theorem last_more (R : List ByteArray) : (R ++ [tMore])[R.length]? = some tMore := by rw [List.getElem?_append_right (Nat.le_refl _), Nat.sub_self]; rfl
def Out (w : World) (l : List ByteArray) (n : Nat) (loss : Int) (b : Nat) (k : Nat) (wr : World) : Prop := ∃ s, Own (ImpAt b) w s wr ∧ Stop l n k loss s
structure Got (l : List ByteArray) (n k m : Nat) (R : List ByteArray) : Prop where
  len : R.length = m
  is : R = l.take m
  le : m ≤ n ∧ m ≤ 61
  two : m = k ∨ (m = k + 1 ∧ k < n)
theorem got_of {l R : List ByteArray} {n k : Nat} (hl : l.length = n) (hk : k ≤ n) (hk2 : k ≤ 60) (h : R = l.take k ∨ (k < n ∧ R = l.take (k + 1))) : ∃ m, Got l n k m R := by
  rcases h with h | ⟨h1, h⟩
  · exact ⟨k, by rw [h, List.length_take]; omega, h, by omega, .inl rfl⟩
  · exact ⟨k + 1, by rw [h, List.length_take]; omega, h, by omega, .inr ⟨rfl, h1⟩⟩
set_option maxRecDepth 100000 in
set_option maxHeartbeats 4000000 in
theorem walk (A : Option Addr) (n c : Nat) (l : List ByteArray) (M loss : Int) (w : World) (hSt : Strs w A n l) (hc : n ≤ c ∧ c ≤ 9223372036854775807) (hB : ∀ x ∈ l, x.size ≤ 140737488351232) (hM : -9223372036854775808 ≤ M ∧ M ≤ 9223372036854775807) (hloss : -9223372036854775808 ≤ loss ∧ loss ≤ 9223372036854775807) :
    Calls Tryz.prog 4 #[.slice A n c, .int .i64 M, .int .i64 loss] w fun e w' => e = .returned (.bool true) ∧ Below w.heap.size w w' := by
  have HST := Lib.hid (fun W (hW : Below w.heap.size w W) => hSt.below hW)
  have HB := Lib.hid hB
  have HL := Lib.hid hSt.1
  have cm := made_any w w (Below.refl _ _)
  clear hB hSt
  go_enter Tryz.func4, Tryz.ntmps4
  go_wp2_with fail
  go_at_call 13
  refine (cm).mono ?_
  rintro e w1 ⟨b, rfl, o1⟩
  go_wp2_with fail
  go_at_call 15
  refine (awake_any6 w1 w1 (Below.refl _ _)).mono ?_
  rintro e w2 ⟨rfl, hb2⟩
  have o2 := o1.belowD hb2
  go_wp2_with fail
  go_at_call 17
  refine (w_open o2 openok_new new_open).mono ?_
  rintro e w3 ⟨j, rfl, o3⟩
  go_wp2_with fail
  go_at_call 23
  refine (w_arm o3 hM).mono ?_
  rintro e w4 ⟨rfl, o4⟩
  have o4' : Own (Jb b j) w ⟨J (PK (l.take 0)) 2 4 2 (if M < 0 then -1 else M), l.take 0, false⟩ w4 := o4
  clear o1 o2 o3 o4 cm hb2
  go_upto_block 0 with fail
  go_cut [10] from 16 to 135 (fun iv wq => ∃ k : Nat, k ≤ n ∧ k ≤ 60 ∧ iv = .int .i64 k ∧ Out w l n loss b k wq)
  case rest =>
    clear o4'
    obtain ⟨k, hkn, hk60, rfl, hout⟩ := hcut
    obtain ⟨s, hO, hS⟩ := hout
    obtain ⟨hsnd, hfit, c9, sn9, st9, sm9, hrs, hok, R, sn', st', sm', hR, hop, b1, b2⟩ := hS
    obtain ⟨m, hG⟩ := got_of HL.out hkn hk60 hR
    have hwR : ∀ r ∈ R, r.size ≤ 140737488351232 := by rw [hG.is]; exact take_wide HB.out m
    have HG := Lib.hid hG
    have HOK := Lib.hid hok
    have HOP := Lib.hid hop
    have HWR := Lib.hid hwR
    have HSND := Lib.hid hsnd
    have HFIT := Lib.hid hfit
    have HRS := Lib.hid hrs
    clear hG hR hok hop hwR hsnd hfit hrs
    go_wp2_with fail
    go_at_call 24
    refine (w_restart (m := loss) hO HSND.out HFIT.out.1 HFIT.out.2 hloss HRS.out).mono ?_
    rintro e w6 ⟨rfl, o6⟩
    go_wp2_with fail
    go_at_call 17
    refine (w_open o6 HOK.out HOP.out).mono ?_
    rintro e w7 ⟨j2, rfl, o7⟩
    go_wp2_with fail
    go_at_call 35
    refine (w_damaged o7).mono ?_
    rintro e w8 ⟨rfl, rfl⟩
    go_wp2_with fail
    go_at_call 33
    refine (w_records o7 (by rw [HG.out.len]; have := HG.out.le; omega)).mono ?_
    rintro e w8 ⟨a8, c8, rfl, hs8, hb8⟩
    rw [HG.out.len] at hs8 ⊢
    have o8 := o7.belowJ hb8
    have hR8 : Strs w8 A m R := by
      rw [HG.out.is]
      exact strs_take (HST.out _ o8.bel) HG.out.le.1
    have cs := same_true a8 A m c8 c R w8 (by have := HG.out.le; omega) hs8 hR8
    have hmn := HG.out.le.1
    have hmc : (m : Int) ≤ (c : Int) := by omega
    have cadd := w_add (r := tMore) o8 (addok_J (PK_le HWR.out (by rw [HG.out.len]; exact HG.out.le.2) (by omega)) more_le (by omega) (by omega) (by omega) (by rw [HG.out.len]; have := HG.out.le; omega)) (add_PK (l := R))
    have hm2 := HG.out.two
    clear hs8 hR8
    rcases hm2 with hm2 | ⟨hm2, hm3⟩
    · subst hm2
      go_wp2_with fail
      go_at_call 34
      refine cs.mono ?_
      rintro e w9 ⟨rfl, hb9⟩
      have cadd9 := w_add (r := tMore) (o8.belowJ hb9) (addok_J (PK_le HWR.out (by rw [HG.out.len]; exact HG.out.le.2) (by omega)) more_le (by omega) (by omega) (by omega) (by rw [HG.out.len]; have := HG.out.le; omega)) (add_PK (l := R))
      go_wp2_with fail
      go_at_call 19
      refine (cadd9).mono ?_
      rintro e w10 ⟨rfl, o10⟩
      go_wp2_with fail
      go_at_call 17
      refine (w_open o10.disk (openok_PK (wide_snoc HWR.out) (by rw [List.length_append, HG.out.len]; have := HG.out.le.2; show m + 1 ≤ _; omega) (by omega) (by omega) (by omega)) (open_PK (wide_snoc HWR.out))).mono ?_
      rintro e w11 ⟨j3, rfl, o11⟩
      have hlen : (R ++ [tMore]).length = m + 1 := by rw [List.length_append, HG.out.len]; rfl
      have HLEN := Lib.hid hlen
      have hm60 := HG.out.le.2
      have cr := w_records o11 (by show (R ++ [tMore]).length ≤ _; rw [hlen]; omega)
      have hcast : ((m + 1 : Nat) : Int) = (m : Int) + 1 := by omega
      rw [show (⟨J (PK (R ++ [tMore])) (sm' + 1) (st' + 2) (sm' + 1) (-1), R ++ [tMore], false⟩ : Jst).R = R ++ [tMore] from rfl, hlen] at cr
      clear hlen
      go_wp2_with fail
      go_at_call 33
      refine (cr).mono ?_
      rintro e w12 ⟨a12, c12, rfl, hs12, hb12⟩
      have cr2 := w_records (o11.belowJ hb12) (by show (R ++ [tMore]).length ≤ _; rw [HLEN.out]; omega)
      rw [show (⟨J (PK (R ++ [tMore])) (sm' + 1) (st' + 2) (sm' + 1) (-1), R ++ [tMore], false⟩ : Jst).R = R ++ [tMore] from rfl, HLEN.out] at cr2
      clear hs12
      go_wp2_with fail
      go_at_call 33
      refine (cr2).mono ?_
      rintro e w13 ⟨a13, c13, rfl, hs13, hb13⟩
      obtain ⟨b13, off13, rfl, hlt13, hc13⟩ := hs13.2.resolve_left (by omega)
      have hcell : w13.cell? ⟨b13, off13 + m, none⟩ = some (.string tMore) := hc13 m tMore (by have := last_more R; rwa [HG.out.len] at this)
      have hmlt : (m : Int) < (m : Int) + 1 := by omega
      clear hs13 hc13
      have hmt : (tMore.toList == [109, 111, 114, 101]) = true := by decide +kernel
      go_wp2_with fail
      go_ret
      exact ⟨rfl, ((o11.belowJ hb12).belowJ hb13).bel⟩
    · subst hm2
      have hm4 : (k : Int) < (n : Int) := by omega
      go_wp2_with fail
      go_at_call 34
      refine cs.mono ?_
      rintro e w9 ⟨rfl, hb9⟩
      have cadd9 := w_add (r := tMore) (o8.belowJ hb9) (addok_J (PK_le HWR.out (by rw [HG.out.len]; exact HG.out.le.2) (by omega)) more_le (by omega) (by omega) (by omega) (by rw [HG.out.len]; have := HG.out.le; omega)) (add_PK (l := R))
      go_wp2_with fail
      go_at_call 19
      refine (cadd9).mono ?_
      rintro e w10 ⟨rfl, o10⟩
      go_wp2_with fail
      go_at_call 17
      refine (w_open o10.disk (openok_PK (wide_snoc HWR.out) (by rw [List.length_append, HG.out.len]; have := HG.out.le.2; show (k + 1) + 1 ≤ _; omega) (by omega) (by omega) (by omega)) (open_PK (wide_snoc HWR.out))).mono ?_
      rintro e w11 ⟨j3, rfl, o11⟩
      have hlen : (R ++ [tMore]).length = (k + 1) + 1 := by rw [List.length_append, HG.out.len]; rfl
      have HLEN := Lib.hid hlen
      have hm60 := HG.out.le.2
      have cr := w_records o11 (by show (R ++ [tMore]).length ≤ _; rw [hlen]; omega)
      have hcast : (((k + 1) + 1 : Nat) : Int) = ((k + 1) : Int) + 1 := by omega
      rw [show (⟨J (PK (R ++ [tMore])) (sm' + 1) (st' + 2) (sm' + 1) (-1), R ++ [tMore], false⟩ : Jst).R = R ++ [tMore] from rfl, hlen] at cr
      clear hlen
      go_wp2_with fail
      go_at_call 33
      refine (cr).mono ?_
      rintro e w12 ⟨a12, c12, rfl, hs12, hb12⟩
      have cr2 := w_records (o11.belowJ hb12) (by show (R ++ [tMore]).length ≤ _; rw [HLEN.out]; omega)
      rw [show (⟨J (PK (R ++ [tMore])) (sm' + 1) (st' + 2) (sm' + 1) (-1), R ++ [tMore], false⟩ : Jst).R = R ++ [tMore] from rfl, HLEN.out] at cr2
      clear hs12
      go_wp2_with fail
      go_at_call 33
      refine (cr2).mono ?_
      rintro e w13 ⟨a13, c13, rfl, hs13, hb13⟩
      obtain ⟨b13, off13, rfl, hlt13, hc13⟩ := hs13.2.resolve_left (by omega)
      have hcell : w13.cell? ⟨b13, off13 + (k + 1), none⟩ = some (.string tMore) := hc13 (k + 1) tMore (by have := last_more R; rwa [HG.out.len] at this)
      have hmlt : ((k + 1) : Int) < ((k + 1) : Int) + 1 := by omega
      clear hs13 hc13
      have hmt : (tMore.toList == [109, 111, 114, 101]) = true := by decide +kernel
      go_wp2_with fail
      go_ret
      exact ⟨rfl, ((o11.belowJ hb12).belowJ hb13).bel⟩
  case first =>
    go_wp2_with fail
    go_loopw [10] (fun iv wr => ∃ (k sn st sm : Nat) (a : Int), k ≤ n ∧ k ≤ 60 ∧ iv = .int .i64 k ∧ st ≤ 4 + 2 * k ∧ sm ≤ 2 + k ∧ (-1 ≤ a ∧ a ≤ 9223372036854775807) ∧ Own (Jb b j) w ⟨J (PK (l.take k)) sn st sm a, l.take k, false⟩ wr) (fun i _ => n - (intOf i).toNat)
    case atStart => exact ⟨0, 2, 4, 2, _, Nat.zero_le _, Nat.zero_le _, rfl, by omega, by omega, by split <;> omega, o4'⟩
    case round =>
      obtain ⟨k, sn, st, sm, a, hkn, hk60, rfl, hst, hsm, ha, hO⟩ := hrel
      by_cases hgo : k < n ∧ k < 60
      · obtain ⟨hlt, hlt60⟩ := hgo
        obtain ⟨r, hx⟩ : ∃ r, l[k]? = some r := ⟨_, List.getElem?_eq_getElem (by rw [HL.out]; exact hlt)⟩
        have hr := HB.out r (List.mem_of_getElem? hx)
        obtain ⟨ba, off, rfl, hltb, hcc⟩ := (HST.out _ hO.bel).2.resolve_left (by omega)
        have g0 := hcc k r hx
        have hlen : (l.take k).length = k := by rw [List.length_take, HL.out]; omega
        have hak := addok_J (t := PK (l.take k)) (r := r) (sn := sn) (st := st) (sm := sm) (a := a) (R := l.take k) (dm := false) (PK_le (take_wide HB.out k) (by rw [hlen]; exact hk60) (by omega)) hr (by omega) (by omega) ha (by rw [hlen]; omega)
        have hzk : (k : Int) < (n : Int) := by omega
        have hzk2 : (k : Int) < 60 := by omega
        have HX := Lib.hid hx
        have htk : l.take (k + 1) = l.take k ++ [r] := by
          have hkn2 : k < l.length := by rw [HL.out]; exact hlt
          rw [List.take_succ_eq_append_getElem hkn2]
          rw [List.getElem?_eq_getElem hkn2] at hx
          injection hx with hx
          rw [hx]
        have HTK := Lib.hid htk
        clear hx hcc hltb htk hlen
        by_cases ha0 : a = 0
        · subst ha0
          have ca := w_add (r := r) hO hak j_add0
          have hstop : Stop l n k loss (Jd (PK (l.take k)) sn st sm) := stop_syn HB.out (by omega) (by omega) (by omega)
          have HSTOP := Lib.hid hstop
          clear hstop hO hak
          go_wp2_with fail
          go_at_call 19
          refine ca.mono ?_
          rintro e w5 ⟨rfl, o5⟩
          have hout : Out w l n loss b k w5 := ⟨_, o5.disk, HSTOP.out⟩
          clear o5
          go_wp2_with fail
          go_meet
          exact ⟨k, hkn, hk60, rfl, hout⟩
        · by_cases ha1 : dec a = 0
          · have ca := w_add (r := r) hO hak (j_add1 ha0 ha1)
            have hstop : Stop l n k loss (Ld (PK (l.take k) ++ Fm.pk r) (PK (l.take k)) (sm + 1) (st + 1) (sm + 1)) := stop_raw HB.out HL.out HX.out (by omega) (by omega) (by omega)
            have HSTOP := Lib.hid hstop
            clear hstop hO hak ha0 ha1
            go_wp2_with fail
            go_at_call 19
            refine ca.mono ?_
            rintro e w5 ⟨rfl, o5⟩
            have hout : Out w l n loss b k w5 := ⟨_, o5.disk, HSTOP.out⟩
            clear o5
            go_wp2_with fail
            go_meet
            exact ⟨k, hkn, hk60, rfl, hout⟩
          · have ca := w_add (r := r) hO hak (j_add ha0 ha1)
            rw [← PK_snoc, ← HTK.out] at ca
            have had := dec_in (dec_in ha)
            clear hO hak ha0 ha1
            go_wp2_with fail
            go_at_call 19
            refine ca.mono ?_
            rintro e w5 ⟨rfl, o5⟩
            go_wp2_with fail
            go_roundw
            case rel => exact ⟨k + 1, _, _, _, _, by omega, by omega, by go_num, by omega, by omega, had, o5⟩
            case measure => simp [intOf]; omega
      · have hstop : Stop l n k loss (J (PK (l.take k)) sn st sm a) := stop_syn HB.out (by omega) (by omega) (by omega)
        have hout : Out w l n loss b k wr := ⟨_, hO.disk, hstop⟩
        clear hstop hO
        by_cases hlt : k < n
        · have hlt2 : ¬ (k : Int) < 60 := by omega
          have hltz : (k : Int) < (n : Int) := by omega
          go_wp2_with fail
          go_meet
          exact ⟨k, hkn, hk60, rfl, hout⟩
        · have hltz : ¬ (k : Int) < (n : Int) := by omega
          go_wp2_with fail
          go_meet
          exact ⟨k, hkn, hk60, rfl, hout⟩
theorem own : ownKnob Tryz.prog.godebug = none := by kernel_rfl
theorem laidOut : laidOutB Tryz.prog = true := by kernel_rfl
set_option maxRecDepth 100000 in
theorem contract (H : Type) (enc : TypeId × Value → H) (W : World) (base : Nat) (args : Array Value) (ds gs : List (DataW H)) (before : List MemPlace)
    (hval0 : ∀ (j : Nat) t v, Tryz.f4.params[j]? = some t → args[j]? = some v → Value.okWide Tryz.prog W .any base t v)
    (hW : DataW.Whole enc Tryz.prog Tryz.f4.params.toList Rows.walHoldsSpec.vars false W args.toList ds gs before)
    (hsz0 : (DataW.weightsEach Tryz.prog (Tryz.f4.params.toList ++ Rows.walHoldsSpec.plain.varTypes Tryz.prog) (ds ++ gs)).all (· ≤ reachBytes) = true) :
    Calls Tryz.prog 4 args W fun e W' => ∃ v, e = .returned v ∧ Rows.walHoldsSpec.post enc Tryz.prog Tryz.f4 false true false false W args v W' := by
  have hval : ∀ (j : Nat) t v, Tryz.f4.params[j]? = some t → args[j]? = some v → Value.okWide Tryz.prog W .any base t v := hval0
  have hsz := hsz0
  clear hsz0
  have hW' := hW
  obtain ⟨p, q, hA0, hV, rfl, hfz, hnd⟩ := hW
  have hA : DataW.TrodAll enc Tryz.prog W 0 (fun _ => true) true Tryz.f4.params.toList args.toList ds p := hA0
  rw [Tryz.params4] at hA hval hsz
  obtain ⟨v0, vs0, d0, ds0, p0, q0, hargs, rfl, rfl, h0, r0⟩ := trodAll_cons hA
  obtain ⟨v1, vs1, d1, ds1, p1, q1, rfl, rfl, rfl, h1, r1⟩ := trodAll_cons r0
  obtain ⟨v2, vs2, d2, ds2, p2, q2, rfl, rfl, rfl, h2, r2⟩ := trodAll_cons r1
  obtain ⟨rfl, rfl, rfl⟩ := trodAll_nil r2
  obtain rfl : args = #[v0, v1, v2] := by cases args; simp_all
  obtain ⟨rfl, rfl⟩ := trodVars_none hV
  obtain ⟨A0, n0, c0, rfl⟩ := okWide_slice Tryz.underlying56 (hval 0 56 v0 rfl rfl)
  have k0 := h0
  have lt0 : ∀ x ∈ p0, x.block < W.heap.size := by obtain ⟨m, hm⟩ := k0; exact DataW.trod_lt m _ _ _ hm
  obtain ⟨a1, rfl, rfl, rfl, w1⟩ := open_int Tryz.underlying3 (hval 1 3 v1 rfl rfl) h1
  have bd1 : -9223372036854775808 ≤ a1 ∧ a1 ≤ 9223372036854775807 := by simpa [Lit.wf, IntKind.min, IntKind.max, IntKind.signed, IntKind.bits] using w1
  obtain ⟨a2, rfl, rfl, rfl, w2⟩ := open_int Tryz.underlying3 (hval 2 3 v2 rfl rfl) h2
  have bd2 : -9223372036854775808 ≤ a2 ∧ a2 ≤ 9223372036854775807 := by simpa [Lit.wf, IntKind.min, IntKind.max, IntKind.signed, IntKind.bits] using w2
  clear hA0 hval0
  obtain ⟨l0, e0, _, _, hc0, hcc0, hz0⟩ := arg_texts k0
  refine (walk A0 n0 c0 l0 a1 a2 W e0 ⟨hc0, hcc0⟩ (hz0 hsz (j := 0) rfl rfl) bd1 bd2).mono fun e W' ⟨he, bel⟩ => ?_
  subst he
  exact ⟨_, rfl, _, _, _, [], _, [], hW', trodAll_mk1 (shut_bool Tryz.underlying4 _), (trodAll_cons_mk (Below.trod laidOut (by kernel_rfl) (of_decide_eq_true (by kernel_rfl)) k0 bel lt0) (trodAll_cons_mk (shut_int Tryz.underlying3 w1) (trodAll_cons_mk (shut_int Tryz.underlying3 w2) trodAll_mk0))), rfl, bel.frame _, fun h => by cases h⟩
set_option maxRecDepth 100000 in
theorem lifted (os : Os) (started : os.Started) (H : Type) (enc : TypeId × Value → H) :
    ReturnsInHanded {} Tryz.checked os 4 .any (Rows.walHoldsSpec.pre6 enc Tryz.prog Tryz.f4 Rows.walHoldsRow.domain false) (Rows.walHoldsSpec.post enc Tryz.prog Tryz.f4 false true false false) := by
  refine returnsInHanded_of_change_sized (C := Tryz.checked) own started (by kernel_rfl) Tryz.func4
    (ChangeSpec.witness6 (enc := enc) (C := Tryz.checked) false ⟨#[], #[.slice none 0 0, .int .i64 0, .int .i64 0], []⟩ 8 (by kernel_rfl) (by kernel_rfl) (by kernel_rfl) (by kernel_rfl)) ?_
  intro W base args ds gs before hval0 hW _ hsz0 _
  exact contract H enc W base args ds gs before hval0 hW hsz0
theorem over : Rows.walHoldsRow.holds Tryz.pinned (OpenSpec.ofChange Rows.walHoldsSpec) :=
  OpenClaim.holds_of_wide 4 Tryz.f4 rfl rfl rfl rfl rfl rfl rfl ⟨rfl, rfl, rfl, rfl, rfl⟩ rfl rfl rfl rfl rfl (by kernel_rfl) Tryz.func4 (by kernel_rfl)
    (of_decide_eq_true (by kernel_rfl)) (by unfold Func.isWrapper; first | (rw [if_pos (by decide +kernel)]; kernel_rfl) | (rw [if_neg (by decide +kernel)]; exact ⟨rfl, rfl⟩))
    (fun os started H enc _ => lifted os started H enc)
end Go.Proofs.YtjdmbkkdnonkkaaGreat.walHolds
namespace Go.Proofs.YtjdmbkkdnonkkaaGreat
theorem walHolds_holds : Rows.WalHoldsSaid := walHolds.over
#print axioms walHolds_holds
end Go.Proofs.YtjdmbkkdnonkkaaGreat
