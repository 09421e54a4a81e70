/- Texts of this seat, one behind the other. -/
import Derived.Test.YtbghokdlnnaeeaaGreatQ5
import Derived.SliceStrings
import Derived.SizedLaws
/- A journal's states that are begun anew: what is opened behind them (no Go text). -/
namespace Go.Proofs.YtbghokdlnnaeeaaGreat.Wl
open Go.RowKit Tx Pm Pl Pr Dk Fr
set_option linter.unusedVariables false

theorem strs_take {w : World} {a : Option Addr} {n m : Nat} {l : List ByteArray} (h : Tx.Strs w a n l) (hm : m ≤ n) : Tx.Strs w a m (l.take m) := Fr.Strs.take h hm
theorem snd_two {A : It} {st sm : Nat} {a : Int} {dn : Bool} (hp : A.path = pL) (hk : A.anew = false → A.kept.size ≤ A.data.size) (h : A.data.size ≤ 100000000000000000 ∧ A.kept.size ≤ 100000000000000000) (h2 : sm ≤ 100000) : SoundW ⟨[dirV, A], [], st, sm, a, dn⟩ := by
  refine ⟨rises_paths (a := [dirV, mk pL]) (by show [_, pL] = [_, A.path]; rw [hp]) (by show List.Pairwise _ _; decide +kernel), fun z hz ha => ?_, fun z hz => ?_, by show sm + 2 ≤ _; omega⟩
  · rcases mem2 hz with rfl | rfl
    · exact Nat.le_refl _
    · exact hk ha
  · rcases mem2 hz with rfl | rfl
    · decide
    · omega
theorem snd_three {A B : It} {st sm : Nat} {a : Int} {dn : Bool} (hp : A.path = pL) (hq : B.path = pT) (hk : A.anew = false → A.kept.size ≤ A.data.size) (hk2 : B.anew = false → B.kept.size ≤ B.data.size) (h : A.data.size ≤ 100000000000000000 ∧ A.kept.size ≤ 100000000000000000) (h3 : B.data.size ≤ 100000000000000000 ∧ B.kept.size ≤ 100000000000000000) (h2 : sm ≤ 100000) : SoundW ⟨[dirV, A, B], [], st, sm, a, dn⟩ := by
  refine ⟨rises_paths (a := [dirV, mk pL, mk pT]) (by show [_, pL, pT] = [_, A.path, B.path]; rw [hp, hq]) (by show List.Pairwise _ _; decide +kernel), fun z hz ha => ?_, fun z hz => ?_, by show sm + 3 ≤ _; omega⟩
  · rcases mem3 hz with rfl | rfl | rfl
    · exact Nat.le_refl _
    · exact hk ha
    · exact hk2 ha
  · rcases mem3 hz with rfl | rfl | rfl
    · decide
    · omega
    · omega
/-- A state that may be begun anew and opened: k records are sure, of n. -/
structure Stop (l : List ByteArray) (n k : Nat) (loss : Int) (s : St) : Prop where
  sound : SoundW s
  fit : s.L.length ≤ 1000000000 ∧ ∀ x ∈ s.L, x.path.size ≤ 8000000000000
  back : ∃ (c : ByteArray) (sn st sm : Nat), restartS s loss = J c sn st sm (-1) ∧ OpenOk (J c sn st sm (-1)) pL ∧ ∃ (R : List ByteArray) (sn' st' sm' : Nat), (R = l.take k ∨ (k < n ∧ R = l.take (k + 1))) ∧ openS (J c sn st sm (-1)) pL = (0, ⟨J (PK R) sn' st' sm' (-1), R, false⟩) ∧ st' ≤ 1000 ∧ sm' ≤ 1000
theorem fit_two {A : It} {st sm : Nat} {a : Int} {dn : Bool} (hp : A.path = pL) : (⟨[dirV, A], [], st, sm, a, dn⟩ : St).L.length ≤ 1000000000 ∧ ∀ x ∈ (⟨[dirV, A], [], st, sm, a, dn⟩ : St).L, x.path.size ≤ 8000000000000 := by
  refine ⟨by show 2 ≤ _; omega, fun z hz => ?_⟩
  rcases mem2 hz with rfl | rfl
  · decide
  · rw [hp]; decide
theorem take_wide {l : List ByteArray} (h : ∀ r ∈ l, r.size ≤ 140737488351232) (k : Nat) : ∀ r ∈ l.take k, r.size ≤ 140737488351232 := fun r hr => h r (List.mem_of_mem_take hr)
theorem stop_syn {l : List ByteArray} {n k sn st sm : Nat} {a loss : Int} {dn : Bool} (h : ∀ r ∈ l, r.size ≤ 140737488351232) (hk : k ≤ 61) (h1 : st ≤ 500) (h2 : sm ≤ 500) : Stop l n k loss ⟨[dirV, syn pL (PK (l.take k)) sn], [], st, sm, a, dn⟩ := by
  have hw := take_wide h k
  have hs := PK_le hw (show (l.take k).length ≤ 61 by rw [List.length_take]; omega) (by omega)
  exact ⟨snd_two rfl (fun _ => Nat.le_refl _) ⟨by show (PK (l.take k)).size ≤ _; omega, by show (PK (l.take k)).size ≤ _; omega⟩ (by omega), fit_two rfl, _, sn, st, sm, j_restart _ _ _ _ _ _ _, openok_PK hw (by rw [List.length_take]; omega) (by omega) (by omega) (by omega), l.take k, sn, st, sm, .inl rfl, open_PK hw, by omega, by omega⟩
theorem stop_raw {l : List ByteArray} {n k sn st sm : Nat} {a loss : Int} {dn : Bool} {r : ByteArray} (h : ∀ r ∈ l, r.size ≤ 140737488351232) (hl : l.length = n) (hr : l[k]? = some r) (hk : k ≤ 60) (h1 : st ≤ 500) (h2 : sm ≤ 500) : Stop l n k loss ⟨[dirV, ⟨pL, false, PK (l.take k) ++ Fm.pk r, PK (l.take k), true, false, sn⟩], [], st, sm, a, dn⟩ := by
  have hkn := (List.getElem?_eq_some_iff.1 hr).1
  have e : l.take (k + 1) = l.take k ++ [r] := by
    rw [List.take_succ_eq_append_getElem hkn]
    rw [List.getElem?_eq_getElem hkn] at hr
    injection hr with hr
    rw [hr]
  have hw : ∀ x ∈ l.take k ++ [r], x.size ≤ 140737488351232 := by rw [← e]; exact take_wide h (k + 1)
  have hs := PK_le hw (show (l.take k ++ [r]).length ≤ 61 by rw [← e, List.length_take]; omega) (by omega)
  rw [← PK_snoc]
  have hle : (PK (l.take k)).size ≤ (PK (l.take k ++ [r])).size := by rw [PK_snoc, ByteArray.size_append]; omega
  obtain ⟨c, hc, c1, c2, c3⟩ := l_restart (PK (l.take k ++ [r])) (PK (l.take k)) sn st sm a loss dn hle
  obtain ⟨R, sn', st', sm', hR, ho, b1, b2⟩ := open_torn (l.take k) r c (sm + 1) st (sm + 1) hw c1 c3
  have hlen : (Fm.sc c 0).1.length ≤ 10000000000 := by
    have hs3 := scan_PK (l.take k ++ [r]) c.size hw
    rw [← c3] at hs3
    rw [hs3, ← e]
    show ((l.take (k + 1)).take _).length ≤ _
    rw [List.length_take, List.length_take]
    omega
  refine ⟨snd_two rfl (fun _ => hle) ⟨by show (PK _).size ≤ _; omega, by show (PK _).size ≤ _; omega⟩ (by omega), fit_two rfl, c, _, _, _, hc, openok_J (by omega) (by omega) (by omega) (by omega) hlen, R, sn', st', sm', ?_, ho, by omega, by omega⟩
  rcases hR with hR | hR
  · exact .inl hR
  · exact .inr ⟨by omega, by rw [hR, e]⟩
end Go.Proofs.YtbghokdlnnaeeaaGreat.Wl

/- An argument that is a list of texts: its texts, their bulk, their sizes. -/
namespace Go.Proofs.YtbghokdlnnaeeaaGreat.Dk
open Go.ChangeShapes Go.WideShapes Go.ChangeAt Go.RowKit Tx
set_option linter.unusedVariables false

theorem bulk_strs {H : Type} (l : List ByteArray) : Rows.uptoBulkAll (strs (H := H) l) = (l.map (·.size)).sum + l.length := by
  induction l with
  | nil => rfl
  | cons s l ih =>
    have e : Rows.uptoBulkAll (strs (H := H) (s :: l)) = (s.data.toList.length + 1) + Rows.uptoBulkAll (strs (H := H) l) := rfl
    rw [e, ih, len_l, List.map_cons, List.sum_cons, List.length_cons]
    omega
theorem str_weights {H : Type} (s : ByteArray) : DataW.weights Tryz.prog 9 (.lit (.string s.data.toList) : DataW H) = [s.data.toList.length] := by
  rw [DataW.weights]
theorem strs_weights {H : Type} {x : ByteArray} {n : Nat} : ∀ {l : List ByteArray}, x ∈ l → n ∈ DataW.weights Tryz.prog 9 (.lit (.string x.data.toList) : DataW H) → n ∈ DataW.weightsAll Tryz.prog 9 (strs (H := H) l)
  | y :: l, hx, hn => by
    have e : strs (H := H) (y :: l) = .lit (.string y.data.toList) :: strs l := rfl
    rw [e, DataW.weightsAll, List.mem_append]
    rcases List.mem_cons.1 hx with rfl | hx
    · exact .inl hn
    · exact .inr (strs_weights hx hn)
/-- Each text is of a size that a machine may hold. -/
def Wide1 (l : List ByteArray) : Prop := ∀ x ∈ l, x.size ≤ 140737488351232
theorem wide_strs {H : Type} {ts : List TypeId} {ds : List (DataW H)} (h : (DataW.weightsEach Tryz.prog ts ds).all (· ≤ reachBytes) = true) {j : Nat} {l : List ByteArray} {rest : List (DataW H)} (ht : ts[j]? = some 56) (hd : ds[j]? = some (.slice (strs l) rest)) : Wide1 l := by
  intro x hx
  have hall := List.all_eq_true.1 h
  have hm := DataW.weights_mem_each (P := Tryz.prog) ht hd x.data.toList.length (by
    rw [DataW.weights, Tryz.underlying56]
    exact List.mem_cons_of_mem _ (List.mem_append_left _ (strs_weights hx (by rw [str_weights]; simp))))
  have := of_decide_eq_true (hall _ hm)
  rw [len_l] at this
  exact this
theorem arg_texts {H : Type} {enc : TypeId × Value → H} {w : World} {base : Nat} {spare : Nat → Bool} {held : Bool} {a : Option Addr} {n c : Nat} {d : DataW H} {p : List MemPlace} (h : DataW.Trod enc Tryz.prog w base spare held 56 (.slice a n c) d p) :
    ∃ l : List ByteArray, Strs w a n l ∧ (l.map (·.size)).sum ≤ Rows.uptoBulk d ∧ l.length ≤ Rows.uptoBulk d ∧ n ≤ c ∧ c ≤ 9223372036854775807 ∧ ∀ {ts : List TypeId} {ds : List (DataW H)} {j : Nat}, (DataW.weightsEach Tryz.prog ts ds).all (· ≤ reachBytes) = true → ts[j]? = some 56 → ds[j]? = some d → Wide1 l := by
  obtain ⟨fuel, hf⟩ := h
  rcases open_strings Tryz.underlying56 Tryz.underlying9 (by kernel_rfl) hf with ⟨hcs, _⟩ | ⟨x, len, cap, ss, hcs, _, hl, hm, hz, hx, hcell, _⟩
  · simp [Value.cells] at hcs
    obtain ⟨rfl, rfl, rfl⟩ := hcs
    exact ⟨[], ⟨rfl, .inl rfl⟩, Nat.zero_le _, Nat.zero_le _, by omega, by omega, fun _ _ _ x hx => by cases hx⟩
  · simp [Value.cells] at hcs
    obtain ⟨rfl, rfl, rfl⟩ := hcs
    unfold maxLen at hm
    have hz' : n ≤ ss.length := by rw [hz]; split <;> omega
    have hd : d = .slice (strs (ss.take n)) (strs (ss.drop n)) := congrArg Prod.fst hx
    have e : Rows.uptoBulk d = Rows.uptoBulkAll (strs (H := H) (ss.take n)) + Rows.uptoBulkAll (strs (H := H) (ss.drop n)) + 1 := by rw [hd]; rfl
    rw [bulk_strs] at e
    have hlen : (ss.take n).length = n := by rw [List.length_take]; omega
    refine ⟨ss.take n, ⟨hlen, ?_⟩, by omega, by omega, hl, by omega, fun h1 h2 h3 => wide_strs h1 h2 (by rw [h3, hd])⟩
    by_cases h0 : n = 0
    · exact .inl h0
    · right
      obtain ⟨b, off, spot⟩ := x
      have hc0 := hcell 0 (by omega)
      have hspot : spot = none := by simpa [Addr.add] using World.cell?_spot hc0
      subst hspot
      refine ⟨b, off, rfl, ?_, fun k y hk => ?_⟩
      · have := World.block_lt_of_cell? w _ hc0
        rwa [WideShapes.add_plain] at this
      · have hk2 := (List.getElem?_eq_some_iff.1 hk).1
        rw [hlen] at hk2
        have hk3 := hcell k (by omega)
        rw [WideShapes.add_plain] at hk3
        rw [hk3]
        rw [List.getElem?_take_of_lt hk2] at hk
        rw [List.getD_eq_getElem?_getD, hk]
        rfl
end Go.Proofs.YtbghokdlnnaeeaaGreat.Dk
