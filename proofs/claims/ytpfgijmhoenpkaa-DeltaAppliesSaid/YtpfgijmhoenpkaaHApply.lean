/- Package delta's Apply and the document's own: contracts. -/
import Derived.Test.YtpfgijmhoenpkaaHTxt
import Derived.Lib.AppendStr
namespace Go.Proofs.Ytpfgijmhoenpkaa.Dl
open Go.RowKit Wm Wr Dm
set_option linter.unusedVariables false

/-- A row of bytes of one's own. -/
def By (w : World) (B : Nat) (v : Value) (l : List UInt8) : Prop := w.ownsRow B 5 1 v l.length (l.map bv)
theorem By.nil (w : World) (B : Nat) : By w B (.slice none 0 0) [] := World.ownsRow_nil _ _ _ _
theorem By.more {w : World} {B : Nat} {v : Value} {l : List UInt8} {s : ByteArray} (h : w.ownsRow B 5 1 v (l.length + s.size) (l.map bv ++ Lib.strCells s)) : By w B v (l ++ s.data.toList) := by
  unfold By
  rw [List.length_append, Wm.len_l, List.map_append]
  exact h
theorem By.kept {w w1 : World} {B : Nat} {v : Value} {l : List UInt8} (h : By w B v l) (hb : Below w.heap.size w w1) : By w1 B v l := by
  refine ⟨h.1, ?_⟩
  rcases h.2 with h0 | ⟨g', cap', cur, hv, hg, hh, r⟩
  · exact .inl h0
  · exact .inr ⟨g', cap', cur, hv, hg, (hb.block g' (Array.getElem?_eq_some_iff.1 hh).1).trans hh, r⟩
/-- Its form, and what it reads as. -/
theorem By.form {w : World} {B : Nat} {v : Value} {l : List UInt8} (h : By w B v l) : ∃ a c, v = .slice a l.length c ∧ l.length ≤ maxLen ∧ (convert 32 9 (.slice a l.length c)).run Try.prog w = .ok (.string (Tx.tb l)) w := by
  rcases h.2 with ⟨hv, h0⟩ | ⟨g, cap, cur, hv, hg, hh, hn, hc, _⟩
  · have hl : l = [] := List.eq_nil_of_length_eq_zero h0
    subst hl
    exact ⟨none, 0, hv, Nat.zero_le _, run_convert_bytes_nil w 32 5 Try.underlying32 Try.underlying5 0 0 _ Try.underlying9⟩
  · refine ⟨some ⟨g, 0, none⟩, cap, hv, by omega, ?_⟩
    refine run_convert_bytes_back w 32 9 5 ⟨g, 0, none⟩ cap l Try.underlying32 Try.underlying5 Try.underlying9 ?_
    intro j hj
    refine World.ownsRow.cells (show w.ownsRow B 5 1 v l.length (l.map bv) from h) (g := g) (by rw [hv]; rfl) j _ ?_
    rw [List.getElem?_map, List.getElem?_eq_getElem hj]
    rfl

theorem empty_is {s : ByteArray} (h : s.size = 0) : s.data.toList = [] := List.eq_nil_of_length_eq_zero (by rw [Wm.len_l]; exact h)
theorem isEmpty_is {s : ByteArray} {b : Bool} (h : decide (s.size = 0) = b) : s.toList.isEmpty = b := by
  rw [ByteArray.toList_eq, ← h]
  cases hl : s.data.toList with
  | nil =>
    have h0 : s.size = 0 := by rw [← Wm.len_l, hl]; rfl
    simp [h0]
  | cons x l =>
    have h0 : s.size ≠ 0 := by rw [← Wm.len_l, hl]; simp
    simp [h0]
def szOf : Value → Nat
  | .string s => s.size
  | _ => 0

theorem tb_l (s : List UInt8) : (Tx.tb s).size = s.length := Tx.tb_size s
theorem pc_err {base l : List UInt8} {room : Nat} : (pc base l room).2.2 ≤ 3 := by
  unfold pc
  split
  · rcases rdU_alt l with ⟨e, _, h3, h⟩ | ⟨_, _, h, _⟩ <;> rw [h] <;> simp <;> omega
  · split
    · simp
    · split
      · split
        · rcases rdU_alt (l.drop (rdU l).2.1) with ⟨e, _, h3, h⟩ | ⟨_, _, h, _⟩ <;> rw [h] <;> simp <;> omega
        · split <;> simp
      · split <;> simp

set_option maxRecDepth 100000 in
set_option maxHeartbeats 2000000 in
theorem apply_any (base d : ByteArray) (w : World) (hb : base.size ≤ maxLen) (hd : d.size ≤ maxLen) :
    Calls Try.prog 6 #[.string base, .string d] w fun e w' => e = .returned (.tuple #[.string (Tx.tb (ap base.data.toList d.data.toList).1), .int .i64 ((ap base.data.toList d.data.toList).2 : Int)]) ∧ Below w.heap.size w w' := by
  obtain ⟨i0, hi, hz0, hz1, hz2⟩ := info_parts info5
  have cn := num_any d w hd
  unfold rst at cn
  rcases rdU_alt d.data.toList with ⟨r, hr0, hr3, h⟩ | ⟨N, m, h, hN, hm, hm0⟩
  · have hap : ap base.data.toList d.data.toList = ([], r) := by unfold ap; rw [h]; simp only; rw [if_pos hr0]
    rw [hap]
    rw [h] at cn
    simp only at cn ⊢
    rw [if_neg hr0] at cn
    have hne : ((r : Int) == 0) = false := by simp; omega
    clear h hr0 hap
    unfold maxLen at hb hd
    go_enter Try.func6, Try.ntmps6
    go_wp2_with fail
    go_at_call 10
    refine cn.mono ?_
    rintro e w1 ⟨rfl, hB⟩
    go_wp2_with fail
    go_ret2
    exact ⟨rfl, hB⟩
  · by_cases hN4 : 4096 < N
    · have hap : ap base.data.toList d.data.toList = ([], 4) := by unfold ap; rw [h]; simp only; rw [if_neg (by simp), if_pos hN4]
      rw [hap]
      rw [h] at cn
      simp only at cn ⊢
      rw [if_pos trivial] at cn
      clear h hap
      unfold maxLen at hb hd
      go_enter Try.func6, Try.ntmps6
      go_wp2_with fail
      go_at_call 10
      refine cn.mono ?_
      rintro e w1 ⟨rfl, hB⟩
      go_wp2_with fail
      go_ret2
      exact ⟨rfl, hB⟩
    · have hap : ap base.data.toList d.data.toList = apR base.data.toList N [] (d.extract m d.size).data.toList := by unfold ap; rw [h]; simp only; rw [if_neg (by simp), if_neg hN4, drop_l]
      rw [hap]
      rw [h] at cn
      simp only at cn ⊢
      rw [if_pos trivial] at cn
      have hd2 : (d.extract m d.size).size ≤ maxLen := by simp; omega
      generalize d.extract m d.size = rest at cn hap hd2 ⊢
      obtain ⟨RES, hres⟩ : ∃ R, R = apR base.data.toList N [] rest.data.toList := ⟨_, rfl⟩
      rw [← hres]
      have HRES := Lib.hid hres
      clear h hap hres hm hm0
      go_enter Try.func6, Try.ntmps6
      go_wp2_with fail
      go_at_call 10
      refine cn.mono ?_
      rintro e w1 ⟨rfl, hB⟩
      clear cn
      go_wp2_with fail
      go_loopw [7, 9] (fun rv tv wr => ∃ (r : ByteArray) (t : List UInt8), rv = .string r ∧ Hid (RES = apR base.data.toList N t r.data.toList) ∧ t.length ≤ N ∧ r.size ≤ maxLen ∧ By wr w.heap.size tv t ∧ Below w.heap.size w wr) (fun rv _ _ => szOf rv)
      case atStart => exact ⟨rest, [], rfl, HRES, Nat.zero_le _, hd2, By.nil _ _, hB⟩
      case round =>
        obtain ⟨r, t, rfl, hR, ht, hr, hown, hBr⟩ := hrel
        have hown2 := hown
        obtain ⟨a, c, rfl, htl, hcv⟩ := hown2.form
        by_cases h0 : r.size = 0
        · have hem : r.toList.isEmpty = true := isEmpty_is (decide_eq_true h0)
          have hR2 : RES = if t.length < N then ([], 2) else (t, 0) := by rw [hR.out, empty_is h0, apR_end]
          have hre : ¬ (r.toList = []) ∨ True := .inr trivial
          unfold maxLen at htl hb hr
          by_cases hlt : t.length < N
          · rw [if_pos hlt] at hR2
            have HR2 := Lib.hid hR2
            have hltz : (t.length : Int) < (N : Int) := by omega
            clear hR2 hR hown hown2 hcv h0
            generalize t.length = tn at hlt hltz ht htl ⊢
            go_wp2_with fail
            go_ret2
            rw [HR2.out]
            exact ⟨rfl, hBr⟩
          · rw [if_neg hlt] at hR2
            have HR2 := Lib.hid hR2
            have hltz : ¬ ((t.length : Int) < (N : Int)) := by omega
            clear hR2 hR hown hown2 h0
            generalize t.length = tn at hlt hltz ht htl hcv ⊢
            go_wp2_with fail
            go_ret2
            rw [HR2.out]
            exact ⟨rfl, hBr⟩
        · have hem : r.toList.isEmpty = false := isEmpty_is (decide_eq_false h0)
          have cp := fun W => piece_any base r (N - t.length) W hb hr (by omega)
          have hsub : ((N - t.length : Nat) : Int) = (N : Int) - (t.length : Int) := by omega
          have herr := pc_err (base := base.data.toList) (l := r.data.toList) (room := N - t.length)
          have hrne : r.data.toList ≠ [] := fun e => h0 (by rw [← Wm.len_l, e]; rfl)
          unfold lft at cp
          obtain ⟨p, q, E, hp⟩ : ∃ p q E, pc base.data.toList r.data.toList (N - t.length) = (p, q, E) := ⟨_, _, _, rfl⟩
          rw [hp] at cp herr
          simp only at cp herr
          by_cases hE : E = 0
          · subst hE
            have hok := pc_ok (base := base.data.toList) (l := r.data.toList) (room := N - t.length) (by rw [hp])
            rw [hp] at hok
            obtain ⟨ok1, ok2, ok3, ok4⟩ := hok
            simp only at ok1 ok2 ok3 ok4
            rw [Wm.len_l] at ok2
            rw [if_pos rfl, hsub] at cp
            have hR2 : RES = apR base.data.toList N (t ++ p) (r.extract q r.size).data.toList := by rw [hR.out, apR_more hrne hp, drop_l]
            have HR2 := Lib.hid hR2
            have hrs : (r.extract q r.size).size < r.size := by simp; omega
            have hts : t.length + p.length ≤ N := by omega
            have HS := Lib.hid hrs
            have hps := Tx.tb_size p
            have HTL := Lib.hid (Tx.tb_list p)
            generalize r.extract q r.size = r2 at cp HR2 hrs HS
            generalize Tx.tb p = P at cp hps HTL
            clear hR hR2 hp hcv h0 hrne ok1 ok2 ok3 ok4 herr hsub hown2
            unfold maxLen at htl hb hr
            generalize htn : t.length = tn at cp ht htl hts hown ⊢
            have hBW := Lib.hid (fun V (hV : Below wr.heap.size wr V) => hown.kept hV)
            have HTN := Lib.hid htn
            clear htn
            go_wp2_with fail
            go_at_call 11
            refine (cp _).mono ?_
            rintro e w5 ⟨rfl, hb5⟩
            have hB5 := Wr.below_call hBr hb5
            have hown5 := hBW.out w5 hb5
            unfold By at hown5
            rw [HTN.out] at hown5
            have k3 : tn + P.size ≤ maxLen := by unfold maxLen; omega
            have k4 : tn + P.size ≤ 140737488355328 := by omega
            have k5 := hB5.size
            clear cp hb5 hown
            go_wp2_with (at_builtin; refine Lib.wpList_append_own_string _ rfl _ _ 32 9 rfl w.heap.size 5 i0 Try.underlying32 Try.underlying9 hi hz0 hz1 hz2 _ _ _ rfl hown5 _ rfl k3 k4 k5 ?_)
            intro v' w6 hown6 hgrow6 _
            have hB6 : Below w.heap.size w w6 := hB5.grown hgrow6 hB5.size (fun k hk => (hown5.lt k hk).1)
            have hO6 : By w6 w.heap.size v' (t ++ p) := by
              rw [← HTL.out]
              refine By.more ?_
              rw [HTN.out, hps]
              exact hown6
            have hL6 : (t ++ p).length ≤ N := by rw [List.length_append, HTN.out, ← hps]; omega
            clear hown6 hgrow6 hown5 hB5
            go_wp2_with fail
            go_roundw
            case rel => exact ⟨r2, t ++ p, rfl, HR2, hL6, by unfold maxLen; omega, hO6, hB6⟩
            case measure => simp [szOf]; omega
          · have hR2 : RES = ([], E) := by rw [hR.out]; exact apR_bad hrne (by rw [hp]) hE
            have HR2 := Lib.hid hR2
            rw [if_neg hE, hsub] at cp
            have hne : ((E : Int) == 0) = false := by simp; omega
            clear hR hR2 hp hcv h0 hrne hsub hown hown2
            unfold maxLen at htl hb hr
            generalize t.length = tn at cp ht htl ⊢
            go_wp2_with fail
            go_at_call 11
            refine (cp _).mono ?_
            rintro e w5 ⟨rfl, hb5⟩
            have hB5 := Wr.below_call hBr hb5
            go_wp2_with fail
            go_ret2
            rw [HR2.out]
            exact ⟨rfl, hB5⟩
end Go.Proofs.Ytpfgijmhoenpkaa.Dl
