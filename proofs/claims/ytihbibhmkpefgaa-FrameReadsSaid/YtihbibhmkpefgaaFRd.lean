/- What the package's own Read answers at a place: contract. -/
import Derived.Test.YtihbibhmkpefgaaFPack
namespace Go.Proofs.Ytihbibhmkpefgaa.Fr
open Go.RowKit Wm Wr Fm
set_option linter.unusedVariables false

/-- What Read answers at a place. -/
def frAt (s : ByteArray) (a : Int) : ByteArray × Int × Nat :=
  if a < 0 ∨ (s.size : Int) < a then (⟨#[]⟩, 0, 1)
  else if (fr (s.extract a.toNat s.size)).2.2 ≠ 0 then (⟨#[]⟩, 0, (fr (s.extract a.toNat s.size)).2.2)
  else ((fr (s.extract a.toNat s.size)).1, a + (fr (s.extract a.toNat s.size)).2.1, 0)

theorem frAt_out {s : ByteArray} {a : Int} (h : a < 0 ∨ (s.size : Int) < a) : frAt s a = (⟨#[]⟩, 0, 1) := by rw [frAt, if_pos h]
theorem frAt_bad {s : ByteArray} {a : Nat} {t : ByteArray} {n e : Nat} (h : a ≤ s.size) (h2 : fr (s.extract a s.size) = (t, n, e)) (he : e ≠ 0) : frAt s a = (⟨#[]⟩, 0, e) := by
  rw [frAt, if_neg (by omega), Int.toNat_natCast, h2, if_pos he]
theorem frAt_ok {s : ByteArray} {a : Nat} {t : ByteArray} {n : Nat} (h : a ≤ s.size) (h2 : fr (s.extract a s.size) = (t, n, 0)) : frAt s a = (t, (a : Int) + n, 0) := by
  rw [frAt, if_neg (by omega), Int.toNat_natCast, h2, if_neg (fun h => h rfl)]

theorem ts_front {X t : ByteArray} {n : Nat} (h : rdT X = (t, n, 0)) : X.extract 0 n = ts t := by
  rcases rdT_cases X with ⟨e, h0, h1, _, h3⟩ | ⟨x, m, _, _, _, _, h3⟩ | ⟨x, m, hu, hn, hx, h3⟩
  · rw [h3] at h
    simp only [Prod.mk.injEq] at h
    exact absurd h.2.2 h0
  · rw [h3] at h
    simp at h
  · rw [h3] at h
    simp only [Prod.mk.injEq] at h
    obtain ⟨rfl, rfl, _⟩ := h
    have hk := rdU_ok hu
    have e1 : (X.extract m (m + x)).size = x := by simp; omega
    have e2 : vs x = X.extract 0 m := by
      apply ByteArray.ext
      rw [vs, hk.2.1, ByteArray.data_extract]
      apply Array.toList_inj.1
      simp
    rw [ts, e1, e2]
    apply ByteArray.ext
    rw [ByteArray.data_append, ByteArray.data_extract, ByteArray.data_extract, ByteArray.data_extract, Array.extract_append_extract]
    congr 1 <;> omega
/-- The bytes behind a text's are its sum's, or the frame isn't one. -/
theorem pk_iff {X t : ByteArray} {n : Nat} (h : rdT X = (t, n, 0)) : X.extract 0 (n + 4) = pk t ↔ X.extract n (n + 4) = sum4 t.data.toList := by
  have e : X.extract 0 (n + 4) = ts t ++ X.extract n (n + 4) := by
    rw [← ts_front h]
    apply ByteArray.ext
    rw [ByteArray.data_append, ByteArray.data_extract, ByteArray.data_extract, ByteArray.data_extract, Array.extract_append_extract]
    congr 1 <;> omega
  rw [e, pk]
  constructor
  · intro h2
    have h3 := congrArg (fun x : ByteArray => x.data.toList) h2
    simp only [ByteArray.data_append, Array.toList_append] at h3
    exact ByteArray.ext (Array.toList_inj.1 (List.append_cancel_left h3))
  · intro h2
    rw [h2]
theorem within (s : ByteArray) (k n : Nat) (h : k + n + 4 ≤ s.size) : (s.extract k s.size).extract n (n + 4) = s.extract (k + n) (k + n + 4) := by
  rw [ByteArray.extract_extract]
  congr 1
  omega

theorem ret3s {v v' : ByteArray} {x y x' y' : Int} (h : v = v') (h1 : x = x') (h2 : y = y') : Ending.returned (.tuple #[.string v, .int .i64 x, .int .i64 y]) = .returned (.tuple #[.string v', .int .i64 x', .int .i64 y']) := by rw [h, h1, h2]

set_option maxRecDepth 100000 in
set_option maxHeartbeats 1000000 in
theorem fRead_any (s : ByteArray) (a : Int) (w : World) (hs : s.size ≤ 281474976710656) (h1 : -9223372036854775808 ≤ a) (h2 : a ≤ 9223372036854775807) :
    Calls Try.prog 15 #[.string s, .int .i64 a] w fun e w' => e = .returned (.tuple #[.string (frAt s a).1, .int .i64 (frAt s a).2.1, .int .i64 ((frAt s a).2.2 : Int)]) ∧ Below w.heap.size w w' := by
  by_cases hout : a < 0 ∨ (s.size : Int) < a
  · rw [frAt_out hout]
    by_cases h0 : a < 0
    · clear hout
      go_enter Try.func15, Try.ntmps15
      go_wp2_with fail
      go_ret3
      exact ⟨rfl, Below.refl _ _⟩
    · have h3 : (s.size : Int) < a := by omega
      clear hout
      go_enter Try.func15, Try.ntmps15
      go_wp2_with fail
      go_ret3
      exact ⟨rfl, Below.refl _ _⟩
  · obtain ⟨k, rfl⟩ : ∃ k : Nat, a = (k : Int) := ⟨a.toNat, by omega⟩
    have hk : k ≤ s.size := by omega
    have hk' : (k : Int) ≤ s.size := by omega
    have hXs : (s.extract k s.size).size = s.size - k := by simp
    have cn := fun W => new_any (s.extract k s.size) W
    have ct := fun W (h : Rat W w.heap.size (s.extract k s.size)) => text_any w.heap.size (s.extract k s.size) W h (by unfold maxLen; omega)
    have hR0 := rat_new w (s.extract k s.size)
    clear hout
    rcases fr_e (s.extract k s.size) with ⟨e, h0, h1, h2, h3⟩ | ⟨t, n, h, hn, ht, hlt, h3⟩ | ⟨t, n, h, hn, ht, hne, h3⟩ | ⟨t, n, h, hn, ht, heq, h3⟩
    · obtain ⟨t, n, e', h⟩ := trip (rdT (s.extract k s.size))
      rw [h] at ct h2
      have h2' : e' = e := h2
      subst h2'
      rw [frAt_bad hk h3 h0]
      have hne : ((e' : Int) == 0) = false := by simp; omega
      have hne' : (!((e' : Int) == 0)) = true := by simp; omega
      clear h h3 h2 h0
      go_enter Try.func15, Try.ntmps15
      go_wp2_with (go_at_call 25; refine (cn _).mono ?_; rintro e w1 ⟨rfl, rfl⟩)
      go_at_call 26
      refine (ct _ hR0).mono ?_
      rintro e w2 ⟨rfl, hR, hg⟩
      have hb := below_at ((Below.refl w.heap.size w).alloc (Nat.le_refl _) _) hg (Nat.le_refl _)
      go_wp2_with fail
      go_ret3
      exact ⟨rfl, hb⟩
    · rw [frAt_bad hk h3 (by omega)]
      rw [h] at ct
      have hL : ((s.extract k s.size).extract n (s.extract k s.size).size).size = (s.extract k s.size).size - n := by simp
      have cl := fun W b h => left_any b ((s.extract k s.size).extract n (s.extract k s.size).size) W h (by unfold maxLen; omega)
      rw [hL] at cl
      have hlt' : (((s.extract k s.size).size - n : Nat) : Int) < 4 := by omega
      obtain ⟨L, hL2⟩ : ∃ L, L = (s.extract k s.size).size - n := ⟨_, rfl⟩
      rw [← hL2] at cl hlt'
      clear h h3 hL hL2
      go_enter Try.func15, Try.ntmps15
      go_wp2_with (go_at_call 25; refine (cn _).mono ?_; rintro e w1 ⟨rfl, rfl⟩)
      go_at_call 26
      refine (ct _ hR0).mono ?_
      rintro e w2 ⟨rfl, hR, hg⟩
      have hb := below_at ((Below.refl w.heap.size w).alloc (Nat.le_refl _) _) hg (Nat.le_refl _)
      go_wp2_with (go_at_call 27; refine (cl _ _ hR).mono ?_; rintro e w3 ⟨rfl, rfl⟩)
      go_ret3
      exact ⟨rfl, hb⟩
    · rw [frAt_bad hk h3 (by omega)]
      have hne2 : (s.extract k s.size).extract n (n + 4) ≠ sum4 t.data.toList := fun h4 => hne ((pk_iff h).2 h4)
      rw [within s k n (by omega)] at hne2
      rw [h] at ct
      have hL : ((s.extract k s.size).extract n (s.extract k s.size).size).size = (s.extract k s.size).size - n := by simp
      have cl := fun W b h => left_any b ((s.extract k s.size).extract n (s.extract k s.size).size) W h (by unfold maxLen; omega)
      rw [hL] at cl
      obtain ⟨L, hL2⟩ : ∃ L, L = (s.extract k s.size).size - n := ⟨_, rfl⟩
      rw [← hL2] at cl
      have hL3 : 4 ≤ (L : Int) := by omega
      have hL4 : (s.size : Int) - (L : Int) = ((k + n : Nat) : Int) := by omega
      have hw : IntKind.i64.wrap (((k + n : Nat) : Int)) = ((k + n : Nat) : Int) := IntWalk.i64_in _ (by omega)
      have hw2 : IntKind.i64.wrap (((k + n : Nat) : Int) + 4) = ((k + n : Nat) : Int) + 4 := IntWalk.i64_in _ (by omega)
      have hx := bytes_ne hne2
      have csu := fun W => sumOf_any t W (by unfold maxLen; omega)
      obtain ⟨Q, hQ⟩ : ∃ Q, Q = sum4 t.data.toList := ⟨_, rfl⟩
      rw [← hQ] at hx csu
      have hle : ((k + n : Nat) : Int) + 4 ≤ s.size := by omega
      clear h h3 hL hL2 hne hne2 hQ
      go_enter Try.func15, Try.ntmps15
      go_wp2_with (go_at_call 25; refine (cn _).mono ?_; rintro e w1 ⟨rfl, rfl⟩)
      go_at_call 26
      refine (ct _ hR0).mono ?_
      rintro e w2 ⟨rfl, hR, hg⟩
      have hb := below_at ((Below.refl w.heap.size w).alloc (Nat.le_refl _) _) hg (Nat.le_refl _)
      go_wp2_with (go_at_call 27; refine (cl _ _ hR).mono ?_; rintro e w3 ⟨rfl, rfl⟩)
      go_region_with ((go_at_call 23; refine (csu _).mono ?_; rintro e w1 ⟨rfl, hb1⟩))
      all_goals
        go_wp2_with fail
        go_ret3
        exact ⟨rfl, below_call hb.drew hb1⟩
    · rw [frAt_ok hk h3]
      have hne2 : (s.extract k s.size).extract n (n + 4) = sum4 t.data.toList := (pk_iff h).1 heq
      rw [within s k n (by omega)] at hne2
      rw [h] at ct
      have hL : ((s.extract k s.size).extract n (s.extract k s.size).size).size = (s.extract k s.size).size - n := by simp
      have cl := fun W b h => left_any b ((s.extract k s.size).extract n (s.extract k s.size).size) W h (by unfold maxLen; omega)
      rw [hL] at cl
      obtain ⟨L, hL2⟩ : ∃ L, L = (s.extract k s.size).size - n := ⟨_, rfl⟩
      rw [← hL2] at cl
      have hL3 : 4 ≤ (L : Int) := by omega
      have hL4 : (s.size : Int) - (L : Int) = ((k + n : Nat) : Int) := by omega
      have hw : IntKind.i64.wrap (((k + n : Nat) : Int)) = ((k + n : Nat) : Int) := IntWalk.i64_in _ (by omega)
      have hw2 : IntKind.i64.wrap (((k + n : Nat) : Int) + 4) = ((k + n : Nat) : Int) + 4 := IntWalk.i64_in _ (by omega)
      have hx : ((s.extract (k + n) (k + n + 4)).toList == (sum4 t.data.toList).toList) = true := by rw [hne2]; exact beq_self_eq_true _
      have csu := fun W => sumOf_any t W (by unfold maxLen; omega)
      obtain ⟨Q, hQ⟩ : ∃ Q, Q = sum4 t.data.toList := ⟨_, rfl⟩
      rw [← hQ] at hx csu
      have hle : ((k + n : Nat) : Int) + 4 ≤ s.size := by omega
      clear h h3 hL hL2 heq hne2 hQ
      go_enter Try.func15, Try.ntmps15
      go_wp2_with (go_at_call 25; refine (cn _).mono ?_; rintro e w1 ⟨rfl, rfl⟩)
      go_at_call 26
      refine (ct _ hR0).mono ?_
      rintro e w2 ⟨rfl, hR, hg⟩
      have hb := below_at ((Below.refl w.heap.size w).alloc (Nat.le_refl _) _) hg (Nat.le_refl _)
      go_wp2_with (go_at_call 27; refine (cl _ _ hR).mono ?_; rintro e w3 ⟨rfl, rfl⟩)
      go_region_with ((go_at_call 23; refine (csu _).mono ?_; rintro e w1 ⟨rfl, hb1⟩))
      all_goals
        go_wp2_with fail
        go_ret3
        exact ⟨ret3s rfl (by omega) rfl, below_call hb.drew hb1⟩
end Go.Proofs.Ytihbibhmkpefgaa.Fr
