/- The document's own Apply: contract. -/
import Derived.Test.YtpfgijmhoenpkaaHApply
namespace Go.Proofs.Ytpfgijmhoenpkaa.Dl
open Go.RowKit Wm Wr Dm
set_option linter.unusedVariables false

theorem ext_ext2 (s : ByteArray) (i m n : Nat) (hi : i ≤ s.size) : s.extract (i + m) (i + m + n) = Tx.tb (((s.data.toList.drop i).drop m).take n) := by
  rw [tb_ext, List.drop_drop]
theorem tb_app (a b : List UInt8) : Tx.tb a ++ Tx.tb b = Tx.tb (a ++ b) := by
  apply ba_eq
  rw [ByteArray.data_append, Array.toList_append]
  rfl

set_option maxRecDepth 100000 in
set_option maxHeartbeats 4000000 in
theorem refApply_any (base d : ByteArray) (w : World) (hb : base.size ≤ maxLen) (hd : d.size ≤ 140737488355328) :
    Calls Try.prog 7 #[.string base, .string d] w fun e w' => e = .returned (.tuple #[.string (Tx.tb (ap base.data.toList d.data.toList).1), .int .i64 ((ap base.data.toList d.data.toList).2 : Int)]) ∧ Below w.heap.size w w' := by
  have hdm : d.size ≤ maxLen := by unfold maxLen; omega
  have cn := readUint_any d w hdm
  rcases rdU_alt d.data.toList with ⟨r, hr0, hr3, h⟩ | ⟨N, m, h, hN, hm, hm0⟩
  · have hap : ap base.data.toList d.data.toList = ([], r) := by unfold ap; rw [h]; simp only; rw [if_pos hr0]
    rw [hap]
    rw [h] at cn
    simp only at cn ⊢
    have hne : ((r : Int) == 0) = false := by simp; omega
    clear h hr0 hap
    unfold maxLen at hb hdm
    go_enter Try.func7, Try.ntmps7
    go_wp2_with fail
    go_at_call 12
    refine cn.mono ?_
    rintro e w1 ⟨rfl, rfl⟩
    go_wp2_with fail
    go_ret2
    exact ⟨rfl, Below.refl _ _⟩
  · rw [Wm.len_l] at hm
    by_cases hN4 : 4096 < N
    · have hap : ap base.data.toList d.data.toList = ([], 4) := by unfold ap; rw [h]; simp only; rw [if_neg (by simp), if_pos hN4]
      rw [hap]
      rw [h] at cn
      simp only at cn ⊢
      clear h hap
      unfold maxLen at hb hdm
      go_enter Try.func7, Try.ntmps7
      go_wp2_with fail
      go_at_call 12
      refine cn.mono ?_
      rintro e w1 ⟨rfl, rfl⟩
      go_wp2_with fail
      go_ret2
      exact ⟨rfl, Below.refl _ _⟩
    · have hap : ap base.data.toList d.data.toList = apR base.data.toList N [] (d.data.toList.drop m) := by unfold ap; rw [h]; simp only; rw [if_neg (by simp), if_neg hN4]
      rw [hap]
      rw [h] at cn
      simp only at cn ⊢
      obtain ⟨RES, hres⟩ : ∃ R, R = apR base.data.toList N [] (d.data.toList.drop m) := ⟨_, rfl⟩
      rw [← hres]
      have HRES := Lib.hid hres
      clear h hap hres hm0
      unfold maxLen at hb
      go_enter Try.func7, Try.ntmps7
      go_wp2_with fail
      go_at_call 12
      refine cn.mono ?_
      rintro e w1 ⟨rfl, rfl⟩
      clear cn
      go_wp2_with fail
      go_loopw [7, 9] (fun av tv wr => ∃ (a : Nat) (t : List UInt8), av = .int .i64 (a : Nat) ∧ tv = .string (Tx.tb t) ∧ a ≤ d.size ∧ Hid (RES = apR base.data.toList N t (d.data.toList.drop a)) ∧ t.length ≤ N ∧ Below w.heap.size w wr) (fun av _ _ => d.size - (intOf av).toNat)
      case atStart => exact ⟨m, [], rfl, rfl, hm, HRES, Nat.zero_le _, Below.refl _ _⟩
      case round =>
        obtain ⟨a, t, rfl, rfl, ha, hR, ht, hBr⟩ := hrel
        have hBD := hBr.drew
        have htb := Tx.tb_size t
        by_cases h0 : a < d.size
        · have h0z : (a : Int) < (d.size : Int) := by omega
          have hrne : d.data.toList.drop a ≠ [] := fun e => by
            have := congrArg List.length e
            rw [List.length_drop, Wm.len_l] at this
            simp at this
            omega
          have hlen : (d.data.toList.drop a).length = d.size - a := by rw [List.length_drop, Wm.len_l]
          have hsub : (N : Int) - ((Tx.tb t).size : Int) = ((N - t.length : Nat) : Int) := by rw [htb]; omega
          have c1 := fun W => readUint_any (d.extract a d.size) W (by simp; omega)
          rw [drop_l] at c1
          rcases rdU_alt (d.data.toList.drop a) with ⟨r, hr0, hr3, hq⟩ | ⟨x, n, hq, hx, hn, hn0⟩
          · have hp : pc base.data.toList (d.data.toList.drop a) (N - t.length) = ([], 0, r) := by unfold pc; rw [hq]; simp only; rw [if_pos hr0]
            have hR2 : RES = ([], r) := by rw [hR.out]; exact apR_bad hrne (by rw [hp]) hr0
            rw [hq] at c1
            simp only at c1
            have hne : ((r : Int) == 0) = false := by simp; omega
            clear hq hr0 hsub
            have HR2 := Lib.hid hR2
            clear hR hR2 hp hrne
            go_wp2_with fail
            go_at_call 12
            refine (c1 _).mono ?_
            rintro e w5 ⟨rfl, rfl⟩
            go_wp2_with fail
            go_ret2
            rw [HR2.out]
            exact ⟨rfl, hBr⟩
          · rw [hlen] at hn
            rw [hq] at c1
            simp only at c1
            obtain ⟨k, hk⟩ : ∃ k, k = x / 2 := ⟨_, rfl⟩
            have hkz : (x : Int) / 2 = (k : Int) := by omega
            by_cases hA : k = 0 ∨ N - t.length < k
            · have hp : pc base.data.toList (d.data.toList.drop a) (N - t.length) = ([], 0, 3) := by unfold pc; rw [hq]; simp only; rw [if_neg (by simp), ← hk, if_pos hA]
              have hR2 : RES = ([], 3) := by rw [hR.out]; exact apR_bad hrne (by rw [hp]) (by decide)
              by_cases hk0 : k = 0
              · have hkb : ((k : Int) == 0) = true := by simp [hk0]
                have hsum : (a : Int) + (n : Int) ≤ 140737488355328 := by omega
                clear hA hq hsub hk
                have HR2 := Lib.hid hR2
                clear hR hR2 hp hrne
                go_wp2_with fail
                go_at_call 12
                refine (c1 _).mono ?_
                rintro e w5 ⟨rfl, rfl⟩
                go_wp2_with fail
                go_ret2
                rw [HR2.out]
                exact ⟨rfl, hBr⟩
              · have hkb : ((k : Int) == 0) = false := by simp [hk0]
                have hgt : (N : Int) - ((Tx.tb t).size : Int) < (k : Int) := by rw [hsub]; omega
                have hsum : (a : Int) + (n : Int) ≤ 140737488355328 := by omega
                have htN : (Tx.tb t).size ≤ 4096 := by omega
                clear hA hq hsub hk htb
                have HR2 := Lib.hid hR2
                clear hR hR2 hp hrne
                go_wp2_with fail
                go_at_call 12
                refine (c1 _).mono ?_
                rintro e w5 ⟨rfl, rfl⟩
                go_wp2_with fail
                go_ret2
                rw [HR2.out]
                exact ⟨rfl, hBr⟩
            · have hkb : ((k : Int) == 0) = false := by simp; omega
              have hgt : ¬ ((N : Int) - ((Tx.tb t).size : Int) < (k : Int)) := by rw [hsub]; omega
              have htN : (Tx.tb t).size ≤ 4096 := by omega
              by_cases h2 : x % 2 = 1
              · have hodd : ((x : Int) % 2 == 0) = false := by simp; omega
                have c2 := fun W => readUint_any (d.extract (a + n) d.size) W (by simp; omega)
                rw [drop_l, ← List.drop_drop] at c2
                have hsum : (a : Int) + (n : Int) ≤ (d.size : Int) := by omega
                rcases rdU_alt ((d.data.toList.drop a).drop n) with ⟨r, hr0, hr3, hq2⟩ | ⟨y, q, hq2, hy, hqn, hq0⟩
                · have hp : pc base.data.toList (d.data.toList.drop a) (N - t.length) = ([], 0, r) := by unfold pc; rw [hq]; simp only; rw [if_neg (by simp), ← hk, if_neg hA, if_pos h2, hq2]; simp only; rw [if_pos hr0]
                  have hR2 : RES = ([], r) := by rw [hR.out]; exact apR_bad hrne (by rw [hp]) hr0
                  rw [hq2] at c2
                  simp only at c2
                  have hne : ((r : Int) == 0) = false := by simp; omega
                  clear hA hq hsub hk htb hq2 hr0 h2
                  have HR2 := Lib.hid hR2
                  clear hR hR2 hp hrne
                  go_wp2_with fail
                  go_at_call 12
                  refine (c1 _).mono ?_
                  rintro e w5 ⟨rfl, rfl⟩
                  go_wp2_with fail
                  go_at_call 12
                  refine (c2 _).mono ?_
                  rintro e w6 ⟨rfl, rfl⟩
                  go_wp2_with fail
                  go_ret2
                  rw [HR2.out]
                  exact ⟨rfl, hBr⟩
                · rw [List.length_drop, hlen] at hqn
                  rw [hq2] at c2
                  simp only at c2
                  by_cases hbs : base.size < y + k
                  · have hp : pc base.data.toList (d.data.toList.drop a) (N - t.length) = ([], 0, 3) := by unfold pc; rw [hq]; simp only; rw [if_neg (by simp), ← hk, if_neg hA, if_pos h2, hq2]; simp only; rw [if_neg (by simp), Wm.len_l, if_pos hbs]
                    have hR2 : RES = ([], 3) := by rw [hR.out]; exact apR_bad hrne (by rw [hp]) (by decide)
                    have hsum2 : (a : Int) + (n : Int) + (q : Int) ≤ (d.size : Int) := by omega
                    by_cases hyb : base.size < y
                    · have hyz : (base.size : Int) < (y : Int) := by omega
                      clear hA hq hsub hk htb hq2 h2 hbs hyb
                      have HR2 := Lib.hid hR2
                      clear hR hR2 hp hrne
                      go_wp2_with fail
                      go_at_call 12
                      refine (c1 _).mono ?_
                      rintro e w5 ⟨rfl, rfl⟩
                      go_wp2_with fail
                      go_at_call 12
                      refine (c2 _).mono ?_
                      rintro e w6 ⟨rfl, rfl⟩
                      go_wp2_with fail
                      go_ret2
                      rw [HR2.out]
                      exact ⟨rfl, hBr⟩
                    · have hyz : ¬ ((base.size : Int) < (y : Int)) := by omega
                      have hyk : (base.size : Int) - (y : Int) < (k : Int) := by omega
                      clear hA hq hsub hk htb hq2 h2 hbs hyb
                      have HR2 := Lib.hid hR2
                      clear hR hR2 hp hrne
                      go_wp2_with fail
                      go_at_call 12
                      refine (c1 _).mono ?_
                      rintro e w5 ⟨rfl, rfl⟩
                      go_wp2_with fail
                      go_at_call 12
                      refine (c2 _).mono ?_
                      rintro e w6 ⟨rfl, rfl⟩
                      go_wp2_with fail
                      go_ret2
                      rw [HR2.out]
                      exact ⟨rfl, hBr⟩
                  · have hp : pc base.data.toList (d.data.toList.drop a) (N - t.length) = ((base.data.toList.drop y).take k, n + q, 0) := by unfold pc; rw [hq]; simp only; rw [if_neg (by simp), ← hk, if_neg hA, if_pos h2, hq2]; simp only; rw [if_neg (by simp), Wm.len_l, if_neg hbs]
                    have hR2 : RES = apR base.data.toList N (t ++ (base.data.toList.drop y).take k) (d.data.toList.drop (a + n + q)) := by rw [hR.out, apR_more hrne hp, List.drop_drop, Nat.add_assoc]
                    have HR2 := Lib.hid hR2
                    have hsum2 : (a : Int) + (n : Int) + (q : Int) ≤ (d.size : Int) := by omega
                    have hyz : ¬ ((base.size : Int) < (y : Int)) := by omega
                    have hyk : ¬ ((base.size : Int) - (y : Int) < (k : Int)) := by omega
                    have hyl : (y : Int) + (k : Int) ≤ (base.size : Int) := by omega
                    have hE := tb_ext base y k
                    have hEs : (base.extract y (y + k)).size ≤ 4096 := by simp; omega
                    have hap := tb_app t ((base.data.toList.drop y).take k)
                    rw [← hE] at hap
                    have HAP := Lib.hid hap
                    have hkl : ((base.data.toList.drop y).take k).length = k := by rw [List.length_take, List.length_drop, Wm.len_l]; omega
                    have hL : (t ++ (base.data.toList.drop y).take k).length ≤ N := by rw [List.length_append, hkl]; omega
                    have HL := Lib.hid hL
                    clear hA hq hsub hk htb hq2 h2 hbs hp hR hR2 hrne hap hE hkl hL
                    generalize (base.data.toList.drop y).take k = pt at HR2 HAP HL
                    go_wp2_with fail
                    go_at_call 12
                    refine (c1 _).mono ?_
                    rintro e w5 ⟨rfl, rfl⟩
                    go_wp2_with fail
                    go_at_call 12
                    refine (c2 _).mono ?_
                    rintro e w6 ⟨rfl, rfl⟩
                    go_wp2_with fail
                    go_roundw
                    case rel => exact ⟨a + n + q, t ++ pt, by go_num, by rw [HAP.out], by omega, HR2, HL.out, hBr⟩
                    case measure => simp [intOf]; omega
              · have heven : ((x : Int) % 2 == 0) = true := by simp; omega
                have hsum : (a : Int) + (n : Int) ≤ (d.size : Int) := by omega
                by_cases h4 : d.size - a - n < k
                · have hp : pc base.data.toList (d.data.toList.drop a) (N - t.length) = ([], 0, 2) := by unfold pc; rw [hq]; simp only; rw [if_neg (by simp), ← hk, if_neg hA, if_neg h2, hlen, if_pos h4]
                  have hR2 : RES = ([], 2) := by rw [hR.out]; exact apR_bad hrne (by rw [hp]) (by decide)
                  have h4z : (d.size : Int) - ((a : Int) + (n : Int)) < (k : Int) := by omega
                  clear hA hq hsub hk htb h2 h4
                  have HR2 := Lib.hid hR2
                  clear hR hR2 hp hrne
                  go_wp2_with fail
                  go_at_call 12
                  refine (c1 _).mono ?_
                  rintro e w5 ⟨rfl, rfl⟩
                  go_wp2_with fail
                  go_ret2
                  rw [HR2.out]
                  exact ⟨rfl, hBr⟩
                · have hp : pc base.data.toList (d.data.toList.drop a) (N - t.length) = (((d.data.toList.drop a).drop n).take k, n + k, 0) := by unfold pc; rw [hq]; simp only; rw [if_neg (by simp), ← hk, if_neg hA, if_neg h2, hlen, if_neg h4]
                  have hR2 : RES = apR base.data.toList N (t ++ ((d.data.toList.drop a).drop n).take k) (d.data.toList.drop (a + n + k)) := by rw [hR.out, apR_more hrne hp, List.drop_drop (i := n + k), Nat.add_assoc]
                  have HR2 := Lib.hid hR2
                  have hsum2 : (a : Int) + (n : Int) + (k : Int) ≤ (d.size : Int) := by omega
                  have h4z : ¬ ((d.size : Int) - ((a : Int) + (n : Int)) < (k : Int)) := by omega
                  have hE := ext_ext2 d a n k ha
                  have hEs : (d.extract (a + n) (a + n + k)).size ≤ 4096 := by simp; omega
                  have hap := tb_app t (((d.data.toList.drop a).drop n).take k)
                  rw [← hE] at hap
                  have HAP := Lib.hid hap
                  have hkl : (((d.data.toList.drop a).drop n).take k).length = k := by rw [List.length_take, List.length_drop, hlen]; omega
                  have hL : (t ++ ((d.data.toList.drop a).drop n).take k).length ≤ N := by rw [List.length_append, hkl]; omega
                  have HL := Lib.hid hL
                  have hk1 : 0 < k := by omega
                  clear hA hq hsub hk htb h2 h4 hp hR hR2 hrne hap hE hkl hL
                  generalize ((d.data.toList.drop a).drop n).take k = pt at HR2 HAP HL
                  go_wp2_with fail
                  go_at_call 12
                  refine (c1 _).mono ?_
                  rintro e w5 ⟨rfl, rfl⟩
                  go_wp2_with fail
                  go_roundw
                  case rel => exact ⟨a + n + k, t ++ pt, by go_num, by rw [HAP.out], by omega, HR2, HL.out, hBr⟩
                  case measure => simp [intOf]; omega
        · have h0z : ¬ ((a : Int) < (d.size : Int)) := by omega
          have hem : d.data.toList.drop a = [] := List.drop_eq_nil_of_le (by rw [Wm.len_l]; omega)
          have hR2 : RES = if t.length < N then ([], 2) else (t, 0) := by rw [hR.out, hem, apR_end]
          have htN : (Tx.tb t).size ≤ 4096 := by omega
          by_cases hlt : t.length < N
          · rw [if_pos hlt] at hR2
            have HR2 := Lib.hid hR2
            have hltz : ((Tx.tb t).size : Int) < (N : Int) := by omega
            clear hR2 hR hem htb
            go_wp2_with fail
            go_ret2
            rw [HR2.out]
            exact ⟨rfl, hBr⟩
          · rw [if_neg hlt] at hR2
            have HR2 := Lib.hid hR2
            have hltz : ¬ (((Tx.tb t).size : Int) < (N : Int)) := by omega
            clear hR2 hR hem htb
            go_wp2_with fail
            go_ret2
            rw [HR2.out]
            exact ⟨rfl, hBr⟩
end Go.Proofs.Ytpfgijmhoenpkaa.Dl
