/- What tetherlaw09's awake answers: contract. -/
import Derived.Test.YtpfgijmhoenpkaaHRef
import Derived.Test.YtpfgijmhoenpkaaHEncode
namespace Go.Proofs.Ytpfgijmhoenpkaa.Dl
open Go.RowKit Wm Wr Dm
set_option linter.unusedVariables false

def hello : ByteArray := ⟨#[104, 101, 108, 108, 111, 32, 119, 111, 114, 108, 100]⟩
def delt : ByteArray := ⟨#[8, 11, 6, 6, 104, 101, 121]⟩
def one3 : ByteArray := ⟨#[111, 110, 101]⟩
def two3 : ByteArray := ⟨#[116, 119, 111]⟩
def wrld : ByteArray := ⟨#[119, 111, 114, 108, 100, 104, 101, 121]⟩
theorem ap_hello : ap hello.data.toList delt.data.toList = (wrld.data.toList, 0) := by
  have hd : delt.data.toList = vb 8 ++ (cop 6 5 ++ (Dm.put [104, 101, 121] ++ [])) := by
    have v8 : vb 8 = [8] := vb_lo (by omega)
    have v11 : vb (2 * 5 + 1) = [11] := vb_lo (by omega)
    have v6 : vb 6 = [6] := vb_lo (by omega)
    have v6' : vb (2 * 3) = [6] := vb_lo (by omega)
    unfold cop Dm.put
    rw [v8, v11, v6, if_neg (by decide), show ([104, 101, 121] : List UInt8).length = 3 from rfl, v6']
    rfl
  unfold ap
  rw [hd, rdU_vb 8 _ (by omega)]
  simp only
  rw [if_neg (by simp), if_neg (by omega), List.drop_left, ap_cop (by omega) (by decide) (by omega) (by decide) (by decide), ap_put (by decide) (by decide), apR_end]
  rfl
theorem ap_two : ap one3.data.toList (en one3.data.toList two3.data.toList) = (two3.data.toList, 0) := by
  rw [ap_en _ _ (by decide) (by decide), if_neg (by decide)]

theorem enR_len (base text : List UInt8) (hb : base.length ≤ 1048576) (ht : text.length ≤ 1048576) : ∀ (f A T : Nat) (sh : Int) (out : List UInt8), text.length - A ≤ f → T ≤ A → A ≤ text.length → (enR base text A T sh out).length + 11 * T ≤ out.length + 11 * text.length + 10
  | f, A, T, sh, out, hf, h1, h2 => by
    by_cases hlt : A < text.length
    · have hrun := run_lg base (text.drop A) ((A : Int) + sh)
      obtain ⟨i, n, hr⟩ : ∃ i n, lg base (text.drop A) ((A : Int) + sh) = (i, n) := ⟨_, _, rfl⟩
      rw [hr] at hrun
      obtain ⟨ha, hn, _⟩ := hrun
      simp only [List.length_drop] at ha hn
      cases f with
      | zero => omega
      | succ f =>
        by_cases hp : n < (cop i n).length + 2
        · rw [enR_skip hlt hr hp]
          exact enR_len base text hb ht f (A + 1) T sh out (by omega) (by omega) (by omega)
        · rw [enR_cop hlt hr hp]
          have hc := cop_len i n (by omega) (by omega)
          have hpl := put_len ((text.take A).drop T) (by rw [List.length_drop, List.length_take]; omega)
          rw [List.length_drop, List.length_take] at hpl
          have ih := enR_len base text hb ht f (A + n) (A + n) ((i : Int) - A) (out ++ Dm.put ((text.take A).drop T) ++ cop i n) (by omega) (Nat.le_refl _) (by omega)
          rw [List.length_append, List.length_append] at ih
          omega
    · rw [enR_end hlt, List.length_append]
      have hpl := put_len (text.drop T) (by rw [List.length_drop]; omega)
      rw [List.length_drop] at hpl
      omega
theorem en_len (base text : ByteArray) (hb : base.size ≤ 1048576) (ht : text.size ≤ 1048576) : (en base.data.toList text.data.toList).length ≤ 23068682 := by
  have h := enR_len base.data.toList text.data.toList (by rw [Wm.len_l]; exact hb) (by rw [Wm.len_l]; exact ht) text.data.toList.length 0 0 0 (vb text.data.toList.length) (by omega) (Nat.le_refl _) (Nat.zero_le _)
  have h2 := vb_len (x := text.data.toList.length) (by rw [Wm.len_l]; omega)
  rw [Wm.len_l] at h h2
  unfold en
  rw [Wm.len_l]
  omega

set_option maxRecDepth 100000 in
theorem awake_any9 (w : World) : Calls Try.prog 8 #[] w fun e w' => e = .returned (.bool true) ∧ Below w.heap.size w w' := by
  have c1 := fun W => apply_any hello delt W (by decide) (by decide)
  rw [ap_hello] at c1
  simp only at c1
  rw [Tx.tb_of] at c1
  have c2 := fun W => encode_any one3 two3 W (by decide) (by decide)
  obtain ⟨D, hD⟩ : ∃ D, D = Tx.tb (en one3.data.toList two3.data.toList) := ⟨_, rfl⟩
  have hDl : D.data.toList = en one3.data.toList two3.data.toList := by rw [hD]; rfl
  have hDs : D.size ≤ 11 := by
    rw [← Wm.len_l, hDl]
    exact en_small _ _ (by decide) (by decide)
  rw [← hD] at c2
  have c3 := fun W => apply_any one3 D W (by decide) (by unfold maxLen; omega)
  rw [hDl, ap_two] at c3
  simp only at c3
  rw [Tx.tb_of] at c3
  unfold hello delt wrld at c1
  unfold one3 two3 at c2
  unfold one3 two3 at c3
  clear hD hDl
  go_enter Try.func8, Try.ntmps8
  go_wp2_with fail
  go_at_call 6
  refine (c1 _).mono ?_
  rintro e w1 ⟨rfl, hb1⟩
  go_wp2_with fail
  go_at_call 9
  refine (c2 _).mono ?_
  rintro e w2 ⟨rfl, hb2⟩
  go_wp2_with fail
  go_at_call 6
  refine (c3 _).mono ?_
  rintro e w3 ⟨rfl, hb3⟩
  have hb := Wr.below_call (Wr.below_call hb1 hb2) hb3
  go_wp2_with fail
  go_ret
  exact ⟨rfl, hb⟩
end Go.Proofs.Ytpfgijmhoenpkaa.Dl
