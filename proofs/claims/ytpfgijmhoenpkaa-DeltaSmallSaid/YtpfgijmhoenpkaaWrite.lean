/- What the writers of numbers and texts do: wire.varint, wire.Uint, wire.Int, wire.Text, and the document's own: contracts. -/
import Derived.Test.YtpfgijmhoenpkaaRead
import Derived.Laws.IdiomStrings
namespace Go.Proofs.Ytpfgijmhoenpkaa.Wr
open Go.RowKit Wm
set_option linter.unusedVariables false

/-- A byte as a value. -/
def bv (b : UInt8) : Value := .int .u8 (b.toNat : Int)

theorem info5 : (Try.prog.info? 5).map (fun i => (i.zero, i.size, i.bytes)) = some (some (.int .u8 0), 1, 1) := by kernel_rfl

theorem own_str {w : World} {base : Nat} {v : Value} {n : Nat} {l : List UInt8} (h : w.ownsRow base 5 1 v n (l.map bv)) (hl : l.length = n) (hn : 0 < n) :
    ∃ g cap, v = .slice (some ⟨g, 0, none⟩) n cap ∧ (convert 32 9 (.slice (some ⟨g, 0, none⟩) n cap)).run Try.prog w = .ok (.string ⟨l.toArray⟩) w := by
  rcases h.2 with ⟨_, h0⟩ | ⟨g, cap, cur, hv, _⟩
  · omega
  · refine ⟨g, cap, hv, ?_⟩
    subst hl
    refine run_convert_bytes_back w 32 9 5 ⟨g, 0, none⟩ cap l Try.underlying32 Try.underlying5 Try.underlying9 ?_
    intro j hj
    refine h.cells (g := g) (by rw [hv]; rfl) j _ ?_
    rw [List.getElem?_map, List.getElem?_eq_getElem hj]
    rfl
theorem below_step {w wr w1 : World} {e : TypeId} {size n : Nat} {v : Value} {xs : List Value} {o : Obj} (hb : Below w.heap.size w wr) (hown : wr.ownsRow w.heap.size e size v n xs) (hg : (wr.alloc o).grownBy w1 v.ownBlock) : Below w.heap.size w w1 :=
  (hb.alloc hb.size o).grown hg (by have := hb.size; simp; omega) (fun k hk => (hown.lt k hk).1)
theorem or128 (y : Nat) : Value.int .u8 (bits .or .u8 ((y : Int) % 256) 128) = bv (UInt8.ofNat (128 + y % 128)) := by
  have e : ((y : Int) % 256) = ((y % 256 : Nat) : Int) := by omega
  have h := u8_or_nat (y % 256) 128 (by omega) (by omega)
  have e1 : y % 256 = y % 128 + 128 * (y / 128 % 2) := by omega
  have e2 : y % 256 ||| 128 = 128 + y % 128 := by
    rw [e1]
    rcases Nat.mod_two_eq_zero_or_one (y / 128) with h0 | h0
    · rw [h0, Nat.mul_zero, Nat.add_zero, Nat.or_comm, nat_join 7 128 _ (by decide) (by omega)]
    · rw [h0, Nat.mul_one, Nat.add_comm, ← nat_join 7 128 (y % 128) (by decide) (by omega), Nat.or_comm, ← Nat.or_assoc, Nat.or_self]
  rw [e, show (128 : Int) = ((128 : Nat) : Int) from rfl, h, e2, bv]
  congr 1
  simp
  omega
theorem low_byte (y : Nat) (h : y < 128) : Value.int .u8 (y : Int) = bv (UInt8.ofNat y) := by
  rw [bv]
  congr 1
  simp
  omega

set_option maxRecDepth 100000 in
set_option maxHeartbeats 400000 in
theorem varint_any (X : Nat) (w : World) (hX : X < 18446744073709551616) :
    Calls Try.prog 28 #[.int .u64 (X : Int)] w fun e w' => e = .returned (.string (vs X)) ∧ Below w.heap.size w w' := by
  obtain ⟨i0, hi, hz0, hz1, hz2⟩ := info_parts info5
  have hlen := vb_len hX
  go_enter Try.func28, Try.ntmps28
  go_wp2
  go_loopw [0, 3] (fun x v wr => ∃ (pre : List UInt8) (y : Nat), x = .int .u64 y ∧ Hid (vb X = pre ++ vb y) ∧ y < 18446744073709551616 ∧ wr.ownsRow w.heap.size 5 1 v pre.length (pre.map bv) ∧ Below w.heap.size w wr) (fun x _ _ => (intOf x).toNat)
  case atStart => exact ⟨[], X, rfl, rfl, hX, World.ownsRow_nil _ _ _ _, Below.refl _ _⟩
  case round =>
    obtain ⟨pre, y, rfl, hv, hy, hown, hb⟩ := hrel
    have hpl : pre.length + 1 ≤ 10 := by
      have h1 := congrArg List.length hv.out
      have h2 := vb_pos y
      rw [List.length_append] at h1
      omega
    have hsz := hb.size
    by_cases hlt : y < 128
    · go_wp2_with (at_builtin; refine wpList_append_own _ rfl _ _ 32 rfl w.heap.size 5 i0 (.int .u8 0) 1 1 Try.underlying32 hi hz0 hz1 hz2 rfl (by decide) _ _ _ rfl (hown.alloc _) ⟨wr.heap.size, 0, none⟩ 1 1 [.int .u8 (y : Int)] rfl rfl ?c1 ?c2 ?c3 ?c4 ?c5 ?_)
      case c1 => exact cell_one_new _ _ _
      case c2 => intro u hu; simp at hu; subst hu; rfl
      case c3 => unfold maxLen; omega
      case c4 => omega
      case c5 => simp; omega
      intro v' w1 hown' hgrow _
      have hb' := below_step hb hown hgrow
      rw [low_byte y hlt, show [bv (UInt8.ofNat y)] = [UInt8.ofNat y].map bv from rfl, ← List.map_append] at hown'
      obtain ⟨g, cap, hv', hc⟩ := own_str hown' (by simp) (by omega)
      have hres : (⟨(pre ++ [UInt8.ofNat y]).toArray⟩ : ByteArray) = vs X := by rw [vs, hv.out, vb_lo hlt]
      rw [hres] at hc
      clear hown hown' hgrow hres hv hb
      rw [hv']
      clear hv'
      go_wp2
      go_ret
      exact ⟨rfl, hb'⟩
    · go_wp2_with (at_builtin; refine wpList_append_own _ rfl _ _ 32 rfl w.heap.size 5 i0 (.int .u8 0) 1 1 Try.underlying32 hi hz0 hz1 hz2 rfl (by decide) _ _ _ rfl (hown.alloc _) ⟨wr.heap.size, 0, none⟩ 1 1 [.int .u8 (bits .or .u8 ((y : Int) % 256) 128)] rfl rfl ?c1 ?c2 ?c3 ?c4 ?c5 ?_)
      case c1 => exact cell_one_new _ _ _
      case c2 => intro u hu; simp at hu; subst hu; rfl
      case c3 => unfold maxLen; omega
      case c4 => omega
      case c5 => simp; omega
      intro v' w1 hown' hgrow _
      have hb' := below_step hb hown hgrow
      rw [or128 y, show [bv (UInt8.ofNat (128 + y % 128))] = [UInt8.ofNat (128 + y % 128)].map bv from rfl, ← List.map_append] at hown'
      have hv2 : Hid (vb X = (pre ++ [UInt8.ofNat (128 + y % 128)]) ++ vb (y / 128)) := by
        show vb X = _
        rw [hv.out, vb_hi (by omega), List.append_assoc]; rfl
      clear hown hgrow hv hb
      go_wp2
      go_roundw
      case rel => exact ⟨_, y / 128, by go_num, hv2, by omega, by simpa using hown', hb'⟩
      case measure => simp [intOf]; omega

end Go.Proofs.Ytpfgijmhoenpkaa.Wr
