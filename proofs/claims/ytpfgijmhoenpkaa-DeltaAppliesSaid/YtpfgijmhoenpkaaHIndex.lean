/- Package delta's index: blockAt, reaches, longest: contracts. -/
import Derived.Test.YtpfgijmhoenpkaaHIx
import Derived.Test.YtpfgijmhoenpkaaHTxt
namespace Go.Proofs.Ytpfgijmhoenpkaa.Dl
open Go.RowKit Wm Wr Dm
set_option linter.unusedVariables false

theorem or2 (x y : Nat) (i : Nat) (h : i = 8 ∨ i = 16 ∨ i = 24) (hx : x < 2 ^ i) (hy : y < 256) : bits .or .u32 (x : Int) ((y * 2 ^ i : Nat) : Int) = ((x + y * 2 ^ i : Nat) : Int) := by
  have h1 : y * 2 ^ i < 4294967296 := by rcases h with rfl | rfl | rfl <;> omega
  have h2 : x < 4294967296 := by rcases h with rfl | rfl | rfl <;> omega
  rw [u32_or_nat x _ h2 h1, Nat.or_comm, nat_join i (y * 2 ^ i) x (Nat.mul_mod_left _ _) hx, Nat.add_comm]
theorem or4 (a b c d : Nat) (ha : a < 256) (hb : b < 256) (hc : c < 256) (hd : d < 256) :
    bits .or .u32 (bits .or .u32 (bits .or .u32 ((a : Int) % 4294967296) ((b : Int) % 4294967296 * 256 % 4294967296)) ((c : Int) % 4294967296 * 65536 % 4294967296)) ((d : Int) % 4294967296 * 16777216 % 4294967296) = ((a + 256 * b + 65536 * c + 16777216 * d : Nat) : Int) := by
  have e1 : ((a : Int) % 4294967296) = (a : Int) := by omega
  have e2 : ((b : Int) % 4294967296 * 256 % 4294967296) = ((b * 2 ^ 8 : Nat) : Int) := by omega
  have e3 : ((c : Int) % 4294967296 * 65536 % 4294967296) = ((c * 2 ^ 16 : Nat) : Int) := by omega
  have e4 : ((d : Int) % 4294967296 * 16777216 % 4294967296) = ((d * 2 ^ 24 : Nat) : Int) := by omega
  rw [e1, e2, e3, e4, or2 a b 8 (.inl rfl) ha hb, or2 _ c 16 (.inr (.inl rfl)) (by omega) hc, or2 _ d 24 (.inr (.inr rfl)) (by omega) hd]
  omega
theorem blk_is (s : ByteArray) (i j k l : Nat) (hj : j = i + 1) (hk : k = i + 2) (hl : l = i + 3) (h0 : i < s.size) (h1 : j < s.size) (h2 : k < s.size) (h3 : l < s.size) :
    blk s.data.toList i = s[i].toNat + 256 * s[j].toNat + 65536 * s[k].toNat + 16777216 * s[l].toNat := by
  subst hj hk hl
  unfold blk
  rw [gd s i h0, gd s _ h1, gd s _ h2, gd s _ h3]

set_option maxRecDepth 100000 in
set_option maxHeartbeats 1000000 in
theorem block_any (s : ByteArray) (i : Nat) (w : World) (hs : s.size ≤ maxLen) (h : i + 3 < s.size) :
    Calls Try.prog 23 #[.string s, .int .i64 (i : Int)] w fun e w' => e = .returned (.int .u32 (blk s.data.toList i : Nat)) ∧ Below w.heap.size w w' := by
  unfold maxLen at hs
  have hB : Below w.heap.size w w.drew := (Below.refl _ w).drew
  have h0z : (i : Int) < (s.size : Int) := by omega
  obtain ⟨j, hj⟩ : ∃ j, j = i + 1 := ⟨_, rfl⟩
  obtain ⟨k, hk⟩ : ∃ k, k = i + 2 := ⟨_, rfl⟩
  obtain ⟨l, hl⟩ : ∃ l, l = i + 3 := ⟨_, rfl⟩
  have hjz : (i : Int) + 1 = (j : Int) := by omega
  have hkz : (i : Int) + 2 = (k : Int) := by omega
  have hlz : (i : Int) + 3 = (l : Int) := by omega
  have h1z : (j : Int) < (s.size : Int) := by omega
  have h2z : (k : Int) < (s.size : Int) := by omega
  have h3z : (l : Int) < (s.size : Int) := by omega
  have h1 : j < s.size := by omega
  have h2 : k < s.size := by omega
  have h3 : l < s.size := by omega
  have h0 : i < s.size := by omega
  have hblk := blk_is s i j k l hj hk hl h0 h1 h2 h3
  have hor := or4 _ _ _ _ s[i].toNat_lt s[j].toNat_lt s[k].toNat_lt s[l].toNat_lt
  have HOR := Lib.hid (hor.trans (congrArg (Nat.cast (R := Int)) hblk.symm))
  clear hj hk hl hblk hor h
  go_enter Try.func23, Try.ntmps23
  go_wp2_with fail
  go_region
  go_wp2_with fail
  go_ret
  exact ⟨Wr.ret1 HOR.out, hB⟩
end Go.Proofs.Ytpfgijmhoenpkaa.Dl
