/- wip -/
import Derived.Test.YtjoafblfloceeaaJoin
import Derived.Deep.AppendLies
import Derived.Deep.QuietTactic
import Derived.BigQuiet
namespace Go.Proofs.Ytjoafblfloceeaa.wireJoins
open Go.ChangeMaps (open_string shut_string)
open Go.ChangeShapes Go.WideShapes Go.ChangeAt Go.RowKit Wm Wr wireReads
set_option linter.unusedVariables false

theorem info9 : (Try.prog.info? 9).map (fun i => (i.zero, i.size, i.bytes)) = some (some (.string ⟨#[]⟩), 1, 16) := by kernel_rfl

theorem made0 (w : World) : (w.alloc (.cells #[] 9)).ownsRow w.heap.size 9 1 (.slice (some ⟨w.heap.size, 0, none⟩) 0 0) 0 [] :=
  World.ownsRow_made w #[] 0 (Nat.le_refl _) (Nat.zero_le _) rfl

/-- A string as a value. -/
def sv (s : ByteArray) : Value := .string s
theorem sv_one (l : List ByteArray) : ∀ u ∈ l.map sv, u.oneCell' = true := by
  intro u hu
  obtain ⟨s, _, rfl⟩ := List.mem_map.1 hu
  rfl
theorem own_cells {w : World} {base g cap n : Nat} {l : List ByteArray} (h : w.ownsRow base 9 1 (.slice (some ⟨g, 0, none⟩) n cap) n (l.map sv)) : ∀ (j : Nat) x, l[j]? = some x → w.cell? ⟨g, 0 + j, none⟩ = some (.string x) := by
  intro j x hj
  have := h.cells (g := g) rfl j (sv x) (by rw [List.getElem?_map, hj]; rfl)
  rw [wireReads.add_plain] at this
  exact this
theorem own_cap {w : World} {base g cap n : Nat} {xs : List Value} (h : w.ownsRow base 9 1 (.slice (some ⟨g, 0, none⟩) n cap) n xs) : n ≤ cap ∧ cap ≤ maxLen := by
  rcases h.2 with ⟨h0, _⟩ | ⟨g', cap', cur, hv, _, _, h1, h2, _⟩
  · cases h0
  · injection hv with _ _ hc
    subst hc
    exact ⟨h1, h2⟩

theorem join_len (bk o c : Nat) (xs : List ByteArray) (n : Nat) (w : World) (hn : xs.length = n)
    (hcells : ∀ (j : Nat) x, xs[j]? = some x → w.cell? ⟨bk, o + j, none⟩ = some (.string x))
    (hbk : bk < w.heap.size) (hN : xs.length ≤ 140737488355328) (hcap : xs.length ≤ c) (hlen : (cat xs).size ≤ 140737488355328) :
    Calls Try.prog 16 #[.slice (some ⟨bk, o, none⟩) n c] w fun e w' => e = .returned (.string (cat xs)) ∧ Below w.heap.size w w' := by
  subst hn
  exact join_any bk o c xs w hcells hbk hN hcap hlen

theorem new_one (w : World) (o : Obj) (v : Value) : ∀ (j : Nat) u, [v][j]? = some u → ((w.alloc o).alloc (.cells #[v] 9)).cell? ((⟨w.heap.size + 1, 0, none⟩ : Addr).add j) = some u := by
  have h := cell_one_new (w.alloc o) v 9
  rw [World.size_alloc] at h
  exact h
theorem below_first {w w1 : World} {o : Obj} (h : (w.alloc o).grownBy w1 (Value.slice (some ⟨w.heap.size, 0, none⟩) 0 0).ownBlock) : Below w.heap.size w w1 :=
  ((Below.refl _ w).alloc (Nat.le_refl _) o).grown h (by simp) (fun k hk => by simp [Value.ownBlock] at hk; omega)

set_option maxRecDepth 100000 in
set_option maxHeartbeats 1000000 in
theorem walk_some (bs off len cap : Nat) (ss : List ByteArray) (w : World) (hlen : 0 < len) (hl : ss.length = len) (hmax : len ≤ 1048576) (hsum : (cat ss).size ≤ 1048576)
    (hc : ∀ (j : Nat) x, ss[j]? = some x → w.cell? ⟨bs, off + j, none⟩ = some (.string x)) :
    Calls Try.prog 4 #[.slice (some ⟨bs, off, none⟩) len cap] w fun e w' => e = .returned (.bool true) ∧ Below w.heap.size w w' := by
  obtain ⟨i0, hi, hz0, hz1, hz2⟩ := info_parts info9
  have hbs : bs < w.heap.size := World.block_lt_of_cell? w ⟨bs, off, none⟩ (hc 0 ss[0] (by simp))
  go_enter Try.func4, Try.ntmps4
  go_wp2_with (at_builtin; refine wpList_append_own _ rfl (.tmp 8) (.tmp 9) 31 rfl w.heap.size 9 i0 (.string ⟨#[]⟩) 1 16 Try.underlying31 hi hz0 hz1 hz2 rfl (by decide) _ _ _ rfl (made0 w) ⟨bs, off, none⟩ len cap (ss.map sv) rfl ?c0 ?c1 ?c2 ?c3 ?c4 ?c5 ?_)
  case c0 => rw [List.length_map, hl, Nat.mul_one]
  case c1 =>
    intro j u hu
    rw [List.getElem?_map] at hu
    obtain ⟨x, hx, rfl⟩ := Option.map_eq_some_iff.1 hu
    rw [wireReads.add_plain]
    exact (World.cell?_alloc_lt w _ _ hbs).trans (hc j x hx)
  case c2 => exact sv_one ss
  case c3 => unfold maxLen; omega
  case c4 => omega
  case c5 => simp
  intro v1 w1 hown1 hg1 _
  have hown : w1.ownsRow w.heap.size 9 1 v1 len (ss.map sv) := by simpa using hown1
  clear hown1
  have hb1 := below_first hg1
  clear hg1
  have hsz1 := hb1.size
  go_wp2_with (at_builtin; refine wpList_append_own _ rfl (.tmp 10) (.tmp 11) 31 rfl w.heap.size 9 i0 (.string ⟨#[]⟩) 1 16 Try.underlying31 hi hz0 hz1 hz2 rfl (by decide) _ _ _ rfl (hown.alloc _) ⟨w1.heap.size, 0, none⟩ 1 1 [sv ⟨#[120]⟩] rfl rfl ?d1 ?d2 ?d3 ?d4 ?d5 ?_)
  case d1 => exact cell_one_new _ _ _
  case d2 => exact sv_one [⟨#[120]⟩]
  case d3 => unfold maxLen; omega
  case d4 => omega
  case d5 => simp; omega
  intro v2 w2 hown2 hg2 _
  have hb2 := below_step hb1 hown hg2
  rw [show [sv ⟨#[120]⟩] = [(⟨#[120]⟩ : ByteArray)].map sv from rfl, ← List.map_append] at hown2
  obtain ⟨g, cp, hv, hg, hglt⟩ := hown2.form (by omega)
  rw [hv] at hown2
  have HC := Lib.hid (own_cells hown2)
  have hcp := (own_cap hown2).1
  have cj := join_len g 0 cp ss len w2 hl (fun j x hj => HC.out j x (by rw [List.getElem?_append_left (List.getElem?_eq_some_iff.1 hj).1]; exact hj)) hglt (by omega) (by omega) (by omega)
  have hx2 : w2.cell? ⟨g, len, none⟩ = some (.string ⟨#[120]⟩) := by
    have := HC.out len ⟨#[120]⟩ (by rw [List.getElem?_append_right (by omega), hl, Nat.sub_self]; rfl)
    rwa [Nat.zero_add] at this
  have HP : Hid (∀ (j : Nat) x, ss[j]? = some x → w.cell? ⟨bs, off + j, none⟩ = some (.string x)) := hc
  have hdone : cat (ss.take len) = cat ss := by rw [← hl, List.take_length]
  clear hown hown2 hg2 hb1 hc
  rw [hv]
  clear hv
  go_wp2_with fail
  go_loop [4, 5] (fun x i => ∃ k : Nat, k ≤ len ∧ i = .int .i64 k ∧ x = .string (cat (ss.take k))) (fun _ i => len - (intOf i).toNat)
  case atStart => exact ⟨0, Nat.zero_le _, rfl, rfl⟩
  case round =>
    obtain ⟨k, hk, rfl, rfl⟩ := hrel
    by_cases hlt : k < len
    · obtain ⟨S, hS⟩ : ∃ S, S = ss[k] := ⟨_, rfl⟩
      have hcell : w2.cell? ⟨bs, off + k, none⟩ = some (.string S) := (hb2.cell (p := ⟨bs, off + k, none⟩) hbs).trans (HP.out k S (by rw [hS]; exact List.getElem?_eq_getElem (by omega)))
      have hstep := cat_take ss k (by omega)
      rw [← hS] at hstep
      have hle := cat_take_le ss (k + 1)
      rw [hstep, ByteArray.size_append] at hle
      obtain ⟨A, hA⟩ : ∃ A, A = cat (ss.take k) := ⟨_, rfl⟩
      rw [← hA] at hstep hle ⊢
      have HS := Lib.hid hstep
      have hsz : A.size + S.size ≤ 1048576 := by omega
      clear hS hstep hle hA hx2 cj hdone
      go_wp2_with fail
      go_round
      case rel => exact ⟨k + 1, by omega, by go_num, by rw [HS.out]⟩
      case measure => simp [intOf]; omega
    · obtain rfl : k = len := by omega
      rw [hdone]
      clear hdone hlt hk
      obtain ⟨C, hC⟩ : ∃ C, C = cat ss := ⟨_, rfl⟩
      rw [← hC] at cj ⊢
      clear hC
      go_wp2_with (go_at_call 16; refine cj.mono ?_; rintro e w3 ⟨rfl, hb3⟩)
      have hxx : w3.cell? ⟨g, k, none⟩ = some (.string ⟨#[120]⟩) := (hb3.cell (p := ⟨g, k, none⟩) hglt).trans hx2
      have HG : Hid (∀ (j : Nat) x, ss[j]? = some x → w3.cell? ⟨g, j, none⟩ = some (.string x)) := fun j x hj => by
        have := HC.out j x (by rw [List.getElem?_append_left (List.getElem?_eq_some_iff.1 hj).1]; exact hj)
        rw [Nat.zero_add] at this
        exact (hb3.cell (p := ⟨g, j, none⟩) hglt).trans this
      have HQ : Hid (∀ (j : Nat) x, ss[j]? = some x → w3.cell? ⟨bs, off + j, none⟩ = some (.string x)) := fun j x hj =>
        ((hb2.trans (hb3.mono hb2.size)).cell (p := ⟨bs, off + j, none⟩) hbs).trans (HP.out j x hj)
      have hB3 := below_call hb2 hb3
      have hg3 : g < w3.heap.size := Nat.lt_of_lt_of_le hglt hb3.size
      have hbs3 : bs < w3.heap.size := Nat.lt_of_lt_of_le hbs hB3.size
      clear HC HP hx2 cj hb3 hb2 hglt
      go_loopw [7] (fun i wr => ∃ j : Nat, j ≤ k ∧ i = .int .i64 j ∧ Below w3.heap.size w3 wr) (fun i _ => k - (intOf i).toNat)
      case atStart => exact ⟨0, Nat.zero_le _, rfl, Below.refl _ _⟩
      case round =>
        obtain ⟨j, hj, rfl, hb4⟩ := hrel
        by_cases hlt : j < k
        · have c1 := (hb4.cell (p := ⟨g, j, none⟩) hg3).trans (HG.out j ss[j] (List.getElem?_eq_getElem (by omega)))
          have c2 := (hb4.cell (p := ⟨bs, off + j, none⟩) hbs3).trans (HQ.out j ss[j] (List.getElem?_eq_getElem (by omega)))
          obtain ⟨S, hS⟩ : ∃ S, S = ss[j] := ⟨_, rfl⟩
          rw [← hS] at c1 c2
          clear hS
          have hlt1 : (j : Int) < (k : Int) := by omega
          have hlt2 : (j : Int) < (k : Int) + 1 := by omega
          go_wp2_with fail
          go_quiet (fail)
          go_wp2_with fail
          go_roundw
          case rel => exact ⟨j + 1, by omega, by go_num, below_drewN hb4 _⟩
          case measure => simp [intOf]; omega
        · have hx5 := (hb4.cell (p := ⟨g, k, none⟩) hg3).trans hxx
          have hb5 := below_call hB3 hb4
          go_wp2_with (go_at_call 11; refine (awake_any _).mono ?_; rintro e wa ⟨rfl, hba⟩; have hx6 := (hba.cell (p := ⟨g, k, none⟩) (Nat.lt_of_lt_of_le hg3 hb4.size)).trans hx5)
          go_ret
          exact ⟨rfl, below_call hb5 hba⟩

set_option maxRecDepth 100000 in
set_option maxHeartbeats 1000000 in
theorem walk_zero (x : Addr) (cap : Nat) (w : World) :
    Calls Try.prog 4 #[.slice (some x) 0 cap] w fun e w' => e = .returned (.bool true) ∧ Below w.heap.size w w' := by
  obtain ⟨i0, hi, hz0, hz1, hz2⟩ := info_parts info9
  go_enter Try.func4, Try.ntmps4
  go_wp2_with (at_builtin; refine wpList_append_own _ rfl (.tmp 8) (.tmp 9) 31 rfl w.heap.size 9 i0 (.string ⟨#[]⟩) 1 16 Try.underlying31 hi hz0 hz1 hz2 rfl (by decide) _ _ _ rfl (made0 w) x 0 cap [] rfl rfl ?c1 ?c2 ?c3 ?c4 ?c5 ?_)
  case c1 => intro j u hu; simp at hu
  case c2 => intro u hu; cases hu
  case c3 => unfold maxLen; omega
  case c4 => omega
  case c5 => simp
  intro v1 w1 hown1 hg1 _
  have hown : w1.ownsRow w.heap.size 9 1 v1 0 [] := by simpa using hown1
  clear hown1
  have hb1 := below_first hg1
  clear hg1
  have hsz1 := hb1.size
  go_wp2_with (at_builtin; refine wpList_append_own _ rfl (.tmp 10) (.tmp 11) 31 rfl w.heap.size 9 i0 (.string ⟨#[]⟩) 1 16 Try.underlying31 hi hz0 hz1 hz2 rfl (by decide) _ _ _ rfl (hown.alloc _) ⟨w1.heap.size, 0, none⟩ 1 1 [sv ⟨#[120]⟩] rfl rfl ?d1 ?d2 ?d3 ?d4 ?d5 ?_)
  case d1 => exact cell_one_new _ _ _
  case d2 => exact sv_one [⟨#[120]⟩]
  case d3 => unfold maxLen; omega
  case d4 => omega
  case d5 => simp; try omega
  intro v2 w2 hown2 hg2 _
  have hb2 := below_step hb1 hown hg2
  try simp only [List.nil_append] at hown2
  rw [show [sv ⟨#[120]⟩] = [(⟨#[120]⟩ : ByteArray)].map sv from rfl] at hown2
  obtain ⟨g, cp, hv, hg, hglt⟩ := hown2.form (by omega)
  rw [hv] at hown2
  have HC := Lib.hid (own_cells hown2)
  have hcp := (own_cap hown2).1
  have cj := join_len g 0 cp [] 0 w2 rfl (fun j x hj => by simp at hj) hglt (Nat.zero_le _) (Nat.zero_le _) (Nat.zero_le _)
  rw [cat_nil] at cj
  have hx2 : w2.cell? ⟨g, 0, none⟩ = some (.string ⟨#[120]⟩) := HC.out 0 ⟨#[120]⟩ rfl
  clear hown hown2 hg2 hb1 HC
  rw [hv]
  clear hv
  go_wp2_with fail
  go_loop [4, 5] (fun x i => i = .int .i64 0 ∧ x = .string ⟨#[]⟩) (fun _ _ => 0)
  case atStart => exact ⟨rfl, rfl⟩
  case round =>
    obtain ⟨rfl, rfl⟩ := hrel
    go_wp2_with (go_at_call 16; refine cj.mono ?_; rintro e w3 ⟨rfl, hb3⟩)
    have hxx : w3.cell? ⟨g, 0, none⟩ = some (.string ⟨#[120]⟩) := (hb3.cell (p := ⟨g, 0, none⟩) hglt).trans hx2
    have hB3 := below_call hb2 hb3
    have hg3 : g < w3.heap.size := Nat.lt_of_lt_of_le hglt hb3.size
    clear hx2 cj hb3 hb2 hglt
    go_loop [7] (fun i => i = .int .i64 0) (fun _ => 0)
    case atStart => exact rfl
    case round =>
      obtain rfl := hrel
      go_wp2_with (go_at_call 11; refine (awake_any _).mono ?_; rintro e wa ⟨rfl, hba⟩; have hx6 := (hba.cell (p := ⟨g, 0, none⟩) hg3).trans hxx)
      go_ret
      exact ⟨rfl, below_call hB3 hba⟩

set_option maxRecDepth 100000 in
set_option maxHeartbeats 1000000 in
theorem walk_nil (w : World) :
    Calls Try.prog 4 #[.slice none 0 0] w fun e w' => e = .returned (.bool true) ∧ Below w.heap.size w w' := by
  obtain ⟨i0, hi, hz0, hz1, hz2⟩ := info_parts info9
  have hown := made0 w
  have hb1 := (Below.refl w.heap.size w).alloc (Nat.le_refl _) (.cells #[] 9)
  go_enter Try.func4, Try.ntmps4
  have hsz1 := hb1.size
  go_wp2_with (at_builtin; refine wpList_append_own _ rfl (.tmp 10) (.tmp 11) 31 rfl w.heap.size 9 i0 (.string ⟨#[]⟩) 1 16 Try.underlying31 hi hz0 hz1 hz2 rfl (by decide) _ _ _ rfl (hown.alloc _) ⟨w.heap.size + 1, 0, none⟩ 1 1 [sv ⟨#[120]⟩] rfl rfl ?d1 ?d2 ?d3 ?d4 ?d5 ?_)
  case d1 => exact new_one w _ _
  case d2 => exact sv_one [⟨#[120]⟩]
  case d3 => unfold maxLen; omega
  case d4 => omega
  case d5 => simp; try omega
  intro v2 w2 hown2 hg2 _
  have hb2 := below_step hb1 hown hg2
  try simp only [List.nil_append] at hown2
  rw [show [sv ⟨#[120]⟩] = [(⟨#[120]⟩ : ByteArray)].map sv from rfl] at hown2
  obtain ⟨g, cp, hv, hg, hglt⟩ := hown2.form (by omega)
  rw [hv] at hown2
  have HC := Lib.hid (own_cells hown2)
  have hcp := (own_cap hown2).1
  have cj := join_len g 0 cp [] 0 w2 rfl (fun j x hj => by simp at hj) hglt (Nat.zero_le _) (Nat.zero_le _) (Nat.zero_le _)
  rw [cat_nil] at cj
  have hx2 : w2.cell? ⟨g, 0, none⟩ = some (.string ⟨#[120]⟩) := HC.out 0 ⟨#[120]⟩ rfl
  clear hown hown2 hg2 hb1 HC
  rw [hv]
  clear hv
  go_wp2_with fail
  go_loop [4, 5] (fun x i => i = .int .i64 0 ∧ x = .string ⟨#[]⟩) (fun _ _ => 0)
  case atStart => exact ⟨rfl, rfl⟩
  case round =>
    obtain ⟨rfl, rfl⟩ := hrel
    go_wp2_with (go_at_call 16; refine cj.mono ?_; rintro e w3 ⟨rfl, hb3⟩)
    have hxx : w3.cell? ⟨g, 0, none⟩ = some (.string ⟨#[120]⟩) := (hb3.cell (p := ⟨g, 0, none⟩) hglt).trans hx2
    have hB3 := below_call hb2 hb3
    have hg3 : g < w3.heap.size := Nat.lt_of_lt_of_le hglt hb3.size
    clear hx2 cj hb3 hb2 hglt
    go_loop [7] (fun i => i = .int .i64 0) (fun _ => 0)
    case atStart => exact rfl
    case round =>
      obtain rfl := hrel
      go_wp2_with (go_at_call 11; refine (awake_any _).mono ?_; rintro e wa ⟨rfl, hba⟩; have hx6 := (hba.cell (p := ⟨g, 0, none⟩) hg3).trans hxx)
      go_ret
      exact ⟨rfl, below_call hB3 hba⟩

end Go.Proofs.Ytjoafblfloceeaa.wireJoins
