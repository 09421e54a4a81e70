/- Whether an entry may follow a tree; Check: contracts. -/
import Derived.Test.YthokkobmlhbfgaaTI2
import Derived.Test.YthokkobmlhbfgaaPImpl
namespace Go.Proofs.Ythokkobmlhbfgaa.En
open Go.RowKit Tx Pm Pr
set_option linter.unusedVariables false

/-- Is a node a folder? -/
def isdir (n : Nd) : Bool := decide (n.kind = 1) && decide (n.data = ⟨#[]⟩)
/-- Does a path stand at the top or right in a folder? -/
def inF (l : List Et) (p : ByteArray) : Bool := decide (par p.data.toList = []) || isdir (tget l (tb (par p.data.toList)))
theorem tb_nil_iff {l : List UInt8} : tb l = ⟨#[]⟩ ↔ l = [] := by
  constructor
  · intro h
    have := congrArg (fun s : ByteArray => s.data.toList) h
    exact this
  · rintro rfl
    rfl

set_option maxRecDepth 100000 in
set_option maxHeartbeats 2000000 in
theorem inFolder_any (a : Option Addr) (n c : Nat) (l : List Et) (p : ByteArray) (w : World) (hl : Ents w a n l) (hr : Rise l) (hn : n ≤ 1000000000000) (hp : p.size ≤ 8000000000000) :
    Calls Try.prog 53 #[.slice a n c, .string p] w fun e w' => e = .returned (.bool (inF l p)) ∧ Below w.heap.size w w' := by
  have cp := fun W => pParent_any p W (by omega)
  have cg := fun W (h : Below w.heap.size w W) => getR_any a n c l (tb (par p.data.toList)) W (hl.below h) hr hn
  have hgN := guardN
  unfold nv at cg
  by_cases hpar : par p.data.toList = []
  · have hv : inF l p = true := by rw [inF, decide_eq_true hpar]; rfl
    have e := tb_nil hpar
    rw [hv]
    obtain ⟨R, hR⟩ : ∃ R, R = tb (par p.data.toList) := ⟨_, rfl⟩
    rw [← hR] at cp e
    clear cg hv hpar hR hl hr
    go_enter Try.func53, Try.ntmps53
    go_wp2_with fail
    go_at_call 68
    refine (cp _).mono ?_
    rintro e w1 ⟨rfl, hb1⟩
    go_wp2_with fail
    go_ret
    exact ⟨rfl, hb1⟩
  · have hv : inF l p = isdir (tget l (tb (par p.data.toList))) := by rw [inF, decide_eq_false hpar, Bool.false_or]
    have e := tb_ne hpar
    rw [hv]
    obtain ⟨R, hR⟩ : ∃ R, R = tb (par p.data.toList) := ⟨_, rfl⟩
    rw [← hR] at cp e cg ⊢
    obtain ⟨N, hN⟩ : ∃ N, N = tget l R := ⟨_, rfl⟩
    rw [← hN] at cg ⊢
    obtain ⟨K, D⟩ := N
    simp only at cg
    clear hv hpar hR hl hr hN
    by_cases hK : K = 1
    · by_cases hD : D = ⟨#[]⟩
      · have hv : isdir ⟨K, D⟩ = true := by rw [isdir, decide_eq_true hK, decide_eq_true hD]; rfl
        have e2 := is_empty hD
        rw [hv]
        subst hK hD
        clear hv
        go_enter Try.func53, Try.ntmps53
        go_wp2_with fail
        go_at_call 68
        refine (cp _).mono ?_
        rintro e w1 ⟨rfl, hb1⟩
        go_wp2_with fail
        go_at_call 16
        refine (cg _ hb1).mono ?_
        rintro e w2 ⟨rfl, hb2⟩
        go_wp2_with fail
        go_ret
        exact ⟨rfl, below_call hb1 hb2⟩
      · have hv : isdir ⟨K, D⟩ = false := by rw [isdir, decide_eq_false hD, Bool.and_false]
        have e2 := not_empty hD
        have e3 := bytes_ne hD
        rw [hv]
        subst hK
        clear hv hD
        go_enter Try.func53, Try.ntmps53
        go_wp2_with fail
        go_at_call 68
        refine (cp _).mono ?_
        rintro e w1 ⟨rfl, hb1⟩
        go_wp2_with fail
        go_at_call 16
        refine (cg _ hb1).mono ?_
        rintro e w2 ⟨rfl, hb2⟩
        go_wp2_with fail
        go_ret
        exact ⟨rfl, below_call hb1 hb2⟩
    · have hv : isdir ⟨K, D⟩ = false := by rw [isdir, decide_eq_false hK, Bool.false_and]
      have e2 : ((K : Int) == 1) = false := beq_eq_false_iff_ne.2 hK
      rw [hv]
      clear hv hK
      go_enter Try.func53, Try.ntmps53
      go_wp2_with fail
      go_at_call 68
      refine (cp _).mono ?_
      rintro e w1 ⟨rfl, hb1⟩
      go_wp2_with fail
      go_at_call 16
      refine (cg _ hb1).mono ?_
      rintro e w2 ⟨rfl, hb2⟩
      go_wp2_with fail
      go_ret
      exact ⟨rfl, below_call hb1 hb2⟩

/-- Does the list's last path stand ahead of this one? -/
def ahead (l : List Et) (p : ByteArray) : Bool := match l[l.length - 1]? with
  | some y => less y.path p
  | none => true
/-- May the entry stand behind the list? -/
def fol (l : List Et) (x : Et) : Bool := decide (chk x.path.data.toList 5 = 0) && (ahead l x.path && (whole x.node && (!isno x.node && inF l x.path)))

set_option maxRecDepth 100000 in
set_option maxHeartbeats 4000000 in
theorem follows_any (a : Option Addr) (n c : Nat) (l : List Et) (x : Et) (w : World) (hl : Ents w a n l) (hr : Rise l) (hn : n ≤ 1000000000000) (hs : x.path.size ≤ 8000000000000 ∧ x.node.data.size ≤ 8000000000000) :
    Calls Try.prog 32 #[.slice a n c, ev x] w fun e w' => e = .returned (.bool (fol l x)) ∧ Below w.heap.size w w' := by
  obtain ⟨P, K, D⟩ := x
  simp only at hs
  obtain ⟨hs1, hs2⟩ := hs
  have hB : ∀ o, Below w.heap.size w (w.alloc o) := fun o => (Below.refl _ _).alloc (Nat.le_refl _) _
  have cc := fun W => pCheck_any P 5 W (by omega) (by omega) (by omega)
  have cw := fun W => tWhole_any ⟨K, D⟩ W (by show D.size ≤ _; omega)
  have ci := fun W => isNone_any ⟨K, D⟩ W
  have cf := fun W (h : Below w.heap.size w W) => inFolder_any a n c l P W (hl.below h) hr hn hs1
  have htwo := chk_two P.data.toList 5
  have hln := hl.1
  have hfol : fol l ⟨P, K, D⟩ = (decide (chk P.data.toList 5 = 0) && (ahead l P && (whole ⟨K, D⟩ && (!isno ⟨K, D⟩ && inF l P)))) := rfl
  rw [hfol]
  unfold ev
  unfold nv at cw ci
  obtain ⟨C, hC⟩ : ∃ C, C = chk P.data.toList 5 := ⟨_, rfl⟩
  obtain ⟨V, hV⟩ : ∃ V, V = whole ⟨K, D⟩ := ⟨_, rfl⟩
  obtain ⟨O, hO⟩ : ∃ O, O = isno ⟨K, D⟩ := ⟨_, rfl⟩
  obtain ⟨F, hF⟩ : ∃ F, F = inF l P := ⟨_, rfl⟩
  rw [← hC] at cc htwo
  rw [← hV] at cw
  rw [← hO] at ci
  rw [← hC, ← hV, ← hO, ← hF]
  rw [← hF] at cf
  have HL := Lib.hid hl
  clear hC hV hO hF hfol hl hr
  obtain ⟨blk, hblk⟩ : ∃ o, o = Obj.cells #[.string P, .int .i64 K, .string D] 51 := ⟨_, rfl⟩
  have hfr : ∀ W, Below (w.alloc blk).heap.size (w.alloc blk) W → W.cell? ⟨w.heap.size, 0, none⟩ = some (.string P) ∧ W.cell? ⟨w.heap.size, 1, none⟩ = some (.int .i64 K) ∧ W.cell? ⟨w.heap.size, 2, none⟩ = some (.string D) := by
    intro W hW
    subst hblk
    have hlt : w.heap.size < (w.alloc (.cells #[.string P, .int .i64 K, .string D] 51)).heap.size := by simp
    refine ⟨(hW.cell (p := ⟨w.heap.size, _, none⟩) hlt).trans ?_, (hW.cell (p := ⟨w.heap.size, _, none⟩) hlt).trans ?_, (hW.cell (p := ⟨w.heap.size, _, none⟩) hlt).trans ?_⟩ <;> simp
  have HFR := Lib.hid hfr
  have HBL := Lib.hid hblk
  clear hfr
  rcases htwo with rfl | rfl
  case inr =>
    clear cw ci cf HFR HBL hblk
    go_enter Try.func32, Try.ntmps32
    go_wp2_with fail
    go_at_call 46
    refine (cc _).mono ?_
    rintro e w1 ⟨rfl, hb1⟩
    have hB1 := below_call (hB _) hb1
    go_wp2_with fail
    go_ret
    exact ⟨rfl, hB1⟩
  rw [show decide ((0 : Nat) = 0) = true from rfl, Bool.true_and]
  by_cases h0 : n = 0
  · have ha : ahead l P = true := by
      obtain rfl : l = [] := List.length_eq_zero_iff.1 (by omega)
      rfl
    rw [ha, Bool.true_and]
    subst h0
    clear ha hln
    go_enter Try.func32, Try.ntmps32
    go_wp2_with fail
    go_at_call 46
    refine (cc _).mono ?_
    rintro e w1 ⟨rfl, hb1⟩
    have hB1 := below_call (hB _) hb1
    rw [← hblk] at hb1
    obtain ⟨f1, f2, f3⟩ := HFR.out w1 hb1
    go_wp2_with fail
    go_quiet (fail)
    have hb2 := below_drewN hb1 nq
    have hB2 := below_drewN hB1 nq
    clear f1 f2 f3
    obtain ⟨f1, f2, f3⟩ := HFR.out _ hb2
    go_wp2_with fail
    go_at_call 12
    refine (cw _).mono ?_
    rintro e w3 ⟨rfl, hb⟩
    have hb3 := below_call hb2 hb
    have hB3 := below_call hB2 hb
    clear hb hb1 hb2 hB1 hB2 f1 f2 f3
    obtain ⟨f1, f2, f3⟩ := HFR.out _ hb3
    cases V with
    | false =>
      go_wp2_with fail
      go_ret
      exact ⟨rfl, hB3⟩
    | true =>
      go_wp2_with fail
      go_at_call 41
      refine (ci _).mono ?_
      rintro e w4 ⟨rfl, hb⟩
      have hb4 := below_call hb3 hb
      have hB4 := below_call hB3 hb
      clear hb hb3 hB3 f1 f2 f3
      obtain ⟨f1, f2, f3⟩ := HFR.out _ hb4
      cases O with
      | true =>
        go_wp2_with fail
        go_ret
        exact ⟨rfl, hB4⟩
      | false =>
        go_wp2_with fail
        go_at_call 53
        refine (cf _ hB4).mono ?_
        rintro e w5 ⟨rfl, hb⟩
        go_wp2_with fail
        go_ret
        exact ⟨rfl, below_call hB4 hb⟩
  · obtain ⟨y, hy⟩ : ∃ y, l[l.length - 1]? = some y := ⟨_, List.getElem?_eq_getElem (by omega)⟩
    have ha : ahead l P = less y.path P := by rw [ahead, hy]
    obtain ⟨b, off, rfl, hb, c1, _⟩ := HL.out.nth hy
    obtain ⟨m, rfl⟩ : ∃ m, n = m + 1 := ⟨n - 1, by omega⟩
    rw [hln, Nat.add_sub_cancel] at c1
    have hsub : ((m + 1 : Nat) : Int) - 1 = m := by omega
    have hpos : ((m + 1 : Nat) : Int) > 0 := by omega
    obtain ⟨Y, hY⟩ : ∃ Y, Y = y.path := ⟨_, rfl⟩
    rw [← hY] at c1 ha
    rw [ha]
    cases hless : less Y P with
    | false =>
      have hless2 : Op.bytesLess Y.toList P.toList = false := hless
      clear ha hln hy hY hless h0
      go_enter Try.func32, Try.ntmps32
      go_wp2_with fail
      go_at_call 46
      refine (cc _).mono ?_
      rintro e w1 ⟨rfl, hb1⟩
      have hB1 := below_call (hB _) hb1
      rw [← hblk] at hb1
      obtain ⟨f1, f2, f3⟩ := HFR.out w1 hb1
      have d1 := (hB1.cell (p := ⟨b, _, none⟩) hb).trans c1
      clear c1
      go_wp2_with fail
      go_quiet (fail)
      have hb2 := below_drewN hb1 nq
      have hB2 := below_drewN hB1 nq
      clear f1 f2 f3
      obtain ⟨f1, f2, f3⟩ := HFR.out _ hb2
      go_wp2_with fail
      go_ret
      exact ⟨rfl, hB2⟩
    | true =>
      have hless2 : Op.bytesLess Y.toList P.toList = true := hless
      rw [Bool.true_and]
      clear ha hln hy hY hless h0
      go_enter Try.func32, Try.ntmps32
      go_wp2_with fail
      go_at_call 46
      refine (cc _).mono ?_
      rintro e w1 ⟨rfl, hb1⟩
      have hB1 := below_call (hB _) hb1
      rw [← hblk] at hb1
      obtain ⟨f1, f2, f3⟩ := HFR.out w1 hb1
      have d1 := (hB1.cell (p := ⟨b, _, none⟩) hb).trans c1
      clear c1
      go_wp2_with fail
      go_quiet (fail)
      have hb2 := below_drewN hb1 nq
      have hB2 := below_drewN hB1 nq
      clear f1 f2 f3
      obtain ⟨f1, f2, f3⟩ := HFR.out _ hb2
      go_wp2_with fail
      go_at_call 12
      refine (cw _).mono ?_
      rintro e w3 ⟨rfl, hb⟩
      have hb3 := below_call hb2 hb
      have hB3 := below_call hB2 hb
      clear hb hb1 hb2 hB1 hB2 f1 f2 f3
      obtain ⟨f1, f2, f3⟩ := HFR.out _ hb3
      cases V with
      | false =>
        go_wp2_with fail
        go_ret
        exact ⟨rfl, hB3⟩
      | true =>
        go_wp2_with fail
        go_at_call 41
        refine (ci _).mono ?_
        rintro e w4 ⟨rfl, hb⟩
        have hb4 := below_call hb3 hb
        have hB4 := below_call hB3 hb
        clear hb hb3 hB3 f1 f2 f3
        obtain ⟨f1, f2, f3⟩ := HFR.out _ hb4
        cases O with
        | true =>
          go_wp2_with fail
          go_ret
          exact ⟨rfl, hB4⟩
        | false =>
          go_wp2_with fail
          go_at_call 53
          refine (cf _ hB4).mono ?_
          rintro e w5 ⟨rfl, hb⟩
          go_wp2_with fail
          go_ret
          exact ⟨rfl, below_call hB4 hb⟩
end Go.Proofs.Ythokkobmlhbfgaa.En
