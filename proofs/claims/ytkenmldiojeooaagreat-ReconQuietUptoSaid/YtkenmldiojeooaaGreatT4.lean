/- Texts of this seat, one behind the other. -/
import Derived.Test.YtkenmldiojeooaaGreatT3
import Derived.Deep.QuietTactic
import Derived.BigQuiet
import Derived.Laws.Rows
import Derived.Laws.NewBlocks
import Derived.WalkSmall
import Derived.Laws.StructEq
import Derived.WalkKit
import Derived.Laws.AppendOwnNone
import Derived.Deep.AppendLies
import Derived.Deep.RegionLaw
import Derived.Laws.OwnMore
import Derived.Deep.CutBlock
import Derived.Deep.CutRange
import Derived.Deep.Cut
import Derived.ProofKit
import Derived.OpenShut
import Derived.ShutString
import Derived.Deep.Slices
import Derived.Deep.Fields
import Derived.ChangeSame
import Derived.Shelf.SlSorted.Search
import Derived.Test.YtkenmldiojeooaaGreatProg
import Derived.Lib.Strings
import Derived.Lib.Bytealg
import Derived.Lib.IndexLaws
import Derived.Laws.RangeAny
import Derived.Shelf.RegionOpenPlain
import Derived.Deep.RegionWith
namespace Go.Proofs.YtkenmldiojeooaaGreat.Ud
open Go.RowKit Tx Um Aq
set_option linter.unusedVariables false
def SameT (la lb : List ByteArray) (w : World) (e : Ending) (w' : World) : Prop := ∃ B, (B = true ↔ la = lb) ∧ e = .returned (.bool B) ∧ Below w.heap.size w w'
set_option maxRecDepth 100000 in
set_option maxHeartbeats 1000000 in
theorem same_any (A B : Option Addr) (ca cb : Nat) (a b : List ByteArray) (w : World) (hA : Strs w A a.length a) (hB : Strs w B b.length b) (hn : a.length ≤ 9223372036854775806) (hm : b.length ≤ 9223372036854775806) :
    Calls Tryz.prog 49 #[.slice A a.length ca, .slice B b.length cb] w (SameT a b w) := by
  have HAS := Lib.hid hA
  have HBS := Lib.hid hB
  obtain ⟨m, hm'⟩ : ∃ m, m = a.length := ⟨_, rfl⟩
  obtain ⟨n, hn'⟩ : ∃ n, n = b.length := ⟨_, rfl⟩
  rw [← hm'] at hn ⊢
  rw [← hn'] at hm ⊢
  have HM := Lib.hid hm'
  have HN := Lib.hid hn'
  clear hA hB hm' hn'
  by_cases hmn : m = n
  · have e0 : ((m : Int) == n) = true := beq_iff_eq.2 (by omega)
    have hmn' : (m : Int) = (n : Int) := by omega
    go_enter Tryz.func49, Tryz.ntmps49
    go_wp2_with fail
    go_loopw [5] (fun i wr => ∃ k : Nat, k ≤ m ∧ i = .int .i64 k ∧ Hid (a.take k = b.take k) ∧ Below w.heap.size w wr) (fun i _ => m - (intOf i).toNat)
    case atStart => exact ⟨0, Nat.zero_le _, rfl, rfl, Below.refl _ _⟩
    case round =>
      obtain ⟨k, hk, rfl, hT, hW⟩ := hrel
      by_cases hlt : k < m
      · have hka : k < a.length := by rw [← HM.out]; exact hlt
        have hkb : k < b.length := by rw [← HN.out]; omega
        obtain ⟨ba, oa, rfl, c1⟩ := strs_cell HAS.out hka hW
        obtain ⟨bb, ob, rfl, c2⟩ := strs_cell HBS.out hkb hW
        obtain ⟨S, hS⟩ : ∃ S, S = a[k] := ⟨_, rfl⟩
        obtain ⟨T, hT0⟩ : ∃ T, T = b[k] := ⟨_, rfl⟩
        rw [← hS] at c1
        rw [← hT0] at c2
        have hlt1 : (k : Int) < (m : Int) := by omega
        have hlt2 : (k : Int) < (n : Int) := by omega
        by_cases he : S = T
        · have e1 : (S.toList == T.toList) = true := by rw [he]; exact beq_self_eq_true _
          have HNX : Hid (a.take (k + 1) = b.take (k + 1)) := by
            show _ = _
            rw [List.take_succ_eq_append_getElem hka, List.take_succ_eq_append_getElem hkb, hT.out, ← hS, ← hT0, he]
          clear hS hT0 he hT hka hkb
          go_wp2_with fail
          go_quiet (fail)
          go_wp2_with fail
          go_roundw
          case rel => exact ⟨k + 1, by omega, by go_num, HNX, below_drewN hW _⟩
          case measure => simp [intOf]; omega
        · have e1 : (S.toList == T.toList) = false := bytes_ne he
          have HE : Hid (a ≠ b) := fun h => he (by subst h; rw [hS, hT0])
          clear hS hT0 he hT hka hkb
          go_wp2_with fail
          go_quiet (fail)
          go_wp2_with fail
          go_ret
          exact ⟨false, Iff.intro (fun h => by cases h) (fun h => absurd h HE.out), rfl, below_drewN hW _⟩
      · have hkm : k = m := by omega
        have h := hT.out
        rw [List.take_of_length_le (by rw [← HM.out]; omega), List.take_of_length_le (by rw [← HN.out]; omega)] at h
        have HE := Lib.hid h
        clear hT h
        go_wp2_with fail
        go_ret
        exact ⟨true, Iff.intro (fun _ => HE.out) (fun _ => rfl), rfl, hW⟩
  · have e0 : ((m : Int) == n) = false := beq_eq_false_iff_ne.2 (by omega)
    have HE : Hid (a ≠ b) := fun h => hmn (by rw [HM.out, HN.out, h])
    clear hmn
    go_enter Tryz.func49, Tryz.ntmps49
    go_wp2
    go_ret
    exact ⟨false, Iff.intro (fun h => by cases h) (fun h => absurd h HE.out), rfl, Below.refl _ _⟩
end Go.Proofs.YtkenmldiojeooaaGreat.Ud

namespace Go.Proofs.YtkenmldiojeooaaGreat.Mg
open Go.RowKit Go.ChangeShapes Go.WideShapes Tx Um Ud Aq Km Kd Lm Ln
set_option linter.unusedVariables false
theorem len_flat {α : Type} {x : List α} : ∀ {M : List (List α)}, x ∈ M → x.length ≤ M.flatten.length
  | y :: M, h => by
    rw [List.flatten_cons, List.length_append]
    rcases List.mem_cons.1 h with rfl | h
    · omega
    · have := len_flat h
      omega
theorem cat_flat_le {x : List ByteArray} {M : List (List ByteArray)} (h : x ∈ M) : (cat x).size ≤ (cat M.flatten).size := by
  induction M with
  | nil => cases h
  | cons y M ih =>
    rw [List.flatten_cons, cat_app, ByteArray.size_append]
    rcases List.mem_cons.1 h with rfl | h
    · omega
    · have := ih h
      omega
theorem line_le {l : List ByteArray} {k : Nat} {x : ByteArray} (h : l[k]? = some x) : x.size ≤ (cat l).size := by
  have hm := List.mem_iff_getElem?.2 ⟨k, h⟩
  obtain ⟨p, q, rfl⟩ := List.append_of_mem hm
  rw [cat_app, ByteArray.size_append, show x :: q = [x] ++ q from rfl, cat_app, ByteArray.size_append]
  have : (cat [x]).size = x.size := by rw [cat_size]; simp
  omega
theorem pc_small {s t u : ByteArray} (he : err3 s t u = 0) {c : Ck ByteArray} (h : c ∈ pcs3 s t u) : c.b.length ≤ 400 ∧ c.l.length ≤ 400 ∧ c.r.length ≤ 400 ∧ (cat c.l).size ≤ t.size ∧ (cat c.r).size ≤ u.size := by
  obtain ⟨_, _, _, l1, l2, l3⟩ := err_lines he
  have e1 : ((pcs3 s t u).map (·.b)).flatten = lns s := pie_base _ _ _
  have e2 : ((pcs3 s t u).map (·.l)).flatten = lns t := pie_left _ _ _
  have e3 : ((pcs3 s t u).map (·.r)).flatten = lns u := pie_right _ _ _
  have q1 := len_flat (List.mem_map.2 ⟨c, h, rfl⟩ : c.b ∈ (pcs3 s t u).map (·.b))
  have q2 := len_flat (List.mem_map.2 ⟨c, h, rfl⟩ : c.l ∈ (pcs3 s t u).map (·.l))
  have q3 := len_flat (List.mem_map.2 ⟨c, h, rfl⟩ : c.r ∈ (pcs3 s t u).map (·.r))
  have q4 := cat_flat_le (List.mem_map.2 ⟨c, h, rfl⟩ : c.l ∈ (pcs3 s t u).map (·.l))
  have q5 := cat_flat_le (List.mem_map.2 ⟨c, h, rfl⟩ : c.r ∈ (pcs3 s t u).map (·.r))
  rw [e1] at q1
  rw [e2] at q2 q4
  rw [e3] at q3 q5
  rw [lns_cat] at q4 q5
  exact ⟨by omega, by omega, by omega, q4, q5⟩
theorem txs_take_le (L : List (Ck ByteArray)) (k : Nat) : (txs (L.take k)).size ≤ (txs L).size := by
  have key : ∀ (M : List (Ck ByteArray)) (z : ByteArray), z.size ≤ (M.foldl (fun s c => s ++ tx c) z).size := by
    intro M
    induction M with
    | nil => intro z; exact Nat.le_refl _
    | cons c M ih =>
      intro z
      rw [List.foldl_cons]
      have := ih (z ++ tx c)
      rw [ByteArray.size_append] at this
      omega
  have h : txs L = (L.drop k).foldl (fun s c => s ++ tx c) (txs (L.take k)) := by
    unfold txs
    rw [← List.foldl_append, List.take_append_drop]
  rw [h]
  exact key _ _
theorem txs_take_cf (L : List (Ck ByteArray)) (k : Nat) : cfs (L.take k) ≤ cfs L := by
  have h : cfs L = cfs (L.take k) + cfs (L.drop k) := by
    unfold cfs
    rw [← List.sum_append, ← List.map_append, List.take_append_drop]
  omega
theorem tx_some {c : Ck ByteArray} {l : List ByteArray} (h : pick c = some l) : tx c = cat l ∧ cf c = 0 := by
  unfold tx cf
  rw [h]
  exact ⟨rfl, rfl⟩
theorem tx_none {c : Ck ByteArray} (h : pick c = none) : tx c = AH ++ cat (clt c.l) ++ MI ++ cat (clt c.r) ++ BH ∧ cf c = 1 := by
  unfold tx cf
  rw [h]
  exact ⟨rfl, rfl⟩
theorem bool_no {B : Bool} {p : Prop} (h : B = true ↔ p) (hp : ¬ p) : B = false := by
  cases B with
  | true => exact absurd (h.1 rfl) hp
  | false => rfl
theorem mg_err {s t u : ByteArray} (h : ¬ err3 s t u = 0) : mtx s t u = ⟨#[]⟩ ∧ mcf s t u = 0 := by
  unfold mtx mcf
  rw [if_neg h, if_neg h]
  exact ⟨rfl, rfl⟩
theorem mg_ok {s t u : ByteArray} (h : err3 s t u = 0) : mtx s t u = txs (pcs3 s t u) ∧ mcf s t u = cfs (pcs3 s t u) ∧ chs s t u = pcs3 s t u := by
  unfold mtx mcf chs
  rw [if_pos h, if_pos h, if_pos h]
  exact ⟨rfl, rfl, rfl⟩
set_option maxRecDepth 100000 in
set_option maxHeartbeats 40000000 in
theorem refMerge_any (s t u : ByteArray) (w : World) (hs : s.size ≤ 8796093022207) (ht : t.size ≤ 8796093022207) (hu : u.size ≤ 8796093022207) :
    Calls Tryz.prog 33 #[.string s, .string t, .string u] w (MgTo s t u w) := by
  have k0 := refChunks_any s t u w hs ht hu
  unfold CkTo at k0
  by_cases he : err3 s t u = 0
  · obtain ⟨m1, m2, m3⟩ := mg_ok he
    have HG : Hid (mtx s t u = txs (pcs3 s t u) ∧ mcf s t u = cfs (pcs3 s t u) ∧ err3 s t u = 0) := ⟨m1, m2, he⟩
    have HPC : Hid (∀ c, c ∈ pcs3 s t u → c.b.length ≤ 400 ∧ c.l.length ≤ 400 ∧ c.r.length ≤ 400 ∧ (cat c.l).size ≤ t.size ∧ (cat c.r).size ≤ u.size) := fun c hc => pc_small he hc
    obtain ⟨z1, z2, z3⟩ := txs_size s t u
    obtain ⟨_, _, _, l1, l2, l3⟩ := err_lines he
    rw [m3, he] at k0
    obtain ⟨L, hL⟩ : ∃ L, L = pcs3 s t u := ⟨_, rfl⟩
    rw [← hL] at k0 HPC HG z1 z2 z3
    have hNL : L.length ≤ 1200 := by omega
    have hTX : (txs L).size ≤ 17592186075614 := by omega
    obtain ⟨NL, hNL2⟩ : ∃ NL, NL = L.length := ⟨_, rfl⟩
    have HNL := Lib.hid hNL2
    rw [← hNL2] at hNL
    have K0 := Lib.hid k0
    have HTXL := Lib.hid hTX
    have hcfL : cfs L ≤ 1200 := by omega
    have HPC2 := Lib.hid HPC
    clear k0 hL m1 m2 m3 he z1 z2 z3 l1 l2 l3 hNL2 hTX
    go_enter Tryz.func33, Tryz.ntmps33
    go_wp2_with fail
    go_at_call 48
    refine K0.out.mono ?_
    rintro e w1 ⟨v, cs, rfl, hcs, hic, hb1⟩
    obtain ⟨va, vc, rfl, hck⟩ := hcs.form hic
    have HCK := Lib.hid hck
    have HB1 := Lib.hid hb1
    rw [← HNL.out]
    clear hcs hic hck hb1 K0
    go_wp2_with fail
    go_loopw [11, 12, 13, 14] (fun xs nn ii _ wr => ∃ k : Nat, xs = .string (txs (L.take k)) ∧ nn = .int .i64 ((cfs (L.take k) : Nat) : Int) ∧ ii = .int .i64 (k : Int) ∧ k ≤ NL ∧ Hid (Below w1.heap.size w1 wr)) (fun _ _ i _ _ => NL - (intOf i).toNat)
    case atStart => exact ⟨0, rfl, rfl, rfl, Nat.zero_le _, Below.refl _ _⟩
    case round =>
      obtain ⟨k, rfl, rfl, rfl, hk, HB⟩ := hrel
      by_cases hlt : k < NL
      · have e1 : (k : Int) < (NL : Int) := by omega
        obtain ⟨c, hc⟩ : ∃ c, L[k]? = some c := ⟨_, List.getElem?_eq_getElem (by rw [← HNL.out]; exact hlt)⟩
        obtain ⟨gb, off, rfl, hgb, hcc⟩ := HCK.out.2.resolve_left (by rw [← HNL.out]; omega)
        obtain ⟨ub, ul, ur, c0, c1, c2, c3, r1, r2, r3⟩ := hcc k c hc
        obtain ⟨A1, k1, rfl, s1, _⟩ := r1
        obtain ⟨A2, k2, rfl, s2, _⟩ := r2
        obtain ⟨A3, k3, rfl, s3, _⟩ := r3
        have d0 : wr.cell? ⟨gb, off + k * 4, none⟩ = some (.bool c.st) := (HB.out.cell (p := ⟨gb, _, none⟩) hgb).trans c0
        have d1 : wr.cell? ⟨gb, off + k * 4 + 1, none⟩ = some (.slice A1 c.b.length k1) := (HB.out.cell (p := ⟨gb, _, none⟩) hgb).trans c1
        have d2 : wr.cell? ⟨gb, off + k * 4 + 2, none⟩ = some (.slice A2 c.l.length k2) := (HB.out.cell (p := ⟨gb, _, none⟩) hgb).trans c2
        have d3 : wr.cell? ⟨gb, off + k * 4 + 3, none⟩ = some (.slice A3 c.r.length k3) := (HB.out.cell (p := ⟨gb, _, none⟩) hgb).trans c3
        obtain ⟨b1, b2, b3, b4, b5⟩ := HPC.out c (List.mem_iff_getElem?.2 ⟨k, hc⟩)
        obtain ⟨t1, t2⟩ := txs_take hc
        have hle := txs_take_le L (k + 1)
        have hcf : cfs (L.take k) ≤ 1200 := by
          have h := txs_take_cf L k
          omega
        rw [t1, ByteArray.size_append] at hle
        have hle2 := HTXL.out
        obtain ⟨S, hS⟩ : ∃ S, S = txs (L.take k) := ⟨_, rfl⟩
        obtain ⟨M, hM⟩ : ∃ M, M = cfs (L.take k) := ⟨_, rfl⟩
        rw [← hS] at t1 hle ⊢
        rw [← hM] at t2 hcf ⊢
        have hsz : S.size + (tx c).size ≤ 17592186075614 := by omega
        have HT := Lib.hid t1
        have HC := Lib.hid t2
        have S1 := Lib.hid s1
        have S2 := Lib.hid s2
        have S3 := Lib.hid s3
        clear hcc hc c0 c1 c2 c3 t1 t2 hle hle2 hS hM s1 s2 s3
        cases hst : c.st with
        | true =>
          rw [hst] at d0
          have hba : Below wr.heap.size wr (wr.alloc (.cells #[.bool true, .slice A1 c.b.length k1, .slice A2 c.l.length k2, .slice A3 c.r.length k3] 76)) := (Below.refl _ wr).alloc (Nat.le_refl _) _
          have HV : Hid (∀ W, Below (wr.alloc (.cells #[.bool true, .slice A1 c.b.length k1, .slice A2 c.l.length k2, .slice A3 c.r.length k3] 76)).heap.size (wr.alloc (.cells #[.bool true, .slice A1 c.b.length k1, .slice A2 c.l.length k2, .slice A3 c.r.length k3] 76)) W → W.cell? ⟨wr.heap.size, 1, none⟩ = some (.slice A1 c.b.length k1) ∧ W.cell? ⟨wr.heap.size, 2, none⟩ = some (.slice A2 c.l.length k2) ∧ W.cell? ⟨wr.heap.size, 3, none⟩ = some (.slice A3 c.r.length k3)) := fun W hb => by
            have hlt : wr.heap.size < (wr.alloc (.cells #[.bool true, .slice A1 c.b.length k1, .slice A2 c.l.length k2, .slice A3 c.r.length k3] 76)).heap.size := by go_simp <;> omega
            refine ⟨(hb.cell (p := ⟨wr.heap.size, _, none⟩) hlt).trans ?_, (hb.cell (p := ⟨wr.heap.size, _, none⟩) hlt).trans ?_, (hb.cell (p := ⟨wr.heap.size, _, none⟩) hlt).trans ?_⟩ <;> go_simp
          have HSW : Hid (∀ W, Below (wr.alloc (.cells #[.bool true, .slice A1 c.b.length k1, .slice A2 c.l.length k2, .slice A3 c.r.length k3] 76)).heap.size (wr.alloc (.cells #[.bool true, .slice A1 c.b.length k1, .slice A2 c.l.length k2, .slice A3 c.r.length k3] 76)) W → Strs W A1 c.b.length c.b ∧ Strs W A2 c.l.length c.l ∧ Strs W A3 c.r.length c.r) := fun W hb => by
            have h1 : Below w1.heap.size w1 W := HB.out.trans ((hba.trans (hb.mono hba.size)).mono HB.out.size)
            exact ⟨S1.out.below h1, S2.out.below h1, S3.out.below h1⟩
          have HBV : Hid (∀ W, Below (wr.alloc (.cells #[.bool true, .slice A1 c.b.length k1, .slice A2 c.l.length k2, .slice A3 c.r.length k3] 76)).heap.size (wr.alloc (.cells #[.bool true, .slice A1 c.b.length k1, .slice A2 c.l.length k2, .slice A3 c.r.length k3] 76)) W → Below w1.heap.size w1 W) := fun W hb => HB.out.trans ((hba.trans (hb.mono hba.size)).mono HB.out.size)
          clear hba HB S1 S2 S3
          have hbw := Below.refl (wr.alloc (.cells #[.bool true, .slice A1 c.b.length k1, .slice A2 c.l.length k2, .slice A3 c.r.length k3] 76)).heap.size (wr.alloc (.cells #[.bool true, .slice A1 c.b.length k1, .slice A2 c.l.length k2, .slice A3 c.r.length k3] 76))
          obtain ⟨g1, g2⟩ := tx_some (show pick c = some c.l from if_pos (.inl hst))
          rw [g1] at hsz
          have HTX : Hid (txs (L.take (k + 1)) = S ++ cat c.l) := by show _ = _; rw [HT.out, g1]
          have HCF : Hid (cfs (L.take (k + 1)) = M) := by show _ = _; rw [HC.out, g2, Nat.add_zero]
          have KJ := Lib.hid (refJoin_any A2 c.l.length k2 c.l (wr.alloc (.cells #[.bool true, .slice A1 c.b.length k1, .slice A2 c.l.length k2, .slice A3 c.r.length k3] 76)) (HSW.out _ hbw).2.1 (by omega) (by omega))
          have HBN := Lib.hid (HBV.out _ hbw)
          obtain ⟨X1, hX1⟩ : ∃ X1, X1 = cat c.l := ⟨_, rfl⟩
          rw [← hX1] at HTX KJ hsz
          clear g1 g2 HT HC HSW HBV hX1 hbw
          go_wp2_with fail
          go_at_call 50
          refine KJ.out.mono ?_
          rintro e z ⟨rfl, rfl⟩
          clear KJ
          go_wp2_with fail
          go_roundw
          case rel => exact ⟨k + 1, by rw [HTX.out], by rw [HCF.out], by go_num, by omega, HBN⟩
          case measure => simp only [intOf]; omega
        | false =>
          rw [hst] at d0
          have hba : Below wr.heap.size wr (wr.alloc (.cells #[.bool false, .slice A1 c.b.length k1, .slice A2 c.l.length k2, .slice A3 c.r.length k3] 76)) := (Below.refl _ wr).alloc (Nat.le_refl _) _
          have HV : Hid (∀ W, Below (wr.alloc (.cells #[.bool false, .slice A1 c.b.length k1, .slice A2 c.l.length k2, .slice A3 c.r.length k3] 76)).heap.size (wr.alloc (.cells #[.bool false, .slice A1 c.b.length k1, .slice A2 c.l.length k2, .slice A3 c.r.length k3] 76)) W → W.cell? ⟨wr.heap.size, 1, none⟩ = some (.slice A1 c.b.length k1) ∧ W.cell? ⟨wr.heap.size, 2, none⟩ = some (.slice A2 c.l.length k2) ∧ W.cell? ⟨wr.heap.size, 3, none⟩ = some (.slice A3 c.r.length k3)) := fun W hb => by
            have hlt : wr.heap.size < (wr.alloc (.cells #[.bool false, .slice A1 c.b.length k1, .slice A2 c.l.length k2, .slice A3 c.r.length k3] 76)).heap.size := by go_simp <;> omega
            refine ⟨(hb.cell (p := ⟨wr.heap.size, _, none⟩) hlt).trans ?_, (hb.cell (p := ⟨wr.heap.size, _, none⟩) hlt).trans ?_, (hb.cell (p := ⟨wr.heap.size, _, none⟩) hlt).trans ?_⟩ <;> go_simp
          have HSW : Hid (∀ W, Below (wr.alloc (.cells #[.bool false, .slice A1 c.b.length k1, .slice A2 c.l.length k2, .slice A3 c.r.length k3] 76)).heap.size (wr.alloc (.cells #[.bool false, .slice A1 c.b.length k1, .slice A2 c.l.length k2, .slice A3 c.r.length k3] 76)) W → Strs W A1 c.b.length c.b ∧ Strs W A2 c.l.length c.l ∧ Strs W A3 c.r.length c.r) := fun W hb => by
            have h1 : Below w1.heap.size w1 W := HB.out.trans ((hba.trans (hb.mono hba.size)).mono HB.out.size)
            exact ⟨S1.out.below h1, S2.out.below h1, S3.out.below h1⟩
          have HBV : Hid (∀ W, Below (wr.alloc (.cells #[.bool false, .slice A1 c.b.length k1, .slice A2 c.l.length k2, .slice A3 c.r.length k3] 76)).heap.size (wr.alloc (.cells #[.bool false, .slice A1 c.b.length k1, .slice A2 c.l.length k2, .slice A3 c.r.length k3] 76)) W → Below w1.heap.size w1 W) := fun W hb => HB.out.trans ((hba.trans (hb.mono hba.size)).mono HB.out.size)
          clear hba HB S1 S2 S3
          have hbw := Below.refl (wr.alloc (.cells #[.bool false, .slice A1 c.b.length k1, .slice A2 c.l.length k2, .slice A3 c.r.length k3] 76)).heap.size (wr.alloc (.cells #[.bool false, .slice A1 c.b.length k1, .slice A2 c.l.length k2, .slice A3 c.r.length k3] 76))
          have KS := Lib.hid (same_any A2 A3 k2 k3 c.l c.r (wr.alloc (.cells #[.bool false, .slice A1 c.b.length k1, .slice A2 c.l.length k2, .slice A3 c.r.length k3] 76)) (HSW.out _ hbw).2.1 (HSW.out _ hbw).2.2 (by omega) (by omega))
          go_wp2_with fail
          go_at_call 49
          refine KS.out.mono ?_
          rintro e w2 ⟨bb, hbb, rfl, hb2⟩
          have hbw2 : Below (wr.alloc (.cells #[.bool false, .slice A1 c.b.length k1, .slice A2 c.l.length k2, .slice A3 c.r.length k3] 76)).heap.size (wr.alloc (.cells #[.bool false, .slice A1 c.b.length k1, .slice A2 c.l.length k2, .slice A3 c.r.length k3] 76)) w2 := hb2
          clear hbw KS
          have hbw := hbw2
          obtain ⟨v1, v2, v3⟩ := HV.out _ hbw
          clear hbw2 hb2
          by_cases h1 : c.l = c.r
          · obtain rfl : bb = true := hbb.2 h1
            clear hbb
            obtain ⟨g1, g2⟩ := tx_some (show pick c = some c.l from if_pos (.inr (.inl h1)))
            rw [g1] at hsz
            have HTX : Hid (txs (L.take (k + 1)) = S ++ cat c.l) := by show _ = _; rw [HT.out, g1]
            have HCF : Hid (cfs (L.take (k + 1)) = M) := by show _ = _; rw [HC.out, g2, Nat.add_zero]
            have KJ := Lib.hid (refJoin_any A2 c.l.length k2 c.l w2 (HSW.out _ hbw).2.1 (by omega) (by omega))
            have HBN := Lib.hid (HBV.out _ hbw)
            obtain ⟨X1, hX1⟩ : ∃ X1, X1 = cat c.l := ⟨_, rfl⟩
            rw [← hX1] at HTX KJ hsz
            clear g1 g2 HT HC HSW HBV hX1 hbw h1
            go_wp2_with fail
            go_at_call 50
            refine KJ.out.mono ?_
            rintro e z ⟨rfl, rfl⟩
            clear KJ
            go_wp2_with fail
            go_roundw
            case rel => exact ⟨k + 1, by rw [HTX.out], by rw [HCF.out], by go_num, by omega, HBN⟩
            case measure => simp only [intOf]; omega
          · obtain rfl := bool_no hbb h1
            clear hbb
            have KS := Lib.hid (same_any A3 A1 k3 k1 c.r c.b w2 (HSW.out _ hbw).2.2 (HSW.out _ hbw).1 (by omega) (by omega))
            go_wp2_with fail
            go_at_call 49
            refine KS.out.mono ?_
            rintro e w3 ⟨bb, hbb, rfl, hb2⟩
            have hbw2 : Below (wr.alloc (.cells #[.bool false, .slice A1 c.b.length k1, .slice A2 c.l.length k2, .slice A3 c.r.length k3] 76)).heap.size (wr.alloc (.cells #[.bool false, .slice A1 c.b.length k1, .slice A2 c.l.length k2, .slice A3 c.r.length k3] 76)) w3 := below_call hbw hb2
            clear hbw KS
            have hbw := hbw2
            obtain ⟨v1, v2, v3⟩ := HV.out _ hbw
            clear hbw2 hb2
            by_cases h2 : c.r = c.b
            · obtain rfl : bb = true := hbb.2 h2
              clear hbb
              obtain ⟨g1, g2⟩ := tx_some (show pick c = some c.l from if_pos (.inr (.inr h2)))
              rw [g1] at hsz
              have HTX : Hid (txs (L.take (k + 1)) = S ++ cat c.l) := by show _ = _; rw [HT.out, g1]
              have HCF : Hid (cfs (L.take (k + 1)) = M) := by show _ = _; rw [HC.out, g2, Nat.add_zero]
              have KJ := Lib.hid (refJoin_any A2 c.l.length k2 c.l w3 (HSW.out _ hbw).2.1 (by omega) (by omega))
              have HBN := Lib.hid (HBV.out _ hbw)
              obtain ⟨X1, hX1⟩ : ∃ X1, X1 = cat c.l := ⟨_, rfl⟩
              rw [← hX1] at HTX KJ hsz
              clear g1 g2 HT HC HSW HBV hX1 hbw h1 h2
              go_wp2_with fail
              go_at_call 50
              refine KJ.out.mono ?_
              rintro e z ⟨rfl, rfl⟩
              clear KJ
              go_wp2_with fail
              go_roundw
              case rel => exact ⟨k + 1, by rw [HTX.out], by rw [HCF.out], by go_num, by omega, HBN⟩
              case measure => simp only [intOf]; omega
            · obtain rfl := bool_no hbb h2
              clear hbb
              have KS := Lib.hid (same_any A2 A1 k2 k1 c.l c.b w3 (HSW.out _ hbw).2.1 (HSW.out _ hbw).1 (by omega) (by omega))
              go_wp2_with fail
              go_at_call 49
              refine KS.out.mono ?_
              rintro e w4 ⟨bb, hbb, rfl, hb2⟩
              have hbw2 : Below (wr.alloc (.cells #[.bool false, .slice A1 c.b.length k1, .slice A2 c.l.length k2, .slice A3 c.r.length k3] 76)).heap.size (wr.alloc (.cells #[.bool false, .slice A1 c.b.length k1, .slice A2 c.l.length k2, .slice A3 c.r.length k3] 76)) w4 := below_call hbw hb2
              clear hbw KS
              have hbw := hbw2
              obtain ⟨v1, v2, v3⟩ := HV.out _ hbw
              clear hbw2 hb2
              by_cases h3 : c.l = c.b
              · obtain rfl : bb = true := hbb.2 h3
                clear hbb
                obtain ⟨g1, g2⟩ := tx_some (show pick c = some c.r by unfold pick; rw [if_neg (by rw [hst]; simp [h1, h2]), if_pos h3])
                rw [g1] at hsz
                have HTX : Hid (txs (L.take (k + 1)) = S ++ cat c.r) := by show _ = _; rw [HT.out, g1]
                have HCF : Hid (cfs (L.take (k + 1)) = M) := by show _ = _; rw [HC.out, g2, Nat.add_zero]
                have KJ := Lib.hid (refJoin_any A3 c.r.length k3 c.r w4 (HSW.out _ hbw).2.2 (by omega) (by omega))
                have HBN := Lib.hid (HBV.out _ hbw)
                obtain ⟨X1, hX1⟩ : ∃ X1, X1 = cat c.r := ⟨_, rfl⟩
                rw [← hX1] at HTX KJ hsz
                clear g1 g2 HT HC HSW HBV hX1 hbw h1 h2 h3
                go_wp2_with fail
                go_at_call 50
                refine KJ.out.mono ?_
                rintro e z ⟨rfl, rfl⟩
                clear KJ
                go_wp2_with fail
                go_roundw
                case rel => exact ⟨k + 1, by rw [HTX.out], by rw [HCF.out], by go_num, by omega, HBN⟩
                case measure => simp only [intOf]; omega
              · obtain rfl := bool_no hbb h3
                clear hbb
                obtain ⟨g1, g2⟩ := tx_none (show pick c = none by unfold pick; rw [if_neg (by rw [hst]; simp [h1, h2]), if_neg h3])
                rw [g1, ByteArray.size_append, ByteArray.size_append, ByteArray.size_append, ByteArray.size_append] at hsz
                have hAH : AH.size = 8 := rfl
                have hMI : MI.size = 8 := rfl
                have hBH : BH.size = 8 := rfl
                have HTX : Hid (txs (L.take (k + 1)) = S ++ AH ++ cat (clt c.l) ++ MI ++ cat (clt c.r) ++ BH) := by
                  show _ = _
                  rw [HT.out, g1]
                  simp only [ByteArray.append_assoc]
                have HCF : Hid (cfs (L.take (k + 1)) = M + 1) := by show _ = _; rw [HC.out, g2]
                have q1 := clt_size c.l
                have q2 := clt_size c.r
                have wM : IntKind.i64.wrap ((M : Int) + 1) = (M : Int) + 1 := IntWalk.i64_in _ (by omega)
                have KC1 : Hid (∀ W, Below (wr.alloc (.cells #[.bool false, .slice A1 c.b.length k1, .slice A2 c.l.length k2, .slice A3 c.r.length k3] 76)).heap.size (wr.alloc (.cells #[.bool false, .slice A1 c.b.length k1, .slice A2 c.l.length k2, .slice A3 c.r.length k3] 76)) W → Calls Tryz.prog 51 #[.slice A2 c.l.length k2] W fun e w' => ∃ v, e = .returned v ∧ Below (wr.alloc (.cells #[.bool false, .slice A1 c.b.length k1, .slice A2 c.l.length k2, .slice A3 c.r.length k3] 76)).heap.size (wr.alloc (.cells #[.bool false, .slice A1 c.b.length k1, .slice A2 c.l.length k2, .slice A3 c.r.length k3] 76)) w' ∧ Rd w' v (clt c.l)) := fun W hb =>
                  (refClosed_any A2 c.l.length k2 c.l W (HSW.out _ hb).2.1 (by omega) (fun k x hx => by have := line_le hx; omega)).mono fun e w' h => by
                    obtain ⟨v, e1, e2, e3⟩ := h
                    exact ⟨v, e1, below_call hb e3, lo_rd e2⟩
                have KC2 : Hid (∀ W, Below (wr.alloc (.cells #[.bool false, .slice A1 c.b.length k1, .slice A2 c.l.length k2, .slice A3 c.r.length k3] 76)).heap.size (wr.alloc (.cells #[.bool false, .slice A1 c.b.length k1, .slice A2 c.l.length k2, .slice A3 c.r.length k3] 76)) W → Calls Tryz.prog 51 #[.slice A3 c.r.length k3] W fun e w' => ∃ v, e = .returned v ∧ Below (wr.alloc (.cells #[.bool false, .slice A1 c.b.length k1, .slice A2 c.l.length k2, .slice A3 c.r.length k3] 76)).heap.size (wr.alloc (.cells #[.bool false, .slice A1 c.b.length k1, .slice A2 c.l.length k2, .slice A3 c.r.length k3] 76)) w' ∧ Rd w' v (clt c.r)) := fun W hb =>
                  (refClosed_any A3 c.r.length k3 c.r W (HSW.out _ hb).2.2 (by omega) (fun k x hx => by have := line_le hx; omega)).mono fun e w' h => by
                    obtain ⟨v, e1, e2, e3⟩ := h
                    exact ⟨v, e1, below_call hb e3, lo_rd e2⟩
                have hl4 : (clt c.l).length ≤ 9223372036854775807 := by rw [clt_len]; omega
                have hr4 : (clt c.r).length ≤ 9223372036854775807 := by rw [clt_len]; omega
                have KJ : Hid (∀ (l : List ByteArray) W v, l.length ≤ 9223372036854775807 → (cat l).size ≤ 9223372036854775807 → Below (wr.alloc (.cells #[.bool false, .slice A1 c.b.length k1, .slice A2 c.l.length k2, .slice A3 c.r.length k3] 76)).heap.size (wr.alloc (.cells #[.bool false, .slice A1 c.b.length k1, .slice A2 c.l.length k2, .slice A3 c.r.length k3] 76)) W → Rd W v l → Calls Tryz.prog 50 #[v] W fun e w' => e = .returned (.string (cat l)) ∧ Below (wr.alloc (.cells #[.bool false, .slice A1 c.b.length k1, .slice A2 c.l.length k2, .slice A3 c.r.length k3] 76)).heap.size (wr.alloc (.cells #[.bool false, .slice A1 c.b.length k1, .slice A2 c.l.length k2, .slice A3 c.r.length k3] 76)) w') := fun l W v h1 h2 hb hr => by
                  obtain ⟨A, cc, rfl, hs, _⟩ := hr
                  refine (refJoin_any A l.length cc l W hs h1 h2).mono fun e w' h => ?_
                  obtain ⟨rfl, rfl⟩ := h
                  exact ⟨rfl, hb⟩
                have hj1 : (cat (clt c.l)).size ≤ 9223372036854775807 := by omega
                have hj2 : (cat (clt c.r)).size ≤ 9223372036854775807 := by omega
                have hss : S.size + (cat (clt c.l)).size + (cat (clt c.r)).size + 24 ≤ 9223372036854775807 := by omega
                have hbd := hbw.drew
                have HBQ : Hid (∀ W, Below (wr.alloc (.cells #[.bool false, .slice A1 c.b.length k1, .slice A2 c.l.length k2, .slice A3 c.r.length k3] 76)).heap.size (wr.alloc (.cells #[.bool false, .slice A1 c.b.length k1, .slice A2 c.l.length k2, .slice A3 c.r.length k3] 76)) W → Below w1.heap.size w1 W) := HBV
                have HV2 : Hid (∀ W, Below (wr.alloc (.cells #[.bool false, .slice A1 c.b.length k1, .slice A2 c.l.length k2, .slice A3 c.r.length k3] 76)).heap.size (wr.alloc (.cells #[.bool false, .slice A1 c.b.length k1, .slice A2 c.l.length k2, .slice A3 c.r.length k3] 76)) W → W.cell? ⟨wr.heap.size, 2, none⟩ = some (.slice A2 c.l.length k2) ∧ W.cell? ⟨wr.heap.size, 3, none⟩ = some (.slice A3 c.r.length k3)) := fun W hb => ⟨(HV.out W hb).2.1, (HV.out W hb).2.2⟩
                clear g1 g2 HT HC HSW HBV hAH hMI hBH q1 q2 hsz h1 h2 h3 HV
                go_wp2_with fail
                refine Rg.wp_only ?_ (conflReg _ (by kernel_rfl) _ wr.heap.size c.l.length k2 c.r.length k3 A2 A3 S (cat (clt c.l)) (cat (clt c.r)) w4 (Below (wr.alloc (.cells #[.bool false, .slice A1 c.b.length k1, .slice A2 c.l.length k2, .slice A3 c.r.length k3] 76)).heap.size (wr.alloc (.cells #[.bool false, .slice A1 c.b.length k1, .slice A2 c.l.length k2, .slice A3 c.r.length k3] 76))) (fun W v => Rd W v (clt c.l)) (fun W v => Rd W v (clt c.r)) HV2.out hbd KC1.out (fun W v hb hr => KJ.out _ W v hl4 hj1 hb hr) KC2.out (fun W v hb hr => KJ.out _ W v hr4 hj2 hb hr) hss)
                rintro _ w5 ⟨p1, p2, rfl, h5⟩
                have HBN := Lib.hid (HBQ.out _ h5)
                clear KC1 KC2 KJ HV2 hbd hss hj1 hj2 hl4 hr4 h5 HBQ hbw
                go_wp2_with fail
                go_roundw
                case rel => exact ⟨k + 1, by rw [HTX.out]; rfl, by rw [HCF.out]; go_num, by go_num, by omega, HBN⟩
                case measure => simp only [intOf]; omega
      · have hkN : k = NL := by omega
        have e1 : ¬ (k : Int) < (NL : Int) := by omega
        have hE : L.take k = L := by rw [hkN, HNL.out, List.take_length]
        rw [hE]
        clear hE hkN
        have HBE := Lib.hid (HB1.out.trans (HB.out.mono HB1.out.size))
        go_wp2_with fail
        go_ret3
        refine ⟨?_, HBE.out⟩
        rw [HG.out.1, HG.out.2.1, HG.out.2.2]
        rfl
  · obtain ⟨m1, m2⟩ := mg_err he
    have HG : Hid (mtx s t u = ⟨#[]⟩ ∧ mcf s t u = 0) := ⟨m1, m2⟩
    obtain ⟨E, hE⟩ : ∃ E, E = err3 s t u := ⟨_, rfl⟩
    rw [← hE] at k0 he
    have HE := Lib.hid hE
    have he2 : ¬ (E : Int) = 0 := by omega
    have K0 := Lib.hid k0
    clear k0 hE m1 m2 he
    go_enter Tryz.func33, Tryz.ntmps33
    go_wp2_with fail
    go_at_call 48
    refine K0.out.mono ?_
    rintro e w1 ⟨v, cs, rfl, _, _, hb1⟩
    clear K0
    go_wp2_with fail
    go_ret3
    unfold MgTo
    rw [HG.out.1, HG.out.2, ← HE.out]
    exact ⟨rfl, hb1⟩
end Go.Proofs.YtkenmldiojeooaaGreat.Mg

namespace Go.Proofs.YtkenmldiojeooaaGreat.Mg
open Go.RowKit Go.ChangeShapes Go.WideShapes Tx Um Ud Aq Km Kd Lm Ln
set_option linter.unusedVariables false
theorem builder_below {T e : TypeId} {B b : Nat} {bs : List Value} {w w1 : World} (h : Lib.IsBuilder T e B b bs w) (hb : Below w.heap.size w w1) : Lib.IsBuilder T e B b bs w1 := by
  have key : ∀ p, Lib.BuilderAt T e B b p bs w → Lib.BuilderAt T e B b p bs w1 := by
    rintro p ⟨h1, v, h2, h3, h4⟩
    refine ⟨h1, v, (hb.block b (Array.getElem?_eq_some_iff.1 h2).1).trans h2, ⟨h3.1, ?_⟩, h4⟩
    rcases h3.2 with h0 | ⟨g', cap', cur, hv, hg, hh, r⟩
    · exact .inl h0
    · exact .inr ⟨g', cap', cur, hv, hg, (hb.block g' (Array.getElem?_eq_some_iff.1 hh).1).trans hh, r⟩
  rcases h with h | h
  · exact .inl (key _ h)
  · exact .inr (key _ h)
theorem builder_new (w : World) (B : Nat) (hB : B ≤ w.heap.size) : Lib.IsBuilder 74 5 B w.heap.size [] (w.alloc (.cells #[.pointer none, .slice none 0 0] 74)) :=
  .inl ⟨hB, _, heap_alloc_new w _, World.ownsRow_nil _ _ _ _, by simp [Value.ownBlock]⟩
theorem cs_form {w : World} {B : Nat} {v : Value} {cs : List Cc} (h : Cs w B v cs) : ∃ a c, v = .slice a cs.length c ∧ (cs.length = 0 ∨ ∃ g, a = some ⟨g, 0, none⟩ ∧ g < w.heap.size ∧ ∀ (k : Nat) x, cs[k]? = some x →
    w.cell? ⟨g, k * 4, none⟩ = some (.bool x.1) ∧ w.cell? ⟨g, k * 4 + 1, none⟩ = some x.2.1 ∧ w.cell? ⟨g, k * 4 + 2, none⟩ = some x.2.2.1 ∧ w.cell? ⟨g, k * 4 + 3, none⟩ = some x.2.2.2) := by
  have hh := h
  rcases h.2 with ⟨rfl, h0⟩ | ⟨g, cap, cur, rfl, hg, hh2, hn, hc, _⟩
  · exact ⟨none, 0, by rw [h0], .inl h0⟩
  · refine ⟨some ⟨g, 0, none⟩, cap, rfl, .inr ⟨g, rfl, (Array.getElem?_eq_some_iff.1 hh2).1, fun k x hx => ?_⟩⟩
    obtain ⟨h1, h2, h3, h4'⟩ := flat5_get cs k x hx
    have e1 := World.ownsRow.cells (g := g) hh rfl _ _ h1
    have e2 := World.ownsRow.cells (g := g) hh rfl _ _ h2
    have e3 := World.ownsRow.cells (g := g) hh rfl _ _ h3
    have e4 := World.ownsRow.cells (g := g) hh rfl _ _ h4'
    rw [WideShapes.add_plain, Nat.zero_add] at e1 e2 e3 e4
    exact ⟨e1, e2, e3, e4⟩
theorem chars_app (s t : ByteArray) : Lib.strCells s ++ Lib.strCells t = Lib.strCells (s ++ t) := by
  unfold Lib.strCells
  rw [ByteArray.data_append, Array.toList_append, List.map_append]
theorem chars_back (s : ByteArray) : (⟨s.data.toList.toArray⟩ : ByteArray) = s := by simp
set_option maxRecDepth 100000 in
set_option maxHeartbeats 8000000 in
theorem merge_any (s t u : ByteArray) (w : World) (hq : s.size + t.size + u.size ≤ 4194304) :
    Calls Tryz.prog 32 #[.string s, .string t, .string u] w (MgTo s t u w) := by
  have k0 := chunks_any s t u w (by omega) (by omega) (by omega)
  unfold ChTo at k0
  by_cases he : err3 s t u = 0
  · obtain ⟨m1, m2, m3⟩ := mg_ok he
    have HG : Hid (mtx s t u = txs (pcs3 s t u) ∧ mcf s t u = cfs (pcs3 s t u) ∧ err3 s t u = 0) := ⟨m1, m2, he⟩
    have HPC : Hid (∀ c, c ∈ pcs3 s t u → c.b.length ≤ 400 ∧ c.l.length ≤ 400 ∧ c.r.length ≤ 400 ∧ (cat c.l).size ≤ t.size ∧ (cat c.r).size ≤ u.size) := fun c hc => pc_small he hc
    have HS3 : Hid (∀ c, c ∈ pcs3 s t u → Same3 c) := fun c hc => ((pt_pcs3 s t u).full c hc).2
    obtain ⟨z1, z2, z3⟩ := txs_size s t u
    obtain ⟨_, _, _, l1, l2, l3⟩ := err_lines he
    rw [m3, he] at k0
    obtain ⟨L, hL⟩ : ∃ L, L = pcs3 s t u := ⟨_, rfl⟩
    rw [← hL] at k0 HPC HS3 HG z1 z2 z3
    have hNL : L.length ≤ 1200 := by omega
    have hTX : (txs L).size ≤ 8388608 := by omega
    have hCF : cfs L ≤ 1200 := by omega
    have HTX : Hid (∀ k, (txs (L.take k)).size ≤ 8388608) := fun k => Nat.le_trans (txs_take_le L k) hTX
    have HCF : Hid (∀ k, cfs (L.take k) ≤ 1200) := fun k => Nat.le_trans (txs_take_cf L k) hCF
    have K0 := Lib.hid k0
    clear k0 hL m1 m2 m3 he z1 z2 z3 l1 l2 l3 hTX hCF
    go_enter Tryz.func32, Tryz.ntmps32
    go_wp2_with fail
    go_at_call 43
    refine K0.out.mono ?_
    rintro e w1 ⟨v1, cs, rfl, h1, h2, h3, hb1⟩
    obtain ⟨av, cv, rfl, hf⟩ := cs_form h1
    have hlen := h2.len
    obtain ⟨NC, hNC⟩ : ∃ NC, NC = cs.length := ⟨_, rfl⟩
    rw [← hNC] at hf ⊢
    have HNC := Lib.hid hNC
    have hNC1 : NC ≤ 1200 := by omega
    have HLEN : Hid (NC = L.length) := hNC.trans hlen
    have HF := Lib.hid hf
    have HIC := Lib.hid h2
    have HOW := Lib.hid h3
    have HB1 := Lib.hid hb1
    clear h1 h2 h3 hb1 hf hlen hNC K0
    go_wp2_with fail
    have HBW : Hid (Below w1.heap.size w1 (w1.alloc (.cells #[.pointer none, .slice none 0 0] 74))) := (Below.refl _ _).alloc (Nat.le_refl _) _
    have HBD : Hid (Lib.IsBuilder 74 5 w1.heap.size w1.heap.size [] (w1.alloc (.cells #[.pointer none, .slice none 0 0] 74))) := builder_new w1 _ (Nat.le_refl _)
    obtain ⟨W1, hW1⟩ : ∃ W1, W1 = w1.alloc (.cells #[.pointer none, .slice none 0 0] 74) := ⟨_, rfl⟩
    rw [← hW1] at HBW HBD ⊢
    clear hW1
    go_loopw [7, 12, 13, 14, 27] (fun cv _ _ _ iv wr => ∃ k : Nat, iv = .int .i64 (k : Int) ∧ k ≤ NC ∧ cv = .int .i64 ((cfs (L.take k) : Nat) : Int) ∧ Hid (Lib.IsBuilder 74 5 w1.heap.size w1.heap.size (Lib.strCells (txs (L.take k))) wr) ∧ Hid (Below w1.heap.size w1 wr)) (fun _ _ _ _ iv _ => NC - (intOf iv).toNat)
    case atStart => exact ⟨0, rfl, Nat.zero_le _, rfl, HBD, HBW⟩
    case round =>
      obtain ⟨k, rfl, hk, rfl, HBR, HB⟩ := hrel
      clear HBD HBW
      by_cases hlt : k < NC
      · have e1 : (k : Int) < (NC : Int) := by omega
        obtain ⟨g, rfl, hg, hc⟩ := HF.out.resolve_left (by omega)
        obtain ⟨x, hx⟩ : ∃ x, L[k]? = some x := ⟨_, List.getElem?_eq_getElem (by rw [← HLEN.out]; exact hlt)⟩
        obtain ⟨⟨st, vb, vl, vr⟩, hck, q1, q2, q3, q4⟩ := HIC.out.get k x hx
        obtain ⟨o1, o2, o3⟩ := HOW.out.each k _ x hck hx
        obtain ⟨c0, c1, c2, c3⟩ := hc k _ hck
        simp only at q1 q2 q3 q4 o1 o2 o3 c0 c1 c2 c3
        subst q1
        obtain ⟨p1, p2, p3, p4, p5⟩ := HPC.out x (List.mem_iff_getElem?.2 ⟨k, hx⟩)
        have s3 := HS3.out x (List.mem_iff_getElem?.2 ⟨k, hx⟩)
        obtain ⟨tt, tc⟩ := txs_take hx
        have zt := HTX.out (k + 1)
        have zt0 := HTX.out k
        have zc := HCF.out (k + 1)
        have zc0 := HCF.out k
        obtain ⟨Ab, kb, rfl⟩ := o1.form
        obtain ⟨Al, kl, rfl⟩ := o2.form
        obtain ⟨Ar, kr, rfl⟩ := o3.form
        have d0 := (HB.out.cell (p := ⟨g, _, none⟩) hg).trans c0
        have d1 := (HB.out.cell (p := ⟨g, _, none⟩) hg).trans c1
        have d2 := (HB.out.cell (p := ⟨g, _, none⟩) hg).trans c2
        have d3 := (HB.out.cell (p := ⟨g, _, none⟩) hg).trans c3
        obtain ⟨W2, hW2⟩ : ∃ W2, W2 = wr.alloc (.cells #[.bool x.st, .slice Ab x.b.length kb, .slice Al x.l.length kl, .slice Ar x.r.length kr] 76) := ⟨_, rfl⟩
        have hb2 : Below wr.heap.size wr W2 := by rw [hW2]; exact (Below.refl _ _).alloc (Nat.le_refl _) _
        have hk2 : Bk W2 wr.heap.size #[.bool x.st, .slice Ab x.b.length kb, .slice Al x.l.length kl, .slice Ar x.r.length kr] 76 := by rw [hW2]; exact bk_new _ _ _
        have HB2 : Hid (Below w1.heap.size w1 W2) := HB.out.trans (hb2.mono HB.out.size)
        have HBR2 : Hid (Lib.IsBuilder 74 5 w1.heap.size w1.heap.size (Lib.strCells (txs (L.take k))) W2) := builder_below HBR.out hb2
        have CM := Lib.hid (merged_any x (o1.below HB2.out) (o2.below HB2.out) (o3.below HB2.out) s3 p1 p2 p3 (by omega) (by omega))
        have CK := Lib.hid (fun W (h : Below W2.heap.size W2 W) => marked_any x (o1.below (HB2.out.trans (h.mono HB2.out.size))) (o2.below (HB2.out.trans (h.mono HB2.out.size))) (o3.below (HB2.out.trans (h.mono HB2.out.size))) p2 p3 (by omega) (by omega))
        have HK2 := Lib.hid hk2
        have HTT := Lib.hid tt
        have HTC := Lib.hid tc
        clear hc hx hck q2 q3 q4 o1 o2 o3 c0 c1 c2 c3 s3 tt tc hk2 hb2 HB HBR p1 p2 p3 p4 p5
        have hWR : ∀ X : ByteArray, tx x = X → ∀ W (h : Below W2.heap.size W2 W), Calls Tryz.prog 46 #[.pointer (some ⟨w1.heap.size, 0, none⟩), .string X] W fun e w' => e = .returned (.tuple #[.int .i64 X.size, .nilIface]) ∧ Lib.IsBuilder 74 5 w1.heap.size w1.heap.size (Lib.strCells (txs (L.take (k + 1)))) w' ∧ Below w1.heap.size w1 w' := fun X hX W h => by
          have hBB : Below w1.heap.size w1 W := HB2.out.trans (h.mono HB2.out.size)
          have hsz : (txs (L.take k)).size + X.size = (txs (L.take (k + 1))).size := by rw [HTT.out, ByteArray.size_append, hX]
          refine (write_any w1.heap.size w1.heap.size (Lib.strCells (txs (L.take k))) X W (builder_below HBR2.out h) (by rw [Lib.strCells_length]; omega) hBB.size).mono ?_
          rintro e w' ⟨rfl, h5, h6⟩
          rw [chars_app, ← hX, ← HTT.out] at h5
          exact ⟨rfl, .inr h5, hBB.trans h6⟩
        have HWR := Lib.hid hWR
        clear hWR
        cases hp : pick x with
        | some l =>
          obtain ⟨y1, y2⟩ := tx_some hp
          have CM2 := CM.out
          unfold MdTo at CM2
          rw [hp] at CM2
          simp only [Option.isSome_some] at CM2
          have HM := Lib.hid CM2
          have HW := Lib.hid (HWR.out _ y1)
          have HC2 : Hid (cfs (L.take (k + 1)) = cfs (L.take k)) := by have h := HTC.out; rw [y2, Nat.add_zero] at h; exact h
          clear CM CM2 CK HWR y1 y2 hp
          go_wp2_with fail
          rw [← hW2]
          clear hW2
          go_at_call 44
          refine HM.out.mono ?_
          rintro e w3 ⟨rfl, hb3⟩
          clear d0 d1 d2 d3
          have HB3 := Lib.hid hb3
          clear hb3
          go_wp2_with fail
          go_at_call 46
          refine (HW.out _ HB3.out).mono ?_
          rintro e w4 ⟨rfl, h5, h6⟩
          have H5 := Lib.hid h5
          have H6 := Lib.hid h6
          clear h5 h6 HW HM
          go_wp2_with fail
          go_roundw
          case rel => exact ⟨k + 1, by go_num, by omega, by rw [HC2.out], H5, H6⟩
          case measure => simp only [intOf]; omega
        | none =>
          obtain ⟨y1, y2⟩ := tx_none hp
          have CM2 := CM.out
          unfold MdTo at CM2
          rw [hp] at CM2
          simp only [Option.isSome_none] at CM2
          have HM := Lib.hid CM2
          have CK2 := fun W (h : Below W2.heap.size W2 W) => CK.out W h
          simp only [← y1] at CK2
          have HK := Lib.hid CK2
          have HW := Lib.hid (HWR.out _ rfl)
          have HC2 : Hid (cfs (L.take (k + 1)) = cfs (L.take k) + 1) := by have h := HTC.out; rw [y2] at h; exact h
          have wc : IntKind.i64.wrap (((cfs (L.take k) : Nat) : Int) + 1) = ((cfs (L.take k) : Nat) : Int) + 1 := IntWalk.i64_in _ (by omega)
          obtain ⟨X, hX⟩ : ∃ X, X = tx x := ⟨_, rfl⟩
          rw [← hX] at HW
          simp only [← hX] at HK
          clear CM CM2 CK CK2 HWR y1 y2 hp hX
          go_wp2_with fail
          rw [← hW2]
          clear hW2
          go_at_call 44
          refine HM.out.mono ?_
          rintro e w3 ⟨rfl, hb3⟩
          have HK3 := HK2.out.below hb3 HK2.out.lt
          have f0 := HK3.cell 0 rfl
          have f1 := HK3.cell 1 rfl
          have f2 := HK3.cell 2 rfl
          have f3 := HK3.cell 3 rfl
          have HB3 := Lib.hid hb3
          clear hb3 HK3 d0 d1 d2 d3
          go_wp2_with fail
          go_at_call 45
          refine (HK.out _ HB3.out).mono ?_
          rintro e w4 ⟨rfl, hb4⟩
          have HB4 : Hid (Below W2.heap.size W2 w4) := below_call HB3.out hb4
          clear hb4 f0 f1 f2 f3
          go_wp2_with fail
          go_at_call 46
          refine (HW.out _ HB4.out).mono ?_
          rintro e w5 ⟨rfl, h5, h6⟩
          have H5 := Lib.hid h5
          have H6 := Lib.hid h6
          clear h5 h6 HW HM HK
          go_wp2_with fail
          go_roundw
          case rel => exact ⟨k + 1, by go_num, by omega, by rw [HC2.out]; go_num, H5, H6⟩
          case measure => simp only [intOf]; omega
      · have hkN : k = NC := by omega
        have e2 : ¬ (k : Int) < (NC : Int) := by omega
        have hall : L.take k = L := List.take_of_length_le (by rw [← HLEN.out]; omega)
        have CS := Lib.hid (string_any w1.heap.size w1.heap.size (txs (L.take k)).data.toList wr HBR.out HB.out.size)
        have HALL := Lib.hid hall
        clear hall hkN
        go_wp2_with fail
        go_at_call 47
        refine CS.out.mono ?_
        rintro e w3 ⟨rfl, hb3⟩
        have HB3 := Lib.hid (HB.out.trans hb3)
        clear hb3
        go_wp2_with fail
        go_ret3
        unfold MgTo
        rw [HG.out.1, HG.out.2.1, HG.out.2.2, HALL.out]
        refine ⟨?_, HB1.out.trans (HB3.out.mono HB1.out.size)⟩
        rw [chars_back]
        rfl
  · obtain ⟨m1, m2⟩ := mg_err he
    have HG : Hid (mtx s t u = ⟨#[]⟩ ∧ mcf s t u = 0) := ⟨m1, m2⟩
    have K0 := Lib.hid k0
    have e1 : ¬ ((err3 s t u : Nat) : Int) = 0 := by omega
    clear k0 m1 m2 he
    go_enter Tryz.func32, Tryz.ntmps32
    go_wp2_with fail
    go_at_call 43
    refine K0.out.mono ?_
    rintro e w1 ⟨v1, cs, rfl, h1, h2, h3, hb1⟩
    have HB1 := Lib.hid hb1
    clear h1 h2 h3 hb1 K0
    go_wp2_with fail
    go_ret3
    unfold MgTo
    rw [HG.out.1, HG.out.2]
    exact ⟨rfl, HB1.out⟩
end Go.Proofs.YtkenmldiojeooaaGreat.Mg

namespace Go.Proofs.YtkenmldiojeooaaGreat.En
open Go.RowKit Tx
set_option linter.unusedVariables false
structure Nd where
  kind : Int
  data : ByteArray
structure Et where
  path : ByteArray
  node : Nd
def nv (n : Nd) : Value := .agg #[.int .i64 n.kind, .string n.data]
def cells (x : Et) : List Value := [.string x.path, .int .i64 x.node.kind, .string x.node.data]
def isInt (k : Int) : Prop := -9223372036854775808 ≤ k ∧ k ≤ 9223372036854775807
def Ents (w : World) (a : Option Addr) (n : Nat) (l : List Et) : Prop := l.length = n ∧ (n = 0 ∨ ∃ b off, a = some ⟨b, off, none⟩ ∧ b < w.heap.size ∧ ∀ k x, l[k]? = some x → w.cell? ⟨b, off + k * 3, none⟩ = some (.string x.path) ∧ w.cell? ⟨b, off + k * 3 + 1, none⟩ = some (.int .i64 x.node.kind) ∧ w.cell? ⟨b, off + k * 3 + 1 + 1, none⟩ = some (.string x.node.data))
theorem Ents.below {w w1 : World} {a : Option Addr} {n : Nat} {l : List Et} (h : Ents w a n l) (hb : Below w.heap.size w w1) : Ents w1 a n l := by
  refine ⟨h.1, ?_⟩
  rcases h.2 with h0 | ⟨b, off, ha, hlt, hc⟩
  · exact .inl h0
  · exact .inr ⟨b, off, ha, Nat.lt_of_lt_of_le hlt hb.size, fun k x hx => ⟨(hb.cell (p := ⟨b, _, none⟩) hlt).trans (hc k x hx).1, (hb.cell (p := ⟨b, _, none⟩) hlt).trans (hc k x hx).2.1, (hb.cell (p := ⟨b, _, none⟩) hlt).trans (hc k x hx).2.2⟩⟩
theorem sz_zero (d : ByteArray) : ((d.size : Int) == 0) = decide (d.size = 0) := by
  by_cases h : d.size = 0
  · rw [decide_eq_true h, h]; rfl
  · rw [decide_eq_false h]
    exact beq_eq_false_iff_ne.2 (by omega)
def whole (n : Nd) : Bool := if n.kind = 2 then decide (n.data.size ≤ 4096) else (decide (n.kind = 0) || decide (n.kind = 1)) && decide (n.data.size = 0)
set_option maxRecDepth 100000 in
set_option maxHeartbeats 1000000 in
theorem refWhole_any (n : Nd) (w : World) (hs : n.data.size ≤ 9223372036854775807) :
    Calls Tryz.prog 16 #[nv n] w fun e w' => e = .returned (.bool (whole n)) ∧ Below w.heap.size w w' := by
  obtain ⟨k, d⟩ := n
  by_cases h2 : k = 2
  · have hw : whole ⟨k, d⟩ = decide (d.size ≤ 4096) := by unfold whole; rw [if_pos h2]
    have e2 : ((k : Int) == 2) = true := by simp [h2]
    rw [hw]
    unfold nv
    clear h2 hw
    go_enter Tryz.func16, Tryz.ntmps16
    go_wp2
    go_ret
    exact ⟨congrArg (fun b => Ending.returned (Value.bool b)) (decide_eq_decide.2 (by omega)), (Below.refl _ _).alloc (Nat.le_refl _) _⟩
  · have hw : whole ⟨k, d⟩ = ((decide (k = 0) || decide (k = 1)) && decide (d.size = 0)) := by unfold whole; rw [if_neg h2]
    have e2 : ((k : Int) == 2) = false := beq_eq_false_iff_ne.2 h2
    rw [hw]
    unfold nv
    clear hw
    by_cases h0 : k = 0
    · subst h0
      clear h2
      rw [show (decide ((0 : Int) = 0) || decide ((0 : Int) = 1)) = true from rfl, Bool.true_and, ← sz_zero d]
      go_enter Tryz.func16, Tryz.ntmps16
      go_wp2
      go_ret
      exact ⟨rfl, (Below.refl _ _).alloc (Nat.le_refl _) _⟩
    · have e0 : ((k : Int) == 0) = false := beq_eq_false_iff_ne.2 h0
      by_cases h1 : k = 1
      · subst h1
        clear h2 h0
        rw [show (decide ((1 : Int) = 0) || decide ((1 : Int) = 1)) = true from rfl, Bool.true_and, ← sz_zero d]
        go_enter Tryz.func16, Tryz.ntmps16
        go_wp2
        go_ret
        exact ⟨rfl, (Below.refl _ _).alloc (Nat.le_refl _) _⟩
      · have e1 : ((k : Int) == 1) = false := beq_eq_false_iff_ne.2 h1
        rw [decide_eq_false h0, decide_eq_false h1, Bool.or_false, Bool.false_and]
        clear h2 h0 h1
        go_enter Tryz.func16, Tryz.ntmps16
        go_wp2
        go_ret
        exact ⟨rfl, (Below.refl _ _).alloc (Nat.le_refl _) _⟩
theorem infoN : (Tryz.prog.info? 33).map (·.size) = some 2 := by kernel_rfl
def tget (l : List Et) (p : ByteArray) : Nd := match l.find? (fun x => decide (x.path = p)) with
  | some x => x.node
  | none => ⟨0, ⟨#[]⟩⟩
theorem tget_hit (l : List Et) (p : ByteArray) (k : Nat) (x : Et) (h : l[k]? = some x) (hp : x.path = p) (hn : ∀ y ∈ l.take k, y.path ≠ p) : tget l p = x.node := by
  induction l generalizing k with
  | nil => cases h
  | cons y l ih =>
    cases k with
    | zero =>
      injection h with h
      subst h
      rw [tget, List.find?_cons_of_pos (by exact decide_eq_true hp)]
    | succ k =>
      have hy : y.path ≠ p := hn y (by simp)
      have := ih k h (fun z hz => hn z (by rw [List.take_succ_cons]; exact List.mem_cons_of_mem _ hz))
      rw [tget] at this ⊢
      rw [List.find?_cons_of_neg (by simp [hy])]
      exact this
theorem tget_none (l : List Et) (p : ByteArray) (hn : ∀ y ∈ l, y.path ≠ p) : tget l p = ⟨0, ⟨#[]⟩⟩ := by
  rw [tget, List.find?_eq_none.2 (fun y hy => by simp [hn y hy])]
set_option maxRecDepth 100000 in
set_option maxHeartbeats 1000000 in
theorem refGet_any (a : Option Addr) (n c : Nat) (l : List Et) (p : ByteArray) (w : World) (hl : Ents w a n l) (hn : n ≤ 9223372036854775806) :
    Calls Tryz.prog 26 #[.slice a n c, .string p] w fun e w' => e = .returned (nv (tget l p)) ∧ Below w.heap.size w w' := by
  obtain ⟨hln, hc⟩ := hl
  by_cases h0 : n = 0
  · subst h0
    obtain rfl : l = [] := List.length_eq_zero_iff.1 hln
    clear hc
    go_enter Tryz.func26, Tryz.ntmps26
    go_wp2
    go_loop [5] (fun i => i = .int .i64 0) (fun _ => 0)
    case atStart => exact rfl
    case round =>
      obtain rfl := hrel
      go_wp2
      refine bodyPost_ret (results_cell_row rfl _ _ _ _ _ _ _ rfl (heap_alloc_new _ _) Tryz.underlying33 rfl infoN) rfl ?_
      exact ⟨rfl, (Below.refl _ _).alloc (Nat.le_refl _) _⟩
  · obtain ⟨b, off, rfl, hb, hc⟩ := hc.resolve_left h0
    have HC := Lib.hid hc
    have hB : ∀ o, Below w.heap.size w (w.alloc o) := fun o => (Below.refl _ _).alloc (Nat.le_refl _) _
    clear hc h0
    go_enter Tryz.func26, Tryz.ntmps26
    go_wp2
    go_loop [5] (fun i => ∃ k : Nat, k ≤ n ∧ i = .int .i64 k ∧ Hid (∀ y ∈ l.take k, y.path ≠ p)) (fun i => n - (intOf i).toNat)
    case atStart => exact ⟨0, Nat.zero_le _, rfl, fun y hy => by simp at hy⟩
    case round =>
      obtain ⟨k, hk, rfl, hT⟩ := hrel
      by_cases hlt : k < n
      · obtain ⟨x, hx⟩ : ∃ x, l[k]? = some x := ⟨_, List.getElem?_eq_getElem (by omega)⟩
        obtain ⟨c1, c2, c3⟩ := HC.out k x hx
        have d1 := ((hB (.cells #[.int .i64 0, .string ⟨#[]⟩] 33)).cell (p := ⟨b, _, none⟩) hb).trans c1
        have d2 := ((hB (.cells #[.int .i64 0, .string ⟨#[]⟩] 33)).cell (p := ⟨b, _, none⟩) hb).trans c2
        have d3 := ((hB (.cells #[.int .i64 0, .string ⟨#[]⟩] 33)).cell (p := ⟨b, _, none⟩) hb).trans c3
        have hhit := tget_hit l p k x hx
        have hmiss : x.path ≠ p → ∀ y ∈ l.take (k + 1), y.path ≠ p := by
          intro hne y hy
          have hk2 : k < l.length := by omega
          rw [List.take_succ_eq_append_getElem hk2] at hy
          rcases List.mem_append.1 hy with hy | hy
          · exact hT.out y hy
          · rw [List.getElem?_eq_getElem hk2] at hx
            injection hx with hx
            rw [List.mem_singleton.1 hy, hx]
            exact hne
        obtain ⟨P, N⟩ := x
        obtain ⟨K, D⟩ := N
        simp only at c1 c2 c3 d1 d2 d3 hhit hmiss
        by_cases hp : P = p
        · have HR := Lib.hid (hhit hp hT.out)
          have e : (P.toList == p.toList) = true := by rw [hp]; exact beq_self_eq_true _
          clear hhit hmiss hT c1 c2 c3 hx hp hln
          go_wp2
          refine bodyPost_ret (results_cell_row rfl _ _ _ _ _ _ _ rfl (heap_alloc_new _ _) Tryz.underlying33 rfl infoN) rfl ?_
          exact ⟨by rw [HR.out]; rfl, (Below.refl _ _).alloc (Nat.le_refl _) _⟩
        · have HM := Lib.hid (hmiss hp)
          have e := bytes_ne hp
          clear hhit hmiss hT c1 c2 c3 hx hp hln
          go_wp2
          go_round
          case rel => exact ⟨k + 1, by omega, by go_num, HM⟩
          case measure => simp [intOf]; omega
      · obtain rfl : k = n := by omega
        have h := hT.out
        rw [List.take_of_length_le (by omega)] at h
        have HR := Lib.hid (tget_none l p h)
        clear hT hln h
        go_wp2
        refine bodyPost_ret (results_cell_row rfl _ _ _ _ _ _ _ rfl (heap_alloc_new _ _) Tryz.underlying33 rfl infoN) rfl ?_
        exact ⟨by rw [HR.out]; rfl, (Below.refl _ _).alloc (Nat.le_refl _) _⟩
end Go.Proofs.YtkenmldiojeooaaGreat.En

namespace Go.Proofs.YtkenmldiojeooaaGreat.En
open Go.RowKit Tx
set_option linter.unusedVariables false
theorem guardE : Tryz.prog.eqGuardType Tryz.prog.depth 50 = false := by kernel_rfl
theorem guardN : Tryz.prog.eqGuardType Tryz.prog.depth 33 = false := by kernel_rfl
theorem to_list {a b : ByteArray} : a.toList = b.toList ↔ a = b := by
  rw [ByteArray.toList_eq, ByteArray.toList_eq]
  exact ⟨fun h => ByteArray.ext (Array.toList_inj.1 h), fun h => by rw [h]⟩
theorem at_next {la lb : List Et} {k : Nat} {x : Et} (hx : la[k]? = some x) (hy : lb[k]? = some x) (h : la.take k = lb.take k) : la.take (k + 1) = lb.take (k + 1) := by
  obtain ⟨ha, ea⟩ := List.getElem?_eq_some_iff.1 hx
  obtain ⟨hb, eb⟩ := List.getElem?_eq_some_iff.1 hy
  rw [List.take_succ_eq_append_getElem ha, List.take_succ_eq_append_getElem hb, h, ea, eb]
theorem not_same {la lb : List Et} {k : Nat} {x y : Et} (hx : la[k]? = some x) (hy : lb[k]? = some y) (h : x ≠ y) : la ≠ lb := by
  rintro rfl
  rw [hx] at hy
  injection hy with hy
  exact h hy
def SameTo (la lb : List Et) (w : World) (e : Ending) (w' : World) : Prop := ∃ B, (B = true ↔ la = lb) ∧ e = .returned (.bool B) ∧ Below w.heap.size w w'
set_option maxRecDepth 100000 in
set_option maxHeartbeats 1000000 in
theorem refSame_any (a b : Option Addr) (n m ca cb : Nat) (la lb : List Et) (w : World) (ha : Ents w a n la) (hb : Ents w b m lb) (hn : n ≤ 9223372036854775806) (hm : m ≤ 9223372036854775806) :
    Calls Tryz.prog 24 #[.slice a n ca, .slice b m cb] w (SameTo la lb w) := by
  obtain ⟨hla, hca⟩ := ha
  obtain ⟨hlb, hcb⟩ := hb
  by_cases hnm : n = m
  · subst hnm
    have e0 : ((n : Int) == n) = true := beq_self_eq_true _
    by_cases h0 : n = 0
    · subst h0
      obtain rfl : la = [] := List.length_eq_zero_iff.1 hla
      obtain rfl : lb = [] := List.length_eq_zero_iff.1 hlb
      clear hca hcb
      go_enter Tryz.func24, Tryz.ntmps24
      go_wp2
      go_loop [5] (fun i => i = .int .i64 0) (fun _ => 0)
      case atStart => exact rfl
      case round =>
        obtain rfl := hrel
        go_wp2
        go_ret
        exact ⟨true, Iff.intro (fun _ => rfl) (fun _ => rfl), rfl, Below.refl _ _⟩
    · obtain ⟨ba, oa, rfl, hba, hca⟩ := hca.resolve_left h0
      obtain ⟨bb, ob, rfl, hbb, hcb⟩ := hcb.resolve_left h0
      have HA := Lib.hid hca
      have HB := Lib.hid hcb
      clear hca hcb h0
      go_enter Tryz.func24, Tryz.ntmps24
      go_wp2_with fail
      go_loopw [5] (fun i wr => ∃ k : Nat, k ≤ n ∧ i = .int .i64 k ∧ Hid (la.take k = lb.take k) ∧ Below w.heap.size w wr) (fun i _ => n - (intOf i).toNat)
      case atStart => exact ⟨0, Nat.zero_le _, rfl, rfl, Below.refl _ _⟩
      case round =>
        obtain ⟨k, hk, rfl, hT, hW⟩ := hrel
        by_cases hlt : k < n
        · obtain ⟨x, hx⟩ : ∃ x, la[k]? = some x := ⟨_, List.getElem?_eq_getElem (by omega)⟩
          obtain ⟨y, hy⟩ : ∃ y, lb[k]? = some y := ⟨_, List.getElem?_eq_getElem (by omega)⟩
          obtain ⟨c1, c2, c3⟩ := HA.out k x hx
          obtain ⟨d1, d2, d3⟩ := HB.out k y hy
          have f1 := (hW.cell (p := ⟨ba, _, none⟩) hba).trans c1
          have f2 := (hW.cell (p := ⟨ba, _, none⟩) hba).trans c2
          have f3 := (hW.cell (p := ⟨ba, _, none⟩) hba).trans c3
          have g1 := (hW.cell (p := ⟨bb, _, none⟩) hbb).trans d1
          have g2 := (hW.cell (p := ⟨bb, _, none⟩) hbb).trans d2
          have g3 := (hW.cell (p := ⟨bb, _, none⟩) hbb).trans d3
          have hlt1 : (k : Int) < (n : Int) := by omega
          have hgE := guardE
          clear c1 c2 c3 d1 d2 d3
          obtain ⟨P, K, D⟩ := x
          obtain ⟨P', K', D'⟩ := y
          simp only at f1 f2 f3 g1 g2 g3
          by_cases e1 : P.toList = P'.toList
          · by_cases e2 : K = K'
            · by_cases e3 : D.toList = D'.toList
              · obtain rfl := to_list.1 e1
                obtain rfl := to_list.1 e3
                subst e2
                have HN := Lib.hid (at_next hx hy hT.out)
                clear hx hy hT hla hlb e1 e3
                go_wp2_with fail
                go_quiet (fail)
                go_wp2_with fail
                go_roundw
                case rel => exact ⟨k + 1, by omega, by go_num, HN, below_drewN hW _⟩
                case measure => simp [intOf]; omega
              · have HE := Lib.hid (not_same hx hy (fun h => by injection h with h1 h2; injection h2 with h2 h3; exact e3 (to_list.2 h3)))
                clear hx hy hT hla hlb
                go_wp2_with fail
                go_quiet (fail)
                go_wp2_with fail
                go_ret
                exact ⟨false, Iff.intro (fun h => by cases h) (fun h => absurd h HE.out), rfl, below_drewN hW _⟩
            · have HE := Lib.hid (not_same hx hy (fun h => by injection h with h1 h2; injection h2 with h2 h3; exact e2 h2))
              clear hx hy hT hla hlb
              go_wp2_with fail
              go_quiet (fail)
              go_wp2_with fail
              go_ret
              exact ⟨false, Iff.intro (fun h => by cases h) (fun h => absurd h HE.out), rfl, below_drewN hW _⟩
          · have HE := Lib.hid (not_same hx hy (fun h => by injection h with h1 h2; exact e1 (to_list.2 h1)))
            clear hx hy hT hla hlb
            go_wp2_with fail
            go_quiet (fail)
            go_wp2_with fail
            go_ret
            exact ⟨false, Iff.intro (fun h => by cases h) (fun h => absurd h HE.out), rfl, below_drewN hW _⟩
        · obtain rfl : k = n := by omega
          have h := hT.out
          rw [List.take_of_length_le (by omega), List.take_of_length_le (by omega)] at h
          have HE := Lib.hid h
          clear hT h hla hlb
          go_wp2_with fail
          go_ret
          exact ⟨true, Iff.intro (fun _ => HE.out) (fun _ => rfl), rfl, hW⟩
  · have e0 : ((n : Int) == m) = false := beq_eq_false_iff_ne.2 (by omega)
    have HE : Hid (la ≠ lb) := fun h => hnm (by rw [← hla, ← hlb, h])
    clear hnm hca hcb hla hlb
    go_enter Tryz.func24, Tryz.ntmps24
    go_wp2
    go_ret
    exact ⟨false, Iff.intro (fun h => by cases h) (fun h => absurd h HE.out), rfl, Below.refl _ _⟩
end Go.Proofs.YtkenmldiojeooaaGreat.En

namespace Go.Proofs.YtkenmldiojeooaaGreat.Pm
set_option linter.unusedVariables false
def spl : List UInt8 → List (List UInt8)
  | [] => [[]]
  | c :: r => if c = 47 then [] :: spl r else
    match spl r with
    | [] => [[c]]
    | x :: xs => (c :: x) :: xs
theorem spl_ne (l : List UInt8) : spl l ≠ [] := by
  cases l with
  | nil => simp [spl]
  | cons c r =>
    rw [spl]
    split
    · simp
    · split <;> simp
def glue (one : List UInt8) : List (List UInt8) → List (List UInt8)
  | [] => [one]
  | x :: xs => (one ++ x) :: xs
theorem glue_nil {l : List (List UInt8)} (h : l ≠ []) : glue [] l = l := by
  cases l with
  | nil => exact absurd rfl h
  | cons x xs => rfl
theorem glue_step (one : List UInt8) (c : UInt8) (r : List UInt8) (h : c ≠ 47) : glue one (spl (c :: r)) = glue (one ++ [c]) (spl r) := by
  rw [spl, if_neg h]
  cases hs : spl r with
  | nil => exact absurd hs (spl_ne r)
  | cons x xs => simp [glue]
theorem glue_cut (one : List UInt8) (r : List UInt8) : glue one (spl (47 :: r)) = one :: spl r := by
  rw [spl, if_pos rfl]
  simp [glue]
theorem spl_len (l : List UInt8) : (spl l).length ≤ l.length + 1 := by
  induction l with
  | nil => simp [spl]
  | cons c r ih =>
    rw [spl]
    split
    · simp; omega
    · split
      · simp
      · rename_i x xs h
        rw [h] at ih
        simp at ih ⊢
        omega
def okC (c : UInt8) : Bool := (97 ≤ c.toNat && c.toNat ≤ 122) || (48 ≤ c.toNat && c.toNat ≤ 57) || c.toNat == 95
def isName (l : List UInt8) : Bool := decide (1 ≤ l.length) && decide (l.length ≤ 12) && l.all okC
def isPath (l : List UInt8) (deep : Int) : Bool := decide (((spl l).length : Int) ≤ deep) && (spl l).all isName
def chk (l : List UInt8) (deep : Int) : Nat := if isPath l deep then 0 else 10
def lastN : List UInt8 → Nat
  | [] => 0
  | c :: r => if lastN r = 0 then (if c = 47 then 1 else 0) else lastN r + 1
theorem lastN_le (l : List UInt8) : lastN l ≤ l.length := by
  induction l with
  | nil => exact Nat.le_refl _
  | cons c r ih =>
    rw [lastN]
    split
    · split <;> simp
    · simp; omega
theorem lastN_snoc (l : List UInt8) (c : UInt8) : lastN (l ++ [c]) = if c = 47 then l.length + 1 else lastN l := by
  induction l with
  | nil => simp [lastN]
  | cons d r ih =>
    rw [List.cons_append, lastN, ih, lastN]
    by_cases h : c = 47
    · simp [h]
    · simp [h]
def par (l : List UInt8) : List UInt8 := l.take (lastN l - 1)
def bas (l : List UInt8) : List UInt8 := l.drop (lastN l)
def und (p top : List UInt8) : Bool := decide (top = []) || decide (p = top) || (top ++ [47]).isPrefixOf p
end Go.Proofs.YtkenmldiojeooaaGreat.Pm

namespace Go.Proofs.YtkenmldiojeooaaGreat.Pr
open Go.RowKit Pm Tx
set_option linter.unusedVariables false
def SplitTo (p : ByteArray) (w : World) (e : Ending) (w' : World) : Prop := ∃ v, e = .returned v ∧ Texts w' w.heap.size v ((spl p.data.toList).map tb) ∧ Below w.heap.size w w'
def At (p : ByteArray) (k : Nat) (out : List ByteArray) (one : ByteArray) : Prop := (spl p.data.toList).map tb = out ++ (glue one.data.toList (spl (p.data.toList.drop k))).map tb ∧ out.length + one.size ≤ k
theorem at_start (p : ByteArray) : At p 0 [] ⟨#[]⟩ := by
  refine ⟨?_, Nat.le_refl _⟩
  rw [List.drop_zero, List.nil_append]
  congr 1
  exact (glue_nil (spl_ne _)).symm
theorem drop_at (p : ByteArray) (k : Nat) (h : k < p.size) : p.data.toList.drop k = p[k] :: p.data.toList.drop (k + 1) := by
  have h' : k < p.data.toList.length := by rw [len_l]; exact h
  rw [List.drop_eq_getElem_cons h']
  rfl
theorem at_cut {p one : ByteArray} {k : Nat} {out : List ByteArray} (h : At p k out one) (hk : k < p.size) (hc : p[k].toNat = 47) : At p (k + 1) (out ++ [one]) ⟨#[]⟩ := by
  have e : p[k] = 47 := UInt8.toNat_inj.1 hc
  obtain ⟨h1, h2⟩ := h
  refine ⟨?_, by rw [List.length_append]; show _ + 1 + 0 ≤ _; omega⟩
  rw [h1, drop_at p k hk, e, glue_cut]
  have e2 : (glue (ByteArray.mk #[]).data.toList (spl (p.data.toList.drop (k + 1)))) = spl (p.data.toList.drop (k + 1)) := glue_nil (spl_ne _)
  rw [e2, List.map_cons, tb_of, List.append_assoc]
  rfl
theorem at_more {p one : ByteArray} {k : Nat} {out : List ByteArray} (h : At p k out one) (hk : k < p.size) (hc : p[k].toNat ≠ 47) : At p (k + 1) out (one ++ p.extract k (k + 1)) := by
  have e : p[k] ≠ 47 := fun e => hc (by rw [e]; rfl)
  obtain ⟨h1, h2⟩ := h
  have e2 : (p.extract k (k + 1)).data.toList = [p[k]] := by
    rw [ByteArray.data_extract, Array.toList_extract, List.extract_eq_take_drop, drop_at p k hk]
    simp
  refine ⟨?_, ?_⟩
  · rw [h1, drop_at p k hk, glue_step _ _ _ e, ByteArray.data_append, Array.toList_append, e2]
  · rw [ByteArray.size_append, ← len_l (p.extract k (k + 1)), e2]
    show _ + (_ + 1) ≤ _
    omega
theorem at_end {p one : ByteArray} {k : Nat} {out : List ByteArray} (h : At p k out one) (hk : ¬ k < p.size) : (spl p.data.toList).map tb = out ++ [one] := by
  rw [h.1, List.drop_of_length_le (by rw [len_l]; omega)]
  simp [spl, glue, tb_of]
set_option maxRecDepth 100000 in
set_option maxHeartbeats 1000000 in
theorem refSplit_any (p : ByteArray) (w : World) (hs : p.size ≤ 8796093022207) :
    Calls Tryz.prog 34 #[.string p] w (SplitTo p w) := by
  obtain ⟨i0, hi, hz0, hz1, hz2⟩ := info_parts info9
  go_enter Tryz.func34, Tryz.ntmps34
  go_wp2_with fail
  go_loopw [3, 4, 5] (fun v o i wr => ∃ (k : Nat) (out : List ByteArray) (one : ByteArray), k ≤ p.size ∧ i = .int .i64 k ∧ o = .string one ∧ Hid (At p k out one) ∧ Texts wr w.heap.size v out ∧ Below w.heap.size w wr) (fun _ _ i _ => p.size - (intOf i).toNat)
  case atStart => exact ⟨0, [], ⟨#[]⟩, Nat.zero_le _, rfl, rfl, at_start p, World.ownsRow_nil _ _ _ _, Below.refl _ _⟩
  case round =>
    obtain ⟨k, out, one, hk, rfl, rfl, hat, htx, hb⟩ := hrel
    have hlen := hat.out.2
    have hsz := hb.size
    have hown := htx
    unfold Texts at hown
    by_cases hlt : k < p.size
    · by_cases hc : p[k].toNat = 47
      · have hat' := Lib.hid (at_cut hat.out hlt hc)
        have hc' : ((p[k].toNat : Int) == 47) = true := by simp [hc]
        clear hc htx
        go_wp2_with (at_builtin; refine wpList_append_own _ rfl _ _ 59 rfl w.heap.size 9 i0 (.string ⟨#[]⟩) 1 16 Tryz.underlying59 hi hz0 hz1 hz2 rfl (by decide) _ _ _ rfl (hown.alloc _) ⟨wr.heap.size, 0, none⟩ 1 1 [sv one] rfl rfl ?c1 ?c2 ?c3 ?c4 ?c5 ?_)
        case c1 => exact cell_one_new _ _ _
        case c2 => exact sv_one [one]
        case c3 => unfold maxLen; omega
        case c4 => omega
        case c5 => simp; omega
        intro v' w2 hown' hgrow _
        have hb3 := below_step hb hown hgrow
        have htx2 : Texts w2 w.heap.size v' (out ++ [one]) := by
          unfold Texts
          rw [List.length_append, List.map_append]
          exact hown'
        clear hown hown' hgrow hb
        go_wp2_with fail
        go_roundw
        case rel => exact ⟨k + 1, out ++ [one], ⟨#[]⟩, by omega, by go_num, rfl, hat', htx2, hb3⟩
        case measure => simp [intOf]; omega
      · have hat' := Lib.hid (at_more hat.out hlt hc)
        have hc' : ((p[k].toNat : Int) == 47) = false := beq_eq_false_iff_ne.2 (by omega)
        have hes : (p.extract k (k + 1)).size ≤ 1 := by simp; omega
        clear hc hown
        go_wp2_with fail
        go_roundw
        case rel => exact ⟨k + 1, out, _, by omega, by go_num, rfl, hat', htx, hb⟩
        case measure => simp [intOf]; omega
    · have hend := Lib.hid (at_end hat.out hlt)
      clear htx
      go_wp2_with (at_builtin; refine wpList_append_own _ rfl _ _ 59 rfl w.heap.size 9 i0 (.string ⟨#[]⟩) 1 16 Tryz.underlying59 hi hz0 hz1 hz2 rfl (by decide) _ _ _ rfl (hown.alloc _) ⟨wr.heap.size, 0, none⟩ 1 1 [sv one] rfl rfl ?c1 ?c2 ?c3 ?c4 ?c5 ?_)
      case c1 => exact cell_one_new _ _ _
      case c2 => exact sv_one [one]
      case c3 => unfold maxLen; omega
      case c4 => omega
      case c5 => simp; omega
      intro v' w2 hown' hgrow _
      have hb3 := below_step hb hown hgrow
      have htx2 : Texts w2 w.heap.size v' (out ++ [one]) := by
        unfold Texts
        rw [List.length_append, List.map_append]
        exact hown'
      clear hown hown' hgrow hb
      go_wp2_with fail
      go_ret
      unfold SplitTo
      rw [hend.out]
      exact ⟨_, rfl, htx2, hb3⟩
end Go.Proofs.YtkenmldiojeooaaGreat.Pr

namespace Go.Proofs.YtkenmldiojeooaaGreat.Pr
open Go.RowKit Pm Tx
set_option linter.unusedVariables false
theorem take_at (p : ByteArray) (k : Nat) (h : k < p.size) : p.data.toList.take (k + 1) = p.data.toList.take k ++ [p[k]] := by
  have h' : k < p.data.toList.length := by rw [len_l]; exact h
  rw [List.take_succ_eq_append_getElem h']
  rfl
theorem take_all (p : ByteArray) : p.data.toList.take p.size = p.data.toList := List.take_of_length_le (by rw [len_l]; omega)
theorem all_at (p : ByteArray) (k : Nat) (h : k < p.size) (ha : (p.data.toList.take k).all okC = true) (hb : okC p[k] = true) : (p.data.toList.take (k + 1)).all okC = true := by
  rw [take_at p k h, List.all_append, ha]
  simp [hb]
theorem all_not (p : ByteArray) (k : Nat) (h : k < p.size) (hb : okC p[k] = false) : isName p.data.toList = false := by
  have h' : k < p.data.toList.length := by rw [len_l]; exact h
  have : p.data.toList.all okC = false := by
    rw [← Bool.not_eq_true, List.all_eq_true]
    intro hall
    have := hall _ (List.getElem_mem h')
    have e : p.data.toList[k] = p[k] := rfl
    rw [e, hb] at this
    cases this
  rw [isName, this, Bool.and_false]
set_option maxRecDepth 100000 in
set_option maxHeartbeats 1000000 in
theorem refName_any (s : ByteArray) (w : World) (hs : s.size ≤ 9223372036854775807) :
    Calls Tryz.prog 35 #[.string s] w fun e w' => e = .returned (.bool (isName s.data.toList)) ∧ w = w' := by
  by_cases h0 : 1 ≤ s.size ∧ s.size ≤ 12
  · obtain ⟨h1, h2⟩ := h0
    go_enter Tryz.func35, Tryz.ntmps35
    go_wp2
    go_loop [3] (fun i => ∃ k : Nat, k ≤ s.size ∧ i = .int .i64 k ∧ Hid ((s.data.toList.take k).all okC = true)) (fun i => s.size - (intOf i).toNat)
    case atStart => exact ⟨0, Nat.zero_le _, rfl, rfl⟩
    case round =>
      obtain ⟨k, hk, rfl, hall⟩ := hrel
      by_cases hlt : k < s.size
      · have hX := s[k].toNat_lt
        have hgood := fun h => Lib.hid (all_at s k hlt hall.out h)
        have hbad := fun h => Lib.hid (all_not s k hlt h)
        obtain ⟨X, hXe⟩ : ∃ X, X = s[k].toNat := ⟨_, rfl⟩
        have hok : okC s[k] = ((97 ≤ X && X ≤ 122) || (48 ≤ X && X ≤ 57) || X == 95) := by rw [hXe]; rfl
        rw [hok] at hgood hbad
        rw [← hXe] at hX
        have hXe' := hXe.symm
        clear hok hXe hall
        rcases show (X < 48) ∨ (57 < X ∧ X < 95) ∨ X = 96 ∨ 122 < X ∨ (48 ≤ X ∧ X ≤ 57) ∨ X = 95 ∨ (97 ≤ X ∧ X ≤ 122) by omega with h | h | h | h | h | h | h
        · have hb := hbad (by simp; omega)
          have e : ((X : Int) == 95) = false := beq_eq_false_iff_ne.2 (by omega)
          clear hgood hbad
          go_wp2
          go_ret
          exact ⟨by rw [hb.out]; rfl, rfl⟩
        · have hb := hbad (by simp; omega)
          have e : ((X : Int) == 95) = false := beq_eq_false_iff_ne.2 (by omega)
          have d57 : decide ((X : Int) ≤ 57) = false := decide_eq_false (by omega)
          clear hgood hbad
          go_wp2
          go_ret
          exact ⟨by rw [hb.out]; rfl, rfl⟩
        · have hb := hbad (by simp; omega)
          have e : ((X : Int) == 95) = false := beq_eq_false_iff_ne.2 (by omega)
          have d57 : decide ((X : Int) ≤ 57) = false := decide_eq_false (by omega)
          clear hgood hbad
          go_wp2
          go_ret
          exact ⟨by rw [hb.out]; rfl, rfl⟩
        · have hb := hbad (by simp; omega)
          have e : ((X : Int) == 95) = false := beq_eq_false_iff_ne.2 (by omega)
          have d57 : decide ((X : Int) ≤ 57) = false := decide_eq_false (by omega)
          have d122 : decide ((X : Int) ≤ 122) = false := decide_eq_false (by omega)
          clear hgood hbad
          go_wp2
          go_ret
          exact ⟨by rw [hb.out]; rfl, rfl⟩
        · have hb := hgood (by simp; omega)
          have e : ((X : Int) == 95) = false := beq_eq_false_iff_ne.2 (by omega)
          clear hgood hbad
          go_wp2
          go_round
          case rel => exact ⟨k + 1, by omega, by go_num, hb.out⟩
          case measure => simp [intOf]; omega
        · have hb := hgood (by simp; omega)
          have e : ((X : Int) == 95) = true := by simp [h]
          clear hgood hbad
          go_wp2
          go_round
          case rel => exact ⟨k + 1, by omega, by go_num, hb.out⟩
          case measure => simp [intOf]; omega
        · have hb := hgood (by simp; omega)
          have e : ((X : Int) == 95) = false := beq_eq_false_iff_ne.2 (by omega)
          clear hgood hbad
          go_wp2
          go_round
          case rel => exact ⟨k + 1, by omega, by go_num, hb.out⟩
          case measure => simp [intOf]; omega
      · obtain rfl : k = s.size := by omega
        have hn : isName s.data.toList = true := by
          have h := hall.out
          rw [take_all] at h
          rw [isName, h, len_l]
          simp [h1, h2]
        have HN := Lib.hid hn
        clear hn hall
        go_wp2
        go_ret
        exact ⟨by rw [HN.out]; rfl, rfl⟩
  · have hn : isName s.data.toList = false := by
      rw [isName, len_l]
      by_cases h1 : 1 ≤ s.size
      · have h2 : ¬ s.size ≤ 12 := fun h2 => h0 ⟨h1, h2⟩
        simp [h2]
      · simp [h1]
    rw [hn]
    rcases show s.size < 1 ∨ 12 < s.size by omega with h | h
    all_goals
      clear h0 hn
      go_enter Tryz.func35, Tryz.ntmps35
      go_wp2
      go_ret
      exact ⟨rfl, rfl⟩
set_option maxRecDepth 100000 in
set_option maxHeartbeats 1000000 in
theorem reflast_any (s : ByteArray) (w : World) (hs : s.size ≤ 9223372036854775807) :
    Calls Tryz.prog 52 #[.string s] w fun e w' => e = .returned (.int .i64 ((lastN s.data.toList : Nat) - 1)) ∧ w = w' := by
  go_enter Tryz.func52, Tryz.ntmps52
  go_wp2
  go_loop [3, 4] (fun a i => ∃ k L : Nat, k ≤ s.size ∧ i = .int .i64 k ∧ a = .int .i64 ((L : Int) - 1) ∧ Hid (L = lastN (s.data.toList.take k))) (fun _ i => s.size - (intOf i).toNat)
  case atStart => exact ⟨0, 0, Nat.zero_le _, rfl, rfl, rfl⟩
  case round =>
    obtain ⟨k, L, hk, rfl, rfl, hL⟩ := hrel
    by_cases hlt : k < s.size
    · have hX := s[k].toNat_lt
      have hn := lastN_snoc (s.data.toList.take k) s[k]
      rw [← take_at s k hlt, List.length_take, len_l, Nat.min_eq_left hk] at hn
      by_cases hc : s[k].toNat = 47
      · rw [if_pos (UInt8.toNat_inj.1 hc)] at hn
        have HN := Lib.hid hn
        have e : ((s[k].toNat : Int) == 47) = true := by simp [hc]
        clear hn hc hL
        go_wp2
        go_round
        case rel => exact ⟨k + 1, k + 1, by omega, by go_num, by go_num, HN.out.symm⟩
        case measure => simp [intOf]; omega
      · rw [if_neg (fun e => hc (by rw [e]; rfl)), ← hL.out] at hn
        have HN := Lib.hid hn
        have e : ((s[k].toNat : Int) == 47) = false := beq_eq_false_iff_ne.2 (by omega)
        clear hn hc hL
        go_wp2
        go_round
        case rel => exact ⟨k + 1, L, by omega, by go_num, rfl, HN.out.symm⟩
        case measure => simp [intOf]; omega
    · obtain rfl : k = s.size := by omega
      have h := hL.out
      rw [take_all] at h
      subst h
      clear hL
      go_wp2
      go_ret
      exact ⟨rfl, rfl⟩
end Go.Proofs.YtkenmldiojeooaaGreat.Pr

namespace Go.Proofs.YtkenmldiojeooaaGreat.Pr
open Go.RowKit Pm Tx
set_option linter.unusedVariables false
theorem par_ext (s : ByteArray) : s.extract 0 (lastN s.data.toList - 1) = tb (par s.data.toList) := by
  apply ByteArray.ext
  apply Array.toList_inj.1
  rw [ByteArray.data_extract, Array.toList_extract, List.extract_eq_take_drop]
  simp [tb, par]
set_option maxRecDepth 100000 in
set_option maxHeartbeats 1000000 in
theorem refParent_any (s : ByteArray) (w : World) (hs : s.size ≤ 9223372036854775807) :
    Calls Tryz.prog 36 #[.string s] w fun e w' => e = .returned (.string (tb (par s.data.toList))) ∧ w = w' := by
  have cl := fun W => reflast_any s W hs
  have hL := lastN_le s.data.toList
  rw [len_l] at hL
  rw [← par_ext]
  obtain ⟨L, hLe⟩ : ∃ L, L = lastN s.data.toList := ⟨_, rfl⟩
  rw [← hLe] at cl hL ⊢
  clear hLe
  by_cases h0 : L = 0
  · subst h0
    go_enter Tryz.func36, Tryz.ntmps36
    go_wp2_with (go_at_call 52; refine (cl _).mono ?_; rintro e w1 ⟨rfl, rfl⟩)
    go_ret
    exact ⟨by simp; rfl, rfl⟩
  · obtain ⟨K, rfl⟩ : ∃ K, L = K + 1 := ⟨L - 1, by omega⟩
    have e1 : ((K + 1 : Nat) : Int) - 1 = K := by omega
    rw [e1] at cl
    rw [Nat.add_sub_cancel]
    clear h0
    go_enter Tryz.func36, Tryz.ntmps36
    go_wp2_with (go_at_call 52; refine (cl _).mono ?_; rintro e w1 ⟨rfl, rfl⟩)
    go_ret
    exact ⟨rfl, rfl⟩
theorem size_zero {s : ByteArray} : s.size = 0 ↔ s = ⟨#[]⟩ := by
  refine ⟨fun h => ?_, fun h => by rw [h]; rfl⟩
  apply ByteArray.ext
  exact Array.eq_empty_of_size_eq_zero h
theorem list_nil {s : ByteArray} (h : s = ⟨#[]⟩) : s.data.toList = [] := by rw [h]
theorem list_ne {s : ByteArray} (h : s ≠ ⟨#[]⟩) : s.data.toList ≠ [] := fun e => h (ByteArray.ext (Array.toList_inj.1 e))
theorem is_empty {s : ByteArray} (h : s = ⟨#[]⟩) : s.toList.isEmpty = true := by rw [h, ByteArray.toList_eq]; rfl
theorem not_empty {s : ByteArray} (h : s ≠ ⟨#[]⟩) : s.toList.isEmpty = false := by
  rw [ByteArray.toList_eq]
  cases e : s.data.toList with
  | nil => exact absurd e (list_ne h)
  | cons c r => rfl
theorem extract_eq {p t : ByteArray} : p.extract 0 t.size = t ↔ t.data.toList <+: p.data.toList := by
  have e : (p.extract 0 t.size).data.toList = p.data.toList.take t.data.toList.length := by
    rw [ByteArray.data_extract, Array.toList_extract, List.extract_eq_take_drop, len_l]
    simp
  rw [List.prefix_iff_eq_take, ← e]
  exact ⟨fun h => by rw [h], fun h => ByteArray.ext (Array.toList_inj.1 h.symm)⟩
theorem und_top {p top : ByteArray} (h : top = ⟨#[]⟩) : und p.data.toList top.data.toList = true := by
  rw [und, list_nil h]; simp
theorem und_same {p top : ByteArray} (h : p = top) : und p.data.toList top.data.toList = true := by
  rw [und, h]; simp
theorem und_eq {p top : ByteArray} (h1 : top ≠ ⟨#[]⟩) (h2 : p ≠ top) : und p.data.toList top.data.toList = (top.data.toList ++ [47]).isPrefixOf p.data.toList := by
  have e1 := list_ne h1
  have e2 : p.data.toList ≠ top.data.toList := fun e => h2 (ByteArray.ext (Array.toList_inj.1 e))
  rw [und, decide_eq_false e1, decide_eq_false e2, Bool.false_or, Bool.false_or]
theorem pre_cons {p t : ByteArray} (h : t.size < p.size) : t.data.toList ++ [47] <+: p.data.toList ↔ (t.data.toList <+: p.data.toList ∧ p[t.size] = 47) := by
  have h' : t.data.toList.length < p.data.toList.length := by rw [len_l, len_l]; exact h
  have e : p.data.toList[t.data.toList.length] = p[t.size] := by
    have e3 : ∀ (k : Nat) (hk : k < p.data.toList.length) (hk2 : k < p.size), p.data.toList[k] = p[k] := fun _ _ _ => rfl
    have e4 : ∀ (k n : Nat) (hk : k < p.size) (hn : n < p.size), k = n → p[k] = p[n] := by
      intro k n hk hn hh
      subst hh
      rfl
    rw [e3 _ h' (by rw [len_l]; exact h)]
    exact e4 _ _ _ _ (len_l t)
  rw [List.prefix_iff_eq_take, List.prefix_iff_eq_take, List.length_append, List.length_singleton, List.take_succ_eq_append_getElem h', e]
  constructor
  · intro hh
    have := List.append_inj hh (by rw [List.length_take]; omega)
    refine ⟨this.1, ?_⟩
    have h3 := this.2
    injection h3 with h3 _
    exact h3.symm
  · rintro ⟨h1, h2⟩
    rw [← h1, h2]
theorem pre_short {p t : ByteArray} (h : p.size ≤ t.size) : (t.data.toList ++ [47]).isPrefixOf p.data.toList = false := by
  apply Bool.eq_false_iff.2
  intro hh
  have := (List.isPrefixOf_iff_prefix.1 hh).length_le
  rw [List.length_append, len_l, len_l] at this
  simp at this
  omega
set_option maxRecDepth 100000 in
set_option maxHeartbeats 1000000 in
theorem refUnder_any (p t : ByteArray) (w : World) (hp : p.size ≤ 9223372036854775807) (ht : t.size ≤ 9223372036854775807) :
    Calls Tryz.prog 25 #[.string p, .string t] w fun e w' => e = .returned (.bool (und p.data.toList t.data.toList)) ∧ w = w' := by
  by_cases h1 : t = ⟨#[]⟩
  · have e1 := is_empty h1
    rw [und_top h1]
    clear h1
    go_enter Tryz.func25, Tryz.ntmps25
    go_wp2
    go_ret
    exact ⟨rfl, rfl⟩
  have e1 := not_empty h1
  by_cases h2 : p = t
  · rw [und_same h2]
    subst h2
    have e2 : (p.toList == p.toList) = true := beq_self_eq_true _
    clear h1
    go_enter Tryz.func25, Tryz.ntmps25
    go_wp2
    go_ret
    exact ⟨rfl, rfl⟩
  have e2 := bytes_ne h2
  rw [und_eq h1 h2]
  by_cases h3 : t.size < p.size
  · have hpc := pre_cons h3
    by_cases h4 : p.extract 0 t.size = t
    · have e4 : ((p.extract 0 t.size).toList == t.toList) = true := by rw [h4]; exact beq_self_eq_true _
      by_cases h5 : p[t.size] = 47
      · have HR := Lib.hid (List.isPrefixOf_iff_prefix.2 (hpc.2 ⟨extract_eq.1 h4, h5⟩))
        have e5 : ((p[t.size].toNat : Int) == 47) = true := by rw [h5]; rfl
        clear h1 h2 h4 h5 hpc
        go_enter Tryz.func25, Tryz.ntmps25
        go_wp2
        go_ret
        exact ⟨by rw [HR.out]; rfl, rfl⟩
      · have HR := Lib.hid (Bool.eq_false_iff.2 (fun hh => h5 (hpc.1 (List.isPrefixOf_iff_prefix.1 hh)).2))
        have e5 : ((p[t.size].toNat : Int) == 47) = false := by
          apply Bool.eq_false_iff.2
          intro hh
          have hh : (p[t.size].toNat : Int) = 47 := eq_of_beq hh
          exact h5 (UInt8.toNat_inj.1 (by rw [show (47 : UInt8).toNat = 47 from rfl]; omega))
        clear h1 h2 h4 h5 hpc
        go_enter Tryz.func25, Tryz.ntmps25
        go_wp2
        go_ret
        exact ⟨by rw [HR.out]; rfl, rfl⟩
    · have e4 := bytes_ne h4
      have HR := Lib.hid (Bool.eq_false_iff.2 (fun hh => h4 (extract_eq.2 (hpc.1 (List.isPrefixOf_iff_prefix.1 hh)).1)))
      clear h1 h2 h4 hpc
      go_enter Tryz.func25, Tryz.ntmps25
      go_wp2
      go_ret
      exact ⟨by rw [HR.out]; rfl, rfl⟩
  · have HR := Lib.hid (pre_short (p := p) (t := t) (by omega))
    clear h1 h2
    go_enter Tryz.func25, Tryz.ntmps25
    go_wp2
    go_ret
    exact ⟨by rw [HR.out]; rfl, rfl⟩
theorem all_step (l : List (List UInt8)) (k : Nat) (x : List UInt8) (h : l[k]? = some x) (ha : (l.take k).all isName = true) (hb : isName x = true) : (l.take (k + 1)).all isName = true := by
  obtain ⟨hk, he⟩ := List.getElem?_eq_some_iff.1 h
  rw [List.take_succ_eq_append_getElem hk, List.all_append, ha, he]
  simp [hb]
theorem all_fail (l : List (List UInt8)) (k : Nat) (x : List UInt8) (h : l[k]? = some x) (hb : isName x = false) : l.all isName = false := by
  obtain ⟨hk, he⟩ := List.getElem?_eq_some_iff.1 h
  rw [← Bool.not_eq_true, List.all_eq_true]
  intro hall
  have := hall _ (List.getElem_mem hk)
  rw [he, hb] at this
  cases this
theorem chk_far {l : List UInt8} {d : Int} (h : d < (spl l).length) : chk l d = 10 := by
  rw [chk, isPath, decide_eq_false (by omega), Bool.false_and, if_neg (by simp)]
theorem chk_bad {l : List UInt8} {d : Int} (h : (spl l).all isName = false) : chk l d = 10 := by
  rw [chk, isPath, h, Bool.and_false, if_neg (by simp)]
theorem chk_good {l : List UInt8} {d : Int} (hd : ((spl l).length : Int) ≤ d) (h : (spl l).all isName = true) : chk l d = 0 := by
  rw [chk, isPath, h, decide_eq_true hd, Bool.and_true, if_pos rfl]
theorem spl_sizes (l : List UInt8) : ∀ x ∈ spl l, x.length ≤ l.length := by
  induction l with
  | nil => simp [spl]
  | cons c r ih =>
    rw [spl]
    split
    · intro x hx
      rcases List.mem_cons.1 hx with rfl | hx
      · simp
      · have := ih x hx; simp; omega
    · cases hs : spl r with
      | nil => exact absurd hs (spl_ne r)
      | cons y ys =>
        rw [hs] at ih
        intro x hx
        rcases List.mem_cons.1 hx with rfl | hx
        · have := ih y (List.mem_cons_self ..); simp; omega
        · have := ih x (List.mem_cons_of_mem _ hx); simp; omega
set_option maxRecDepth 100000 in
set_option maxHeartbeats 1000000 in
theorem refCheck_any (p : ByteArray) (d : Int) (w : World) (hs : p.size ≤ 8796093022207) (h1 : -9223372036854775808 ≤ d) (h2 : d ≤ 9223372036854775807) :
    Calls Tryz.prog 22 #[.string p, .int .i64 d] w fun e w' => e = .returned (.int .i64 (chk p.data.toList d : Nat)) ∧ Below w.heap.size w w' := by
  have hl := spl_len p.data.toList
  rw [len_l] at hl
  have hsz := spl_sizes p.data.toList
  rw [len_l] at hsz
  have hfar := @chk_far p.data.toList d
  have hbad := @chk_bad p.data.toList d
  have hgood := @chk_good p.data.toList d
  have cs := fun W => refSplit_any p W hs
  unfold SplitTo at cs
  obtain ⟨S, hS⟩ : ∃ S, S = spl p.data.toList := ⟨_, rfl⟩
  obtain ⟨R, hR⟩ : ∃ R, R = chk p.data.toList d := ⟨_, rfl⟩
  rw [← hS] at hl hsz hfar hbad hgood cs
  rw [← hR] at hfar hbad hgood
  rw [← hR]
  have hne : S ≠ [] := by rw [hS]; exact spl_ne _
  have hpos : 0 < S.length := List.length_pos_iff.2 hne
  clear hS hR hne
  by_cases hd : d < (S.length : Int)
  · have e := hfar hd
    subst e
    clear hfar hbad hgood
    go_enter Tryz.func22, Tryz.ntmps22
    go_wp2_with (go_at_call 34; refine (cs _).mono ?_; rintro e w1 ⟨v, rfl, ht, hb⟩; obtain ⟨a, c, rfl, hst, _, _⟩ := ht.form)
    go_ret
    exact ⟨rfl, hb⟩
  · have HB := Lib.hid hbad
    have HG := Lib.hid (hgood (by omega))
    have HZ := Lib.hid hsz
    have hd' : (S.length : Int) ≤ d := by omega
    clear hfar hbad hgood hsz
    go_enter Tryz.func22, Tryz.ntmps22
    go_wp2_with (go_at_call 34; refine (cs _).mono ?_; rintro e w1 ⟨v, rfl, ht, hb⟩; obtain ⟨a, c, rfl, hst, _, _⟩ := ht.form)
    obtain ⟨hln, hst⟩ := hst
    obtain ⟨b, off, rfl, hlt, hc⟩ := hst.resolve_left (by rw [List.length_map]; omega)
    have hsz1 := hb.size
    have HC : Hid (∀ k x, S[k]? = some x → w1.cell? ⟨b, off + k, none⟩ = some (.string (tb x))) := fun k x hx => hc k (tb x) (by rw [List.getElem?_map, hx]; rfl)
    clear hst hln hc ht
    go_loop [6] (fun i => ∃ k : Nat, k ≤ S.length ∧ i = .int .i64 k ∧ Hid ((S.take k).all isName = true)) (fun i => S.length - (intOf i).toNat)
    case atStart => exact ⟨0, Nat.zero_le _, rfl, rfl⟩
    case round =>
      obtain ⟨k, hk, rfl, hall⟩ := hrel
      by_cases hlk : k < S.length
      · obtain ⟨x, hx⟩ : ∃ x, S[k]? = some x := ⟨_, List.getElem?_eq_getElem hlk⟩
        have hcell := HC.out k x hx
        have hxl := HZ.out x (List.mem_of_getElem? hx)
        have cn := fun W => refName_any (tb x) W (by rw [tb_size]; omega)
        rw [tb_list] at cn
        have hnext := fun h => Lib.hid (all_step S k x hx hall.out h)
        have hfail := fun h => HB.out (all_fail S k x hx h)
        obtain ⟨T, hT⟩ : ∃ T, T = tb x := ⟨_, rfl⟩
        rw [← hT] at hcell cn
        clear hx hxl hT hall
        by_cases hn : isName x = true
        · have HN := hnext hn
          rw [hn] at cn
          clear hnext hfail hn
          go_wp2_with (go_at_call 35; refine (cn _).mono ?_; rintro e w2 ⟨rfl, rfl⟩)
          go_round
          case rel => exact ⟨k + 1, by omega, by go_num, HN⟩
          case measure => simp [intOf]; omega
        · rw [Bool.eq_false_iff.2 hn] at cn
          have HF := hfail (Bool.eq_false_iff.2 hn)
          subst HF
          clear hnext hfail hn
          go_wp2_with (go_at_call 35; refine (cn _).mono ?_; rintro e w2 ⟨rfl, rfl⟩)
          go_ret
          exact ⟨rfl, hb⟩
      · obtain rfl : k = S.length := by omega
        have h := hall.out
        rw [List.take_of_length_le (Nat.le_refl _)] at h
        have HF := HG.out h
        subst HF
        clear hall h
        go_wp2
        go_ret
        exact ⟨rfl, hb⟩
end Go.Proofs.YtkenmldiojeooaaGreat.Pr

namespace Go.Proofs.YtkenmldiojeooaaGreat.En
open Go.RowKit Tx Pm Pr
set_option linter.unusedVariables false
theorem infoE : (Tryz.prog.info? 50).map (fun i => (i.zero, i.size, i.bytes)) = some (some (.agg #[.string ⟨#[]⟩, .int .i64 0, .string ⟨#[]⟩]), 3, 40) := by kernel_rfl
def Own (w : World) (B : Nat) (v : Value) (l : List Et) : Prop := w.ownsRow B 50 3 v l.length (l.flatMap cells)
theorem Own.below {w w1 : World} {B : Nat} {v : Value} {l : List Et} (h : Own w B v l) (hb : Below w.heap.size w w1) : Own w1 B v l := by
  refine ⟨h.1, ?_⟩
  rcases h.2 with h0 | ⟨g', cap', cur, hv, hg, hh, r⟩
  · exact .inl h0
  · exact .inr ⟨g', cap', cur, hv, hg, (hb.block g' (Array.getElem?_eq_some_iff.1 hh).1).trans hh, r⟩
theorem cell_three_new (w : World) (a b c : Value) (t : TypeId) : ∀ j u, [a, b, c][j]? = some u → (w.alloc (.cells #[a, b, c] t)).cell? ((⟨w.heap.size, 0, none⟩ : Addr).add j) = some u := by
  intro j u hj
  match j, hj with
  | 0, hj => simp at hj; subst hj; simp [Addr.add]
  | 1, hj => simp at hj; subst hj; simp [Addr.add]
  | 2, hj => simp at hj; subst hj; simp [Addr.add]
  | j + 3, hj => simp at hj
theorem cells_one (x : Et) : ∀ u ∈ cells x, u.oneCell' = true := by
  intro u hu
  simp [cells] at hu
  rcases hu with rfl | rfl | rfl <;> rfl
theorem flat_at : ∀ (l : List Et) (k : Nat) (x : Et) (j : Nat), l[k]? = some x → j < 3 → (l.flatMap cells)[k * 3 + j]? = (cells x)[j]?
  | [], k, x, j, h, _ => by cases h
  | y :: l, 0, x, j, h, hj => by
    injection h with h
    subst h
    rw [List.flatMap_cons, List.getElem?_append_left (by rw [Nat.zero_mul, Nat.zero_add]; exact hj), Nat.zero_mul, Nat.zero_add]
  | y :: l, k + 1, x, j, h, hj => by
    have e : (k + 1) * 3 + j = (cells y).length + (k * 3 + j) := by
      show _ = 3 + _
      omega
    rw [List.flatMap_cons, e, List.getElem?_append_right (by omega), Nat.add_sub_cancel_left]
    exact flat_at l k x j h hj
theorem Own.form {w : World} {B : Nat} {v : Value} {l : List Et} (h : Own w B v l) : ∃ a c, v = .slice a l.length c ∧ Ents w a l.length l ∧ l.length ≤ c ∧ c ≤ maxLen := by
  have hh := h
  rcases h.2 with ⟨rfl, h0⟩ | ⟨g, cap, cur, rfl, hg, hh2, hn, hc, _⟩
  · exact ⟨none, 0, by rw [h0], ⟨rfl, .inl h0⟩, by omega, Nat.zero_le _⟩
  · refine ⟨some ⟨g, 0, none⟩, cap, rfl, ⟨rfl, .inr ⟨g, 0, rfl, (Array.getElem?_eq_some_iff.1 hh2).1, fun k x hx => ?_⟩⟩, hn, hc⟩
    have h1 := hh.cells (g := g) rfl (k * 3 + 0) (.string x.path) (flat_at l k x 0 hx (by omega))
    have h2 := hh.cells (g := g) rfl (k * 3 + 1) (.int .i64 x.node.kind) (flat_at l k x 1 hx (by omega))
    have h3 := hh.cells (g := g) rfl (k * 3 + 2) (.string x.node.data) (flat_at l k x 2 hx (by omega))
    rw [WideShapes.add_plain] at h1 h2 h3
    exact ⟨h1, h2, h3⟩
def tsub (l : List Et) (p : ByteArray) : List Et := l.filter (fun x => und x.path.data.toList p.data.toList)
theorem tsub_take (l : List Et) (p : ByteArray) (k : Nat) (x : Et) (h : l[k]? = some x) : tsub (l.take (k + 1)) p = tsub (l.take k) p ++ (if und x.path.data.toList p.data.toList = true then [x] else []) := by
  obtain ⟨hk, he⟩ := List.getElem?_eq_some_iff.1 h
  rw [List.take_succ_eq_append_getElem hk, he, tsub, List.filter_append, List.filter_cons, List.filter_nil]
  rfl
def SubTo (l : List Et) (p : ByteArray) (w : World) (e : Ending) (w' : World) : Prop := ∃ v, e = .returned v ∧ Own w' w.heap.size v (tsub l p) ∧ Below w.heap.size w w'
def small (l : List Et) : Prop := ∀ x ∈ l, x.path.size ≤ 9223372036854775807
set_option maxRecDepth 100000 in
set_option maxHeartbeats 1000000 in
theorem refSub_any (a : Option Addr) (n c : Nat) (l : List Et) (p : ByteArray) (w : World) (hl : Ents w a n l) (hn : n ≤ 1000000000000) (hs : small l) (hp : p.size ≤ 9223372036854775807) :
    Calls Tryz.prog 23 #[.slice a n c, .string p] w (SubTo l p w) := by
  obtain ⟨i0, hi, hz0, hz1, hz2⟩ := info_parts infoE
  obtain ⟨hln, hc⟩ := hl
  by_cases h0 : n = 0
  · subst h0
    obtain rfl : l = [] := List.length_eq_zero_iff.1 hln
    clear hc hs
    go_enter Tryz.func23, Tryz.ntmps23
    go_wp2
    go_loop [5, 6] (fun o i => i = .int .i64 0 ∧ o = .slice none 0 0) (fun _ _ => 0)
    case atStart => exact ⟨rfl, rfl⟩
    case round =>
      obtain ⟨rfl, rfl⟩ := hrel
      go_wp2
      go_ret
      exact ⟨_, rfl, World.ownsRow_nil _ _ _ _, Below.refl _ _⟩
  · obtain ⟨b, off, rfl, hb, hc⟩ := hc.resolve_left h0
    have HC := Lib.hid hc
    have HS := Lib.hid hs
    clear hc h0 hs
    go_enter Tryz.func23, Tryz.ntmps23
    go_wp2_with fail
    go_loopw [5, 6] (fun v i wr => ∃ (k : Nat) (out : List Et), k ≤ n ∧ i = .int .i64 k ∧ Hid (out = tsub (l.take k) p) ∧ out.length ≤ k ∧ Own wr w.heap.size v out ∧ Below w.heap.size w wr) (fun _ i _ => n - (intOf i).toNat)
    case atStart => exact ⟨0, [], Nat.zero_le _, rfl, rfl, Nat.le_refl _, World.ownsRow_nil _ _ _ _, Below.refl _ _⟩
    case round =>
      obtain ⟨k, out, hk, rfl, hT, hlen, hown, hB⟩ := hrel
      by_cases hlt : k < n
      · obtain ⟨x, hx⟩ : ∃ x, l[k]? = some x := ⟨_, List.getElem?_eq_getElem (by omega)⟩
        obtain ⟨c1, c2, c3⟩ := HC.out k x hx
        have d1 := (hB.cell (p := ⟨b, _, none⟩) hb).trans c1
        have d2 := (hB.cell (p := ⟨b, _, none⟩) hb).trans c2
        have d3 := (hB.cell (p := ⟨b, _, none⟩) hb).trans c3
        have hxs := HS.out x (List.mem_of_getElem? hx)
        have hnx := tsub_take l p k x hx
        rw [← hT.out] at hnx
        obtain ⟨P, K, D⟩ := x
        simp only at d1 d2 d3 hxs hnx
        have cu := fun W => refUnder_any P p W hxs hp
        have hsz := hB.size
        by_cases hu : und P.data.toList p.data.toList = true
        · rw [hu] at cu
          rw [if_pos hu] at hnx
          have HN := Lib.hid hnx
          clear hnx hu hT hx c1 c2 c3 hln
          unfold Own at hown
          go_wp2_with fail
          go_at_call 25
          refine (cu _).mono ?_
          rintro e w1 ⟨rfl, rfl⟩
          go_wp2_with (at_builtin; refine wpList_append_own _ rfl _ _ 22 rfl w.heap.size 50 i0 (.agg #[.string ⟨#[]⟩, .int .i64 0, .string ⟨#[]⟩]) 3 40 Tryz.underlying22 hi hz0 hz1 hz2 rfl (by decide) _ _ _ rfl (hown.alloc _) ⟨wr.heap.size, 0, none⟩ 1 1 [.string P, .int .i64 K, .string D] rfl rfl ?c1 ?c2 ?c3 ?c4 ?c5 ?_)
          case c1 => exact cell_three_new _ _ _ _ _
          case c2 => exact cells_one ⟨P, K, D⟩
          case c3 => unfold maxLen; omega
          case c4 => omega
          case c5 => simp; omega
          intro v' w2 hown' hgrow _
          have hb3 := below_step hB hown hgrow
          have ht2 : Own w2 w.heap.size v' (out ++ [⟨P, K, D⟩]) := by
            unfold Own
            rw [List.length_append, List.flatMap_append]
            exact hown'
          clear hown hown' hgrow hB
          go_wp2_with fail
          go_roundw
          case rel => exact ⟨k + 1, _, by omega, by go_num, HN.out.symm, by simp; omega, ht2, hb3⟩
          case measure => simp [intOf]; omega
        · rw [Bool.eq_false_iff.2 hu] at cu
          rw [if_neg hu, List.append_nil] at hnx
          have HN := Lib.hid hnx.symm
          clear hnx hu hT hx c1 c2 c3 hln
          go_wp2_with (go_at_call 25; refine (cu _).mono ?_; rintro e w1 ⟨rfl, rfl⟩)
          go_roundw
          case rel => exact ⟨k + 1, out, by omega, by go_num, HN, by omega, hown, hB⟩
          case measure => simp [intOf]; omega
      · obtain rfl : k = n := by omega
        have h := hT.out
        rw [List.take_of_length_le (by omega)] at h
        have HE := Lib.hid h
        clear hT h hln
        go_wp2_with fail
        go_ret
        exact ⟨_, rfl, by rw [← HE.out]; exact hown, hB⟩
end Go.Proofs.YtkenmldiojeooaaGreat.En

namespace Go.Proofs.YtkenmldiojeooaaGreat.Pm
set_option linter.unusedVariables false
theorem spl_app (a b : List UInt8) : spl (a ++ 47 :: b) = spl a ++ spl b := by
  induction a with
  | nil => rw [List.nil_append]; exact if_pos rfl
  | cons c r ih =>
    rw [List.cons_append, spl, spl, ih]
    split
    · rfl
    · cases h : spl r with
      | nil => exact absurd h (spl_ne r)
      | cons x xs => rfl
theorem cut_last {l : List UInt8} {k : Nat} (h : lastN l = k + 1) : l = l.take k ++ 47 :: l.drop (k + 1) := by
  induction l generalizing k with
  | nil => cases h
  | cons c r ih =>
    rw [lastN] at h
    split at h
    · split at h
      · rename_i hc
        obtain rfl : k = 0 := by omega
        rw [hc]
        rfl
      · cases h
    · rename_i h0
      obtain ⟨k', rfl⟩ : ∃ k', k = k' + 1 := ⟨k - 1, by omega⟩
      have := ih (k := k') (by omega)
      rw [List.take_succ_cons, List.drop_succ_cons, List.cons_append, ← this]
theorem last_bas (l : List UInt8) : lastN (bas l) = 0 := by
  unfold bas
  induction l with
  | nil => rfl
  | cons c r ih =>
    by_cases h : lastN r = 0
    · rw [h] at ih
      by_cases hc : c = 47
      · rw [lastN, if_pos h, if_pos hc]
        exact h
      · rw [lastN, if_pos h, if_neg hc, List.drop_zero, lastN, if_pos h, if_neg hc]
    · rw [lastN, if_neg h, List.drop_succ_cons]
      exact ih
theorem par_bas (l : List UInt8) : (lastN l = 0 ∧ par l = [] ∧ bas l = l) ∨ (l = par l ++ 47 :: bas l) := by
  by_cases h : lastN l = 0
  · left
    rw [par, bas, h]
    exact ⟨rfl, rfl, rfl⟩
  · right
    obtain ⟨k, hk⟩ : ∃ k, lastN l = k + 1 := ⟨lastN l - 1, by omega⟩
    have := cut_last hk
    rw [par, bas, hk, Nat.add_sub_cancel]
    exact this
def good (l : List UInt8) : Prop := (spl l).all isName = true
theorem ok_of {l : List UInt8} {d : Int} (h : chk l d = 0) : ((spl l).length : Int) ≤ d ∧ good l := by
  rw [chk] at h
  split at h
  · rename_i hp
    rw [isPath, Bool.and_eq_true] at hp
    exact ⟨of_decide_eq_true hp.1, hp.2⟩
  · cases h
theorem chk_two (l : List UInt8) (d : Int) : chk l d = 0 ∨ chk l d = 10 := by
  rw [chk]
  split
  · exact .inl rfl
  · exact .inr rfl
theorem good_ne {l : List UInt8} (h : good l) : l ≠ [] := by
  rintro rfl
  exact absurd (show (spl []).all isName = true from h) (by decide)
theorem spl_pos (l : List UInt8) : 0 < (spl l).length := List.length_pos_iff.2 (spl_ne l)
theorem und_self (l : List UInt8) : und l l = true := by rw [und]; simp
theorem und_below (a b : List UInt8) : und (a ++ 47 :: b) a = true := by
  have : (a ++ [47]).isPrefixOf (a ++ 47 :: b) = true := by
    rw [List.isPrefixOf_iff_prefix]
    exact ⟨b, by simp⟩
  rw [und, this, Bool.or_true]
theorem und_par (l : List UInt8) : und l (par l) = true := by
  rcases par_bas l with ⟨_, hp, _⟩ | hl
  · rw [und, hp]; simp
  · have := und_below (par l) (bas l)
    rw [← hl] at this
    exact this
theorem less_app (a b : List UInt8) (c : UInt8) : Op.bytesLess a (a ++ c :: b) = true := by
  induction a with
  | nil => rfl
  | cons x a ih => rw [List.cons_append, Op.bytesLess, ih]; simp
theorem less_irr (a : List UInt8) : Op.bytesLess a a = false := by
  induction a with
  | nil => rfl
  | cons x a ih => rw [Op.bytesLess, ih]; simp
theorem less_asymm : ∀ (a b : List UInt8), Op.bytesLess a b = true → Op.bytesLess b a = false
  | [], [], _ => rfl
  | [], _ :: _, _ => by rw [Op.bytesLess]
  | _ :: _, [], h => by rw [Op.bytesLess] at h; cases h
  | x :: a, y :: b, h => by
    have ih := less_asymm a b
    rw [Op.bytesLess] at h ⊢
    by_cases h1 : x < y
    · have h2 : ¬ y < x := by rw [UInt8.lt_iff_toNat_lt] at h1 ⊢; omega
      have h3 : ¬ y = x := by rintro rfl; rw [UInt8.lt_iff_toNat_lt] at h1; omega
      simp [h2, h3]
    · by_cases h2 : x = y
      · subst h2
        simp at h ⊢
        exact ih h
      · simp [h1, h2] at h
theorem letters {l : List UInt8} (h : ∀ x ∈ spl l, x.all okC = true) : ∀ c ∈ l, okC c = true ∨ c = 47 := by
  induction l with
  | nil => intro c hc; cases hc
  | cons d r ih =>
    intro c hc
    by_cases hd : d = 47
    · rw [spl, if_pos hd] at h
      rcases List.mem_cons.1 hc with rfl | hc
      · exact .inr hd
      · exact ih (fun x hx => h x (List.mem_cons_of_mem _ hx)) c hc
    · rw [spl, if_neg hd] at h
      cases hs : spl r with
      | nil => exact absurd hs (spl_ne r)
      | cons x xs =>
        rw [hs] at h ih
        have h0 := h (d :: x) (List.mem_cons_self ..)
        rw [List.all_cons, Bool.and_eq_true] at h0
        rcases List.mem_cons.1 hc with rfl | hc
        · exact .inl h0.1
        · refine ih (fun y hy => ?_) c hc
          rcases List.mem_cons.1 hy with rfl | hy
          · exact h0.2
          · exact h y (List.mem_cons_of_mem _ hy)
theorem good_letters {l : List UInt8} (h : good l) : ∀ c ∈ l, okC c = true ∨ c = 47 := by
  apply letters
  intro x hx
  unfold good at h
  have := List.all_eq_true.1 h x hx
  rw [isName, Bool.and_eq_true] at this
  exact this.2
theorem above {c : UInt8} (h : okC c = true) : (47 : UInt8) < c := by
  rw [UInt8.lt_iff_toNat_lt]
  show 47 < c.toNat
  simp [okC] at h
  omega
theorem sorts : ∀ (t o b : List UInt8), (∀ c ∈ o, okC c = true ∨ c = 47) → o ≠ t → (t ++ [47]).isPrefixOf o = false → Op.bytesLess o t = true ∨ Op.bytesLess (t ++ 47 :: b) o = true
  | [], [], b, _, hne, _ => absurd rfl hne
  | [], c :: r, b, hl, _, hp => by
    right
    have hc : c ≠ 47 := by
      rintro rfl
      simp at hp
    have := above ((hl c (List.mem_cons_self ..)).resolve_right hc)
    rw [List.nil_append, Op.bytesLess]
    simp [this]
  | x :: t, [], b, _, _, _ => .inl rfl
  | x :: t, c :: r, b, hl, hne, hp => by
    rw [List.cons_append, Op.bytesLess, Op.bytesLess]
    by_cases h1 : c < x
    · left; simp [h1]
    · by_cases h2 : c = x
      · subst h2
        have := sorts t r b (fun d hd => hl d (List.mem_cons_of_mem _ hd)) (fun e => hne (by rw [e])) (by simpa using hp)
        simpa using this
      · right
        have : x < c := by
          rw [UInt8.lt_iff_toNat_lt] at h1 ⊢
          have : c.toNat ≠ x.toNat := fun e => h2 (UInt8.toNat_inj.1 e)
          omega
        simp [this]
theorem und_split {o t : List UInt8} (h : und o t = false) : o ≠ t ∧ (t ++ [47]).isPrefixOf o = false := by
  rw [und, Bool.or_eq_false_iff, Bool.or_eq_false_iff] at h
  exact ⟨of_decide_eq_false h.1.2, h.2⟩
theorem order {t o b : List UInt8} (ho : good o) (h : und o t = false) : Op.bytesLess o t = true ∨ (Op.bytesLess o (t ++ 47 :: b) = false ∧ o ≠ t ++ 47 :: b) := by
  obtain ⟨h1, h2⟩ := und_split h
  rcases sorts t o b (good_letters ho) h1 h2 with h3 | h3
  · exact .inl h3
  · refine .inr ⟨less_asymm _ _ h3, ?_⟩
    rintro rfl
    rw [less_irr] at h3
    cases h3
end Go.Proofs.YtkenmldiojeooaaGreat.Pm

namespace Go.Proofs.YtkenmldiojeooaaGreat.En
open Go.RowKit Tx Pm Pr
set_option linter.unusedVariables false
def okAt (l : List Et) (i : Nat) : Bool := match l[i]? with
  | none => true
  | some x => decide (chk x.path.data.toList 5 = 0) && whole x.node && !decide (x.node.kind = 0) && (decide (i = 0) || (match l[i - 1]? with | some y => Op.bytesLess y.path.toList x.path.toList | none => true)) && (decide (par x.path.data.toList = []) || decide ((tget l (tb (par x.path.data.toList))).kind = 1))
def tcheck (l : List Et) : Nat := if 200 < l.length then 4 else if (List.range l.length).all (okAt l) then 0 else 3
theorem tcheck_bad {l : List Et} {i : Nat} (hi : i < l.length) (h : okAt l i = false) (hn : l.length ≤ 200) : tcheck l = 3 := by
  rw [tcheck, if_neg (by omega), if_neg]
  intro hall
  have := List.all_eq_true.1 hall i (List.mem_range.2 hi)
  rw [h] at this
  cases this
theorem tcheck_good {l : List Et} (h : ∀ i, i < l.length → okAt l i = true) (hn : l.length ≤ 200) : tcheck l = 0 := by
  rw [tcheck, if_neg (by omega), if_pos (List.all_eq_true.2 (fun i hi => h i (List.mem_range.1 hi)))]
theorem okAt_eq {l : List Et} {i : Nat} {x : Et} (h : l[i]? = some x) : okAt l i = (decide (chk x.path.data.toList 5 = 0) && whole x.node && !decide (x.node.kind = 0) && (decide (i = 0) || (match l[i - 1]? with | some y => Op.bytesLess y.path.toList x.path.toList | none => true)) && (decide (par x.path.data.toList = []) || decide ((tget l (tb (par x.path.data.toList))).kind = 1))) := by
  rw [okAt, h]
def Small (l : List Et) : Prop := ∀ x ∈ l, x.path.size ≤ 8000000000000 ∧ x.node.data.size ≤ 8000000000000
theorem tb_ne {l : List UInt8} (h : l ≠ []) : (tb l).toList.isEmpty = false := not_empty (fun e => h (by rw [← tb_list l, e]))
theorem tb_nil {l : List UInt8} (h : l = []) : (tb l).toList.isEmpty = true := is_empty (by rw [h]; rfl)
set_option maxRecDepth 100000 in
set_option maxHeartbeats 2000000 in
theorem refCheckT_any (a : Option Addr) (n c : Nat) (l : List Et) (w : World) (hl : Ents w a n l) (hn : n ≤ 9223372036854775806) (hs : Small l) :
    Calls Tryz.prog 27 #[.slice a n c] w fun e w' => e = .returned (.int .i64 (tcheck l : Nat)) ∧ Below w.heap.size w w' := by
  obtain ⟨hln, hc⟩ := hl
  by_cases hbig : 200 < n
  · have e : tcheck l = 4 := by rw [tcheck, if_pos (by omega)]
    rw [e]
    clear hc e hln
    go_enter Tryz.func27, Tryz.ntmps27
    go_wp2
    go_ret
    exact ⟨rfl, Below.refl _ _⟩
  have hn2 : n ≤ 200 := by omega
  by_cases h0 : n = 0
  · subst h0
    obtain rfl : l = [] := List.length_eq_zero_iff.1 hln
    have e : tcheck [] = 0 := rfl
    rw [e]
    clear hc hs e hbig
    go_enter Tryz.func27, Tryz.ntmps27
    go_wp2
    go_loop [3] (fun i => i = .int .i64 0) (fun _ => 0)
    case atStart => exact rfl
    case round =>
      obtain rfl := hrel
      go_wp2
      go_ret
      exact ⟨rfl, Below.refl _ _⟩
  have hE : Hid (Ents w a n l) := ⟨hln, hc⟩
  obtain ⟨b, off, rfl, hb, hc⟩ := hc.resolve_left h0
  have HC := Lib.hid hc
  have HS := Lib.hid hs
  have HB := fun i => Lib.hid (fun (hi : i < l.length) (h : okAt l i = false) => tcheck_bad hi h (by omega))
  have HG := Lib.hid (fun (h : ∀ i, i < l.length → okAt l i = true) => tcheck_good h (by omega))
  obtain ⟨T, hT⟩ : ∃ T, T = tcheck l := ⟨_, rfl⟩
  rw [← hT] at HB HG
  rw [← hT]
  clear hc h0 hs hT hbig
  go_enter Tryz.func27, Tryz.ntmps27
  go_wp2_with fail
  go_loopw [3] (fun i wr => ∃ k : Nat, k ≤ n ∧ i = .int .i64 k ∧ Hid (∀ i, i < k → okAt l i = true) ∧ Below w.heap.size w wr) (fun i _ => n - (intOf i).toNat)
  case atStart => exact ⟨0, Nat.zero_le _, rfl, (fun i hi => absurd hi (Nat.not_lt_zero _)), Below.refl _ _⟩
  case round =>
    obtain ⟨k, hk, rfl, hgood, hB⟩ := hrel
    by_cases hlt : k < n
    · obtain ⟨x, hx⟩ : ∃ x, l[k]? = some x := ⟨_, List.getElem?_eq_getElem (by omega)⟩
      obtain ⟨c1, c2, c3⟩ := HC.out k x hx
      obtain ⟨hps, hds⟩ := HS.out x (List.mem_of_getElem? hx)
      have hok := okAt_eq hx
      have HO := Lib.hid hok
      have HX := Lib.hid hx
      have hkl : k < l.length := by omega
      have HK := Lib.hid hkl
      clear hok hx hkl
      obtain ⟨P, K, D⟩ := x
      simp only at c1 c2 c3 hps hds
      have d1 := (hB.cell (p := ⟨b, _, none⟩) hb).trans c1
      have cc := fun W => refCheck_any P 5 W (by omega) (by omega) (by omega)
      have htwo := chk_two P.data.toList 5
      obtain ⟨C, hC⟩ : ∃ C, C = chk P.data.toList 5 := ⟨_, rfl⟩
      rw [← hC] at cc htwo
      have HCC := Lib.hid hC
      clear hC
      go_wp2_with fail
      go_at_call 22
      refine (cc _).mono ?_
      rintro e w1 ⟨rfl, hb1⟩
      have hB1 := below_call hB hb1
      clear d1 cc hb1
      have d1 := (hB1.cell (p := ⟨b, _, none⟩) hb).trans c1
      have d2 := (hB1.cell (p := ⟨b, _, none⟩) hb).trans c2
      have d3 := (hB1.cell (p := ⟨b, _, none⟩) hb).trans c3
      rcases htwo with h | h
      case inr =>
        have hf : okAt l k = false := by rw [HO.out, ← HCC.out, h]; rfl
        have hT := (HB k).out HK.out hf
        subst h hT
        clear hf
        go_wp2_with fail
        go_ret
        exact ⟨rfl, hB1⟩
      have cw := fun W => refWhole_any ⟨K, D⟩ W (by show D.size ≤ _; omega)
      unfold nv at cw
      obtain ⟨V, hV⟩ : ∃ V, V = whole ⟨K, D⟩ := ⟨_, rfl⟩
      rw [← hV] at cw
      have HV := Lib.hid hV
      have HH := Lib.hid h
      subst h
      clear hV
      go_wp2_with fail
      go_at_call 16
      refine (cw _).mono ?_
      rintro e w2 ⟨rfl, hb2⟩
      have hB2 := below_call hB1 hb2
      clear d1 d2 d3 cw hb2 hB1 hB
      have d1 := (hB2.cell (p := ⟨b, _, none⟩) hb).trans c1
      have d2 := (hB2.cell (p := ⟨b, _, none⟩) hb).trans c2
      have d3 := (hB2.cell (p := ⟨b, _, none⟩) hb).trans c3
      by_cases hv : V = true
      case neg =>
        obtain rfl := Bool.eq_false_iff.2 hv
        have hf : okAt l k = false := by rw [HO.out, ← HCC.out, ← HV.out]; rfl
        have hT := (HB k).out HK.out hf
        subst hT
        clear hf hv
        go_wp2_with fail
        go_ret
        exact ⟨rfl, hB2⟩
      subst hv
      by_cases hK : K = 0
      · have hf : okAt l k = false := by rw [HO.out, ← HCC.out, ← HV.out, hK]; rfl
        have hT := (HB k).out HK.out hf
        subst hT
        subst hK
        clear hf
        go_wp2_with fail
        go_ret
        exact ⟨rfl, hB2⟩
      have eK : ((K : Int) == 0) = false := beq_eq_false_iff_ne.2 hK
      have HN0 := Lib.hid hK
      clear hK
      have cp := fun W => refParent_any P W (by omega)
      have cg := fun W hB => refGet_any (some ⟨b, off, none⟩) n c l (tb (par P.data.toList)) W (Ents.below hE.out hB) (by omega)
      unfold nv at cg
      by_cases hprev : k = 0 ∨ ∃ y, l[k - 1]? = some y ∧ Op.bytesLess y.path.toList P.toList = true
      case neg =>
        have hk0 : k ≠ 0 := fun h => hprev (.inl h)
        obtain ⟨y, hy⟩ : ∃ y, l[k - 1]? = some y := ⟨_, List.getElem?_eq_getElem (by omega)⟩
        have hless : Op.bytesLess y.path.toList P.toList = false := Bool.eq_false_iff.2 (fun h => hprev (.inr ⟨y, hy, h⟩))
        have hf : okAt l k = false := by rw [HO.out, hy, decide_eq_false hk0, Bool.false_or]; simp only [hless]; simp
        have hT := (HB k).out HK.out hf
        subst hT
        obtain ⟨j, rfl⟩ : ∃ j, k = j + 1 := ⟨k - 1, by omega⟩
        rw [Nat.add_sub_cancel] at hy
        have g1 := (hB2.cell (p := ⟨b, _, none⟩) hb).trans (HC.out j y hy).1
        have hsub : ((j + 1 : Nat) : Int) - 1 = j := by omega
        obtain ⟨Y, hY⟩ : ∃ Y, Y = y.path := ⟨_, rfl⟩
        rw [← hY] at g1 hless
        clear hf hprev hk0 hy hY
        go_wp2_with fail
        go_ret
        exact ⟨rfl, hB2⟩
      have hpb : (decide (k = 0) || (match l[k - 1]? with | some y => Op.bytesLess y.path.toList P.toList | none => true)) = true := by
        rcases hprev with h | ⟨y, hy, hless⟩
        · rw [decide_eq_true h]; rfl
        · rw [hy]; simp only [hless]; simp
      have hmain : ((par P.data.toList = []) ∨ (tget l (tb (par P.data.toList))).kind = 1) → okAt l k = true := by
        intro h
        rw [HO.out]
        rw [hpb, ← HCC.out, ← HV.out, decide_eq_false HN0.out]
        rcases h with h | h
        · rw [decide_eq_true h]; rfl
        · rw [decide_eq_true h, Bool.or_true]; rfl
      have hmainf : (par P.data.toList ≠ []) → (tget l (tb (par P.data.toList))).kind ≠ 1 → okAt l k = false := by
        intro h1 h2
        rw [HO.out]
        rw [decide_eq_false h1, decide_eq_false h2, Bool.or_false, Bool.and_false]
      have HM := Lib.hid hmain
      have HMF := Lib.hid hmainf
      clear hmain hmainf hpb
      have hp1 := @tb_nil (par P.data.toList)
      have hp2 := @tb_ne (par P.data.toList)
      obtain ⟨R, hR⟩ : ∃ R, R = tb (par P.data.toList) := ⟨_, rfl⟩
      rw [← hR] at cp cg HM HMF hp1 hp2
      have hnext : okAt l k = true → ∀ i, i < k + 1 → okAt l i = true := by
        intro h i hi
        rcases Nat.lt_or_ge i k with h2 | h2
        · exact hgood.out i h2
        · obtain rfl : i = k := by omega
          exact h
      have HNX := Lib.hid hnext
      clear hR hnext
      rcases hprev with rfl | ⟨y, hy, hless⟩
      · by_cases hpar : par P.data.toList = []
        · have e := hp1 hpar
          have HT := Lib.hid (HNX.out (HM.out (.inl hpar)))
          clear hp1 hp2 hpar
          go_wp2_with (first | (go_at_call 36; refine (cp _).mono ?_; rintro e w3 ⟨rfl, rfl⟩) | (go_at_call 26; refine (cg _ hB2).mono ?_; rintro e w4 ⟨rfl, hb4⟩))
          go_roundw
          case rel => exact ⟨1, by omega, by go_num, HT.out, hB2⟩
          case measure => simp [intOf]; omega
        · have e := hp2 hpar
          have hkind := HMF.out hpar
          have hkind2 := fun h => HM.out (.inr h)
          obtain ⟨N, hN⟩ : ∃ N, N = (tget l R).kind := ⟨_, rfl⟩
          rw [← hN] at cg hkind hkind2
          have hfd : ∀ (a : Int) (d : ByteArray) (w : World), (Instr.field 33 (.agg #[.int .i64 a, .string d]) 0).run Tryz.prog w = .ok (.int .i64 a) w := fun _ _ _ => by kernel_rfl
          clear hp1 hp2 hpar hN
          by_cases h1 : N = 1
          · have HT := Lib.hid (HNX.out (hkind2 h1))
            have e1 : ((N : Int) == 1) = true := by simp [h1]
            clear hkind hkind2 h1
            go_wp2_with (first | (go_at_call 36; refine (cp _).mono ?_; rintro e w3 ⟨rfl, rfl⟩) | (go_at_call 26; refine (cg _ hB2).mono ?_; rintro e w4 ⟨rfl, hb4⟩))
            go_roundw
            case rel => exact ⟨1, by omega, by go_num, HT.out, below_call hB2 hb4⟩
            case measure => simp [intOf]; omega
          · have hT := (HB _).out HK.out (hkind h1)
            have e1 : ((N : Int) == 1) = false := beq_eq_false_iff_ne.2 h1
            subst hT
            clear hkind hkind2 h1
            go_wp2_with (first | (go_at_call 36; refine (cp _).mono ?_; rintro e w3 ⟨rfl, rfl⟩) | (go_at_call 26; refine (cg _ hB2).mono ?_; rintro e w4 ⟨rfl, hb4⟩))
            go_ret
            exact ⟨rfl, below_call hB2 hb4⟩
      · by_cases hk0 : k = 0
        · subst hk0
          by_cases hpar : par P.data.toList = []
          · have e := hp1 hpar
            have HT := Lib.hid (HNX.out (HM.out (.inl hpar)))
            clear hp1 hp2 hpar
            go_wp2_with (first | (go_at_call 36; refine (cp _).mono ?_; rintro e w3 ⟨rfl, rfl⟩) | (go_at_call 26; refine (cg _ hB2).mono ?_; rintro e w4 ⟨rfl, hb4⟩))
            go_roundw
            case rel => exact ⟨1, by omega, by go_num, HT.out, hB2⟩
            case measure => simp [intOf]; omega
          · have e := hp2 hpar
            have hkind := HMF.out hpar
            have hkind2 := fun h => HM.out (.inr h)
            obtain ⟨N, hN⟩ : ∃ N, N = (tget l R).kind := ⟨_, rfl⟩
            rw [← hN] at cg hkind hkind2
            have hfd : ∀ (a : Int) (d : ByteArray) (w : World), (Instr.field 33 (.agg #[.int .i64 a, .string d]) 0).run Tryz.prog w = .ok (.int .i64 a) w := fun _ _ _ => by kernel_rfl
            clear hp1 hp2 hpar hN
            by_cases h1 : N = 1
            · have HT := Lib.hid (HNX.out (hkind2 h1))
              have e1 : ((N : Int) == 1) = true := by simp [h1]
              clear hkind hkind2 h1
              go_wp2_with (first | (go_at_call 36; refine (cp _).mono ?_; rintro e w3 ⟨rfl, rfl⟩) | (go_at_call 26; refine (cg _ hB2).mono ?_; rintro e w4 ⟨rfl, hb4⟩))
              go_roundw
              case rel => exact ⟨1, by omega, by go_num, HT.out, below_call hB2 hb4⟩
              case measure => simp [intOf]; omega
            · have hT := (HB _).out HK.out (hkind h1)
              have e1 : ((N : Int) == 1) = false := beq_eq_false_iff_ne.2 h1
              subst hT
              clear hkind hkind2 h1
              go_wp2_with (first | (go_at_call 36; refine (cp _).mono ?_; rintro e w3 ⟨rfl, rfl⟩) | (go_at_call 26; refine (cg _ hB2).mono ?_; rintro e w4 ⟨rfl, hb4⟩))
              go_ret
              exact ⟨rfl, below_call hB2 hb4⟩
        obtain ⟨j, rfl⟩ : ∃ j, k = j + 1 := ⟨k - 1, by omega⟩
        rw [Nat.add_sub_cancel] at hy
        have g1 := (hB2.cell (p := ⟨b, _, none⟩) hb).trans (HC.out j y hy).1
        have hsub : ((j + 1 : Nat) : Int) - 1 = j := by omega
        obtain ⟨Y, hY⟩ : ∃ Y, Y = y.path := ⟨_, rfl⟩
        rw [← hY] at g1 hless
        clear hk0 hy hY
        by_cases hpar : par P.data.toList = []
        · have e := hp1 hpar
          have HT := Lib.hid (HNX.out (HM.out (.inl hpar)))
          clear hp1 hp2 hpar
          go_wp2_with (first | (go_at_call 36; refine (cp _).mono ?_; rintro e w3 ⟨rfl, rfl⟩) | (go_at_call 26; refine (cg _ hB2).mono ?_; rintro e w4 ⟨rfl, hb4⟩))
          go_roundw
          case rel => exact ⟨j + 1 + 1, by omega, by go_num, HT.out, hB2⟩
          case measure => simp [intOf]; omega
        · have e := hp2 hpar
          have hkind := HMF.out hpar
          have hkind2 := fun h => HM.out (.inr h)
          obtain ⟨N, hN⟩ : ∃ N, N = (tget l R).kind := ⟨_, rfl⟩
          rw [← hN] at cg hkind hkind2
          have hfd : ∀ (a : Int) (d : ByteArray) (w : World), (Instr.field 33 (.agg #[.int .i64 a, .string d]) 0).run Tryz.prog w = .ok (.int .i64 a) w := fun _ _ _ => by kernel_rfl
          clear hp1 hp2 hpar hN
          by_cases h1 : N = 1
          · have HT := Lib.hid (HNX.out (hkind2 h1))
            have e1 : ((N : Int) == 1) = true := by simp [h1]
            clear hkind hkind2 h1
            go_wp2_with (first | (go_at_call 36; refine (cp _).mono ?_; rintro e w3 ⟨rfl, rfl⟩) | (go_at_call 26; refine (cg _ hB2).mono ?_; rintro e w4 ⟨rfl, hb4⟩))
            go_roundw
            case rel => exact ⟨j + 1 + 1, by omega, by go_num, HT.out, below_call hB2 hb4⟩
            case measure => simp [intOf]; omega
          · have hT := (HB _).out HK.out (hkind h1)
            have e1 : ((N : Int) == 1) = false := beq_eq_false_iff_ne.2 h1
            subst hT
            clear hkind hkind2 h1
            go_wp2_with (first | (go_at_call 36; refine (cp _).mono ?_; rintro e w3 ⟨rfl, rfl⟩) | (go_at_call 26; refine (cg _ hB2).mono ?_; rintro e w4 ⟨rfl, hb4⟩))
            go_ret
            exact ⟨rfl, below_call hB2 hb4⟩
    · obtain rfl : k = n := by omega
      have hT := HG.out (fun i hi => hgood.out i (by omega))
      subst hT
      clear hgood hln
      go_wp2_with fail
      go_ret
      exact ⟨rfl, hB⟩
end Go.Proofs.YtkenmldiojeooaaGreat.En

namespace Go.Proofs.YtkenmldiojeooaaGreat.En
open Go.RowKit Tx Pm Pr
set_option linter.unusedVariables false
theorem flat_len (l : List Et) : (l.flatMap cells).length = l.length * 3 := by
  induction l with
  | nil => rfl
  | cons x l ih =>
    rw [List.flatMap_cons, List.length_append, ih, List.length_cons]
    show 3 + _ = _
    omega
theorem flat_one (l : List Et) : ∀ u ∈ l.flatMap cells, u.oneCell' = true := by
  intro u hu
  obtain ⟨x, _, hx⟩ := List.mem_flatMap.1 hu
  exact cells_one x u hx
theorem ents_flat {w : World} {b off : Nat} {l : List Et} (hc : ∀ k x, l[k]? = some x → w.cell? ⟨b, off + k * 3, none⟩ = some (.string x.path) ∧ w.cell? ⟨b, off + k * 3 + 1, none⟩ = some (.int .i64 x.node.kind) ∧ w.cell? ⟨b, off + k * 3 + 1 + 1, none⟩ = some (.string x.node.data)) :
    ∀ j u, (l.flatMap cells)[j]? = some u → w.cell? ((⟨b, off, none⟩ : Addr).add j) = some u := by
  intro j u hj
  rw [WideShapes.add_plain]
  have hjl := (List.getElem?_eq_some_iff.1 hj).1
  rw [flat_len] at hjl
  have hk : j / 3 < l.length := by omega
  obtain ⟨x, hx⟩ : ∃ x, l[j / 3]? = some x := ⟨_, List.getElem?_eq_getElem hk⟩
  have hf := flat_at l (j / 3) x (j % 3) hx (by omega)
  rw [show j / 3 * 3 + j % 3 = j by omega, hj] at hf
  obtain ⟨h1, h2, h3⟩ := hc _ x hx
  rcases show j % 3 = 0 ∨ j % 3 = 1 ∨ j % 3 = 2 by omega with h | h | h
  · rw [h] at hf
    injection hf with hf
    rw [hf, ← h1]
    congr 2
    omega
  · rw [h] at hf
    injection hf with hf
    rw [hf, ← h2]
    congr 2
    omega
  · rw [h] at hf
    injection hf with hf
    rw [hf, ← h3]
    congr 2
    omega
def spare : Et := ⟨⟨#[115, 112, 97, 114, 101]⟩, ⟨0, ⟨#[]⟩⟩⟩
def RoomyTo (l : List Et) (w : World) (e : Ending) (w' : World) : Prop := ∃ g cap, e = .returned (.slice (some ⟨g, 0, none⟩) l.length cap) ∧ Own w' w.heap.size (.slice (some ⟨g, 0, none⟩) (l.length + 1) cap) (l ++ [spare]) ∧ Below w.heap.size w w'
theorem own_shape {w : World} {B : Nat} {v : Value} {n : Nat} {xs : List Value} {e : TypeId} (h : w.ownsRow B e 3 v n xs) (hn : 0 < n) : ∃ g cap, v = .slice (some ⟨g, 0, none⟩) n cap ∧ n ≤ cap ∧ cap ≤ maxLen := by
  rcases h.2 with ⟨rfl, h0⟩ | ⟨g, cap, cur, rfl, hg, hh2, hn, hc, _⟩
  · omega
  · exact ⟨g, cap, rfl, hn, hc⟩
set_option maxRecDepth 100000 in
set_option maxHeartbeats 1000000 in
theorem roomy_some (b off n c : Nat) (l : List Et) (w : World) (hln : l.length = n) (hb : b < w.heap.size ∨ n = 0) (hc : ∀ k x, l[k]? = some x → w.cell? ⟨b, off + k * 3, none⟩ = some (.string x.path) ∧ w.cell? ⟨b, off + k * 3 + 1, none⟩ = some (.int .i64 x.node.kind) ∧ w.cell? ⟨b, off + k * 3 + 1 + 1, none⟩ = some (.string x.node.data)) (hn : n ≤ 1000000000000) :
    Calls Tryz.prog 11 #[.slice (some ⟨b, off, none⟩) n c] w (RoomyTo l w) := by
  obtain ⟨i0, hi, hz0, hz1, hz2⟩ := info_parts infoE
  have hB : ∀ o, Below w.heap.size w (w.alloc o) := fun o => (Below.refl _ _).alloc (Nat.le_refl _) _
  have hfl : Hid (∀ o j u, (l.flatMap cells)[j]? = some u → (w.alloc o).cell? ((⟨b, off, none⟩ : Addr).add j) = some u) := by
    intro o
    apply ents_flat
    intro k x hx
    have hb' : b < w.heap.size := by
      have := (List.getElem?_eq_some_iff.1 hx).1
      omega
    exact ⟨((hB o).cell (p := ⟨b, _, none⟩) hb').trans (hc k x hx).1, ((hB o).cell (p := ⟨b, _, none⟩) hb').trans (hc k x hx).2.1, ((hB o).cell (p := ⟨b, _, none⟩) hb').trans (hc k x hx).2.2⟩
  have hfl2 := flat_len l
  rw [hln] at hfl2
  have hown0 := World.ownsRow_made (base := w.heap.size) (e := 50) (size := 3) w #[] 0 (Nat.le_refl _) (Nat.zero_le _) rfl
  clear hc
  go_enter Tryz.func11, Tryz.ntmps11
  go_wp2_with (at_builtin; refine wpList_append_own _ rfl _ _ 22 rfl w.heap.size 50 i0 (.agg #[.string ⟨#[]⟩, .int .i64 0, .string ⟨#[]⟩]) 3 40 Tryz.underlying22 hi hz0 hz1 hz2 rfl (by decide) _ _ _ rfl hown0 ⟨b, off, none⟩ n c (l.flatMap cells) rfl hfl2 ?c1 ?c2 ?c3 ?c4 ?c5 ?_)
  case c1 => exact hfl.out _
  case c2 => exact flat_one l
  case c3 => unfold maxLen; omega
  case c4 => omega
  case c5 => simp
  intro v' w1 hown1 hgrow1 _
  have hB1 : Below w.heap.size w w1 := (hB _).grown hgrow1 (by simp) (fun k hk => (hown0.lt k hk).1)
  have hsz1 := hB1.size
  clear hgrow1 hown0 hfl hfl2
  go_wp2_with (at_builtin; refine wpList_append_own _ rfl _ _ 22 rfl w.heap.size 50 i0 (.agg #[.string ⟨#[]⟩, .int .i64 0, .string ⟨#[]⟩]) 3 40 Tryz.underlying22 hi hz0 hz1 hz2 rfl (by decide) _ _ _ rfl (hown1.alloc _) ⟨w1.heap.size, 0, none⟩ 1 1 (cells spare) rfl rfl ?c1 ?c2 ?c3 ?c4 ?c5 ?_)
  case c1 => exact cell_three_new _ _ _ _ _
  case c2 => exact cells_one spare
  case c3 => unfold maxLen; omega
  case c4 => omega
  case c5 => simp; omega
  intro v2 w2 hown2 hgrow2 _
  have hB2 := below_step hB1 hown1 hgrow2
  obtain ⟨g, cap, rfl, hcap, hcap2⟩ := own_shape hown2 (by omega)
  have hO : Own w2 w.heap.size (.slice (some ⟨g, 0, none⟩) (l.length + 1) cap) (l ++ [spare]) := by
    unfold Own
    rw [List.length_append, List.flatMap_append, hln]
    exact hown2
  have hR := hB2
  unfold maxLen at hcap2
  clear hown1 hown2 hgrow2 hB1 hB
  go_wp2_with fail
  go_ret
  refine ⟨g, cap, ?_, hO, hR⟩
  rw [hln]
  rfl
set_option maxRecDepth 100000 in
set_option maxHeartbeats 1000000 in
theorem roomy_none (w : World) :
    Calls Tryz.prog 11 #[.slice none 0 0] w (RoomyTo [] w) := by
  obtain ⟨i0, hi, hz0, hz1, hz2⟩ := info_parts infoE
  have hB : ∀ o, Below w.heap.size w (w.alloc o) := fun o => (Below.refl _ _).alloc (Nat.le_refl _) _
  have hown0 := World.ownsRow_made (base := w.heap.size) (e := 50) (size := 3) w #[] 0 (Nat.le_refl _) (Nat.zero_le _) rfl
  have hB0 := hB (.cells #[] 50)
  have he : (w.alloc (.cells #[] 50)).heap.size = w.heap.size + 1 := by simp
  go_enter Tryz.func11, Tryz.ntmps11
  go_wp2_with (first | (at_builtin; refine wpList_append_own_none _ rfl _ _ 22 rfl w.heap.size 50 i0 3 Tryz.underlying22 hi _ _ _ rfl hown0 rfl ?_) | (at_builtin; refine wpList_append_own _ rfl _ _ 22 rfl w.heap.size 50 i0 (.agg #[.string ⟨#[]⟩, .int .i64 0, .string ⟨#[]⟩]) 3 40 Tryz.underlying22 hi hz0 hz1 hz2 rfl (by decide) _ _ _ rfl (hown0.alloc _) ⟨w.heap.size + 1, 0, none⟩ 1 1 (cells spare) rfl rfl ?c1 ?c2 ?c3 ?c4 ?c5 ?_))
  case c1 =>
    rw [← he]
    exact cell_three_new _ _ _ _ _
  case c2 => exact cells_one spare
  case c3 => unfold maxLen; omega
  case c4 => omega
  case c5 => simp; omega
  intro v2 w2 hown2 hgrow2 _
  have hB2 := below_step hB0 hown0 hgrow2
  obtain ⟨g, cap, rfl, hcap, hcap2⟩ := own_shape hown2 (by omega)
  have hO : Own w2 w.heap.size (.slice (some ⟨g, 0, none⟩) (([] : List Et).length + 1) cap) ([] ++ [spare]) := by
    unfold Own
    exact hown2
  have hR := hB2
  unfold maxLen at hcap2
  clear hown2 hgrow2 hB2 hB hown0
  go_wp2_with fail
  go_ret
  exact ⟨g, cap, rfl, hO, hR⟩
theorem Ents.take {w : World} {a : Option Addr} {n m : Nat} {l : List Et} (h : Ents w a n l) (hm : m ≤ n) : Ents w a m (l.take m) := by
  refine ⟨by rw [List.length_take, h.1]; omega, ?_⟩
  rcases h.2 with h0 | ⟨b, off, ha, hlt, hc⟩
  · exact .inl (by omega)
  · refine .inr ⟨b, off, ha, hlt, fun k x hx => hc k x ?_⟩
    rw [List.getElem?_take] at hx
    split at hx
    · exact hx
    · cases hx
set_option maxRecDepth 100000 in
set_option maxHeartbeats 1000000 in
theorem refHeld_any (g cap c n : Nat) (a : Option Addr) (l : List Et) (w : World) (hr : Ents w (some ⟨g, 0, none⟩) (n + 1) (l ++ [spare])) (ht : Ents w a n l) (hcap : n + 1 ≤ cap) (hcm : cap ≤ 9223372036854775807) (hn : n ≤ 1000000000000) :
    Calls Tryz.prog 15 #[.slice (some ⟨g, 0, none⟩) n cap, .slice a n c] w fun e w' => e = .returned (.bool true) ∧ Below w.heap.size w w' := by
  have hln := ht.1
  have h1 : Ents w (some ⟨g, 0, none⟩) n l := by
    have := hr.take (m := n) (by omega)
    rw [List.take_append_of_le_length (by omega), List.take_of_length_le (by omega)] at this
    exact this
  have cs := refSame_any (some ⟨g, 0, none⟩) a n n cap c l l w h1 ht (by omega) (by omega)
  obtain ⟨b, off, hb0, hb, hc⟩ := hr.2.resolve_left (by omega)
  injection hb0 with hb0
  injection hb0 with hg ho _
  subst hg
  subst ho
  have h3 := (hc n spare (by rw [List.getElem?_append_right (by omega), hln, Nat.sub_self]; rfl)).1
  unfold spare at h3
  simp only at h3
  rw [Nat.zero_add] at h3
  clear hc ht hr h1 hln
  go_enter Tryz.func15, Tryz.ntmps15
  go_wp2_with fail
  go_at_call 24
  refine cs.mono ?_
  rintro e w1 ⟨B, hB, rfl, hbl⟩
  obtain rfl := hB.2 rfl
  have h4 := (hbl.cell (p := ⟨g, _, none⟩) hb).trans h3
  have hn1 : (n : Int) < (n : Int) + 1 := by omega
  clear h3 cs
  go_wp2_with fail
  go_ret
  exact ⟨rfl, hbl⟩
end Go.Proofs.YtkenmldiojeooaaGreat.En

namespace Go.Proofs.YtkenmldiojeooaaGreat.En
open Go.RowKit Tx
set_option linter.unusedVariables false
section
variable {P : Program} (w : World)
theorem wp_own {o : Oper} {a : Act} {K : Act → World → Prop} {Q : Exit → Act → World → Prop} (s x : Operand) (t : TypeId)
    (ho : o.op = .call { callee := .builtin .append, args := #[s, x], argTypes := #[t, t] })
    (base : Nat) (e : TypeId) (i : TypeInfo) (z : Value) (size bytes : Nat) (ht : P.underlying t = some (.slice e)) (hi : P.info? e = some i) (hz : i.zero = some z)
    (hsize : i.size = size) (hby : i.bytes = bytes) (hzs : z.cells.size = size) (hsz : 0 < size)
    (v : Value) (n : Nat) (xs : List Value) (hs : a.eval s = v) (hown : w.ownsRow base e size v n xs)
    (ad : Addr) (m c : Nat) (news : List Value) (hx : a.eval x = .slice (some ad) m c) (hl : news.length = m * size) (hnews : ∀ j u, news[j]? = some u → w.cell? (ad.add j) = some u) (h1 : ∀ u ∈ news, u.oneCell' = true)
    (h63 : n + m ≤ maxLen) (hbytes : (n + m) * bytes ≤ 140737488355328) (hbase : base ≤ w.heap.size)
    (h : ∀ v' w', w'.ownsRow base e size v' (n + m) (xs ++ news) → w.grownBy w' v.ownBlock → K (a.put o.dst v') w') : o.wp P a w K Q := by
  obtain ⟨v', w', hr, h2, h3, h4⟩ := run_append_own (P := P) w base t o.type e i z size bytes ht hi hz hsize hby hzs hsz v n xs hown ad m c news hl hnews h1 h63 hbytes hbase
  unfold Oper.wp execOp
  simp only [ho, resolve, invoke, builtin, Sem.run_bind, Sem.run_pure, Result.andThen_ok, List.map_toArray, List.map_cons, List.map_nil, hs, hx, hr]
  exact h v' w' h2 h3
theorem step_own {ops : Array Oper} {o : Oper} {a : Act} {K : Act → World → Prop} {Q : Exit → Act → World → Prop} {E : Prop} (hgd : o.guard = none) (s x : Operand) (t : TypeId)
    (ho : o.op = .call { callee := .builtin .append, args := #[s, x], argTypes := #[t, t] })
    (base : Nat) (e : TypeId) (i : TypeInfo) (z : Value) (size bytes : Nat) (ht : P.underlying t = some (.slice e)) (hi : P.info? e = some i) (hz : i.zero = some z)
    (hsize : i.size = size) (hby : i.bytes = bytes) (hzs : z.cells.size = size) (hsz : 0 < size)
    (v : Value) (n : Nat) (xs : List Value) (hs : a.eval s = v) (hown : w.ownsRow base e size v n xs)
    (ad : Addr) (m c : Nat) (news : List Value) (hx : a.eval x = .slice (some ad) m c) (hl : news.length = m * size) (hnews : ∀ j u, news[j]? = some u → w.cell? (ad.add j) = some u) (h1 : ∀ u ∈ news, u.oneCell' = true)
    (h63 : n + m ≤ maxLen) (hbytes : (n + m) * bytes ≤ 140737488355328) (hbase : base ≤ w.heap.size)
    (h : ∀ v' w', w'.ownsRow base e size v' (n + m) (xs ++ news) → w.grownBy w' v.ownBlock → K (a.put o.dst v') w') :
    if Region.wanted o (yielded ops a.tmps) = true then Oper.wp P o a w K Q else E := by
  have hw : Region.wanted o (yielded ops a.tmps) = true := by simp [Region.wanted, hgd]
  rw [if_pos hw]
  exact wp_own w s x t ho base e i z size bytes ht hi hz hsize hby hzs hsz v n xs hs hown ad m c news hx hl hnews h1 h63 hbytes hbase h
end
def less (a b : ByteArray) : Bool := Op.bytesLess a.toList b.toList
def insAt (x : Et) : List Et → List Et
  | [] => [x]
  | y :: l => if less y.path x.path = true then y :: insAt x l else x :: y :: l
def tsort (l : List Et) : List Et := l.foldl (fun o x => insAt x o) []
theorem insAt_len (x : Et) : ∀ l : List Et, (insAt x l).length = l.length + 1
  | [] => rfl
  | y :: l => by
    rw [insAt]
    split
    · rw [List.length_cons, insAt_len x l, List.length_cons]
    · rfl
theorem tsort_snoc (l : List Et) (x : Et) : tsort (l ++ [x]) = insAt x (tsort l) := by
  rw [tsort, List.foldl_append]
  rfl
theorem tsort_take (l : List Et) (k : Nat) (x : Et) (h : l[k]? = some x) : tsort (l.take (k + 1)) = insAt x (tsort (l.take k)) := by
  obtain ⟨hk, he⟩ := List.getElem?_eq_some_iff.1 h
  rw [List.take_succ_eq_append_getElem hk, he, tsort_snoc]
theorem tsort_len (l : List Et) : (tsort l).length = l.length := by
  have : ∀ (l o : List Et), (l.foldl (fun o x => insAt x o) o).length = o.length + l.length := by
    intro l
    induction l with
    | nil => intro o; rfl
    | cons x l ih => intro o; rw [List.foldl_cons, ih, insAt_len, List.length_cons]; omega
  rw [tsort, this]
  simp
theorem insAt_at (x : Et) : ∀ (l : List Et) (k : Nat), k ≤ l.length → (∀ y ∈ l.take k, less y.path x.path = true) → (∀ y, l[k]? = some y → less y.path x.path = false) → insAt x l = l.take k ++ x :: l.drop k
  | [], k, hk, _, _ => by simp [insAt]
  | y :: l, 0, _, _, h => by
    rw [insAt, if_neg (by rw [h y rfl]; simp)]
    rfl
  | y :: l, k + 1, hk, h1, h2 => by
    rw [insAt, if_pos (h1 y (by simp)), insAt_at x l k (by simpa using hk) (fun z hz => h1 z (by simp [hz])) (fun z hz => h2 z (by simpa using hz))]
    rfl
theorem own_paths {w : World} {B g n cap : Nat} {T : List Et} (h : Own w B (.slice (some ⟨g, 0, none⟩) n cap) T) : g < w.heap.size ∧ ∀ m y, T[m]? = some y → w.cell? ⟨g, m * 3, none⟩ = some (.string y.path) := by
  rcases h.2 with ⟨h0, _⟩ | ⟨g', cap', cur, hv, hg, hh2, hn, hc, _⟩
  · cases h0
  · injection hv with hv
    injection hv with hv
    injection hv with hv
    subst hv
    refine ⟨(Array.getElem?_eq_some_iff.1 hh2).1, fun m y hy => ?_⟩
    have h1 := World.ownsRow.cells h (g := g) rfl (m * 3 + 0) (.string y.path) (flat_at T m y 0 hy (by omega))
    rw [WideShapes.add_plain, Nat.zero_add, Nat.add_zero] at h1
    exact h1
theorem below_drewN {B : Nat} {a w : World} (h : Below B a w) (n : Nat) : Below B a (w.drewN n) := ⟨h.os, h.tape, h.output, h.size, h.block⟩
theorem own_of {w : World} {B n : Nat} {v : Value} {L : List Et} (h : w.ownsRow B 50 3 v n (L.flatMap cells)) (hL : L.length = n) : Own w B v L := by
  unfold Own
  rw [hL]
  exact h
theorem own_other {w w1 : World} {B g n cap : Nat} {T : List Et} {r : Option Nat} (h : Own w B (.slice (some ⟨g, 0, none⟩) n cap) T) (hg : w.grownBy w1 r) (hne : r ≠ some g) : Own w1 B (.slice (some ⟨g, 0, none⟩) n cap) T := by
  refine ⟨h.1, ?_⟩
  rcases h.2 with h0 | ⟨g', cap', cur, hv, hg', hh, r'⟩
  · exact .inl h0
  · refine .inr ⟨g', cap', cur, hv, hg', (hg.block g' (Array.getElem?_eq_some_iff.1 hh).1 ?_).trans hh, r'⟩
    injection hv with hv
    injection hv with hv
    injection hv with hv
    rw [← hv]
    intro e
    exact hne e.symm
theorem own_some {w : World} {B n : Nat} {v : Value} {xs : List Value} (h : w.ownsRow B 50 3 v n xs) (hne : ¬ v = .slice none 0 0) : ∃ g cap, v = .slice (some ⟨g, 0, none⟩) n cap ∧ B ≤ g := by
  rcases h.2 with ⟨h0, _⟩ | ⟨g, cap, cur, hv, hg, _⟩
  · exact absurd h0 hne
  · exact ⟨g, cap, hv, hg⟩
theorem own_flat {w : World} {B g n cap m : Nat} {T : List Et} (h : Own w B (.slice (some ⟨g, 0, none⟩) n cap) T) : ∀ j u, ((T.drop m).flatMap cells)[j]? = some u → w.cell? ((⟨g, m * 3, none⟩ : Addr).add j) = some u := by
  obtain ⟨a', c', hv', he, _, _⟩ := Own.form h
  injection hv' with h1 h2 h3
  subst h1
  rcases he.2 with h | ⟨b', off', hb', hlt', hc'⟩
  · intro j u hj
    have : T = [] := List.length_eq_zero_iff.1 h
    subst this
    simp at hj
  · injection hb' with hb'
    injection hb' with h4 h5
    subst h4
    subst h5
    apply ents_flat
    intro k x hx
    have := hc' (m + k) x (by rw [List.getElem?_drop] at hx; exact hx)
    rw [Nat.zero_add, Nat.add_mul] at this
    exact this
theorem own_flat_whole {w : World} {B g n cap : Nat} {T : List Et} (h : Own w B (.slice (some ⟨g, 0, none⟩) n cap) T) : ∀ j u, (T.flatMap cells)[j]? = some u → w.cell? ((⟨g, 0, none⟩ : Addr).add j) = some u := by
  have := own_flat (m := 0) h
  rw [Nat.zero_mul, List.drop_zero] at this
  exact this
theorem own_flat_take {w : World} {B g n cap m : Nat} {T : List Et} (h : Own w B (.slice (some ⟨g, 0, none⟩) n cap) T) : ∀ j u, ((T.take m).flatMap cells)[j]? = some u → w.cell? ((⟨g, 0, none⟩ : Addr).add j) = some u := by
  intro j u hj
  have := own_flat (m := 0) h j u (by
    rw [List.drop_zero]
    conv => lhs; rw [← List.take_append_drop m T, List.flatMap_append]
    rw [List.getElem?_append_left (List.getElem?_eq_some_iff.1 hj).1]
    exact hj)
  rw [Nat.zero_mul] at this
  exact this
theorem row_below {w w1 : World} {B n : Nat} {v : Value} {xs : List Value} (h : w.ownsRow B 50 3 v n xs) (hb : Below w.heap.size w w1) : w1.ownsRow B 50 3 v n xs := by
  refine ⟨h.1, ?_⟩
  rcases h.2 with h0 | ⟨g', cap', cur, hv, hg, hh, r⟩
  · exact .inl h0
  · exact .inr ⟨g', cap', cur, hv, hg, (hb.block g' (Array.getElem?_eq_some_iff.1 hh).1).trans hh, r⟩
theorem row_base {w : World} {B C n : Nat} {v : Value} {xs : List Value} (h : w.ownsRow C 50 3 v n xs) (hB : B ≤ C) : w.ownsRow B 50 3 v n xs := by
  refine ⟨h.1, ?_⟩
  rcases h.2 with h0 | ⟨g', cap', cur, hv, hg, r⟩
  · exact .inl h0
  · exact .inr ⟨g', cap', cur, hv, Nat.le_trans hB hg, r⟩
theorem grow_below {w0 w w1 : World} {B n : Nat} {v : Value} {xs : List Value} (hb : Below B w0 w) (hs : B ≤ w.heap.size) (h : w.ownsRow B 50 3 v n xs) (hg : w.grownBy w1 v.ownBlock) : Below B w0 w1 :=
  hb.grown hg hs (fun k hk => (h.lt k hk).1)
theorem laid_far {w w1 : World} {x y z : Value} {t : TypeId} {v : Value} (hlt : ∀ k, v.ownBlock = some k → k < w.heap.size) (hg : (w.alloc (.cells #[x, y, z] t)).grownBy w1 v.ownBlock) : ∀ j u, [x, y, z][j]? = some u → w1.cell? ((⟨w.heap.size, 0, none⟩ : Addr).add j) = some u := by
  intro j u hj
  have h := cell_three_new w x y z t j u hj
  have hk := hg.block w.heap.size (by simp) (fun e => by have := hlt _ e.symm; omega)
  rw [WideShapes.add_plain] at h ⊢
  exact (World.cell?_of_block (a := ⟨w.heap.size, _, none⟩) hk).trans h
theorem made_c (wc : World) (X : Obj) : ((wc.alloc X).alloc (.cells #[] 50)).drew.ownsRow wc.heap.size 50 3 (.slice (some ⟨wc.heap.size + 1, 0, none⟩) 0 0) 0 [] := by
  have h := World.ownsRow_made (base := wc.heap.size) (e := 50) (size := 3) (wc.alloc X) #[] 0 (by simp) (Nat.zero_le _) rfl
  have e : (wc.alloc X).heap.size = wc.heap.size + 1 := by simp
  rw [e] at h
  exact row_below h (Below.refl _ _).drew
theorem below_c (wc : World) (X : Obj) : Below wc.heap.size wc ((wc.alloc X).alloc (.cells #[] 50)).drew :=
  (((Below.refl _ wc).alloc (Nat.le_refl _) X).alloc (by simp) _).drew
theorem laid_first {wc w1 : World} {x y z : Value} {t : TypeId} {n c : Nat} {o : Obj} (hg : ((wc.alloc (.cells #[x, y, z] t)).alloc o).drew.grownBy w1 (Value.slice (some ⟨wc.heap.size + 1, 0, none⟩) n c).ownBlock) : ∀ j u, [x, y, z][j]? = some u → w1.cell? ((⟨wc.heap.size, 0, none⟩ : Addr).add j) = some u := by
  intro j u hj
  have h := cell_three_new wc x y z t j u hj
  have hb : Below (wc.alloc (.cells #[x, y, z] t)).heap.size (wc.alloc (.cells #[x, y, z] t)) ((wc.alloc (.cells #[x, y, z] t)).alloc o).drew := ((Below.refl _ _).alloc (Nat.le_refl _) o).drew
  have hk := hg.block wc.heap.size (by simp; omega) (fun e => by
    have e : some wc.heap.size = some (wc.heap.size + 1) := e
    injection e with e
    omega)
  rw [WideShapes.add_plain] at h ⊢
  exact (World.cell?_of_block (a := ⟨wc.heap.size, _, none⟩) hk).trans ((hb.cell (p := ⟨wc.heap.size, _, none⟩) (by simp)).trans h)
theorem laid_keep (wc : World) (x y z : Value) (t : TypeId) (o : Obj) : ∀ j u, [x, y, z][j]? = some u → ((wc.alloc (.cells #[x, y, z] t)).alloc o).drew.cell? ((⟨wc.heap.size, 0, none⟩ : Addr).add j) = some u := by
  intro j u hj
  have h := cell_three_new wc x y z t j u hj
  have hb : Below (wc.alloc (.cells #[x, y, z] t)).heap.size (wc.alloc (.cells #[x, y, z] t)) ((wc.alloc (.cells #[x, y, z] t)).alloc o).drew := ((Below.refl _ _).alloc (Nat.le_refl _) o).drew
  rw [WideShapes.add_plain] at h ⊢
  exact (hb.cell (p := ⟨wc.heap.size, _, none⟩) (by simp)).trans h
def SortTo (l : List Et) (w : World) (e : Ending) (w' : World) : Prop := ∃ v, e = .returned v ∧ Own w' w.heap.size v (tsort l) ∧ Below w.heap.size w w'
set_option maxRecDepth 100000 in
set_option maxHeartbeats 4000000 in
theorem refSort_any (a : Option Addr) (n c : Nat) (l : List Et) (w : World) (hl : Ents w a n l) (hn : n ≤ 1000000000000) :
    Calls Tryz.prog 29 #[.slice a n c] w (SortTo l w) := by
  obtain ⟨i0, hi, hz0, hz1, hz2⟩ := info_parts infoE
  obtain ⟨hln, hc⟩ := hl
  by_cases h0 : n = 0
  · subst h0
    obtain rfl : l = [] := List.length_eq_zero_iff.1 hln
    clear hc
    go_enter Tryz.func29, Tryz.ntmps29
    go_wp2
    go_loop [3, 4] (fun v i => i = .int .i64 0 ∧ v = .slice none 0 0) (fun _ _ => 0)
    case atStart => exact ⟨rfl, rfl⟩
    case round =>
      obtain ⟨rfl, rfl⟩ := hrel
      go_wp2
      go_ret
      exact ⟨_, rfl, World.ownsRow_nil _ _ _ _, Below.refl _ _⟩
  · obtain ⟨b, off, rfl, hb, hc⟩ := hc.resolve_left h0
    have HC := Lib.hid hc
    clear hc h0
    go_enter Tryz.func29, Tryz.ntmps29
    go_wp2
    go_loopw [3, 4] (fun v i wr => ∃ k : Nat, k ≤ n ∧ i = .int .i64 k ∧ (k = 0 → v = .slice none 0 0) ∧ Own wr w.heap.size v (tsort (l.take k)) ∧ Below w.heap.size w wr) (fun _ i _ => n - (intOf i).toNat)
    case atStart => exact ⟨0, Nat.zero_le _, rfl, fun _ => rfl, World.ownsRow_nil _ _ _ _, Below.refl _ _⟩
    case round =>
      obtain ⟨k, hk, rfl, hk0, hown, hB⟩ := hrel
      by_cases hlt : k < n
      · obtain ⟨x, hx⟩ : ∃ x, l[k]? = some x := ⟨_, List.getElem?_eq_getElem (by omega)⟩
        have hnext := tsort_take l k x hx
        have hT : (tsort (l.take k)).length = k := by rw [tsort_len, List.length_take]; omega
        obtain ⟨c1, c2, c3⟩ := HC.out k x hx
        have d1 := (hB.cell (p := ⟨b, _, none⟩) hb).trans c1
        have d2 := (hB.cell (p := ⟨b, _, none⟩) hb).trans c2
        have d3 := (hB.cell (p := ⟨b, _, none⟩) hb).trans c3
        obtain ⟨T, hTe⟩ : ∃ T, T = tsort (l.take k) := ⟨_, rfl⟩
        rw [← hTe] at hnext hT hown
        have HN := Lib.hid hnext
        have HX1 := Lib.hid c1
        have HX2 := Lib.hid c2
        have HX3 := Lib.hid c3
        clear hnext hTe c1 c2 c3 hx
        by_cases hk1 : k = 0
        · obtain rfl := hk0 hk1
          subst hk1
          obtain rfl : T = [] := List.length_eq_zero_iff.1 hT
          clear hk0 hT hown
          go_upto_block 2 with fail
          go_cut [5] from 7 to 49 (fun i wq => i = .int .i64 0 ∧ Below w.heap.size w wq)
          case first =>
            go_wp2_with fail
            go_loopw [5] (fun i wq => i = .int .i64 0 ∧ Below w.heap.size w wq) (fun _ _ => 0)
            case atStart => exact ⟨rfl, hB⟩
            case round =>
              obtain ⟨rfl, hB⟩ := hrel
              go_wp2_with fail
              go_quiet (fail)
              go_wp2
              go_meet
              exact ⟨rfl, below_drewN hB nq⟩
          case rest =>
            clear hB
            obtain ⟨rfl, hB⟩ := hcut
            go_upto_region 8 with fail
            go_cut [6] from 7 to 49 (fun vr wq => ∃ gr, vr = .slice (some ⟨gr, 0, none⟩) 0 0 ∧ Below w.heap.size w wq)
            case first =>
              have hB1 := hB.alloc hB.size (.cells #[] 50)
              go_wp2_with fail
              go_meet
              exact ⟨_, rfl, hB1⟩
            case rest =>
              clear hB
              obtain ⟨gr, rfl, hB⟩ := hcut
              have hbw : b < wc.heap.size := Nat.lt_of_lt_of_le hb hB.size
              have h1 := HX1.out
              have h2 := HX2.out
              have h3 := HX3.out
              rw [Nat.zero_mul, Nat.add_zero] at h1 h2 h3
              have hx1 : ∀ W, Below wc.heap.size wc W → W.cell? ⟨b, off, none⟩ = some (.string x.path) := fun W hW => (hW.cell (p := ⟨b, _, none⟩) hbw).trans ((hB.cell (p := ⟨b, _, none⟩) hb).trans h1)
              have hx2 : ∀ W, Below wc.heap.size wc W → W.cell? ⟨b, off + 1, none⟩ = some (.int .i64 x.node.kind) := fun W hW => (hW.cell (p := ⟨b, _, none⟩) hbw).trans ((hB.cell (p := ⟨b, _, none⟩) hb).trans h2)
              have hx3 : ∀ W, Below wc.heap.size wc W → W.cell? ⟨b, off + 1 + 1, none⟩ = some (.string x.node.data) := fun W hW => (hW.cell (p := ⟨b, _, none⟩) hbw).trans ((hB.cell (p := ⟨b, _, none⟩) hb).trans h3)
              have hown0 := World.ownsRow_made (base := wc.heap.size) (e := 50) (size := 3) wc #[] 0 (Nat.le_refl _) (Nat.zero_le _) rfl
              have hb0 : Below wc.heap.size wc (wc.alloc (.cells #[] 50)).drew := ((Below.refl _ wc).alloc (Nat.le_refl _) _).drew
              have hs0 : wc.heap.size ≤ (wc.alloc (.cells #[] 50)).drew.heap.size := hb0.size
              have hown0' := row_below hown0 (Below.refl _ (wc.alloc (.cells #[] 50))).drew
              have hcx1 := cell_three_new (wc.alloc (.cells #[] 50)).drew (.string x.path) (.int .i64 x.node.kind) (.string x.node.data) 50
              have hcx2 := laid_keep wc (.string x.path) (.int .i64 x.node.kind) (.string x.node.data) 50 (.cells #[] 50)
              have hsz0 : (wc.alloc (.cells #[] 50)).drew.heap.size = wc.heap.size + 1 := by simp
              rw [hsz0] at hcx1
              have e1 := hx1 _ hb0
              have e2 := hx2 _ hb0
              have e3 := hx3 _ hb0
              have f1 := hx1 wc (Below.refl _ _)
              have f2 := hx2 wc (Below.refl _ _)
              have f3 := hx3 wc (Below.refl _ _)
              go_wp2_with fail
              go_region_law (first
                | (refine step_own _ rfl (.tmp 41) (.tmp 46) 22 rfl wc.heap.size 50 i0 (.agg #[.string ⟨#[]⟩, .int .i64 0, .string ⟨#[]⟩]) 3 40 Tryz.underlying22 hi hz0 hz1 hz2 rfl (by decide) _ _ _ rfl (hown0'.alloc (.cells #[.string x.path, .int .i64 x.node.kind, .string x.node.data] 50)) ⟨wc.heap.size + 1, 0, none⟩ 1 1 (cells x) rfl rfl hcx1 (cells_one x) (by decide) (by decide) (hb0.alloc hs0 _).size ?_; intro v2 w2 hown2 hgrow2; have hb2 := grow_below (hb0.alloc hs0 _) (hb0.alloc hs0 _).size (hown0'.alloc _) hgrow2; have hs2 := hb2.size)
                | (refine step_own _ rfl (.tmp 41) (.tmp 46) 22 rfl wc.heap.size 50 i0 (.agg #[.string ⟨#[]⟩, .int .i64 0, .string ⟨#[]⟩]) 3 40 Tryz.underlying22 hi hz0 hz1 hz2 rfl (by decide) _ _ _ rfl (made_c wc (.cells #[.string x.path, .int .i64 x.node.kind, .string x.node.data] 50)) ⟨wc.heap.size, 0, none⟩ 1 1 (cells x) rfl rfl hcx2 (cells_one x) (by decide) (by decide) (below_c wc (.cells #[.string x.path, .int .i64 x.node.kind, .string x.node.data] 50)).size ?_; intro v2 w2 hown2 hgrow2; have hb2 := grow_below (below_c wc (.cells #[.string x.path, .int .i64 x.node.kind, .string x.node.data] 50)) (below_c wc (.cells #[.string x.path, .int .i64 x.node.kind, .string x.node.data] 50)).size (made_c wc (.cells #[.string x.path, .int .i64 x.node.kind, .string x.node.data] 50)) hgrow2; have hs2 := hb2.size)
                | (refine step_own _ rfl (.tmp 47) (.tmp 48) 22 rfl wc.heap.size 50 i0 (.agg #[.string ⟨#[]⟩, .int .i64 0, .string ⟨#[]⟩]) 3 40 Tryz.underlying22 hi hz0 hz1 hz2 rfl (by decide) _ _ _ rfl hown2 ⟨gr, 0, none⟩ 0 0 [] rfl rfl (fun j u hj => by cases hj) (fun u hu => by cases hu) (by decide) (by decide) hs2 ?_; intro v3 w3 hown3 hgrow3; have hb3 := grow_below hb2 hs2 hown2 hgrow3))
              all_goals
                have hO : Own w3 w.heap.size v3 (insAt x []) := own_of (row_base hown3 hB.size) rfl
                have hB3 : Below w.heap.size w w3 := hB.trans (hb3.mono hB.size)
                clear hB hown0 hown0' hown2 hgrow2 hown3 hgrow3 hx1 hx2 hx3 hb0 hb2 hb3 f1 f2 f3 e1 e2 e3 hcx1 hcx2
                go_wp2_with fail
                go_roundw
                case rel => exact ⟨1, by omega, by go_num, fun h => by omega, by rw [HN.out]; exact hO, hB3⟩
                case measure => simp [intOf]; omega
        · obtain ⟨g, cap, hv, hkc, hcm⟩ := own_shape (n := T.length) hown (by omega)
          subst hv
          rw [hT] at hown ⊢
          go_upto_block 2 with fail
          go_cut [5] from 7 to 49 (fun i wq => ∃ m : Nat, m ≤ k ∧ i = .int .i64 m ∧ Hid (insAt x T = T.take m ++ x :: T.drop m) ∧ Own wq w.heap.size (.slice (some ⟨g, 0, none⟩) k cap) T ∧ Below w.heap.size w wq)
          case first =>
            go_wp2_with fail
            go_loopw [5] (fun i wq => ∃ m : Nat, m ≤ k ∧ i = .int .i64 m ∧ Hid (∀ y ∈ T.take m, less y.path x.path = true) ∧ Own wq w.heap.size (.slice (some ⟨g, 0, none⟩) k cap) T ∧ Below w.heap.size w wq) (fun i _ => k - (intOf i).toNat)
            case atStart => exact ⟨0, Nat.zero_le _, rfl, fun y hy => by simp at hy, hown, hB⟩
            case round =>
              obtain ⟨m, hm, rfl, hpre, hown, hB⟩ := hrel
              obtain ⟨hbg, hcell⟩ := own_paths hown
              have d1 := (hB.cell (p := ⟨b, _, none⟩) hb).trans HX1.out
              have d2 := (hB.cell (p := ⟨b, _, none⟩) hb).trans HX2.out
              have d3 := (hB.cell (p := ⟨b, _, none⟩) hb).trans HX3.out
              have go : (m < k ∧ ∃ y, T[m]? = some y ∧ less y.path x.path = true) ∨ (insAt x T = T.take m ++ x :: T.drop m ∧ ((m < k ∧ ∃ y, T[m]? = some y ∧ less y.path x.path = false) ∨ ¬ m < k)) := by
                by_cases hmk : m < k
                · obtain ⟨y, hy⟩ : ∃ y, T[m]? = some y := ⟨_, List.getElem?_eq_getElem (by omega)⟩
                  cases hless : less y.path x.path
                  · right
                    exact ⟨insAt_at x T m (by omega) hpre.out (fun z hz => by rw [hy] at hz; injection hz with hz; rw [← hz]; exact hless), .inl ⟨hmk, y, hy, hless⟩⟩
                  · left
                    exact ⟨hmk, y, hy, hless⟩
                · right
                  exact ⟨insAt_at x T m (by omega) hpre.out (fun z hz => by rw [List.getElem?_eq_none (by omega)] at hz; cases hz), .inr hmk⟩
              rcases go with ⟨hmk, y, hy, hless⟩ | ⟨hins, hex⟩
              · have e1 := hcell m y hy
                unfold less at hless
                have hnp : ∀ z ∈ T.take (m + 1), less z.path x.path = true := by
                  intro z hz
                  have hm2 : m < T.length := by omega
                  rw [List.take_succ_eq_append_getElem hm2] at hz
                  rcases List.mem_append.1 hz with hz | hz
                  · exact hpre.out z hz
                  · rw [List.getElem?_eq_getElem hm2] at hy
                    injection hy with hy
                    rw [List.mem_singleton.1 hz, hy]
                    exact hless
                have HP := Lib.hid hnp
                clear hnp hpre hcell
                go_wp2_with fail
                go_quiet (fail)
                have hO2 := hown.below (below_drewN (Below.refl _ _) nq)
                go_wp2
                go_roundw
                case rel => exact ⟨m + 1, by omega, by go_num, HP, hO2, below_drewN hB nq⟩
                case measure => simp [intOf]; omega
              · have HI := Lib.hid hins
                clear hins hpre
                rcases hex with ⟨hmk, y, hy, hless⟩ | hmk
                · have e1 := hcell m y hy
                  unfold less at hless
                  clear hcell
                  go_wp2_with fail
                  go_quiet (fail)
                  have hO2 := hown.below (below_drewN (Below.refl _ _) nq)
                  go_wp2
                  go_meet
                  exact ⟨m, hm, rfl, HI, hO2, below_drewN hB nq⟩
                · have hdec : decide ((m : Int) < (k : Int)) = false := decide_eq_false (by omega)
                  clear hcell
                  go_wp2_with fail
                  go_quiet (fail)
                  have hO2 := hown.below (below_drewN (Below.refl _ _) nq)
                  go_wp2
                  go_meet
                  exact ⟨m, hm, rfl, HI, hO2, below_drewN hB nq⟩
          case rest =>
            clear hown hB
            obtain ⟨m, hm, rfl, HI, hown, hB⟩ := hcut
            go_upto_region 8 with fail
            go_cut [6] from 7 to 49 (fun vr wq => ∃ gr capr, vr = .slice (some ⟨gr, 0, none⟩) (k - m) capr ∧ Own wq w.heap.size vr (T.drop m) ∧ Own wq w.heap.size (.slice (some ⟨g, 0, none⟩) k cap) T ∧ Below w.heap.size w wq)
            case first =>
              have hsz := hB.size
              have hown0 := World.ownsRow_made (base := w.heap.size) (e := 50) (size := 3) wc #[] 0 hsz (Nat.zero_le _) rfl
              have hdl : (T.drop m).length = k - m := by rw [List.length_drop, hT]
              have hfl2 := flat_len (T.drop m)
              rw [hdl] at hfl2
              obtain ⟨hbg, _⟩ := own_paths hown
              have hne : some g ≠ some wc.heap.size := by intro h; injection h with h; omega
              by_cases hmk : m < k
              · have hfl : Hid (∀ o j u, ((T.drop m).flatMap cells)[j]? = some u → (wc.alloc o).cell? ((⟨g, m * 3, none⟩ : Addr).add j) = some u) := by
                  intro o
                  have h := hown.below ((Below.refl _ wc).alloc (Nat.le_refl _) o)
                  exact own_flat h
                go_wp2_with (at_builtin; refine wpList_append_own _ rfl _ _ 22 rfl w.heap.size 50 i0 (.agg #[.string ⟨#[]⟩, .int .i64 0, .string ⟨#[]⟩]) 3 40 Tryz.underlying22 hi hz0 hz1 hz2 rfl (by decide) _ _ _ rfl hown0 ⟨g, m * 3, none⟩ (k - m) (cap - m) ((T.drop m).flatMap cells) rfl hfl2 ?c1 ?c2 ?c3 ?c4 ?c5 ?_)
                case c1 => exact hfl.out _
                case c2 => exact flat_one _
                case c3 => unfold maxLen; omega
                case c4 => omega
                case c5 => simp; omega
                intro v' w1 hown1 hgrow1 hiff
                have hB1 : Below w.heap.size w w1 := (hB.alloc hsz _).grown hgrow1 (by simp; omega) (fun k hk => (hown0.lt k hk).1)
                obtain ⟨gr, capr, rfl, _⟩ := own_some hown1 hiff
                have hr := own_of hown1 hdl
                have hT2 := own_other (hown.below ((Below.refl _ wc).alloc (Nat.le_refl _) _)) hgrow1 (fun h => hne h.symm)
                clear hown hown0 hown1 hgrow1 hfl hfl2 hB
                go_wp2_with fail
                go_meet
                exact ⟨gr, capr, rfl, hr, hT2, hB1⟩
              · obtain rfl : m = k := by omega
                have hd0 : T.drop m = [] := List.drop_eq_nil_of_le (by omega)
                have hT2 := hown.below ((Below.refl _ wc).alloc (Nat.le_refl _) (.cells #[] 50))
                have hB1 := hB.alloc hsz (.cells #[] 50)
                clear hown hB
                rcases Nat.eq_or_lt_of_le (show m ≤ cap by omega) with hc2 | hc2
                · subst hc2
                  go_wp2_with fail
                  go_meet
                  exact ⟨wc.heap.size, 0, by rw [Nat.sub_self], by rw [hd0]; exact own_of hown0 rfl, hT2, hB1⟩
                · have hc3 : ¬ cap = m := by omega
                  go_wp2_with fail
                  go_meet
                  exact ⟨wc.heap.size, 0, by rw [Nat.sub_self], by rw [hd0]; exact own_of hown0 rfl, hT2, hB1⟩
            case rest =>
              clear hown hB
              obtain ⟨gr, capr, rfl, hr, hown, hB⟩ := hcut
              have hmc : m ≤ cap := by omega
              have hdl : (T.drop m).length = k - m := by rw [List.length_drop, hT]
              have htl : (T.take m).length = m := by rw [List.length_take, hT]; omega
              have hf1 := flat_len (T.drop m)
              have hf2 := flat_len (T.take m)
              rw [hdl] at hf1
              rw [htl] at hf2
              have hgt : ∀ W, Below wc.heap.size wc W → ∀ j u, ((T.take m).flatMap cells)[j]? = some u → W.cell? ((⟨g, 0, none⟩ : Addr).add j) = some u := fun W hW => own_flat_take (hown.below hW)
              have hgd : ∀ W, Below wc.heap.size wc W → ∀ j u, ((T.drop m).flatMap cells)[j]? = some u → W.cell? ((⟨gr, 0, none⟩ : Addr).add j) = some u := fun W hW => own_flat_whole (hr.below hW)
              have hbw : b < wc.heap.size := Nat.lt_of_lt_of_le hb hB.size
              have hx1 : ∀ W, Below wc.heap.size wc W → W.cell? ⟨b, off + k * 3, none⟩ = some (.string x.path) := fun W hW => (hW.cell (p := ⟨b, _, none⟩) hbw).trans ((hB.cell (p := ⟨b, _, none⟩) hb).trans HX1.out)
              have hx2 : ∀ W, Below wc.heap.size wc W → W.cell? ⟨b, off + k * 3 + 1, none⟩ = some (.int .i64 x.node.kind) := fun W hW => (hW.cell (p := ⟨b, _, none⟩) hbw).trans ((hB.cell (p := ⟨b, _, none⟩) hb).trans HX2.out)
              have hx3 : ∀ W, Below wc.heap.size wc W → W.cell? ⟨b, off + k * 3 + 1 + 1, none⟩ = some (.string x.node.data) := fun W hW => (hW.cell (p := ⟨b, _, none⟩) hbw).trans ((hB.cell (p := ⟨b, _, none⟩) hb).trans HX3.out)
              have hown0 := World.ownsRow_made (base := wc.heap.size) (e := 50) (size := 3) wc #[] 0 (Nat.le_refl _) (Nat.zero_le _) rfl
              have hb0 : Below wc.heap.size wc (wc.alloc (.cells #[] 50)).drew := ((Below.refl _ wc).alloc (Nat.le_refl _) _).drew
              have hs0 : wc.heap.size ≤ (wc.alloc (.cells #[] 50)).drew.heap.size := hb0.size
              have hown0' := row_below hown0 (Below.refl _ (wc.alloc (.cells #[] 50))).drew
              have e1 := hx1 _ hb0
              have e2 := hx2 _ hb0
              have e3 := hx3 _ hb0
              have f1 := hx1 wc (Below.refl _ _)
              have f2 := hx2 wc (Below.refl _ _)
              have f3 := hx3 wc (Below.refl _ _)
              have hsz0 : (wc.alloc (.cells #[] 50)).drew.heap.size = wc.heap.size + 1 := by simp
              go_wp2_with fail
              go_region_law (first
                | (refine step_own _ rfl (.tmp 37) (.tmp 40) 22 rfl wc.heap.size 50 i0 (.agg #[.string ⟨#[]⟩, .int .i64 0, .string ⟨#[]⟩]) 3 40 Tryz.underlying22 hi hz0 hz1 hz2 rfl (by decide) _ _ _ rfl hown0' ⟨g, 0, none⟩ m cap ((T.take m).flatMap cells) rfl hf2 (hgt _ hb0) (flat_one _) (by unfold maxLen; omega) (by omega) hs0 ?_; intro v1 w1 hown1 hgrow1; have hb1 := grow_below hb0 hs0 hown0' hgrow1; have hs1 := hb1.size; have e1 := hx1 _ hb1; have e2 := hx2 _ hb1; have e3 := hx3 _ hb1)
                | (refine step_own _ rfl (.tmp 37) (.tmp 40) 22 rfl wc.heap.size 50 i0 (.agg #[.string ⟨#[]⟩, .int .i64 0, .string ⟨#[]⟩]) 3 40 Tryz.underlying22 hi hz0 hz1 hz2 rfl (by decide) _ _ _ rfl (hown0'.alloc (.cells #[.string x.path, .int .i64 x.node.kind, .string x.node.data] 50)) ⟨g, 0, none⟩ m cap ((T.take m).flatMap cells) rfl hf2 (hgt _ (hb0.alloc hs0 _)) (flat_one _) (by unfold maxLen; omega) (by omega) (hb0.alloc hs0 _).size ?_; intro v1 w1 hown1 hgrow1; have hb1 := grow_below (hb0.alloc hs0 _) (hb0.alloc hs0 _).size (hown0'.alloc _) hgrow1; have hs1 := hb1.size; have hcx := laid_far (fun k hk => (hown0'.lt k hk).2) hgrow1; rw [hsz0] at hcx)
                | (refine step_own _ rfl (.tmp 41) (.tmp 46) 22 rfl wc.heap.size 50 i0 (.agg #[.string ⟨#[]⟩, .int .i64 0, .string ⟨#[]⟩]) 3 40 Tryz.underlying22 hi hz0 hz1 hz2 rfl (by decide) _ _ _ rfl (hown1.alloc (.cells #[.string x.path, .int .i64 x.node.kind, .string x.node.data] 50)) ⟨w1.heap.size, 0, none⟩ 1 1 (cells x) rfl rfl (cell_three_new _ _ _ _ _) (cells_one x) (by unfold maxLen; omega) (by omega) (hb1.alloc hs1 _).size ?_; intro v2 w2 hown2 hgrow2; have hb2 := grow_below (hb1.alloc hs1 _) (hb1.alloc hs1 _).size (hown1.alloc _) hgrow2; have hs2 := hb2.size)
                | (refine step_own _ rfl (.tmp 41) (.tmp 46) 22 rfl wc.heap.size 50 i0 (.agg #[.string ⟨#[]⟩, .int .i64 0, .string ⟨#[]⟩]) 3 40 Tryz.underlying22 hi hz0 hz1 hz2 rfl (by decide) _ _ _ rfl hown1 ⟨wc.heap.size + 1, 0, none⟩ 1 1 (cells x) rfl rfl hcx (cells_one x) (by unfold maxLen; omega) (by omega) hs1 ?_; intro v2 w2 hown2 hgrow2; have hb2 := grow_below hb1 hs1 hown1 hgrow2; have hs2 := hb2.size)
                | (refine step_own _ rfl (.tmp 37) (.tmp 40) 22 rfl wc.heap.size 50 i0 (.agg #[.string ⟨#[]⟩, .int .i64 0, .string ⟨#[]⟩]) 3 40 Tryz.underlying22 hi hz0 hz1 hz2 rfl (by decide) _ _ _ rfl (made_c wc (.cells #[.string x.path, .int .i64 x.node.kind, .string x.node.data] 50)) ⟨g, 0, none⟩ m cap ((T.take m).flatMap cells) rfl hf2 (hgt _ (below_c wc (.cells #[.string x.path, .int .i64 x.node.kind, .string x.node.data] 50))) (flat_one _) (by unfold maxLen; omega) (by omega) (below_c wc (.cells #[.string x.path, .int .i64 x.node.kind, .string x.node.data] 50)).size ?_; intro v1 w1 hown1 hgrow1; have hb1 := grow_below (below_c wc (.cells #[.string x.path, .int .i64 x.node.kind, .string x.node.data] 50)) (below_c wc (.cells #[.string x.path, .int .i64 x.node.kind, .string x.node.data] 50)).size (made_c wc (.cells #[.string x.path, .int .i64 x.node.kind, .string x.node.data] 50)) hgrow1; have hs1 := hb1.size; have hcx := laid_first hgrow1)
                | (refine step_own _ rfl (.tmp 41) (.tmp 46) 22 rfl wc.heap.size 50 i0 (.agg #[.string ⟨#[]⟩, .int .i64 0, .string ⟨#[]⟩]) 3 40 Tryz.underlying22 hi hz0 hz1 hz2 rfl (by decide) _ _ _ rfl hown1 ⟨wc.heap.size, 0, none⟩ 1 1 (cells x) rfl rfl hcx (cells_one x) (by unfold maxLen; omega) (by omega) hs1 ?_; intro v2 w2 hown2 hgrow2; have hb2 := grow_below hb1 hs1 hown1 hgrow2; have hs2 := hb2.size)
                | (refine step_own _ rfl (.tmp 47) (.tmp 48) 22 rfl wc.heap.size 50 i0 (.agg #[.string ⟨#[]⟩, .int .i64 0, .string ⟨#[]⟩]) 3 40 Tryz.underlying22 hi hz0 hz1 hz2 rfl (by decide) _ _ _ rfl hown2 ⟨gr, 0, none⟩ (k - m) capr ((T.drop m).flatMap cells) rfl hf1 (hgd _ hb2) (flat_one _) (by unfold maxLen; omega) (by omega) hs2 ?_; intro v3 w3 hown3 hgrow3; have hb3 := grow_below hb2 hs2 hown2 hgrow3))
              all_goals
                have e4 : ([] ++ (T.take m).flatMap cells) ++ cells x ++ (T.drop m).flatMap cells = (T.take m ++ x :: T.drop m).flatMap cells := by
                  rw [List.flatMap_append, List.flatMap_cons, List.nil_append, List.append_assoc]
                have hO : Own w3 w.heap.size v3 (insAt x T) := by
                  rw [HI.out]
                  rw [e4] at hown3
                  exact own_of (row_base hown3 hB.size) (by rw [List.length_append, List.length_cons, hdl, htl]; omega)
                have hB3 : Below w.heap.size w w3 := hB.trans (hb3.mono hB.size)
                clear hown hr hB hown0 hown0' hown1 hgrow1 hown2 hgrow2 hown3 hgrow3 hx1 hx2 hx3 hgt hgd hb0 hb1 hb2 hb3 f1 f2 f3 e1 e2 e3 e4
                go_wp2_with fail
                go_roundw
                case rel => exact ⟨k + 1, by omega, by go_num, fun h => by omega, by rw [HN.out]; exact hO, hB3⟩
                case measure => simp [intOf]; omega
      · obtain rfl : k = n := by omega
        have he : l.take k = l := List.take_of_length_le (by omega)
        rw [he] at hown
        clear he HC
        go_wp2
        go_ret
        exact ⟨_, rfl, hown, hB⟩
end Go.Proofs.YtkenmldiojeooaaGreat.En

namespace Go.Proofs.YtkenmldiojeooaaGreat.En
open Go.RowKit Tx Pm Pr
set_option linter.unusedVariables false
end Go.Proofs.YtkenmldiojeooaaGreat.En

namespace Go.Proofs.YtkenmldiojeooaaGreat.En
open Go.RowKit Tx Pm Pr
set_option linter.unusedVariables false
theorem mem_insAt (x y : Et) : ∀ l : List Et, y ∈ insAt x l → y = x ∨ y ∈ l
  | [], h => by
    rw [insAt] at h
    exact .inl (List.mem_singleton.1 h)
  | z :: l, h => by
    rw [insAt] at h
    split at h
    · rcases List.mem_cons.1 h with h | h
      · exact .inr (by rw [h]; simp)
      · rcases mem_insAt x y l h with h | h
        · exact .inl h
        · exact .inr (List.mem_cons_of_mem _ h)
    · rcases List.mem_cons.1 h with h | h
      · exact .inl h
      · exact .inr h
theorem mem_tsort {y : Et} {l : List Et} (h : y ∈ tsort l) : y ∈ l := by
  have : ∀ (l o : List Et), y ∈ l.foldl (fun o x => insAt x o) o → y ∈ o ∨ y ∈ l := by
    intro l
    induction l with
    | nil => intro o h; exact .inl h
    | cons x l ih =>
      intro o h
      rw [List.foldl_cons] at h
      rcases ih _ h with h | h
      · rcases mem_insAt x y o h with h | h
        · exact .inr (by rw [h]; simp)
        · exact .inl h
      · exact .inr (List.mem_cons_of_mem _ h)
  rcases this l [] h with h | h
  · cases h
  · exact h
end Go.Proofs.YtkenmldiojeooaaGreat.En

namespace Go.Proofs.YtkenmldiojeooaaGreat.En
open Go.RowKit Tx Pm Pr
set_option linter.unusedVariables false
def told (la lb all : List Et) (i : Nat) : Prop := ∃ x, all[i]? = some x ∧ (i = 0 ∨ ∀ y, all[i - 1]? = some y → y.path ≠ x.path) ∧ tget la x.path ≠ tget lb x.path
theorem stop_none {P : Program} {w : World} {ops : Array Oper} {rest : List Oper} {o : Oper} {a : Act} {Q : Exit → Act → World → Prop} (hgd : o.guard = none) (s x : Operand) (t : TypeId)
    (ho : o.op = .call { callee := .builtin .append, args := #[s, x], argTypes := #[t, t] })
    (base : Nat) (e : TypeId) (i : TypeInfo) (size : Nat) (ht : P.underlying t = some (.slice e)) (hi : P.info? e = some i)
    (v : Value) (n : Nat) (xs : List Value) (hs : a.eval s = v) (hown : w.ownsRow base e size v n xs) (hx : a.eval x = .slice none 0 0)
    (h : ∀ v' w', w'.ownsRow base e size v' n xs → Below w.heap.size w w' → wpList P ops Q rest (a.put o.dst v') w') : wpList P ops Q (o :: rest) a w :=
  wpList_append_own_none hgd s x t ho base e i size ht hi v n xs hs hown hx (h v w hown (Below.refl _ _))
end Go.Proofs.YtkenmldiojeooaaGreat.En

namespace Go.Proofs.YtkenmldiojeooaaGreat.En
open Go.ChangeMaps (open_string shut_string)
open Go.ChangeShapes Go.WideShapes Go.ChangeAt Go.RowKit Tx
set_option linter.unusedVariables false
def dN {H : Type} (n : Nd) : DataW H := .agg [.lit (.int .i64 n.kind), .lit (.string n.data.data.toList)]
def dE {H : Type} (x : Et) : DataW H := .agg [.lit (.string x.path.data.toList), dN x.node]
theorem cells9 : Tryz.prog.cellsOf 9 = 1 := by kernel_rfl
theorem cells3 : Tryz.prog.cellsOf 3 = 1 := by kernel_rfl
theorem cellsN : Tryz.prog.cellsOf 33 = 2 := by kernel_rfl
theorem cellsE : Tryz.prog.cellsOf 50 = 3 := by kernel_rfl
theorem wf_int {k : Int} (h : (Lit.int .i64 k).wf = true) : isInt k := by
  unfold isInt
  simpa [Lit.wf, IntKind.min, IntKind.max, IntKind.signed, IntKind.bits] using h
theorem node_open {H : Type} {enc : TypeId × Value → H} {w : World} {base : Nat} {spare : Nat → Bool} {held : Bool} {m : Nat} {c1 c2 : Value} {y : DataW H × List MemPlace} (h : DataW.trod enc Tryz.prog w base spare held m 33 [c1, c2] = some y) :
    ∃ n : Nd, c1 = .int .i64 n.kind ∧ c2 = .string n.data ∧ y = (dN n, []) ∧ isInt n.kind ∧ n.data.size ≤ maxLen := by
  obtain ⟨ys, m2, _, hy, _, hyl, hf⟩ := DataW.trod_struct Tryz.underlying33 h
  have h0 := hf 0 _ rfl
  have h1 := hf 1 _ rfl
  match ys, hyl with
  | [y0, y1], _ =>
    have h0 : DataW.trod enc Tryz.prog w base spare held m2 3 (([c1, c2].drop 0).take (Tryz.prog.cellsOf 3)) = some y0 := h0
    have h1 : DataW.trod enc Tryz.prog w base spare held m2 9 (([c1, c2].drop 1).take (Tryz.prog.cellsOf 9)) = some y1 := h1
    rw [cells3] at h0
    rw [cells9] at h1
    obtain ⟨k, hk, hx0, hw⟩ := DataW.trod_int Tryz.underlying3 h0
    obtain ⟨s, hs, hx1, hl⟩ := DataW.trod_string Tryz.underlying9 h1
    simp at hk hs
    refine ⟨⟨k, s⟩, hk, hs, ?_, wf_int hw, hl⟩
    rw [hy, hx0, hx1]
    rfl
theorem ent_open {H : Type} {enc : TypeId × Value → H} {w : World} {base : Nat} {spare : Nat → Bool} {held : Bool} {m : Nat} {a : Addr} {cs' : List Value} {y : DataW H × List MemPlace} (hc : w.cells? base a 3 = some cs') (h : DataW.trod enc Tryz.prog w base spare held m 50 cs' = some y) :
    ∃ x : Et, w.cell? a = some (.string x.path) ∧ w.cell? (a.add 1) = some (.int .i64 x.node.kind) ∧ w.cell? (a.add 2) = some (.string x.node.data) ∧ y = (dE x, []) ∧ isInt x.node.kind ∧ x.path.size ≤ maxLen ∧ x.node.data.size ≤ maxLen := by
  obtain ⟨_, hcl, hat⟩ := World.cells?_some hc
  match cs', hcl with
  | [c0, c1, c2], _ =>
    obtain ⟨ys, m2, _, hy, _, hyl, hf⟩ := DataW.trod_struct Tryz.underlying50 h
    have h0 := hf 0 _ rfl
    have h1 := hf 1 _ rfl
    match ys, hyl with
    | [y0, y1], _ =>
      have h0 : DataW.trod enc Tryz.prog w base spare held m2 9 (([c0, c1, c2].drop 0).take (Tryz.prog.cellsOf 9)) = some y0 := h0
      have h1 : DataW.trod enc Tryz.prog w base spare held m2 33 (([c0, c1, c2].drop 1).take (Tryz.prog.cellsOf 33)) = some y1 := h1
      rw [cells9] at h0
      rw [cellsN] at h1
      obtain ⟨s, hs, hx0, hl⟩ := DataW.trod_string Tryz.underlying9 h0
      obtain ⟨n, hn1, hn2, hx1, hi, hl2⟩ := node_open h1
      simp at hs
      have a0 := hat 0 (by omega)
      have a1 := hat 1 (by omega)
      have a2 := hat 2 (by omega)
      refine ⟨⟨s, n⟩, ?_, ?_, ?_, ?_, hi, hl, hl2⟩
      · have e : a.add 0 = a := by simp [Addr.add]
        rw [e] at a0
        rw [a0, hs]
        rfl
      · rw [a1, hn1]
        rfl
      · rw [a2, hn2]
        rfl
      · rw [hy, hx0, hx1]
        rfl
theorem open_ents {H : Type} {enc : TypeId × Value → H} {w : World} {base : Nat} {spare : Nat → Bool} {held : Bool} {fuel : Nat} {cs : List Value} {x : DataW H × List MemPlace} (h : DataW.trod enc Tryz.prog w base spare held fuel 22 cs = some x) :
    (cs = [.slice none 0 0] ∧ x = (.nil, [])) ∨ ∃ (a : Addr) (len cap : Nat) (l : List Et) (rest : List (DataW H)) (pl : List MemPlace), cs = [.slice (some a) len cap] ∧ len ≤ cap ∧ cap ≤ maxLen ∧ x = (.slice (l.map dE) rest, pl) ∧ Ents w (some a) len l ∧ ∀ e ∈ l, isInt e.node.kind ∧ e.path.size ≤ maxLen ∧ e.node.data.size ≤ maxLen := by
  rcases Go.Deep.open_slice Tryz.underlying22 h with h0 | ⟨a, len, cap, m, n, D, Pl, rfl, hb, hl, hm, hmm, hx, hi⟩
  · exact .inl h0
  · right
    have hlm : len ≤ m := by
      rw [hmm]
      split
      · exact hl
      · exact Nat.le_refl _
    have hex : ∀ i, i < len → ∃ e : Et, w.cell? (a.add (i * 3)) = some (.string e.path) ∧ w.cell? ((a.add (i * 3)).add 1) = some (.int .i64 e.node.kind) ∧ w.cell? ((a.add (i * 3)).add 2) = some (.string e.node.data) ∧ D i = dE e ∧ isInt e.node.kind ∧ e.path.size ≤ maxLen ∧ e.node.data.size ≤ maxLen := by
      intro i him
      obtain ⟨cs', hc, ht⟩ := hi i (by omega)
      rw [cellsE] at hc
      obtain ⟨e, h1, h2, h3, h4, h5, h6, h7⟩ := ent_open hc ht
      exact ⟨e, h1, h2, h3, congrArg Prod.fst h4, h5, h6, h7⟩
    have : Inhabited Et := ⟨⟨⟨#[]⟩, ⟨0, ⟨#[]⟩⟩⟩⟩
    obtain ⟨X, hX⟩ := Go.Deep.choose_lt hex
    have hget : ∀ k y, ((List.range len).map X)[k]? = some y → k < len ∧ y = X k := by
      intro k y hk
      have hk2 := (List.getElem?_eq_some_iff.1 hk).1
      simp at hk2
      rw [List.getElem?_map, List.getElem?_range hk2] at hk
      injection hk with hk
      exact ⟨hk2, hk.symm⟩
    refine ⟨a, len, cap, (List.range len).map X, (List.range (m - len)).map fun j => D (len + j), x.2, rfl, hl, hm, ?_, ⟨by simp, ?_⟩, ?_⟩
    · rw [hx]
      refine Prod.ext ?_ rfl
      show DataW.slice _ _ = DataW.slice _ _
      congr 1
      rw [List.map_map]
      refine List.map_congr_left (fun i hi' => ?_)
      exact (hX i (List.mem_range.1 hi')).2.2.2.1
    · by_cases h0 : len = 0
      · exact .inl h0
      · right
        obtain ⟨b, off, spot⟩ := a
        have hc0 := (hX 0 (by omega)).1
        rw [Nat.zero_mul] at hc0
        have hspot : spot = none := by simpa [Addr.add] using World.cell?_spot hc0
        subst hspot
        refine ⟨b, off, rfl, ?_, fun k y hk => ?_⟩
        · have := World.block_lt_of_cell? w _ hc0
          simpa [Addr.add] using this
        · obtain ⟨hk2, rfl⟩ := hget k y hk
          obtain ⟨h1, h2, h3, _⟩ := hX k hk2
          rw [add_plain] at h1 h2 h3
          rw [add_plain] at h2 h3
          exact ⟨h1, h2, h3⟩
    · intro e he
      obtain ⟨k, hk⟩ := List.getElem?_of_mem he
      obtain ⟨hk2, rfl⟩ := hget k e hk
      exact (hX k hk2).2.2.2.2
end Go.Proofs.YtkenmldiojeooaaGreat.En

namespace Go.Proofs.YtkenmldiojeooaaGreat.En
open Go.RowKit Tx Pm Pr
set_option linter.unusedVariables false
theorem lt_irr (a : ByteArray) : less a a = false := less_irr _
theorem lt_asymm {a b : ByteArray} (h : less a b = true) : less b a = false := less_asymm _ _ h
theorem less_trans : ∀ (a b c : List UInt8), Op.bytesLess a b = true → Op.bytesLess b c = true → Op.bytesLess a c = true
  | [], [], _, h, _ => by rw [Op.bytesLess] at h; cases h
  | [], _ :: _, [], _, h => by rw [Op.bytesLess] at h; cases h
  | [], _ :: _, _ :: _, _, _ => by rw [Op.bytesLess]
  | _ :: _, [], _, h, _ => by rw [Op.bytesLess] at h; cases h
  | _ :: _, _ :: _, [], _, h => by rw [Op.bytesLess] at h; cases h
  | x :: a, y :: b, z :: c, h1, h2 => by
    have ih := less_trans a b c
    rw [Op.bytesLess] at h1 h2 ⊢
    simp only [Bool.or_eq_true, Bool.and_eq_true, decide_eq_true_eq, beq_iff_eq] at h1 h2 ⊢
    rcases h1 with h1 | ⟨rfl, h1⟩
    · rcases h2 with h2 | ⟨rfl, h2⟩
      · left
        rw [UInt8.lt_iff_toNat_lt] at h1 h2 ⊢
        omega
      · exact .inl h1
    · rcases h2 with h2 | ⟨rfl, h2⟩
      · exact .inl h2
      · exact .inr ⟨rfl, ih h1 h2⟩
theorem less_tri : ∀ (a b : List UInt8), Op.bytesLess a b = false → Op.bytesLess b a = false → a = b
  | [], [], _, _ => rfl
  | [], _ :: _, h, _ => by rw [Op.bytesLess] at h; cases h
  | _ :: _, [], _, h => by rw [Op.bytesLess] at h; cases h
  | x :: a, y :: b, h1, h2 => by
    have ih := less_tri a b
    rw [Op.bytesLess] at h1 h2
    simp only [Bool.or_eq_false_iff, Bool.and_eq_false_iff, decide_eq_false_iff_not, beq_eq_false_iff_ne] at h1 h2
    have e : x = y := by
      apply UInt8.toNat_inj.1
      have a1 := h1.1
      have a2 := h2.1
      rw [UInt8.lt_iff_toNat_lt] at a1 a2
      omega
    subst e
    rw [ih (h1.2.resolve_left (fun h => h rfl)) (h2.2.resolve_left (fun h => h rfl))]
theorem lt_trans {a b c : ByteArray} (h1 : less a b = true) (h2 : less b c = true) : less a c = true := less_trans _ _ _ h1 h2
theorem lt_tri {a b : ByteArray} (h1 : less a b = false) (h2 : less b a = false) : a = b := to_list.1 (less_tri _ _ h1 h2)
theorem le_trans' {a b c : ByteArray} (h1 : less b a = false) (h2 : less c b = false) : less c a = false := by
  cases h : less c a
  · rfl
  · cases hb : less a b
    · have := lt_tri hb h1
      subst this
      rw [h] at h2
      cases h2
    · have := lt_trans h hb
      rw [this] at h2
      cases h2
theorem lt_le {a b : ByteArray} (h : less b a = false) (hne : a ≠ b) : less a b = true := by
  cases h2 : less a b
  · exact absurd (lt_tri h2 h) hne
  · rfl
def Sorted (l : List Et) : Prop := l.Pairwise (fun x y => less y.path x.path = false)
theorem insAt_mem (x y : Et) : ∀ l : List Et, y = x ∨ y ∈ l → y ∈ insAt x l
  | [], h => by
    rw [insAt]
    rcases h with h | h
    · rw [h]; simp
    · cases h
  | z :: l, h => by
    rw [insAt]
    split
    · rcases h with h | h
      · exact List.mem_cons_of_mem _ (insAt_mem x y l (.inl h))
      · rcases List.mem_cons.1 h with h | h
        · rw [h]; simp
        · exact List.mem_cons_of_mem _ (insAt_mem x y l (.inr h))
    · rcases h with h | h
      · rw [h]; simp
      · exact List.mem_cons_of_mem _ h
theorem insAt_sorted (x : Et) : ∀ l : List Et, Sorted l → Sorted (insAt x l)
  | [], _ => by simp [insAt, Sorted]
  | y :: l, h => by
    unfold Sorted at h ⊢
    rw [List.pairwise_cons] at h
    rw [insAt]
    split
    · next hlt =>
      rw [List.pairwise_cons]
      refine ⟨fun z hz => ?_, insAt_sorted x l h.2⟩
      rcases mem_insAt x z l hz with h1 | h1
      · rw [h1]; exact lt_asymm hlt
      · exact h.1 z h1
    · next hlt =>
      have hle : less y.path x.path = false := Bool.eq_false_iff.2 hlt
      rw [List.pairwise_cons]
      refine ⟨fun z hz => ?_, by rw [List.pairwise_cons]; exact h⟩
      rcases List.mem_cons.1 hz with h1 | h1
      · rw [h1]; exact hle
      · exact le_trans' hle (h.1 z h1)
theorem tsort_sorted (l : List Et) : Sorted (tsort l) := by
  have : ∀ (l o : List Et), Sorted o → Sorted (l.foldl (fun o x => insAt x o) o) := by
    intro l
    induction l with
    | nil => intro o h; exact h
    | cons x l ih => intro o h; rw [List.foldl_cons]; exact ih _ (insAt_sorted x o h)
  exact this l [] List.Pairwise.nil
theorem tsort_mem {y : Et} {l : List Et} (h : y ∈ l) : y ∈ tsort l := by
  have : ∀ (l o : List Et), y ∈ o ∨ y ∈ l → y ∈ l.foldl (fun o x => insAt x o) o := by
    intro l
    induction l with
    | nil =>
      intro o h
      rcases h with h | h
      · exact h
      · cases h
    | cons x l ih =>
      intro o h
      rw [List.foldl_cons]
      apply ih
      rcases h with h | h
      · exact .inl (insAt_mem x y o (.inr h))
      · rcases List.mem_cons.1 h with h | h
        · exact .inl (insAt_mem x y o (.inl h))
        · exact .inr h
  exact this l [] (.inr h)
theorem sorted_at {l : List Et} (h : Sorted l) {i j : Nat} {x y : Et} (hi : l[i]? = some x) (hj : l[j]? = some y) (hij : i ≤ j) : less y.path x.path = false := by
  rcases Nat.lt_or_eq_of_le hij with hlt | heq
  · obtain ⟨hil, hie⟩ := List.getElem?_eq_some_iff.1 hi
    obtain ⟨hjl, hje⟩ := List.getElem?_eq_some_iff.1 hj
    have := List.pairwise_iff_getElem.1 h i j hil hjl hlt
    rw [hie, hje] at this
    exact this
  · subst heq
    rw [hi] at hj
    injection hj with hj
    rw [hj]
    exact lt_irr _
theorem tget_zero {l : List Et} {p : ByteArray} (h : ∀ x ∈ l, x.path ≠ p) : tget l p = ⟨0, ⟨#[]⟩⟩ := tget_none l p h
theorem tree_at {l : List Et} (h : tcheck l = 0) {i : Nat} {x : Et} (hx : l[i]? = some x) : chk x.path.data.toList 5 = 0 ∧ whole x.node = true ∧ x.node.kind ≠ 0 ∧ (i = 0 ∨ ∃ y, l[i - 1]? = some y ∧ less y.path x.path = true) := by
  have hi := (List.getElem?_eq_some_iff.1 hx).1
  have hok : okAt l i = true := by
    unfold tcheck at h
    split at h
    · cases h
    · split at h
      · next hall => exact List.all_eq_true.1 hall i (List.mem_range.2 hi)
      · cases h
  rw [okAt_eq hx] at hok
  simp only [Bool.and_eq_true, Bool.or_eq_true, decide_eq_true_eq, Bool.not_eq_true', decide_eq_false_iff_not] at hok
  obtain ⟨⟨⟨⟨c1, c2⟩, c3⟩, c4⟩, _⟩ := hok
  refine ⟨c1, c2, c3, ?_⟩
  rcases c4 with c4 | c4
  · exact .inl c4
  · by_cases h0 : i = 0
    · exact .inl h0
    · right
      obtain ⟨y, hy⟩ : ∃ y, l[i - 1]? = some y := ⟨_, List.getElem?_eq_getElem (by omega)⟩
      rw [hy] at c4
      exact ⟨y, hy, c4⟩
theorem tree_rise {l : List Et} (h : tcheck l = 0) : ∀ (j i : Nat) (x y : Et), l[i]? = some x → l[j]? = some y → i < j → less x.path y.path = true
  | 0, i, x, y, _, _, hij => absurd hij (by omega)
  | j + 1, i, x, y, hx, hy, hij => by
    rcases (tree_at h hy).2.2.2 with h0 | ⟨z, hz, hlt⟩
    · omega
    · rw [Nat.add_sub_cancel] at hz
      by_cases e : i = j
      · subst e
        rw [hx] at hz
        injection hz with hz
        rw [hz]
        exact hlt
      · exact lt_trans (tree_rise h j i x z hx hz (by omega)) hlt
theorem tree_get {l : List Et} (h : tcheck l = 0) {x : Et} (hx : x ∈ l) : tget l x.path = x.node := by
  obtain ⟨k, hk⟩ := List.getElem?_of_mem hx
  refine tget_hit l x.path k x hk rfl (fun y hy e => ?_)
  obtain ⟨i, hi⟩ := List.getElem?_of_mem hy
  rw [List.getElem?_take] at hi
  split at hi
  · next hik =>
    have := tree_rise h k i y x hi hk hik
    rw [e, lt_irr] at this
    cases this
  · cases hi
theorem tree_paths {l : List Et} (h : tcheck l = 0) : (l.map (·.path)).Pairwise (fun a b => less a b = true) := by
  rw [List.pairwise_iff_getElem]
  intro i j hi hj hij
  rw [List.length_map] at hi hj
  rw [List.getElem_map, List.getElem_map]
  exact tree_rise h j i _ _ (List.getElem?_eq_getElem hi) (List.getElem?_eq_getElem hj) hij
theorem tree_path_mem {l : List Et} (h : tcheck l = 0) (p : ByteArray) : p ∈ l.map (·.path) ↔ (tget l p).kind ≠ 0 := by
  constructor
  · intro hp
    obtain ⟨x, hx, rfl⟩ := List.mem_map.1 hp
    rw [tree_get h hx]
    obtain ⟨k, hk⟩ := List.getElem?_of_mem hx
    exact (tree_at h hk).2.2.1
  · intro hk
    apply Classical.byContradiction
    intro hno
    apply hk
    rw [tget_zero (fun x hx e => hno (List.mem_map.2 ⟨x, hx, e⟩))]
end Go.Proofs.YtkenmldiojeooaaGreat.En

namespace Go.Proofs.YtkenmldiojeooaaGreat.En
open Go.RowKit Tx Pm Pr
set_option linter.unusedVariables false
def isno (n : Nd) : Bool := decide (n.kind = 0) && decide (n.data = ⟨#[]⟩)
def tplace (l : List Et) (p : ByteArray) : Nat := l.countP (fun x => less x.path p)
def Rise (l : List Et) : Prop := (l.map (·.path)).Pairwise (fun a b => less a b = true)
end Go.Proofs.YtkenmldiojeooaaGreat.En

namespace Go.Proofs
open Go.Shelf
def Tryz.search_ren : Go.Shelf.Ren := ⟨fun | 16 => 124 | n => n, fun | 3 => 3 | 35 => 160 | 4 => 4 | 38 => 94 | n => n, fun | n => n⟩
theorem Tryz.search : Go.Proofs.SlLaysO.n16 Tryz.prog Tryz.search_ren := {
  mixed := by kernel_rfl
  f16 := Tryz.func124.trans (congrArg some (by kernel_rfl))
  t3 := Tryz.underlying3
  a3 := Tryz.isAgg3
  z3 := Tryz.sizeOf3
  v3 := Tryz.zeroValue3
  t4 := Tryz.underlying4
  a4 := Tryz.isAgg4
  z4 := Tryz.sizeOf4
  v4 := Tryz.zeroValue4
  t35 := Tryz.underlying160
  a35 := Tryz.isAgg160
  z35 := Tryz.sizeOf160
  v35 := Tryz.zeroValue160
  t38 := Tryz.underlying94
  a38 := Tryz.isAgg94
  z38 := Tryz.sizeOf94
  v38 := Tryz.zeroValue94 }
end Go.Proofs

namespace Go.Proofs.YtkenmldiojeooaaGreat.En
open Go.RowKit Tx Pm Pr Go.Sort Go.Lib Go.Shelf
set_option linter.unusedVariables false
theorem Ents.nth {w : World} {a : Option Addr} {n : Nat} {l : List Et} (h : Ents w a n l) {k : Nat} {x : Et} (hx : l[k]? = some x) : ∃ b off, a = some ⟨b, off, none⟩ ∧ b < w.heap.size ∧ w.cell? ⟨b, off + k * 3, none⟩ = some (.string x.path) ∧ w.cell? ⟨b, off + k * 3 + 1, none⟩ = some (.int .i64 x.node.kind) ∧ w.cell? ⟨b, off + k * 3 + 1 + 1, none⟩ = some (.string x.node.data) := by
  have hk := (List.getElem?_eq_some_iff.1 hx).1
  rcases h.2 with h0 | ⟨b, off, ha, hlt, hc⟩
  · rw [h.1] at hk; omega
  · exact ⟨b, off, ha, hlt, hc k x hx⟩
set_option maxRecDepth 100000 in
set_option maxHeartbeats 1000000 in
theorem placeC_any (ba bx : Nat) (a : Option Addr) (n c : Nat) (l : List Et) (p : ByteArray) (W : World) (i : Nat) (x : Et) (hi : l[i]? = some x) (ha : W.cell? ⟨ba, 0, none⟩ = some (.slice a n c)) (hx : W.cell? ⟨bx, 0, none⟩ = some (.string p)) (hl : Ents W a n l) :
    Calls Tryz.prog 125 (#[.int .i64 i] ++ #[.pointer (some ⟨ba, 0, none⟩), .pointer (some ⟨bx, 0, none⟩)]) W fun e w' => e = .returned (.bool (!less x.path p)) ∧ ∃ q, w' = W.drewN q := by
  obtain ⟨b, off, rfl, hb, c1, _⟩ := hl.nth hi
  have hlt : i < n := by rw [← hl.1]; exact (List.getElem?_eq_some_iff.1 hi).1
  have hiz : (i : Int) < (n : Int) := by omega
  obtain ⟨P, N⟩ := x
  simp only at c1
  unfold less
  clear hi hl
  go_enter Tryz.func125, Tryz.ntmps125
  go_wp2
  go_region
  all_goals go_wp2
  all_goals go_ret
  all_goals exact ⟨rfl, 1, rfl⟩
theorem rise_le {l : List Et} (h : Rise l) (p : ByteArray) {i j : Nat} {x y : Et} (hi : l[i]? = some x) (hj : l[j]? = some y) (hij : i ≤ j) (hx : less x.path p = false) : less y.path p = false := by
  rcases Nat.lt_or_eq_of_le hij with hlt | rfl
  · have hm := List.pairwise_iff_getElem.1 h i j (by rw [List.length_map]; exact (List.getElem?_eq_some_iff.1 hi).1) (by rw [List.length_map]; exact (List.getElem?_eq_some_iff.1 hj).1) hlt
    rw [List.getElem_map, List.getElem_map, (List.getElem?_eq_some_iff.1 hi).2, (List.getElem?_eq_some_iff.1 hj).2] at hm
    cases hc : less y.path p with
    | false => rfl
    | true => rw [lt_trans hm hc] at hx; cases hx
  · rw [hi] at hj
    injection hj with hj
    rw [← hj]
    exact hx
theorem count_at (l : List Et) (f : Et → Bool) (g : Nat → Bool) (hg : ∀ i x, l[i]? = some x → g i = f x) : (List.range l.length).countP g = l.countP f := by
  have h : (List.range l.length).map g = l.map f := by
    apply List.ext_getElem
    · simp
    · intro i h1 h2
      simp only [List.getElem_map, List.getElem_range]
      exact hg i _ (List.getElem?_eq_getElem (by simpa using h2))
  have e1 : (List.range l.length).countP g = ((List.range l.length).map g).countP id := by rw [List.countP_map]; rfl
  have e2 : l.countP f = (l.map f).countP id := by rw [List.countP_map]; rfl
  rw [e1, e2, h]
theorem below_boxes {w : World} (o1 o2 : Obj) : Below w.heap.size w ((w.alloc o1).alloc o2) := ((Below.refl _ w).alloc (Nat.le_refl _) o1).alloc (by simp) o2
set_option maxRecDepth 100000 in
set_option maxHeartbeats 2000000 in
theorem place_any (a : Option Addr) (n c : Nat) (l : List Et) (p : ByteArray) (w : World) (hl : Ents w a n l) (hr : Rise l) (hn : n ≤ 1000000000000) :
    Calls Tryz.prog 109 #[.slice a n c, .string p] w fun e w' => e = .returned (.int .i64 (tplace l p : Nat)) ∧ Below w.heap.size w w' := by
  obtain ⟨W0, hW0⟩ : ∃ W0, W0 = (w.alloc (.cells #[.slice a n c] 22)).alloc (.cells #[.string p] 9) := ⟨_, rfl⟩
  have hsize : W0.heap.size = w.heap.size + 1 + 1 := by rw [hW0]; simp
  have ca : W0.cell? ⟨w.heap.size, 0, none⟩ = some (.slice a n c) := by rw [hW0]; exact cell_alloc_sl _ (cell_new_sl w _ _)
  have cx : W0.cell? ⟨w.heap.size + 1, 0, none⟩ = some (.string p) := by rw [hW0]; have := cell_new_sl (w.alloc (.cells #[.slice a n c] 22)) (.string p) 9; rwa [World.size_alloc] at this
  have hB0 : Below w.heap.size w W0 := by rw [hW0]; exact below_boxes _ _
  have eg : ∀ args w, (callFunc 125 args).run Tryz.prog w = .ok (.enter 125 args) w := enters_of Tryz.func125 (by kernel_rfl) rfl
  have hln := hl.1
  have hS := Any.sort_Search Tryz.search 125 #[.pointer (some ⟨w.heap.size, 0, none⟩), .pointer (some ⟨w.heap.size + 1, 0, none⟩)] n (fun i => match l[i]? with | some x => !less x.path p | none => true) W0 eg (by omega)
    (fun m os i hi => by
      obtain ⟨x, hx⟩ : ∃ x, l[i]? = some x := ⟨_, List.getElem?_eq_getElem (by omega)⟩
      have hg := below_grown_sl w.heap.size W0 m os (by omega)
      have h := placeC_any w.heap.size (w.heap.size + 1) a n c l p (grow (W0.drewN m) os) i x hx (cell_grown (by simp [hsize]; omega) ca m os) (cell_grown (by simp [hsize]) cx m os) (hl.below (hB0.trans hg))
      rw [hx]
      exact h.mono fun _ _ ⟨he, q, hq⟩ => ⟨he, q, #[], by rw [hq, grow_empty]⟩)
    (fun i j hij hj h => by
      obtain ⟨x, hx⟩ : ∃ x, l[i]? = some x := ⟨_, List.getElem?_eq_getElem (by omega)⟩
      obtain ⟨y, hy⟩ : ∃ y, l[j]? = some y := ⟨_, List.getElem?_eq_getElem (by omega)⟩
      rw [hx] at h
      rw [hy]
      simp only [Bool.not_eq_true'] at h ⊢
      exact rise_le hr p hx hy hij h)
  have hcnt : (List.range n).countP (fun i => !(match l[i]? with | some x => !less x.path p | none => true)) = tplace l p := by
    rw [← hln]
    exact count_at l _ _ (fun i x hx => by simp only [hx, Bool.not_not])
  rw [hcnt] at hS
  change Calls Tryz.prog 124 _ _ _ at hS
  clear ca cx hcnt hr hl
  generalize tplace l p = r at hS ⊢
  go_enter Tryz.func109, Tryz.ntmps109
  go_wp2_with (go_at_call 124; rw [← hW0]; refine hS.mono ?_; rintro e w' ⟨rfl, q, os, rfl⟩)
  go_ret
  rw [← hW0]
  exact ⟨rfl, hB0.trans (below_grown_sl w.heap.size W0 q os (by omega))⟩
def tstands (l : List Et) (k : Nat) (p : ByteArray) : Bool := match l[k]? with
  | some x => decide (x.path = p)
  | none => false
set_option maxRecDepth 100000 in
set_option maxHeartbeats 1000000 in
theorem stands_any (a : Option Addr) (n c : Nat) (l : List Et) (k : Nat) (p : ByteArray) (w : World) (hl : Ents w a n l) (hn : n ≤ 1000000000000) (hk : k ≤ 1000000000000) :
    Calls Tryz.prog 110 #[.slice a n c, .int .i64 (k : Nat), .string p] w fun e w' => e = .returned (.bool (tstands l k p)) ∧ w = w' := by
  have hln := hl.1
  by_cases hlt : k < n
  · obtain ⟨x, hx⟩ : ∃ x, l[k]? = some x := ⟨_, List.getElem?_eq_getElem (by omega)⟩
    obtain ⟨b, off, rfl, hb, c1, _⟩ := hl.nth hx
    obtain ⟨P, N⟩ := x
    simp only at c1
    have hlz : (k : Int) < (n : Int) := by omega
    have hv : tstands l k p = decide (P = p) := by rw [tstands, hx]
    rw [hv]
    by_cases hp : P = p
    · have e : (P.toList == p.toList) = true := by rw [hp]; exact beq_self_eq_true _
      rw [decide_eq_true hp]
      clear hv hx hl hln hp
      go_enter Tryz.func110, Tryz.ntmps110
      go_wp2
      go_ret
      exact ⟨rfl, rfl⟩
    · have e := bytes_ne hp
      rw [decide_eq_false hp]
      clear hv hx hl hln hp
      go_enter Tryz.func110, Tryz.ntmps110
      go_wp2
      go_ret
      exact ⟨rfl, rfl⟩
  · have hv : tstands l k p = false := by rw [tstands, List.getElem?_eq_none (by omega)]
    rw [hv]
    clear hv hl hln
    go_enter Tryz.func110, Tryz.ntmps110
    go_wp2
    go_ret
    exact ⟨rfl, rfl⟩
theorem count_cut (f : Et → Bool) : ∀ (l : List Et), (∀ (i j : Nat) (x y : Et), l[i]? = some x → l[j]? = some y → i ≤ j → f x = false → f y = false) → ∀ (i : Nat) (x : Et), l[i]? = some x → f x = decide (i < l.countP f)
  | [], _, i, x, h => by cases h
  | z :: r, hm, i, x, h => by
    have hr := count_cut f r (fun i j x y hx hy hij => hm (i + 1) (j + 1) x y hx hy (by omega))
    cases hz : f z with
    | true =>
      rw [List.countP_cons_of_pos hz]
      cases i with
      | zero => injection h with h; rw [← h, hz]; rw [decide_eq_true (by omega)]
      | succ i => rw [hr i x h]; exact decide_eq_decide.2 (by omega)
    | false =>
      have h0 : r.countP f = 0 := by
        rw [List.countP_eq_zero]
        intro y hy
        obtain ⟨j, hj⟩ := List.getElem?_of_mem hy
        rw [hm 0 (j + 1) z y rfl hj (by omega) hz]
        exact Bool.false_ne_true
      rw [List.countP_cons_of_neg (by rw [hz]; exact Bool.false_ne_true), h0, decide_eq_false (by omega)]
      exact hm 0 i z x rfl h (by omega) hz
theorem place_cut {l : List Et} (hr : Rise l) (p : ByteArray) {i : Nat} {x : Et} (hx : l[i]? = some x) : less x.path p = decide (i < tplace l p) :=
  count_cut (fun x => less x.path p) l (fun i j x y hi hj hij h => rise_le hr p hi hj hij h) i x hx
theorem place_le (l : List Et) (p : ByteArray) : tplace l p ≤ l.length := List.countP_le_length
theorem rise_lt {l : List Et} (h : Rise l) {i j : Nat} {x y : Et} (hi : l[i]? = some x) (hj : l[j]? = some y) (hij : i < j) : less x.path y.path = true := by
  have hm := List.pairwise_iff_getElem.1 h i j (by rw [List.length_map]; exact (List.getElem?_eq_some_iff.1 hi).1) (by rw [List.length_map]; exact (List.getElem?_eq_some_iff.1 hj).1) hij
  rwa [List.getElem_map, List.getElem_map, (List.getElem?_eq_some_iff.1 hi).2, (List.getElem?_eq_some_iff.1 hj).2] at hm
theorem place_of {l : List Et} (hr : Rise l) {i : Nat} {x : Et} (hx : l[i]? = some x) : tplace l x.path = i := by
  have h1 := place_cut hr x.path hx
  rw [lt_irr] at h1
  have h2 := of_decide_eq_false h1.symm
  rcases Nat.lt_or_ge (tplace l x.path) i with h | h
  · obtain ⟨y, hy⟩ : ∃ y, l[tplace l x.path]? = some y := ⟨_, List.getElem?_eq_getElem (by have := (List.getElem?_eq_some_iff.1 hx).1; omega)⟩
    have h3 := place_cut hr x.path hy
    rw [rise_lt hr hy hx h] at h3
    have := of_decide_eq_true h3.symm
    omega
  · omega
theorem get_place {l : List Et} (hr : Rise l) (p : ByteArray) : (∃ x, l[tplace l p]? = some x ∧ x.path = p ∧ tstands l (tplace l p) p = true ∧ tget l p = x.node) ∨ (tstands l (tplace l p) p = false ∧ tget l p = ⟨0, ⟨#[]⟩⟩) := by
  cases hs : tstands l (tplace l p) p with
  | true =>
    left
    rw [tstands] at hs
    cases hx : l[tplace l p]? with
    | none => rw [hx] at hs; cases hs
    | some x =>
      rw [hx] at hs
      refine ⟨x, rfl, of_decide_eq_true hs, rfl, tget_hit l p _ x hx (of_decide_eq_true hs) ?_⟩
      intro y hy he
      obtain ⟨j, hj⟩ := List.getElem?_of_mem hy
      have hjk : j < tplace l p := by
        have := (List.getElem?_eq_some_iff.1 hj).1
        rw [List.length_take] at this
        omega
      rw [List.getElem?_take, if_pos hjk] at hj
      have := place_of hr hj
      rw [he] at this
      omega
  | false =>
    right
    refine ⟨rfl, tget_none l p ?_⟩
    intro y hy he
    obtain ⟨j, hj⟩ := List.getElem?_of_mem hy
    have h := place_of hr hj
    rw [he] at h
    rw [tstands, h, hj] at hs
    exact of_decide_eq_false hs he
theorem cells_two {w1 : World} {b : Nat} {u v : Value} {t : TypeId} (h : w1.heap[b]? = some (.cells #[u, v] t)) : w1.cell? ⟨b, 0, none⟩ = some u ∧ w1.cell? ⟨b, 1, none⟩ = some v ∧ ∀ k, w1.frozen? ⟨b, k, none⟩ = false := by
  refine ⟨?_, ?_, fun k => frozen_of_row w1 b k _ _ h⟩ <;> simp [World.cell?, h]
theorem two_set {w1 : World} {b : Nat} {u v x y : Value} {t : TypeId} (h : w1.heap[b]? = some (.cells #[u, v] t)) : ((w1.setCell ⟨b, 0, none⟩ x).setCell ⟨b, 1, none⟩ y).heap[b]? = some (.cells #[x, y] t) :=
  Go.heap_setCell_same _ b 1 _ _ _ (Go.heap_setCell_same _ b 0 _ _ x h)
set_option maxRecDepth 100000 in
set_option maxHeartbeats 2000000 in
theorem getR_any (a : Option Addr) (n c : Nat) (l : List Et) (p : ByteArray) (w : World) (hl : Ents w a n l) (hr : Rise l) (hn : n ≤ 1000000000000) :
    Calls Tryz.prog 89 #[.slice a n c, .string p] w fun e w' => e = .returned (nv (tget l p)) ∧ Below w.heap.size w w' := by
  have hB : ∀ o, Below w.heap.size w (w.alloc o) := fun o => (Below.refl _ _).alloc (Nat.le_refl _) _
  have hln := hl.1
  have hle := place_le l p
  have cp := fun W (h : Below w.heap.size w W) => place_any a n c l p W (hl.below h) hr hn
  have cs := fun W (h : Below w.heap.size w W) => stands_any a n c l (tplace l p) p W (hl.below h) hn (by omega)
  have hgp := get_place hr p
  have HL := Lib.hid hl
  obtain ⟨r, hR⟩ : ∃ r, r = tplace l p := ⟨_, rfl⟩
  rw [← hR] at cp cs hgp hle
  have HR := Lib.hid hr
  clear hr hR hl
  rcases hgp with ⟨x, hx, hp, hs, hg⟩ | ⟨hs, hg⟩
  · obtain ⟨b, off, rfl, hb, c1, c2, c3⟩ := HL.out.nth hx
    have hlt : r < n := by rw [← hln]; exact (List.getElem?_eq_some_iff.1 hx).1
    have hltz : (r : Int) < (n : Int) := by omega
    rw [hg]
    rw [hs] at cs
    obtain ⟨P, K, D⟩ := x
    simp only at c1 c2 c3
    clear hx hp hg hs hln
    go_enter Tryz.func89, Tryz.ntmps89
    go_wp2_with fail
    go_at_call 109
    refine (cp _ (hB _)).mono ?_
    rintro e w1 ⟨rfl, hb1⟩
    have hB1 := below_call (hB _) hb1
    have hblk := hb1.block w.heap.size (by simp)
    rw [heap_alloc_new] at hblk
    obtain ⟨e1, e2, e3⟩ := cells_two hblk
    have d2 := (hB1.cell (p := ⟨b, _, none⟩) hb).trans c2
    have d3 := (hB1.cell (p := ⟨b, _, none⟩) hb).trans c3
    clear c1 c2 c3
    go_wp2_with fail
    go_at_call 110
    refine (cs _ hB1).mono ?_
    rintro e w2 ⟨rfl, rfl⟩
    go_wp2_with fail
    refine bodyPost_ret (results_cell_row rfl _ _ _ _ _ _ _ rfl (two_set hblk) Tryz.underlying33 rfl infoN) rfl ?_
    exact ⟨rfl, (hB1.setCell (Nat.le_refl _) _).setCell (Nat.le_refl _) _⟩
  · rw [hg]
    rw [hs] at cs
    clear hg hs hln
    go_enter Tryz.func89, Tryz.ntmps89
    go_wp2_with fail
    go_at_call 109
    refine (cp _ (hB _)).mono ?_
    rintro e w1 ⟨rfl, hb1⟩
    have hB1 := below_call (hB _) hb1
    have hblk := hb1.block w.heap.size (by simp)
    rw [heap_alloc_new] at hblk
    obtain ⟨e1, e2, e3⟩ := cells_two hblk
    go_wp2_with fail
    go_at_call 110
    refine (cs _ hB1).mono ?_
    rintro e w2 ⟨rfl, rfl⟩
    go_wp2_with fail
    refine bodyPost_ret (results_cell_row rfl _ _ _ _ _ _ _ rfl (two_set hblk) Tryz.underlying33 rfl infoN) rfl ?_
    exact ⟨rfl, (hB1.setCell (Nat.le_refl _) _).setCell (Nat.le_refl _) _⟩
end Go.Proofs.YtkenmldiojeooaaGreat.En

namespace Go.Proofs.YtkenmldiojeooaaGreat.Pl
open Go.RowKit Pm Tx
set_option linter.unusedVariables false
def st : ByteArray := ⟨#[47]⟩
set_option maxRecDepth 100000 in
set_option maxHeartbeats 1000000 in
theorem lastByte_any (s : ByteArray) (w : World) (hs : s.size ≤ 562949953421312) :
    Calls Tryz.prog 119 #[.string s, .int .u8 47] w fun e w' => e = .returned (.int .i64 ((lastN s.data.toList : Nat) - 1)) ∧ w = w' := by
  go_enter Tryz.func119, Tryz.ntmps119
  go_wp2
  go_loop [5] (fun vi => ∃ k : Nat, k ≤ s.size ∧ vi = .int .i64 ((k : Int) - 1) ∧ Hid (lastN s.data.toList = lastN (s.data.toList.take k))) (fun vi => ((intOf vi) + 1).toNat)
  case atStart => exact ⟨s.size, Nat.le_refl _, by first | rfl | go_num | (congr 1; omega), by rw [Pr.take_all]; rfl⟩
  case round =>
    obtain ⟨k, hk, rfl, hh⟩ := hrel
    rcases Nat.eq_zero_or_pos k with rfl | hpos
    · have h0 := Lib.hid hh.out
      clear hh
      go_wp2
      go_ret
      rw [h0.out]
      exact ⟨rfl, rfl⟩
    · obtain ⟨j, rfl⟩ : ∃ j, k = j + 1 := ⟨k - 1, by omega⟩
      have hlt : j < s.size := by omega
      have hn := lastN_snoc (s.data.toList.take j) s[j]
      rw [← Pr.take_at s j hlt, List.length_take, len_l, Nat.min_eq_left (by omega), ← hh.out] at hn
      have ej : ((j + 1 : Nat) : Int) - 1 = (j : Int) := by omega
      rw [ej]
      by_cases hc : s[j].toNat = 47
      · rw [if_pos (UInt8.toNat_inj.1 hc)] at hn
        have HN := Lib.hid hn
        have e : ((s[j].toNat : Int) == 47) = true := by simp [hc]
        clear hn hc hh
        go_wp2
        go_ret
        rw [HN.out]
        exact ⟨by rw [ej]; rfl, rfl⟩
      · rw [if_neg (fun e => hc (by rw [e]; rfl))] at hn
        have HN := Lib.hid hn
        have e : ((s[j].toNat : Int) == 47) = false := beq_eq_false_iff_ne.2 (by omega)
        clear hn hc hh
        go_wp2
        go_round
        case rel => exact ⟨j, by omega, rfl, HN.out⟩
        case measure => simp [intOf]
set_option maxRecDepth 100000 in
set_option maxHeartbeats 1000000 in
theorem last_any (s : ByteArray) (w : World) (hs : s.size ≤ 562949953421312) :
    Calls Tryz.prog 100 #[.string s, .string ⟨#[47]⟩] w fun e w' => e = .returned (.int .i64 ((lastN s.data.toList : Nat) - 1)) ∧ w = w' := by
  go_enter Tryz.func100, Tryz.ntmps100
  go_wp2_with (go_at_call 119; refine (lastByte_any _ _ hs).mono ?_; rintro e w' ⟨rfl, rfl⟩)
  go_ret
  exact ⟨rfl, rfl⟩
set_option maxRecDepth 100000 in
set_option maxHeartbeats 1000000 in
theorem count_any (s : ByteArray) (w : World) :
    Calls Tryz.prog 112 #[.string s, .string ⟨#[47]⟩] w fun e w' => e = .returned (.int .i64 (s.data.toList.count 47 : Nat)) ∧ w = w' := by
  go_enter Tryz.func112, Tryz.ntmps112
  go_wp2
  rw [run_callFunc_extern Tryz.func128 (by kernel_rfl) (by kernel_rfl) (by kernel_rfl) (e := Extern.BytealgCount.count) (by kernel_rfl), Lib.run_countString]
  simp only [Result.andThen]
  rw [Oper.upon_value]
  go_wp2
  go_ret
  exact ⟨rfl, rfl⟩
set_option maxRecDepth 100000 in
set_option maxHeartbeats 1000000 in
theorem indexByte_any (s : ByteArray) (w : World) :
    Calls Tryz.prog 137 #[.string s, .int .u8 47] w fun e w' => e = .returned (.int .i64 (Lib.indexByte s.data.toList 47)) ∧ w = w' := by
  go_enter Tryz.func137, Tryz.ntmps137
  go_wp2
  rw [run_callFunc_extern Tryz.func144 (by kernel_rfl) (by kernel_rfl) (by kernel_rfl) (e := Extern.BytealgIndexByte.indexByte) (by kernel_rfl), Lib.run_indexByteString]
  simp only [Result.andThen]
  rw [Oper.upon_value]
  go_wp2
  go_ret
  exact ⟨rfl, rfl⟩
set_option maxRecDepth 100000 in
set_option maxHeartbeats 1000000 in
theorem index_any (s : ByteArray) (w : World) :
    Calls Tryz.prog 126 #[.string s, .string ⟨#[47]⟩] w fun e w' => e = .returned (.int .i64 (Lib.indexByte s.data.toList 47)) ∧ w = w' := by
  go_enter Tryz.func126, Tryz.ntmps126
  go_wp2_with (go_at_call 137; refine (indexByte_any _ _).mono ?_; rintro e w' ⟨rfl, rfl⟩)
  · have h : ([47] == s.toList) = true := by assumption
    go_ret
    refine ⟨?_, rfl⟩
    have e : s.data.toList = [47] := by rw [← Lib.toList_data]; exact (beq_iff_eq.1 h).symm
    rw [e]
    simp [Lib.indexByte]
  · go_ret
    exact ⟨rfl, rfl⟩
def hasSt (l : List UInt8) : Bool := l.contains 47
def cutA : List UInt8 → List UInt8
  | [] => []
  | c :: r => if c = 47 then [] else c :: cutA r
def cutB : List UInt8 → List UInt8
  | [] => []
  | c :: r => if c = 47 then r else cutB r
theorem cut_in (l : List UInt8) (i : Nat) (h : Lib.indexByte l 47 = i) : i < l.length ∧ cutA l = l.take i ∧ cutB l = l.drop (i + 1) ∧ 47 ∈ l := by
  induction l generalizing i with
  | nil => simp [Lib.indexByte] at h
  | cons c r ih =>
    rw [Lib.indexByte] at h
    by_cases hc : c = 47
    · rw [if_pos (by simp [hc])] at h
      obtain rfl : i = 0 := by omega
      simp [cutA, cutB, hc]
    · rw [if_neg (by simpa using hc)] at h
      have hge := Lib.indexByte_ge r 47
      by_cases hn : Lib.indexByte r 47 = -1
      · rw [if_pos (by simp [hn])] at h
        omega
      · rw [if_neg (by simp [hn])] at h
        obtain ⟨j, rfl⟩ : ∃ j, i = j + 1 := ⟨i - 1, by omega⟩
        obtain ⟨h1, h2, h3, h4⟩ := ih j (by push_cast at h; omega)
        simp [cutA, cutB, hc, h2, h3, h4]
        omega
theorem cut_out (l : List UInt8) (h : Lib.indexByte l 47 = -1) : cutA l = l ∧ cutB l = [] ∧ 47 ∉ l := by
  induction l with
  | nil => simp [cutA, cutB]
  | cons c r ih =>
    rw [Lib.indexByte] at h
    by_cases hc : c = 47
    · rw [if_pos (by simp [hc])] at h
      omega
    · rw [if_neg (by simpa using hc)] at h
      have hge := Lib.indexByte_ge r 47
      by_cases hn : Lib.indexByte r 47 = -1
      · obtain ⟨h1, h2, h3⟩ := ih hn
        simp [cutA, cutB, hc, h1, h2, h3, Ne.symm hc]
      · rw [if_neg (by simp [hn])] at h
        omega
set_option maxRecDepth 100000 in
set_option maxHeartbeats 1000000 in
theorem cutLite_any (s : ByteArray) (w : World) (hs : s.size ≤ 562949953421312) :
    Calls Tryz.prog 114 #[.string s, .string ⟨#[47]⟩] w fun e w' => e = .returned (.tuple #[.string (tb (cutA s.data.toList)), .string (tb (cutB s.data.toList)), .bool (hasSt s.data.toList)]) ∧ ∃ n, w' = w.drewN n := by
  have hge := Lib.indexByte_ge s.data.toList 47
  by_cases hm : Lib.indexByte s.data.toList 47 = -1
  · obtain ⟨e1, e2, e3⟩ := cut_out _ hm
    have e4 : hasSt s.data.toList = false := by simpa [hasSt] using e3
    rw [e1, e2, e4, tb_of]
    clear e1 e2 e3 e4
    go_enter Tryz.func114, Tryz.ntmps114
    go_wp2_with (go_at_call 126; refine (index_any _ _).mono ?_; rintro e w' ⟨rfl, rfl⟩; rw [hm])
    go_ret3
    exact ⟨rfl, 0, rfl⟩
  · obtain ⟨i, hi⟩ : ∃ i : Nat, Lib.indexByte s.data.toList 47 = i := ⟨(Lib.indexByte s.data.toList 47).toNat, by omega⟩
    obtain ⟨hlt, e1, e2, e3⟩ := cut_in _ i hi
    rw [len_l] at hlt
    have e4 : hasSt s.data.toList = true := by simpa [hasSt] using e3
    have x1 : tb (cutA s.data.toList) = s.extract 0 i := by
      apply ByteArray.ext
      apply Array.toList_inj.1
      rw [ByteArray.data_extract, Array.toList_extract, List.extract_eq_take_drop, e1]
      simp [tb]
    have x2 : tb (cutB s.data.toList) = s.extract (i + 1) s.size := by
      apply ByteArray.ext
      apply Array.toList_inj.1
      rw [ByteArray.data_extract, Array.toList_extract, List.extract_eq_take_drop, e2]
      rw [List.take_of_length_le (by rw [List.length_drop, len_l]; omega)]
      rfl
    rw [x1, x2, e4]
    have c1 : (0 : Int) ≤ ↑i := by omega
    have c2 : (↑i : Int) ≤ ↑s.size := by omega
    have c3 : (0 : Int) ≤ ↑i + 1 := by omega
    have c4 : (↑i + 1 : Int) ≤ ↑s.size := by omega
    clear e1 e2 e3 e4 x1 x2 hge hm
    go_enter Tryz.func114, Tryz.ntmps114
    go_wp2_with (go_at_call 126; refine (index_any _ _).mono ?_; rintro e w' ⟨rfl, rfl⟩; rw [hi])
    go_region
    go_wp2
    go_ret3
    exact ⟨rfl, 1, rfl⟩
set_option maxRecDepth 100000 in
set_option maxHeartbeats 1000000 in
theorem cut_any (s : ByteArray) (w : World) (hs : s.size ≤ 562949953421312) :
    Calls Tryz.prog 92 #[.string s, .string ⟨#[47]⟩] w fun e w' => e = .returned (.tuple #[.string (tb (cutA s.data.toList)), .string (tb (cutB s.data.toList)), .bool (hasSt s.data.toList)]) ∧ ∃ n, w' = w.drewN n := by
  go_enter Tryz.func92, Tryz.ntmps92
  go_wp2_with (go_at_call 114; refine (cutLite_any _ _ hs).mono ?_; rintro e w' ⟨rfl, n, rfl⟩)
  go_ret3
  exact ⟨rfl, n, rfl⟩
set_option maxRecDepth 100000 in
set_option maxHeartbeats 1000000 in
theorem hasPrefixLite_any (s p : ByteArray) (w : World) (hs : s.size ≤ 562949953421312) (hp : p.size ≤ 562949953421312) :
    Calls Tryz.prog 123 #[.string s, .string p] w fun e w' => e = .returned (.bool (Lib.hasPrefix s.data.toList p.data.toList)) ∧ w = w' := by
  rw [← Lib.hasPrefix_raw]
  go_enter Tryz.func123, Tryz.ntmps123
  go_wp2
  · rename_i h
    go_ret
    refine ⟨?_, rfl⟩
    simp [h]
  · rename_i h
    go_ret
    refine ⟨?_, rfl⟩
    simp [h]
set_option maxRecDepth 100000 in
set_option maxHeartbeats 1000000 in
theorem hasPrefix_any (s p : ByteArray) (w : World) (hs : s.size ≤ 562949953421312) (hp : p.size ≤ 562949953421312) :
    Calls Tryz.prog 108 #[.string s, .string p] w fun e w' => e = .returned (.bool (Lib.hasPrefix s.data.toList p.data.toList)) ∧ w = w' := by
  go_enter Tryz.func108, Tryz.ntmps108
  go_wp2_with (go_at_call 123; refine (hasPrefixLite_any _ _ _ hs hp).mono ?_; rintro e w' ⟨rfl, rfl⟩)
  go_ret
  exact ⟨rfl, rfl⟩
def trimP (s p : List UInt8) : List UInt8 := if Lib.hasPrefix s p then s.drop p.length else s
set_option maxRecDepth 100000 in
set_option maxHeartbeats 1000000 in
theorem cutPrefixLite_any (s p : ByteArray) (w : World) (hs : s.size ≤ 562949953421312) (hp : p.size ≤ 562949953421312) :
    Calls Tryz.prog 122 #[.string s, .string p] w fun e w' => e = .returned (.tuple #[.string (tb (trimP s.data.toList p.data.toList)), .bool (Lib.hasPrefix s.data.toList p.data.toList)]) ∧ w = w' := by
  by_cases h : Lib.hasPrefix s.data.toList p.data.toList = true
  · rw [trimP, if_pos h, h]
    have hle : p.size ≤ s.size := by
      have := (List.isPrefixOf_iff_prefix.1 h).length_le
      rwa [len_l, len_l] at this
    have x : tb (s.data.toList.drop p.data.toList.length) = s.extract p.size s.size := by
      apply ByteArray.ext
      apply Array.toList_inj.1
      rw [ByteArray.data_extract, Array.toList_extract, List.extract_eq_take_drop, len_l]
      rw [List.take_of_length_le (by rw [List.length_drop, len_l]; omega)]
      rfl
    rw [x]
    clear x
    go_enter Tryz.func122, Tryz.ntmps122
    go_wp2_with (go_at_call 123; refine (hasPrefixLite_any _ _ _ hs hp).mono ?_; rintro e w' ⟨rfl, rfl⟩; rw [h])
    go_ret2
    exact ⟨rfl, rfl⟩
  · have h' : Lib.hasPrefix s.data.toList p.data.toList = false := by simpa using h
    rw [trimP, if_neg h, h', tb_of]
    clear h
    go_enter Tryz.func122, Tryz.ntmps122
    go_wp2_with (go_at_call 123; refine (hasPrefixLite_any _ _ _ hs hp).mono ?_; rintro e w' ⟨rfl, rfl⟩; rw [h'])
    go_ret2
    exact ⟨rfl, rfl⟩
set_option maxRecDepth 100000 in
set_option maxHeartbeats 1000000 in
theorem cutPrefix_any (s p : ByteArray) (w : World) (hs : s.size ≤ 562949953421312) (hp : p.size ≤ 562949953421312) :
    Calls Tryz.prog 107 #[.string s, .string p] w fun e w' => e = .returned (.tuple #[.string (tb (trimP s.data.toList p.data.toList)), .bool (Lib.hasPrefix s.data.toList p.data.toList)]) ∧ w = w' := by
  go_enter Tryz.func107, Tryz.ntmps107
  go_wp2_with (go_at_call 122; refine (cutPrefixLite_any _ _ _ hs hp).mono ?_; rintro e w' ⟨rfl, rfl⟩)
  go_ret2
  exact ⟨rfl, rfl⟩
end Go.Proofs.YtkenmldiojeooaaGreat.Pl

namespace Go.Proofs.YtkenmldiojeooaaGreat.Pr
open Go.RowKit Pm Tx Pl
set_option linter.unusedVariables false
set_option maxRecDepth 100000 in
set_option maxHeartbeats 1000000 in
theorem lastStroke_any (s : ByteArray) (w : World) (hs : s.size ≤ 562949953421312) :
    Calls Tryz.prog 73 #[.string s] w fun e w' => e = .returned (.int .i64 ((lastN s.data.toList : Nat) - 1)) ∧ w = w' := by
  go_enter Tryz.func73, Tryz.ntmps73
  go_wp2_with (go_at_call 100; refine (last_any _ _ hs).mono ?_; rintro e w' ⟨rfl, rfl⟩)
  go_ret
  exact ⟨rfl, rfl⟩
set_option maxRecDepth 100000 in
set_option maxHeartbeats 1000000 in
theorem pParent_any (s : ByteArray) (w : World) (hs : s.size ≤ 562949953421312) :
    Calls Tryz.prog 54 #[.string s] w fun e w' => e = .returned (.string (tb (par s.data.toList))) ∧ Below w.heap.size w w' := by
  have cl := fun W => lastStroke_any s W hs
  have hL := lastN_le s.data.toList
  rw [len_l] at hL
  rw [← par_ext]
  obtain ⟨L, hLe⟩ : ∃ L, L = lastN s.data.toList := ⟨_, rfl⟩
  rw [← hLe] at cl hL ⊢
  clear hLe
  by_cases h0 : L = 0
  · subst h0
    go_enter Tryz.func54, Tryz.ntmps54
    go_wp2_with (go_at_call 73; refine (cl _).mono ?_; rintro e w1 ⟨rfl, rfl⟩)
    go_ret
    exact ⟨by first | (simp; done) | (simp; exact Or.inl (by decide)), Below.refl _ _⟩
  · obtain ⟨K, rfl⟩ : ∃ K, L = K + 1 := ⟨L - 1, by omega⟩
    have e1 : ((K + 1 : Nat) : Int) - 1 = K := by omega
    rw [e1] at cl
    rw [Nat.add_sub_cancel]
    clear h0
    go_enter Tryz.func54, Tryz.ntmps54
    go_wp2_with (go_at_call 73; refine (cl _).mono ?_; rintro e w1 ⟨rfl, rfl⟩)
    go_ret
    exact ⟨rfl, Below.refl _ _⟩
theorem und_nil {p t : List UInt8} (h : t = []) : und p t = true := by simp [und, h]
theorem und_not {p t : List UInt8} (h1 : t ≠ []) (h : Lib.hasPrefix p t = false) : und p t = false := by
  have h2 : p ≠ t := by
    rintro rfl
    have : Lib.hasPrefix p p = true := by simp [Lib.hasPrefix]
    rw [this] at h
    cases h
  have h3 : (t ++ [47]).isPrefixOf p = false := by
    rw [← Bool.not_eq_true, List.isPrefixOf_iff_prefix]
    intro h3
    have : Lib.hasPrefix p t = true := List.isPrefixOf_iff_prefix.2 ((List.prefix_append t [47]).trans h3)
    rw [this] at h
    cases h
  rw [und, h3]
  simp [h1, h2]
theorem und_hit {p t : List UInt8} (h1 : t ≠ []) (h : Lib.hasPrefix p t = true) : und p t = (decide (trimP p t = []) || Lib.hasPrefix (trimP p t) [47]) := by
  obtain ⟨r, rfl⟩ := List.isPrefixOf_iff_prefix.1 h
  rw [trimP, if_pos h, List.drop_left, und]
  have e : (t ++ [47]).isPrefixOf (t ++ r) = Lib.hasPrefix r [47] := by
    rw [Bool.eq_iff_iff, List.isPrefixOf_iff_prefix, Lib.hasPrefix, List.isPrefixOf_iff_prefix, List.prefix_append_right_inj]
  rw [e]
  simp [h1]
set_option maxRecDepth 100000 in
set_option maxHeartbeats 1000000 in
theorem pUnder_any (p t : ByteArray) (w : World) (hs : p.size ≤ 562949953421312) (ht : t.size ≤ 562949953421312) :
    Calls Tryz.prog 87 #[.string p, .string t] w fun e w' => e = .returned (.bool (und p.data.toList t.data.toList)) ∧ Below w.heap.size w w' := by
  have cp := fun W => cutPrefix_any p t W hs ht
  have hxs : (tb (trimP p.data.toList t.data.toList)).size ≤ 562949953421312 := by
    rw [tb_size, trimP]
    split
    · rw [List.length_drop, len_l]; omega
    · rw [len_l]; exact hs
  have ch := fun W => hasPrefix_any (tb (trimP p.data.toList t.data.toList)) ⟨#[47]⟩ W hxs (by decide)
  rw [tb_list] at ch
  by_cases h1 : t = ⟨#[]⟩
  · have e1 := is_empty h1
    rw [und_nil (list_nil h1)]
    clear h1
    go_enter Tryz.func87, Tryz.ntmps87
    go_wp2_with (go_at_call 107; refine (cp _).mono ?_; rintro e w1 ⟨rfl, rfl⟩)
    go_ret
    exact ⟨rfl, Below.refl _ _⟩
  have e1 := not_empty h1
  have h1' := list_ne h1
  cases hb : Lib.hasPrefix p.data.toList t.data.toList with
  | false =>
    rw [und_not h1' hb]
    rw [hb] at cp
    clear h1 h1'
    go_enter Tryz.func87, Tryz.ntmps87
    go_wp2_with (go_at_call 107; refine (cp _).mono ?_; rintro e w1 ⟨rfl, rfl⟩)
    go_ret
    exact ⟨rfl, Below.refl _ _⟩
  | true =>
    rw [und_hit h1' hb]
    rw [hb] at cp
    obtain ⟨r, hr⟩ : ∃ r, r = trimP p.data.toList t.data.toList := ⟨_, rfl⟩
    rw [← hr] at cp ch hxs ⊢
    clear h1 h1' hr hb
    by_cases h2 : r = []
    · have e2 : (tb r).toList.isEmpty = true := is_empty (by rw [h2]; rfl)
      rw [show decide (r = []) = true from decide_eq_true h2, Bool.true_or]
      clear h2
      go_enter Tryz.func87, Tryz.ntmps87
      go_wp2_with (go_at_call 107; refine (cp _).mono ?_; rintro e w1 ⟨rfl, rfl⟩)
      go_ret
      exact ⟨rfl, Below.refl _ _⟩
    · have e2 : (tb r).toList.isEmpty = false := not_empty (fun e => h2 (by rw [← tb_list r, e]))
      rw [show decide (r = []) = false from decide_eq_false h2, Bool.false_or]
      change ∀ W, Calls _ _ _ W fun e w' => e = .returned (.bool (Lib.hasPrefix r [47])) ∧ _ at ch
      obtain ⟨B, hB⟩ : ∃ B, B = Lib.hasPrefix r [47] := ⟨_, rfl⟩
      rw [← hB] at ch ⊢
      clear h2 hB
      cases B
      all_goals
        go_enter Tryz.func87, Tryz.ntmps87
        go_wp2_with (first | (go_at_call 107; refine (cp _).mono ?_; rintro e w1 ⟨rfl, rfl⟩) | (go_at_call 108; refine (ch _).mono ?_; rintro e w1 ⟨rfl, rfl⟩))
        go_ret
        exact ⟨rfl, Below.refl _ _⟩
end Go.Proofs.YtkenmldiojeooaaGreat.Pr

namespace Go.Proofs.YtkenmldiojeooaaGreat.En
open Go.RowKit Tx Pm Pr
set_option linter.unusedVariables false
def isdir (n : Nd) : Bool := decide (n.kind = 1) && decide (n.data = ⟨#[]⟩)
def ahead (l : List Et) (p : ByteArray) : Bool := match l[l.length - 1]? with
  | some y => less y.path p
  | none => true
end Go.Proofs.YtkenmldiojeooaaGreat.En

namespace Go.Proofs.YtkenmldiojeooaaGreat.En
open Go.RowKit Tx Pm Pr
set_option linter.unusedVariables false
theorem take_snoc {l : List Et} {k : Nat} {x : Et} (h : l[k]? = some x) : l.take (k + 1) = l.take k ++ [x] := by
  obtain ⟨hk, he⟩ := List.getElem?_eq_some_iff.1 h
  rw [List.take_succ_eq_append_getElem hk, he]
theorem isdir_kind {n : Nd} (h : isdir n = true) : n = ⟨1, ⟨#[]⟩⟩ := by
  unfold isdir at h
  simp only [Bool.and_eq_true, decide_eq_true_eq] at h
  obtain ⟨k, d⟩ := n
  simp only at h
  rw [h.1, h.2]
theorem whole_dir {n : Nd} (h : whole n = true) (hk : n.kind = 1) : isdir n = true := by
  unfold whole at h
  rw [if_neg (by omega)] at h
  simp only [Bool.and_eq_true, decide_eq_true_eq] at h
  unfold isdir
  rw [decide_eq_true hk, decide_eq_true (size_zero.1 h.2)]
  rfl
theorem tree_par {l : List Et} (h : tcheck l = 0) {i : Nat} {x : Et} (hx : l[i]? = some x) (hp : par x.path.data.toList ≠ []) : (tget l (tb (par x.path.data.toList))).kind = 1 := by
  have hi := (List.getElem?_eq_some_iff.1 hx).1
  have hok : okAt l i = true := by
    unfold tcheck at h
    split at h
    · cases h
    · split at h
      · next hall => exact List.all_eq_true.1 hall i (List.mem_range.2 hi)
      · cases h
  rw [okAt_eq hx] at hok
  simp only [Bool.and_eq_true, Bool.or_eq_true, decide_eq_true_eq, Bool.not_eq_true', decide_eq_false_iff_not] at hok
  exact hok.2.resolve_left hp
theorem tree_rises {l : List Et} (h : tcheck l = 0) : Rise l := tree_paths h
end Go.Proofs.YtkenmldiojeooaaGreat.En

namespace Go.Proofs.YtkenmldiojeooaaGreat.En
open Go.RowKit Tx Pm Pr
set_option linter.unusedVariables false
end Go.Proofs.YtkenmldiojeooaaGreat.En

namespace Go.Proofs.YtkenmldiojeooaaGreat.En
open Go.RowKit Tx Pm Pr
set_option linter.unusedVariables false
theorem filter_take (f : Et → Bool) (l : List Et) (k : Nat) (x : Et) (h : l[k]? = some x) : (l.take (k + 1)).filter f = (l.take k).filter f ++ (if f x = true then [x] else []) := by
  rw [take_snoc h, List.filter_append, List.filter_cons, List.filter_nil]
def PartTo (l : List Et) (w : World) (e : Ending) (w' : World) : Prop := ∃ v, e = .returned v ∧ Own w' w.heap.size v l ∧ Below w.heap.size w w'
theorem three_of {w0 w1 : World} {u v x : Value} {t : TypeId} (h : Below (w0.alloc (.cells #[u, v, x] t)).heap.size (w0.alloc (.cells #[u, v, x] t)) w1) : w1.cell? ⟨w0.heap.size, 0, none⟩ = some u ∧ w1.cell? ⟨w0.heap.size, 1, none⟩ = some v ∧ w1.cell? ⟨w0.heap.size, 2, none⟩ = some x := by
  have hlt : w0.heap.size < (w0.alloc (.cells #[u, v, x] t)).heap.size := by simp
  refine ⟨(h.cell (p := ⟨w0.heap.size, _, none⟩) hlt).trans ?_, (h.cell (p := ⟨w0.heap.size, _, none⟩) hlt).trans ?_, (h.cell (p := ⟨w0.heap.size, _, none⟩) hlt).trans ?_⟩ <;> simp
set_option maxRecDepth 100000 in
set_option maxHeartbeats 4000000 in
theorem part_any (g : Nat) (cb : Array Value) (eg : ∀ args w, (callFunc g args).run Tryz.prog w = .ok (.enter g args) w) (f : Et → Bool) (a : Option Addr) (n c : Nat) (l : List Et) (w : World) (hl : Ents w a n l) (hn : n ≤ 1000000000000)
    (hf : ∀ W x, Below w.heap.size w W → x ∈ l → Calls Tryz.prog g (#[.string x.path] ++ cb) W fun e w' => e = .returned (.bool (f x)) ∧ Below W.heap.size W w') :
    Calls Tryz.prog 85 #[.slice a n c, .func (.func g) #[] cb] w (PartTo (l.filter f) w) := by
  obtain ⟨i0, hi, hz0, hz1, hz2⟩ := info_parts infoE
  obtain ⟨hln, hc⟩ := hl
  by_cases h0 : n = 0
  · subst h0
    obtain rfl : l = [] := List.length_eq_zero_iff.1 hln
    clear hc hf
    go_enter Tryz.func85, Tryz.ntmps85
    go_wp2_with fail
    go_loop [5, 10] (fun o i => i = .int .i64 0 ∧ o = .slice none 0 0) (fun _ _ => 0)
    case atStart => exact ⟨rfl, rfl⟩
    case round =>
      obtain ⟨rfl, rfl⟩ := hrel
      go_wp2_with fail
      go_ret
      exact ⟨_, rfl, World.ownsRow_nil _ _ _ _, Below.refl _ _⟩
  · obtain ⟨b, off, rfl, hb, hc⟩ := hc.resolve_left h0
    have HC := Lib.hid hc
    have HF := Lib.hid hf
    clear hc h0 hf
    go_enter Tryz.func85, Tryz.ntmps85
    go_wp2_with fail
    go_loopw [5, 10] (fun v i wr => ∃ (k : Nat) (out : List Et), k ≤ n ∧ i = .int .i64 k ∧ Hid (out = (l.take k).filter f) ∧ out.length ≤ k ∧ Own wr w.heap.size v out ∧ Below w.heap.size w wr) (fun _ i _ => n - (intOf i).toNat)
    case atStart => exact ⟨0, [], Nat.zero_le _, rfl, rfl, Nat.le_refl _, World.ownsRow_nil _ _ _ _, Below.refl _ _⟩
    case round =>
      obtain ⟨k, out, hk, rfl, hT, hlen, hown, hB⟩ := hrel
      by_cases hlt : k < n
      · obtain ⟨x, hx⟩ : ∃ x, l[k]? = some x := ⟨_, List.getElem?_eq_getElem (by omega)⟩
        obtain ⟨c1, c2, c3⟩ := HC.out k x hx
        have d1 := (hB.cell (p := ⟨b, _, none⟩) hb).trans c1
        have d2 := (hB.cell (p := ⟨b, _, none⟩) hb).trans c2
        have d3 := (hB.cell (p := ⟨b, _, none⟩) hb).trans c3
        have hnx := filter_take f l k x hx
        rw [← hT.out] at hnx
        have hsz := hB.size
        have hB0 := hB.alloc hsz (.cells #[.string x.path, .int .i64 x.node.kind, .string x.node.data] 50)
        have cu := HF.out _ x hB0 (List.mem_of_getElem? hx)
        obtain ⟨F, hF⟩ : ∃ F, F = f x := ⟨_, rfl⟩
        rw [← hF] at cu hnx
        obtain ⟨P, K, D⟩ := x
        simp only at d1 d2 d3 hB0 cu
        clear hF hT hx c1 c2 c3 hln
        cases F with
        | true =>
          rw [if_pos rfl] at hnx
          have HN := Lib.hid hnx
          clear hnx
          go_wp2_with fail
          go_at_fn g
          refine cu.mono ?_
          rintro e w1 ⟨rfl, hb1⟩
          have hB1 := below_call hB0 hb1
          obtain ⟨f1, f2, f3⟩ := three_of hb1
          have hown1 := (hown.below ((Below.refl _ wr).alloc (Nat.le_refl _) _)).below hb1
          unfold Own at hown1
          clear d1 d2 d3 hown cu
          go_wp2_with (at_builtin; refine wpList_append_own _ rfl _ _ 22 rfl w.heap.size 50 i0 (.agg #[.string ⟨#[]⟩, .int .i64 0, .string ⟨#[]⟩]) 3 40 Tryz.underlying22 hi hz0 hz1 hz2 rfl (by decide) _ _ _ rfl (hown1.alloc _) ⟨w1.heap.size, 0, none⟩ 1 1 [.string P, .int .i64 K, .string D] rfl rfl ?c1 ?c2 ?c3 ?c4 ?c5 ?_)
          case c1 => exact cell_three_new _ _ _ _ _
          case c2 => exact cells_one ⟨P, K, D⟩
          case c3 => unfold maxLen; omega
          case c4 => omega
          case c5 => have := hB1.size; simp; omega
          intro v' w2 hown' hgrow _
          have hb3 := below_step hB1 hown1 hgrow
          have ht2 : Own w2 w.heap.size v' (out ++ [⟨P, K, D⟩]) := by
            unfold Own
            rw [List.length_append, List.flatMap_append]
            exact hown'
          clear hown1 hown' hgrow hB hb1 hB1 hB0
          go_wp2_with fail
          go_roundw
          case rel => exact ⟨k + 1, _, by omega, by go_num, HN.out.symm, by simp; omega, ht2, hb3⟩
          case measure => simp [intOf]; omega
        | false =>
          rw [if_neg (by decide), List.append_nil] at hnx
          have HN := Lib.hid hnx.symm
          clear hnx
          go_wp2_with fail
          go_at_fn g
          refine cu.mono ?_
          rintro e w1 ⟨rfl, hb1⟩
          have hB1 := below_call hB0 hb1
          have hown1 := (hown.below ((Below.refl _ wr).alloc (Nat.le_refl _) _)).below hb1
          clear d1 d2 d3 hown cu
          go_wp2_with fail
          go_roundw
          case rel => exact ⟨k + 1, out, by omega, by go_num, HN, by omega, hown1, hB1⟩
          case measure => simp [intOf]; omega
      · obtain rfl : k = n := by omega
        have h := hT.out
        rw [List.take_of_length_le (by omega)] at h
        have HE := Lib.hid h
        clear hT h hln
        go_wp2_with fail
        go_ret
        exact ⟨_, rfl, by rw [← HE.out]; exact hown, hB⟩
end Go.Proofs.YtkenmldiojeooaaGreat.En

namespace Go.Proofs.YtkenmldiojeooaaGreat.En
open Go.RowKit Tx Pm Pr
set_option linter.unusedVariables false
theorem box_of {w0 W : World} {v : Value} {t : TypeId} (h : Below (w0.alloc (.cells #[v] t)).heap.size (w0.alloc (.cells #[v] t)) W) : W.cell? ⟨w0.heap.size, 0, none⟩ = some v := by
  have hlt : w0.heap.size < (w0.alloc (.cells #[v] t)).heap.size := by simp
  refine (h.cell (p := ⟨w0.heap.size, _, none⟩) hlt).trans ?_
  simp
set_option maxRecDepth 100000 in
set_option maxHeartbeats 1000000 in
theorem subC_any (bx : Nat) (q p : ByteArray) (W : World) (hx : W.cell? ⟨bx, 0, none⟩ = some (.string p)) (hq : q.size ≤ 8000000000000) (hp : p.size ≤ 8000000000000) :
    Calls Tryz.prog 86 (#[.string q] ++ #[.pointer (some ⟨bx, 0, none⟩)]) W fun e w' => e = .returned (.bool (und q.data.toList p.data.toList)) ∧ Below W.heap.size W w' := by
  have cu := fun W => pUnder_any q p W (by omega) (by omega)
  obtain ⟨U, hU⟩ : ∃ U, U = und q.data.toList p.data.toList := ⟨_, rfl⟩
  rw [← hU] at cu
  rw [← hU]
  clear hU
  go_enter Tryz.func86, Tryz.ntmps86
  go_wp2_with fail
  go_at_call 87
  refine (cu _).mono ?_
  rintro e w1 ⟨rfl, hb1⟩
  go_wp2_with fail
  go_ret
  exact ⟨rfl, hb1⟩
set_option maxRecDepth 100000 in
set_option maxHeartbeats 1000000 in
theorem subI_any (a : Option Addr) (n c : Nat) (l : List Et) (p : ByteArray) (w : World) (hl : Ents w a n l) (hn : n ≤ 1000000000000) (hs : Small l) (hp : p.size ≤ 8000000000000) :
    Calls Tryz.prog 57 #[.slice a n c, .string p] w (SubTo l p w) := by
  have hB : ∀ o, Below w.heap.size w (w.alloc o) := fun o => (Below.refl _ _).alloc (Nat.le_refl _) _
  have eg : ∀ args w, (callFunc 86 args).run Tryz.prog w = .ok (.enter 86 args) w := enters_of Tryz.func86 (by kernel_rfl) rfl
  have cp := part_any 86 #[.pointer (some ⟨w.heap.size, 0, none⟩)] eg (fun x => und x.path.data.toList p.data.toList) a n c l (w.alloc (.cells #[.string p] 9)) (hl.below (hB _)) hn
    (fun W x hW hx => subC_any w.heap.size x.path p W (box_of hW) (hs x hx).1 hp)
  clear hl hs
  go_enter Tryz.func57, Tryz.ntmps57
  go_wp2_with fail
  go_at_call 85
  refine cp.mono ?_
  rintro e w1 ⟨v, rfl, hown, hb1⟩
  go_wp2_with fail
  go_ret
  refine ⟨v, rfl, row_base hown (by simp), below_call (hB _) hb1⟩
end Go.Proofs.YtkenmldiojeooaaGreat.En

namespace Go.Proofs.YtkenmldiojeooaaGreat.En
open Go.RowKit Tx Pm Pr
set_option linter.unusedVariables false
theorem lastN_mem : ∀ l : List UInt8, 47 ∈ l → lastN l ≠ 0
  | [], h => by cases h
  | c :: r, h => by
    rw [lastN]
    by_cases h0 : lastN r = 0
    · rw [if_pos h0]
      rcases List.mem_cons.1 h with h1 | h1
      · rw [if_pos h1.symm]; decide
      · exact absurd h0 (lastN_mem r h1)
    · rw [if_neg h0]
      omega
theorem par_below {q p rest : List UInt8} (h : q = p ++ 47 :: rest) : par q = p ∨ ∃ a, par q = p ++ 47 :: a := by
  have hne : lastN q ≠ 0 := lastN_mem q (by rw [h]; simp)
  have hb : q = par q ++ 47 :: bas q := by
    rcases par_bas q with ⟨h0, _⟩ | h2
    · exact absurd h0 hne
    · exact h2
  have hbas := last_bas q
  generalize par q = a at hb ⊢
  generalize bas q = b at hb hbas
  rw [h] at hb
  rcases List.append_eq_append_iff.1 hb with ⟨x, h1, h2⟩ | ⟨x, h1, h2⟩
  · cases x with
    | nil => left; rw [h1, List.append_nil]
    | cons c x =>
      right
      rw [List.cons_append] at h2
      injection h2 with h2 h3
      exact ⟨x, by rw [h1, ← h2]⟩
  · cases x with
    | nil => left; rw [h1, List.append_nil]
    | cons c x =>
      rw [List.cons_append] at h2
      injection h2 with h2 h3
      exact absurd hbas (lastN_mem b (by rw [h3]; simp))
theorem und_form {q p : List UInt8} (h : und q p = true) (hp : p ≠ []) (hq : q ≠ p) : ∃ rest, q = p ++ 47 :: rest := by
  unfold und at h
  rw [decide_eq_false hp, decide_eq_false hq, Bool.false_or, Bool.false_or, List.isPrefixOf_iff_prefix] at h
  obtain ⟨r, hr⟩ := h
  exact ⟨r, by rw [← hr, List.append_assoc]; rfl⟩
theorem path_list {a b : ByteArray} : a = b ↔ a.data.toList = b.data.toList := ⟨fun h => by rw [h], fun h => ByteArray.ext (Array.toList_inj.1 h)⟩
theorem tree_get_whole {l : List Et} (h : tcheck l = 0) (p : ByteArray) : whole (tget l p) = true := by
  by_cases hk : (tget l p).kind = 0
  · by_cases hm : p ∈ l.map (·.path)
    · exact absurd hk ((tree_path_mem h p).1 hm)
    · rw [tget_zero (fun x hx e => hm (List.mem_map.2 ⟨x, hx, e⟩))]
      rfl
  · obtain ⟨x, hx, rfl⟩ := List.mem_map.1 ((tree_path_mem h p).2 hk)
    rw [tree_get h hx]
    obtain ⟨i, hi⟩ := List.getElem?_of_mem hx
    exact (tree_at h hi).2.1
end Go.Proofs.YtkenmldiojeooaaGreat.En
