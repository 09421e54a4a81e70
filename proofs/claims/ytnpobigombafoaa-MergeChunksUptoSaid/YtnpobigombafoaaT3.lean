/- Texts of this seat, one behind the other. -/
import Derived.Test.YtnpobigombafoaaT2
import Derived.Maps.OwnSet
import Derived.Carry
import Derived.Shelf.RegionOpenPlain
import Derived.Laws.Rows
import Derived.Laws.NewBlocks
namespace Go.Proofs.Ytnpobigombafoaa.Mg
open Go.RowKit Go.ChangeShapes Go.WideShapes Tx Um Ud Aq Km Kd Lm Ln
set_option linter.unusedVariables false
theorem len_flat {α : Type} {x : List α} : ∀ {M : List (List α)}, x ∈ M → x.length ≤ M.flatten.length
  | y :: M, h => by
    rw [List.flatten_cons, List.length_append]
    rcases List.mem_cons.1 h with rfl | h
    · omega
    · have := len_flat h
      omega
theorem cat_flat_le {x : List ByteArray} {M : List (List ByteArray)} (h : x ∈ M) : (cat x).size ≤ (cat M.flatten).size := by
  induction M with
  | nil => cases h
  | cons y M ih =>
    rw [List.flatten_cons, cat_app, ByteArray.size_append]
    rcases List.mem_cons.1 h with rfl | h
    · omega
    · have := ih h
      omega
theorem line_le {l : List ByteArray} {k : Nat} {x : ByteArray} (h : l[k]? = some x) : x.size ≤ (cat l).size := by
  have hm := List.mem_iff_getElem?.2 ⟨k, h⟩
  obtain ⟨p, q, rfl⟩ := List.append_of_mem hm
  rw [cat_app, ByteArray.size_append, show x :: q = [x] ++ q from rfl, cat_app, ByteArray.size_append]
  have : (cat [x]).size = x.size := by rw [cat_size]; simp
  omega
theorem pc_small {s t u : ByteArray} (he : err3 s t u = 0) {c : Ck ByteArray} (h : c ∈ pcs3 s t u) : c.b.length ≤ 400 ∧ c.l.length ≤ 400 ∧ c.r.length ≤ 400 ∧ (cat c.l).size ≤ t.size ∧ (cat c.r).size ≤ u.size := by
  obtain ⟨_, _, _, l1, l2, l3⟩ := err_lines he
  have e1 : ((pcs3 s t u).map (·.b)).flatten = lns s := pie_base _ _ _
  have e2 : ((pcs3 s t u).map (·.l)).flatten = lns t := pie_left _ _ _
  have e3 : ((pcs3 s t u).map (·.r)).flatten = lns u := pie_right _ _ _
  have q1 := len_flat (List.mem_map.2 ⟨c, h, rfl⟩ : c.b ∈ (pcs3 s t u).map (·.b))
  have q2 := len_flat (List.mem_map.2 ⟨c, h, rfl⟩ : c.l ∈ (pcs3 s t u).map (·.l))
  have q3 := len_flat (List.mem_map.2 ⟨c, h, rfl⟩ : c.r ∈ (pcs3 s t u).map (·.r))
  have q4 := cat_flat_le (List.mem_map.2 ⟨c, h, rfl⟩ : c.l ∈ (pcs3 s t u).map (·.l))
  have q5 := cat_flat_le (List.mem_map.2 ⟨c, h, rfl⟩ : c.r ∈ (pcs3 s t u).map (·.r))
  rw [e1] at q1
  rw [e2] at q2 q4
  rw [e3] at q3 q5
  rw [lns_cat] at q4 q5
  exact ⟨by omega, by omega, by omega, q4, q5⟩
theorem txs_take_le (L : List (Ck ByteArray)) (k : Nat) : (txs (L.take k)).size ≤ (txs L).size := by
  have key : ∀ (M : List (Ck ByteArray)) (z : ByteArray), z.size ≤ (M.foldl (fun s c => s ++ tx c) z).size := by
    intro M
    induction M with
    | nil => intro z; exact Nat.le_refl _
    | cons c M ih =>
      intro z
      rw [List.foldl_cons]
      have := ih (z ++ tx c)
      rw [ByteArray.size_append] at this
      omega
  have h : txs L = (L.drop k).foldl (fun s c => s ++ tx c) (txs (L.take k)) := by
    unfold txs
    rw [← List.foldl_append, List.take_append_drop]
  rw [h]
  exact key _ _
theorem txs_take_cf (L : List (Ck ByteArray)) (k : Nat) : cfs (L.take k) ≤ cfs L := by
  have h : cfs L = cfs (L.take k) + cfs (L.drop k) := by
    unfold cfs
    rw [← List.sum_append, ← List.map_append, List.take_append_drop]
  omega
theorem tx_some {c : Ck ByteArray} {l : List ByteArray} (h : pick c = some l) : tx c = cat l ∧ cf c = 0 := by
  unfold tx cf
  rw [h]
  exact ⟨rfl, rfl⟩
theorem tx_none {c : Ck ByteArray} (h : pick c = none) : tx c = AH ++ cat (clt c.l) ++ MI ++ cat (clt c.r) ++ BH ∧ cf c = 1 := by
  unfold tx cf
  rw [h]
  exact ⟨rfl, rfl⟩
theorem bool_no {B : Bool} {p : Prop} (h : B = true ↔ p) (hp : ¬ p) : B = false := by
  cases B with
  | true => exact absurd (h.1 rfl) hp
  | false => rfl
theorem mg_err {s t u : ByteArray} (h : ¬ err3 s t u = 0) : mtx s t u = ⟨#[]⟩ ∧ mcf s t u = 0 := by
  unfold mtx mcf
  rw [if_neg h, if_neg h]
  exact ⟨rfl, rfl⟩
theorem mg_ok {s t u : ByteArray} (h : err3 s t u = 0) : mtx s t u = txs (pcs3 s t u) ∧ mcf s t u = cfs (pcs3 s t u) ∧ chs s t u = pcs3 s t u := by
  unfold mtx mcf chs
  rw [if_pos h, if_pos h, if_pos h]
  exact ⟨rfl, rfl, rfl⟩
set_option maxRecDepth 100000 in
set_option maxHeartbeats 40000000 in
theorem refMerge_any (s t u : ByteArray) (w : World) (hs : s.size ≤ 8796093022207) (ht : t.size ≤ 8796093022207) (hu : u.size ≤ 8796093022207) :
    Calls Try.prog 15 #[.string s, .string t, .string u] w (MgTo s t u w) := by
  have k0 := refChunks_any s t u w hs ht hu
  unfold CkTo at k0
  by_cases he : err3 s t u = 0
  · obtain ⟨m1, m2, m3⟩ := mg_ok he
    have HG : Hid (mtx s t u = txs (pcs3 s t u) ∧ mcf s t u = cfs (pcs3 s t u) ∧ err3 s t u = 0) := ⟨m1, m2, he⟩
    have HPC : Hid (∀ c, c ∈ pcs3 s t u → c.b.length ≤ 400 ∧ c.l.length ≤ 400 ∧ c.r.length ≤ 400 ∧ (cat c.l).size ≤ t.size ∧ (cat c.r).size ≤ u.size) := fun c hc => pc_small he hc
    obtain ⟨z1, z2, z3⟩ := txs_size s t u
    obtain ⟨_, _, _, l1, l2, l3⟩ := err_lines he
    rw [m3, he] at k0
    obtain ⟨L, hL⟩ : ∃ L, L = pcs3 s t u := ⟨_, rfl⟩
    rw [← hL] at k0 HPC HG z1 z2 z3
    have hNL : L.length ≤ 1200 := by omega
    have hTX : (txs L).size ≤ 17592186075614 := by omega
    obtain ⟨NL, hNL2⟩ : ∃ NL, NL = L.length := ⟨_, rfl⟩
    have HNL := Lib.hid hNL2
    rw [← hNL2] at hNL
    have K0 := Lib.hid k0
    have HTXL := Lib.hid hTX
    have hcfL : cfs L ≤ 1200 := by omega
    have HPC2 := Lib.hid HPC
    clear k0 hL m1 m2 m3 he z1 z2 z3 l1 l2 l3 hNL2 hTX
    go_enter Try.func15, Try.ntmps15
    go_wp2_with fail
    go_at_call 10
    refine K0.out.mono ?_
    rintro e w1 ⟨v, cs, rfl, hcs, hic, hb1⟩
    obtain ⟨va, vc, rfl, hck⟩ := hcs.form hic
    have HCK := Lib.hid hck
    have HB1 := Lib.hid hb1
    rw [← HNL.out]
    clear hcs hic hck hb1 K0
    go_wp2_with fail
    go_loopw [11, 12, 13, 14] (fun xs nn ii _ wr => ∃ k : Nat, xs = .string (txs (L.take k)) ∧ nn = .int .i64 ((cfs (L.take k) : Nat) : Int) ∧ ii = .int .i64 (k : Int) ∧ k ≤ NL ∧ Hid (Below w1.heap.size w1 wr)) (fun _ _ i _ _ => NL - (intOf i).toNat)
    case atStart => exact ⟨0, rfl, rfl, rfl, Nat.zero_le _, Below.refl _ _⟩
    case round =>
      obtain ⟨k, rfl, rfl, rfl, hk, HB⟩ := hrel
      by_cases hlt : k < NL
      · have e1 : (k : Int) < (NL : Int) := by omega
        obtain ⟨c, hc⟩ : ∃ c, L[k]? = some c := ⟨_, List.getElem?_eq_getElem (by rw [← HNL.out]; exact hlt)⟩
        obtain ⟨gb, off, rfl, hgb, hcc⟩ := HCK.out.2.resolve_left (by rw [← HNL.out]; omega)
        obtain ⟨ub, ul, ur, c0, c1, c2, c3, r1, r2, r3⟩ := hcc k c hc
        obtain ⟨A1, k1, rfl, s1, _⟩ := r1
        obtain ⟨A2, k2, rfl, s2, _⟩ := r2
        obtain ⟨A3, k3, rfl, s3, _⟩ := r3
        have d0 : wr.cell? ⟨gb, off + k * 4, none⟩ = some (.bool c.st) := (HB.out.cell (p := ⟨gb, _, none⟩) hgb).trans c0
        have d1 : wr.cell? ⟨gb, off + k * 4 + 1, none⟩ = some (.slice A1 c.b.length k1) := (HB.out.cell (p := ⟨gb, _, none⟩) hgb).trans c1
        have d2 : wr.cell? ⟨gb, off + k * 4 + 2, none⟩ = some (.slice A2 c.l.length k2) := (HB.out.cell (p := ⟨gb, _, none⟩) hgb).trans c2
        have d3 : wr.cell? ⟨gb, off + k * 4 + 3, none⟩ = some (.slice A3 c.r.length k3) := (HB.out.cell (p := ⟨gb, _, none⟩) hgb).trans c3
        obtain ⟨b1, b2, b3, b4, b5⟩ := HPC.out c (List.mem_iff_getElem?.2 ⟨k, hc⟩)
        obtain ⟨t1, t2⟩ := txs_take hc
        have hle := txs_take_le L (k + 1)
        have hcf : cfs (L.take k) ≤ 1200 := by
          have h := txs_take_cf L k
          omega
        rw [t1, ByteArray.size_append] at hle
        have hle2 := HTXL.out
        obtain ⟨S, hS⟩ : ∃ S, S = txs (L.take k) := ⟨_, rfl⟩
        obtain ⟨M, hM⟩ : ∃ M, M = cfs (L.take k) := ⟨_, rfl⟩
        rw [← hS] at t1 hle ⊢
        rw [← hM] at t2 hcf ⊢
        have hsz : S.size + (tx c).size ≤ 17592186075614 := by omega
        have HT := Lib.hid t1
        have HC := Lib.hid t2
        have S1 := Lib.hid s1
        have S2 := Lib.hid s2
        have S3 := Lib.hid s3
        clear hcc hc c0 c1 c2 c3 t1 t2 hle hle2 hS hM s1 s2 s3
        cases hst : c.st with
        | true =>
          rw [hst] at d0
          have hba : Below wr.heap.size wr (wr.alloc (.cells #[.bool true, .slice A1 c.b.length k1, .slice A2 c.l.length k2, .slice A3 c.r.length k3] 33)) := (Below.refl _ wr).alloc (Nat.le_refl _) _
          have HV : Hid (∀ W, Below (wr.alloc (.cells #[.bool true, .slice A1 c.b.length k1, .slice A2 c.l.length k2, .slice A3 c.r.length k3] 33)).heap.size (wr.alloc (.cells #[.bool true, .slice A1 c.b.length k1, .slice A2 c.l.length k2, .slice A3 c.r.length k3] 33)) W → W.cell? ⟨wr.heap.size, 1, none⟩ = some (.slice A1 c.b.length k1) ∧ W.cell? ⟨wr.heap.size, 2, none⟩ = some (.slice A2 c.l.length k2) ∧ W.cell? ⟨wr.heap.size, 3, none⟩ = some (.slice A3 c.r.length k3)) := fun W hb => by
            have hlt : wr.heap.size < (wr.alloc (.cells #[.bool true, .slice A1 c.b.length k1, .slice A2 c.l.length k2, .slice A3 c.r.length k3] 33)).heap.size := by go_simp <;> omega
            refine ⟨(hb.cell (p := ⟨wr.heap.size, _, none⟩) hlt).trans ?_, (hb.cell (p := ⟨wr.heap.size, _, none⟩) hlt).trans ?_, (hb.cell (p := ⟨wr.heap.size, _, none⟩) hlt).trans ?_⟩ <;> go_simp
          have HSW : Hid (∀ W, Below (wr.alloc (.cells #[.bool true, .slice A1 c.b.length k1, .slice A2 c.l.length k2, .slice A3 c.r.length k3] 33)).heap.size (wr.alloc (.cells #[.bool true, .slice A1 c.b.length k1, .slice A2 c.l.length k2, .slice A3 c.r.length k3] 33)) W → Strs W A1 c.b.length c.b ∧ Strs W A2 c.l.length c.l ∧ Strs W A3 c.r.length c.r) := fun W hb => by
            have h1 : Below w1.heap.size w1 W := HB.out.trans ((hba.trans (hb.mono hba.size)).mono HB.out.size)
            exact ⟨S1.out.below h1, S2.out.below h1, S3.out.below h1⟩
          have HBV : Hid (∀ W, Below (wr.alloc (.cells #[.bool true, .slice A1 c.b.length k1, .slice A2 c.l.length k2, .slice A3 c.r.length k3] 33)).heap.size (wr.alloc (.cells #[.bool true, .slice A1 c.b.length k1, .slice A2 c.l.length k2, .slice A3 c.r.length k3] 33)) W → Below w1.heap.size w1 W) := fun W hb => HB.out.trans ((hba.trans (hb.mono hba.size)).mono HB.out.size)
          clear hba HB S1 S2 S3
          have hbw := Below.refl (wr.alloc (.cells #[.bool true, .slice A1 c.b.length k1, .slice A2 c.l.length k2, .slice A3 c.r.length k3] 33)).heap.size (wr.alloc (.cells #[.bool true, .slice A1 c.b.length k1, .slice A2 c.l.length k2, .slice A3 c.r.length k3] 33))
          obtain ⟨g1, g2⟩ := tx_some (show pick c = some c.l from if_pos (.inl hst))
          rw [g1] at hsz
          have HTX : Hid (txs (L.take (k + 1)) = S ++ cat c.l) := by show _ = _; rw [HT.out, g1]
          have HCF : Hid (cfs (L.take (k + 1)) = M) := by show _ = _; rw [HC.out, g2, Nat.add_zero]
          have KJ := Lib.hid (refJoin_any A2 c.l.length k2 c.l (wr.alloc (.cells #[.bool true, .slice A1 c.b.length k1, .slice A2 c.l.length k2, .slice A3 c.r.length k3] 33)) (HSW.out _ hbw).2.1 (by omega) (by omega))
          have HBN := Lib.hid (HBV.out _ hbw)
          obtain ⟨X1, hX1⟩ : ∃ X1, X1 = cat c.l := ⟨_, rfl⟩
          rw [← hX1] at HTX KJ hsz
          clear g1 g2 HT HC HSW HBV hX1 hbw
          go_wp2_with fail
          go_at_call 31
          refine KJ.out.mono ?_
          rintro e z ⟨rfl, rfl⟩
          clear KJ
          go_wp2_with fail
          go_roundw
          case rel => exact ⟨k + 1, by rw [HTX.out], by rw [HCF.out], by go_num, by omega, HBN⟩
          case measure => simp only [intOf]; omega
        | false =>
          rw [hst] at d0
          have hba : Below wr.heap.size wr (wr.alloc (.cells #[.bool false, .slice A1 c.b.length k1, .slice A2 c.l.length k2, .slice A3 c.r.length k3] 33)) := (Below.refl _ wr).alloc (Nat.le_refl _) _
          have HV : Hid (∀ W, Below (wr.alloc (.cells #[.bool false, .slice A1 c.b.length k1, .slice A2 c.l.length k2, .slice A3 c.r.length k3] 33)).heap.size (wr.alloc (.cells #[.bool false, .slice A1 c.b.length k1, .slice A2 c.l.length k2, .slice A3 c.r.length k3] 33)) W → W.cell? ⟨wr.heap.size, 1, none⟩ = some (.slice A1 c.b.length k1) ∧ W.cell? ⟨wr.heap.size, 2, none⟩ = some (.slice A2 c.l.length k2) ∧ W.cell? ⟨wr.heap.size, 3, none⟩ = some (.slice A3 c.r.length k3)) := fun W hb => by
            have hlt : wr.heap.size < (wr.alloc (.cells #[.bool false, .slice A1 c.b.length k1, .slice A2 c.l.length k2, .slice A3 c.r.length k3] 33)).heap.size := by go_simp <;> omega
            refine ⟨(hb.cell (p := ⟨wr.heap.size, _, none⟩) hlt).trans ?_, (hb.cell (p := ⟨wr.heap.size, _, none⟩) hlt).trans ?_, (hb.cell (p := ⟨wr.heap.size, _, none⟩) hlt).trans ?_⟩ <;> go_simp
          have HSW : Hid (∀ W, Below (wr.alloc (.cells #[.bool false, .slice A1 c.b.length k1, .slice A2 c.l.length k2, .slice A3 c.r.length k3] 33)).heap.size (wr.alloc (.cells #[.bool false, .slice A1 c.b.length k1, .slice A2 c.l.length k2, .slice A3 c.r.length k3] 33)) W → Strs W A1 c.b.length c.b ∧ Strs W A2 c.l.length c.l ∧ Strs W A3 c.r.length c.r) := fun W hb => by
            have h1 : Below w1.heap.size w1 W := HB.out.trans ((hba.trans (hb.mono hba.size)).mono HB.out.size)
            exact ⟨S1.out.below h1, S2.out.below h1, S3.out.below h1⟩
          have HBV : Hid (∀ W, Below (wr.alloc (.cells #[.bool false, .slice A1 c.b.length k1, .slice A2 c.l.length k2, .slice A3 c.r.length k3] 33)).heap.size (wr.alloc (.cells #[.bool false, .slice A1 c.b.length k1, .slice A2 c.l.length k2, .slice A3 c.r.length k3] 33)) W → Below w1.heap.size w1 W) := fun W hb => HB.out.trans ((hba.trans (hb.mono hba.size)).mono HB.out.size)
          clear hba HB S1 S2 S3
          have hbw := Below.refl (wr.alloc (.cells #[.bool false, .slice A1 c.b.length k1, .slice A2 c.l.length k2, .slice A3 c.r.length k3] 33)).heap.size (wr.alloc (.cells #[.bool false, .slice A1 c.b.length k1, .slice A2 c.l.length k2, .slice A3 c.r.length k3] 33))
          have KS := Lib.hid (same_any A2 A3 k2 k3 c.l c.r (wr.alloc (.cells #[.bool false, .slice A1 c.b.length k1, .slice A2 c.l.length k2, .slice A3 c.r.length k3] 33)) (HSW.out _ hbw).2.1 (HSW.out _ hbw).2.2 (by omega) (by omega))
          go_wp2_with fail
          go_at_call 17
          refine KS.out.mono ?_
          rintro e w2 ⟨bb, hbb, rfl, hb2⟩
          have hbw2 : Below (wr.alloc (.cells #[.bool false, .slice A1 c.b.length k1, .slice A2 c.l.length k2, .slice A3 c.r.length k3] 33)).heap.size (wr.alloc (.cells #[.bool false, .slice A1 c.b.length k1, .slice A2 c.l.length k2, .slice A3 c.r.length k3] 33)) w2 := hb2
          clear hbw KS
          have hbw := hbw2
          obtain ⟨v1, v2, v3⟩ := HV.out _ hbw
          clear hbw2 hb2
          by_cases h1 : c.l = c.r
          · obtain rfl : bb = true := hbb.2 h1
            clear hbb
            obtain ⟨g1, g2⟩ := tx_some (show pick c = some c.l from if_pos (.inr (.inl h1)))
            rw [g1] at hsz
            have HTX : Hid (txs (L.take (k + 1)) = S ++ cat c.l) := by show _ = _; rw [HT.out, g1]
            have HCF : Hid (cfs (L.take (k + 1)) = M) := by show _ = _; rw [HC.out, g2, Nat.add_zero]
            have KJ := Lib.hid (refJoin_any A2 c.l.length k2 c.l w2 (HSW.out _ hbw).2.1 (by omega) (by omega))
            have HBN := Lib.hid (HBV.out _ hbw)
            obtain ⟨X1, hX1⟩ : ∃ X1, X1 = cat c.l := ⟨_, rfl⟩
            rw [← hX1] at HTX KJ hsz
            clear g1 g2 HT HC HSW HBV hX1 hbw h1
            go_wp2_with fail
            go_at_call 31
            refine KJ.out.mono ?_
            rintro e z ⟨rfl, rfl⟩
            clear KJ
            go_wp2_with fail
            go_roundw
            case rel => exact ⟨k + 1, by rw [HTX.out], by rw [HCF.out], by go_num, by omega, HBN⟩
            case measure => simp only [intOf]; omega
          · obtain rfl := bool_no hbb h1
            clear hbb
            have KS := Lib.hid (same_any A3 A1 k3 k1 c.r c.b w2 (HSW.out _ hbw).2.2 (HSW.out _ hbw).1 (by omega) (by omega))
            go_wp2_with fail
            go_at_call 17
            refine KS.out.mono ?_
            rintro e w3 ⟨bb, hbb, rfl, hb2⟩
            have hbw2 : Below (wr.alloc (.cells #[.bool false, .slice A1 c.b.length k1, .slice A2 c.l.length k2, .slice A3 c.r.length k3] 33)).heap.size (wr.alloc (.cells #[.bool false, .slice A1 c.b.length k1, .slice A2 c.l.length k2, .slice A3 c.r.length k3] 33)) w3 := below_call hbw hb2
            clear hbw KS
            have hbw := hbw2
            obtain ⟨v1, v2, v3⟩ := HV.out _ hbw
            clear hbw2 hb2
            by_cases h2 : c.r = c.b
            · obtain rfl : bb = true := hbb.2 h2
              clear hbb
              obtain ⟨g1, g2⟩ := tx_some (show pick c = some c.l from if_pos (.inr (.inr h2)))
              rw [g1] at hsz
              have HTX : Hid (txs (L.take (k + 1)) = S ++ cat c.l) := by show _ = _; rw [HT.out, g1]
              have HCF : Hid (cfs (L.take (k + 1)) = M) := by show _ = _; rw [HC.out, g2, Nat.add_zero]
              have KJ := Lib.hid (refJoin_any A2 c.l.length k2 c.l w3 (HSW.out _ hbw).2.1 (by omega) (by omega))
              have HBN := Lib.hid (HBV.out _ hbw)
              obtain ⟨X1, hX1⟩ : ∃ X1, X1 = cat c.l := ⟨_, rfl⟩
              rw [← hX1] at HTX KJ hsz
              clear g1 g2 HT HC HSW HBV hX1 hbw h1 h2
              go_wp2_with fail
              go_at_call 31
              refine KJ.out.mono ?_
              rintro e z ⟨rfl, rfl⟩
              clear KJ
              go_wp2_with fail
              go_roundw
              case rel => exact ⟨k + 1, by rw [HTX.out], by rw [HCF.out], by go_num, by omega, HBN⟩
              case measure => simp only [intOf]; omega
            · obtain rfl := bool_no hbb h2
              clear hbb
              have KS := Lib.hid (same_any A2 A1 k2 k1 c.l c.b w3 (HSW.out _ hbw).2.1 (HSW.out _ hbw).1 (by omega) (by omega))
              go_wp2_with fail
              go_at_call 17
              refine KS.out.mono ?_
              rintro e w4 ⟨bb, hbb, rfl, hb2⟩
              have hbw2 : Below (wr.alloc (.cells #[.bool false, .slice A1 c.b.length k1, .slice A2 c.l.length k2, .slice A3 c.r.length k3] 33)).heap.size (wr.alloc (.cells #[.bool false, .slice A1 c.b.length k1, .slice A2 c.l.length k2, .slice A3 c.r.length k3] 33)) w4 := below_call hbw hb2
              clear hbw KS
              have hbw := hbw2
              obtain ⟨v1, v2, v3⟩ := HV.out _ hbw
              clear hbw2 hb2
              by_cases h3 : c.l = c.b
              · obtain rfl : bb = true := hbb.2 h3
                clear hbb
                obtain ⟨g1, g2⟩ := tx_some (show pick c = some c.r by unfold pick; rw [if_neg (by rw [hst]; simp [h1, h2]), if_pos h3])
                rw [g1] at hsz
                have HTX : Hid (txs (L.take (k + 1)) = S ++ cat c.r) := by show _ = _; rw [HT.out, g1]
                have HCF : Hid (cfs (L.take (k + 1)) = M) := by show _ = _; rw [HC.out, g2, Nat.add_zero]
                have KJ := Lib.hid (refJoin_any A3 c.r.length k3 c.r w4 (HSW.out _ hbw).2.2 (by omega) (by omega))
                have HBN := Lib.hid (HBV.out _ hbw)
                obtain ⟨X1, hX1⟩ : ∃ X1, X1 = cat c.r := ⟨_, rfl⟩
                rw [← hX1] at HTX KJ hsz
                clear g1 g2 HT HC HSW HBV hX1 hbw h1 h2 h3
                go_wp2_with fail
                go_at_call 31
                refine KJ.out.mono ?_
                rintro e z ⟨rfl, rfl⟩
                clear KJ
                go_wp2_with fail
                go_roundw
                case rel => exact ⟨k + 1, by rw [HTX.out], by rw [HCF.out], by go_num, by omega, HBN⟩
                case measure => simp only [intOf]; omega
              · obtain rfl := bool_no hbb h3
                clear hbb
                obtain ⟨g1, g2⟩ := tx_none (show pick c = none by unfold pick; rw [if_neg (by rw [hst]; simp [h1, h2]), if_neg h3])
                rw [g1, ByteArray.size_append, ByteArray.size_append, ByteArray.size_append, ByteArray.size_append] at hsz
                have hAH : AH.size = 8 := rfl
                have hMI : MI.size = 8 := rfl
                have hBH : BH.size = 8 := rfl
                have HTX : Hid (txs (L.take (k + 1)) = S ++ AH ++ cat (clt c.l) ++ MI ++ cat (clt c.r) ++ BH) := by
                  show _ = _
                  rw [HT.out, g1]
                  simp only [ByteArray.append_assoc]
                have HCF : Hid (cfs (L.take (k + 1)) = M + 1) := by show _ = _; rw [HC.out, g2]
                have q1 := clt_size c.l
                have q2 := clt_size c.r
                have wM : IntKind.i64.wrap ((M : Int) + 1) = (M : Int) + 1 := IntWalk.i64_in _ (by omega)
                have KC1 : Hid (∀ W, Below (wr.alloc (.cells #[.bool false, .slice A1 c.b.length k1, .slice A2 c.l.length k2, .slice A3 c.r.length k3] 33)).heap.size (wr.alloc (.cells #[.bool false, .slice A1 c.b.length k1, .slice A2 c.l.length k2, .slice A3 c.r.length k3] 33)) W → Calls Try.prog 32 #[.slice A2 c.l.length k2] W fun e w' => ∃ v, e = .returned v ∧ Below (wr.alloc (.cells #[.bool false, .slice A1 c.b.length k1, .slice A2 c.l.length k2, .slice A3 c.r.length k3] 33)).heap.size (wr.alloc (.cells #[.bool false, .slice A1 c.b.length k1, .slice A2 c.l.length k2, .slice A3 c.r.length k3] 33)) w' ∧ Rd w' v (clt c.l)) := fun W hb =>
                  (refClosed_any A2 c.l.length k2 c.l W (HSW.out _ hb).2.1 (by omega) (fun k x hx => by have := line_le hx; omega)).mono fun e w' h => by
                    obtain ⟨v, e1, e2, e3⟩ := h
                    exact ⟨v, e1, below_call hb e3, lo_rd e2⟩
                have KC2 : Hid (∀ W, Below (wr.alloc (.cells #[.bool false, .slice A1 c.b.length k1, .slice A2 c.l.length k2, .slice A3 c.r.length k3] 33)).heap.size (wr.alloc (.cells #[.bool false, .slice A1 c.b.length k1, .slice A2 c.l.length k2, .slice A3 c.r.length k3] 33)) W → Calls Try.prog 32 #[.slice A3 c.r.length k3] W fun e w' => ∃ v, e = .returned v ∧ Below (wr.alloc (.cells #[.bool false, .slice A1 c.b.length k1, .slice A2 c.l.length k2, .slice A3 c.r.length k3] 33)).heap.size (wr.alloc (.cells #[.bool false, .slice A1 c.b.length k1, .slice A2 c.l.length k2, .slice A3 c.r.length k3] 33)) w' ∧ Rd w' v (clt c.r)) := fun W hb =>
                  (refClosed_any A3 c.r.length k3 c.r W (HSW.out _ hb).2.2 (by omega) (fun k x hx => by have := line_le hx; omega)).mono fun e w' h => by
                    obtain ⟨v, e1, e2, e3⟩ := h
                    exact ⟨v, e1, below_call hb e3, lo_rd e2⟩
                have hl4 : (clt c.l).length ≤ 9223372036854775807 := by rw [clt_len]; omega
                have hr4 : (clt c.r).length ≤ 9223372036854775807 := by rw [clt_len]; omega
                have KJ : Hid (∀ (l : List ByteArray) W v, l.length ≤ 9223372036854775807 → (cat l).size ≤ 9223372036854775807 → Below (wr.alloc (.cells #[.bool false, .slice A1 c.b.length k1, .slice A2 c.l.length k2, .slice A3 c.r.length k3] 33)).heap.size (wr.alloc (.cells #[.bool false, .slice A1 c.b.length k1, .slice A2 c.l.length k2, .slice A3 c.r.length k3] 33)) W → Rd W v l → Calls Try.prog 31 #[v] W fun e w' => e = .returned (.string (cat l)) ∧ Below (wr.alloc (.cells #[.bool false, .slice A1 c.b.length k1, .slice A2 c.l.length k2, .slice A3 c.r.length k3] 33)).heap.size (wr.alloc (.cells #[.bool false, .slice A1 c.b.length k1, .slice A2 c.l.length k2, .slice A3 c.r.length k3] 33)) w') := fun l W v h1 h2 hb hr => by
                  obtain ⟨A, cc, rfl, hs, _⟩ := hr
                  refine (refJoin_any A l.length cc l W hs h1 h2).mono fun e w' h => ?_
                  obtain ⟨rfl, rfl⟩ := h
                  exact ⟨rfl, hb⟩
                have hj1 : (cat (clt c.l)).size ≤ 9223372036854775807 := by omega
                have hj2 : (cat (clt c.r)).size ≤ 9223372036854775807 := by omega
                have hss : S.size + (cat (clt c.l)).size + (cat (clt c.r)).size + 24 ≤ 9223372036854775807 := by omega
                have hbd := hbw.drew
                have HBQ : Hid (∀ W, Below (wr.alloc (.cells #[.bool false, .slice A1 c.b.length k1, .slice A2 c.l.length k2, .slice A3 c.r.length k3] 33)).heap.size (wr.alloc (.cells #[.bool false, .slice A1 c.b.length k1, .slice A2 c.l.length k2, .slice A3 c.r.length k3] 33)) W → Below w1.heap.size w1 W) := HBV
                have HV2 : Hid (∀ W, Below (wr.alloc (.cells #[.bool false, .slice A1 c.b.length k1, .slice A2 c.l.length k2, .slice A3 c.r.length k3] 33)).heap.size (wr.alloc (.cells #[.bool false, .slice A1 c.b.length k1, .slice A2 c.l.length k2, .slice A3 c.r.length k3] 33)) W → W.cell? ⟨wr.heap.size, 2, none⟩ = some (.slice A2 c.l.length k2) ∧ W.cell? ⟨wr.heap.size, 3, none⟩ = some (.slice A3 c.r.length k3)) := fun W hb => ⟨(HV.out W hb).2.1, (HV.out W hb).2.2⟩
                clear g1 g2 HT HC HSW HBV hAH hMI hBH q1 q2 hsz h1 h2 h3 HV
                go_wp2_with fail
                refine Rg.wp_only ?_ (conflReg _ (by kernel_rfl) _ wr.heap.size c.l.length k2 c.r.length k3 A2 A3 S (cat (clt c.l)) (cat (clt c.r)) w4 (Below (wr.alloc (.cells #[.bool false, .slice A1 c.b.length k1, .slice A2 c.l.length k2, .slice A3 c.r.length k3] 33)).heap.size (wr.alloc (.cells #[.bool false, .slice A1 c.b.length k1, .slice A2 c.l.length k2, .slice A3 c.r.length k3] 33))) (fun W v => Rd W v (clt c.l)) (fun W v => Rd W v (clt c.r)) HV2.out hbd KC1.out (fun W v hb hr => KJ.out _ W v hl4 hj1 hb hr) KC2.out (fun W v hb hr => KJ.out _ W v hr4 hj2 hb hr) hss)
                rintro _ w5 ⟨p1, p2, rfl, h5⟩
                have HBN := Lib.hid (HBQ.out _ h5)
                clear KC1 KC2 KJ HV2 hbd hss hj1 hj2 hl4 hr4 h5 HBQ hbw
                go_wp2_with fail
                go_roundw
                case rel => exact ⟨k + 1, by rw [HTX.out]; rfl, by rw [HCF.out]; go_num, by go_num, by omega, HBN⟩
                case measure => simp only [intOf]; omega
      · have hkN : k = NL := by omega
        have e1 : ¬ (k : Int) < (NL : Int) := by omega
        have hE : L.take k = L := by rw [hkN, HNL.out, List.take_length]
        rw [hE]
        clear hE hkN
        have HBE := Lib.hid (HB1.out.trans (HB.out.mono HB1.out.size))
        go_wp2_with fail
        go_ret3
        refine ⟨?_, HBE.out⟩
        rw [HG.out.1, HG.out.2.1, HG.out.2.2]
        rfl
  · obtain ⟨m1, m2⟩ := mg_err he
    have HG : Hid (mtx s t u = ⟨#[]⟩ ∧ mcf s t u = 0) := ⟨m1, m2⟩
    obtain ⟨E, hE⟩ : ∃ E, E = err3 s t u := ⟨_, rfl⟩
    rw [← hE] at k0 he
    have HE := Lib.hid hE
    have he2 : ¬ (E : Int) = 0 := by omega
    have K0 := Lib.hid k0
    clear k0 hE m1 m2 he
    go_enter Try.func15, Try.ntmps15
    go_wp2_with fail
    go_at_call 10
    refine K0.out.mono ?_
    rintro e w1 ⟨v, cs, rfl, _, _, hb1⟩
    clear K0
    go_wp2_with fail
    go_ret3
    unfold MgTo
    rw [HG.out.1, HG.out.2, ← HE.out]
    exact ⟨rfl, hb1⟩
end Go.Proofs.Ytnpobigombafoaa.Mg

namespace Go.Proofs.Ytnpobigombafoaa.Mg
open Um Km Tx Lm Ln
set_option linter.unusedVariables false
set_option linter.unusedSectionVars false
abbrev Tr := Nat × Nat × Nat
def tr1 (t : Tr) : Tr := (t.1 + 1, t.2.1 + 1, t.2.2 + 1)
section
variable {α : Type} [DecidableEq α]
theorem trip_step {o a b : List α} {p q : Nat × Nat} {x y : List (Nat × Nat)} {i j k : Nat} (hx : Pth o a (p :: x) i j) (hy : Pth o b (q :: y) i k) :
    (p.1 = q.1 → trip (p :: x) (q :: y) = (p.1, p.2, q.2) :: trip x y) ∧ (p.1 < q.1 → trip (p :: x) (q :: y) = trip x (q :: y)) ∧ (q.1 < p.1 → trip (p :: x) (q :: y) = trip (p :: x) y) := by
  obtain ⟨x1, x2, ⟨xp, xq, xe⟩, x4⟩ := hx
  obtain ⟨y1, y2, ⟨yp, yq, ye⟩, y4⟩ := hy
  have gx : ∀ r, r ∈ x → p.1 < r.1 := fun r hr => by have := (pth_ge x x4 r hr).1; omega
  have gy : ∀ r, r ∈ y → q.1 < r.1 := fun r hr => by have := (pth_ge y y4 r hr).1; omega
  refine ⟨fun h => ?_, fun h => ?_, fun h => ?_⟩
  · rw [trip_cons, filter_one h.symm (fun r hr => by have := gy r hr; omega), trip_drop (fun r hr => by have := gx r hr; omega)]
    rfl
  · rw [trip_cons, filter_none]
    · rfl
    · intro r hr
      rcases List.mem_cons.1 hr with rfl | hr
      · omega
      · have := gy r hr; omega
  · exact trip_drop fun r hr => by
      rcases List.mem_cons.1 hr with rfl | hr
      · omega
      · have := gx r hr; omega
end
theorem trip_none (x : List (Nat × Nat)) : trip x [] = [] := by
  induction x with
  | nil => rfl
  | cons p x ih => rw [trip_cons, ih]; rfl
def jn (R : List (Tr × Tr)) (t : Tr) : List (Tr × Tr) := match R.getLast? with
  | none => R ++ [(t, tr1 t)]
  | some l => if l.2 = t then R.dropLast ++ [(l.1, tr1 t)] else R ++ [(t, tr1 t)]
theorem jn_nil (t : Tr) : jn [] t = [(t, tr1 t)] := rfl
theorem jn_snoc (R : List (Tr × Tr)) (l : Tr × Tr) (t : Tr) : jn (R ++ [l]) t = if l.2 = t then R ++ [(l.1, tr1 t)] else R ++ [l] ++ [(t, tr1 t)] := by
  unfold jn
  rw [List.getLast?_append, List.getLast?_singleton]
  show (if l.2 = t then (R ++ [l]).dropLast ++ [(l.1, tr1 t)] else R ++ [l] ++ [(t, tr1 t)]) = _
  rw [List.dropLast_concat]
theorem jn_len (R : List (Tr × Tr)) (t : Tr) : (jn R t).length ≤ R.length + 1 := by
  rcases List.eq_nil_or_concat R with rfl | ⟨R, l, rfl⟩
  · exact Nat.le_refl _
  · rw [List.concat_eq_append, jn_snoc]
    split <;> simp
section
variable {α : Type} [DecidableEq α]
def lg (o a b : List α) (s : Bool) (f t : Tr) (r : List (Ck α)) : List (Ck α) :=
  if f = t then r else ⟨s, (o.take t.1).drop f.1, (a.take t.2.1).drop f.2.1, (b.take t.2.2).drop f.2.2⟩ :: r
def st1 (o a b : List α) (S : Tr × List (Ck α)) (x : Tr × Tr) : Tr × List (Ck α) := (x.2, lg o a b true x.1 x.2 (lg o a b false S.1 x.1 S.2))
def stR (o a b : List α) (R : List (Tr × Tr)) : Tr × List (Ck α) := R.foldl (st1 o a b) ((0, 0, 0), [])
theorem stR_snoc (o a b : List α) (R : List (Tr × Tr)) (x : Tr × Tr) : stR o a b (R ++ [x]) = st1 o a b (stR o a b R) x := by
  unfold stR
  rw [List.foldl_append]
  rfl
theorem stR_take {o a b : List α} {R : List (Tr × Tr)} {n : Nat} {x : Tr × Tr} (h : R[n]? = some x) : stR o a b (R.take (n + 1)) = st1 o a b (stR o a b (R.take n)) x := by
  rw [List.take_add_one, h]
  exact stR_snoc o a b _ x
theorem lg_gap {o a b : List α} {i j k p q s : Nat} {r : List (Ck α)} (h1 : i ≤ p) (h2 : j ≤ q) (h3 : k ≤ s) : lg o a b false (i, j, k) (p, q, s) r = gapc o a b i j k p q s r := by
  unfold lg gapc
  by_cases h : i < p ∨ j < q ∨ k < s
  · rw [if_pos h, if_neg]
    intro e
    injection e with e1 e
    injection e with e2 e3
    omega
  · rw [if_neg h, if_pos]
    have e1 : i = p := by omega
    have e2 : j = q := by omega
    have e3 : k = s := by omega
    rw [e1, e2, e3]
def Rz : List (Tr × Tr) → Tr → Tr → Prop
  | [], d, e => d.1 ≤ e.1 ∧ d.2.1 ≤ e.2.1 ∧ d.2.2 ≤ e.2.2
  | x :: R, d, e => d.1 ≤ x.1.1 ∧ d.2.1 ≤ x.1.2.1 ∧ d.2.2 ≤ x.1.2.2 ∧ x.1.1 ≤ x.2.1 ∧ x.1.2.1 ≤ x.2.2.1 ∧ x.1.2.2 ≤ x.2.2.2 ∧ Rz R x.2 e
theorem rz_low {R : List (Tr × Tr)} : ∀ {d e : Tr}, Rz R d e → d.1 ≤ e.1 ∧ d.2.1 ≤ e.2.1 ∧ d.2.2 ≤ e.2.2 := by
  induction R with
  | nil => intro d e h; exact h
  | cons x R ih =>
    intro d e h
    obtain ⟨h1, h2, h3, h4, h5, h6, h7⟩ := h
    have := ih h7
    omega
theorem rz_snoc {R : List (Tr × Tr)} {f t : Tr} : ∀ {d e : Tr}, Rz R d e → e.1 ≤ f.1 → e.2.1 ≤ f.2.1 → e.2.2 ≤ f.2.2 → f.1 ≤ t.1 → f.2.1 ≤ t.2.1 → f.2.2 ≤ t.2.2 → Rz (R ++ [(f, t)]) d t := by
  induction R with
  | nil =>
    intro d e h h1 h2 h3 h4 h5 h6
    obtain ⟨g1, g2, g3⟩ := h
    exact ⟨by show d.1 ≤ f.1; omega, by show d.2.1 ≤ f.2.1; omega, by show d.2.2 ≤ f.2.2; omega, h4, h5, h6, Nat.le_refl _, Nat.le_refl _, Nat.le_refl _⟩
  | cons x R ih =>
    intro d e h h1 h2 h3 h4 h5 h6
    obtain ⟨k1, k2, k3, k4, k5, k6, k7⟩ := h
    exact ⟨k1, k2, k3, k4, k5, k6, ih k7 h1 h2 h3 h4 h5 h6⟩
theorem rz_unsnoc {R : List (Tr × Tr)} {x : Tr × Tr} : ∀ {d e : Tr}, Rz (R ++ [x]) d e → ∃ e', Rz R d e' ∧ e'.1 ≤ x.1.1 ∧ e'.2.1 ≤ x.1.2.1 ∧ e'.2.2 ≤ x.1.2.2 ∧ x.1.1 ≤ x.2.1 ∧ x.1.2.1 ≤ x.2.2.1 ∧ x.1.2.2 ≤ x.2.2.2 ∧ x.2.1 ≤ e.1 ∧ x.2.2.1 ≤ e.2.1 ∧ x.2.2.2 ≤ e.2.2 := by
  induction R with
  | nil =>
    intro d e h
    obtain ⟨h1, h2, h3, h4, h5, h6, h7⟩ := h
    exact ⟨d, ⟨Nat.le_refl _, Nat.le_refl _, Nat.le_refl _⟩, h1, h2, h3, h4, h5, h6, h7⟩
  | cons y R ih =>
    intro d e h
    obtain ⟨h1, h2, h3, h4, h5, h6, h7⟩ := h
    obtain ⟨e', k1, k2⟩ := ih h7
    exact ⟨e', ⟨h1, h2, h3, h4, h5, h6, k1⟩, k2⟩
theorem rz_at {o a b : List α} {R : List (Tr × Tr)} : ∀ {d e : Tr}, Rz R d e → ∀ (n : Nat) x, R[n]? = some x → ∀ r0, ((R.take n).foldl (st1 o a b) (d, r0)).1.1 ≤ x.1.1 ∧ ((R.take n).foldl (st1 o a b) (d, r0)).1.2.1 ≤ x.1.2.1 ∧ ((R.take n).foldl (st1 o a b) (d, r0)).1.2.2 ≤ x.1.2.2 ∧ x.1.1 ≤ x.2.1 ∧ x.1.2.1 ≤ x.2.2.1 ∧ x.1.2.2 ≤ x.2.2.2 ∧ x.2.1 ≤ e.1 ∧ x.2.2.1 ≤ e.2.1 ∧ x.2.2.2 ≤ e.2.2 := by
  induction R with
  | nil => intro d e _ n x hx; cases hx
  | cons y R ih =>
    intro d e h n x hx r0
    obtain ⟨h1, h2, h3, h4, h5, h6, h7⟩ := h
    cases n with
    | zero =>
      injection hx with hx
      subst hx
      have := rz_low h7
      exact ⟨h1, h2, h3, h4, h5, h6, this⟩
    | succ n =>
      have := ih h7 n x hx (lg o a b true y.1 y.2 (lg o a b false d y.1 r0))
      exact this
theorem stR_len (o a b : List α) (R : List (Tr × Tr)) : (stR o a b R).2.length ≤ 2 * R.length := by
  have lgl : ∀ s f t (r : List (Ck α)), (lg o a b s f t r).length ≤ r.length + 1 := fun s f t r => by
    unfold lg
    split
    · exact Nat.le_succ _
    · exact Nat.le_refl _
  have key : ∀ (R : List (Tr × Tr)) d r0, (R.foldl (st1 o a b) (d, r0)).2.length ≤ r0.length + 2 * R.length := by
    intro R
    induction R with
    | nil => intro d r0; simp
    | cons x R ih =>
      intro d r0
      rw [List.foldl_cons]
      have h1 := ih x.2 (lg o a b true x.1 x.2 (lg o a b false d x.1 r0))
      have h2 := lgl true x.1 x.2 (lg o a b false d x.1 r0)
      have h3 := lgl false d x.1 r0
      have e : st1 o a b (d, r0) x = (x.2, lg o a b true x.1 x.2 (lg o a b false d x.1 r0)) := rfl
      rw [e, List.length_cons]
      omega
  have := key R (0, 0, 0) []
  unfold stR
  simpa using this
structure Rin (o a b : List α) (R : List (Tr × Tr)) (d : Tr) (r : List (Ck α)) : Prop where
  same : stR o a b R = (d, r)
  rise : Rz R (0, 0, 0) d
  none_ : R = [] → r = []
  last : ∀ x, R.getLast? = some x → x.2 = d ∧ x.1.1 < x.2.1
theorem rin_start (o a b : List α) : Rin o a b [] (0, 0, 0) [] := ⟨rfl, ⟨Nat.le_refl _, Nat.le_refl _, Nat.le_refl _⟩, fun _ => rfl, fun x h => by cases h⟩
theorem cut1 {l : List α} {p : Nat} (h : p < l.length) : (l.take (p + 1)).drop p = [l[p]] := by
  rw [List.take_succ_eq_append_getElem h, List.drop_append_of_le_length (by rw [List.length_take]; omega), List.drop_eq_nil_of_le (by rw [List.length_take]; omega)]
  rfl
theorem cutS {l : List α} {f p : Nat} (hf : f ≤ p) (h : p < l.length) : (l.take (p + 1)).drop f = (l.take p).drop f ++ [l[p]] := by
  rw [List.take_succ_eq_append_getElem h, List.drop_append_of_le_length (by rw [List.length_take]; omega)]
theorem lg_yes {o a b : List α} {s : Bool} {f t : Tr} {r : List (Ck α)} (h : f.1 < t.1) : lg o a b s f t r = ⟨s, (o.take t.1).drop f.1, (a.take t.2.1).drop f.2.1, (b.take t.2.2).drop f.2.2⟩ :: r := by
  unfold lg
  rw [if_neg]
  intro e
  rw [e] at h
  omega
theorem rin_step {o a b : List α} {R : List (Tr × Tr)} {i j k : Nat} {r : List (Ck α)} (h : Rin o a b R (i, j, k) r) (hp : Pcs o a b i j k r) {t : Tr} (h1 : i ≤ t.1) (h2 : j ≤ t.2.1) (h3 : k ≤ t.2.2) (g1 : t.1 < o.length) (g2 : t.2.1 < a.length) (g3 : t.2.2 < b.length) (e1 : o[t.1] = a[t.2.1]) (e2 : o[t.1] = b[t.2.2]) :
    Rin o a b (jn R t) (tr1 t) (stab o[t.1] (gapc o a b i j k t.1 t.2.1 t.2.2 r)) := by
  obtain ⟨p, q, s⟩ := t
  simp only at h1 h2 h3 g1 g2 g3 e1 e2 ⊢
  have new : ∀ R', R' = R ++ [((p, q, s), tr1 (p, q, s))] → (gapc o a b i j k p q s r = r → ∀ c, r.head? = some c → c.st ≠ true) → Rin o a b R' (tr1 (p, q, s)) (stab o[p] (gapc o a b i j k p q s r)) := by
    intro R' hR' hst
    subst hR'
    have hlg : lg o a b true (p, q, s) (tr1 (p, q, s)) (gapc o a b i j k p q s r) = ⟨true, [o[p]], [o[p]], [o[p]]⟩ :: gapc o a b i j k p q s r := by
      rw [lg_yes (by show p < p + 1; omega)]
      show (⟨true, (o.take (p + 1)).drop p, (a.take (q + 1)).drop q, (b.take (s + 1)).drop s⟩ : Ck α) :: _ = _
      rw [cut1 g1, cut1 g2, cut1 g3, ← e1, ← e2]
    have hs : stab o[p] (gapc o a b i j k p q s r) = ⟨true, [o[p]], [o[p]], [o[p]]⟩ :: gapc o a b i j k p q s r := by
      by_cases hg : i < p ∨ j < q ∨ k < s
      · unfold gapc
        rw [if_pos hg, stab, if_neg Bool.false_ne_true]
      · have hg0 : gapc o a b i j k p q s r = r := by unfold gapc; rw [if_neg hg]
        rw [hg0]
        cases r with
        | nil => rfl
        | cons c r => rw [stab, if_neg (hst hg0 c rfl)]
    refine ⟨?_, rz_snoc h.rise h1 h2 h3 (Nat.le_succ _) (Nat.le_succ _) (Nat.le_succ _), fun e => by simp at e, fun x hx => ?_⟩
    · rw [stR_snoc, h.same, hs, ← hlg]
      unfold st1
      rw [lg_gap h1 h2 h3]
    · rw [List.getLast?_append, List.getLast?_singleton] at hx
      injection hx with hx
      subst hx
      exact ⟨rfl, Nat.lt_succ_self _⟩
  rcases List.eq_nil_or_concat R with rfl | ⟨R0, l, rfl⟩
  · obtain rfl := h.none_ rfl
    exact new _ rfl (fun _ c hc => by cases hc)
  · rw [List.concat_eq_append] at h new ⊢
    rw [jn_snoc]
    have hl := h.last l (by rw [List.getLast?_append, List.getLast?_singleton]; rfl)
    obtain ⟨hl1, hl2⟩ := hl
    by_cases he : l.2 = (p, q, s)
    · rw [if_pos he]
      rw [hl1] at he
      injection he with he1 he
      injection he with he2 he3
      subst he1
      subst he2
      subst he3
      have hsm := h.same
      rw [stR_snoc] at hsm
      unfold st1 at hsm
      injection hsm with hs1 hs2
      obtain ⟨f, t⟩ := l
      simp only at hl1 hl2 hs1 hs2
      subst hs1
      rw [lg_yes hl2] at hs2
      obtain ⟨e', k1, k2, k3, k4, k5, k6, k7, k8, k9, k10⟩ := rz_unsnoc h.rise
      simp only at k2 k3 k4 k5 k6 k7 hs2
      have hg0 : gapc o a b i j k i j k r = r := by unfold gapc; rw [if_neg (by omega)]
      rw [hg0]
      have hc := (hp.full _ (by rw [← hs2]; exact List.mem_cons_self ..)).2 rfl
      simp only at hc
      obtain ⟨hc1, hc2⟩ := hc
      refine ⟨?_, rz_snoc k1 k2 k3 k4 (by show f.1 ≤ i + 1; omega) (by show f.2.1 ≤ j + 1; omega) (by show f.2.2 ≤ k + 1; omega), fun e => by simp at e, fun x hx => ?_⟩
      · rw [stR_snoc]
        unfold st1
        rw [← hs2, stab, if_pos rfl, lg_yes (by show f.1 < i + 1; omega)]
        show (tr1 (i, j, k), (⟨true, (o.take (i + 1)).drop f.1, (a.take (j + 1)).drop f.2.1, (b.take (k + 1)).drop f.2.2⟩ : Ck α) :: _) = _
        rw [cutS (by omega) g1, cutS (by omega) g2, cutS (by omega) g3, ← hc1, ← hc2, ← e1, ← e2]
      · rw [List.getLast?_append, List.getLast?_singleton] at hx
        injection hx with hx
        subst hx
        exact ⟨rfl, by show f.1 < i + 1; omega⟩
    · rw [if_neg he]
      refine new _ rfl (fun hg0 c hc => ?_)
      exfalso
      apply he
      rw [hl1]
      unfold gapc at hg0
      by_cases hg : i < p ∨ j < q ∨ k < s
      · rw [if_pos hg] at hg0
        have := congrArg List.length hg0
        rw [List.length_cons] at this
        omega
      · have q1 : i = p := by omega
        have q2 : j = q := by omega
        have q3 : k = s := by omega
        rw [q1, q2, q3]
theorem rin_all {o a b : List α} (T : List Tr) : ∀ {R : List (Tr × Tr)} {i j k : Nat} {r : List (Ck α)}, Rin o a b R (i, j, k) r → Pcs o a b i j k r → Kept1 r → Pt3 o a b T i j k →
    Rz (T.foldl jn R ++ [((o.length, a.length, b.length), (o.length, a.length, b.length))]) (0, 0, 0) (o.length, a.length, b.length) ∧
    (stR o a b (T.foldl jn R ++ [((o.length, a.length, b.length), (o.length, a.length, b.length))])).2 = cks o a b T i j k r := by
  induction T with
  | nil =>
    intro R i j k r h hp hk ht
    obtain ⟨t1, t2, t3⟩ := ht
    refine ⟨rz_snoc h.rise t1 t2 t3 (Nat.le_refl _) (Nat.le_refl _) (Nat.le_refl _), ?_⟩
    rw [stR_snoc]
    show (st1 o a b (stR o a b R) _).2 = gapc o a b i j k o.length a.length b.length r
    rw [h.same, ← lg_gap t1 t2 t3]
    show lg o a b true _ _ _ = _
    unfold lg
    rw [if_pos rfl]
  | cons t T ih =>
    intro R i j k r h hp hk ht
    obtain ⟨h1, h2, h3, ⟨g1, g2, g3, e1, e2⟩, h4⟩ := ht
    rw [cks_cons g1, List.foldl_cons]
    exact ih (rin_step h hp h1 h2 h3 g1 g2 g3 e1 e2) (pcs_stab (pcs_gap hp hk h1 h2 h3 (by omega) (by omega) (by omega)) g1 g2 g3 e1 e2) (kept_stab _ _) h4
def rws (o a b : List α) : List (Tr × Tr) := (trip (pairs 0 0 (steps o a)) (pairs 0 0 (steps o b))).foldl jn []
def ends3 (o a b : List α) : Tr × Tr := ((o.length, a.length, b.length), (o.length, a.length, b.length))
theorem rws_all (o a b : List α) : Rz (rws o a b ++ [ends3 o a b]) (0, 0, 0) (o.length, a.length, b.length) ∧ (stR o a b (rws o a b ++ [ends3 o a b])).2 = pie o a b :=
  rin_all _ (rin_start o a b) (pcs_start o a b) (fun c hc => by cases hc) (pie_pt3 o a b)
theorem foldl_jn_len (T : List Tr) : ∀ R : List (Tr × Tr), (T.foldl jn R).length ≤ R.length + T.length := by
  induction T with
  | nil => intro R; exact Nat.le_refl _
  | cons t T ih =>
    intro R
    rw [List.foldl_cons, List.length_cons]
    have h1 := ih (jn R t)
    have h2 := jn_len R t
    omega
end
end Go.Proofs.Ytnpobigombafoaa.Mg

namespace Go.Proofs.Ytnpobigombafoaa.Mg
open Go.RowKit Go.ChangeShapes Go.WideShapes Tx Um Ud Aq Km Kd Lm Ln
set_option linter.unusedVariables false
theorem infoP : (Try.prog.info? 54).map (fun i => (i.zero, i.size, i.bytes)) = some (some (.agg #[.int .i64 0, .int .i64 0, .int .i64 0, .int .i64 0, .int .i64 0, .int .i64 0]), 6, 48) := by kernel_rfl
def h6 (x : Tr × Tr) : List Value := c3 x.1 ++ c3 x.2
theorem h6_eq (x : Tr × Tr) : h6 x = [iv x.1.1, iv x.1.2.1, iv x.1.2.2, iv x.2.1, iv x.2.2.1, iv x.2.2.2] := rfl
theorem flat6_len (l : List (Tr × Tr)) : (l.flatMap h6).length = l.length * 6 := by
  induction l with
  | nil => rfl
  | cons x l ih => rw [List.flatMap_cons, List.length_append, ih, List.length_cons]; show 6 + _ = _; omega
theorem flat6_get (l : List (Tr × Tr)) (k : Nat) (x : Tr × Tr) (h : l[k]? = some x) (j : Nat) (u : Value) (hj : (h6 x)[j]? = some u) : (l.flatMap h6)[k * 6 + j]? = some u := by
  induction l generalizing k with
  | nil => cases h
  | cons y l ih =>
    rw [List.flatMap_cons]
    cases k with
    | zero =>
      injection h with h
      subst h
      have hlt : j < (h6 y).length := (List.getElem?_eq_some_iff.1 hj).1
      rw [Nat.zero_mul, Nat.zero_add, List.getElem?_append_left hlt]
      exact hj
    | succ k =>
      have e : (h6 y).length = 6 := rfl
      rw [List.getElem?_append_right (by omega), e, show (k + 1) * 6 + j - 6 = k * 6 + j by omega]
      exact ih k h
def Rwo (w : World) (B : Nat) (v : Value) (R : List (Tr × Tr)) : Prop := w.ownsRow B 54 6 v R.length (R.flatMap h6)
theorem Rwo.below {w w1 : World} {B : Nat} {v : Value} {R : List (Tr × Tr)} (h : Rwo w B v R) (hb : Below w.heap.size w w1) : Rwo w1 B v R := by
  refine ⟨h.1, ?_⟩
  rcases h.2 with h0 | ⟨g', cap', cur, hv, hg, hh, r⟩
  · exact .inl h0
  · exact .inr ⟨g', cap', cur, hv, hg, (hb.block g' (Array.getElem?_eq_some_iff.1 hh).1).trans hh, r⟩
theorem rwo_nil (w : World) (B : Nat) : Rwo w B (.slice none 0 0) [] := World.ownsRow_nil _ _ _ _
theorem Rwo.lt {w : World} {B : Nat} {v : Value} {R : List (Tr × Tr)} (h : Rwo w B v R) : ∀ k, v.ownBlock = some k → B ≤ k ∧ k < w.heap.size := World.ownsRow.lt h
def Six (g k : Nat) (x : Tr × Tr) (W : World) : Prop := W.cell? ⟨g, k * 6, none⟩ = some (iv x.1.1) ∧ W.cell? ⟨g, k * 6 + 1, none⟩ = some (iv x.1.2.1) ∧ W.cell? ⟨g, k * 6 + 2, none⟩ = some (iv x.1.2.2) ∧ W.cell? ⟨g, k * 6 + 3, none⟩ = some (iv x.2.1) ∧ W.cell? ⟨g, k * 6 + 4, none⟩ = some (iv x.2.2.1) ∧ W.cell? ⟨g, k * 6 + 5, none⟩ = some (iv x.2.2.2)
theorem Six.below {g k : Nat} {x : Tr × Tr} {B : Nat} {w W : World} (h : Six g k x w) (hb : Below B w W) (hg : g < B) : Six g k x W :=
  ⟨(hb.cell (p := ⟨g, _, none⟩) hg).trans h.1, (hb.cell (p := ⟨g, _, none⟩) hg).trans h.2.1, (hb.cell (p := ⟨g, _, none⟩) hg).trans h.2.2.1, (hb.cell (p := ⟨g, _, none⟩) hg).trans h.2.2.2.1, (hb.cell (p := ⟨g, _, none⟩) hg).trans h.2.2.2.2.1, (hb.cell (p := ⟨g, _, none⟩) hg).trans h.2.2.2.2.2⟩
theorem Rwo.form {w : World} {B : Nat} {v : Value} {R : List (Tr × Tr)} (h : Rwo w B v R) : ∃ a c, v = .slice a R.length c ∧ (R.length = 0 ∨ ∃ g, a = some ⟨g, 0, none⟩ ∧ B ≤ g ∧ g < w.heap.size ∧ (∀ k, w.frozen? ⟨g, k, none⟩ = false) ∧ ∀ (k : Nat) x, R[k]? = some x → Six g k x w) := by
  have hh := h
  rcases h.2 with ⟨rfl, h0⟩ | ⟨g, cap, cur, rfl, hg, hh2, hn, hc, _⟩
  · exact ⟨none, 0, by rw [h0], .inl h0⟩
  · refine ⟨some ⟨g, 0, none⟩, cap, rfl, .inr ⟨g, rfl, hg, (Array.getElem?_eq_some_iff.1 hh2).1, fun k => by simp [World.frozen?, hh2], fun k x hx => ?_⟩⟩
    have key : ∀ j u, (h6 x)[j]? = some u → w.cell? ⟨g, k * 6 + j, none⟩ = some u := fun j u hj => by
      have e := World.ownsRow.cells (g := g) hh rfl _ _ (flat6_get R k x hx j u hj)
      rw [WideShapes.add_plain, Nat.zero_add] at e
      exact e
    exact ⟨key 0 _ rfl, key 1 _ rfl, key 2 _ rfl, key 3 _ rfl, key 4 _ rfl, key 5 _ rfl⟩
theorem run_eql_three (a b c x y z : Int) (w : World) : (Op.equalIn 10000 52 (.agg #[.int .i64 a, .int .i64 b, .int .i64 c]) (.agg #[.int .i64 x, .int .i64 y, .int .i64 z])).run Try.prog w = .ok ((a == x) && (b == y) && (c == z)) w := by
  obtain ⟨iI, hI, _⟩ := info_parts infoInt
  have hu : Try.prog.underlying 3 = some (.int .i64) := by kernel_rfl
  have hc : Try.prog.cellsOf 3 = 1 := by kernel_rfl
  have hk : Try.prog.plainKey 3 = true := by kernel_rfl
  have p0 : ∀ (x y z : Int), (part 3 #[.int .i64 x, .int .i64 y, .int .i64 z] (0 * 1)).run Try.prog w = .ok (.int .i64 x) w := fun x y z => run_part_plain w hk rfl
  have p1 : ∀ (x y z : Int), (part 3 #[.int .i64 x, .int .i64 y, .int .i64 z] (1 * 1)).run Try.prog w = .ok (.int .i64 y) w := fun x y z => run_part_plain w hk rfl
  have p2 : ∀ (x y z : Int), (part 3 #[.int .i64 x, .int .i64 y, .int .i64 z] (2 * 1)).run Try.prog w = .ok (.int .i64 z) w := fun x y z => run_part_plain w hk rfl
  rw [show (10000 : Nat) = 9999 + 1 from rfl, run_equalIn_array w 9999 _ _ (show Try.prog.underlying 52 = some (.array 3 3) by kernel_rfl) hI, hc, show List.range 3 = [0, 1, 2] from rfl]
  simp only [Op.eqItems, Sem.run_bind, p0, Result.andThen_ok]
  have q1 : ∀ (x y : Int), (Op.equalIn 9999 3 (.int .i64 x) (.int .i64 y)).run Try.prog w = .ok (x == y) w := fun x y => run_equalIn_int w 9998 _ .i64 .i64 x y hu
  rw [q1]
  simp only [Result.andThen_ok]
  cases h1 : a == x
  · simp
  · simp only [Bool.not_true, Bool.false_eq_true, if_false, Sem.run_bind, p1, Result.andThen_ok, q1]
    cases h2 : b == y
    · simp
    · simp only [Bool.not_true, Bool.false_eq_true, if_false, Sem.run_bind, p2, Result.andThen_ok, q1]
      cases h3 : c == z <;> simp
theorem three_eq (s t : Tr) : ((((s.1 : Nat) : Int) == (t.1 : Int)) && ((s.2.1 : Int) == (t.2.1 : Int)) && ((s.2.2 : Int) == (t.2.2 : Int))) = decide (s = t) := by
  obtain ⟨a, b, c⟩ := s
  obtain ⟨x, y, z⟩ := t
  by_cases h : (a, b, c) = (x, y, z)
  · injection h with h1 h
    injection h with h2 h3
    subst h1
    subst h2
    subst h3
    simp
  · rw [decide_eq_false h]
    have h0 : ¬ (a = x ∧ b = y ∧ c = z) := fun ⟨h1, h2, h3⟩ => h (by rw [h1, h2, h3])
    simp only [Bool.and_eq_false_iff, beq_eq_false_iff_ne]
    omega
theorem run_neq_three (s t : Tr) (w : World) : (binOp .neq 52 (.agg #[.int .i64 (s.1 : Int), .int .i64 (s.2.1 : Int), .int .i64 (s.2.2 : Int)]) (.agg #[.int .i64 (t.1 : Int), .int .i64 (t.2.1 : Int), .int .i64 (t.2.2 : Int)])).run Try.prog w = .ok (.bool (!decide (s = t))) w := by
  rw [run_neq_struct, run_eql_three, three_eq]
  rfl
theorem guard3 : Try.prog.eqGuardType Try.prog.depth 52 = false := by kernel_rfl
end Go.Proofs.Ytnpobigombafoaa.Mg

namespace Go.Proofs.Ytnpobigombafoaa.Mg
open Go.RowKit Go.ChangeShapes Go.WideShapes Tx Um Ud Aq Km Kd Lm Ln
set_option linter.unusedVariables false
def Thr (p : Nat) (t : Tr) (W : World) : Prop := W.cell? ⟨p, 0, none⟩ = some (.int .i64 (t.1 : Int)) ∧ W.cell? ⟨p, 1, none⟩ = some (.int .i64 (t.2.1 : Int)) ∧ W.cell? ⟨p, 2, none⟩ = some (.int .i64 (t.2.2 : Int))
set_option maxRecDepth 100000 in
set_option maxHeartbeats 4000000 in
theorem joinRegT (ops : Array Oper) (hops : ops = (Rg.opsOf Try.f38 3)) (id : Nat) {u0 u1 u2 u3 u4 u5 u7 u8 u9 u10 u11 u12 u13 u14 u15 u16 u17 u18 u19 u20 u21 u22 u23 u24 u25 u26 u27 u28 u29 u30 u31 u32 u33 u34 u35 u36 u37 u38 u39 u40 u41 u42 : Value} (w : World) (X : World → Prop) (hw : X w.drew) :
    (Code.region id ops true).wp Try.prog (Rg.Only fun a' w' => a' = ⟨#[u0, u1, u2, u3, u4, u5, (.int .i64 (-1)), u7, u8, u9, u10, u11, u12, u13, u14, u15, u16, u17, u18, u19, (.int .i64 (-1)), (.bool true), (.bool true), undef, undef, undef, undef, undef, undef, undef, (Value.bool true), u31, u32, u33, u34, u35, u36, u37, u38, u39, u40, u41, u42], []⟩ ∧ X w') ⟨#[u0, u1, u2, u3, u4, u5, (.int .i64 (-1)), u7, u8, u9, u10, u11, u12, u13, u14, u15, u16, u17, u18, u19, u20, u21, u22, u23, u24, u25, u26, u27, u28, u29, u30, u31, u32, u33, u34, u35, u36, u37, u38, u39, u40, u41, u42], []⟩ w := by
  subst hops
  have hNS : Region.noSelect (Rg.opsOf Try.f38 3) = true := by kernel_rfl
  refine wp_region_held_drew (S := X) (by kernel_rfl) hw (fun hHeld => ?_)
  rw [show (Rg.opsOf Try.f38 3).size = 11 by kernel_rfl]
  refine Rg.take (ops := (Rg.opsOf Try.f38 3)) 0 (some 20) ((.int .i64 (-1))) hNS (by kernel_rfl) (by kernel_rfl) (by kernel_rfl) (by kernel_rfl) (by kernel_rfl) hHeld (Rg.y_move (x := (Operand.tmp 6)) (Or.inl (by kernel_rfl)) (by kernel_rfl)) ?_
  refine Rg.take (ops := (Rg.opsOf Try.f38 3)) 1 (some 21) ((.bool true)) hNS (by kernel_rfl) (by kernel_rfl) (by kernel_rfl) (by kernel_rfl) (by kernel_rfl) hHeld (Rg.y_bin (b := BinOp.lss) (T := 3) (R' := 3) (x := (Operand.tmp 20)) (y := (Operand.const (Value.int IntKind.i64 0))) (vx := (.int .i64 (-1))) (vy := (Value.int IntKind.i64 0)) (by kernel_rfl) (by kernel_rfl) (by kernel_rfl) ?_) ?_
  · (intro W hSw; clear hSw hHeld; go_simp)
  refine Rg.take (ops := (Rg.opsOf Try.f38 3)) 2 (some 22) ((.bool true)) hNS (by kernel_rfl) (by kernel_rfl) (by kernel_rfl) (by kernel_rfl) (by kernel_rfl) hHeld (Rg.y_move (x := (Operand.tmp 21)) (Or.inl (by kernel_rfl)) (by kernel_rfl)) ?_
  refine Rg.skip (ops := (Rg.opsOf Try.f38 3)) 3 (some 23) hNS (by kernel_rfl) (by kernel_rfl) (by kernel_rfl) (by kernel_rfl) (by kernel_rfl) hHeld ?_
  refine Rg.skip (ops := (Rg.opsOf Try.f38 3)) 4 (some 24) hNS (by kernel_rfl) (by kernel_rfl) (by kernel_rfl) (by kernel_rfl) (by kernel_rfl) hHeld ?_
  refine Rg.skip (ops := (Rg.opsOf Try.f38 3)) 5 (some 25) hNS (by kernel_rfl) (by kernel_rfl) (by kernel_rfl) (by kernel_rfl) (by kernel_rfl) hHeld ?_
  refine Rg.skip (ops := (Rg.opsOf Try.f38 3)) 6 (some 26) hNS (by kernel_rfl) (by kernel_rfl) (by kernel_rfl) (by kernel_rfl) (by kernel_rfl) hHeld ?_
  refine Rg.skip (ops := (Rg.opsOf Try.f38 3)) 7 (some 27) hNS (by kernel_rfl) (by kernel_rfl) (by kernel_rfl) (by kernel_rfl) (by kernel_rfl) hHeld ?_
  refine Rg.skip (ops := (Rg.opsOf Try.f38 3)) 8 (some 28) hNS (by kernel_rfl) (by kernel_rfl) (by kernel_rfl) (by kernel_rfl) (by kernel_rfl) hHeld ?_
  refine Rg.skip (ops := (Rg.opsOf Try.f38 3)) 9 (some 29) hNS (by kernel_rfl) (by kernel_rfl) (by kernel_rfl) (by kernel_rfl) (by kernel_rfl) hHeld ?_
  refine Rg.take (ops := (Rg.opsOf Try.f38 3)) 10 (some 30) ((Value.bool true)) hNS (by kernel_rfl) (by kernel_rfl) (by kernel_rfl) (by kernel_rfl) (by kernel_rfl) hHeld (Rg.y_pick (c := (Operand.tmp 22)) (x := (Operand.const (Value.bool true))) (y := (Operand.tmp 29)) (b := true) (by kernel_rfl) (by kernel_rfl) (by kernel_rfl)) ?_
  refine Rg.done (ops := (Rg.opsOf Try.f38 3)) (by kernel_rfl) ?_
  exact ⟨by kernel_rfl, hHeld⟩
set_option maxRecDepth 100000 in
set_option maxHeartbeats 4000000 in
theorem joinRegF (ops : Array Oper) (hops : ops = (Rg.opsOf Try.f38 3)) (id : Nat) (g n c p k : Nat) (l : Tr × Tr) (t : Tr) {u1 u2 u4 u5 u7 u8 u9 u10 u11 u12 u13 u14 u15 u16 u17 u18 u19 u20 u21 u22 u23 u24 u25 u26 u27 u28 u29 u30 u31 u32 u33 u34 u35 u36 u37 u38 u39 u40 u41 u42 : Value} (w : World) (hk : (k : Int) < (n : Int)) (X : World → Prop) (hX : ∀ W, X W → Six g k l W ∧ Thr p t W) (hw : X w.drew) :
    (Code.region id ops true).wp Try.prog (Rg.Only fun a' w' => a' = ⟨#[(.slice (some ⟨g, 0, none⟩) n c), u1, u2, (.pointer (some ⟨p, 0, none⟩)), u4, u5, (.int .i64 (k : Int)), u7, u8, u9, u10, u11, u12, u13, u14, u15, u16, u17, u18, u19, (.int .i64 (k : Int)), (.bool false), (.bool false), (.slice (some ⟨g, 0, none⟩) n c), (.int .i64 (k : Int)), (.pointer (some ⟨g, k * 6, none⟩)), (.pointer (some ⟨g, k * 6 + 3, none⟩)), (.agg #[.int .i64 (l.2.1 : Int), .int .i64 (l.2.2.1 : Int), .int .i64 (l.2.2.2 : Int)]), (.agg #[.int .i64 (t.1 : Int), .int .i64 (t.2.1 : Int), .int .i64 (t.2.2 : Int)]), (.bool (!decide (l.2 = t))), (.bool (!decide (l.2 = t))), u31, u32, u33, u34, u35, u36, u37, u38, u39, u40, u41, u42], []⟩ ∧ X w') ⟨#[(.slice (some ⟨g, 0, none⟩) n c), u1, u2, (.pointer (some ⟨p, 0, none⟩)), u4, u5, (.int .i64 (k : Int)), u7, u8, u9, u10, u11, u12, u13, u14, u15, u16, u17, u18, u19, u20, u21, u22, u23, u24, u25, u26, u27, u28, u29, u30, u31, u32, u33, u34, u35, u36, u37, u38, u39, u40, u41, u42], []⟩ w := by
  subst hops
  have hNS : Region.noSelect (Rg.opsOf Try.f38 3) = true := by kernel_rfl
  refine wp_region_held_drew (S := X) (by kernel_rfl) hw (fun hHeld => ?_)
  rw [show (Rg.opsOf Try.f38 3).size = 11 by kernel_rfl]
  refine Rg.take (ops := (Rg.opsOf Try.f38 3)) 0 (some 20) ((.int .i64 (k : Int))) hNS (by kernel_rfl) (by kernel_rfl) (by kernel_rfl) (by kernel_rfl) (by kernel_rfl) hHeld (Rg.y_move (x := (Operand.tmp 6)) (Or.inl (by kernel_rfl)) (by kernel_rfl)) ?_
  refine Rg.take (ops := (Rg.opsOf Try.f38 3)) 1 (some 21) ((.bool false)) hNS (by kernel_rfl) (by kernel_rfl) (by kernel_rfl) (by kernel_rfl) (by kernel_rfl) hHeld (Rg.y_bin (b := BinOp.lss) (T := 3) (R' := 3) (x := (Operand.tmp 20)) (y := (Operand.const (Value.int IntKind.i64 0))) (vx := (.int .i64 (k : Int))) (vy := (Value.int IntKind.i64 0)) (by kernel_rfl) (by kernel_rfl) (by kernel_rfl) ?_) ?_
  · (intro W hSw; clear hSw hHeld; go_simp <;> first | omega | (intro h0; omega))
  refine Rg.take (ops := (Rg.opsOf Try.f38 3)) 2 (some 22) ((.bool false)) hNS (by kernel_rfl) (by kernel_rfl) (by kernel_rfl) (by kernel_rfl) (by kernel_rfl) hHeld (Rg.y_move (x := (Operand.tmp 21)) (Or.inl (by kernel_rfl)) (by kernel_rfl)) ?_
  refine Rg.take (ops := (Rg.opsOf Try.f38 3)) 3 (some 23) ((.slice (some ⟨g, 0, none⟩) n c)) hNS (by kernel_rfl) (by kernel_rfl) (by kernel_rfl) (by kernel_rfl) (by kernel_rfl) hHeld (Rg.y_move (x := (Operand.tmp 0)) (Or.inl (by kernel_rfl)) (by kernel_rfl)) ?_
  refine Rg.take (ops := (Rg.opsOf Try.f38 3)) 4 (some 24) ((.int .i64 (k : Int))) hNS (by kernel_rfl) (by kernel_rfl) (by kernel_rfl) (by kernel_rfl) (by kernel_rfl) hHeld (Rg.y_move (x := (Operand.tmp 6)) (Or.inl (by kernel_rfl)) (by kernel_rfl)) ?_
  refine Rg.take (ops := (Rg.opsOf Try.f38 3)) 5 (some 25) ((.pointer (some ⟨g, k * 6, none⟩))) hNS (by kernel_rfl) (by kernel_rfl) (by kernel_rfl) (by kernel_rfl) (by kernel_rfl) hHeld (Rg.y_at (T := 48) (x := (Operand.tmp 23)) (y := (Operand.tmp 24)) (vx := (.slice (some ⟨g, 0, none⟩) n c)) (vy := (.int .i64 (k : Int))) (by kernel_rfl) (by kernel_rfl) (by kernel_rfl) ?_) ?_
  · (intro W hSw; clear hSw hHeld; go_simp)
  refine Rg.take (ops := (Rg.opsOf Try.f38 3)) 6 (some 26) ((.pointer (some ⟨g, k * 6 + 3, none⟩))) hNS (by kernel_rfl) (by kernel_rfl) (by kernel_rfl) (by kernel_rfl) (by kernel_rfl) hHeld (Rg.y_field (T := 54) (k := 1) (x := (Operand.tmp 25)) (vx := (.pointer (some ⟨g, k * 6, none⟩))) (by kernel_rfl) (by kernel_rfl) ?_) ?_
  · (intro W hSw; clear hSw hHeld; go_simp)
  refine Rg.take (ops := (Rg.opsOf Try.f38 3)) 7 (some 27) ((.agg #[.int .i64 (l.2.1 : Int), .int .i64 (l.2.2.1 : Int), .int .i64 (l.2.2.2 : Int)])) hNS (by kernel_rfl) (by kernel_rfl) (by kernel_rfl) (by kernel_rfl) (by kernel_rfl) hHeld (Rg.y_load (T := 52) (x := (Operand.tmp 26)) (vx := (.pointer (some ⟨g, k * 6 + 3, none⟩))) (by kernel_rfl) (by kernel_rfl) ?_) ?_
  · (intro W hSw; obtain ⟨⟨s0, s1, s2, s3, s4, s5⟩, z0, z1, z2⟩ := hX _ hSw; unfold iv at s0 s1 s2 s3 s4 s5; clear hSw hHeld; go_simp)
  refine Rg.take (ops := (Rg.opsOf Try.f38 3)) 8 (some 28) ((.agg #[.int .i64 (t.1 : Int), .int .i64 (t.2.1 : Int), .int .i64 (t.2.2 : Int)])) hNS (by kernel_rfl) (by kernel_rfl) (by kernel_rfl) (by kernel_rfl) (by kernel_rfl) hHeld (Rg.y_load (T := 52) (x := (Operand.tmp 3)) (vx := (.pointer (some ⟨p, 0, none⟩))) (by kernel_rfl) (by kernel_rfl) ?_) ?_
  · (intro W hSw; obtain ⟨⟨s0, s1, s2, s3, s4, s5⟩, z0, z1, z2⟩ := hX _ hSw; unfold iv at s0 s1 s2 s3 s4 s5; clear hSw hHeld; go_simp)
  refine Rg.take (ops := (Rg.opsOf Try.f38 3)) 9 (some 29) ((.bool (!decide (l.2 = t)))) hNS (by kernel_rfl) (by kernel_rfl) (by kernel_rfl) (by kernel_rfl) (by kernel_rfl) hHeld (Rg.y_bin (b := BinOp.neq) (T := 52) (R' := 52) (x := (Operand.tmp 27)) (y := (Operand.tmp 28)) (vx := (.agg #[.int .i64 (l.2.1 : Int), .int .i64 (l.2.2.1 : Int), .int .i64 (l.2.2.2 : Int)])) (vy := (.agg #[.int .i64 (t.1 : Int), .int .i64 (t.2.1 : Int), .int .i64 (t.2.2 : Int)])) (by kernel_rfl) (by kernel_rfl) (by kernel_rfl) ?_) ?_
  · (intro W hSw; clear hSw hHeld; exact run_neq_three l.2 t W)
  refine Rg.take (ops := (Rg.opsOf Try.f38 3)) 10 (some 30) ((.bool (!decide (l.2 = t)))) hNS (by kernel_rfl) (by kernel_rfl) (by kernel_rfl) (by kernel_rfl) (by kernel_rfl) hHeld (Rg.y_pick (c := (Operand.tmp 22)) (x := (Operand.const (Value.bool true))) (y := (Operand.tmp 29)) (b := false) (by kernel_rfl) (by kernel_rfl) (by kernel_rfl)) ?_
  refine Rg.done (ops := (Rg.opsOf Try.f38 3)) (by kernel_rfl) ?_
  exact ⟨by kernel_rfl, hHeld⟩
end Go.Proofs.Ytnpobigombafoaa.Mg

namespace Go.Proofs.Ytnpobigombafoaa.Mg
open Go.RowKit Go.ChangeShapes Go.WideShapes Tx Um Ud Aq Km Kd Lm Ln
set_option linter.unusedVariables false
def Txt3 (pt mo co ma ca mb cb : Nat) (Ao Aa Ab : Option Addr) (W : World) : Prop := W.cell? ⟨pt, 0, none⟩ = some (.slice Ao mo co) ∧ W.cell? ⟨pt, 1, none⟩ = some (.slice Aa ma ca) ∧ W.cell? ⟨pt, 2, none⟩ = some (.slice Ab mb cb)
set_option maxRecDepth 100000 in
set_option maxHeartbeats 4000000 in
theorem longReg (ops : Array Oper) (hops : ops = (Rg.opsOf Try.f23 3)) (id : Nat) (pt pf pg mo co ma ca mb cb no lo na la nb lb : Nat) (Ao Aa Ab Eo Ea Eb : Option Addr) (st : Bool) (f t : Tr) (vL : Value) {u1 u3 u4 u5 u7 u10 u11 u12 u13 u14 u15 u16 u17 u18 u19 u20 u21 u22 u23 u24 u25 u26 u27 u28 u29 u30 u31 u32 u33 u34 u35 u36 u37 u38 u39 u40 u41 u42 u43 : Value} (w : World) (X : World → Prop) (Y1 Y2 Y3 : World → World → Value → Prop) (Z : Value → World → Prop)
    (hX0 : ∀ W, X W → Txt3 pt mo co ma ca mb cb Ao Aa Ab W ∧ Thr pf f W ∧ Thr pg t W) (hw : X w.drew) (hXa : ∀ W o, X W → X (W.alloc o))
    (S1 : ∀ W : World, (Instr.slice 31 (.slice Ao mo co) (some (.int .i64 (f.1 : Int))) (some (.int .i64 (t.1 : Int))) none).run Try.prog W = .ok (.slice Eo no lo) W)
    (S2 : ∀ W : World, (Instr.slice 31 (.slice Aa ma ca) (some (.int .i64 (f.2.1 : Int))) (some (.int .i64 (t.2.1 : Int))) none).run Try.prog W = .ok (.slice Ea na la) W)
    (S3 : ∀ W : World, (Instr.slice 31 (.slice Ab mb cb) (some (.int .i64 (f.2.2 : Int))) (some (.int .i64 (t.2.2 : Int))) none).run Try.prog W = .ok (.slice Eb nb lb) W)
    (hA : ∀ W, X W → Calls Try.prog 39 #[.slice Eo no lo] W fun e w' => X w' ∧ ∃ Bo do_, e = .returned (.slice Bo no do_) ∧ Below W.heap.size W w' ∧ Y1 W w' (.slice Bo no do_))
    (hB : ∀ W, X W → Calls Try.prog 39 #[.slice Ea na la] W fun e w' => X w' ∧ ∃ Bo do_, e = .returned (.slice Bo na do_) ∧ Below W.heap.size W w' ∧ Y2 W w' (.slice Bo na do_))
    (hC : ∀ W, X W → Calls Try.prog 39 #[.slice Eb nb lb] W fun e w' => X w' ∧ ∃ Bo do_, e = .returned (.slice Bo nb do_) ∧ Below W.heap.size W w' ∧ Y3 W w' (.slice Bo nb do_))
    (hE : ∀ w5 w6 w7 Bo do_ Ba da Bb db, X w5 → Below w.drew.heap.size w.drew w5 → Y1 w.drew w5 (.slice Bo no do_) → X w6 → Below w5.heap.size w5 w6 → Y2 w5 w6 (.slice Ba na da) → X w7 → Below w6.heap.size w6 w7 → Y3 w6 w7 (.slice Bb nb db) → ∀ ty, ∃ v8 w8, (Builtin.append_ #[22, 22] ty #[vL, .slice (some ⟨w7.heap.size, 0, none⟩) 1 1]).run Try.prog (w7.alloc (.cells #[.bool st, .slice Bo no do_, .slice Ba na da, .slice Bb nb db] 33)) = .ok v8 w8 ∧ X w8 ∧ Z v8 w8) :
    (Code.region id ops true).wp Try.prog (Rg.Only fun a' w' => ∃ (v8 : Value) (Bo : Option Addr) (do_ : Nat) (Ba : Option Addr) (da : Nat) (Bb : Option Addr) (db g7 : Nat), a' = ⟨#[vL, u1, (.bool st), u3, u4, u5, (.pointer (some ⟨pt, 0, none⟩)), u7, (.pointer (some ⟨pf, 0, none⟩)), (.pointer (some ⟨pg, 0, none⟩)), v8, u11, u12, u13, u14, vL, (.bool st), (.pointer (some ⟨pt, 0, none⟩)), (.slice Ao mo co), (.pointer (some ⟨pf, 0, none⟩)), (.int .i64 (f.1 : Int)), (.pointer (some ⟨pg, 0, none⟩)), (.int .i64 (t.1 : Int)), (.slice Eo no lo), (.slice Bo no do_), (.pointer (some ⟨pt, 1, none⟩)), (.slice Aa ma ca), (.pointer (some ⟨pf, 1, none⟩)), (.int .i64 (f.2.1 : Int)), (.pointer (some ⟨pg, 1, none⟩)), (.int .i64 (t.2.1 : Int)), (.slice Ea na la), (.slice Ba na da), (.pointer (some ⟨pt, 2, none⟩)), (.slice Ab mb cb), (.pointer (some ⟨pf, 2, none⟩)), (.int .i64 (f.2.2 : Int)), (.pointer (some ⟨pg, 2, none⟩)), (.int .i64 (t.2.2 : Int)), (.slice Eb nb lb), (.slice Bb nb db), (.agg #[.bool st, .slice Bo no do_, .slice Ba na da, .slice Bb nb db]), (.slice (some ⟨g7, 0, none⟩) 1 1), v8], []⟩ ∧ Z v8 w') ⟨#[vL, u1, (.bool st), u3, u4, u5, (.pointer (some ⟨pt, 0, none⟩)), u7, (.pointer (some ⟨pf, 0, none⟩)), (.pointer (some ⟨pg, 0, none⟩)), u10, u11, u12, u13, u14, u15, u16, u17, u18, u19, u20, u21, u22, u23, u24, u25, u26, u27, u28, u29, u30, u31, u32, u33, u34, u35, u36, u37, u38, u39, u40, u41, u42, u43], []⟩ w := by
  subst hops
  have hX : ∀ W, X W → W.cell? ⟨pt, 0, none⟩ = some (.slice Ao mo co) ∧ W.cell? ⟨pt, 1, none⟩ = some (.slice Aa ma ca) ∧ W.cell? ⟨pt, 2, none⟩ = some (.slice Ab mb cb) ∧ W.cell? ⟨pf, 0, none⟩ = some (.int .i64 (f.1 : Int)) ∧ W.cell? ⟨pf, 1, none⟩ = some (.int .i64 (f.2.1 : Int)) ∧ W.cell? ⟨pf, 2, none⟩ = some (.int .i64 (f.2.2 : Int)) ∧ W.cell? ⟨pg, 0, none⟩ = some (.int .i64 (t.1 : Int)) ∧ W.cell? ⟨pg, 1, none⟩ = some (.int .i64 (t.2.1 : Int)) ∧ W.cell? ⟨pg, 2, none⟩ = some (.int .i64 (t.2.2 : Int)) := fun W h => by
    obtain ⟨⟨a0, a1, a2⟩, ⟨b0, b1, b2⟩, c0, c1, c2⟩ := hX0 W h
    exact ⟨a0, a1, a2, b0, b1, b2, c0, c1, c2⟩
  clear hX0
  have hNS : Region.noSelect (Rg.opsOf Try.f23 3) = true := by kernel_rfl
  refine wp_region_held_drew (S := X) (by kernel_rfl) hw (fun hHeld => ?_)
  rw [show (Rg.opsOf Try.f23 3).size = 30 by kernel_rfl]
  refine Rg.take (ops := (Rg.opsOf Try.f23 3)) 0 (some 15) (vL) hNS (by kernel_rfl) (by kernel_rfl) (by kernel_rfl) (by kernel_rfl) (by kernel_rfl) hHeld (Rg.y_move (x := (Operand.tmp 0)) (Or.inl (by kernel_rfl)) (by kernel_rfl)) ?_
  refine Rg.take (ops := (Rg.opsOf Try.f23 3)) 1 (some 16) ((.bool st)) hNS (by kernel_rfl) (by kernel_rfl) (by kernel_rfl) (by kernel_rfl) (by kernel_rfl) hHeld (Rg.y_move (x := (Operand.tmp 2)) (Or.inl (by kernel_rfl)) (by kernel_rfl)) ?_
  refine Rg.take (ops := (Rg.opsOf Try.f23 3)) 2 (some 17) ((.pointer (some ⟨pt, 0, none⟩))) hNS (by kernel_rfl) (by kernel_rfl) (by kernel_rfl) (by kernel_rfl) (by kernel_rfl) hHeld (Rg.y_at (T := 45) (x := (Operand.tmp 6)) (y := (Operand.const (Value.int IntKind.i64 0))) (vx := (.pointer (some ⟨pt, 0, none⟩))) (vy := (Value.int IntKind.i64 0)) (by kernel_rfl) (by kernel_rfl) (by kernel_rfl) ?_) ?_
  · (intro W hSw; clear hSw hHeld; go_simp)
  refine Rg.take (ops := (Rg.opsOf Try.f23 3)) 3 (some 18) ((.slice Ao mo co)) hNS (by kernel_rfl) (by kernel_rfl) (by kernel_rfl) (by kernel_rfl) (by kernel_rfl) hHeld (Rg.y_load (T := 31) (x := (Operand.tmp 17)) (vx := (.pointer (some ⟨pt, 0, none⟩))) (by kernel_rfl) (by kernel_rfl) ?_) ?_
  · (intro W hSw; obtain ⟨s0, s1, s2, s3, s4, s5, s6, s7, s8⟩ := hX _ hSw; clear hSw hHeld; go_simp)
  refine Rg.take (ops := (Rg.opsOf Try.f23 3)) 4 (some 19) ((.pointer (some ⟨pf, 0, none⟩))) hNS (by kernel_rfl) (by kernel_rfl) (by kernel_rfl) (by kernel_rfl) (by kernel_rfl) hHeld (Rg.y_at (T := 52) (x := (Operand.tmp 8)) (y := (Operand.const (Value.int IntKind.i64 0))) (vx := (.pointer (some ⟨pf, 0, none⟩))) (vy := (Value.int IntKind.i64 0)) (by kernel_rfl) (by kernel_rfl) (by kernel_rfl) ?_) ?_
  · (intro W hSw; clear hSw hHeld; go_simp)
  refine Rg.take (ops := (Rg.opsOf Try.f23 3)) 5 (some 20) ((.int .i64 (f.1 : Int))) hNS (by kernel_rfl) (by kernel_rfl) (by kernel_rfl) (by kernel_rfl) (by kernel_rfl) hHeld (Rg.y_load (T := 3) (x := (Operand.tmp 19)) (vx := (.pointer (some ⟨pf, 0, none⟩))) (by kernel_rfl) (by kernel_rfl) ?_) ?_
  · (intro W hSw; obtain ⟨s0, s1, s2, s3, s4, s5, s6, s7, s8⟩ := hX _ hSw; clear hSw hHeld; go_simp)
  refine Rg.take (ops := (Rg.opsOf Try.f23 3)) 6 (some 21) ((.pointer (some ⟨pg, 0, none⟩))) hNS (by kernel_rfl) (by kernel_rfl) (by kernel_rfl) (by kernel_rfl) (by kernel_rfl) hHeld (Rg.y_at (T := 52) (x := (Operand.tmp 9)) (y := (Operand.const (Value.int IntKind.i64 0))) (vx := (.pointer (some ⟨pg, 0, none⟩))) (vy := (Value.int IntKind.i64 0)) (by kernel_rfl) (by kernel_rfl) (by kernel_rfl) ?_) ?_
  · (intro W hSw; clear hSw hHeld; go_simp)
  refine Rg.take (ops := (Rg.opsOf Try.f23 3)) 7 (some 22) ((.int .i64 (t.1 : Int))) hNS (by kernel_rfl) (by kernel_rfl) (by kernel_rfl) (by kernel_rfl) (by kernel_rfl) hHeld (Rg.y_load (T := 3) (x := (Operand.tmp 21)) (vx := (.pointer (some ⟨pg, 0, none⟩))) (by kernel_rfl) (by kernel_rfl) ?_) ?_
  · (intro W hSw; obtain ⟨s0, s1, s2, s3, s4, s5, s6, s7, s8⟩ := hX _ hSw; clear hSw hHeld; go_simp)
  refine Rg.take (ops := (Rg.opsOf Try.f23 3)) 8 (some 23) ((.slice Eo no lo)) hNS (by kernel_rfl) (by kernel_rfl) (by kernel_rfl) (by kernel_rfl) (by kernel_rfl) hHeld (Rg.y_sl2 (T := 31) (x := (Operand.tmp 18)) (l := (Operand.tmp 20)) (h := (Operand.tmp 22)) (vx := (.slice Ao mo co)) (vl := (.int .i64 (f.1 : Int))) (vh := (.int .i64 (t.1 : Int))) (by kernel_rfl) (by kernel_rfl) (by kernel_rfl) (by kernel_rfl) ?_) ?_
  · (intro W hSw; clear hSw hHeld; rw [run_sliceAt_slice _ _ _ _ _ _ (by kernel_rfl)]; exact S1 W)
  refine Rg.take (ops := (Rg.opsOf Try.f23 3)) 10 (some 25) ((.pointer (some ⟨pt, 1, none⟩))) hNS (by kernel_rfl) (by kernel_rfl) (by kernel_rfl) (by kernel_rfl) (by kernel_rfl) hHeld (Rg.y_at (T := 45) (x := (Operand.tmp 6)) (y := (Operand.const (Value.int IntKind.i64 1))) (vx := (.pointer (some ⟨pt, 0, none⟩))) (vy := (Value.int IntKind.i64 1)) (by kernel_rfl) (by kernel_rfl) (by kernel_rfl) ?_) ?_
  · (intro W hSw; clear hSw hHeld; go_simp)
  refine Rg.take (ops := (Rg.opsOf Try.f23 3)) 11 (some 26) ((.slice Aa ma ca)) hNS (by kernel_rfl) (by kernel_rfl) (by kernel_rfl) (by kernel_rfl) (by kernel_rfl) hHeld (Rg.y_load (T := 31) (x := (Operand.tmp 25)) (vx := (.pointer (some ⟨pt, 1, none⟩))) (by kernel_rfl) (by kernel_rfl) ?_) ?_
  · (intro W hSw; obtain ⟨s0, s1, s2, s3, s4, s5, s6, s7, s8⟩ := hX _ hSw; clear hSw hHeld; go_simp)
  refine Rg.take (ops := (Rg.opsOf Try.f23 3)) 12 (some 27) ((.pointer (some ⟨pf, 1, none⟩))) hNS (by kernel_rfl) (by kernel_rfl) (by kernel_rfl) (by kernel_rfl) (by kernel_rfl) hHeld (Rg.y_at (T := 52) (x := (Operand.tmp 8)) (y := (Operand.const (Value.int IntKind.i64 1))) (vx := (.pointer (some ⟨pf, 0, none⟩))) (vy := (Value.int IntKind.i64 1)) (by kernel_rfl) (by kernel_rfl) (by kernel_rfl) ?_) ?_
  · (intro W hSw; clear hSw hHeld; go_simp)
  refine Rg.take (ops := (Rg.opsOf Try.f23 3)) 13 (some 28) ((.int .i64 (f.2.1 : Int))) hNS (by kernel_rfl) (by kernel_rfl) (by kernel_rfl) (by kernel_rfl) (by kernel_rfl) hHeld (Rg.y_load (T := 3) (x := (Operand.tmp 27)) (vx := (.pointer (some ⟨pf, 1, none⟩))) (by kernel_rfl) (by kernel_rfl) ?_) ?_
  · (intro W hSw; obtain ⟨s0, s1, s2, s3, s4, s5, s6, s7, s8⟩ := hX _ hSw; clear hSw hHeld; go_simp)
  refine Rg.take (ops := (Rg.opsOf Try.f23 3)) 14 (some 29) ((.pointer (some ⟨pg, 1, none⟩))) hNS (by kernel_rfl) (by kernel_rfl) (by kernel_rfl) (by kernel_rfl) (by kernel_rfl) hHeld (Rg.y_at (T := 52) (x := (Operand.tmp 9)) (y := (Operand.const (Value.int IntKind.i64 1))) (vx := (.pointer (some ⟨pg, 0, none⟩))) (vy := (Value.int IntKind.i64 1)) (by kernel_rfl) (by kernel_rfl) (by kernel_rfl) ?_) ?_
  · (intro W hSw; clear hSw hHeld; go_simp)
  refine Rg.take (ops := (Rg.opsOf Try.f23 3)) 15 (some 30) ((.int .i64 (t.2.1 : Int))) hNS (by kernel_rfl) (by kernel_rfl) (by kernel_rfl) (by kernel_rfl) (by kernel_rfl) hHeld (Rg.y_load (T := 3) (x := (Operand.tmp 29)) (vx := (.pointer (some ⟨pg, 1, none⟩))) (by kernel_rfl) (by kernel_rfl) ?_) ?_
  · (intro W hSw; obtain ⟨s0, s1, s2, s3, s4, s5, s6, s7, s8⟩ := hX _ hSw; clear hSw hHeld; go_simp)
  refine Rg.take (ops := (Rg.opsOf Try.f23 3)) 16 (some 31) ((.slice Ea na la)) hNS (by kernel_rfl) (by kernel_rfl) (by kernel_rfl) (by kernel_rfl) (by kernel_rfl) hHeld (Rg.y_sl2 (T := 31) (x := (Operand.tmp 26)) (l := (Operand.tmp 28)) (h := (Operand.tmp 30)) (vx := (.slice Aa ma ca)) (vl := (.int .i64 (f.2.1 : Int))) (vh := (.int .i64 (t.2.1 : Int))) (by kernel_rfl) (by kernel_rfl) (by kernel_rfl) (by kernel_rfl) ?_) ?_
  · (intro W hSw; clear hSw hHeld; rw [run_sliceAt_slice _ _ _ _ _ _ (by kernel_rfl)]; exact S2 W)
  refine Rg.take (ops := (Rg.opsOf Try.f23 3)) 18 (some 33) ((.pointer (some ⟨pt, 2, none⟩))) hNS (by kernel_rfl) (by kernel_rfl) (by kernel_rfl) (by kernel_rfl) (by kernel_rfl) hHeld (Rg.y_at (T := 45) (x := (Operand.tmp 6)) (y := (Operand.const (Value.int IntKind.i64 2))) (vx := (.pointer (some ⟨pt, 0, none⟩))) (vy := (Value.int IntKind.i64 2)) (by kernel_rfl) (by kernel_rfl) (by kernel_rfl) ?_) ?_
  · (intro W hSw; clear hSw hHeld; go_simp)
  refine Rg.take (ops := (Rg.opsOf Try.f23 3)) 19 (some 34) ((.slice Ab mb cb)) hNS (by kernel_rfl) (by kernel_rfl) (by kernel_rfl) (by kernel_rfl) (by kernel_rfl) hHeld (Rg.y_load (T := 31) (x := (Operand.tmp 33)) (vx := (.pointer (some ⟨pt, 2, none⟩))) (by kernel_rfl) (by kernel_rfl) ?_) ?_
  · (intro W hSw; obtain ⟨s0, s1, s2, s3, s4, s5, s6, s7, s8⟩ := hX _ hSw; clear hSw hHeld; go_simp)
  refine Rg.take (ops := (Rg.opsOf Try.f23 3)) 20 (some 35) ((.pointer (some ⟨pf, 2, none⟩))) hNS (by kernel_rfl) (by kernel_rfl) (by kernel_rfl) (by kernel_rfl) (by kernel_rfl) hHeld (Rg.y_at (T := 52) (x := (Operand.tmp 8)) (y := (Operand.const (Value.int IntKind.i64 2))) (vx := (.pointer (some ⟨pf, 0, none⟩))) (vy := (Value.int IntKind.i64 2)) (by kernel_rfl) (by kernel_rfl) (by kernel_rfl) ?_) ?_
  · (intro W hSw; clear hSw hHeld; go_simp)
  refine Rg.take (ops := (Rg.opsOf Try.f23 3)) 21 (some 36) ((.int .i64 (f.2.2 : Int))) hNS (by kernel_rfl) (by kernel_rfl) (by kernel_rfl) (by kernel_rfl) (by kernel_rfl) hHeld (Rg.y_load (T := 3) (x := (Operand.tmp 35)) (vx := (.pointer (some ⟨pf, 2, none⟩))) (by kernel_rfl) (by kernel_rfl) ?_) ?_
  · (intro W hSw; obtain ⟨s0, s1, s2, s3, s4, s5, s6, s7, s8⟩ := hX _ hSw; clear hSw hHeld; go_simp)
  refine Rg.take (ops := (Rg.opsOf Try.f23 3)) 22 (some 37) ((.pointer (some ⟨pg, 2, none⟩))) hNS (by kernel_rfl) (by kernel_rfl) (by kernel_rfl) (by kernel_rfl) (by kernel_rfl) hHeld (Rg.y_at (T := 52) (x := (Operand.tmp 9)) (y := (Operand.const (Value.int IntKind.i64 2))) (vx := (.pointer (some ⟨pg, 0, none⟩))) (vy := (Value.int IntKind.i64 2)) (by kernel_rfl) (by kernel_rfl) (by kernel_rfl) ?_) ?_
  · (intro W hSw; clear hSw hHeld; go_simp)
  refine Rg.take (ops := (Rg.opsOf Try.f23 3)) 23 (some 38) ((.int .i64 (t.2.2 : Int))) hNS (by kernel_rfl) (by kernel_rfl) (by kernel_rfl) (by kernel_rfl) (by kernel_rfl) hHeld (Rg.y_load (T := 3) (x := (Operand.tmp 37)) (vx := (.pointer (some ⟨pg, 2, none⟩))) (by kernel_rfl) (by kernel_rfl) ?_) ?_
  · (intro W hSw; obtain ⟨s0, s1, s2, s3, s4, s5, s6, s7, s8⟩ := hX _ hSw; clear hSw hHeld; go_simp)
  refine Rg.take (ops := (Rg.opsOf Try.f23 3)) 24 (some 39) ((.slice Eb nb lb)) hNS (by kernel_rfl) (by kernel_rfl) (by kernel_rfl) (by kernel_rfl) (by kernel_rfl) hHeld (Rg.y_sl2 (T := 31) (x := (Operand.tmp 34)) (l := (Operand.tmp 36)) (h := (Operand.tmp 38)) (vx := (.slice Ab mb cb)) (vl := (.int .i64 (f.2.2 : Int))) (vh := (.int .i64 (t.2.2 : Int))) (by kernel_rfl) (by kernel_rfl) (by kernel_rfl) (by kernel_rfl) ?_) ?_
  · (intro W hSw; clear hSw hHeld; rw [run_sliceAt_slice _ _ _ _ _ _ (by kernel_rfl)]; exact S3 W)
  refine Rg.call (ops := (Rg.opsOf Try.f23 3)) (fn := Try.f39) (xs := #[Operand.tmp 23]) (ats := #[31]) 9 (some 24) 39 #[(.slice Eo no lo)] (by kernel_rfl) (by kernel_rfl) (by kernel_rfl) (by kernel_rfl) (by kernel_rfl) Try.func39 (by kernel_rfl) (by kernel_rfl) (by kernel_rfl) ?_
  refine (hA _ hHeld).mono ?_
  rintro e w5 ⟨k5, Bo, do_, rfl, l5, h5⟩
  refine ⟨_, rfl, k5, fun hHeld => ?_⟩
  refine Rg.call (ops := (Rg.opsOf Try.f23 3)) (fn := Try.f39) (xs := #[Operand.tmp 31]) (ats := #[31]) 17 (some 32) 39 #[(.slice Ea na la)] (by kernel_rfl) (by kernel_rfl) (by kernel_rfl) (by kernel_rfl) (by kernel_rfl) Try.func39 (by kernel_rfl) (by kernel_rfl) (by kernel_rfl) ?_
  refine (hB _ hHeld).mono ?_
  rintro e w6 ⟨k6, Ba, da, rfl, l6, h6⟩
  refine ⟨_, rfl, k6, fun hHeld => ?_⟩
  refine Rg.call (ops := (Rg.opsOf Try.f23 3)) (fn := Try.f39) (xs := #[Operand.tmp 39]) (ats := #[31]) 25 (some 40) 39 #[(.slice Eb nb lb)] (by kernel_rfl) (by kernel_rfl) (by kernel_rfl) (by kernel_rfl) (by kernel_rfl) Try.func39 (by kernel_rfl) (by kernel_rfl) (by kernel_rfl) ?_
  refine (hC _ hHeld).mono ?_
  rintro e w7 ⟨k7, Bb, db, rfl, l7, h7⟩
  refine ⟨_, rfl, k7, fun hHeld => ?_⟩
  refine Rg.take (ops := (Rg.opsOf Try.f23 3)) 26 (some 41) ((.agg #[.bool st, .slice Bo no do_, .slice Ba na da, .slice Bb nb db])) hNS (by kernel_rfl) (by kernel_rfl) (by kernel_rfl) (by kernel_rfl) (by kernel_rfl) hHeld (Rg.y_build (T := 33) (parts := #[(0, Operand.tmp 16), (1, Operand.tmp 24), (2, Operand.tmp 32), (3, Operand.tmp 40)]) (vs := #[(0, (.bool st)), (1, (.slice Bo no do_)), (2, (.slice Ba na da)), (3, (.slice Bb nb db))]) (by kernel_rfl) (by kernel_rfl) ?_) ?_
  · (intro W hSw; clear hSw hHeld; go_simp)
  refine Rg.bld (ops := (Rg.opsOf Try.f23 3)) 27 (some 42) (T := 22) (len := 1) (parts := #[(0, Operand.tmp 41)]) (vs := #[(0, (.agg #[.bool st, .slice Bo no do_, .slice Ba na da, .slice Bb nb db]))]) (v := (.slice (some ⟨w7.heap.size, 0, none⟩) 1 1)) (w1 := w7.alloc (.cells #[.bool st, .slice Bo no do_, .slice Ba na da, .slice Bb nb db] 33)) (by kernel_rfl) (by kernel_rfl) (by kernel_rfl) (by kernel_rfl) (by kernel_rfl) (by kernel_rfl) ?_ (hXa _ _ k7) (fun hHeld => ?_)
  · (clear hHeld hE h5 h6 h7 k5 k6 k7 l5 l6 l7; go_simp)
  refine Rg.app1 (ops := (Rg.opsOf Try.f23 3)) 28 (some 43) (T := 22) (x := (Operand.tmp 15)) (y := (Operand.tmp 42)) (vx := vL) (vy := (.slice (some ⟨w7.heap.size, 0, none⟩) 1 1)) (by kernel_rfl) (by kernel_rfl) (by kernel_rfl) (by kernel_rfl) (by kernel_rfl) (by kernel_rfl) (by kernel_rfl) ?_
  intro ty
  obtain ⟨v8, w8, e8, h8, h9⟩ := hE w5 w6 w7 Bo do_ Ba da Bb db k5 l5 h5 k6 l6 h6 k7 l7 h7 ty
  refine ⟨v8, w8, e8, h8, fun hHeld => ?_⟩
  refine Rg.take (ops := (Rg.opsOf Try.f23 3)) 29 (some 10) (v8) hNS (by kernel_rfl) (by kernel_rfl) (by kernel_rfl) (by kernel_rfl) (by kernel_rfl) hHeld (Rg.y_move (x := (Operand.tmp 43)) (Or.inr (by kernel_rfl)) (by kernel_rfl)) ?_
  refine Rg.done (ops := (Rg.opsOf Try.f23 3)) (by kernel_rfl) ?_
  exact ⟨v8, Bo, do_, Ba, da, Bb, db, w7.heap.size, by kernel_rfl, h9⟩
end Go.Proofs.Ytnpobigombafoaa.Mg

namespace Go.Proofs.Ytnpobigombafoaa.Mg
open Go.RowKit Go.ChangeShapes Go.WideShapes Tx Um Ud Aq Km Kd Lm Ln
set_option linter.unusedVariables false
def Kq (w w1 : World) : Prop := ∀ (g : Nat) (cs : Array Value) (ty : TypeId) (fr : Nat × Nat), ty ≠ 33 → w.heap[g]? = some (Obj.cells cs ty fr) → w1.heap[g]? = some (Obj.cells cs ty fr)
theorem Kq.refl (w : World) : Kq w w := fun _ _ _ _ _ h => h
theorem Kq.trans {a b c : World} (h : Kq a b) (h2 : Kq b c) : Kq a c := fun g cs ty fr n x => h2 g cs ty fr n (h g cs ty fr n x)
theorem Kq.of_below {w w1 : World} (h : Below w.heap.size w w1) : Kq w w1 := fun g cs ty fr _ x => (h.block g (Array.getElem?_eq_some_iff.1 x).1).trans x
theorem Kq.kp {w w1 : World} (h : Kq w w1) : Kp w w1 := fun g cs fr x => h g cs _ fr (by decide) x
theorem Kq.drew (w : World) : Kq w w.drew := fun _ _ _ _ _ x => x
theorem Kq.alloc {w w1 : World} (h : Kq w w1) (o : Obj) : Kq w (w1.alloc o) := h.trans (.of_below ((Below.refl _ w1).alloc (Nat.le_refl _) o))
theorem Cs.kq {w w1 : World} {B : Nat} {v : Value} {cs : List Cc} (h : Cs w B v cs) (hg : w.grownBy w1 v.ownBlock) : Kq w w1 := by
  intro g cur ty fr hne x
  refine (hg.block g (Array.getElem?_eq_some_iff.1 x).1 fun e => ?_).trans x
  rcases h.2 with ⟨rfl, _⟩ | ⟨g1, cap, cur1, rfl, _, hh, _⟩
  · cases e
  · obtain rfl : g = g1 := by simpa [Value.ownBlock] using e
    rw [hh] at x
    injection x with x
    injection x with _ x _
    exact hne x.symm
def Bk (w : World) (g : Nat) (cs : Array Value) (ty : TypeId) : Prop := w.heap[g]? = some (.cells cs ty (0, 0))
theorem Bk.keep {w w1 : World} {g : Nat} {cs : Array Value} {ty : TypeId} (h : Bk w g cs ty) (hk : Kq w w1) (hne : ty ≠ 33) : Bk w1 g cs ty := hk g cs ty _ hne h
theorem Bk.below {w w1 : World} {g : Nat} {cs : Array Value} {ty : TypeId} {B : Nat} (h : Bk w g cs ty) (hb : Below B w w1) (hg : g < B) : Bk w1 g cs ty := (hb.block g hg).trans h
theorem Bk.lt {w : World} {g : Nat} {cs : Array Value} {ty : TypeId} (h : Bk w g cs ty) : g < w.heap.size := (Array.getElem?_eq_some_iff.1 h).1
theorem Bk.cell {w : World} {g : Nat} {cs : Array Value} {ty : TypeId} (h : Bk w g cs ty) (k : Nat) {u : Value} (hu : cs[k]? = some u) : w.cell? ⟨g, k, none⟩ = some u := by
  unfold Bk at h
  simp [World.cell?, h, hu]
theorem Bk.warm {w : World} {g : Nat} {cs : Array Value} {ty : TypeId} (h : Bk w g cs ty) (k : Nat) : w.frozen? ⟨g, k, none⟩ = false := by
  unfold Bk at h
  simp [World.frozen?, h]
theorem lo_keepP {w w1 : World} {B : Nat} {v : Value} {l : List ByteArray} (h : Lo w B v l) (hk : Kp w w1) : Lo w1 B v l := by
  refine ⟨h.1, ?_⟩
  rcases h.2 with h0 | ⟨g', cap', cur, hv, hg, hh, r⟩
  · exact .inl h0
  · exact .inr ⟨g', cap', cur, hv, hg, hk g' cur (0, 0) hh, r⟩
theorem vals3_snoc (cs : List Cc) (c : Cc) : vals3 (cs ++ [c]) = vals3 cs ++ [c.2.1, c.2.2.1, c.2.2.2] := by
  unfold vals3
  rw [List.flatMap_append]
  rfl
theorem OwnC.lt {w : World} {B : Nat} {cs : List Cc} {hs : List (Ck ByteArray)} (h : OwnC w B cs hs) (hl : cs.length = hs.length) {i : Nat} {u : Value} {g : Nat} (hu : (vals3 cs)[i]? = some u) (hg : u.ownBlock = some g) : B ≤ g ∧ g < w.heap.size := by
  obtain ⟨c, hc, hu2⟩ := List.mem_flatMap.1 (List.mem_iff_getElem?.2 ⟨i, hu⟩)
  obtain ⟨k, hk⟩ := List.mem_iff_getElem?.1 hc
  have hk2 := (List.getElem?_eq_some_iff.1 hk).1
  obtain ⟨h1, h2, h3⟩ := h.each k c hs[k] hk (List.getElem?_eq_getElem (by omega))
  simp only [List.mem_cons, List.not_mem_nil, or_false] at hu2
  rcases hu2 with rfl | rfl | rfl
  · exact World.ownsRow.lt h1 g hg
  · exact World.ownsRow.lt h2 g hg
  · exact World.ownsRow.lt h3 g hg
theorem OwnC.keep {w w1 : World} {B : Nat} {cs : List Cc} {hs : List (Ck ByteArray)} (h : OwnC w B cs hs) (hk : Kp w w1) : OwnC w1 B cs hs :=
  ⟨fun k c x h1 h2 => ⟨lo_keepP (h.each k c x h1 h2).1 hk, lo_keepP (h.each k c x h1 h2).2.1 hk, lo_keepP (h.each k c x h1 h2).2.2 hk⟩, h.far⟩
theorem OwnC.snoc {w w1 : World} {B m : Nat} {cs : List Cc} {hs : List (Ck ByteArray)} {c : Cc} {x : Ck ByteArray} (h : OwnC w1 B cs hs) (hl : cs.length = hs.length) (hm : ∀ (i : Nat) u g, (vals3 cs)[i]? = some u → u.ownBlock = some g → g < m)
    (h1 : Lo w1 m c.2.1 x.b) (h2 : Lo w1 m c.2.2.1 x.l) (h3 : Lo w1 m c.2.2.2 x.r) (hB : B ≤ m) (f1 : ∀ g, c.2.1.ownBlock = some g → c.2.2.1.ownBlock ≠ some g) (f2 : ∀ g, c.2.1.ownBlock = some g → c.2.2.2.ownBlock ≠ some g) (f3 : ∀ g, c.2.2.1.ownBlock = some g → c.2.2.2.ownBlock ≠ some g) : OwnC w1 B (cs ++ [c]) (hs ++ [x]) := by
  refine ⟨fun k d y hd hy => ?_, fun i j u v g hu hv hne e1 e2 => ?_⟩
  · by_cases hk : k < cs.length
    · rw [List.getElem?_append_left hk] at hd
      rw [List.getElem?_append_left (by omega)] at hy
      exact h.each k d y hd hy
    · have hd2 := (List.getElem?_eq_some_iff.1 hd).1
      rw [List.length_append, List.length_singleton] at hd2
      obtain rfl : k = cs.length := by omega
      rw [List.getElem?_append_right (Nat.le_refl _), Nat.sub_self] at hd
      rw [hl, List.getElem?_append_right (Nat.le_refl _), Nat.sub_self] at hy
      injection hd with hd
      injection hy with hy
      subst hd
      subst hy
      exact ⟨own_base h1 hB, own_base h2 hB, own_base h3 hB⟩
  · rw [vals3_snoc] at hu hv
    have key : ∀ (i : Nat) u, (vals3 cs ++ [c.2.1, c.2.2.1, c.2.2.2])[i]? = some u → (i < (vals3 cs).length ∧ (vals3 cs)[i]? = some u) ∨ (i = (vals3 cs).length ∧ u = c.2.1) ∨ (i = (vals3 cs).length + 1 ∧ u = c.2.2.1) ∨ (i = (vals3 cs).length + 2 ∧ u = c.2.2.2) := fun i u hu => by
      by_cases hi : i < (vals3 cs).length
      · rw [List.getElem?_append_left hi] at hu
        exact .inl ⟨hi, hu⟩
      · rw [List.getElem?_append_right (by omega)] at hu
        obtain ⟨d, hd⟩ : ∃ d, i = (vals3 cs).length + d := ⟨i - (vals3 cs).length, by omega⟩
        rw [hd, Nat.add_sub_cancel_left] at hu
        match d, hu with
        | 0, hu => injection hu with hu; exact .inr (.inl ⟨hd, hu.symm⟩)
        | 1, hu => injection hu with hu; exact .inr (.inr (.inl ⟨hd, hu.symm⟩))
        | 2, hu => injection hu with hu; exact .inr (.inr (.inr ⟨hd, hu.symm⟩))
    have g1 : ∀ {g}, c.2.1.ownBlock = some g → m ≤ g := fun e => (World.ownsRow.lt h1 _ e).1
    have g2 : ∀ {g}, c.2.2.1.ownBlock = some g → m ≤ g := fun e => (World.ownsRow.lt h2 _ e).1
    have g3 : ∀ {g}, c.2.2.2.ownBlock = some g → m ≤ g := fun e => (World.ownsRow.lt h3 _ e).1
    rcases key i u hu with ⟨i1, i2⟩ | ⟨i1, rfl⟩ | ⟨i1, rfl⟩ | ⟨i1, rfl⟩
    · rcases key j v hv with ⟨j1, j2⟩ | ⟨j1, rfl⟩ | ⟨j1, rfl⟩ | ⟨j1, rfl⟩
      · exact h.far i j u v g i2 j2 hne e1 e2
      · have := hm _ _ _ i2 e1; have := g1 e2; omega
      · have := hm _ _ _ i2 e1; have := g2 e2; omega
      · have := hm _ _ _ i2 e1; have := g3 e2; omega
    · rcases key j v hv with ⟨j1, j2⟩ | ⟨j1, rfl⟩ | ⟨j1, rfl⟩ | ⟨j1, rfl⟩
      · have := hm _ _ _ j2 e2; have := g1 e1; omega
      · omega
      · exact f1 g e1 e2
      · exact f2 g e1 e2
    · rcases key j v hv with ⟨j1, j2⟩ | ⟨j1, rfl⟩ | ⟨j1, rfl⟩ | ⟨j1, rfl⟩
      · have := hm _ _ _ j2 e2; have := g2 e1; omega
      · exact f1 g e2 e1
      · omega
      · exact f3 g e1 e2
    · rcases key j v hv with ⟨j1, j2⟩ | ⟨j1, rfl⟩ | ⟨j1, rfl⟩ | ⟨j1, rfl⟩
      · have := hm _ _ _ j2 e2; have := g3 e1; omega
      · exact f2 g e2 e1
      · exact f3 g e2 e1
      · omega
def Rwc (B : Nat) (w : World) (v : Value) (r : List (Ck ByteArray)) : Prop := ∃ cs, Cs w B v cs ∧ IsS w cs r.reverse ∧ OwnC w B cs r.reverse
theorem Rwc.nil (B : Nat) (w : World) : Rwc B w (.slice none 0 0) [] := ⟨[], cs_nil _ _, trivial, OwnC.nil _ _⟩
theorem Rwc.call {B : Nat} {w w1 : World} {v : Value} {r : List (Ck ByteArray)} (h : Rwc B w v r) (hb : Below w.heap.size w w1) : Rwc B w1 v r := by
  obtain ⟨cs, h1, h2, h3⟩ := h
  exact ⟨cs, h1.below hb, h2.keep (.of_below hb), h3.keep (.of_below hb)⟩
theorem Rwc.lt {B : Nat} {w : World} {v : Value} {r : List (Ck ByteArray)} (h : Rwc B w v r) : ∀ k, v.ownBlock = some k → B ≤ k ∧ k < w.heap.size := by
  obtain ⟨cs, h1, h2, h3⟩ := h
  exact h1.lt
theorem Rwc.kq {B : Nat} {w w1 : World} {v : Value} {r : List (Ck ByteArray)} (h : Rwc B w v r) (hg : w.grownBy w1 v.ownBlock) : Kq w w1 := by
  obtain ⟨cs, h1, h2, h3⟩ := h
  exact h1.kq hg
theorem Rwc.put {B : Nat} {w w5 w6 w7 : World} {v : Value} {r : List (Ck ByteArray)} (h : Rwc B w v r) (hB : B ≤ w.heap.size) (hl : r.length ≤ 1000000) (st : Bool) {v5 v6 v7 : Value} {l5 l6 l7 : List ByteArray}
    (b5 : Below w.heap.size w w5) (k5 : Lo w5 w.heap.size v5 l5) (b6 : Below w5.heap.size w5 w6) (k6 : Lo w6 w5.heap.size v6 l6) (b7 : Below w6.heap.size w6 w7) (k7 : Lo w7 w6.heap.size v7 l7) :
    ∀ ty, ∃ v8 w8, (Builtin.append_ #[22, 22] ty #[v, .slice (some ⟨w7.heap.size, 0, none⟩) 1 1]).run Try.prog (w7.alloc (.cells #[.bool st, v5, v6, v7] 33)) = .ok v8 w8 ∧ Kq w w8 ∧ Rwc B w8 v8 (⟨st, l5, l6, l7⟩ :: r) ∧ w.grownBy w8 v.ownBlock := by
  obtain ⟨cs, h1, h2, h3⟩ := h
  have hn := h2.len
  rw [List.length_reverse] at hn
  intro ty
  have b67 : Below w5.heap.size w5 w7 := b6.trans (b7.mono b6.size)
  have b57 : Below w.heap.size w w7 := b5.trans (b67.mono b5.size)
  have s5 := b5.size
  have s6 := b6.size
  have s7 := b7.size
  have c7 : Cs w7 B v cs := h1.below b57
  have one : ∀ {W : World} {m : Nat} {u : Value} {l : List ByteArray}, Lo W m u l → u.oneCell' = true := fun hh => (lo_rd hh).one
  obtain ⟨v8, w8, e, k1, k2⟩ := app_cs w7 B v cs c7 (st, v5, v6, v7) (one k5) (one k6) (one k7) (by omega) (by omega) ty
  have c8 : Cs (w7.alloc (.cells #[.bool st, v5, v6, v7] 33)) B v cs := World.ownsRow.alloc c7 _
  have kq7 : Kq w7 w8 := (Kq.of_below ((Below.refl _ w7).alloc (Nat.le_refl _) _)).trans (c8.kq k2)
  have kq : Kq w w8 := (Kq.of_below b57).trans kq7
  have q5 : Lo w8 w.heap.size v5 l5 := lo_keepP (k5.below b67) kq7.kp
  have q6 : Lo w8 w5.heap.size v6 l6 := lo_keepP (k6.below b7) kq7.kp
  have q7 : Lo w8 w6.heap.size v7 l7 := lo_keepP k7 kq7.kp
  refine ⟨v8, w8, e, kq, ⟨cs ++ [(st, v5, v6, v7)], k1, ?_, ?_⟩, ?_⟩
  · rw [List.reverse_cons]
    exact IsS.snoc ⟨rfl, ⟨lo_rd q5, lo_ty q5⟩, ⟨lo_rd q6, lo_ty q6⟩, ⟨lo_rd q7, lo_ty q7⟩⟩ (h2.keep kq.kp)
  · rw [List.reverse_cons]
    refine OwnC.snoc (w := w) (m := w.heap.size) (h3.keep kq.kp) (by rw [List.length_reverse]; exact hn) (fun i u g hu hg => (h3.lt (by rw [List.length_reverse]; exact hn) hu hg).2) q5 (own_base q6 s5) (own_base q7 (Nat.le_trans s5 s6)) hB ?_ ?_ ?_
    · intro g e1 e2
      have := (World.ownsRow.lt k5 g e1).2
      have := (World.ownsRow.lt q6 g e2).1
      omega
    · intro g e1 e2
      have := (World.ownsRow.lt k5 g e1).2
      have := (World.ownsRow.lt q7 g e2).1
      omega
    · intro g e1 e2
      have := (World.ownsRow.lt k6 g e1).2
      have := (World.ownsRow.lt q7 g e2).1
      omega
  · have ba : Below w.heap.size w (w7.alloc (.cells #[.bool st, v5, v6, v7] 33)) := b57.alloc b57.size _
    exact ⟨k2.os.trans ba.os, k2.tape.trans ba.tape, k2.output.trans ba.output, Nat.le_trans ba.size k2.size, fun k hk hne => (k2.block k (Nat.lt_of_lt_of_le hk ba.size) hne).trans (ba.block k hk)⟩
end Go.Proofs.Ytnpobigombafoaa.Mg

namespace Go.Proofs.Ytnpobigombafoaa.Mg
open Go.RowKit Go.ChangeShapes Go.WideShapes Tx Um Ud Aq Km Kd Lm Ln
set_option linter.unusedVariables false
structure Src (w : World) (A : Option Addr) (c : Nat) (l : List ByteArray) : Prop where
  strs : Strs w A l.length l
  ty : Ty w (.slice A l.length c)
  room : l.length ≤ c
  none_ : A = none → c = 0
theorem src_of {w : World} {B : Nat} {v : Value} {l : List ByteArray} (h : Lo w B v l) : ∃ A c, v = .slice A l.length c ∧ Src w A c l := by
  obtain ⟨A, c, rfl, h1, h2, h3, h4⟩ := lo_all h
  exact ⟨A, c, rfl, h1, h4, h3, h2⟩
theorem Src.keep {w w1 : World} {A : Option Addr} {c : Nat} {l : List ByteArray} (h : Src w A c l) (hk : Kp w w1) : Src w1 A c l := by
  refine ⟨?_, h.ty.keep hk, h.room, h.none_⟩
  obtain ⟨A', c', e, h1, _⟩ := rd_keep ⟨A, c, rfl, h.strs, h.none_⟩ h.ty hk
  injection e with e1 _ _
  rw [e1]
  exact h1
theorem Src.sub {w : World} {A : Option Addr} {c lo hi : Nat} {l : List ByteArray} (h : Src w A c l) (h1 : lo ≤ hi) (h2 : hi ≤ l.length) : ((l.take hi).drop lo).length = hi - lo ∧ ∃ A', sliced A lo hi c 1 = .slice A' (hi - lo) (c - lo) ∧ Src w A' (c - lo) ((l.take hi).drop lo) := by
  have e : ((l.take hi).drop lo).length = hi - lo := by rw [List.length_drop, List.length_take]; omega
  obtain ⟨A', k1, k2, k3⟩ := rd_room h.strs h1 h2 h.room h.none_
  have ht := ty_sub (lo := lo) (hi := hi) h.ty
  rw [k1] at ht
  have hr := h.room
  exact ⟨e, A', k1, ⟨by rw [e]; exact k2, by rw [e]; exact ht, by rw [e]; omega, k3⟩⟩
theorem grown_below {w w1 : World} (h : Below w.heap.size w w1) (row : Option Nat) : w.grownBy w1 row := ⟨h.os, h.tape, h.output, h.size, fun k hk _ => h.block k hk⟩
theorem grown_of2 {w w2 w3 : World} {row : Option Nat} (hb : Below w.heap.size w w2) (hg : w2.grownBy w3 row) : w.grownBy w3 row :=
  ⟨hg.os.trans hb.os, hg.tape.trans hb.tape, hg.output.trans hb.output, Nat.le_trans hb.size hg.size, fun k hk hne => (hg.block k (Nat.lt_of_lt_of_le hk hb.size) hne).trans (hb.block k hk)⟩
theorem clone_src {w0 w : World} {A : Option Addr} {c n : Nat} {l : List ByteArray} (h : Src w0 A c l) (hn : l.length = n) (hl : n ≤ 400) (hk : Kq w0 w) (X : World → Prop) (hX : ∀ w1, Below w.heap.size w w1 → X w1) :
    Calls Try.prog 39 #[.slice A n c] w fun e w' => X w' ∧ ∃ Bo do_, e = .returned (.slice Bo n do_) ∧ Below w.heap.size w w' ∧ Lo w' w.heap.size (.slice Bo n do_) l := by
  subst hn
  refine (kclone_any A l.length c l w (h.keep hk.kp).strs h.none_ (by omega)).mono ?_
  rintro e w1 ⟨v, rfl, h1, h2⟩
  obtain ⟨Bo, do_, rfl⟩ := h1.form
  exact ⟨hX _ h2, Bo, do_, rfl, h2, h1⟩
def LgTo (B : Nat) (v : Value) (r : List (Ck ByteArray)) (w : World) (e : Ending) (w' : World) : Prop := ∃ v', e = .returned v' ∧ Rwc B w' v' r ∧ w.grownBy w' v.ownBlock
abbrev ag3 (t : Tr) : Value := .agg #[.int .i64 (t.1 : Int), .int .i64 (t.2.1 : Int), .int .i64 (t.2.2 : Int)]
set_option maxRecDepth 100000 in
set_option maxHeartbeats 4000000 in
theorem longer_any (B : Nat) (v : Value) (r : List (Ck ByteArray)) (A C D : Option Addr) (co ca cb : Nat) (o a b : List ByteArray) (st : Bool) (f t : Tr) (w : World) (hR : Rwc B w v r) (hB : B ≤ w.heap.size) (hl : r.length ≤ 1000000)
    (sA : Src w A co o) (sC : Src w C ca a) (sD : Src w D cb b) (lo : o.length ≤ 400) (la : a.length ≤ 400) (lb : b.length ≤ 400)
    (f1 : f.1 ≤ t.1) (f2 : f.2.1 ≤ t.2.1) (f3 : f.2.2 ≤ t.2.2) (t1 : t.1 ≤ o.length) (t2 : t.2.1 ≤ a.length) (t3 : t.2.2 ≤ b.length) :
    Calls Try.prog 23 #[v, .agg #[.slice A o.length co, .slice C a.length ca, .slice D b.length cb], .bool st, ag3 f, ag3 t] w (LgTo B v (lg o a b st f t r) w) := by
  have hQ : ∀ W : World, (binOp .eql 52 (ag3 f) (ag3 t)).run Try.prog W = .ok (.bool (decide (f = t))) W := fun W => by
    rw [run_eql_struct, run_eql_three, three_eq]
    rfl
  have hQ2 : ∀ W : World, (Op.equalIn 10000 52 (ag3 f) (ag3 t)).run Try.prog W = .ok (decide (f = t)) W := fun W => by
    rw [run_eql_three, three_eq]
  have hG := guard3
  unfold ag3 at hQ hQ2 ⊢
  by_cases hft : f = t
  · have hd : decide (f = t) = true := decide_eq_true hft
    have HL : Hid (lg o a b st f t r = r) := by show _ = _; unfold lg; rw [if_pos hft]
    have HR := Lib.hid hR
    clear hft hR sA sC sD
    go_enter Try.func23, Try.ntmps23
    go_wp2_with fail
    go_ret
    have hb : ∀ W, W = ((w.alloc (.cells #[.slice A o.length co, .slice C a.length ca, .slice D b.length cb] 45)).alloc (.cells #[.int .i64 (f.1 : Int), .int .i64 (f.2.1 : Int), .int .i64 (f.2.2 : Int)] 52)).alloc (.cells #[.int .i64 (t.1 : Int), .int .i64 (t.2.1 : Int), .int .i64 (t.2.2 : Int)] 52) → Below w.heap.size w W := fun W e => by
      rw [e]
      exact (((Below.refl _ w).alloc (Nat.le_refl _) _).alloc (by simp) _).alloc (by simp; omega) _
    refine ⟨_, rfl, ?_, grown_below (hb _ rfl) _⟩
    rw [HL.out]
    exact HR.out.call (hb _ rfl)
  · have hd : decide (f = t) = false := decide_eq_false hft
    have HL : Hid (lg o a b st f t r = ⟨st, (o.take t.1).drop f.1, (a.take t.2.1).drop f.2.1, (b.take t.2.2).drop f.2.2⟩ :: r) := by show _ = _; unfold lg; rw [if_neg hft]
    obtain ⟨n1, Eo, x1, y1⟩ := sA.sub f1 t1
    obtain ⟨n2, Ea, x2, y2⟩ := sC.sub f2 t2
    obtain ⟨n3, Eb, x3, y3⟩ := sD.sub f3 t3
    have r1 := sA.room
    have r2 := sC.room
    have r3 := sD.room
    have S1 := fun W => slice_run14 A o.length co f.1 t.1 f1 (by omega) W
    have S2 := fun W => slice_run14 C a.length ca f.2.1 t.2.1 f2 (by omega) W
    have S3 := fun W => slice_run14 D b.length cb f.2.2 t.2.2 f3 (by omega) W
    simp only [x1] at S1
    simp only [x2] at S2
    simp only [x3] at S3
    have HR := Lib.hid hR
    have HS1 := Lib.hid S1
    have HS2 := Lib.hid S2
    have HS3 := Lib.hid S3
    have HN1 := Lib.hid n1
    have HN2 := Lib.hid n2
    have HN3 := Lib.hid n3
    have HY1 := Lib.hid y1
    have HY2 := Lib.hid y2
    have HY3 := Lib.hid y3
    clear hft hR sA sC sD S1 S2 S3 n1 n2 n3 x1 x2 x3 y1 y2 y3 r1 r2 r3
    go_enter Try.func23, Try.ntmps23
    go_wp2_with fail
    obtain ⟨W3, hW3⟩ : ∃ W3, W3 = ((w.alloc (.cells #[.slice A o.length co, .slice C a.length ca, .slice D b.length cb] 45)).alloc (.cells #[.int .i64 (f.1 : Int), .int .i64 (f.2.1 : Int), .int .i64 (f.2.2 : Int)] 52)).alloc (.cells #[.int .i64 (t.1 : Int), .int .i64 (t.2.1 : Int), .int .i64 (t.2.2 : Int)] 52) := ⟨_, rfl⟩
    have hb3 : Below w.heap.size w W3 := by rw [hW3]; exact (((Below.refl _ w).alloc (Nat.le_refl _) _).alloc (by simp) _).alloc (by simp; omega) _
    have a1 : ((w.alloc (.cells #[.slice A o.length co, .slice C a.length ca, .slice D b.length cb] 45)).alloc (.cells #[.int .i64 (f.1 : Int), .int .i64 (f.2.1 : Int), .int .i64 (f.2.2 : Int)] 52)).heap.size = w.heap.size + 1 + 1 := by simp
    have k1 : Bk W3 w.heap.size #[.slice A o.length co, .slice C a.length ca, .slice D b.length cb] 45 := by
      rw [hW3]
      exact (Below.heap_alloc _ _ _ (by rw [a1]; omega)).trans ((Below.heap_alloc _ _ _ (by simp)).trans (heap_alloc_new w _))
    have k2 : Bk W3 (w.heap.size + 1) #[.int .i64 (f.1 : Int), .int .i64 (f.2.1 : Int), .int .i64 (f.2.2 : Int)] 52 := by
      rw [hW3]
      refine (Below.heap_alloc _ _ _ (by rw [a1]; omega)).trans ?_
      have := heap_alloc_new (w.alloc (.cells #[.slice A o.length co, .slice C a.length ca, .slice D b.length cb] 45)) (.cells #[.int .i64 (f.1 : Int), .int .i64 (f.2.1 : Int), .int .i64 (f.2.2 : Int)] 52)
      simpa using this
    have k3 : Bk W3 (w.heap.size + 1 + 1) #[.int .i64 (t.1 : Int), .int .i64 (t.2.1 : Int), .int .i64 (t.2.2 : Int)] 52 := by
      rw [hW3, ← a1]
      exact heap_alloc_new _ _
    rw [← hW3]
    clear hW3 a1
    have hs3 := hb3.size
    have hq3 : Kq w W3 := .of_below hb3
    have hR3 : Rwc B W3.drew v r := (HR.out.call hb3).call (Below.refl _ _).drew
    refine Rg.wp_only ?_ (longReg _ (by kernel_rfl) _ w.heap.size (w.heap.size + 1) (w.heap.size + 1 + 1) o.length co a.length ca b.length cb (t.1 - f.1) (co - f.1) (t.2.1 - f.2.1) (ca - f.2.1) (t.2.2 - f.2.2) (cb - f.2.2) A C D Eo Ea Eb st f t v W3 (Kq W3)
      (fun W w' u => Lo w' W.heap.size u ((o.take t.1).drop f.1)) (fun W w' u => Lo w' W.heap.size u ((a.take t.2.1).drop f.2.1)) (fun W w' u => Lo w' W.heap.size u ((b.take t.2.2).drop f.2.2))
      (fun v8 w8 => Rwc B w8 v8 (⟨st, (o.take t.1).drop f.1, (a.take t.2.1).drop f.2.1, (b.take t.2.2).drop f.2.2⟩ :: r) ∧ W3.grownBy w8 v.ownBlock)
      (fun W hW => ⟨⟨(k1.keep hW (by decide)).cell 0 rfl, (k1.keep hW (by decide)).cell 1 rfl, (k1.keep hW (by decide)).cell 2 rfl⟩, ⟨(k2.keep hW (by decide)).cell 0 rfl, (k2.keep hW (by decide)).cell 1 rfl, (k2.keep hW (by decide)).cell 2 rfl⟩, ⟨(k3.keep hW (by decide)).cell 0 rfl, (k3.keep hW (by decide)).cell 1 rfl, (k3.keep hW (by decide)).cell 2 rfl⟩⟩)
      (Kq.drew W3) (fun W o h => h.alloc o) HS1.out HS2.out HS3.out
      (fun W hW => clone_src HY1.out HN1.out (by omega) (hq3.trans hW) (Kq W3) (fun w1 h1 => hW.trans (.of_below h1)))
      (fun W hW => clone_src HY2.out HN2.out (by omega) (hq3.trans hW) (Kq W3) (fun w1 h1 => hW.trans (.of_below h1)))
      (fun W hW => clone_src HY3.out HN3.out (by omega) (hq3.trans hW) (Kq W3) (fun w1 h1 => hW.trans (.of_below h1)))
      (fun w5 w6 w7 Bo do_ Ba da Bb db q5 b5 l5 q6 b6 l6 q7 b7 l7 ty => by
        obtain ⟨v8, w8, e, j1, j2, j3⟩ := hR3.put (by show B ≤ W3.heap.size; omega) hl st b5 l5 b6 l6 b7 l7 ty
        exact ⟨v8, w8, e, (Kq.drew W3).trans j1, j2, grown_of2 (Below.refl _ _).drew j3⟩))
    rintro _ w8 ⟨v8, Bo, do_, Ba, da, Bb, db, g7, rfl, hz1, hz2⟩
    have HZ1 := Lib.hid hz1
    have HZ2 := Lib.hid hz2
    clear hz1 hz2 k1 k2 k3 hR3 hq3
    go_wp2_with fail
    go_ret
    refine ⟨_, rfl, ?_, grown_of2 hb3 HZ2.out⟩
    rw [HL.out]
    exact HZ1.out
end Go.Proofs.Ytnpobigombafoaa.Mg

namespace Go.Proofs.Ytnpobigombafoaa.Mg
open Go.RowKit Go.ChangeShapes Go.WideShapes Tx Um Ud Aq Km Kd Lm Ln
set_option linter.unusedVariables false
def Duo (g : Nat) (p : Nat × Nat) (W : World) : Prop := W.cell? ⟨g, 0, none⟩ = some (.int .i64 (p.1 : Int)) ∧ W.cell? ⟨g, 1, none⟩ = some (.int .i64 (p.2 : Int))
set_option maxRecDepth 100000 in
set_option maxHeartbeats 4000000 in
theorem pairReg (ops : Array Oper) (hops : ops = (Rg.opsOf Try.f22 9)) (id : Nat) (bx ox nx cx bY oY ny cy : Nat) (p q : Nat × Nat) {u0 u1 u2 u3 u5 u7 u8 u9 u10 u11 u12 u13 u14 u15 u16 u17 u18 u19 u20 u21 u22 u23 u24 u25 u26 u27 u28 u29 u30 u31 u32 u33 u34 u35 u36 u37 u38 u39 u40 u41 u42 u43 u44 u45 u46 u47 u48 u49 u50 u51 u52 u53 u54 u55 u56 u57 u58 u59 u60 u61 u62 u63 u64 u65 u66 u67 u68 u69 u70 u71 u72 u73 u74 : Value} (w : World) (hnx : (0 : Int) < (nx : Int)) (hny : (0 : Int) < (ny : Int))
    (hX : ∀ W, Below w.heap.size w W → W.cell? ⟨bx, ox, none⟩ = some (.int .i64 (p.1 : Int)) ∧ W.cell? ⟨bx, ox + 1, none⟩ = some (.int .i64 (p.2 : Int)) ∧ W.cell? ⟨bY, oY, none⟩ = some (.int .i64 (q.1 : Int)) ∧ W.cell? ⟨bY, oY + 1, none⟩ = some (.int .i64 (q.2 : Int))) :
    (Code.region id ops true).wp Try.prog (Rg.Only fun a' w' => ∃ g8 g9 : Nat, a' = ⟨#[u0, u1, u2, u3, (.slice (some ⟨bx, ox, none⟩) nx cx), u5, (.slice (some ⟨bY, oY, none⟩) ny cy), u7, (.pointer (some ⟨g8, 0, none⟩)), (.pointer (some ⟨g9, 0, none⟩)), u10, u11, u12, u13, u14, u15, u16, u17, u18, u19, u20, u21, u22, u23, u24, u25, u26, u27, u28, u29, u30, u31, u32, u33, u34, u35, u36, u37, u38, u39, (.slice (some ⟨bx, ox, none⟩) nx cx), (.pointer (some ⟨bx, ox, none⟩)), (.agg #[.int .i64 (p.1 : Int), .int .i64 (p.2 : Int)]), (.slice (some ⟨bY, oY, none⟩) ny cy), (.pointer (some ⟨bY, oY, none⟩)), (.agg #[.int .i64 (q.1 : Int), .int .i64 (q.2 : Int)]), u46, u47, u48, u49, u50, u51, u52, u53, u54, u55, u56, u57, u58, u59, u60, u61, u62, u63, u64, u65, u66, u67, u68, u69, u70, u71, u72, u73, u74], []⟩ ∧ w.heap.size ≤ g8 ∧ w.heap.size ≤ g9 ∧ Duo g8 p w' ∧ Duo g9 q w' ∧ Below w.heap.size w w') ⟨#[u0, u1, u2, u3, (.slice (some ⟨bx, ox, none⟩) nx cx), u5, (.slice (some ⟨bY, oY, none⟩) ny cy), u7, u8, u9, u10, u11, u12, u13, u14, u15, u16, u17, u18, u19, u20, u21, u22, u23, u24, u25, u26, u27, u28, u29, u30, u31, u32, u33, u34, u35, u36, u37, u38, u39, u40, u41, u42, u43, u44, u45, u46, u47, u48, u49, u50, u51, u52, u53, u54, u55, u56, u57, u58, u59, u60, u61, u62, u63, u64, u65, u66, u67, u68, u69, u70, u71, u72, u73, u74], []⟩ w := by
  subst hops
  have hNS : Region.noSelect (Rg.opsOf Try.f22 9) = true := by kernel_rfl
  have hB0 : w.heap.size ≤ w.drew.heap.size := Nat.le_refl _
  refine wp_region_held_drew (S := Below w.heap.size w) (by kernel_rfl) (Below.refl _ w).drew (fun hHeld => ?_)
  rw [show (Rg.opsOf Try.f22 9).size = 10 by kernel_rfl]
  refine Rg.take (ops := (Rg.opsOf Try.f22 9)) 0 (some 40) ((.slice (some ⟨bx, ox, none⟩) nx cx)) hNS (by kernel_rfl) (by kernel_rfl) (by kernel_rfl) (by kernel_rfl) (by kernel_rfl) hHeld (Rg.y_move (x := (Operand.tmp 4)) (Or.inl (by kernel_rfl)) (by kernel_rfl)) ?_
  refine Rg.take (ops := (Rg.opsOf Try.f22 9)) 1 (some 41) ((.pointer (some ⟨bx, ox, none⟩))) hNS (by kernel_rfl) (by kernel_rfl) (by kernel_rfl) (by kernel_rfl) (by kernel_rfl) hHeld (Rg.y_at (T := 76) (x := (Operand.tmp 40)) (y := (Operand.const (Value.int IntKind.i64 0))) (vx := (.slice (some ⟨bx, ox, none⟩) nx cx)) (vy := (Value.int IntKind.i64 0)) (by kernel_rfl) (by kernel_rfl) (by kernel_rfl) ?_) ?_
  · (intro W hSw; clear hSw hHeld; go_simp <;> first | omega | (intro h0; omega))
  refine Rg.take (ops := (Rg.opsOf Try.f22 9)) 2 (some 42) ((.agg #[.int .i64 (p.1 : Int), .int .i64 (p.2 : Int)])) hNS (by kernel_rfl) (by kernel_rfl) (by kernel_rfl) (by kernel_rfl) (by kernel_rfl) hHeld (Rg.y_load (T := 79) (x := (Operand.tmp 41)) (vx := (.pointer (some ⟨bx, ox, none⟩))) (by kernel_rfl) (by kernel_rfl) ?_) ?_
  · (intro W hSw; obtain ⟨s0, s1, s2, s3⟩ := hX _ hSw; clear hSw hHeld; go_simp)
  refine Rg.take (ops := (Rg.opsOf Try.f22 9)) 3 (some 43) ((.slice (some ⟨bY, oY, none⟩) ny cy)) hNS (by kernel_rfl) (by kernel_rfl) (by kernel_rfl) (by kernel_rfl) (by kernel_rfl) hHeld (Rg.y_move (x := (Operand.tmp 6)) (Or.inl (by kernel_rfl)) (by kernel_rfl)) ?_
  refine Rg.take (ops := (Rg.opsOf Try.f22 9)) 4 (some 44) ((.pointer (some ⟨bY, oY, none⟩))) hNS (by kernel_rfl) (by kernel_rfl) (by kernel_rfl) (by kernel_rfl) (by kernel_rfl) hHeld (Rg.y_at (T := 76) (x := (Operand.tmp 43)) (y := (Operand.const (Value.int IntKind.i64 0))) (vx := (.slice (some ⟨bY, oY, none⟩) ny cy)) (vy := (Value.int IntKind.i64 0)) (by kernel_rfl) (by kernel_rfl) (by kernel_rfl) ?_) ?_
  · (intro W hSw; clear hSw hHeld; go_simp <;> first | omega | (intro h0; omega))
  refine Rg.take (ops := (Rg.opsOf Try.f22 9)) 5 (some 45) ((.agg #[.int .i64 (q.1 : Int), .int .i64 (q.2 : Int)])) hNS (by kernel_rfl) (by kernel_rfl) (by kernel_rfl) (by kernel_rfl) (by kernel_rfl) hHeld (Rg.y_load (T := 79) (x := (Operand.tmp 44)) (vx := (.pointer (some ⟨bY, oY, none⟩))) (by kernel_rfl) (by kernel_rfl) ?_) ?_
  · (intro W hSw; obtain ⟨s0, s1, s2, s3⟩ := hX _ hSw; clear hSw hHeld; go_simp)
  refine Rg.two (ops := (Rg.opsOf Try.f22 9)) (i := 6) (j := 7) (by kernel_rfl) ?_ ?_
  · refine Rg.op_alloc (ops := (Rg.opsOf Try.f22 9)) 6 (some 8) (T := 79) (v := (.pointer (some ⟨w.drew.heap.size, 0, none⟩))) (w1 := w.drew.alloc (.cells #[.int .i64 0, .int .i64 0] 79)) (by kernel_rfl) (by kernel_rfl) (by kernel_rfl) (by kernel_rfl) ?_ (hHeld.alloc (Nat.le_trans hB0 (by go_simp <;> omega)) _) (fun hHeld => ?_)
    · (clear hHeld; go_simp <;> rfl)
    refine Rg.one (ops := (Rg.opsOf Try.f22 9)) (i := 7) (by kernel_rfl) ?_
    refine Rg.op_alloc (ops := (Rg.opsOf Try.f22 9)) 7 (some 9) (T := 79) (v := (.pointer (some ⟨(w.drew.alloc (.cells #[.int .i64 0, .int .i64 0] 79)).heap.size, 0, none⟩))) (w1 := (w.drew.alloc (.cells #[.int .i64 0, .int .i64 0] 79)).alloc (.cells #[.int .i64 0, .int .i64 0] 79)) (by kernel_rfl) (by kernel_rfl) (by kernel_rfl) (by kernel_rfl) ?_ (hHeld.alloc (Nat.le_trans hB0 (by go_simp <;> omega)) _) (fun hHeld => ?_)
    · (clear hHeld; go_simp <;> rfl)
    refine Rg.store (ops := (Rg.opsOf Try.f22 9)) 8 (T := 79) (x := (Operand.tmp 8)) (y := (Operand.tmp 42)) (vx := (.pointer (some ⟨w.drew.heap.size, 0, none⟩))) (vy := (.agg #[.int .i64 (p.1 : Int), .int .i64 (p.2 : Int)])) (w1 := (w.drew.alloc (.cells #[.int .i64 (p.1 : Int), .int .i64 (p.2 : Int)] 79)).alloc (.cells #[.int .i64 0, .int .i64 0] 79)) (by kernel_rfl) (by kernel_rfl) (by kernel_rfl) (by kernel_rfl) (by kernel_rfl) (by kernel_rfl) (by kernel_rfl) ?_ (((Below.refl _ w).drew.alloc (by go_simp) _).alloc (by go_simp <;> omega) _) (fun hHeld => ?_)
    · (clear hHeld; go_simp)
    refine Rg.store (ops := (Rg.opsOf Try.f22 9)) 9 (T := 79) (x := (Operand.tmp 9)) (y := (Operand.tmp 45)) (vx := (.pointer (some ⟨(w.drew.alloc (.cells #[.int .i64 0, .int .i64 0] 79)).heap.size, 0, none⟩))) (vy := (.agg #[.int .i64 (q.1 : Int), .int .i64 (q.2 : Int)])) (w1 := (w.drew.alloc (.cells #[.int .i64 (p.1 : Int), .int .i64 (p.2 : Int)] 79)).alloc (.cells #[.int .i64 (q.1 : Int), .int .i64 (q.2 : Int)] 79)) (by kernel_rfl) (by kernel_rfl) (by kernel_rfl) (by kernel_rfl) (by kernel_rfl) (by kernel_rfl) (by kernel_rfl) ?_ (((Below.refl _ w).drew.alloc (by go_simp) _).alloc (by go_simp <;> omega) _) (fun hHeld => ?_)
    · (clear hHeld; go_simp)
    refine Rg.done (ops := (Rg.opsOf Try.f22 9)) (by kernel_rfl) ?_
    exact ⟨w.drew.heap.size, (w.drew.alloc (.cells #[.int .i64 0, .int .i64 0] 79)).heap.size, by kernel_rfl, by go_simp <;> omega, by go_simp <;> omega, by unfold Duo; refine ⟨?_, ?_⟩ <;> go_simp, by unfold Duo; refine ⟨?_, ?_⟩ <;> go_simp, hHeld⟩
  · refine Rg.op_alloc (ops := (Rg.opsOf Try.f22 9)) 7 (some 9) (T := 79) (v := (.pointer (some ⟨w.drew.heap.size, 0, none⟩))) (w1 := w.drew.alloc (.cells #[.int .i64 0, .int .i64 0] 79)) (by kernel_rfl) (by kernel_rfl) (by kernel_rfl) (by kernel_rfl) ?_ (hHeld.alloc (Nat.le_trans hB0 (by go_simp <;> omega)) _) (fun hHeld => ?_)
    · (clear hHeld; go_simp <;> rfl)
    refine Rg.one (ops := (Rg.opsOf Try.f22 9)) (i := 6) (by kernel_rfl) ?_
    refine Rg.op_alloc (ops := (Rg.opsOf Try.f22 9)) 6 (some 8) (T := 79) (v := (.pointer (some ⟨(w.drew.alloc (.cells #[.int .i64 0, .int .i64 0] 79)).heap.size, 0, none⟩))) (w1 := (w.drew.alloc (.cells #[.int .i64 0, .int .i64 0] 79)).alloc (.cells #[.int .i64 0, .int .i64 0] 79)) (by kernel_rfl) (by kernel_rfl) (by kernel_rfl) (by kernel_rfl) ?_ (hHeld.alloc (Nat.le_trans hB0 (by go_simp <;> omega)) _) (fun hHeld => ?_)
    · (clear hHeld; go_simp <;> rfl)
    refine Rg.store (ops := (Rg.opsOf Try.f22 9)) 8 (T := 79) (x := (Operand.tmp 8)) (y := (Operand.tmp 42)) (vx := (.pointer (some ⟨(w.drew.alloc (.cells #[.int .i64 0, .int .i64 0] 79)).heap.size, 0, none⟩))) (vy := (.agg #[.int .i64 (p.1 : Int), .int .i64 (p.2 : Int)])) (w1 := (w.drew.alloc (.cells #[.int .i64 0, .int .i64 0] 79)).alloc (.cells #[.int .i64 (p.1 : Int), .int .i64 (p.2 : Int)] 79)) (by kernel_rfl) (by kernel_rfl) (by kernel_rfl) (by kernel_rfl) (by kernel_rfl) (by kernel_rfl) (by kernel_rfl) ?_ (((Below.refl _ w).drew.alloc (by go_simp) _).alloc (by go_simp <;> omega) _) (fun hHeld => ?_)
    · (clear hHeld; go_simp)
    refine Rg.store (ops := (Rg.opsOf Try.f22 9)) 9 (T := 79) (x := (Operand.tmp 9)) (y := (Operand.tmp 45)) (vx := (.pointer (some ⟨w.drew.heap.size, 0, none⟩))) (vy := (.agg #[.int .i64 (q.1 : Int), .int .i64 (q.2 : Int)])) (w1 := (w.drew.alloc (.cells #[.int .i64 (q.1 : Int), .int .i64 (q.2 : Int)] 79)).alloc (.cells #[.int .i64 (p.1 : Int), .int .i64 (p.2 : Int)] 79)) (by kernel_rfl) (by kernel_rfl) (by kernel_rfl) (by kernel_rfl) (by kernel_rfl) (by kernel_rfl) (by kernel_rfl) ?_ (((Below.refl _ w).drew.alloc (by go_simp) _).alloc (by go_simp <;> omega) _) (fun hHeld => ?_)
    · (clear hHeld; go_simp)
    refine Rg.done (ops := (Rg.opsOf Try.f22 9)) (by kernel_rfl) ?_
    exact ⟨(w.drew.alloc (.cells #[.int .i64 0, .int .i64 0] 79)).heap.size, w.drew.heap.size, by kernel_rfl, by go_simp <;> omega, by go_simp <;> omega, by unfold Duo; refine ⟨?_, ?_⟩ <;> go_simp, by unfold Duo; refine ⟨?_, ?_⟩ <;> go_simp, hHeld⟩
end Go.Proofs.Ytnpobigombafoaa.Mg

namespace Go.Proofs.Ytnpobigombafoaa.Mg
open Go.RowKit Go.ChangeShapes Go.WideShapes Tx Um Ud Aq Km Kd Lm Ln
set_option linter.unusedVariables false
theorem grown_of {w w2 w3 : World} {row : Option Nat} (hb : Below w.heap.size w w2) (hg : w2.grownBy w3 row) : w.grownBy w3 row :=
  ⟨hg.os.trans hb.os, hg.tape.trans hb.tape, hg.output.trans hb.output, Nat.le_trans hb.size hg.size, fun k hk hne => (hg.block k (Nat.lt_of_lt_of_le hk hb.size) hne).trans (hb.block k hk)⟩
theorem set_grown (w : World) (g k : Nat) (u : Value) : w.grownBy (w.setCell ⟨g, k, none⟩ u) (some g) :=
  ⟨rfl, rfl, rfl, by simp [World.setCell], fun q hq hne => Below.heap_setCell _ _ _ _ (fun e => hne (by rw [e]))⟩
theorem cell_six2 (w : World) (a b c x y z : Value) (e : TypeId) : ∀ (j : Nat) u, [a, b, c, x, y, z][j]? = some u → (w.alloc (.cells #[a, b, c, x, y, z] e)).cell? ((⟨w.heap.size, 0, none⟩ : Addr).add j) = some u := by
  intro j u hj
  rw [WideShapes.add_plain]
  match j, hj with
  | 0, hj => injection hj with hj; subst hj; show (w.alloc _).cell? ⟨w.heap.size, 0, none⟩ = _; go_simp
  | 1, hj => injection hj with hj; subst hj; show (w.alloc _).cell? ⟨w.heap.size, 1, none⟩ = _; go_simp
  | 2, hj => injection hj with hj; subst hj; show (w.alloc _).cell? ⟨w.heap.size, 2, none⟩ = _; go_simp
  | 3, hj => injection hj with hj; subst hj; show (w.alloc _).cell? ⟨w.heap.size, 3, none⟩ = _; go_simp
  | 4, hj => injection hj with hj; subst hj; show (w.alloc _).cell? ⟨w.heap.size, 4, none⟩ = _; go_simp
  | 5, hj => injection hj with hj; subst hj; show (w.alloc _).cell? ⟨w.heap.size, 5, none⟩ = _; go_simp
def JnTo (B : Nat) (v : Value) (R : List (Tr × Tr)) (t : Tr) (w : World) (e : Ending) (w' : World) : Prop := ∃ v', e = .returned v' ∧ Rwo w' B v' (jn R t) ∧ w.grownBy w' v.ownBlock
theorem rwo_put {w1 : World} {B : Nat} {v1 : Value} {R : List (Tr × Tr)} {x : Tr × Tr} (ho : w1.ownsRow B 54 6 v1 (R.length + 1) (R.flatMap h6 ++ h6 x)) : Rwo w1 B v1 (R ++ [x]) := by
  unfold Rwo
  rw [List.length_append, List.flatMap_append]
  simpa using ho
theorem flat6_set (R0 : List (Tr × Tr)) (x y : Tr × Tr) (h : y.1 = x.1) : (((((R0 ++ [x]).flatMap h6).set (R0.length * 6 + 3) (iv y.2.1)).set (R0.length * 6 + 4) (iv y.2.2.1)).set (R0.length * 6 + 5) (iv y.2.2.2)) = (R0 ++ [y]).flatMap h6 := by
  have e := flat6_len R0
  rw [List.flatMap_append, List.flatMap_append]
  rw [← e, List.set_append_right _ _ (by omega), List.set_append_right _ _ (by omega), List.set_append_right _ _ (by omega)]
  simp [h6_eq, h]
theorem rwo_set {w : World} {B g k c : Nat} {R0 : List (Tr × Tr)} {x y : Tr × Tr} (hk : k = R0.length) (h : Rwo w B (.slice (some ⟨g, 0, none⟩) (k + 1) c) (R0 ++ [x])) (he : y.1 = x.1) :
    Rwo (((w.setCell ⟨g, k * 6 + 3, none⟩ (iv y.2.1)).setCell ⟨g, k * 6 + 4, none⟩ (iv y.2.2.1)).setCell ⟨g, k * 6 + 5, none⟩ (iv y.2.2.2)) B (.slice (some ⟨g, 0, none⟩) (k + 1) c) (R0 ++ [y]) := by
  have l1 : (R0 ++ [x]).length = k + 1 := by simp [hk]
  have l2 : (R0 ++ [y]).length = k + 1 := by simp [hk]
  unfold Rwo at h ⊢
  rw [l1] at h
  rw [l2, ← flat6_set R0 x y he, ← hk]
  exact own_put4 (own_put4 (own_put4 h (k * 6 + 3) _) (k * 6 + 4) _) (k * 6 + 5) _
set_option maxRecDepth 100000 in
set_option maxHeartbeats 4000000 in
theorem joined_any (B : Nat) (v : Value) (R : List (Tr × Tr)) (t : Tr) (w : World) (hR : Rwo w B v R) (hl : R.length ≤ 1000000) (ht : t.1 ≤ 1000000 ∧ t.2.1 ≤ 1000000 ∧ t.2.2 ≤ 1000000) (hB : B ≤ w.heap.size) :
    Calls Try.prog 38 #[v, .agg #[.int .i64 (t.1 : Int), .int .i64 (t.2.1 : Int), .int .i64 (t.2.2 : Int)]] w (JnTo B v R t w) := by
  obtain ⟨a, c, rfl, hf⟩ := hR.form
  obtain ⟨iP, hP, hP0, hP1, hP2⟩ := info_parts infoP
  obtain ⟨t1, t2, t3⟩ := ht
  have w1 : IntKind.i64.wrap ((t.1 : Int) + 1) = (t.1 : Int) + 1 := IntWalk.i64_in _ (by omega)
  have w2 : IntKind.i64.wrap ((t.2.1 : Int) + 1) = (t.2.1 : Int) + 1 := IntWalk.i64_in _ (by omega)
  have w3 : IntKind.i64.wrap ((t.2.2 : Int) + 1) = (t.2.2 : Int) + 1 := IntWalk.i64_in _ (by omega)
  have HF := Lib.hid hf
  have HR := Lib.hid hR
  clear hf hR
  obtain ⟨t1v, ht1⟩ : ∃ z, z = t.1 := ⟨_, rfl⟩
  obtain ⟨t2v, ht2⟩ : ∃ z, z = t.2.1 := ⟨_, rfl⟩
  obtain ⟨t3v, ht3⟩ : ∃ z, z = t.2.2 := ⟨_, rfl⟩
  rw [← ht1] at w1 ⊢
  rw [← ht2] at w2 ⊢
  rw [← ht3] at w3 ⊢
  have HT1 := Lib.hid ht1
  have HT2 := Lib.hid ht2
  have HT3 := Lib.hid ht3
  clear ht1 ht2 ht3 t1 t2 t3
  obtain ⟨n, hn⟩ : ∃ n, n = R.length := ⟨_, rfl⟩
  have HN := Lib.hid hn
  rw [← hn] at hl ⊢
  clear hn
  rcases List.eq_nil_or_concat R with h0 | ⟨R0, l, h0⟩
  · obtain rfl : n = 0 := by rw [HN.out, h0]; rfl
    have HJ : Hid (jn R t = R ++ [(t, tr1 t)]) := by show _ = _; rw [h0]; exact jn_nil t
    have wn : IntKind.i64.wrap ((0 : Int) - 1) = -1 := rfl
    clear h0 HF
    go_enter Try.func38, Try.ntmps38
    go_wp2_with fail
    obtain ⟨W0, hW0⟩ : ∃ W0, W0 = (w.alloc (.cells #[.int .i64 (t1v : Int), .int .i64 (t2v : Int), .int .i64 (t3v : Int)] 52)).alloc (.cells #[.int .i64 ((t1v : Int) + 1), .int .i64 ((t2v : Int) + 1), .int .i64 ((t3v : Int) + 1)] 52) := ⟨_, rfl⟩
    have hbW : Below w.heap.size w W0 := by rw [hW0]; exact ((Below.refl _ w).alloc (Nat.le_refl _) _).alloc (by simp) _
    have hsW : W0.heap.size = w.heap.size + 1 + 1 := by rw [hW0]; go_simp
    have hc1 : W0.cell? ⟨w.heap.size, 0, none⟩ = some (.int .i64 (t1v : Int)) ∧ W0.cell? ⟨w.heap.size, 1, none⟩ = some (.int .i64 (t2v : Int)) ∧ W0.cell? ⟨w.heap.size, 2, none⟩ = some (.int .i64 (t3v : Int)) := by rw [hW0]; refine ⟨?_, ?_, ?_⟩ <;> go_simp
    have hc2 : W0.cell? ⟨w.heap.size + 1, 0, none⟩ = some (.int .i64 ((t1v : Int) + 1)) ∧ W0.cell? ⟨w.heap.size + 1, 1, none⟩ = some (.int .i64 ((t2v : Int) + 1)) ∧ W0.cell? ⟨w.heap.size + 1, 2, none⟩ = some (.int .i64 ((t3v : Int) + 1)) := by rw [hW0]; refine ⟨?_, ?_, ?_⟩ <;> go_simp
    rw [← hW0]
    clear hW0
    refine Rg.wp_only ?_ (joinRegT _ (by kernel_rfl) _ W0 (fun W => Below W0.heap.size W0 W) (Below.refl _ _).drew)
    rintro _ w2 ⟨rfl, hb2⟩
    obtain ⟨x0, x1, x2⟩ := hc1
    obtain ⟨y0, y1, y2⟩ := hc2
    have z0 := (hb2.cell (p := ⟨w.heap.size, 0, none⟩) (by simp only; omega)).trans x0
    have z1 := (hb2.cell (p := ⟨w.heap.size, 1, none⟩) (by simp only; omega)).trans x1
    have z2 := (hb2.cell (p := ⟨w.heap.size, 2, none⟩) (by simp only; omega)).trans x2
    have z3 := (hb2.cell (p := ⟨w.heap.size + 1, 0, none⟩) (by simp only; omega)).trans y0
    have z4 := (hb2.cell (p := ⟨w.heap.size + 1, 1, none⟩) (by simp only; omega)).trans y1
    have z5 := (hb2.cell (p := ⟨w.heap.size + 1, 2, none⟩) (by simp only; omega)).trans y2
    have hb2w : Below w.heap.size w w2 := hbW.trans (hb2.mono (by omega))
    clear x0 x1 x2 y0 y1 y2 hbW hsW hb2
    have hown2 : w2.ownsRow B 54 6 (.slice a 0 c) 0 (R.flatMap h6) := by
      have h := HR.out.below hb2w
      unfold Rwo at h
      rw [← HN.out] at h
      exact h
    have hsz2 := hb2w.size
    have HB2 := Lib.hid hb2w
    clear hb2w
    go_wp2_with (at_builtin; refine wpList_append_own _ rfl _ _ 48 rfl B 54 iP (.agg #[.int .i64 0, .int .i64 0, .int .i64 0, .int .i64 0, .int .i64 0, .int .i64 0]) 6 48 Try.underlying48 hP hP0 hP1 hP2 rfl (by decide) _ _ _ rfl (hown2.alloc _) ⟨_, 0, none⟩ 1 1 [iv t1v, iv t2v, iv t3v, iv (t1v + 1), iv (t2v + 1), iv (t3v + 1)] rfl rfl ?c1 ?c2 ?c3 ?c4 ?c5 ?_)
    case c1 => exact cell_six2 _ _ _ _ _ _ _ _
    case c2 =>
      intro u hu
      simp only [List.mem_cons, List.not_mem_nil, or_false] at hu
      rcases hu with rfl | rfl | rfl | rfl | rfl | rfl <;> rfl
    case c3 => unfold maxLen; omega
    case c4 => omega
    case c5 => simp; omega
    intro v3 w3 hown3 hgrow3 _
    go_wp2_with fail
    go_ret
    have hrow : Rwo w3 B v3 (R ++ [(t, tr1 t)]) := rwo_put (by
      have h := hown3
      rw [HT1.out, HT2.out, HT3.out] at h
      rw [← HN.out]
      exact h)
    refine ⟨_, rfl, ?_, grown_of (HB2.out.alloc hsz2 _) hgrow3⟩
    rw [HJ.out]
    exact hrow
  · obtain ⟨k, hk⟩ : ∃ k, k = R0.length := ⟨_, rfl⟩
    obtain rfl : n = k + 1 := by rw [HN.out, h0, hk]; simp
    obtain ⟨g, rfl, hgB, hgl, hfz, hsix⟩ := HF.out.resolve_left (by rw [← HN.out]; omega)
    have hs6 := hsix k l (by rw [h0, hk]; simp)
    have wn : IntKind.i64.wrap (((k + 1 : Nat) : Int) - 1) = (k : Int) := (IntWalk.i64_in _ (by omega)).trans (by omega)
    have HK := Lib.hid hk
    have H0 := Lib.hid h0
    have HFZ := Lib.hid hfz
    have HS6 := Lib.hid hs6
    clear hk h0 HF hfz hsix hs6
    go_enter Try.func38, Try.ntmps38
    go_wp2_with fail
    obtain ⟨W0, hW0⟩ : ∃ W0, W0 = (w.alloc (.cells #[.int .i64 (t1v : Int), .int .i64 (t2v : Int), .int .i64 (t3v : Int)] 52)).alloc (.cells #[.int .i64 ((t1v : Int) + 1), .int .i64 ((t2v : Int) + 1), .int .i64 ((t3v : Int) + 1)] 52) := ⟨_, rfl⟩
    have hbW : Below w.heap.size w W0 := by rw [hW0]; exact ((Below.refl _ w).alloc (Nat.le_refl _) _).alloc (by simp) _
    have hsW : W0.heap.size = w.heap.size + 1 + 1 := by rw [hW0]; go_simp
    have hc1 : W0.cell? ⟨w.heap.size, 0, none⟩ = some (.int .i64 (t1v : Int)) ∧ W0.cell? ⟨w.heap.size, 1, none⟩ = some (.int .i64 (t2v : Int)) ∧ W0.cell? ⟨w.heap.size, 2, none⟩ = some (.int .i64 (t3v : Int)) := by rw [hW0]; refine ⟨?_, ?_, ?_⟩ <;> go_simp
    have hc2 : W0.cell? ⟨w.heap.size + 1, 0, none⟩ = some (.int .i64 ((t1v : Int) + 1)) ∧ W0.cell? ⟨w.heap.size + 1, 1, none⟩ = some (.int .i64 ((t2v : Int) + 1)) ∧ W0.cell? ⟨w.heap.size + 1, 2, none⟩ = some (.int .i64 ((t3v : Int) + 1)) := by rw [hW0]; refine ⟨?_, ?_, ?_⟩ <;> go_simp
    rw [← hW0]
    clear hW0
    have hX : ∀ W, Below W0.heap.size W0 W → Six g k l W ∧ Thr w.heap.size t W := fun W hb => by
      obtain ⟨x0, x1, x2⟩ := hc1
      refine ⟨(HS6.out.below hbW hgl).below hb (by omega), ?_⟩
      unfold Thr
      rw [← HT1.out, ← HT2.out, ← HT3.out]
      exact ⟨(hb.cell (p := ⟨w.heap.size, 0, none⟩) (by simp only; omega)).trans x0, (hb.cell (p := ⟨w.heap.size, 1, none⟩) (by simp only; omega)).trans x1, (hb.cell (p := ⟨w.heap.size, 2, none⟩) (by simp only; omega)).trans x2⟩
    have hkn : (k : Int) < ((k + 1 : Nat) : Int) := by omega
    have ha : ∀ s : Tr, (Value.agg #[.int .i64 (s.1 : Int), .int .i64 (s.2.1 : Int), .int .i64 (s.2.2 : Int)]) = .agg #[.int .i64 (s.1 : Int), .int .i64 (s.2.1 : Int), .int .i64 (s.2.2 : Int)] := fun _ => rfl
    refine Rg.wp_only ?_ (joinRegF _ (by kernel_rfl) _ g (k + 1) c w.heap.size k l t W0 hkn (fun W => Below W0.heap.size W0 W) hX (Below.refl _ _).drew)
    rintro _ w2 ⟨rfl, hb2⟩
    clear hX ha
    obtain ⟨x0, x1, x2⟩ := hc1
    obtain ⟨y0, y1, y2⟩ := hc2
    have z0 := (hb2.cell (p := ⟨w.heap.size, 0, none⟩) (by simp only; omega)).trans x0
    have z1 := (hb2.cell (p := ⟨w.heap.size, 1, none⟩) (by simp only; omega)).trans x1
    have z2 := (hb2.cell (p := ⟨w.heap.size, 2, none⟩) (by simp only; omega)).trans x2
    have z3 := (hb2.cell (p := ⟨w.heap.size + 1, 0, none⟩) (by simp only; omega)).trans y0
    have z4 := (hb2.cell (p := ⟨w.heap.size + 1, 1, none⟩) (by simp only; omega)).trans y1
    have z5 := (hb2.cell (p := ⟨w.heap.size + 1, 2, none⟩) (by simp only; omega)).trans y2
    have hb2w : Below w.heap.size w w2 := hbW.trans (hb2.mono (by omega))
    clear x0 x1 x2 y0 y1 y2 hbW hsW hb2
    by_cases he : l.2 = t
    · have HJ : Hid (jn R t = R0 ++ [(l.1, tr1 t)]) := by show _ = _; rw [H0.out, List.concat_eq_append, jn_snoc, if_pos he]
      have de : decide (l.2 = t) = true := decide_eq_true he
      rw [de]
      have hx0 := (HS6.out.below hb2w hgl)
      obtain ⟨_, _, _, m3, m4, m5⟩ := hx0
      have f3 : w2.frozen? ⟨g, k * 6 + 3, none⟩ = false := (hb2w.frozen (p := ⟨g, _, none⟩) hgl).trans (HFZ.out _)
      have f4 : w2.frozen? ⟨g, k * 6 + 4, none⟩ = false := (hb2w.frozen (p := ⟨g, _, none⟩) hgl).trans (HFZ.out _)
      have f5 : w2.frozen? ⟨g, k * 6 + 5, none⟩ = false := (hb2w.frozen (p := ⟨g, _, none⟩) hgl).trans (HFZ.out _)
      unfold iv at m3 m4 m5
      have HOW : Hid (Rwo w2 B (.slice (some ⟨g, 0, none⟩) R.length c) R) := HR.out.below hb2w
      have HB2 := Lib.hid hb2w
      clear he de hb2w HFZ HS6
      go_wp2_with fail
      go_ret
      refine ⟨_, rfl, ?_, ?_⟩
      · rw [HJ.out]
        have hs := rwo_set (x := l) (k := k) (R0 := R0) (y := (l.1, tr1 t)) (B := B) (w := w2) (g := g) (c := c) HK.out (by rw [H0.out, List.concat_eq_append, List.length_append, ← HK.out] at *; exact HOW.out) rfl
        rw [HT1.out, HT2.out, HT3.out]
        exact hs
      · exact grown_of HB2.out ((set_grown _ _ _ _).trans ((set_grown _ _ _ _).trans (set_grown _ _ _ _)))
    · have HJ : Hid (jn R t = R ++ [(t, tr1 t)]) := by show _ = _; rw [H0.out, List.concat_eq_append, jn_snoc, if_neg he]
      have de : decide (l.2 = t) = false := decide_eq_false he
      rw [de]
      clear he de HFZ HS6
      have hown2 : w2.ownsRow B 54 6 (.slice (some ⟨g, 0, none⟩) (k + 1) c) (k + 1) (R.flatMap h6) := by
        have h := HR.out.below hb2w
        unfold Rwo at h
        rw [← HN.out] at h
        exact h
      have hsz2 := hb2w.size
      have HB2 := Lib.hid hb2w
      clear hb2w
      go_wp2_with (at_builtin; refine wpList_append_own _ rfl _ _ 48 rfl B 54 iP (.agg #[.int .i64 0, .int .i64 0, .int .i64 0, .int .i64 0, .int .i64 0, .int .i64 0]) 6 48 Try.underlying48 hP hP0 hP1 hP2 rfl (by decide) _ _ _ rfl (hown2.alloc _) ⟨_, 0, none⟩ 1 1 [iv t1v, iv t2v, iv t3v, iv (t1v + 1), iv (t2v + 1), iv (t3v + 1)] rfl rfl ?c1 ?c2 ?c3 ?c4 ?c5 ?_)
      case c1 => exact cell_six2 _ _ _ _ _ _ _ _
      case c2 =>
        intro u hu
        simp only [List.mem_cons, List.not_mem_nil, or_false] at hu
        rcases hu with rfl | rfl | rfl | rfl | rfl | rfl <;> rfl
      case c3 => unfold maxLen; omega
      case c4 => omega
      case c5 => simp; omega
      intro v3 w3 hown3 hgrow3 _
      go_wp2_with fail
      go_ret
      have hrow : Rwo w3 B v3 (R ++ [(t, tr1 t)]) := rwo_put (by
        have h := hown3
        rw [HT1.out, HT2.out, HT3.out] at h
        rw [← HN.out]
        exact h)
      refine ⟨_, rfl, ?_, grown_of (HB2.out.alloc hsz2 _) hgrow3⟩
      rw [HJ.out]
      exact hrow
end Go.Proofs.Ytnpobigombafoaa.Mg

namespace Go.Proofs.Ytnpobigombafoaa.Ud
open Go.RowKit Tx Um Aq
set_option linter.unusedVariables false
def num : List ByteArray → ByteArray → Nat
  | [], _ => 0
  | y :: M, x => if y = x then 0 else num M x + 1
theorem num_le (M : List ByteArray) (x : ByteArray) : num M x ≤ M.length := by
  induction M with
  | nil => exact Nat.le_refl _
  | cons y M ih => unfold num; rw [List.length_cons]; split <;> omega
theorem num_app (M r : List ByteArray) (x : ByteArray) (h : num M x < M.length) : num (M ++ r) x = num M x := by
  induction M with
  | nil => cases h
  | cons y M ih =>
    rw [List.cons_append]
    unfold num at h ⊢
    by_cases e : y = x
    · rw [if_pos e, if_pos e]
    · rw [if_neg e] at h
      rw [if_neg e, if_neg e, ih (by rw [List.length_cons] at h; omega)]
theorem num_new (M : List ByteArray) (x : ByteArray) (h : ¬ num M x < M.length) : num (M ++ [x]) x = M.length := by
  induction M with
  | nil => show num [x] x = 0; unfold num; rw [if_pos rfl]
  | cons y M ih =>
    rw [List.cons_append]
    unfold num at h ⊢
    by_cases e : y = x
    · rw [if_pos e] at h; exact absurd (Nat.succ_pos _) h
    · rw [if_neg e] at h
      rw [if_neg e, ih (by rw [List.length_cons] at h; omega), List.length_cons]
theorem num_inj (M : List ByteArray) (x y : ByteArray) (h : num M x < M.length) (he : num M x = num M y) : x = y := by
  induction M with
  | nil => cases h
  | cons z M ih =>
    unfold num at h he
    by_cases e : z = x
    · rw [if_pos e] at he
      by_cases e2 : z = y
      · exact e.symm.trans e2
      · rw [if_neg e2] at he; cases he
    · rw [if_neg e] at h he
      by_cases e2 : z = y
      · rw [if_pos e2] at he; cases he
      · rw [if_neg e2] at he
        exact ih (by rw [List.length_cons] at h; omega) (by omega)
theorem num_other (M : List ByteArray) (x y : ByteArray) (h : x ≠ y) (hy : ¬ num M y < M.length) : num (M ++ [x]) y = M.length + 1 := by
  induction M with
  | nil => show num [x] y = 1; unfold num; rw [if_neg h]; rfl
  | cons z M ih =>
    rw [List.cons_append]
    unfold num at hy ⊢
    by_cases e : z = y
    · rw [if_pos e] at hy; exact absurd (Nat.succ_pos _) hy
    · rw [if_neg e] at hy
      rw [if_neg e, ih (by rw [List.length_cons] at hy; omega), List.length_cons]
def ad (M : List ByteArray) (x : ByteArray) : List ByteArray := if num M x < M.length then M else M ++ [x]
def ads (M l : List ByteArray) : List ByteArray := l.foldl ad M
theorem ad_has (M : List ByteArray) (x : ByteArray) : num (ad M x) x < (ad M x).length := by
  unfold ad
  split
  · assumption
  · rename_i h
    rw [num_new M x h, List.length_append]
    exact Nat.lt_succ_self _
theorem ad_keeps (M : List ByteArray) (x y : ByteArray) (h : num M y < M.length) : num (ad M x) y = num M y ∧ num (ad M x) y < (ad M x).length := by
  unfold ad
  split
  · exact ⟨rfl, h⟩
  · rw [num_app M [x] y h, List.length_append]
    exact ⟨rfl, by omega⟩
theorem ad_len (M : List ByteArray) (x : ByteArray) : (ad M x).length ≤ M.length + 1 := by
  unfold ad
  split
  · omega
  · rw [List.length_append]; exact Nat.le_refl _
theorem ads_keeps (l : List ByteArray) : ∀ (M : List ByteArray) (y : ByteArray), num M y < M.length → num (ads M l) y = num M y ∧ num (ads M l) y < (ads M l).length := by
  induction l with
  | nil => intro M y h; exact ⟨rfl, h⟩
  | cons x l ih =>
    intro M y h
    obtain ⟨h1, h2⟩ := ad_keeps M x y h
    obtain ⟨h3, h4⟩ := ih (ad M x) y h2
    exact ⟨h3.trans h1, h4⟩
theorem ads_len (l : List ByteArray) : ∀ (M : List ByteArray), (ads M l).length ≤ M.length + l.length := by
  induction l with
  | nil => intro M; exact Nat.le_refl _
  | cons x l ih =>
    intro M
    have h1 := ih (ad M x)
    have h2 := ad_len M x
    have h3 : ads M (x :: l) = ads (ad M x) l := rfl
    rw [h3, List.length_cons]
    omega
theorem ads_has (l : List ByteArray) : ∀ (M : List ByteArray) (y : ByteArray), y ∈ l → num (ads M l) y < (ads M l).length := by
  induction l with
  | nil => intro M y h; cases h
  | cons x l ih =>
    intro M y h
    rcases List.mem_cons.1 h with rfl | h
    · exact (ads_keeps l (ad M y) y (ad_has M y)).2
    · exact ih (ad M x) y h
theorem ads_snoc (M l : List ByteArray) (x : ByteArray) : ads M (l ++ [x]) = ad (ads M l) x := by
  unfold ads
  rw [List.foldl_append]
  rfl
theorem ads_take {M l : List ByteArray} {k : Nat} {x : ByteArray} (h : l[k]? = some x) : ads M (l.take (k + 1)) = ad (ads M (l.take k)) x := by
  obtain ⟨h1, h2⟩ := List.getElem?_eq_some_iff.1 h
  rw [List.take_add_one, h, ← ads_snoc]
  rfl
def kLn (p : ByteArray) : Lit := .string p.data.toList
theorem kLn_inj {p q : ByteArray} (h : kLn p = kLn q) : p = q := by
  unfold kLn at h
  injection h with h
  exact ByteArray.ext (Array.toList_inj.1 h)
theorem strKn : Go.Maps.Keyed Try.prog 9 := Go.Maps.string_keyed Try.underlying9
theorem keyPn {p : ByteArray} (hp : p.size ≤ maxLen) : keyOf Try.prog 9 (.string p) = some (kLn p) := Go.WideMaps.keyOf_string_mk Try.underlying9 hp
theorem zeroNn (w : World) : (zeroValue 3).run Try.prog w = .ok (.int .i64 0) w := by kernel_rfl
def ReadsN (D : DataW Unit) (M : List ByteArray) : Prop := ∀ p z, D.atKey (kLn p) z = if num M p < M.length then .lit (.int .i64 (num M p : Nat)) else z
def Nm (w : World) (bm : Nat) (M : List ByteArray) : Prop := ∃ D : DataW Unit, w.ownsMap Try.prog 9 (plainElem Try.prog 3) bm M.length D ∧ ReadsN D M ∧ Go.Maps.size D = M.length
theorem Nm.lt {w : World} {bm : Nat} {M : List ByteArray} (h : Nm w bm M) : bm < w.heap.size := by
  obtain ⟨D, h, _⟩ := h
  exact h.lt
theorem Nm.kept {w w1 : World} {bm : Nat} {M : List ByteArray} (h : Nm w bm M) (he : w1.heap[bm]? = w.heap[bm]?) : Nm w1 bm M := by
  obtain ⟨D, ⟨es, clock, hb, r⟩, q⟩ := h
  exact ⟨D, ⟨es, clock, he.trans hb, r⟩, q⟩
theorem readsN_has {D : DataW Unit} {M : List ByteArray} (h : ReadsN D M) (v : ByteArray) : Go.Maps.has D (kLn v) = decide (num M v < M.length) := by
  by_cases hf : num M v < M.length
  · rw [decide_eq_true hf]
    exact Go.Maps.has_true_of_atKey (y := .lit (.int .i64 (num M v : Nat))) fun z => by rw [h v z, if_pos hf]
  · rw [decide_eq_false hf]
    exact Go.Maps.has_false_of_atKey fun z => by rw [h v z, if_neg hf]
theorem Nm.look {w : World} {bm : Nat} {M : List ByteArray} (h : Nm w bm M) {v : ByteArray} (hp : v.size ≤ maxLen) :
    (Instr.lookup 107 (.map (some bm)) (.string v) true).run Try.prog w = .ok (.tuple #[.int .i64 (if num M v < M.length then (num M v : Nat) else 0 : Nat), .bool (decide (num M v < M.length))]) w := by
  obtain ⟨D, ho, hr, _⟩ := h
  obtain ⟨u, ps, hrun, hv⟩ := ho.look_ok strKn Try.underlying107 (zeroNn w) (plainElem_int Try.underlying3 (by decide)) (keyPn hp)
  rw [hrun, readsN_has hr]
  obtain ⟨c, rfl, hc, hwc⟩ := plainElem_int_inv Try.underlying3 hv
  have hc := congrArg Prod.fst hc
  simp only [hr v] at hc
  by_cases hf : num M v < M.length
  · rw [if_pos hf] at hc ⊢
    cases hc
    rfl
  · rw [if_neg hf] at hc ⊢
    cases hc
    rfl
theorem Nm.len {w : World} {bm : Nat} {M : List ByteArray} (h : Nm w bm M) (ty : TypeId) : (Builtin.len_ #[107] ty #[.map (some bm)]).run Try.prog w = .ok (.int .i64 (M.length : Nat)) w := by
  obtain ⟨D, ho, _, hs⟩ := h
  rw [ho.len Try.underlying107 ty, hs]
theorem Nm.store {w : World} {bm : Nat} {M : List ByteArray} (h : Nm w bm M) {v : ByteArray} (hp : v.size ≤ maxLen) (hn : M.length ≤ 1000) (hv : ¬ num M v < M.length) :
    ∃ w', (Instr.mapUpdate 107 (.map (some bm)) (.string v) (.int .i64 (M.length : Nat))).run Try.prog w = .ok () w' ∧ Nm w' bm (M ++ [v]) ∧ w.grownBy w' (some bm) := by
  obtain ⟨D, ho, hr, hs⟩ := h
  have hw : (Lit.int .i64 (M.length : Nat)).wf = true := by simp [Lit.wf, IntKind.min, IntKind.max, IntKind.signed, IntKind.bits]; omega
  obtain ⟨w', hrun, ho', ht⟩ := ho.store strKn Try.underlying107 (by unfold maxLen; omega) (keyPn hp) (plainElem_int Try.underlying3 hw)
  have hsz : Go.Maps.size (D.put (kLn v) (.lit (.int .i64 (M.length : Nat)))) = (M ++ [v]).length := by
    have h1 := Go.Maps.size_put (ho.tidy strKn) (k := kLn v) (.lit (.int .i64 (M.length : Nat)))
    rw [readsN_has hr, decide_eq_false hv] at h1
    rw [h1, hs, List.length_append]
    rfl
  refine ⟨w', hrun, ⟨_, ?_, fun p z => ?_, hsz⟩, ht.grown⟩
  · rw [List.length_append]
    exact ho'.mono (by simp)
  · by_cases he : p = v
    · subst he
      rw [Go.Maps.atKey_put_same ho.isMap (by trivial), num_new M p hv, List.length_append, if_pos (by simp)]
    · rw [Go.Maps.atKey_put_other (fun e => he (kLn_inj e)), hr p z]
      by_cases hf : num M p < M.length
      · rw [if_pos hf, num_app M [v] p hf, if_pos (by rw [List.length_append]; omega)]
      · rw [if_neg hf, num_other M v p (fun e => he e.symm) hf, if_neg (by rw [List.length_append]; exact Nat.lt_irrefl _)]
theorem nm_made (w : World) : Nm (w.alloc (.map #[] 0)) w.heap.size [] := ⟨_, World.ownsMap_made w _ _ _, fun p z => rfl, rfl⟩
end Go.Proofs.Ytnpobigombafoaa.Ud

namespace Go.Proofs.Ytnpobigombafoaa.Ud
open Go.RowKit Tx Um Aq
set_option linter.unusedVariables false
def Nk (w0 : World) (g bm : Nat) (M l : List ByteArray) (k : Nat) (w : World) : Prop :=
  Nm w bm (ads M (l.take k)) ∧ (∃ ys, w.ownsRow w0.heap.size 3 1 (.slice (some ⟨g, 0, none⟩) l.length l.length) l.length ys ∧ ∀ (j : Nat) x, j < k → l[j]? = some x → ys[j]? = some (iv (num (ads M (l.take k)) x)) ∧ num (ads M (l.take k)) x < (ads M (l.take k)).length) ∧ w0.grownBy w (some bm)
theorem Nk.done {w0 w : World} {g bm : Nat} {M l : List ByteArray} (h : Nk w0 g bm M l l.length w) : Ints w w0.heap.size (.slice (some ⟨g, 0, none⟩) l.length l.length) (l.map (num (ads M l))) ∧ Nm w bm (ads M l) ∧ w0.grownBy w (some bm) := by
  obtain ⟨h1, ⟨ys, h2, h3⟩, h4⟩ := h
  rw [List.take_length] at h1 h3
  refine ⟨?_, h1, h4⟩
  unfold Ints
  rw [List.length_map]
  have e : ys = (l.map (num (ads M l))).map iv := by
    apply List.ext_getElem?
    intro j
    by_cases hj : j < l.length
    · rw [(h3 j l[j] hj (List.getElem?_eq_getElem hj)).1, List.getElem?_map, List.getElem?_map, List.getElem?_eq_getElem hj]
      rfl
    · have hy := h2.1
      rw [List.getElem?_eq_none (by omega), List.getElem?_eq_none (by simp; omega)]
  rw [← e]
  exact h2
theorem Nk.put {w0 w : World} {g bm : Nat} {M l : List ByteArray} {k : Nat} {x : ByteArray} (h : Nk w0 g bm M l k w) (hx : l[k]? = some x) (hg : g ≠ bm) (hg0 : w0.heap.size ≤ g) (w1 : World) (hm : Nm w1 bm (ad (ads M (l.take k)) x)) (hg1 : w.grownBy w1 (some bm)) (c : Nat) (hc : c = num (ad (ads M (l.take k)) x) x) :
    Nk w0 g bm M l (k + 1) (w1.setCell ⟨g, k, none⟩ (.int .i64 (c : Int))) := by
  obtain ⟨h1, ⟨ys, h2, h3⟩, h4⟩ := h
  have hk := (List.getElem?_eq_some_iff.1 hx).1
  have h2' := h2.kept hg1 (.inr (fun e => hg (by injection e)))
  unfold Nk
  rw [ads_take hx]
  refine ⟨hm.kept (Below.heap_setCell w1 ⟨g, k, none⟩ _ bm (fun e => hg e.symm)), ⟨_, own_store h2' (by simpa using hk) (.int .i64 (c : Int)), fun j y hj hy => ?_⟩, ?_⟩
  · by_cases e : j = k
    · subst e
      rw [hx] at hy
      injection hy with hy
      subst hy
      rw [List.getElem?_set_self (by rw [h2.1]; omega), ← hc]
      refine ⟨rfl, ?_⟩
      rw [hc]
      exact ad_has _ _
    · rw [List.getElem?_set_ne (fun e2 => e e2.symm)]
      obtain ⟨h5, h6⟩ := h3 j y (by omega) hy
      obtain ⟨h7, h8⟩ := ad_keeps _ x y h6
      rw [h5, h7]
      exact ⟨rfl, by rw [h7] at h8; exact h8⟩
  · exact (h4.trans hg1).andThen (row' := some g) ⟨rfl, rfl, rfl, by simp [World.setCell], fun i _ hi => Below.heap_setCell w1 ⟨g, k, none⟩ _ i (fun e => hi (by rw [e]))⟩ (fun j hj => by injection hj with hj; exact .inl (by omega))
def NumTo (w : World) (bm : Nat) (M l : List ByteArray) (e : Ending) (w' : World) : Prop := ∃ v, e = .returned v ∧ Ints w' w.heap.size v (l.map (num (ads M l))) ∧ Nm w' bm (ads M l) ∧ w.grownBy w' (some bm)
set_option maxRecDepth 100000 in
set_option maxHeartbeats 2000000 in
theorem number_any (q bm : Nat) (A : Option Addr) (ca : Nat) (M l : List ByteArray) (w : World) (hA : Strs w A l.length l) (hsz : ∀ x, x ∈ l → x.size ≤ maxLen) (hl : l.length ≤ 400) (hM : M.length ≤ 400) (hm : Nm w bm M) (hq : w.cell? ⟨q, 0, none⟩ = some (.map (some bm))) (hqb : q ≠ bm)
    (hAb : l.length ≠ 0 → ∀ ba oa, A = some ⟨ba, oa, none⟩ → ba ≠ bm) :
    Calls Try.prog 70 #[.slice A l.length ca, .pointer (some ⟨q, 0, none⟩)] w (NumTo w bm M l) := by
  obtain ⟨iI, hI, hI0, hI1, hI2⟩ := info_parts infoInt
  have HA := Lib.hid hA
  have HAB := Lib.hid hAb
  have HSZ := Lib.hid hsz
  have HM := Lib.hid hm
  have hbl := hm.lt
  have hql : q < w.heap.size := World.block_lt_of_cell? w _ hq
  have hlen := ads_len l M
  obtain ⟨n, hn⟩ : ∃ n, n = l.length := ⟨_, rfl⟩
  rw [← hn] at hl hlen ⊢
  have HN := Lib.hid hn
  have HQB := Lib.hid hqb
  clear hA hAb hsz hm hn hqb
  go_enter Try.func70, Try.ntmps70
  go_wp2_with (at_make; refine wpList_make_full _ rfl _ _ _ rfl w.heap.size 3 iI (.int .i64 0) 1 Try.underlying92 hI hI0 hI1 _ _ _ _ n rfl rfl rfl rfl (by rw [hI2]; omega) (by unfold maxLen; omega) (Nat.le_refl _) ?_)
  intro w1 hown1 hgrow1
  obtain ⟨g, hg⟩ : ∃ g, g = w.heap.size := ⟨_, rfl⟩
  have hst0 : Hid (Nk w g bm M l 0 w1) := by
    show Nk w g bm M l 0 w1
    refine ⟨HM.out.kept (hgrow1.block _ hbl (by simp)), ⟨(madeCells #[.int .i64 0] n).toList, ?_, fun j x hj => absurd hj (Nat.not_lt_zero _)⟩, hgrow1.but _⟩
    rw [← HN.out, hg]
    exact hown1
  have hgb : g ≠ bm := by omega
  have hgq : g ≠ q := by omega
  have hgw : w.heap.size ≤ g := by omega
  rw [← hg]
  have HG := Lib.hid hg
  clear hg hown1 hgrow1
  go_wp2_with fail
  go_loopw [5, 6, 7, 8, 14] (fun _ _ _ _ i wr => ∃ k : Nat, i = .int .i64 k ∧ k ≤ n ∧ Hid (Nk w g bm M l k wr)) (fun _ _ _ _ i _ => n - (intOf i).toNat)
  case atStart => exact ⟨0, rfl, Nat.zero_le _, hst0⟩
  case round =>
    obtain ⟨k, rfl, hk, HK⟩ := hrel
    clear hst0
    by_cases hlt : k < n
    · have e1 : (k : Int) < (n : Int) := by omega
      obtain ⟨x, hx⟩ : ∃ x, l[k]? = some x := ⟨_, List.getElem?_eq_getElem (by rw [← HN.out]; exact hlt)⟩
      have hxs := HSZ.out x (List.mem_iff_getElem?.2 ⟨k, hx⟩)
      obtain ⟨ba, oa, rfl, hba, hc⟩ := HA.out.2.resolve_left (by rw [← HN.out]; omega)
      have hbb := HAB.out (by rw [← HN.out]; omega) ba oa rfl
      obtain ⟨h1, ⟨ys, h2, h3⟩, h4⟩ := HK.out
      have c1 : wr.cell? ⟨ba, oa + k, none⟩ = some (.string x) := h4.cell (hc k x hx) (fun e => hbb (by injection e))
      have c2 : wr.cell? ⟨q, 0, none⟩ = some (.map (some bm)) := h4.cell hq (fun e => HQB.out (by injection e))
      have hfz := own_frozen h2 k
      have hst := own_cell h2 (List.getElem?_eq_getElem (show k < ys.length by rw [h2.1, ← HN.out]; omega))
      obtain ⟨old, hold⟩ : ∃ old, old = ys[k]'(by rw [h2.1, ← HN.out]; omega) := ⟨_, rfl⟩
      rw [← hold] at hst
      have hle := ads_len (l.take k) M
      have hltk : (l.take k).length ≤ k := List.length_take_le _ _
      have hlook := h1.look hxs
      have h1len := h1.len 3
      have hnle := num_le (ads M (l.take k)) x
      by_cases hh : num (ads M (l.take k)) x < (ads M (l.take k)).length
      · rw [if_pos hh, decide_eq_true hh] at hlook
        have hpa : ad (ads M (l.take k)) x = ads M (l.take k) := by unfold ad; rw [if_pos hh]
        have HP : Hid (Nk w g bm M l (k + 1) (wr.setCell ⟨g, k, none⟩ (.int .i64 ((num (ads M (l.take k)) x : Nat) : Int)))) := Nk.put HK.out hx hgb hgw wr (by rw [hpa]; exact h1) (World.grownBy.refl _ _) _ (by rw [hpa])
        obtain ⟨c, hcc⟩ : ∃ c, c = num (ads M (l.take k)) x := ⟨_, rfl⟩
        rw [← hcc] at HP hlook
        clear HK h1 h2 h3 h4 hc hx hold hnle hh hpa hcc hxs hba hbb h1len hq
        go_wp2_with fail
        go_roundw
        case rel => exact ⟨k + 1, by go_num, by omega, HP⟩
        case measure => simp only [intOf]; omega
      · rw [if_neg hh, decide_eq_false hh] at hlook
        obtain ⟨w2, hrun, hm2, hg2⟩ := h1.store hxs (by omega) hh
        have hpa : ad (ads M (l.take k)) x = ads M (l.take k) ++ [x] := by unfold ad; rw [if_neg hh]
        have HP : Hid (Nk w g bm M l (k + 1) (w2.setCell ⟨g, k, none⟩ (.int .i64 (((ads M (l.take k)).length : Nat) : Int)))) := Nk.put HK.out hx hgb hgw w2 (by rw [hpa]; exact hm2) hg2 _ (by rw [hpa, num_new _ _ hh])
        have hfz2 := own_frozen (h2.kept hg2 (.inr (fun e => hgb (by injection e)))) k
        have hst2 : w2.cell? ⟨g, k, none⟩ = some old := hg2.cell hst (fun e => hgb (by injection e))
        obtain ⟨c, hcc⟩ : ∃ c, c = (ads M (l.take k)).length := ⟨_, rfl⟩
        rw [← hcc] at HP hrun h1len
        clear HK h1 h2 h3 h4 hc hx hold hnle hh hpa hcc hxs hba hbb hm2 hg2 hq
        go_wp2_with fail
        go_roundw
        case rel => exact ⟨k + 1, by go_num, by omega, HP⟩
        case measure => simp only [intOf]; omega
    · have e1 : ¬ (k : Int) < (n : Int) := by omega
      obtain rfl : k = n := by omega
      have HE : Hid (NumTo w bm M l (.returned (.slice (some ⟨g, 0, none⟩) k k)) wr) := by
        show NumTo _ _ _ _ _ _
        have h := HK.out
        rw [HN.out] at h ⊢
        exact ⟨_, rfl, h.done⟩
      clear HK
      go_wp2_with fail
      go_ret
      exact HE.out
def NumbTo (a b : List ByteArray) (w : World) (e : Ending) (w' : World) : Prop := ∃ M va vb, e = .returned (.tuple #[va, vb]) ∧ Ints w' w.heap.size va (a.map (num M)) ∧ Ints w' w.heap.size vb (b.map (num M)) ∧ (∀ x, x ∈ a → num M x < M.length) ∧ Below w.heap.size w w'
set_option maxRecDepth 100000 in
set_option maxHeartbeats 2000000 in
theorem numbered_any (A B : Option Addr) (ca cb : Nat) (a b : List ByteArray) (w : World) (hA : Strs w A a.length a) (hB : Strs w B b.length b) (ha : ∀ x, x ∈ a → x.size ≤ maxLen) (hb : ∀ x, x ∈ b → x.size ≤ maxLen) (hal : a.length ≤ 400) (hbl : b.length ≤ 400) :
    Calls Try.prog 59 #[.slice A a.length ca, .slice B b.length cb] w (NumbTo a b w) := by
  have hmm := @run_makeMap Try.prog
  have hB0 : Below w.heap.size w ((w.alloc (.map #[] 0)).alloc (.cells #[.map (some w.heap.size)] 107)) := ((Below.refl _ w).alloc (Nat.le_refl _) _).alloc (by simp) _
  have hm0 : Nm ((w.alloc (.map #[] 0)).alloc (.cells #[.map (some w.heap.size)] 107)) w.heap.size [] := (nm_made w).kept (Below.heap_alloc _ _ _ (by simp))
  have hq0 : ((w.alloc (.map #[] 0)).alloc (.cells #[.map (some w.heap.size)] 107)).cell? ⟨w.heap.size + 1, 0, none⟩ = some (.map (some w.heap.size)) := by go_simp
  have hs0 : ((w.alloc (.map #[] 0)).alloc (.cells #[.map (some w.heap.size)] 107)).heap.size = w.heap.size + 2 := by simp
  have old : ∀ (W : World) (C : Option Addr) (n : Nat) (l : List ByteArray), Strs W C n l → ∀ bc oc, n ≠ 0 → C = some ⟨bc, oc, none⟩ → bc < W.heap.size := fun W C n l h bc oc hn0 hc => by
    obtain ⟨b', o', h1, h2, _⟩ := h.2.resolve_left hn0
    rw [hc] at h1
    injection h1 with h1
    injection h1 with h1
    rw [h1]
    exact h2
  have c1 := number_any (w.heap.size + 1) w.heap.size A ca [] a _ (hA.below hB0) ha hal (Nat.zero_le _) hm0 hq0 (by omega) (fun hn ba oa h => by have := old w A _ a hA ba oa hn h; omega)
  have c2 := fun w1 (hb1 : Below w.heap.size w w1) h1 h2 => number_any (w.heap.size + 1) w.heap.size B cb (ads [] a) b w1 (hB.below hb1) hb hbl (by have := ads_len a []; simp at this; omega) h1 h2 (by omega) (fun hn ba oa h => by have := old w B _ b hB ba oa hn h; omega)
  have HOLD := Lib.hid old
  unfold NumTo at c1 c2
  have C1 := Lib.hid c1
  have C2 := Lib.hid c2
  have HQ0 := Lib.hid hq0
  have HB0 := Lib.hid hB0
  clear c1 c2 hm0 hq0 hB0 hA hB ha hb old
  go_enter Try.func59, Try.ntmps59
  go_wp2_with fail
  go_at_call 70
  refine C1.out.mono ?_
  rintro e w1 ⟨va, rfl, hva, hm1, hg1⟩
  rw [hs0] at hva
  have hq1 : w1.cell? ⟨w.heap.size + 1, 0, none⟩ = some (.map (some w.heap.size)) := hg1.cell HQ0.out (fun e => by injection e with e; change w.heap.size + 1 = w.heap.size at e; omega)
  have hB1 : Below w.heap.size w w1 := HB0.out.grown hg1 HB0.out.size (fun k hk => by injection hk with hk; omega)
  have cc := Lib.hid (C2.out w1 hB1 hm1 hq1)
  have HVA := Lib.hid hva
  have HB1 := Lib.hid hB1
  clear hva hm1 hg1 hB1 C1 C2 HQ0 HB0 hs0
  go_wp2_with fail
  go_at_call 70
  refine cc.out.mono ?_
  rintro e w2 ⟨vb, rfl, hvb, hm2, hg2⟩
  have hB2 : Below w.heap.size w w2 := HB1.out.grown hg2 HB1.out.size (fun k hk => by injection hk with hk; omega)
  have hva2 : Ints w2 (w.heap.size + 2) va (a.map (num (ads [] a))) := by
    refine HVA.out.kept hg2 (.inr (fun e => ?_))
    have := HVA.out.lt _ e
    omega
  have HE : Hid (NumbTo a b w (.returned (.tuple #[va, vb])) w2) := by
    refine ⟨ads (ads [] a) b, va, vb, rfl, ?_, own_base hvb HB1.out.size, fun x hx => (ads_keeps b _ x (ads_has a [] x hx)).2, hB2⟩
    have e : a.map (num (ads (ads [] a) b)) = a.map (num (ads [] a)) := List.map_congr_left (fun x hx => (ads_keeps b _ x (ads_has a [] x hx)).1)
    rw [e]
    exact own_base hva2 (by omega)
  clear hvb hm2 hg2 hB2 hva2 cc
  go_wp2_with fail
  go_ret2
  exact HE.out
end Go.Proofs.Ytnpobigombafoaa.Ud

namespace Go.Proofs.Ytnpobigombafoaa.Ud
open Go.RowKit Tx Um Aq
set_option linter.unusedVariables false
def Nums (w : World) (A : Option Addr) (l : List Nat) : Prop := l.length = 0 ∨ ∃ g, A = some ⟨g, 0, none⟩ ∧ g < w.heap.size ∧ ∀ (k : Nat) x, l[k]? = some x → w.cell? ⟨g, k, none⟩ = some (.int .i64 (x : Int))
theorem Nums.kept {w w1 : World} {A : Option Addr} {l : List Nat} (h : Nums w A l) (hk : ∀ g, l.length ≠ 0 → A = some ⟨g, 0, none⟩ → w1.heap[g]? = w.heap[g]?) (hs : w.heap.size ≤ w1.heap.size) : Nums w1 A l := by
  by_cases h0 : l.length = 0
  · exact .inl h0
  · obtain ⟨g, h1, h2, h3⟩ := h.resolve_left h0
    exact .inr ⟨g, h1, Nat.lt_of_lt_of_le h2 hs, fun k x hx => cell_keep (h3 k x hx) (hk g h0 h1)⟩
theorem Nums.below {w w1 : World} {A : Option Addr} {l : List Nat} (h : Nums w A l) (hb : Below w.heap.size w w1) : Nums w1 A l :=
  h.kept (fun g h0 h1 => by
    obtain ⟨g', h2, h3, _⟩ := h.resolve_left h0
    rw [h1] at h2
    injection h2 with h2
    injection h2 with h2
    exact hb.block g (by rw [h2]; exact h3)) hb.size
theorem Nums.lt {w : World} {A : Option Addr} {l : List Nat} (h : Nums w A l) {g o : Nat} (h0 : l.length ≠ 0) (h1 : A = some ⟨g, o, none⟩) : g < w.heap.size := by
  obtain ⟨g', h2, h3, _⟩ := h.resolve_left h0
  rw [h1] at h2
  injection h2 with h2
  injection h2 with h2
  rw [h2]
  exact h3
theorem num_eq {M a : List ByteArray} (h : ∀ x, x ∈ a → num M x < M.length) {x y : ByteArray} (hx : x ∈ a) : num M x = num M y ↔ x = y := ⟨num_inj M x y (h x hx), fun e => by rw [e]⟩
theorem F_eq (a b : List ByteArray) (i j : Nat) (hi : i < a.length) (hj : j < b.length) (h : a[i] = b[j]) : F a b i j = F a b (i + 1) (j + 1) + 1 := by
  unfold F
  conv => lhs; rw [List.drop_eq_getElem_cons hi, List.drop_eq_getElem_cons hj, h, lcs_head]
theorem F_ne (a b : List ByteArray) (i j : Nat) (hi : i < a.length) (hj : j < b.length) (h : a[i] ≠ b[j]) : F a b i j = max (F a b (i + 1) j) (F a b i (j + 1)) := by
  rw [F_step a b i j hi hj, if_neg h, Nat.max_comm]
structure Tb (w : World) (B g : Nat) (r : Nat → Nat) (a b : List ByteArray) (K : Nat) (P : Nat → Nat → Prop) : Prop where
  outer : ∃ xs, w.ownsRow B 92 1 (.slice (some ⟨g, 0, none⟩) (a.length + 1) (a.length + 1)) (a.length + 1) xs
  cell : ∀ i, i < K → w.cell? ⟨g, i, none⟩ = some (.slice (some ⟨r i, 0, none⟩) (b.length + 1) (b.length + 1))
  row : ∀ i, i < K → ∃ ys, w.ownsRow B 3 1 (.slice (some ⟨r i, 0, none⟩) (b.length + 1) (b.length + 1)) (b.length + 1) ys ∧ ∀ j, j ≤ b.length → P i j → ys[j]? = some (.int .i64 (F a b i j : Nat))
  apart : ∀ i, i < K → r i ≠ g
  inj : ∀ i j, i < K → j < K → r i = r j → i = j
theorem Tb.glt {w : World} {B g K : Nat} {r : Nat → Nat} {a b : List ByteArray} {P : Nat → Nat → Prop} (h : Tb w B g r a b K P) : B ≤ g ∧ g < w.heap.size := by
  obtain ⟨xs, h1⟩ := h.outer
  exact h1.lt g rfl
theorem Tb.rlt {w : World} {B g K : Nat} {r : Nat → Nat} {a b : List ByteArray} {P : Nat → Nat → Prop} (h : Tb w B g r a b K P) {i : Nat} (hi : i < K) : B ≤ r i ∧ r i < w.heap.size := by
  obtain ⟨ys, h1, _⟩ := h.row i hi
  exact h1.lt (r i) rfl
theorem Tb.weak {w : World} {B g K : Nat} {r : Nat → Nat} {a b : List ByteArray} {P P' : Nat → Nat → Prop} (h : Tb w B g r a b K P) (hp : ∀ i j, i < K → j ≤ b.length → P' i j → P i j) : Tb w B g r a b K P' :=
  ⟨h.outer, h.cell, fun i hi => by
    obtain ⟨ys, h1, h2⟩ := h.row i hi
    exact ⟨ys, h1, fun j hj hpj => h2 j hj (hp i j hi hj hpj)⟩, h.apart, h.inj⟩
theorem Tb.drew1 {w : World} {B g K : Nat} {r : Nat → Nat} {a b : List ByteArray} {P : Nat → Nat → Prop} (h : Tb w B g r a b K P) : Tb w.drew B g r a b K P := ⟨h.outer, h.cell, h.row, h.apart, h.inj⟩
theorem Tb.make {w w1 : World} {B g K h : Nat} {r : Nat → Nat} {a b : List ByteArray} (ht : Tb w B g r a b K fun i j => i = a.length ∨ j = b.length) (hK : K ≤ a.length) (hh : h = w.heap.size) (hg1 : w.grownBy w1 none)
    (hown : w1.ownsRow B 3 1 (.slice (some ⟨h, 0, none⟩) (b.length + 1) (b.length + 1)) (b.length + 1) (List.replicate (b.length + 1) (.int .i64 0))) :
    Tb (w1.setCell ⟨g, K, none⟩ (.slice (some ⟨h, 0, none⟩) (b.length + 1) (b.length + 1))) B g (fun i => if i = K then h else r i) a b (K + 1) fun i j => i = a.length ∨ j = b.length := by
  obtain ⟨xs, h1⟩ := ht.outer
  have hg := ht.glt
  have hne : h ≠ g := by omega
  have h1' := h1.kept hg1 (.inr (by simp [Value.ownBlock]))
  have hst := own_store h1' (show K < a.length + 1 by omega) (.slice (some ⟨h, 0, none⟩) (b.length + 1) (b.length + 1))
  have e1 : ∀ q, q ≠ g → (w1.setCell ⟨g, K, none⟩ (.slice (some ⟨h, 0, none⟩) (b.length + 1) (b.length + 1))).heap[q]? = w1.heap[q]? := fun q hq => Below.heap_setCell w1 ⟨g, K, none⟩ _ q hq
  have e2 : ∀ i, i < K → (w1.setCell ⟨g, K, none⟩ (.slice (some ⟨h, 0, none⟩) (b.length + 1) (b.length + 1))).heap[r i]? = w.heap[r i]? := fun i hi => (e1 _ (ht.apart i hi)).trans (hg1.block _ (ht.rlt hi).2 (by simp))
  refine ⟨⟨_, hst⟩, fun i hi => ?_, fun i hi => ?_, fun i hi => ?_, fun i j hi hj e => ?_⟩
  · by_cases e : i = K
    · subst e
      rw [if_pos rfl]
      exact own_cell hst (List.getElem?_set_self (by rw [h1.1]; omega))
    · rw [if_neg e, World.cell?_setCell_other _ _ _ _ (fun e2 => e (by injection e2 with _ e3; exact e3.symm))]
      exact hg1.cell (ht.cell i (by omega)) (by simp)
  · by_cases e : i = K
    · subst e
      rw [if_pos rfl]
      refine ⟨_, own_stay hown (fun q hq => by simp only [Value.ownBlock, Option.some.injEq] at hq; subst hq; exact e1 _ hne), fun j hj hp => ?_⟩
      rw [List.getElem?_replicate, if_pos (by omega)]
      rcases hp with rfl | rfl
      · rw [F_end]; rfl
      · rw [F_end2]; rfl
    · rw [if_neg e]
      obtain ⟨ys, h3, h4⟩ := ht.row i (by omega)
      exact ⟨ys, own_stay h3 (fun q hq => by simp only [Value.ownBlock, Option.some.injEq] at hq; subst hq; exact e2 i (by omega)), h4⟩
  · by_cases e : i = K
    · rw [if_pos e]; exact hne
    · rw [if_neg e]; exact ht.apart i (by omega)
  · by_cases e1 : i = K
    · by_cases e2 : j = K
      · omega
      · simp only [if_pos e1, if_neg e2] at e
        have := (ht.rlt (i := j) (by omega)).2
        omega
    · by_cases e2 : j = K
      · simp only [if_neg e1, if_pos e2] at e
        have := (ht.rlt (i := i) (by omega)).2
        omega
      · simp only [if_neg e1, if_neg e2] at e
        exact ht.inj i j (by omega) (by omega) e
theorem Tb.put {w : World} {B g K : Nat} {r : Nat → Nat} {a b : List ByteArray} {P : Nat → Nat → Prop} (ht : Tb w B g r a b K P) {i j : Nat} (hi : i < K) (hj : j ≤ b.length) (c : Nat) (hc : c = F a b i j) :
    Tb (w.setCell ⟨r i, j, none⟩ (.int .i64 (c : Int))) B g r a b K fun i' j' => P i' j' ∨ (i' = i ∧ j' = j) := by
  obtain ⟨xs, h1⟩ := ht.outer
  have e1 : ∀ q, q ≠ r i → (w.setCell ⟨r i, j, none⟩ (.int .i64 (c : Int))).heap[q]? = w.heap[q]? := fun q hq => Below.heap_setCell w ⟨r i, j, none⟩ _ q hq
  have hgr : g ≠ r i := fun e => ht.apart i hi e.symm
  refine ⟨⟨xs, own_stay h1 (fun q hq => by simp only [Value.ownBlock, Option.some.injEq] at hq; subst hq; exact e1 _ hgr)⟩, fun i' hi' => cell_keep (ht.cell i' hi') (e1 g hgr), fun i' hi' => ?_, ht.apart, ht.inj⟩
  obtain ⟨ys, h3, h4⟩ := ht.row i' hi'
  by_cases e : i' = i
  · subst e
    refine ⟨_, own_store h3 (show j < b.length + 1 by omega) _, fun j' hj' hp => ?_⟩
    by_cases e2 : j' = j
    · subst e2
      rw [List.getElem?_set_self (by rw [h3.1]; omega), hc]
    · rw [List.getElem?_set_ne (fun e3 => e2 e3.symm)]
      exact h4 j' hj' (hp.resolve_right (fun h => e2 h.2))
  · exact ⟨ys, own_stay h3 (fun q hq => by simp only [Value.ownBlock, Option.some.injEq] at hq; subst hq; exact e1 _ (fun e2 => e (ht.inj i' i hi' hi e2))), fun j' hj' hp => h4 j' hj' (hp.resolve_right (fun h => e h.1))⟩
theorem Tb.tab {w : World} {B g : Nat} {r : Nat → Nat} {a b : List ByteArray} {P : Nat → Nat → Prop} (ht : Tb w B g r a b (a.length + 1) P) (hp : ∀ i j, i ≤ a.length → j ≤ b.length → P i j) : Tab w B g r a b 0 :=
  ⟨ht.outer, fun i _ hi => ht.cell i (by omega), fun i _ hi j hj => by
    obtain ⟨ys, h3, h4⟩ := ht.row i (by omega)
    exact own_cell h3 (h4 j hj (hp i j hi hj)), fun i _ hi => ⟨ht.apart i (by omega), (ht.rlt (i := i) (by omega)).2⟩⟩
theorem Tb.val {w : World} {B g K : Nat} {r : Nat → Nat} {a b : List ByteArray} {P : Nat → Nat → Prop} (ht : Tb w B g r a b K P) {i j : Nat} (hi : i < K) (hj : j ≤ b.length) (hp : P i j) : w.cell? ⟨r i, j, none⟩ = some (.int .i64 (F a b i j : Nat)) := by
  obtain ⟨ys, h3, h4⟩ := ht.row i hi
  exact own_cell h3 (h4 j hj hp)
theorem Tb.any {w : World} {B g K : Nat} {r : Nat → Nat} {a b : List ByteArray} {P : Nat → Nat → Prop} (ht : Tb w B g r a b K P) {i j : Nat} (hi : i < K) (hj : j ≤ b.length) : (∃ u, w.cell? ⟨r i, j, none⟩ = some u) ∧ w.frozen? ⟨r i, j, none⟩ = false := by
  obtain ⟨ys, h3, h4⟩ := ht.row i hi
  have : j < ys.length := by rw [h3.1]; omega
  exact ⟨⟨ys[j], own_cell h3 (List.getElem?_eq_getElem this)⟩, own_frozen h3 j⟩
theorem Tb.gany {w : World} {B g K : Nat} {r : Nat → Nat} {a b : List ByteArray} {P : Nat → Nat → Prop} (ht : Tb w B g r a b K P) {i : Nat} (hi : i ≤ a.length) : (∃ u, w.cell? ⟨g, i, none⟩ = some u) ∧ w.frozen? ⟨g, i, none⟩ = false := by
  obtain ⟨xs, h3⟩ := ht.outer
  have : i < xs.length := by rw [h3.1]; omega
  exact ⟨⟨xs[i], own_cell h3 (List.getElem?_eq_getElem this)⟩, own_frozen h3 i⟩
end Go.Proofs.Ytnpobigombafoaa.Ud

namespace Go.Proofs.Ytnpobigombafoaa.Ud
open Go.RowKit Tx Um Aq
set_option linter.unusedVariables false
set_option maxRecDepth 100000 in
set_option maxHeartbeats 4000000 in
theorem lengths_any (A B : Option Addr) (ca cb : Nat) (M a b : List ByteArray) (w : World) (hM : ∀ x, x ∈ a → num M x < M.length) (hm4 : a.length ≤ 400) (hn4 : b.length ≤ 400) (hA : Nums w A (a.map (num M))) (hB : Nums w B (b.map (num M))) :
    Calls Try.prog 60 #[.slice A a.length ca, .slice B b.length cb] w (TableTo a b w) := by
  obtain ⟨iI, hI, hI0, hI1, hI2⟩ := info_parts infoInt
  obtain ⟨iS, hS, hS0, hS1, hS2⟩ := info_parts infoInts
  have HAS := Lib.hid hA
  have HBS := Lib.hid hB
  have HMM := Lib.hid hM
  clear hA hB hM
  obtain ⟨m, hm⟩ : ∃ m, m = a.length := ⟨_, rfl⟩
  obtain ⟨n, hn⟩ : ∃ n, n = b.length := ⟨_, rfl⟩
  rw [← hm] at hm4 ⊢
  rw [← hn] at hn4 ⊢
  have HM := Lib.hid hm
  have HN := Lib.hid hn
  clear hm hn
  go_enter Try.func60, Try.ntmps60
  go_wp2_with (at_make; refine wpList_make_full _ rfl _ _ _ rfl w.heap.size 92 iS (.slice none 0 0) 1 Try.underlying99 hS hS0 hS1 _ _ _ _ (m + 1) rfl rfl rfl rfl (by rw [hS2]; omega) (by unfold maxLen; omega) (Nat.le_refl _) ?_)
  intro w1 hown1 hgrow1
  have hB1 : Below w.heap.size w w1 := (Below.refl _ w).grown hgrow1 (Nat.le_refl _) (fun k hk => by cases hk)
  obtain ⟨B0, hB0⟩ : ∃ B0, B0 = w.heap.size := ⟨_, rfl⟩
  obtain ⟨g, hg⟩ : ∃ g, g = w.heap.size := ⟨_, rfl⟩
  rw [← hg] at hown1 ⊢
  have hgB : B0 ≤ g := by omega
  have hT1 : Hid (Tb w1 B0 g (fun _ => 0) a b 0 fun i j => i = a.length ∨ j = b.length) := by
    show Tb _ _ _ _ _ _ _ _
    refine ⟨⟨(madeCells #[.slice none 0 0] (m + 1)).toList, ?_⟩, fun i hi => by omega, fun i hi => by omega, fun i hi => by omega, fun i j hi => by omega⟩
    rw [hB0, ← HM.out, ← hg]
    exact hown1
  rw [← hB0] at hB1
  have HB0 := Lib.hid hB0
  clear hg hgrow1 hB0 hown1
  go_wp2_with fail
  go_loopw [6, 15] (fun _ i wr => ∃ (k : Nat) (r : Nat → Nat), i = .int .i64 (k : Int) ∧ k ≤ m + 1 ∧ Hid (Tb wr B0 g r a b k fun i j => i = a.length ∨ j = b.length) ∧ Below B0 w wr) (fun _ i _ => m + 1 - (intOf i).toNat)
  case atStart => exact ⟨0, _, rfl, Nat.zero_le _, hT1, hB1⟩
  case round =>
    obtain ⟨k, r, rfl, hk, hT, hb⟩ := hrel
    clear hT1 hB1
    by_cases hlt : k < m + 1
    · have e1 : (k : Int) < (m : Int) + 1 := by omega
      have hszB : B0 ≤ wr.heap.size := by have := HB0.out; have := hb.size; omega
      go_wp2_with (at_make; refine wpList_make_full _ rfl _ _ _ rfl B0 3 iI (.int .i64 0) 1 Try.underlying92 hI hI0 hI1 _ _ _ _ (n + 1) rfl rfl rfl rfl (by rw [hI2]; omega) (by unfold maxLen; omega) hszB ?_)
      intro w3 hown3 hgrow3
      obtain ⟨h, hh⟩ : ∃ h, h = wr.heap.size := ⟨_, rfl⟩
      rw [← hh] at hown3 ⊢
      have ho3 : w3.ownsRow B0 3 1 (.slice (some ⟨h, 0, none⟩) (b.length + 1) (b.length + 1)) (b.length + 1) (List.replicate (b.length + 1) (.int .i64 0)) := by rw [← HN.out, ← made_zero]; simpa using hown3
      have hT4 : Hid (Tb (w3.setCell ⟨g, k, none⟩ (.slice (some ⟨h, 0, none⟩) (n + 1) (n + 1))) B0 g (fun i => if i = k then h else r i) a b (k + 1) fun i j => i = a.length ∨ j = b.length) := by
        show Tb _ _ _ _ _ _ _ _
        have h := hT.out.make (by rw [← HM.out]; omega) hh hgrow3 ho3
        rw [HN.out]
        exact h
      have hb4 : Below B0 w (w3.setCell ⟨g, k, none⟩ (.slice (some ⟨h, 0, none⟩) (n + 1) (n + 1))) := (hb.grown hgrow3 hszB (fun k hk => by cases hk)).setCell (p := ⟨g, k, none⟩) hgB _
      obtain ⟨⟨old, hst⟩, hfz⟩ := hT.out.gany (i := k) (by rw [← HM.out]; omega)
      have hgl := hT.out.glt.2
      have hst3 : w3.cell? ⟨g, k, none⟩ = some old := hgrow3.cell hst (by simp)
      have hfz3 : w3.frozen? ⟨g, k, none⟩ = false := (hgrow3.frozen_far ⟨g, k, none⟩ hgl (by simp)).trans hfz
      clear hown3 hgrow3 ho3 hT hst hfz hb hszB hgl hh
      go_wp2_with fail
      go_roundw
      case rel => exact ⟨k + 1, _, by go_num, by omega, hT4, hb4⟩
      case measure => simp [intOf]; try omega
    · obtain rfl : k = m + 1 := by omega
      have e1 : ¬ ((m + 1 : Nat) : Int) < (m : Int) + 1 := by omega
      have hT0 : Hid (Tb wr B0 g r a b (a.length + 1) fun i j => m ≤ i ∨ j = b.length) := by
        show Tb _ _ _ _ _ _ _ _
        have h := hT.out
        rw [HM.out] at h ⊢
        exact h.weak (fun i j hi hj hp => hp.imp (fun h => by omega) id)
      clear hT
      go_wp2_with fail
      go_loopw [7, 8] (fun i _ wr => ∃ k : Nat, i = .int .i64 ((k : Int) - 1) ∧ k ≤ m ∧ Hid (Tb wr B0 g r a b (a.length + 1) fun i j => k ≤ i ∨ j = b.length) ∧ Below B0 w wr) (fun i _ _ => (intOf i + 1).toNat)
      case atStart => exact ⟨m, rfl, Nat.le_refl _, hT0, hb⟩
      case round =>
        obtain ⟨k, rfl, hk, hT, hb⟩ := hrel
        clear hT0
        rcases k with _ | q
        · have e2 : ¬ (0 : Int) ≤ ((0 : Nat) : Int) - 1 := by omega
          go_wp2_with fail
          go_ret
          unfold TableTo
          rw [← HB0.out, ← HM.out]
          exact ⟨g, r, rfl, hT.out.tab (fun i j hi hj => .inl (Nat.zero_le _)), hb⟩
        · rw [show (((q + 1 : Nat) : Int) - 1) = (q : Int) by omega]
          have hT3 : Hid (Tb wr B0 g r a b (a.length + 1) fun i j => q + 1 ≤ i ∨ j = b.length ∨ (i = q ∧ n ≤ j)) := hT.out.weak (fun i j hi hj hp => by rcases hp with h | h | h; exact .inl h; exact .inr h; have := HN.out; exact .inr (by omega))
          clear hT
          go_wp2_with fail
          go_loopw [8] (fun j wx => ∃ k : Nat, j = .int .i64 ((k : Int) - 1) ∧ k ≤ n ∧ Hid (Tb wx B0 g r a b (a.length + 1) fun i j => q + 1 ≤ i ∨ j = b.length ∨ (i = q ∧ k ≤ j)) ∧ Below B0 w wx) (fun j _ => (intOf j + 1).toNat)
          case atStart => exact ⟨n, rfl, Nat.le_refl _, hT3, hb⟩
          case round =>
            obtain ⟨k, rfl, hkn, hT, hb⟩ := hrel
            clear hT3
            rcases k with _ | p
            · have e2 : ¬ (0 : Int) ≤ ((0 : Nat) : Int) - 1 := by omega
              have hT4 : Hid (Tb wr B0 g r a b (a.length + 1) fun i j => q ≤ i ∨ j = b.length) := hT.out.weak (fun i j hi hj hp => by
                rcases hp with h | h
                · by_cases e : i = q
                  · exact .inr (.inr ⟨e, Nat.zero_le _⟩)
                  · exact .inl (by omega)
                · exact .inr (.inl h))
              clear hT
              go_wp2_with fail
              go_roundw
              case rel => exact ⟨q, by go_num, by omega, hT4, hb⟩
              case measure => simp [intOf]; try omega
            · rw [show (((p + 1 : Nat) : Int) - 1) = (p : Int) by omega]
              have hqa : q < a.length := by rw [← HM.out]; omega
              have hpb : p < b.length := by rw [← HN.out]; omega
              obtain ⟨ga, rfl, hga, hca⟩ := HAS.out.resolve_left (by rw [List.length_map]; omega)
              obtain ⟨gb, rfl, hgb, hcb⟩ := HBS.out.resolve_left (by rw [List.length_map]; omega)
              rw [← HB0.out] at hga hgb
              have c1 := (hb.cell (p := ⟨ga, q, none⟩) hga).trans (hca q (num M a[q]) (by rw [List.getElem?_map, List.getElem?_eq_getElem hqa]; rfl))
              have c2 := (hb.cell (p := ⟨gb, p, none⟩) hgb).trans (hcb p (num M b[p]) (by rw [List.getElem?_map, List.getElem?_eq_getElem hpb]; rfl))
              have hiff := num_eq HMM.out (y := b[p]) (List.getElem_mem hqa)
              have d1 := hT.out.cell q (by omega)
              have d2 := hT.out.cell (q + 1) (by omega)
              obtain ⟨⟨old, hst⟩, hfz⟩ := hT.out.any (i := q) (j := p) (by omega) (by omega)
              have wq : IntKind.i64.wrap ((q : Int) + 1) = (q : Int) + 1 := IntWalk.i64_in _ (by omega)
              have wp : IntKind.i64.wrap ((p : Int) + 1) = (p : Int) + 1 := IntWalk.i64_in _ (by omega)
              have nq : ((q : Int) + 1).toNat = q + 1 := by omega
              have np : ((p : Int) + 1).toNat = p + 1 := by omega
              have zq : (0 : Int) ≤ (q : Int) + 1 := by omega
              have zp : (0 : Int) ≤ (p : Int) + 1 := by omega
              have f1 : (p : Int) + 1 < (n : Int) + 1 := by omega
              have f2 : (p : Int) < (n : Int) + 1 := by omega
              have f3 : (q : Int) + 1 < (m : Int) + 1 := by omega
              have f4 : (q : Int) < (m : Int) + 1 := by omega
              have f5 : (q : Int) < (m : Int) := by omega
              have f6 : (p : Int) < (n : Int) := by omega
              have hput := fun c hc => (hT.out.put (i := q) (j := p) (by omega) (by omega) c hc).weak (P' := fun i j => q + 1 ≤ i ∨ j = b.length ∨ (i = q ∧ p ≤ j)) (fun i j hi hj hp => by
                rcases hp with h | h | h
                · exact .inl (.inl h)
                · exact .inl (.inr (.inl h))
                · by_cases e : j = p
                  · exact .inr ⟨h.1, e⟩
                  · exact .inl (.inr (.inr ⟨h.1, by omega⟩)))
              have hbp := fun u : Value => hb.setCell (p := ⟨r q, p, none⟩) (hT.out.rlt (i := q) (by omega)).1 u
              rw [← HN.out] at d1 d2
              by_cases he : a[q] = b[p]
              · have hF := F_eq a b q p hqa hpb he
                have d3 := hT.out.val (i := q + 1) (j := p + 1) (by omega) (by omega) (.inl (Nat.le_refl _))
                have hE4 := F_le a b (q + 1) (p + 1)
                have e3 : (((num M a[q] : Nat) : Int) == ((num M b[p] : Nat) : Int)) = true := by rw [he]; exact beq_self_eq_true _
                have HP := Lib.hid (hput _ hF.symm)
                have HB := Lib.hid (hbp (.int .i64 ((F a b (q + 1) (p + 1) + 1 : Nat) : Int)))
                obtain ⟨X, hX⟩ : ∃ X, X = num M a[q] := ⟨_, rfl⟩
                obtain ⟨Y, hY⟩ : ∃ Y, Y = num M b[p] := ⟨_, rfl⟩
                obtain ⟨E, hE⟩ : ∃ E, E = F a b (q + 1) (p + 1) := ⟨_, rfl⟩
                obtain ⟨r0, hr0⟩ : ∃ r0, r0 = r q := ⟨_, rfl⟩
                obtain ⟨r1, hr1⟩ : ∃ r1, r1 = r (q + 1) := ⟨_, rfl⟩
                rw [← hX] at c1 e3
                rw [← hY] at c2 e3
                rw [← hE, ← hr0] at HP
                rw [← hE, ← hr0] at HB
                rw [← hr1, ← hE] at d3
                rw [← hE] at hE4
                rw [← hr0] at d1 hst hfz
                rw [← hr1] at d2
                have hE5 : E ≤ 400 := by rw [← HM.out] at hE4; omega
                have wE : IntKind.i64.wrap ((E : Int) + 1) = (E : Int) + 1 := IntWalk.i64_in _ (by omega)
                rw [show ((E + 1 : Nat) : Int) = (E : Int) + 1 by omega] at HP HB
                clear hX hY hE hr0 hr1 hF he hiff hput hbp hT hb hca hcb hE4
                go_wp2_with fail
                go_region
                go_wp2_with fail
                go_region
                go_wp2_with fail
                go_roundw
                case rel => exact ⟨p, by go_num, by omega, Lib.hid HP.out.drew1.drew1, HB.out.drew.drew⟩
                case measure => simp [intOf]; try omega
              · have hF := F_ne a b q p hqa hpb he
                have d3 := hT.out.val (i := q + 1) (j := p) (by omega) (by omega) (.inl (Nat.le_refl _))
                have d4 := hT.out.val (i := q) (j := p + 1) (by omega) (by omega) (.inr (.inr ⟨rfl, Nat.le_refl _⟩))
                have hQ4 := F_le a b (q + 1) p
                have hR4 := F_le a b q (p + 1)
                have e3 : (((num M a[q] : Nat) : Int) == ((num M b[p] : Nat) : Int)) = false := beq_eq_false_iff_ne.2 (fun e => he (hiff.1 (by omega)))
                have HP := Lib.hid (hput _ hF.symm)
                have HB := Lib.hid (hbp (.int .i64 ((max (F a b (q + 1) p) (F a b q (p + 1)) : Nat) : Int)))
                obtain ⟨X, hX⟩ : ∃ X, X = num M a[q] := ⟨_, rfl⟩
                obtain ⟨Y, hY⟩ : ∃ Y, Y = num M b[p] := ⟨_, rfl⟩
                obtain ⟨Q, hQ⟩ : ∃ Q, Q = F a b (q + 1) p := ⟨_, rfl⟩
                obtain ⟨R, hR⟩ : ∃ R, R = F a b q (p + 1) := ⟨_, rfl⟩
                obtain ⟨r0, hr0⟩ : ∃ r0, r0 = r q := ⟨_, rfl⟩
                obtain ⟨r1, hr1⟩ : ∃ r1, r1 = r (q + 1) := ⟨_, rfl⟩
                rw [← hX] at c1 e3
                rw [← hY] at c2 e3
                rw [← hQ, ← hR, ← hr0] at HP
                rw [← hQ, ← hR, ← hr0] at HB
                rw [← hr1, ← hQ] at d3
                rw [← hr0, ← hR] at d4
                rw [← hQ] at hQ4
                rw [← hR] at hR4
                rw [← hr0] at d1 hst hfz
                rw [← hr1] at d2
                have hmx : (if Q < R then (R : Int) else (Q : Int)) = ((max Q R : Nat) : Int) := by split <;> omega
                rw [← hmx] at HP HB
                clear hX hY hQ hR hr0 hr1 hF he hiff hput hbp hT hb hca hcb hQ4 hR4 hmx
                go_wp2_with fail
                go_region
                go_wp2_with fail
                go_region
                go_wp2_with fail
                go_roundw
                case rel => exact ⟨p, by go_num, by omega, Lib.hid HP.out.drew1.drew1, HB.out.drew.drew⟩
                case measure => simp [intOf]; try omega
end Go.Proofs.Ytnpobigombafoaa.Ud

namespace Go.Proofs.Ytnpobigombafoaa.Ud
open Go.RowKit Tx Um Aq
set_option linter.unusedVariables false
def Does (a b : List ByteArray) (p q x : Nat) : Prop :=
  (x = 0 ∧ ∃ (hp : p < a.length) (hq : q < b.length), a[p] = b[q]) ∨
  (x = 1 ∧ p < a.length ∧ (q = b.length ∨ ∃ (hp : p < a.length) (hq : q < b.length), a[p] ≠ b[q] ∧ ¬ F a b (p + 1) q < F a b p (q + 1))) ∨
  (x = 2 ∧ q < b.length ∧ (p = a.length ∨ ∃ (hp : p < a.length) (hq : q < b.length), a[p] ≠ b[q] ∧ F a b (p + 1) q < F a b p (q + 1)))
theorem Does.le {a b : List ByteArray} {p q x : Nat} (h : Does a b p q x) : x = 0 ∨ x = 1 ∨ x = 2 := by
  rcases h with ⟨h, _⟩ | ⟨h, _⟩ | ⟨h, _⟩
  · exact .inl h
  · exact .inr (.inl h)
  · exact .inr (.inr h)
def onA (p x : Nat) : Nat := if x = 2 then p else p + 1
def onB (q x : Nat) : Nat := if x = 1 then q else q + 1
theorem St.does {a b : List ByteArray} {pre : List Nat} {p q x : Nat} (h : St a b pre p q) (hx : Does a b p q x) : St a b (pre ++ [x]) (onA p x) (onB q x) := by
  rcases hx with ⟨rfl, hp, hq, he⟩ | ⟨rfl, hp, he⟩ | ⟨rfl, hq, he⟩
  · exact st_keep h hp hq he
  · exact st_drop h hp (he.imp id (fun ⟨_, hq, h1, h2⟩ => ⟨hq, h1, h2⟩))
  · exact st_add h hq (he.imp id (fun ⟨hp, _, h1, h2⟩ => ⟨hp, h1, h2⟩))
set_option maxRecDepth 100000 in
set_option maxHeartbeats 600000 in
theorem next_any (A B : Option Addr) (ca cb g p q B0 : Nat) (r : Nat → Nat) (M a b : List ByteArray) (w : World) (hM : ∀ x, x ∈ a → num M x < M.length) (hm4 : a.length ≤ 400) (hn4 : b.length ≤ 400) (hA : Nums w A (a.map (num M))) (hB : Nums w B (b.map (num M))) (hT : Tab w B0 g r a b 0)
    (hp : p ≤ a.length) (hq : q ≤ b.length) (hpq : p < a.length ∨ q < b.length) :
    Calls Try.prog 61 #[.slice A a.length ca, .slice B b.length cb, .slice (some ⟨g, 0, none⟩) (a.length + 1) (a.length + 1), .agg #[.int .i64 (p : Int), .int .i64 (q : Int)]] w fun e w' => ∃ x : Nat, e = .returned (.int .i64 (x : Int)) ∧ Does a b p q x ∧ Below w.heap.size w w' := by
  by_cases hpm : p < a.length
  · by_cases hqn : q < b.length
    · have HB0 : Below w.heap.size w (w.alloc (.cells #[.int .i64 (p : Int), .int .i64 (q : Int)] 79)) := (Below.refl _ w).alloc (Nat.le_refl _) _
      obtain ⟨ga, rfl, hga, hca⟩ := (hA.below HB0).resolve_left (by rw [List.length_map]; omega)
      obtain ⟨gb, rfl, hgb, hcb⟩ := (hB.below HB0).resolve_left (by rw [List.length_map]; omega)
      have c1 := hca p (num M a[p]) (by rw [List.getElem?_map, List.getElem?_eq_getElem hpm]; rfl)
      have c2 := hcb q (num M b[q]) (by rw [List.getElem?_map, List.getElem?_eq_getElem hqn]; rfl)
      have hiff := num_eq hM (y := b[q]) (List.getElem_mem hpm)
      have hTw := hT.below HB0
      have d1 := hTw.cell (p + 1) (Nat.zero_le _) hpm
      have d2 := hTw.cell p (Nat.zero_le _) (by omega)
      have d3 := hTw.row (p + 1) (Nat.zero_le _) hpm q (by omega)
      have d4 := hTw.row p (Nat.zero_le _) (by omega) (q + 1) hqn
      have hX4 := F_le a b (p + 1) q
      have hY4 := F_le a b p (q + 1)
      by_cases he : a[p] = b[q]
      · have e3 : (((num M a[p] : Nat) : Int) == ((num M b[q] : Nat) : Int)) = true := by rw [he]; exact beq_self_eq_true _
        have HD := Lib.hid (show Does a b p q 0 from .inl ⟨rfl, hpm, hqn, he⟩)
        obtain ⟨X, hX⟩ : ∃ X, X = num M a[p] := ⟨_, rfl⟩
        obtain ⟨Y, hY⟩ : ∃ Y, Y = num M b[q] := ⟨_, rfl⟩
        rw [← hX] at c1 e3
        rw [← hY] at c2 e3
        obtain ⟨m, hm⟩ : ∃ m, m = a.length := ⟨_, rfl⟩
        obtain ⟨n, hn⟩ : ∃ n, n = b.length := ⟨_, rfl⟩
        rw [← hm] at hm4 hpm hp  ⊢
        rw [← hn] at hn4 hqn hq  ⊢
        clear hX hY hiff hTw hX4 hY4 he hca hcb hga hgb hA hB hT hM hpq hm hn d1 d2 d3 d4
        have HBX := Lib.hid HB0
        clear HB0
        have f1 : (p : Int) < (m : Int) := by omega
        have f2 : (q : Int) < (n : Int) := by omega
        go_enter Try.func61, Try.ntmps61
        go_wp2_with fail
        go_region
        go_wp2_with fail
        go_region
        go_wp2_with fail
        go_ret
        exact ⟨0, rfl, HD.out, HBX.out.drew.drew⟩
      · have e3 : (((num M a[p] : Nat) : Int) == ((num M b[q] : Nat) : Int)) = false := beq_eq_false_iff_ne.2 (fun e => he (hiff.1 (by omega)))
        by_cases hlt : F a b (p + 1) q < F a b p (q + 1)
        · have HD := Lib.hid (show Does a b p q 2 from .inr (.inr ⟨rfl, hqn, .inr ⟨hpm, hqn, he, hlt⟩⟩))
          obtain ⟨X, hX⟩ : ∃ X, X = num M a[p] := ⟨_, rfl⟩
          obtain ⟨Y, hY⟩ : ∃ Y, Y = num M b[q] := ⟨_, rfl⟩
          rw [← hX] at c1 e3
          rw [← hY] at c2 e3
          obtain ⟨P, hP⟩ : ∃ P, P = F a b (p + 1) q := ⟨_, rfl⟩
          obtain ⟨Q, hQ⟩ : ∃ Q, Q = F a b p (q + 1) := ⟨_, rfl⟩
          obtain ⟨r1, hr1⟩ : ∃ r1, r1 = r (p + 1) := ⟨_, rfl⟩
          obtain ⟨r2, hr2⟩ : ∃ r2, r2 = r p := ⟨_, rfl⟩
          rw [← hr1] at d1 d3
          rw [← hr2] at d2 d4
          rw [← hP] at d3 hlt hX4
          rw [← hQ] at d4 hlt hY4
          obtain ⟨m, hm⟩ : ∃ m, m = a.length := ⟨_, rfl⟩
          obtain ⟨n, hn⟩ : ∃ n, n = b.length := ⟨_, rfl⟩
          rw [← hm] at hm4 hpm hp hX4 hY4 ⊢
          rw [← hn] at hn4 hqn hq d1 d2 ⊢
          clear hX hY hiff hTw hX4 hY4 he hca hcb hga hgb hA hB hT hM hpq hm hn hP hQ hr1 hr2
          have HBX := Lib.hid HB0
          clear HB0
          have f1 : (p : Int) < (m : Int) := by omega
          have f2 : (q : Int) < (n : Int) := by omega
          have e4 : ((q : Int) == (n : Int)) = false := beq_eq_false_iff_ne.2 (by omega)
          have wq : IntKind.i64.wrap ((q : Int) + 1) = (q : Int) + 1 := IntWalk.i64_in _ (by omega)
          have wp : IntKind.i64.wrap ((p : Int) + 1) = (p : Int) + 1 := IntWalk.i64_in _ (by omega)
          have nq : ((q : Int) + 1).toNat = q + 1 := by omega
          have np : ((p : Int) + 1).toNat = p + 1 := by omega
          have zq : (0 : Int) ≤ (q : Int) + 1 := by omega
          have zp : (0 : Int) ≤ (p : Int) + 1 := by omega
          have g1 : (p : Int) + 1 < (m : Int) + 1 := by omega
          have g2 : (p : Int) < (m : Int) + 1 := by omega
          have g3 : (q : Int) + 1 < (n : Int) + 1 := by omega
          have g4 : (q : Int) < (n : Int) + 1 := by omega
          have g5 : ¬ (Q : Int) ≤ (P : Int) := by omega
          have g6 : (P : Int) < (Q : Int) := by omega
          go_enter Try.func61, Try.ntmps61
          go_wp2_with fail
          go_region
          go_wp2_with fail
          go_region
          go_wp2_with fail
          go_region
          go_wp2_with fail
          go_ret
          exact ⟨2, rfl, HD.out, HBX.out.drew.drew.drew⟩
        · have HD := Lib.hid (show Does a b p q 1 from .inr (.inl ⟨rfl, hpm, .inr ⟨hpm, hqn, he, hlt⟩⟩))
          obtain ⟨X, hX⟩ : ∃ X, X = num M a[p] := ⟨_, rfl⟩
          obtain ⟨Y, hY⟩ : ∃ Y, Y = num M b[q] := ⟨_, rfl⟩
          rw [← hX] at c1 e3
          rw [← hY] at c2 e3
          obtain ⟨P, hP⟩ : ∃ P, P = F a b (p + 1) q := ⟨_, rfl⟩
          obtain ⟨Q, hQ⟩ : ∃ Q, Q = F a b p (q + 1) := ⟨_, rfl⟩
          obtain ⟨r1, hr1⟩ : ∃ r1, r1 = r (p + 1) := ⟨_, rfl⟩
          obtain ⟨r2, hr2⟩ : ∃ r2, r2 = r p := ⟨_, rfl⟩
          rw [← hr1] at d1 d3
          rw [← hr2] at d2 d4
          rw [← hP] at d3 hlt hX4
          rw [← hQ] at d4 hlt hY4
          obtain ⟨m, hm⟩ : ∃ m, m = a.length := ⟨_, rfl⟩
          obtain ⟨n, hn⟩ : ∃ n, n = b.length := ⟨_, rfl⟩
          rw [← hm] at hm4 hpm hp hX4 hY4 ⊢
          rw [← hn] at hn4 hqn hq d1 d2 ⊢
          clear hX hY hiff hTw hX4 hY4 he hca hcb hga hgb hA hB hT hM hpq hm hn hP hQ hr1 hr2
          have HBX := Lib.hid HB0
          clear HB0
          have f1 : (p : Int) < (m : Int) := by omega
          have f2 : (q : Int) < (n : Int) := by omega
          have e4 : ((q : Int) == (n : Int)) = false := beq_eq_false_iff_ne.2 (by omega)
          have wq : IntKind.i64.wrap ((q : Int) + 1) = (q : Int) + 1 := IntWalk.i64_in _ (by omega)
          have wp : IntKind.i64.wrap ((p : Int) + 1) = (p : Int) + 1 := IntWalk.i64_in _ (by omega)
          have nq : ((q : Int) + 1).toNat = q + 1 := by omega
          have np : ((p : Int) + 1).toNat = p + 1 := by omega
          have zq : (0 : Int) ≤ (q : Int) + 1 := by omega
          have zp : (0 : Int) ≤ (p : Int) + 1 := by omega
          have g1 : (p : Int) + 1 < (m : Int) + 1 := by omega
          have g2 : (p : Int) < (m : Int) + 1 := by omega
          have g3 : (q : Int) + 1 < (n : Int) + 1 := by omega
          have g4 : (q : Int) < (n : Int) + 1 := by omega
          have g5 : (Q : Int) ≤ (P : Int) := by omega
          have g6 : ¬ (P : Int) < (Q : Int) := by omega
          go_enter Try.func61, Try.ntmps61
          go_wp2_with fail
          go_region
          go_wp2_with fail
          go_region
          go_wp2_with fail
          go_region
          go_wp2_with fail
          go_ret
          exact ⟨1, rfl, HD.out, HBX.out.drew.drew.drew⟩
    · have hqe : q = b.length := by omega
      have HD := Lib.hid (show Does a b p q 1 from .inr (.inl ⟨rfl, hpm, .inl hqe⟩))
      have HB0 : Below w.heap.size w (w.alloc (.cells #[.int .i64 (p : Int), .int .i64 (q : Int)] 79)) := (Below.refl _ w).alloc (Nat.le_refl _) _
      obtain ⟨m, hm⟩ : ∃ m, m = a.length := ⟨_, rfl⟩
      obtain ⟨n, hn⟩ : ∃ n, n = b.length := ⟨_, rfl⟩
      rw [← hm] at hm4 hpm hp  ⊢
      rw [← hn] at hn4 hqn hq hqe ⊢
      clear hA hB hT hM hpq hm hn
      have HBX := Lib.hid HB0
      clear HB0
      have f1 : (p : Int) < (m : Int) := by omega
      have hqe2 : n ≤ q := by omega
      have e4 : ((q : Int) == (n : Int)) = true := beq_iff_eq.2 (by omega)
      have HQ := Lib.hid hqe
      clear hqe hqn
      go_enter Try.func61, Try.ntmps61
      go_wp2_with fail
      go_region
      go_wp2_with fail
      have f3 : decide ((q : Int) < (n : Int)) = false := decide_eq_false (by omega)
      have f2 : ¬ (q : Int) < (n : Int) := by omega
      go_region
      go_wp2_with fail
      have f3 : decide ((q : Int) < (n : Int)) = false := decide_eq_false (by omega)
      have f2 : ¬ (q : Int) < (n : Int) := by omega
      go_region
      go_wp2_with fail
      go_ret
      exact ⟨1, rfl, HD.out, HBX.out.drew.drew.drew⟩
  · have hpe : p = a.length := by omega
    have hqn : q < b.length := by omega
    have HD := Lib.hid (show Does a b p q 2 from .inr (.inr ⟨rfl, hqn, .inl hpe⟩))
    have HB0 : Below w.heap.size w (w.alloc (.cells #[.int .i64 (p : Int), .int .i64 (q : Int)] 79)) := (Below.refl _ w).alloc (Nat.le_refl _) _
    obtain ⟨m, hm⟩ : ∃ m, m = a.length := ⟨_, rfl⟩
    obtain ⟨n, hn⟩ : ∃ n, n = b.length := ⟨_, rfl⟩
    rw [← hm] at hm4 hpm hp hpe ⊢
    rw [← hn] at hn4 hqn hq  ⊢
    clear hA hB hT hM hpq hm hn
    have HBX := Lib.hid HB0
    clear HB0
    have hpe2 : m ≤ p := by omega
    have f2 : (q : Int) < (n : Int) := by omega
    have e4 : ((q : Int) == (n : Int)) = false := beq_eq_false_iff_ne.2 (by omega)
    have HQ := Lib.hid hpe
    clear hpe hpm
    go_enter Try.func61, Try.ntmps61
    go_wp2_with fail
    go_region
    go_wp2_with fail
    have f3 : decide ((p : Int) < (m : Int)) = false := decide_eq_false (by omega)
    have f1 : ¬ (p : Int) < (m : Int) := by omega
    go_region
    go_wp2_with fail
    have f3 : decide ((p : Int) < (m : Int)) = false := decide_eq_false (by omega)
    have f1 : ¬ (p : Int) < (m : Int) := by omega
    go_region
    go_wp2_with fail
    go_ret
    exact ⟨2, rfl, HD.out, HBX.out.drew.drew.drew⟩
end Go.Proofs.Ytnpobigombafoaa.Ud

namespace Go.Proofs.Ytnpobigombafoaa.Ud
open Go.RowKit Go.ChangeShapes Go.WideShapes Tx Um Aq
set_option linter.unusedVariables false
theorem heap_new2 (w : World) (o1 o2 : Obj) : ((w.alloc o1).alloc o2).heap[w.heap.size + 1]? = some o2 := by
  have := heap_alloc_new (w.alloc o1) o2
  simpa using this
theorem infoPair2 : (Try.prog.info? 79).map (·.size) = some 2 := by kernel_rfl
set_option maxRecDepth 100000 in
set_option maxHeartbeats 600000 in
theorem behind_any (p q x : Nat) (w : World) (hx : x = 0 ∨ x = 1 ∨ x = 2) (hp : p ≤ 1000) (hq : q ≤ 1000) :
    Calls Try.prog 50 #[.agg #[.int .i64 (p : Int), .int .i64 (q : Int)], .int .i64 (x : Int)] w fun e w' => e = .returned (.agg #[.int .i64 (onA p x : Nat), .int .i64 (onB q x : Nat)]) ∧ Below w.heap.size w w' := by
  rcases hx with rfl | rfl | rfl
  all_goals
    go_enter Try.func50, Try.ntmps50
    go_wp2_with fail
    refine bodyPost_ret (results_cell_row rfl _ _ _ _ _ _ _ rfl (heap_new2 _ _ _) Try.underlying79 rfl infoPair2) rfl ?_
    exact ⟨rfl, ((Below.refl _ w).alloc (Nat.le_refl _) _).alloc (by simp) _⟩
def bump : List (Nat × Nat) → Nat → List (Nat × Nat)
  | [], x => [(x, 1)]
  | [(y, n)], x => if y = x then [(y, n + 1)] else [(y, n), (x, 1)]
  | p :: q :: r, x => p :: bump (q :: r) x
theorem bump_last (l : List (Nat × Nat)) (y n x : Nat) : bump (l ++ [(y, n)]) x = if y = x then l ++ [(y, n + 1)] else l ++ [(y, n)] ++ [(x, 1)] := by
  induction l with
  | nil => rfl
  | cons p l ih =>
    cases l with
    | nil =>
      show p :: bump [(y, n)] x = _
      have e : bump [(y, n)] x = if y = x then [(y, n + 1)] else [(y, n), (x, 1)] := rfl
      rw [e]
      split <;> rfl
    | cons q r =>
      have e : bump (p :: q :: r ++ [(y, n)]) x = p :: bump (q :: r ++ [(y, n)]) x := rfl
      rw [e, ih]
      split <;> rfl
theorem bump_runs (s : List Nat) (x : Nat) : runs (s ++ [x]) = bump (runs s) x := by
  induction s with
  | nil => rfl
  | cons y s ih =>
    rw [List.cons_append, runs_cons, runs_cons, ih]
    cases hr : runs s with
    | nil =>
      have e1 : bump [] x = [(x, 1)] := rfl
      have e2 : bump [(y, 1)] x = if y = x then [(y, 1 + 1)] else [(y, 1), (x, 1)] := rfl
      simp only [e1, e2]
      by_cases e : y = x
      · rw [if_pos e, if_pos e, e]
      · rw [if_neg e, if_neg e]
    | cons p r =>
      obtain ⟨z, n⟩ := p
      cases r with
      | nil =>
        have e0 : bump [(z, n)] x = if z = x then [(z, n + 1)] else [(z, n), (x, 1)] := rfl
        have e3 : bump [(z, n + 1)] x = if z = x then [(z, n + 1 + 1)] else [(z, n + 1), (x, 1)] := rfl
        have e4 : bump [(y, 1), (z, n)] x = (y, 1) :: (if z = x then [(z, n + 1)] else [(z, n), (x, 1)]) := rfl
        rw [e0]
        by_cases e1 : z = x
        · by_cases e2 : y = z
          · simp only [if_pos e1, if_pos e2, e3]
          · simp only [if_pos e1, if_neg e2, e4]
        · by_cases e2 : y = z
          · simp only [if_neg e1, if_pos e2, e3]
          · simp only [if_neg e1, if_neg e2, e4]
      | cons q r =>
        have e0 : bump ((z, n) :: q :: r) x = (z, n) :: bump (q :: r) x := rfl
        have e3 : bump ((z, n + 1) :: q :: r) x = (z, n + 1) :: bump (q :: r) x := rfl
        have e4 : bump ((y, 1) :: (z, n) :: q :: r) x = (y, 1) :: (z, n) :: bump (q :: r) x := rfl
        rw [e0]
        by_cases e2 : y = z
        · simp only [if_pos e2, e3]
        · simp only [if_neg e2, e4]
theorem flat2_set (l : List (Nat × Nat)) (y n c : Nat) : ((l ++ [(y, n)]).flatMap c2).set (l.length * 2 + 1) (.int .i64 (c : Int)) = (l ++ [(y, c)]).flatMap c2 := by
  have h := flat2_len l
  rw [List.flatMap_append, List.flatMap_append, List.set_append_right _ _ (by omega), show l.length * 2 + 1 - (l.flatMap c2).length = 1 by omega]
  rfl
theorem own_put2 {w : World} {base g n cap size : Nat} {e : TypeId} {xs : List Value} (h : w.ownsRow base e size (.slice (some ⟨g, 0, none⟩) n cap) n xs) (k : Nat) (u : Value) :
    (w.setCell ⟨g, k, none⟩ u).ownsRow base e size (.slice (some ⟨g, 0, none⟩) n cap) n (xs.set k u) := by
  refine ⟨by rw [List.length_set]; exact h.1, ?_⟩
  rcases h.2 with ⟨h0, _⟩ | ⟨g', cap', cur, hv, hb, hh, hn, hc, hs, ht⟩
  · cases h0
  · injection hv with hg _ hcap
    injection hg with hg
    injection hg with hg
    subst hg
    subst hcap
    refine .inr ⟨g, cap, cur.setIfInBounds k u, rfl, hb, ?_, hn, hc, by simpa using hs, ?_⟩
    · simp [World.setCell, Array.getElem?_modify, hh]
    · rw [Array.toList_setIfInBounds, List.take_set, ht]
set_option maxRecDepth 100000 in
set_option maxHeartbeats 1000000 in
theorem longer_any (B : Nat) (v : Value) (l : List (Nat × Nat)) (x : Nat) (w : World) (hv : Prs 90 w B v l) (hx : x ≤ 2) (hl : l.length ≤ 1000) (hn : ∀ p, p ∈ l → p.1 ≤ 2 ∧ p.2 ≤ 1000) (hB : B ≤ w.heap.size) :
    Calls Try.prog 62 #[v, .int .i64 (x : Int)] w fun e w' => ∃ v', e = .returned v' ∧ Prs 90 w' B v' (bump l x) ∧ Below B w w' := by
  obtain ⟨iE, hI, hI0, hI1, hI2⟩ := info_parts infoEdit
  rcases List.eq_nil_or_concat l with rfl | ⟨pre, ⟨y, n⟩, rfl⟩
  · have hown : w.ownsRow B 90 2 v 0 [] := hv
    obtain ⟨a, c, rfl, _⟩ := hv.form
    have hBB : Below B w (w.alloc (.cells #[.int .i64 (x : Int), .int .i64 1] 90)) := (Below.refl _ w).alloc hB _
    clear hv hn
    go_enter Try.func62, Try.ntmps62
    go_wp2_with (at_builtin; refine wpList_append_own _ rfl _ _ 86 rfl B 90 iE (.agg #[.int .i64 0, .int .i64 0]) 2 16 Try.underlying86 hI hI0 hI1 hI2 rfl (by decide) _ _ _ rfl (hown.alloc _) ⟨w.heap.size, 0, none⟩ 1 1 (c2 (x, 1)) rfl rfl ?c1 ?c2 ?c3 ?c4 ?c5 ?_)
    case c1 => exact cell_two_new _ _ _ _
    case c2 => exact c2_one (x, 1)
    case c3 => unfold maxLen; omega
    case c4 => omega
    case c5 => simp; omega
    intro v' w2 hown' hgrow _
    have hb3 : Below B w w2 := hBB.grown hgrow (by simp; omega) (fun k hk => (hown.lt k hk).1)
    go_wp2_with fail
    go_ret
    exact ⟨_, rfl, hown', hb3⟩
  · rw [List.concat_eq_append] at hv hl hn ⊢
    obtain ⟨R, hR⟩ : ∃ R, R = bump (pre ++ [(y, n)]) x := ⟨_, rfl⟩
    rw [← hR]
    rw [bump_last] at hR
    obtain ⟨hn1, hn2⟩ := hn (y, n) (by simp)
    have hown : w.ownsRow B 90 2 v (pre ++ [(y, n)]).length ((pre ++ [(y, n)]).flatMap c2) := hv
    have hlen : (pre ++ [(y, n)]).length = pre.length + 1 := by simp
    have hsl : (pre ++ [(y, n)])[pre.length]? = some (y, n) := by rw [List.getElem?_append_right (Nat.le_refl _), Nat.sub_self]; rfl
    obtain ⟨k1, k2⟩ := flat2_get _ _ _ hsl
    rcases hown.2 with ⟨_, h0⟩ | ⟨g, cap, cur, rfl, hg, hh, hnc, hcc, _⟩
    · rw [hlen] at h0; cases h0
    have d1 : w.cell? ⟨g, pre.length * 2, none⟩ = some (.int .i64 (y : Int)) := by
      have := hown.cells (g := g) rfl _ _ k1
      rwa [WideShapes.add_plain, Nat.zero_add] at this
    have d2 : w.cell? ⟨g, pre.length * 2 + 1, none⟩ = some (.int .i64 (n : Int)) := by
      have := hown.cells (g := g) rfl _ _ k2
      rwa [WideShapes.add_plain, Nat.zero_add] at this
    have hfz : w.frozen? ⟨g, pre.length * 2 + 1, none⟩ = false := by simp [World.frozen?, hh]
    have hput := own_put2 hown (pre.length * 2 + 1) (.int .i64 ((n + 1 : Nat) : Int))
    simp only at hn1 hn2
    rw [flat2_set] at hput
    rw [hlen] at hown hput hnc hl ⊢
    obtain ⟨k, hk⟩ : ∃ k, k = pre.length := ⟨_, rfl⟩
    rw [← hk] at d1 d2 hfz hown hput hnc hl ⊢
    have HK := Lib.hid hk
    have wk : IntKind.i64.wrap (((k + 1 : Nat) : Int) - 1) = (k : Int) := (IntWalk.i64_in _ (by omega)).trans (by omega)
    have f1 : ¬ (k : Int) < 0 := by omega
    have f2 : (k : Int) < ((k + 1 : Nat) : Int) := by omega
    have wn : IntKind.i64.wrap ((n : Int) + 1) = (n : Int) + 1 := IntWalk.i64_in _ (by omega)
    rw [show ((n + 1 : Nat) : Int) = (n : Int) + 1 by omega] at hput
    by_cases hyx : y = x
    · have e3 : ((y : Int) == (x : Int)) = true := by rw [hyx]; exact beq_self_eq_true _
      have HE : Hid (Prs 90 (w.setCell ⟨g, pre.length * 2 + 1, none⟩ (.int .i64 ((n : Int) + 1))) B (.slice (some ⟨g, 0, none⟩) (k + 1) cap) R ∧ Below B w (w.setCell ⟨g, pre.length * 2 + 1, none⟩ (.int .i64 ((n : Int) + 1)))) := by
        show _ ∧ _
        rw [hR, if_pos hyx]
        refine ⟨?_, (Below.refl _ w).setCell (p := ⟨g, _, none⟩) hg _⟩
        unfold Prs
        rw [List.length_append, ← hk]
        exact hput
      rw [← hk] at HE
      clear hyx hput hown hh hk hR
      go_enter Try.func62, Try.ntmps62
      go_wp2_with fail
      go_ret
      exact ⟨_, rfl, HE.out⟩
    · have e3 : ((y : Int) == (x : Int)) = false := beq_eq_false_iff_ne.2 (by omega)
      have hBB : Below B w (w.alloc (.cells #[.int .i64 (x : Int), .int .i64 1] 90)) := (Below.refl _ w).alloc hB _
      have HI : Hid (R = pre ++ [(y, n)] ++ [(x, 1)]) := hR.trans (if_neg hyx)
      have e4 : (y == x) = false := beq_eq_false_iff_ne.2 hyx
      have e5 : decide (y = x) = false := decide_eq_false hyx
      clear hput hh hk hR d2 hfz
      go_enter Try.func62, Try.ntmps62
      go_wp2_with (at_builtin; refine wpList_append_own _ rfl _ _ 86 rfl B 90 iE (.agg #[.int .i64 0, .int .i64 0]) 2 16 Try.underlying86 hI hI0 hI1 hI2 rfl (by decide) _ _ _ rfl (hown.alloc _) ⟨w.heap.size, 0, none⟩ 1 1 (c2 (x, 1)) rfl rfl ?c1 ?c2 ?c3 ?c4 ?c5 ?_)
      case c1 => exact fun j u h => h
      case c2 => exact c2_one (x, 1)
      case c3 => unfold maxLen; omega
      case c4 => omega
      case c5 => omega
      intro v' w2 hown' hgrow _
      have hb3 : Below B w w2 := hBB.grown hgrow (by simp; omega) (fun k hk => (hown.lt k hk).1)
      have hpr : Prs 90 w2 B v' (pre ++ [(y, n)] ++ [(x, 1)]) := by
        unfold Prs
        have e : ((pre ++ [(y, n)] ++ [(x, 1)]).flatMap c2) = pre.flatMap c2 ++ (c2 (y, n) ++ c2 (x, 1)) := by simp
        have hll : (pre ++ [(y, n)] ++ [(x, 1)]).length = k + 1 + 1 := by
          have := HK.out
          simp
          omega
        rw [e, hll]
        exact hown'
      go_wp2_with fail
      go_ret
      rw [HI.out]
      exact ⟨_, rfl, hpr, hb3⟩
end Go.Proofs.Ytnpobigombafoaa.Ud

namespace Go.Proofs.Ytnpobigombafoaa.Ud
open Go.RowKit Go.ChangeShapes Go.WideShapes Tx Um Aq
set_option linter.unusedVariables false
structure Kp (pa B : Nat) (w w' : World) : Prop where
  os : w'.os = w.os
  tape : w'.tape = w.tape
  output : w'.output = w.output
  size : w.heap.size ≤ w'.heap.size
  block : ∀ i, i < B → i ≠ pa → w'.heap[i]? = w.heap[i]?
theorem Kp.refl (pa B : Nat) (w : World) : Kp pa B w w := ⟨rfl, rfl, rfl, Nat.le_refl _, fun _ _ _ => rfl⟩
theorem Kp.below {pa B B2 : Nat} {a b c : World} (h : Kp pa B a b) (k : Below B2 b c) (hB : B ≤ B2) : Kp pa B a c :=
  ⟨k.os.trans h.os, k.tape.trans h.tape, k.output.trans h.output, Nat.le_trans h.size k.size, fun i hi hne => (k.block i (Nat.lt_of_lt_of_le hi hB)).trans (h.block i hi hne)⟩
theorem Kp.put {pa B o : Nat} {a b : World} (h : Kp pa B a b) (u : Value) : Kp pa B a (b.setCell ⟨pa, o, none⟩ u) :=
  ⟨h.os, h.tape, h.output, by simpa [World.setCell] using h.size, fun i hi hne => (Below.heap_setCell b ⟨pa, o, none⟩ u i hne).trans (h.block i hi hne)⟩
theorem Kp.all {pa B B2 : Nat} {a b : World} (h : Kp pa B a b) (h1 : B2 ≤ B) (h2 : B2 ≤ pa) : Below B2 a b := ⟨h.os, h.tape, h.output, h.size, fun i hi => h.block i (by omega) (by omega)⟩
theorem Kp.drew {pa B : Nat} {a b : World} (h : Kp pa B a b) : Kp pa B a b.drew := ⟨h.os, h.tape, h.output, h.size, h.block⟩
theorem Kp.drewN {pa B : Nat} {a b : World} (h : Kp pa B a b) (n : Nat) : Kp pa B a (b.drewN n) := ⟨h.os, h.tape, h.output, h.size, h.block⟩
def rd (w : World) (a : Addr) : Nat := match w.cell? a with
  | some (.int _ k) => k.toNat
  | _ => 0
theorem rd_eq {w : World} {a : Addr} {k : IntKind} {n : Nat} (h : w.cell? a = some (.int k (n : Int))) : rd w a = n := by
  unfold rd
  rw [h]
  rfl
def Two (w : World) (pa p q : Nat) : Prop := w.heap[pa]? = some (.cells #[.int .i64 (p : Int), .int .i64 (q : Int)] 79 (0, 0))
theorem Two.cell {w : World} {pa p q : Nat} (h : Two w pa p q) : w.cell? ⟨pa, 0, none⟩ = some (.int .i64 (p : Int)) ∧ w.cell? ⟨pa, 1, none⟩ = some (.int .i64 (q : Int)) := by
  unfold World.cell?
  unfold Two at h
  simp [h]
theorem Two.frozen {w : World} {pa p q : Nat} (h : Two w pa p q) (k : Nat) : w.frozen? ⟨pa, k, none⟩ = false := by
  unfold Two at h
  simp [World.frozen?, h]
theorem Two.kept {w w1 : World} {pa p q : Nat} (h : Two w pa p q) (hk : w1.heap[pa]? = w.heap[pa]?) : Two w1 pa p q := hk.trans h
theorem Two.put {w : World} {pa p q : Nat} (h : Two w pa p q) (p' q' : Nat) : Two ((w.setCell ⟨pa, 0, none⟩ (.int .i64 (p' : Int))).setCell ⟨pa, 1, none⟩ (.int .i64 (q' : Int))) pa p' q' := by
  unfold Two at h ⊢
  simp [World.setCell, Array.getElem?_modify, h]
theorem Two.lt {w : World} {pa p q : Nat} (h : Two w pa p q) : pa < w.heap.size := (Array.getElem?_eq_some_iff.1 h).1
theorem runs_le (s : List Nat) : ∀ x, x ∈ runs s → x.1 ∈ s ∧ x.2 ≤ s.length := by
  induction s with
  | nil => intro x hx; cases hx
  | cons y s ih =>
    intro x hx
    rw [runs_cons] at hx
    cases hr : runs s with
    | nil =>
      rw [hr] at hx
      obtain rfl := List.mem_singleton.1 hx
      exact ⟨by simp, by simp⟩
    | cons p r =>
      obtain ⟨z, n⟩ := p
      rw [hr] at hx ih
      have hz := ih (z, n) (by simp)
      simp only at hx hz
      by_cases e : y = z
      · rw [if_pos e] at hx
        rcases List.mem_cons.1 hx with rfl | hx
        · exact ⟨by simp [e], by simp; omega⟩
        · obtain ⟨h1, h2⟩ := ih x (by simp [hx])
          exact ⟨by simp [h1], by simp; omega⟩
      · rw [if_neg e] at hx
        rcases List.mem_cons.1 hx with rfl | hx
        · exact ⟨by simp, by simp⟩
        · obtain ⟨h1, h2⟩ := ih x hx
          exact ⟨by simp [h1], by simp; omega⟩
theorem St.small {a b : List ByteArray} {pre : List Nat} {i j : Nat} (h : St a b pre i j) (ha : a.length ≤ 400) (hb : b.length ≤ 400) : (runs pre).length ≤ 1000 ∧ ∀ x, x ∈ runs pre → x.1 ≤ 2 ∧ x.2 ≤ 1000 := by
  obtain ⟨h1, h2, h3, h4⟩ := h
  have hl := runs_len pre
  refine ⟨by omega, fun x hx => ?_⟩
  obtain ⟨h5, h6⟩ := runs_le pre x hx
  have := (makes a b).le x.1 (by rw [h3]; simp [h5])
  omega
theorem Prs.far {E : TypeId} {w : World} {B pa : Nat} {v : Value} {l : List (Nat × Nat)} (h : Prs E w B v l) (hp : pa < B) (o : Nat) (u : Value) : Prs E (w.setCell ⟨pa, o, none⟩ u) B v l := by
  have hg : w.grownBy (w.setCell ⟨pa, o, none⟩ u) (some pa) := ⟨rfl, rfl, rfl, by simp [World.setCell], fun j _ hj => Below.heap_setCell w ⟨pa, o, none⟩ u j (fun e => hj (by rw [e]))⟩
  exact World.ownsRow.kept h hg (.inr (fun e => by have := (World.ownsRow.lt h pa e).1; omega))
theorem on_more {p q x : Nat} (hx : x = 0 ∨ x = 1 ∨ x = 2) : p + q < onA p x + onB q x := by
  unfold onA onB
  rcases hx with rfl | rfl | rfl <;> simp <;> omega
set_option maxRecDepth 100000 in
set_option maxHeartbeats 2000000 in
theorem script_any (A B : Option Addr) (ca cb : Nat) (a b : List ByteArray) (w : World) (hA : Strs w A a.length a) (hB : Strs w B b.length b) (ha : ∀ x, x ∈ a → x.size ≤ maxLen) (hb : ∀ x, x ∈ b → x.size ≤ maxLen) :
    Calls Try.prog 49 #[.slice A a.length ca, .slice B b.length cb] w (PrsTo 90 (scr a b) (err a b) w) := by
  by_cases hm : 400 < a.length
  · have e1 : (400 : Int) < (a.length : Int) := by omega
    have HE : Hid (scr a b = [] ∧ err a b = 4) := by
      show _ ∧ _
      unfold scr err lng
      rw [decide_eq_true hm]
      exact ⟨rfl, rfl⟩
    clear ha hb hA hB
    go_enter Try.func49, Try.ntmps49
    go_wp2_with fail
    go_ret2
    unfold PrsTo
    rw [HE.out.1, HE.out.2]
    exact ⟨_, rfl, World.ownsRow_nil _ _ _ _, Below.refl _ _⟩
  · have e1 : ¬ (400 : Int) < (a.length : Int) := by omega
    by_cases hn : 400 < b.length
    · have e2 : (400 : Int) < (b.length : Int) := by omega
      have HE : Hid (scr a b = [] ∧ err a b = 4) := by
        show _ ∧ _
        unfold scr err lng
        rw [decide_eq_true hn, Bool.or_true]
        exact ⟨rfl, rfl⟩
      clear ha hb hA hB
      go_enter Try.func49, Try.ntmps49
      go_wp2_with fail
      go_ret2
      unfold PrsTo
      rw [HE.out.1, HE.out.2]
      exact ⟨_, rfl, World.ownsRow_nil _ _ _ _, Below.refl _ _⟩
    · have e2 : ¬ (400 : Int) < (b.length : Int) := by omega
      have HE : Hid (scr a b = runs (steps a b) ∧ err a b = 0) := by
        show _ ∧ _
        unfold scr err lng
        rw [decide_eq_false hm, decide_eq_false hn]
        exact ⟨rfl, rfl⟩
      have hm4 : a.length ≤ 400 := by omega
      have hn4 : b.length ≤ 400 := by omega
      have cN := numbered_any A B ca cb a b w hA hB ha hb hm4 hn4
      unfold NumbTo at cN
      clear hA hB ha hb hm hn
      obtain ⟨m, hmm⟩ : ∃ m, m = a.length := ⟨_, rfl⟩
      obtain ⟨n, hnn⟩ : ∃ n, n = b.length := ⟨_, rfl⟩
      rw [← hmm] at e1 cN hm4 ⊢
      rw [← hnn] at e2 cN hn4 ⊢
      have HM := Lib.hid hmm
      have HN := Lib.hid hnn
      clear hmm hnn
      go_enter Try.func49, Try.ntmps49
      go_wp2_with fail
      go_at_call 59
      refine cN.mono ?_
      rintro e w1 ⟨M, va, vb, rfl, hva, hvb, hM, hb1⟩
      obtain ⟨ada, cca, rfl, hca⟩ := ints_cell hva
      obtain ⟨adb, ccb, rfl, hcb⟩ := ints_cell hvb
      have hnA : Nums w1 ada (a.map (num M)) := hca
      have hnB : Nums w1 adb (b.map (num M)) := hcb
      have cL := fun c1 c2 => lengths_any ada adb c1 c2 M a b w1 hM (by rw [← HM.out]; omega) (by rw [← HN.out]; omega) hnA hnB
      unfold TableTo at cL
      rw [List.length_map, ← HM.out]
      rw [List.length_map, ← HN.out]
      rw [← HM.out, ← HN.out] at cL
      have HNA := Lib.hid hnA
      have HNB := Lib.hid hnB
      have HMM := Lib.hid hM
      have HB1 := Lib.hid hb1
      clear hva hvb hM hb1 hca hcb hnA hnB cN
      go_wp2_with fail
      go_at_call 60
      refine (cL _ _).mono ?_
      rintro e w2 ⟨g, r, rfl, hT, hb2⟩
      have HT := Lib.hid hT
      have HB2 := Lib.hid hb2
      clear hT hb2 cL
      have hTw : Two ((w2.alloc (.cells #[.int .i64 0, .int .i64 0] 79)).alloc (.cells #[.int .i64 (m : Int), .int .i64 (n : Int)] 79)) w2.heap.size 0 0 := by
        unfold Two
        rw [Below.heap_alloc _ _ _ (by simp)]
        exact heap_alloc_new _ _
      have hTe : Two ((w2.alloc (.cells #[.int .i64 0, .int .i64 0] 79)).alloc (.cells #[.int .i64 (m : Int), .int .i64 (n : Int)] 79)) (w2.heap.size + 1) m n := heap_new2 _ _ _
      have hb3 : Below w2.heap.size w2 ((w2.alloc (.cells #[.int .i64 0, .int .i64 0] 79)).alloc (.cells #[.int .i64 (m : Int), .int .i64 (n : Int)] 79)) := ((Below.refl _ w2).alloc (Nat.le_refl _) _).alloc (by simp) _
      have hs3 : ((w2.alloc (.cells #[.int .i64 0, .int .i64 0] 79)).alloc (.cells #[.int .i64 (m : Int), .int .i64 (n : Int)] 79)).heap.size = w2.heap.size + 2 := by simp
      go_wp2_with fail
      generalize (w2.alloc (.cells #[.int .i64 0, .int .i64 0] 79)).alloc (.cells #[.int .i64 (m : Int), .int .i64 (n : Int)] 79) = w3 at hTw hTe hb3 hs3 ⊢
      have HNA3 := Lib.hid ((HNA.out.below HB2.out).below hb3)
      have HNB3 := Lib.hid ((HNB.out.below HB2.out).below hb3)
      have HT3 := Lib.hid (HT.out.below hb3)
      have HB3 : Hid (Below w.heap.size w w3) := (HB1.out.trans (HB2.out.mono HB1.out.size)).trans (hb3.mono (Nat.le_trans HB1.out.size HB2.out.size))
      have HAA : Hid (∀ i o, (a.map (num M)).length ≠ 0 → ada = some ⟨i, o, none⟩ → i < w2.heap.size) := fun i o h0 h1 => Nat.lt_of_lt_of_le (HNA.out.lt h0 h1) HB2.out.size
      have HAB : Hid (∀ i o, (b.map (num M)).length ≠ 0 → adb = some ⟨i, o, none⟩ → i < w2.heap.size) := fun i o h0 h1 => Nat.lt_of_lt_of_le (HNB.out.lt h0 h1) HB2.out.size
      have HAT : Hid (g < w2.heap.size ∧ ∀ k, k ≤ a.length → r k < w2.heap.size) := ⟨HT.out.glt.2, fun k hk => (HT.out.apart k (Nat.zero_le _) hk).2⟩
      have hww2 : w.heap.size ≤ w2.heap.size := Nat.le_trans HB1.out.size HB2.out.size
      obtain ⟨pa, hpa⟩ : ∃ pa, pa = w2.heap.size := ⟨_, rfl⟩
      rw [← hpa] at hTw hTe hs3 HAA HAB HAT hww2 ⊢
      have HTE := Lib.hid hTe
      have HTW := Lib.hid hTw
      have HST := Lib.hid (st_start a b)
      clear hb3 HNA HNB HT HB1 HB2 hpa hTe hTw
      go_loopw [9, 12] (fun v _ wr => ∃ (pre : List Nat) (p q : Nat), Hid (St a b pre p q) ∧ Prs 90 wr (pa + 2) v (runs pre) ∧ Hid (Kp pa (pa + 2) w3 wr) ∧ Hid (Two wr pa p q)) (fun _ _ wr => m + n - rd wr ⟨pa, 0, none⟩ - rd wr ⟨pa, 1, none⟩)
      case atStart => exact ⟨[], 0, 0, HST, World.ownsRow_nil _ _ _ _, Kp.refl _ _ _, HTW⟩
      case round =>
        obtain ⟨pre, p, q, HS, hpr, HK, HTWO⟩ := hrel
        clear HST HTW
        have hp := HS.out.1
        have hq := HS.out.2.1
        rw [← HM.out] at hp
        rw [← HN.out] at hq
        obtain ⟨c0, c1⟩ := HTWO.out.cell
        have HRD : Hid (rd wr ⟨pa, 0, none⟩ = p ∧ rd wr ⟨pa, 1, none⟩ = q) := ⟨rd_eq c0, rd_eq c1⟩
        have hTe := HTE.out.kept (HK.out.block (pa + 1) (by omega) (by omega))
        obtain ⟨d0, d1⟩ := hTe.cell
        have hgE := guardPr
        have hQ := run_neq_pair
        have hszr := HK.out.size
        by_cases hend : p = m ∧ q = n
        · obtain ⟨hpe, hqe⟩ := hend
          have e3 : ((p : Int) == (m : Int)) = true := beq_iff_eq.2 (by omega)
          have e4 : ((q : Int) == (n : Int)) = true := beq_iff_eq.2 (by omega)
          have HR : Hid (PrsTo 90 (scr a b) (err a b) w (.returned (.tuple #[u9, .int .i64 0])) wr) := by
            show PrsTo _ _ _ _ _ _
            rw [HE.out.1, HE.out.2, st_end HS.out (by rw [← HM.out]; exact hpe) (by rw [← HN.out]; exact hqe)]
            exact ⟨_, rfl, own_base hpr (by omega), HB3.out.trans (HK.out.all (by omega) hww2)⟩
          clear hTe hpe hqe hpr
          go_wp2_with fail
          go_ret2
          exact HR.out
        · have e5 : (((p : Int) == (m : Int)) && ((q : Int) == (n : Int))) = false := by
            by_cases h1 : p = m
            · have h2 : ((q : Int) == (n : Int)) = false := beq_eq_false_iff_ne.2 (by omega)
              rw [h2, Bool.and_false]
            · have h2 : ((p : Int) == (m : Int)) = false := beq_eq_false_iff_ne.2 (by omega)
              rw [h2, Bool.false_and]
          have hQ2 : (Op.equalIn 10000 79 (.agg #[.int .i64 (p : Int), .int .i64 (q : Int)]) (.agg #[.int .i64 (m : Int), .int .i64 (n : Int)])).run Try.prog wr = .ok false wr := by rw [run_eql_pair, e5]
          have hAr := HNA3.out.kept (w1 := wr) (fun i h0 h1 => HK.out.block i (by have := HAA.out i 0 h0 h1; omega) (by have := HAA.out i 0 h0 h1; omega)) hszr
          have hBr := HNB3.out.kept (w1 := wr) (fun i h0 h1 => HK.out.block i (by have := HAB.out i 0 h0 h1; omega) (by have := HAB.out i 0 h0 h1; omega)) hszr
          have hTr := HT3.out.kept (w1 := wr) (HK.out.block g (by have := HAT.out.1; omega) (by have := HAT.out.1; omega)) (fun k _ hk => HK.out.block (r k) (by have := HAT.out.2 k hk; omega) (by have := HAT.out.2 k hk; omega)) hszr
          have cx := fun c1 c2 => next_any ada adb c1 c2 g p q _ r M a b wr HMM.out (by rw [← HM.out]; exact hm4) (by rw [← HN.out]; exact hn4) hAr hBr hTr (by rw [← HM.out]; exact hp) (by rw [← HN.out]; exact hq) (by rw [← HM.out, ← HN.out]; omega)
          rw [← HM.out, ← HN.out] at cx
          have hm5 := hm4
          have hn5 := hn4
          rw [HM.out] at hm5
          rw [HN.out] at hn5
          obtain ⟨hl1, hl2⟩ := HS.out.small hm5 hn5
          have HL1 := Lib.hid hl1
          have HL2 := Lib.hid hl2
          have CX := Lib.hid cx
          clear hQ e5 hAr hBr hTr hl1 hl2 hm5 hn5 hTe cx
          go_wp2_with fail
          go_at_call 61
          refine (CX.out _ _).mono ?_
          rintro e w5 ⟨x, rfl, hd, hb5⟩
          have hx2 := hd.le
          have hpr5 : Prs 90 w5 (pa + 2) u9 (runs pre) := hpr.below hb5
          have HS2 := Lib.hid (HS.out.does hd)
          have HK5 := Lib.hid (HK.out.below hb5 (by omega))
          have HT5 := Lib.hid (HTWO.out.kept (hb5.block pa HTWO.out.lt))
          have hsz5 := HK5.out.size
          have cl := longer_any (pa + 2) u9 (runs pre) x w5 hpr5 (by omega) HL1.out HL2.out (by omega)
          rw [← bump_runs] at cl
          have CL := Lib.hid cl
          clear hpr hpr5 HK HTWO HS hb5 hd cl c0 c1 d0 d1 hQ2 CX HL1 HL2
          go_wp2_with fail
          go_at_call 62
          refine CL.out.mono ?_
          rintro e w6 ⟨v6, rfl, hpr6, hb6⟩
          have HK6 := Lib.hid (HK5.out.below hb6 (Nat.le_refl _))
          have HT6 := Lib.hid (HT5.out.kept (hb6.block pa (by omega)))
          obtain ⟨c0, c1⟩ := HT6.out.cell
          have CB := Lib.hid (behind_any p q x w6 hx2 (by omega) (by omega))
          have HP6 := Lib.hid hpr6
          clear HK5 HT5 hb6 CL hpr6
          go_wp2_with fail
          go_at_call 50
          refine CB.out.mono ?_
          rintro e w7 ⟨rfl, hb7⟩
          have HT7 := Lib.hid (HT6.out.kept (hb7.block pa HT6.out.lt))
          have HK7 := Lib.hid (HK6.out.below hb7 (by have := HK6.out.size; omega))
          have hp7 := HP6.out.below hb7
          obtain ⟨c0, c1⟩ := HT7.out.cell
          have f0 := HT7.out.frozen 0
          have f1 := HT7.out.frozen 1
          have HS7 := HS2.out.1
          have HS8 := HS2.out.2.1
          rw [← HM.out] at HS7
          rw [← HN.out] at HS8
          have hmore := on_more (p := p) (q := q) hx2
          have HP8 := Lib.hid ((hp7.far (by omega : pa < pa + 2) 0 (.int .i64 (onA p x : Nat))).far (by omega : pa < pa + 2) 1 (.int .i64 (onB q x : Nat)))
          have HK8 := Lib.hid ((HK7.out.put (o := 0) (.int .i64 (onA p x : Nat))).put (o := 1) (.int .i64 (onB q x : Nat)))
          have HT8 := Lib.hid (HT7.out.put (onA p x) (onB q x))
          obtain ⟨p', hp'⟩ : ∃ p', p' = onA p x := ⟨_, rfl⟩
          obtain ⟨q', hq'⟩ : ∃ q', q' = onB q x := ⟨_, rfl⟩
          rw [← hp'] at HS2 HS7 hmore HP8 HK8 HT8 ⊢
          rw [← hq'] at HS2 HS8 hmore HP8 HK8 HT8 ⊢
          clear hp7 HT7 HK7 hp' hq' HT6 HK6 HP6 hb7 CB
          go_wp2_with fail
          go_roundw
          case rel => exact ⟨pre ++ [x], p', q', HS2, HP8.out, HK8, HT8⟩
          case measure =>
            obtain ⟨k0, k1⟩ := HT8.out.cell
            rw [rd_eq k0, rd_eq k1, HRD.out.1, HRD.out.2]
            omega
end Go.Proofs.Ytnpobigombafoaa.Ud

namespace Go.Proofs.Ytnpobigombafoaa.Ud
open Go.RowKit Go.ChangeShapes Go.WideShapes Tx Um Aq
set_option linter.unusedVariables false
def RunAt (w : World) (pr x n : Nat) : Prop := w.heap[pr]? = some (.cells #[.int .i64 (x : Int), .int .i64 (n : Int)] 90 (0, 0))
theorem RunAt.cell {w : World} {pr x n : Nat} (h : RunAt w pr x n) : w.cell? ⟨pr, 0, none⟩ = some (.int .i64 (x : Int)) ∧ w.cell? ⟨pr, 1, none⟩ = some (.int .i64 (n : Int)) := by
  unfold World.cell?
  unfold RunAt at h
  simp [h]
theorem RunAt.kept {w w1 : World} {pr x n : Nat} (h : RunAt w pr x n) (hk : w1.heap[pr]? = w.heap[pr]?) : RunAt w1 pr x n := hk.trans h
theorem RunAt.lt {w : World} {pr x n : Nat} (h : RunAt w pr x n) : pr < w.heap.size := (Array.getElem?_eq_some_iff.1 h).1
theorem pk_on {s : List Nat} {k i j x : Nat} {pre : List (Nat × Nat)} (h : PK s k i j pre) (hs : s[k]? = some x) (hx : x = 0 ∨ x = 1 ∨ x = 2) : PK s (k + 1) (onA i x) (onB j x) (if x = 0 then pre ++ [(i, j)] else pre) := by
  rcases hx with rfl | rfl | rfl
  · exact pk_keep h hs
  · exact pk_drop h hs
  · exact pk_add h hs
theorem pos_le (R : List (Nat × Nat)) (k : Nat) : pos R k ≤ (flat R).length := by
  unfold pos
  have : flat R = flat (R.take k) ++ flat (R.drop k) := by unfold flat; rw [← List.flatMap_append, List.take_append_drop]
  rw [this, List.length_append]
  omega
set_option maxRecDepth 100000 in
set_option maxHeartbeats 2000000 in
theorem kept_any (A B : Option Addr) (ca cb : Nat) (a b : List ByteArray) (w : World) (hA : Strs w A a.length a) (hB : Strs w B b.length b) (ha : ∀ x, x ∈ a → x.size ≤ maxLen) (hb : ∀ x, x ∈ b → x.size ≤ maxLen) :
    Calls Try.prog 37 #[.slice A a.length ca, .slice B b.length cb] w (PrsTo 79 (kep a b) (err a b) w) := by
  obtain ⟨iE, hI, hI0, hI1, hI2⟩ := info_parts infoPair
  have cS := script_any A B ca cb a b w hA hB ha hb
  unfold PrsTo at cS
  clear hA hB ha hb
  cases hl : lng a b
  case true =>
    rw [scr_yes hl, err_yes hl] at cS
    rw [kep_yes hl, err_yes hl]
    have CS := Lib.hid cS
    clear cS hl
    go_enter Try.func37, Try.ntmps37
    go_wp2_with fail
    go_at_call 49
    refine CS.out.mono ?_
    rintro e w1 ⟨v, rfl, hv, hb1⟩
    go_wp2_with fail
    go_ret2
    exact ⟨_, rfl, World.ownsRow_nil _ _ _ _, hb1⟩
  case false =>
    obtain ⟨hm4, hn4⟩ := lng_small hl
    have hsl := (makes a b).lens
    have hk := kept a b
    have hkl := lcs_le_left a b
    have hs800 : (steps a b).length ≤ 800 := by omega
    have hle := (makes a b).le
    rw [scr_no hl, err_no hl] at cS
    rw [kep_no hl, err_no hl]
    obtain ⟨s, hs⟩ : ∃ s, s = steps a b := ⟨_, rfl⟩
    rw [← hs] at cS hs800 hle ⊢
    have HLE := Lib.hid hle
    obtain ⟨R, hR⟩ : ∃ R, R = runs s := ⟨_, rfl⟩
    rw [← hR] at cS
    have hfl : flat R = s := by rw [hR, runs_flat]
    have HFL := Lib.hid hfl
    have hRl : R.length ≤ 800 := by rw [hR]; have := runs_len s; omega
    have CS := Lib.hid cS
    clear cS hl hsl hk hkl hle hs hR hfl hm4 hn4
    go_enter Try.func37, Try.ntmps37
    go_wp2_with fail
    go_at_call 49
    refine CS.out.mono ?_
    rintro e w1 ⟨v, rfl, hv, hb1⟩
    obtain ⟨ad, cc, rfl, hrr⟩ := hv.form
    have HRR := Lib.hid hrr
    obtain ⟨L, hL⟩ : ∃ L, L = R.length := ⟨_, rfl⟩
    rw [← hL] at hRl ⊢
    have HL := Lib.hid hL
    clear hv CS hL hrr
    have hTw : Two (w1.alloc (.cells #[.int .i64 0, .int .i64 0] 79)) w1.heap.size 0 0 := heap_alloc_new _ _
    have hb2 : Below w1.heap.size w1 (w1.alloc (.cells #[.int .i64 0, .int .i64 0] 79)) := (Below.refl _ w1).alloc (Nat.le_refl _) _
    have hs3 : (w1.alloc (.cells #[.int .i64 0, .int .i64 0] 79)).heap.size = w1.heap.size + 1 := by simp
    go_wp2_with fail
    generalize w1.alloc (.cells #[.int .i64 0, .int .i64 0] 79) = w3 at hTw hb2 hs3 ⊢
    have HB3 : Hid (Below w.heap.size w w3) := hb1.trans (hb2.mono hb1.size)
    have HRR3 := Lib.hid (HRR.out.below hb2)
    have HAA : Hid (∀ i o, R.length ≠ 0 → ad = some ⟨i, o, none⟩ → i < w1.heap.size) := fun i o h0 h1 => by
      obtain ⟨b', o', h2, h3, _⟩ := HRR.out.2.resolve_left h0
      rw [h1] at h2
      injection h2 with h2
      injection h2 with h2
      omega
    have hww1 : w.heap.size ≤ w1.heap.size := hb1.size
    obtain ⟨pa, hpa⟩ : ∃ pa, pa = w1.heap.size := ⟨_, rfl⟩
    rw [← hpa] at hTw hs3 HAA hww1 ⊢
    have HTW := Lib.hid hTw
    clear hb1 hb2 hpa hTw HRR
    go_loopw [8, 11, 23] (fun v _ i wr => ∃ (k : Nat) (pre : List (Nat × Nat)) (p q : Nat), i = .int .i64 (k : Int) ∧ k ≤ L ∧ Hid (PK s (pos R k) p q pre) ∧ Prs 79 wr (pa + 1) v pre ∧ Hid (Kp pa (pa + 1) w3 wr) ∧ Hid (Two wr pa p q)) (fun _ _ i _ => L - (intOf i).toNat)
    case atStart => exact ⟨0, [], 0, 0, rfl, Nat.zero_le _, pk_start s, World.ownsRow_nil _ _ _ _, Kp.refl _ _ _, HTW⟩
    case round =>
      obtain ⟨k, pre, p, q, rfl, hk, HPK0, hpr, HK, HTWO⟩ := hrel
      clear HTW
      have hszr := HK.out.size
      by_cases hlt : k < L
      · have e1 : (k : Int) < (L : Int) := by omega
        obtain ⟨⟨x, N⟩, hx⟩ : ∃ y, R[k]? = some y := ⟨_, List.getElem?_eq_getElem (by rw [← HL.out]; exact hlt)⟩
        obtain ⟨ga, oa, rfl, hga, hca⟩ := HRR3.out.2.resolve_left (by rw [← HL.out]; omega)
        obtain ⟨a0, a1⟩ := hca k (x, N) hx
        have hgp := HAA.out ga oa (by rw [← HL.out]; omega) rfl
        have d0 : wr.cell? ⟨ga, oa + k * 2, none⟩ = some (.int .i64 (x : Int)) := cell_keep a0 (HK.out.block ga (by omega) (by omega))
        have d1 : wr.cell? ⟨ga, oa + k * 2 + 1, none⟩ = some (.int .i64 (N : Int)) := cell_keep a1 (HK.out.block ga (by omega) (by omega))
        have hend := HPK0.out
        have hat : Hid (∀ j, j < N → s[pos R k + j]? = some x) := fun j hj => by
          have := flat_at hx hj
          rwa [HFL.out] at this
        have hnx : Hid (pos R (k + 1) = pos R k + N) := pos_next hx
        have hx3 : Hid (0 < N → x = 0 ∨ x = 1 ∨ x = 2) := fun h0 => HLE.out x (List.mem_iff_getElem?.2 ⟨_, hat.out 0 h0⟩)
        have hp8 : pos R k + N ≤ 800 := by
          rw [← hnx.out]
          have h2 := pos_le R (k + 1)
          rw [HFL.out] at h2
          omega
        have hal : Below wr.heap.size wr (wr.alloc (.cells #[.int .i64 (x : Int), .int .i64 (N : Int)] 90)) := (Below.refl _ wr).alloc (Nat.le_refl _) _
        have hr0 : RunAt (wr.alloc (.cells #[.int .i64 (x : Int), .int .i64 (N : Int)] 90)) wr.heap.size x N := heap_alloc_new _ _
        have hneq : u8.ownBlock ≠ some wr.heap.size := fun e => by have := (World.ownsRow.lt hpr _ e).2; omega
        have hK0 := Lib.hid (HK.out.below hal (by omega))
        have hT0 := Lib.hid (HTWO.out.kept (hal.block pa (by omega)))
        have hp0 := hpr.below hal
        clear hca a0 a1 hx hend HK HTWO hpr hal
        go_wp2_with fail
        generalize wr.alloc (.cells #[.int .i64 (x : Int), .int .i64 (N : Int)] 90) = w4 at hr0 hK0 hT0 hp0 ⊢
        obtain ⟨pr, hpr⟩ : ∃ pr, pr = wr.heap.size := ⟨_, rfl⟩
        have hprpa : pa < pr := by omega
        rw [← hpr] at hr0 hneq ⊢
        obtain ⟨t0, ht0⟩ : ∃ t0, t0 = pos R k := ⟨_, rfl⟩
        rw [← ht0] at hp8 hat hnx HPK0
        have hr0 := Lib.hid hr0
        clear hpr d0 d1 hszr ht0
        go_loopw [8, 29] (fun v i wr => ∃ (j : Nat) (pre : List (Nat × Nat)) (p q : Nat), i = .int .i64 (j : Int) ∧ j ≤ N ∧ Hid (PK s (t0 + j) p q pre) ∧ Prs 79 wr (pa + 1) v pre ∧ v.ownBlock ≠ some pr ∧ Hid (Kp pa (pa + 1) w3 wr) ∧ Hid (Two wr pa p q) ∧ Hid (RunAt wr pr x N)) (fun _ i _ => N - (intOf i).toNat)
        case atStart => exact ⟨0, pre, p, q, rfl, Nat.zero_le _, HPK0, hp0, hneq, hK0, hT0, hr0⟩
        case round =>
          clear HPK0 hp0 hneq hK0 hT0 hr0 p q pre
          obtain ⟨j, pre, p, q, rfl, hj, HPK0, hpr, hne, HK, HTWO, HRUN⟩ := hrel
          have hp8b := HPK0.out.2.1
          have hq8 := HPK0.out.2.2.1
          have hpl8 := HPK0.out.2.2.2
          by_cases hjN : j < N
          · have e2 : (j : Int) < (N : Int) := by omega
            have hsx := hat.out j hjN
            have hx3 := hx3.out (by omega)
            have hszr := HK.out.size
            have hK := HK.out
            have hTWO := HTWO.out
            have hrun := HRUN.out
            obtain ⟨c0, c1⟩ := hTWO.cell
            obtain ⟨r0, r1⟩ := hrun.cell
            clear HK HTWO HRUN
            have HPK := Lib.hid (pk_on HPK0.out hsx hx3)
            by_cases hx0 : x = 0
            · have q0 : ((x : Int) == 0) = true := beq_iff_eq.2 (by omega)
              have q1 : (x == 0) = true := beq_iff_eq.2 hx0
              rw [if_pos hx0] at HPK
              clear HPK0 hsx hx0
              have hown : wr.ownsRow (pa + 1) 79 2 u8 pre.length (pre.flatMap Ud.c2) := hpr
              have hszd : pa + 1 ≤ wr.heap.size := by omega
              have hpl : pre.length ≤ 1000 := by omega
              go_wp2_with (at_builtin; refine Ap.wpList_append_two _ rfl _ _ 76 rfl (pa + 1) 79 iE (.agg #[.int .i64 0, .int .i64 0]) 2 16 Try.underlying76 hI hI0 hI1 hI2 rfl (by decide) (by decide) _ _ _ rfl (hown.alloc _) ⟨wr.heap.size, 0, none⟩ 1 (Ud.c2 (p, q)) rfl rfl ?c1 ?c2 ?c3 ?c4 ?c5 ?_)
              case c1 => exact cell_two_new _ _ _ _
              case c2 => exact c2_one (p, q)
              case c3 => omega
              case c4 => omega
              case c5 => simp; omega
              intro v' w2 hown' hgr
              have hpr2 : Prs 79 w2 (pa + 1) v' (pre ++ [(p, q)]) := by
                unfold Prs
                rw [List.length_append, List.flatMap_append]
                exact hown'
              have hal : Below wr.heap.size wr (wr.alloc (.cells #[.int .i64 (p : Int), .int .i64 (q : Int)] 79)) := (Below.refl _ wr).alloc (Nat.le_refl _) _
              have hsz1 : (wr.alloc (.cells #[.int .i64 (p : Int), .int .i64 (q : Int)] 79)).heap.size = wr.heap.size + 1 := by simp
              have hprl := hrun.lt
              have hold : ∀ i, i < wr.heap.size → u8.ownBlock ≠ some i → w2.heap[i]? = wr.heap[i]? := fun i hi hne => by
                rcases hgr with ⟨_, h2⟩ | ⟨_, h2⟩
                · exact (h2.block i (by omega) (fun e => hne e.symm)).trans (hal.block i hi)
                · exact (h2.block i (by omega) (by simp)).trans (hal.block i hi)
              have hmx : w2.os = wr.os ∧ w2.tape = wr.tape ∧ w2.output = wr.output ∧ wr.heap.size ≤ w2.heap.size := by
                rcases hgr with ⟨_, h2⟩ | ⟨_, h2⟩
                · exact ⟨h2.os, h2.tape, h2.output, by have := h2.size; omega⟩
                · exact ⟨h2.os, h2.tape, h2.output, by have := h2.size; omega⟩
              have hfar : ∀ i, i < pa + 1 → u8.ownBlock ≠ some i := fun i hi e => by have := (hown.lt i e).1; omega
              have hne2 : v'.ownBlock ≠ some pr := by
                rcases hgr with ⟨h1, _⟩ | ⟨h1, _⟩
                · rw [h1]; exact hne
                · rw [h1]; intro e; injection e with e; omega
              have hTWO2 := hTWO.kept (hold pa (by omega) (hfar pa (by omega)))
              have hrun2 := hrun.kept (hold pr hprl hne)
              have hK2 : Kp pa (pa + 1) w3 w2 := ⟨hmx.1.trans hK.os, hmx.2.1.trans hK.tape, hmx.2.2.1.trans hK.output, Nat.le_trans hK.size hmx.2.2.2, fun i hi hne => (hold i (by omega) (hfar i hi)).trans (hK.block i hi hne)⟩
              clear hgr hal hsz1 hold hfar hown hown' hTWO hrun hK hpr hne c0 c1 r0
              have hTWO := hTWO2
              have hrun := hrun2
              have hK := hK2
              have hne := hne2
              clear hTWO2 hrun2 hK2 hne2
              obtain ⟨c0, c1⟩ := hTWO.cell
              obtain ⟨r0, r1⟩ := hrun.cell
              have hcl := hmx
              have CB := Lib.hid (behind_any p q x w2 hx3 (by omega) (by omega))
              clear hcl
              go_wp2_with fail
              go_at_call 50
              refine CB.out.mono ?_
              rintro e w7 ⟨rfl, hb7⟩
              have HT7 := Lib.hid (hTWO.kept (hb7.block pa hTWO.lt))
              have HK7 := Lib.hid (hK.below hb7 (by have := hK.size; omega))
              have hp7 := hpr2.below hb7
              have hr7 := hrun.kept (hb7.block pr hrun.lt)
              obtain ⟨c0, c1⟩ := HT7.out.cell
              have f0 := HT7.out.frozen 0
              have f1 := HT7.out.frozen 1
              have HP8 := Lib.hid ((hp7.far (by omega : pa < pa + 1) 0 (.int .i64 (onA p x : Nat))).far (by omega : pa < pa + 1) 1 (.int .i64 (onB q x : Nat)))
              have HK8 := Lib.hid ((HK7.out.put (o := 0) (.int .i64 (onA p x : Nat))).put (o := 1) (.int .i64 (onB q x : Nat)))
              have HT8 := Lib.hid (HT7.out.put (onA p x) (onB q x))
              have HR8 : Hid (RunAt ((w7.setCell ⟨pa, 0, none⟩ (.int .i64 (onA p x : Nat))).setCell ⟨pa, 1, none⟩ (.int .i64 (onB q x : Nat))) pr x N) := hr7.kept ((Below.heap_setCell _ ⟨pa, 1, none⟩ _ pr (show pr ≠ pa by omega)).trans (Below.heap_setCell _ ⟨pa, 0, none⟩ _ pr (show pr ≠ pa by omega)))
              clear hp7 HT7 HK7 hb7 CB hTWO hK hpr2 hr7 hrun
              go_wp2_with fail
              go_roundw
              case rel => exact ⟨j + 1, pre ++ [(p, q)], onA p x, onB q x, by go_num, by omega, HPK, HP8.out, hne, HK8, HT8, HR8⟩
              case measure => simp only [intOf]; omega
            · have q0 : ((x : Int) == 0) = false := beq_eq_false_iff_ne.2 (by omega)
              have q1 : (x == 0) = false := beq_eq_false_iff_ne.2 hx0
              rw [if_neg hx0] at HPK
              have hpr2 := hpr
              have hcl := hszr
              clear HPK0 hsx hx0 hpr
              have CB := Lib.hid (behind_any p q x wr hx3 (by omega) (by omega))
              clear hcl
              go_wp2_with fail
              go_at_call 50
              refine CB.out.mono ?_
              rintro e w7 ⟨rfl, hb7⟩
              have HT7 := Lib.hid (hTWO.kept (hb7.block pa hTWO.lt))
              have HK7 := Lib.hid (hK.below hb7 (by have := hK.size; omega))
              have hp7 := hpr2.below hb7
              have hr7 := hrun.kept (hb7.block pr hrun.lt)
              obtain ⟨c0, c1⟩ := HT7.out.cell
              have f0 := HT7.out.frozen 0
              have f1 := HT7.out.frozen 1
              have HP8 := Lib.hid ((hp7.far (by omega : pa < pa + 1) 0 (.int .i64 (onA p x : Nat))).far (by omega : pa < pa + 1) 1 (.int .i64 (onB q x : Nat)))
              have HK8 := Lib.hid ((HK7.out.put (o := 0) (.int .i64 (onA p x : Nat))).put (o := 1) (.int .i64 (onB q x : Nat)))
              have HT8 := Lib.hid (HT7.out.put (onA p x) (onB q x))
              have HR8 : Hid (RunAt ((w7.setCell ⟨pa, 0, none⟩ (.int .i64 (onA p x : Nat))).setCell ⟨pa, 1, none⟩ (.int .i64 (onB q x : Nat))) pr x N) := hr7.kept ((Below.heap_setCell _ ⟨pa, 1, none⟩ _ pr (show pr ≠ pa by omega)).trans (Below.heap_setCell _ ⟨pa, 0, none⟩ _ pr (show pr ≠ pa by omega)))
              clear hp7 HT7 HK7 hb7 CB hTWO hK hpr2 hr7 hrun
              go_wp2_with fail
              go_roundw
              case rel => exact ⟨j + 1, pre, onA p x, onB q x, by go_num, by omega, HPK, HP8.out, hne, HK8, HT8, HR8⟩
              case measure => simp only [intOf]; omega
          · obtain rfl : j = N := by omega
            have e2 : ¬ (j : Int) < (j : Int) := by omega
            have HPK2 : Hid (PK s (pos R (k + 1)) p q pre) := by
              show PK _ _ _ _ _
              rw [hnx.out]
              exact HPK0.out
            clear HPK0 HRUN
            go_wp2_with fail
            go_roundw
            case rel => exact ⟨k + 1, pre, p, q, by go_num, by omega, HPK2, hpr, HK, HTWO⟩
            case measure => simp only [intOf]; omega
      · have e1 : ¬ (k : Int) < (L : Int) := by omega
        obtain rfl : k = L := by omega
        have HR : Hid (PrsTo 79 (pairs 0 0 s) 0 w (.returned (.tuple #[u8, .int .i64 0])) wr) := by
          show PrsTo _ _ _ _ _ _
          rw [pk_end HPK0.out (by rw [pos_end R HL.out, HFL.out])]
          exact ⟨_, rfl, own_base hpr (by omega), HB3.out.trans (HK.out.all (by omega) hww1)⟩
        clear hpr HPK0
        go_wp2_with fail
        go_ret2
        exact HR.out
end Go.Proofs.Ytnpobigombafoaa.Ud
