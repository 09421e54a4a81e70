/- Replace: contract. -/
import Derived.Test.YthokkobmlhbfgaaTI14
namespace Go.Proofs.Ythokkobmlhbfgaa.En
open Go.RowKit Tx Pm Pr
set_option linter.unusedVariables false

set_option maxRecDepth 100000 in
set_option maxHeartbeats 8000000 in
theorem replI_any (a : Option Addr) (n c : Nat) (l : List Et) (p : ByteArray) (a2 : Option Addr) (m c2 : Nat) (sub : List Et) (w : World) (hl : Ents w a n l) (hl2 : Ents w a2 m sub) (hnil2 : a2 = none → c2 = 0) (ht : tcheck l = 0) (hm : m ≤ 900000000) (hs2 : Small sub) (hp : p.size ≤ 8000000000000) :
    Calls Try.prog 29 #[.slice a n c, .string p, .slice a2 m c2] w (PairTo (trepl l p sub) w) := by
  have hln := hl.1
  have hlen := tree_len ht
  have hm2 := hl2.1
  have hB : ∀ o, Below w.heap.size w (w.alloc o) := fun o => (Below.refl _ _).alloc (Nat.le_refl _) _
  have hb0 := hB (.cells #[.string p] 9)
  have eg : ∀ args w, (callFunc 47 args).run Try.prog w = .ok (.enter 47 args) w := enters_of Try.func47 (by kernel_rfl) rfl
  have cc := fun W => pCheck_any p 5 W (by omega) (by omega) (by omega)
  have hpart : ∀ (b : Option Addr) (k cb : Nat) (L : List Et) (W : World), Ents w b k L → k ≤ 1000000000 → Small L → Below (w.alloc (.cells #[.string p] 9)).heap.size (w.alloc (.cells #[.string p] 9)) W →
      Calls Try.prog 34 #[.slice b k cb, .func (.func 47) #[] #[.pointer (some ⟨w.heap.size, 0, none⟩)]] W (PartTo (tnot L p) W) := by
    intro b k cb L W hE hk hS hW
    have hsz : w.heap.size < W.heap.size := by have := hW.size; simp at this; omega
    have hbx := box_of hW
    exact part_any 47 #[.pointer (some ⟨w.heap.size, 0, none⟩)] eg (fun x => !und x.path.data.toList p.data.toList) b k cb L W (hE.below (below_call hb0 hW)) (by omega)
      (fun W2 x hW2 hx => replC_any w.heap.size x.path p W2 ((hW2.cell (p := ⟨w.heap.size, 0, none⟩) hsz).trans hbx) (hS x hx).1 hp)
  have cps := fun W hW => hpart a2 m c2 sub W hl2 (by omega) hs2 hW
  have cpl := fun W hW => hpart a n c l W hl (by omega) (tree_small ht) hW
  have HS2 : Hid (Ents w a2 m sub ∧ (a2 = none → c2 = 0)) := ⟨hl2, hnil2⟩
  have hnu := Lib.hid (not_under sub p)
  have htm : (tnot sub p).length ≤ m := by have := tnot_len sub p; omega
  have htn : (tnot l p).length ≤ 200 := by have := tnot_len l p; omega
  have hsm : ∀ out : List Et, out.Perm (tnot l p ++ sub) → Small out := by
    intro out hperm x hx
    rcases List.mem_append.1 (hperm.mem_iff.1 hx) with h | h
    · exact tree_small ht x (List.mem_filter.1 h).1
    · exact hs2 x h
  have HSM := Lib.hid hsm
  have htwo := chk_two p.data.toList 5
  have HRC := Lib.hid (fun (out : List Et) (h1 : out.Perm (tnot l p ++ sub)) (h2 : Sorted out) => repl_code (l := l) (sub := sub) (p := p) h1 h2)
  have HBAD := Lib.hid (fun (e : Nat) (h : replCode l p sub = e) (he : e ≠ 0) => trepl_bad h he)
  have HGOOD := Lib.hid (fun (h : replCode l p sub = 0) => trepl_good h)
  have h10 : chk p.data.toList 5 = 10 → replCode l p sub = 10 := fun h => by unfold replCode; rw [h]; rfl
  have h1 : chk p.data.toList 5 = 0 → allUnder sub p = false → replCode l p sub = 1 := fun h h2 => by
    unfold replCode
    have c1 : ¬ (chk p.data.toList 5 ≠ 0) := fun h' => h' h
    rw [if_neg c1, if_pos h2]
  have H10 := Lib.hid h10
  have H1 := Lib.hid h1
  obtain ⟨C, hC⟩ : ∃ C, C = chk p.data.toList 5 := ⟨_, rfl⟩
  rw [← hC] at cc htwo
  have HC := Lib.hid hC
  clear hpart hl hl2 hnil2 hs2 hsm h10 h1 hC ht hln hm2
  rcases htwo with rfl | rfl
  case inr =>
    have hbad := HBAD.out 10 (H10.out HC.out.symm) (by decide)
    rw [hbad]
    clear cps cpl hbad
    go_enter Try.func29, Try.ntmps29
    go_wp2_with fail
    go_at_call 46
    refine (cc _).mono ?_
    rintro e w1 ⟨rfl, hb1⟩
    go_wp2_with fail
    go_ret2
    exact ⟨_, rfl, World.ownsRow_nil _ _ _ _, below_call hb0 hb1⟩
  go_enter Try.func29, Try.ntmps29
  go_wp2_with fail
  go_at_call 46
  refine (cc _).mono ?_
  rintro e w1 ⟨rfl, hb1⟩
  clear cc
  go_wp2_with fail
  go_at_call 34
  refine (cps _ hb1).mono ?_
  rintro e w2 ⟨v2, rfl, ho2, hq⟩
  have hb2 := below_call hb1 hq
  obtain ⟨a4, c4, rfl, _, _, hc4⟩ := Own.form ho2
  obtain ⟨N, hN⟩ : ∃ N, N = (tnot sub p).length := ⟨_, rfl⟩
  rw [← hN] at hnu htm ⊢
  clear cps ho2 hq hb1 hN hc4
  by_cases hpos : N = 0
  case neg =>
    have hau : allUnder sub p = false := Bool.eq_false_iff.2 (fun h => hpos (hnu.out.2 h))
    have hbad := HBAD.out 1 (H1.out HC.out.symm hau) (by decide)
    have HBD := Lib.hid hbad
    have hgt : (N : Int) > 0 := by omega
    clear cpl hbad hau hpos
    go_wp2_with fail
    go_ret2
    exact pair_nil HBD.out rfl (below_call hb0 hb2)
  have hau := Lib.hid (hnu.out.1 hpos)
  subst hpos
  go_wp2_with fail
  go_at_call 34
  refine (cpl _ hb2).mono ?_
  rintro e w3 ⟨v3, rfl, ho3, hq⟩
  have hb3 := below_call hb2 hq
  have hB3 := below_call hb0 hb3
  clear hq hb2 cpl
  have s1 := own_src ho3
  have s2 : Src w3 (.slice a2 m c2) sub := ⟨a2, m, c2, rfl, HS2.out.1.below hB3, HS2.out.2⟩
  have hm2 := HS2.out.1.1
  have c45 := concat2 w3 _ _ _ _ s1 s2 (by omega)
  have hown3 := Lib.hid ho3
  clear s1 s2 hm2
  obtain ⟨a3, c3, hv3, _⟩ := Own.form ho3
  obtain ⟨M, hM⟩ : ∃ M, M = (tnot l p).length := ⟨_, rfl⟩
  rw [← hM] at hv3
  subst hv3
  clear ho3 hM
  go_wp2_with fail
  go_at_call 45
  refine c45.mono ?_
  rintro e w4 ⟨v4, rfl, ho4, hb4⟩
  have hB4 := below_call hB3 hb4
  have hs3 := hB3.size
  have hs4 := hb4.size
  obtain ⟨O, hO⟩ : ∃ O, O = tnot l p ++ sub := ⟨_, rfl⟩
  have hol : O.length ≤ 900000200 := by rw [hO, List.length_append]; have := HS2.out.1.1; omega
  have csort := sortE_any v4 O w4 w3.heap.size (by rw [hO]; exact ho4) (by omega) (by omega)
  have HO := Lib.hid hO
  obtain ⟨a5, c5, hv4, _⟩ := Own.form ho4
  rw [← hO] at hv4
  obtain ⟨Q, hQ⟩ : ∃ Q, Q = O.length := ⟨_, rfl⟩
  rw [← hQ] at hv4
  subst hv4
  have HQ := Lib.hid hQ
  clear ho4 c45 hown3 hO hQ
  go_wp2_with fail
  go_at_call 48
  refine csort.mono ?_
  rintro e w5 ⟨rfl, L, hperm, hsort, ho5, hb5⟩
  have hql : Q = L.length := by rw [HQ.out, hperm.length_eq]
  obtain ⟨a6, c6, hv6, he6, hcap6, hcm6⟩ := Own.form ho5
  injection hv6 with hv7 hv9 hv8
  subst hv7 hv8
  clear hv9
  rw [← hql] at he6 hcap6
  unfold maxLen at hcm6
  have hperm2 : L.Perm (tnot l p ++ sub) := by rw [← HO.out]; exact hperm
  have hQ2 : Q ≤ 900000200 := by rw [HQ.out]; exact hol
  have cch := fun W (h : Below w5.heap.size w5 W) => tCheck_any a5 Q c5 L W (he6.below h) hcap6 (by omega) (by omega) (HSM.out L hperm2)
  obtain ⟨hr1, hr2⟩ := HRC.out L hperm2 hsort HC.out.symm hau.out
  have hB5 : Below w.heap.size w w5 := hB4.trans (hb5.mono (by omega))
  obtain ⟨E, hE⟩ : ∃ E, E = tcheck L := ⟨_, rfl⟩
  rw [← hE] at cch hr1 hr2
  have HR1 := Lib.hid hr1
  have HR2 := Lib.hid hr2
  have HOWN := Lib.hid ho5
  clear ho5 he6 hr1 hr2 hperm hperm2 hsort hE hql csort hcap6 hcm6 hol hQ2
  go_wp2_with fail
  go_at_call 10
  refine (cch _ (Below.refl _ _)).mono ?_
  rintro e w6 ⟨rfl, hb6⟩
  have hB6 := below_call hB5 hb6
  by_cases hE0 : E = 0
  · subst hE0
    have hg := Lib.hid (HGOOD.out HR1.out)
    have ho6 := HOWN.out.below hb6
    have HO6 := Lib.hid ho6
    clear cch ho6
    go_wp2_with fail
    go_ret2
    refine ⟨_, by rw [hg.out]; rfl, ?_, hB6⟩
    rw [hg.out]
    show Own w6 w.heap.size _ (tsort (tnot l p ++ sub))
    rw [HR2.out trivial]
    exact row_base HO6.out hs3
  · have hbad := Lib.hid (HBAD.out E HR1.out hE0)
    have eE : ((E : Int) == 0) = false := beq_eq_false_iff_ne.2 (by omega)
    clear cch
    go_wp2_with fail
    go_ret2
    exact pair_nil hbad.out rfl hB6
end Go.Proofs.Ythokkobmlhbfgaa.En
