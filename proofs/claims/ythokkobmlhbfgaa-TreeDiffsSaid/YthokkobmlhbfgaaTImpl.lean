/- What package tree answers: contracts, as the laws take them. -/
import Derived.Test.YthokkobmlhbfgaaTI17
namespace Go.Proofs.Ythokkobmlhbfgaa.En
open Go.RowKit Tx Pm Pr
set_option linter.unusedVariables false

theorem tGet_any (a : Option Addr) (n c : Nat) (l : List Et) (p : ByteArray) (w : World) (hl : Ents w a n l) (ht : tcheck l = 0) (hp : p.size ≤ 8000000000000) :
    Calls Try.prog 16 #[.slice a n c, .string p] w fun e w' => e = .returned (nv (tget l p)) ∧ Below w.heap.size w w' :=
  getR_any a n c l p w hl (tree_rises ht) (by have := tree_len ht; have := hl.1; omega)
theorem tSub_any (a : Option Addr) (n c : Nat) (l : List Et) (p : ByteArray) (w : World) (hl : Ents w a n l) (ht : tcheck l = 0) (hp : p.size ≤ 8000000000000) :
    Calls Try.prog 15 #[.slice a n c, .string p] w (SubTo l p w) :=
  subI_any a n c l p w hl (by have := tree_len ht; have := hl.1; omega) (tree_small ht) hp
theorem tPut_any (a : Option Addr) (n c : Nat) (l : List Et) (p : ByteArray) (nd : Nd) (w : World) (hl : Ents w a n l) (ht : tcheck l = 0) (hcap : n ≤ c) (hcm : c ≤ 9223372036854775807) (hnil : a = none → c = 0) (hspot : ∀ x, a = some x → x = ⟨x.block, x.off, none⟩) (hp : p.size ≤ 8000000000000) (hd : nd.data.size ≤ 9223372036854775807) :
    Calls Try.prog 27 #[.slice a n c, .string p, nv nd] w (PairTo (tput l p nd) w) :=
  putI_any a n c l p nd w hl ht hcap hcm hnil hspot hp hd
theorem tReplace_any (a : Option Addr) (n c : Nat) (l : List Et) (p : ByteArray) (a2 : Option Addr) (m c2 : Nat) (sub : List Et) (w : World) (hl : Ents w a n l) (hl2 : Ents w a2 m sub) (hnil2 : a2 = none → c2 = 0) (ht : tcheck l = 0) (hm : m ≤ 900000000) (hs2 : Small sub) (hp : p.size ≤ 8000000000000) :
    Calls Try.prog 29 #[.slice a n c, .string p, .slice a2 m c2] w (PairTo (trepl l p sub) w) :=
  replI_any a n c l p a2 m c2 sub w hl hl2 hnil2 ht hm hs2 hp
theorem tSame_any (a b : Option Addr) (n m ca cb : Nat) (la lb : List Et) (w : World) (ha : Ents w a n la) (hb : Ents w b m lb) (h1 : tcheck la = 0) (h2 : tcheck lb = 0) :
    Calls Try.prog 22 #[.slice a n ca, .slice b m cb] w (SameTo la lb w) :=
  sameI_any a b n m ca cb la lb w ha hb (by have := tree_len h1; have := ha.1; omega) (by have := tree_len h2; have := hb.1; omega)
theorem tSize_any (a : Option Addr) (n c : Nat) (l : List Et) (w : World) (hl : Ents w a n l) (ht : tcheck l = 0) :
    Calls Try.prog 20 #[.slice a n c] w fun e w' => e = .returned (.int .i64 (tsize l : Nat)) ∧ Below w.heap.size w w' :=
  tSizeAll_any a n c l w hl (by have := tree_len ht; have := hl.1; omega) (by have := tree_tsize ht; omega)
theorem tDiff_any (a : Option Addr) (n c : Nat) (la : List Et) (b : Option Addr) (m c2 : Nat) (lb : List Et) (w : World) (ha : Ents w a n la) (hb : Ents w b m lb) (h1 : tcheck la = 0) (h2 : tcheck lb = 0) :
    Calls Try.prog 24 #[.slice a n c, .slice b m c2] w (DiffTo (tdiff la lb) w) :=
  diffI_any a n c la b m c2 lb w ha hb h1 h2
theorem spot_at (g off : Nat) : ∀ x : Addr, (some ⟨g, off, none⟩ : Option Addr) = some x → x = ⟨x.block, x.off, none⟩ := by
  intro x h
  injection h with h
  subst h
  rfl
theorem spot_none : ∀ x : Addr, (none : Option Addr) = some x → x = ⟨x.block, x.off, none⟩ := by
  intro x h
  cases h
theorem spot_own {w : World} {B n c : Nat} {a : Option Addr} {l : List Et} (h : Own w B (.slice a n c) l) : (∀ x : Addr, a = some x → x = ⟨x.block, x.off, none⟩) ∧ (a = none → c = 0) ∧ l.length ≤ c ∧ c ≤ 9223372036854775807 := by
  rcases h.2 with ⟨hv, h0⟩ | ⟨g, cap, cur, hv, _, _, hc, hm, _⟩
  · injection hv with h1 h2 h3
    subst h1 h3
    exact ⟨spot_none, fun _ => rfl, by omega, by omega⟩
  · injection hv with h1 h2 h3
    subst h1 h3
    unfold maxLen at hm
    exact ⟨spot_at _ _, (fun h => by cases h), hc, by omega⟩
end Go.Proofs.Ythokkobmlhbfgaa.En
