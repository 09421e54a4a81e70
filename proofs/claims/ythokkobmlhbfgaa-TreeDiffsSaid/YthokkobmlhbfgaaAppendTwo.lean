/- An append that tells where it lies and what it leaves (of no program). -/
import Derived.Test.YthokkobmlhbfgaaTexts
import Derived.Maps.AppendAt
namespace Go.Proofs.Ythokkobmlhbfgaa.Ap
open Go.RowKit Tx
set_option linter.unusedVariables false

section
variable {P : Program}
/-- Behind an append of one element to one's own row: it lies where it lay, and no other block has turned; or it lies in a new block, and no old block has turned. -/
theorem append_two (w : World) (base : Nat) (t ty e : TypeId) (i : TypeInfo) (z : Value) (size bytes : Nat) (ht : P.underlying t = some (.slice e)) (hi : P.info? e = some i) (hz : i.zero = some z)
    (hsize : i.size = size) (hby : i.bytes = bytes) (hzs : z.cells.size = size) (hsp : 0 < size) (hs16 : size ≤ 16)
    (v : Value) (n : Nat) (xs : List Value) (hown : w.ownsRow base e size v n xs)
    (a : Addr) (c : Nat) (us : List Value) (hul : us.length = size) (hnews : ∀ j x, us[j]? = some x → w.cell? (a.add j) = some x) (hone : ∀ x ∈ us, x.oneCell' = true)
    (hn : n + 1 ≤ 57646075230342348) (hbytes : (n + 1) * bytes ≤ 140737488355328) (hbase : base ≤ w.heap.size) :
    ∃ v' w', (Builtin.append_ #[t, t] ty #[v, .slice (some a) 1 c]).run P w = .ok v' w' ∧ w'.ownsRow base e size v' (n + 1) (xs ++ us) ∧
      ((v'.ownBlock = v.ownBlock ∧ w.grownBy w' v.ownBlock) ∨ (v'.ownBlock = some w.heap.size ∧ w.grownBy w' none)) := by
  have hlen : (xs ++ us).length = (n + 1) * size := by rw [List.length_append, hown.1, hul, Nat.add_mul, Nat.one_mul]
  have made : ∀ old, old < n + 1 → (w.drew.alloc (.cells (xs.toArray ++ us.toArray ++ Builtin.zeroCells z.cells (grownCap w (n + 1) old e - (n + 1))) e)).ownsRow base e size (.slice (some ⟨w.heap.size, 0, none⟩) (n + 1) (grownCap w (n + 1) old e)) (n + 1) (xs ++ us) ∧
      w.grownBy (w.drew.alloc (.cells (xs.toArray ++ us.toArray ++ Builtin.zeroCells z.cells (grownCap w (n + 1) old e - (n + 1))) e)) none := by
    intro old _
    have hge := grownCap_ge w (n + 1) old e
    have hcm := grownCap_le_maxLen w (n + 1) old e (by unfold maxLen; omega)
    refine ⟨⟨hlen, .inr ⟨w.heap.size, _, _, rfl, hbase, heap_alloc_new w.drew _, hge, hcm, ?_, ?_⟩⟩, ⟨rfl, rfl, rfl, by simp, fun k hk _ => Below.heap_alloc w.drew _ k hk⟩⟩
    · have h0 := hown.1
      simp only [Array.size_append, List.size_toArray, size_zeroCells, hzs, hul]
      obtain ⟨d, hd⟩ : ∃ d, grownCap w (n + 1) old e = n + 1 + d := ⟨grownCap w (n + 1) old e - (n + 1), by omega⟩
      rw [hd, h0, show n + 1 + d - (n + 1) = d by omega, Nat.add_mul, Nat.add_mul, Nat.one_mul]
    · simp only [Array.toList_append, List.append_assoc]
      rw [← List.append_assoc]
      exact List.take_left' hlen
  rcases hown.2 with ⟨rfl, rfl⟩ | ⟨g, cap, cur, rfl, hbg, hg, hnc, hcm, hcs, htake⟩
  · have hx : xs = [] := List.eq_nil_of_length_eq_zero (by simpa using hown.1)
    subst hx
    have hr := run_append_nil (P := P) w t ty e i z ht hi hz a 1 c us (by rw [hsize, hul, Nat.one_mul]) hnews (by omega) (by omega) (by rw [hby]; have h2 := hbytes; simp only [Nat.zero_add] at h2; omega)
    have hm := made 0 (by omega)
    simp only [Nat.zero_add, List.nil_append, Array.empty_append] at hm ⊢
    exact ⟨_, _, hr, hm.1, .inr ⟨rfl, hm.2⟩⟩
  · by_cases hroom : n + 1 ≤ cap
    · have hle : (n + 1) * size ≤ cap * size := Nat.mul_le_mul_right _ hroom
      have hfit : n * i.size + us.length ≤ cur.size := by rw [hsize, hcs, hul]; rw [Nat.add_mul, Nat.one_mul] at hle; exact hle
      have hr := run_append_room (P := P) w t ty e i ht hi g n cap cur hg a 1 c us (by rw [hsize, hul, Nat.one_mul]) hnews hone hroom hfit
      refine ⟨_, _, hr, ⟨hlen, .inr ⟨g, cap, _, rfl, hbg, setRow_heap w g cur _ e _ hg, hroom, hcm, ?_, ?_⟩⟩, .inl ⟨rfl, ⟨rfl, rfl, rfl, by simp, fun k _ hk => setRow_other w g k _ (fun e => hk (by simp [Value.ownBlock, e]))⟩⟩⟩
      · simp only [List.size_toArray, List.length_append, List.length_take, List.length_drop, Array.length_toList]
        omega
      · rw [hsize, htake]
        exact List.take_left' hlen
    · have hr := run_append_grow (P := P) w t ty e i z ht hi hz ⟨g, 0, none⟩ n cap xs (by rw [hsize]; exact hown.1) (hown.cells (g := g) rfl) a 1 c us (by rw [hsize, hul, Nat.one_mul]) hnews (by omega) (by omega) (growslice_fits (by omega) (by rw [hby]; exact hbytes))
      have hm := made cap (by omega)
      exact ⟨_, _, hr, hm.1, .inr ⟨rfl, hm.2⟩⟩
end

/-- At the operation, for the walk. -/
theorem wpList_append_two {P : Program} (w : World) {ops : Array Oper} {rest : List Oper} {o : Oper} {a : Act} {Q : Exit → Act → World → Prop} (hgd : o.guard = none) (s x : Operand) (t : TypeId)
    (ho : o.op = .call { callee := .builtin .append, args := #[s, x], argTypes := #[t, t] })
    (base : Nat) (e : TypeId) (i : TypeInfo) (z : Value) (size bytes : Nat) (ht : P.underlying t = some (.slice e)) (hi : P.info? e = some i) (hz : i.zero = some z)
    (hsize : i.size = size) (hby : i.bytes = bytes) (hzs : z.cells.size = size) (hsp : 0 < size) (hs16 : size ≤ 16)
    (v : Value) (n : Nat) (xs : List Value) (hs : a.eval s = v) (hown : w.ownsRow base e size v n xs)
    (ad : Addr) (c : Nat) (us : List Value) (hx : a.eval x = .slice (some ad) 1 c) (hul : us.length = size) (hnews : ∀ j x, us[j]? = some x → w.cell? (ad.add j) = some x) (hone : ∀ x ∈ us, x.oneCell' = true)
    (hn : n + 1 ≤ 57646075230342348) (hbytes : (n + 1) * bytes ≤ 140737488355328) (hbase : base ≤ w.heap.size)
    (h : ∀ v' w', w'.ownsRow base e size v' (n + 1) (xs ++ us) → ((v'.ownBlock = v.ownBlock ∧ w.grownBy w' v.ownBlock) ∨ (v'.ownBlock = some w.heap.size ∧ w.grownBy w' none)) → wpList P ops Q rest (a.put o.dst v') w') :
    wpList P ops Q (o :: rest) a w := by
  refine wpList_plain hgd fun K hK => ?_
  obtain ⟨v', w', hr, h2, h3⟩ := append_two (P := P) w base t o.type e i z size bytes ht hi hz hsize hby hzs hsp hs16 v n xs hown ad c us hul hnews hone hn hbytes hbase
  unfold Oper.wp execOp
  simp only [ho, resolve, invoke, builtin, Sem.run_bind, Sem.run_pure, Result.andThen_ok, List.map_toArray, List.map_cons, List.map_nil, hs, hx, hr]
  exact hK _ _ (h v' w' h2 h3)
end Go.Proofs.Ythokkobmlhbfgaa.Ap
