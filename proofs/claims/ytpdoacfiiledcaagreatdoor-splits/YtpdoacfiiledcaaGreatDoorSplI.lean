import Derived.Test.YtpdoacfiiledcaaGreatDoorSplH
namespace Go.Proofs.YtpdoacfiiledcaaGreatDoor.Spl
open Go.RowKit Go.Proofs.YtpdoacfiiledcaaGreatDoor Go.Proofs.YtpdoacfiiledcaaGreatDoor.SiftM
set_option linter.unusedVariables false

def rep (k m : Nat) : List Value := List.replicate k (.string (tx m))
theorem rep_len (k m : Nat) : (rep k m).length = k := by simp [rep]
theorem rep_add (a b m : Nat) : rep a m ++ rep b m = rep (a + b) m := by simp [rep]
theorem rep_get (k m j : Nat) (h : j < k) : (rep k m)[j]? = some (.string (tx m)) := by simp [rep, h]

theorem mk_of_owns {w : World} {base k m : Nat} {v : Value} (h : w.ownsRow base 9 1 v k (rep k m)) : Mk w v k m := by
  rcases h.2 with ⟨rfl, rfl⟩ | ⟨g, cap, cur, rfl, hb, hh, hn, hcap, hsz, ht⟩
  · exact ⟨_, _, rfl, fun h => by omega⟩
  · refine ⟨_, _, rfl, fun _ => ⟨g, rfl, ⟨cur, _, hh⟩, fun j hj => ?_⟩⟩
    rw [h.cellAt j (by omega), rep_get k m j hj]

/-- What an append of marks leaves. -/
structure Marked (w w' : World) (base n m k : Nat) (v v' : Value) : Prop where
  new : w'.ownsRow base 9 1 v' (n + k) (rep (n + k) m)
  old : w'.ownsRow base 9 1 v n (rep n m)
  keep : ∀ u q, q ≤ n + k → Mk w u q m → Mk w' u q m
  grown : w.grownBy w' v.ownBlock

theorem owns_base {w : World} {base base' : Nat} {e : TypeId} {size : Nat} {v : Value} {n : Nat} {xs : List Value} (h : w.ownsRow base e size v n xs) (hb : base' ≤ base) : w.ownsRow base' e size v n xs :=
  ⟨h.1, h.2.imp id fun ⟨g, cap, cur, h1, h2, h3⟩ => ⟨g, cap, cur, h1, by omega, h3⟩⟩
theorem mk_none {w w' : World} {u : Value} {q m : Nat} (hg : w.grownBy w' none) (h : Mk w u q m) : Mk w' u q m :=
  mk_later h ⟨hg.os, hg.tape, hg.output, hg.size, fun k hk => hg.block k hk (by simp)⟩

theorem run_mark (w : World) (ty base n m k : Nat) (v : Value) (hown : w.ownsRow base 9 1 v n (rep n m)) (ad : Addr) (c : Nat) (hc : ∀ j u, (rep k m)[j]? = some u → w.cell? (ad.add j) = some u)
    (hk : 0 < k) (hb : n + k ≤ 2000) (hbase : base ≤ w.heap.size) :
    ∃ v' w', (Builtin.append_ #[67, 67] ty #[v, .slice (some ad) k c]).run Tryz.prog w = .ok v' w' ∧ Marked w w' base n m k v v' := by
  obtain ⟨i0, hi, hz0, hz1, hz2⟩ := info_parts Tryz.info9
  have h1c : ∀ u ∈ rep k m, u.oneCell' = true := fun u hu => by
    have := List.eq_of_mem_replicate hu
    rw [this]; rfl
  have hlen : (rep k m).length = k * 1 := by rw [rep_len]; omega
  have hown0 := hown
  rcases hown.2 with ⟨rfl, rfl⟩ | ⟨g, cap, cur, rfl, hgb, hh, hn, hcap, hsz, ht⟩
  · obtain ⟨v', w', hrun, r1, r2, _⟩ := run_append_own (P := Tryz.prog) w base 67 ty 9 i0 (.string ⟨#[]⟩) 1 16 Tryz.underlying67 hi hz0 hz1 hz2 rfl (by decide) (.slice none 0 0) 0 [] (World.ownsRow_nil w _ 9 1) ad k c (rep k m) hlen hc h1c (by unfold maxLen; omega) (by omega) hbase
    refine ⟨v', w', hrun, ?_, World.ownsRow_nil _ _ _ _, fun u q _ hu => mk_none r2 hu, r2⟩
    simpa using r1
  · by_cases hfit : n + k ≤ cap
    · obtain ⟨w', hrun, r1, r2⟩ := run_append_fits (P := Tryz.prog) w base 67 ty 9 i0 1 Tryz.underlying67 hi hz1 g n cap (rep n m) hown0 ad k c (rep k m) hlen hc h1c hfit
      rw [rep_add] at r1
      refine ⟨_, w', hrun, r1, ?_, fun u q hq hu => ?_, r2⟩
      · rcases r1.2 with ⟨h', _⟩ | ⟨g', cap', cur', h', hb', hh', hn', hc', hs', ht'⟩
        · cases h'
        · cases h'
          refine ⟨by rw [rep_len]; omega, .inr ⟨g, cap, cur', rfl, hb', hh', by omega, hc', hs', ?_⟩⟩
          have := congrArg (List.take n) ht'
          rw [List.take_take, Nat.min_eq_left (by omega)] at this
          rw [Nat.mul_one, this]
          simp [rep]
      · obtain ⟨a, cap2, rfl, hcu⟩ := hu
        refine ⟨a, cap2, rfl, fun hq0 => ?_⟩
        obtain ⟨gu, rfl, ⟨cs, fz, hhu⟩, hcell⟩ := hcu hq0
        by_cases e : gu = g
        · subst e
          rcases r1.2 with ⟨h', _⟩ | ⟨g', cap', cur', h', hb', hh', _⟩
          · cases h'
          · cases h'
            refine ⟨gu, rfl, ⟨cur', _, hh'⟩, fun j hj => ?_⟩
            rw [r1.cellAt j (by omega), rep_get _ _ _ (by omega)]
        · have hlt : gu < w.heap.size := by
            rcases Nat.lt_or_ge gu w.heap.size with h' | h'
            · exact h'
            · rw [Array.getElem?_eq_none h'] at hhu; simp at hhu
          have hblk := r2.block gu hlt (by simp; exact e)
          exact ⟨gu, rfl, ⟨cs, fz, by rw [hblk]; exact hhu⟩, fun j hj => by rw [World.cell?_of_block (w := w) (a := ⟨gu, j, none⟩) hblk]; exact hcell j hj⟩
    · obtain ⟨v', w', hrun, r1, r2⟩ := run_append_arg_grows (P := Tryz.prog) w 67 ty 9 i0 (.string ⟨#[]⟩) 1 16 Tryz.underlying67 hi hz0 hz1 hz2 rfl (by decide) ⟨g, 0, none⟩ n cap (rep n m) (by rw [rep_len]; omega) (fun j u hj => by
          have hjn : j < n := by
            rcases Nat.lt_or_ge j n with h' | h'
            · exact h'
            · rw [List.getElem?_eq_none (by rw [rep_len]; omega)] at hj; simp at hj
          rw [show (⟨g, 0, none⟩ : Addr).add j = ⟨g, j, none⟩ by unfold Addr.add; split <;> simp_all]
          rw [hown0.cellAt j (by omega)]; exact hj) ad k c (rep k m) hlen hc (by omega) (by unfold maxLen; omega) (by omega)
      rw [rep_add] at r1
      exact ⟨v', w', hrun, owns_base r1 hbase, hown0.kept r2 (Classical.em _), fun u q _ hu => mk_none r2 hu, ⟨r2.os, r2.tape, r2.output, r2.size, fun j hj _ => r2.block j hj (by simp)⟩⟩

theorem wpList_mark (w : World) {ops : Array Oper} {rest : List Oper} {o : Oper} {a : Act} {Q : Exit → Act → World → Prop}
    (hg : o.guard = none) (s x : Operand) (hop : o.op = Op.call { callee := Callee.builtin Builtin.append, args := #[s, x], argTypes := #[67, 67] })
    (base n m k : Nat) (v : Value) (hs : a.eval s = v) (hown : w.ownsRow base 9 1 v n (rep n m)) (ad : Addr) (c : Nat) (hx : a.eval x = .slice (some ad) k c) (hc : ∀ j u, (rep k m)[j]? = some u → w.cell? (ad.add j) = some u)
    (hk : 0 < k) (hb : n + k ≤ 2000) (hbase : base ≤ w.heap.size)
    (h : ∀ g cap w', Marked w w' base n m k v (.slice (some ⟨g, 0, none⟩) (n + k) cap) → wpList Tryz.prog ops Q rest (a.put o.dst (.slice (some ⟨g, 0, none⟩) (n + k) cap)) w') :
    wpList Tryz.prog ops Q (o :: rest) a w := by
  refine wpList_plain hg fun K hK' => ?_
  obtain ⟨v', w', hrun, r⟩ := run_mark w o.type base n m k v hown ad c hc hk hb hbase
  unfold Oper.wp
  simp [execOp, hop, resolve, invoke, builtin, hs, hx, hrun, Result.andThen]
  obtain ⟨a', cap', hv', hsome⟩ := owns_forms r.new
  obtain ⟨g, rfl⟩ := hsome (by omega)
  subst hv'
  exact hK' _ _ (h g cap' w' r)
end Go.Proofs.YtpdoacfiiledcaaGreatDoor.Spl
