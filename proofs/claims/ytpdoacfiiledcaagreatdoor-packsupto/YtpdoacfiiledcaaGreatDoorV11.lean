import Derived.Test.YtpdoacfiiledcaaGreatDoorV10
import Derived.OwnWalk
import Derived.Maps.AppendAt
import Derived.Lib.AppendStr
import Derived.Laws.Bits128
namespace Go.Proofs.YtpdoacfiiledcaaGreatDoor.Pak
open Go.RowKit Go.Proofs.YtpdoacfiiledcaaGreatDoor Go.Proofs.YtpdoacfiiledcaaGreatDoor.Spl SiftM
set_option linter.unusedVariables false

/-- Nothing has turned but the blocks of S and rows of bytes from base on. -/
structure Kb (t : TypeId) (S : List Nat) (base : Nat) (w w' : World) : Prop where
  os : w'.os = w.os
  tape : w'.tape = w.tape
  output : w'.output = w.output
  size : w.heap.size ≤ w'.heap.size
  block : ∀ k o, k ∉ S → w.heap[k]? = some o → (k < base ∨ ∀ cs fr, o ≠ .cells cs t fr) → w'.heap[k]? = some o
theorem Kb.refl (t : TypeId) (S : List Nat) (base : Nat) (w : World) : Kb t S base w w := ⟨rfl, rfl, rfl, Nat.le_refl _, fun _ _ _ h _ => h⟩
theorem Kb.trans {t : TypeId} {S S' : List Nat} {base : Nat} {a b c : World} (h : Kb t S base a b) (k : Kb t S' base b c) (hS : ∀ x ∈ S', x ∈ S ∨ a.heap.size ≤ x) : Kb t S base a c :=
  ⟨k.os.trans h.os, k.tape.trans h.tape, k.output.trans h.output, Nat.le_trans h.size k.size, fun i o hi ho hk => k.block i o (fun hx => by
    rcases hS i hx with h' | h'
    · exact hi h'
    · have := heap_lt ho; omega) (h.block i o hi ho hk) hk⟩
theorem Kb.next {t : TypeId} {S : List Nat} {base : Nat} {a b c : World} (h : Kb t S base a b) (k : Kb t S base b c) : Kb t S base a c := h.trans k fun _ hx => .inl hx
theorem Kb.mono {t : TypeId} {S S' : List Nat} {base : Nat} {w w' : World} (h : Kb t S base w w') (hS : ∀ x ∈ S, x ∈ S') : Kb t S' base w w' :=
  ⟨h.os, h.tape, h.output, h.size, fun k o hk ho hkind => h.block k o (fun hx => hk (hS k hx)) ho hkind⟩
theorem Kb.of_kp {t : TypeId} {S S' : List Nat} {base : Nat} {w w' : World} (h : Kp S w w') (hS : ∀ x ∈ S, x ∈ S' ∨ base ≤ x ∧ ∃ cs fr, w.heap[x]? = some (.cells cs t fr)) : Kb t S' base w w' :=
  ⟨h.os, h.tape, h.output, h.size, fun k o hk ho hkind => h.heap ho fun hx => by
    rcases hS k hx with e | ⟨e1, cs, fr, e2⟩
    · exact hk e
    · rcases hkind with h' | h'
      · omega
      · rw [ho] at e2; simp at e2; exact h' cs fr e2⟩
theorem Kb.alloc {t : TypeId} {S : List Nat} {base : Nat} {a w : World} (h : Kb t S base a w) (o : Obj) : Kb t S base a (w.alloc o) := h.next (Kb.of_kp (S := []) ((Kp.refl _ _).alloc _) (by simp))
theorem Kb.setW {t : TypeId} {S : List Nat} {base : Nat} {a w : World} (h : Kb t S base a w) {p : Addr} (hp : p.block ∈ S ∨ a.heap.size ≤ p.block) (u : Value) : Kb t S base a (w.setCell p u) :=
  h.trans (S' := [p.block]) (Kb.of_kp (S := [p.block]) ((Kp.refl _ _).setCell (.inl (by simp)) _) (by simp)) (by simpa using hp)
theorem Kb.grown {t : TypeId} {S : List Nat} {base : Nat} {a w w' : World} {v : Value} {n : Nat} {xs : List Value} (h : Kb t S base a w) (hown : w.ownsRow base t 1 v n xs) (hg : w.grownBy w' v.ownBlock) : Kb t S base a w' := by
  refine h.next (Kb.of_kp (S := v.ownBlock.toList) ((Kp.refl _ _).grown hg (fun k hk => .inl (by simp [hk]))) ?_)
  intro x hx
  rcases hown.2 with ⟨rfl, _⟩ | ⟨g, cap, cur, rfl, hb, hgg, rest⟩
  · simp [Value.ownBlock] at hx
  · simp [Value.ownBlock] at hx
    subst hx
    exact .inr ⟨hb, _, _, hgg⟩
theorem Kb.below {t : TypeId} {S : List Nat} {base B : Nat} {w w' : World} (h : Kb t S base w w') (hB : B ≤ w.heap.size) (hS : ∀ x ∈ S, B ≤ x) (hb : B ≤ base) : Below B w w' :=
  ⟨h.os, h.tape, h.output, h.size, fun k hk => by
    have hlt : k < w.heap.size := by omega
    have := h.block k _ (fun hx => by have := hS k hx; omega) (Array.getElem?_eq_getElem hlt) (.inl (by omega))
    rw [this, Array.getElem?_eq_getElem hlt]⟩
theorem Kb.heap {t : TypeId} {S : List Nat} {base k : Nat} {w w' : World} {cs : Array Value} {t' : TypeId} {fr : Nat × Nat} (h : Kb t S base w w') (hk : k ∉ S) (ho : w.heap[k]? = some (.cells cs t' fr)) (ht : t' ≠ t) : w'.heap[k]? = some (.cells cs t' fr) :=
  h.block k _ hk ho (.inr (fun cs fr e => by simp at e; exact ht e.2.1))
theorem Kb.owns {t : TypeId} {S : List Nat} {base base' : Nat} {w w' : World} {e : TypeId} {size : Nat} {v : Value} {n : Nat} {xs : List Value} (k : Kb t S base w w') (h : w.ownsRow base' e size v n xs) (he : e ≠ t) (hne : ∀ x ∈ S, v.ownBlock ≠ some x) : w'.ownsRow base' e size v n xs := by
  refine ⟨h.1, ?_⟩
  rcases h.2 with hn | ⟨g, cap, cur, rfl, hb, hgg, rest⟩
  · exact .inl hn
  · exact .inr ⟨g, cap, cur, rfl, hb, k.heap (fun hx => hne g hx rfl) hgg he, rest⟩

def byV (l : List UInt8) : List Value := l.map fun (c : UInt8) => Value.int .u8 (c.toNat : Int)
theorem byV_length (l : List UInt8) : (byV l).length = l.length := by simp [byV]
theorem byV_append (a b : List UInt8) : byV (a ++ b) = byV a ++ byV b := by simp [byV]
theorem byV_str (s : ByteArray) : Lib.strCells s = byV s.data.toList := rfl
theorem info5 : (Tryz.prog.info? 5).map (fun i => (i.zero, i.size, i.bytes)) = some (some (.int .u8 0), 1, 1) := by kernel_rfl

/-- The writer in block W: what it has written. -/
def Wr (w : World) (W base : Nat) (l : List UInt8) : Prop := ∃ v, w.heap[W]? = some (.cells #[v] 365 (0, 0)) ∧ w.ownsRow base 5 1 v l.length (byV l)
theorem wr_cell {w : World} {W : Nat} {v : Value} (h : w.heap[W]? = some (.cells #[v] 365 (0, 0))) : w.cell? ⟨W, 0, none⟩ = some v ∧ w.frozen? ⟨W, 0, none⟩ = false := by
  simp [World.cell?, World.frozen?, h]
theorem wr_slice {w : World} {W base : Nat} {l : List UInt8} (h : Wr w W base l) : ∃ a cap, w.heap[W]? = some (.cells #[.slice a l.length cap] 365 (0, 0)) ∧ w.ownsRow base 5 1 (.slice a l.length cap) l.length (byV l) := by
  obtain ⟨v, h1, h2⟩ := h
  obtain ⟨a, cap, rfl, _⟩ := owns_forms h2
  exact ⟨a, cap, h1, h2⟩
theorem wr_put {w w' : World} {W base : Nat} {l : List UInt8} {v v' : Value} (h : w.heap[W]? = some (.cells #[v] 365 (0, 0))) (hown : w.ownsRow base 5 1 v' l.length (byV l)) : Wr (w.setCell ⟨W, 0, none⟩ v') W base l := by
  refine ⟨v', ?_, ?_⟩
  · have e := heap_setCell_same w W 0 _ 365 v' h
    rw [e]; rfl
  · exact ((Kp.refl [W] w).setCell (p := ⟨W, 0, none⟩) (.inl (by simp)) v').owns hown (fun g hg => by
      have := owns_ne hown h (by decide)
      rw [hg] at this; simpa using this)

set_option maxHeartbeats 400000 in
theorem wtext_any (W base : Nat) (l : List UInt8) (s : ByteArray) (w : World) (h : Wr w W base l) (hb : base ≤ w.heap.size) (hl : l.length + s.size ≤ 2000000) :
    Calls Tryz.prog 263 #[.pointer (some ⟨W, 0, none⟩), .string s] w fun e w' => e = .returned (.tuple #[]) ∧ Wr w' W base (l ++ s.data.toList) ∧ Kb 5 [W] base w w' := by
  obtain ⟨i0, hi, hz0, hz1, hz2⟩ := info_parts info5
  obtain ⟨a, cap, h1, hown⟩ := wr_slice h
  obtain ⟨c0, f0⟩ := wr_cell h1
  have H1 := hide h1
  have hne := owns_ne hown h1 (by decide)
  clear h h1
  go_enter Tryz.func263, Tryz.ntmps263
  go_wp2_with (first
    | (at_builtin; refine Lib.wpList_append_own_string _ rfl _ _ 112 9 rfl base 5 i0 Tryz.underlying112 Tryz.underlying9 hi hz0 hz1 hz2 _ _ _ rfl hown s rfl ?c1 ?c2 hb ?_)
    | fail)
  case c1 => unfold maxLen; omega
  case c2 => omega
  intro v' w2 hown2 hgrow _
  have h2 : w2.heap[W]? = some (.cells #[.slice a l.length cap] 365 (0, 0)) := by
    rw [hgrow.block W (heap_lt H1.out) (fun e => hne e.symm)]; exact H1.out
  obtain ⟨c2, f2⟩ := wr_cell h2
  have H2 := hide h2
  obtain ⟨a', cap', rfl, _⟩ := owns_forms hown2
  clear h2
  go_wp2_with fail
  go_end0
  refine ⟨rfl, wr_put (w' := w2) H2.out ?_, ((Kb.refl 5 [W] base w).grown hown hgrow).setW (.inl (by simp)) _⟩
  rw [byV_append, List.length_append]
  exact hown2
end Go.Proofs.YtpdoacfiiledcaaGreatDoor.Pak
