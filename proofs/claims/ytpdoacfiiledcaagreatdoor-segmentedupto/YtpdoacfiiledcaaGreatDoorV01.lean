import Derived.Test.YtpdoacfiiledcaaGreatDoorV00
import Derived.Laws.BitsAllLaws
import Derived.OwnWalk
import Derived.Maps.AppendAt
import Derived.Lib.AppendStr
import Derived.Laws.Bits128
namespace Go.Proofs.YtpdoacfiiledcaaGreatDoor.Pak
open Go.RowKit Go.Proofs.YtpdoacfiiledcaaGreatDoor Go.Proofs.YtpdoacfiiledcaaGreatDoor.Spl SiftM
set_option linter.unusedVariables false

/-- Of what was there in w nothing has turned but the blocks of S. -/
structure Kp (S : List Nat) (w w' : World) : Prop where
  os : w'.os = w.os
  tape : w'.tape = w.tape
  output : w'.output = w.output
  size : w.heap.size ≤ w'.heap.size
  block : ∀ k, k < w.heap.size → k ∉ S → w'.heap[k]? = w.heap[k]?

theorem Kp.refl (S : List Nat) (w : World) : Kp S w w := ⟨rfl, rfl, rfl, Nat.le_refl _, fun _ _ _ => rfl⟩
theorem Kp.trans {S S' : List Nat} {a b c : World} (h : Kp S a b) (k : Kp S' b c) (hS : ∀ x ∈ S', x ∈ S ∨ a.heap.size ≤ x) : Kp S a c :=
  ⟨k.os.trans h.os, k.tape.trans h.tape, k.output.trans h.output, Nat.le_trans h.size k.size, fun i hi hn =>
    (k.block i (Nat.lt_of_lt_of_le hi h.size) (fun hx => by rcases hS i hx with h' | h'; exact hn h'; omega)).trans (h.block i hi hn)⟩
theorem Kp.next {S : List Nat} {a b c : World} (h : Kp S a b) (k : Kp S b c) : Kp S a c := h.trans k fun _ hx => .inl hx
theorem Kp.mono {S S' : List Nat} {w w' : World} (h : Kp S w w') (hS : ∀ x ∈ S, x ∈ S') : Kp S' w w' :=
  ⟨h.os, h.tape, h.output, h.size, fun k hk hn => h.block k hk fun hx => hn (hS k hx)⟩
theorem Kp.of_below {w w' : World} (S : List Nat) (h : Below w.heap.size w w') : Kp S w w' := ⟨h.os, h.tape, h.output, h.size, fun k hk _ => h.block k hk⟩
theorem Kp.below {S : List Nat} {w w' : World} {B : Nat} (h : Kp S w w') (hB : B ≤ w.heap.size) (hS : ∀ x ∈ S, B ≤ x) : Below B w w' :=
  ⟨h.os, h.tape, h.output, h.size, fun k hk => h.block k (by omega) fun hx => by have := hS k hx; omega⟩
theorem Kp.alloc {S : List Nat} {a w : World} (h : Kp S a w) (o : Obj) : Kp S a (w.alloc o) :=
  h.next ⟨rfl, rfl, rfl, by simp, fun k hk _ => Below.heap_alloc _ _ _ hk⟩
theorem Kp.drewN {S : List Nat} {a w : World} (h : Kp S a w) (n : Nat) : Kp S a (w.drewN n) := ⟨h.os, h.tape, h.output, h.size, h.block⟩
theorem Kp.setCell {S : List Nat} {a w : World} (h : Kp S a w) {p : Addr} (hp : p.block ∈ S ∨ a.heap.size ≤ p.block) (u : Value) : Kp S a (w.setCell p u) :=
  h.trans (S' := [p.block]) ⟨rfl, rfl, rfl, by simp [World.setCell], fun k hk hn => Below.heap_setCell _ _ _ _ (by simpa using hn)⟩ (by simpa using hp)
theorem Kp.grown {S : List Nat} {a w w' : World} {row : Option Nat} (h : Kp S a w) (hg : w.grownBy w' row) (hr : ∀ k, row = some k → k ∈ S ∨ a.heap.size ≤ k) : Kp S a w' :=
  h.trans (S' := row.toList) ⟨hg.os, hg.tape, hg.output, hg.size, fun k hk hn => hg.block k hk (by intro e; apply hn; rw [← e]; simp)⟩ (by
    intro x hx
    cases row with
    | none => simp at hx
    | some y => simp at hx; subst hx; exact hr _ rfl)
theorem Kp.cell {S : List Nat} {w w' : World} (h : Kp S w w') {p : Addr} (hl : p.block < w.heap.size) (hp : p.block ∉ S) : w'.cell? p = w.cell? p := World.cell?_of_block (w := w) (h.block p.block hl hp)
theorem Kp.cellv {S : List Nat} {w w' : World} (h : Kp S w w') {p : Addr} {v : Value} (hv : w.cell? p = some v) (hp : p.block ∉ S) : w'.cell? p = some v := (h.cell (World.block_lt_of_cell? w p hv) hp).trans hv
theorem Kp.heap {S : List Nat} {w w' : World} (h : Kp S w w') {k : Nat} {o : Obj} (ho : w.heap[k]? = some o) (hp : k ∉ S) : w'.heap[k]? = some o :=
  (h.block k (Array.getElem?_eq_some_iff.1 ho).1 hp).trans ho
theorem Kp.owns {S : List Nat} {w w' : World} {base : Nat} {e : TypeId} {size : Nat} {v : Value} {n : Nat} {xs : List Value} (k : Kp S w w') (h : w.ownsRow base e size v n xs) (hne : ∀ g, v.ownBlock = some g → g ∉ S) : w'.ownsRow base e size v n xs := by
  refine ⟨h.1, ?_⟩
  rcases h.2 with hn | ⟨g, cap, cur, rfl, hb, hgg, rest⟩
  · exact .inl hn
  · exact .inr ⟨g, cap, cur, rfl, hb, k.heap hgg (hne g rfl), rest⟩
theorem heap_lt {w : World} {k : Nat} {o : Obj} (ho : w.heap[k]? = some o) : k < w.heap.size := (Array.getElem?_eq_some_iff.1 ho).1
/-- Blocks of different kinds are different blocks. -/
theorem owns_ne {w : World} {base R n size : Nat} {e t : TypeId} {v : Value} {xs : List Value} {fr : Nat × Nat} (h : w.ownsRow base e size v n xs) {cs : Array Value} (hR : w.heap[R]? = some (.cells cs t fr)) (ht : t ≠ e) : v.ownBlock ≠ some R := by
  intro ee
  rcases h.2 with ⟨rfl, _⟩ | ⟨g, cap, cur, rfl, _, hh, _⟩
  · simp [Value.ownBlock] at ee
  · simp [Value.ownBlock] at ee
    subst ee
    rw [hR] at hh
    simp at hh
    exact ht hh.2.1

/-- A view of bytes. -/
def Vw (w : World) (B : Nat) (a : Option Addr) (l : List UInt8) : Prop := (l = [] ∧ a = none) ∨ ∃ g off, a = some ⟨g, off, none⟩ ∧ g < B ∧ ∀ j (h : j < l.length), w.cell? ⟨g, off + j, none⟩ = some (.int .u8 (l[j].toNat : Int))
/-- The reader in block R: none: it has failed. -/
def Rd (w : World) (R B : Nat) : Option (List UInt8) → Prop
  | none => B ≤ R ∧ w.heap[R]? = some (.cells #[.slice none 0 0, .bool true] 461 (0, 0))
  | some l => B ≤ R ∧ ∃ a cap, w.heap[R]? = some (.cells #[.slice a l.length cap, .bool false] 461 (0, 0)) ∧ Vw w B a l ∧ l.length ≤ cap ∧ cap ≤ 9223372036854775807

theorem rd_cells {w : World} {R : Nat} {x y : Value} {t : TypeId} (h : w.heap[R]? = some (.cells #[x, y] t (0, 0))) :
    w.cell? ⟨R, 0, none⟩ = some x ∧ w.cell? ⟨R, 1, none⟩ = some y ∧ w.frozen? ⟨R, 0, none⟩ = false ∧ w.frozen? ⟨R, 1, none⟩ = false := by
  simp [World.cell?, World.frozen?, h]

end Go.Proofs.YtpdoacfiiledcaaGreatDoor.Pak

namespace Go.Proofs.YtpdoacfiiledcaaGreatDoor.Pak
open Go.RowKit Go.Proofs.YtpdoacfiiledcaaGreatDoor Go.Proofs.YtpdoacfiiledcaaGreatDoor.Spl SiftM
set_option linter.unusedVariables false

theorem Rd.block {w : World} {R B : Nat} {st : Option (List UInt8)} (h : Rd w R B st) : ∃ x y, w.heap[R]? = some (.cells #[x, y] 461 (0, 0)) := by
  cases st with
  | none => exact ⟨_, _, h.2⟩
  | some l => obtain ⟨_, a, cap, h, _⟩ := h; exact ⟨_, _, h⟩
theorem Rd.le {w : World} {R B : Nat} {st : Option (List UInt8)} (h : Rd w R B st) : B ≤ R := by
  cases st with
  | none => exact h.1
  | some l => exact h.1

theorem vw_kp {S : List Nat} {w w' : World} {B : Nat} {a : Option Addr} {l : List UInt8} (h : Vw w B a l) (k : Kp S w w') (hS : ∀ x ∈ S, B ≤ x) : Vw w' B a l := by
  rcases h with h | ⟨g, off, rfl, hg, hc⟩
  · exact .inl h
  exact .inr ⟨g, off, rfl, hg, fun j hj => k.cellv (hc j hj) (fun hx => by have := hS _ hx; simp at this; omega)⟩
theorem Rd.kp {S : List Nat} {w w' : World} {R B : Nat} {st : Option (List UInt8)} (h : Rd w R B st) (k : Kp S w w') (hR : R ∉ S) (hS : ∀ x ∈ S, B ≤ x) : Rd w' R B st := by
  cases st with
  | none => exact ⟨h.1, k.heap h.2 hR⟩
  | some l =>
    obtain ⟨h1, a, cap, e, hv, hc⟩ := h
    exact ⟨h1, a, cap, k.heap e hR, vw_kp hv k hS, hc⟩
theorem ofInt_i64 (a : Nat) (h : a < 9223372036854775808) : (BitVec.ofInt 64 (a : Int)).toNat = a := by
  rw [BitVec.toNat_ofInt]; omega
end Go.Proofs.YtpdoacfiiledcaaGreatDoor.Pak

namespace Go.Proofs.YtpdoacfiiledcaaGreatDoor.Pak
open Go.RowKit Go.Proofs.YtpdoacfiiledcaaGreatDoor Go.Proofs.YtpdoacfiiledcaaGreatDoor.Spl SiftM
set_option linter.unusedVariables false

/-- How far a rising list has come. -/
def Ri (w : World) (Q : Nat) (least : Nat) : Prop := w.heap[Q]? = some (.cells #[.int .i64 least] 452 (0, 0))
theorem ri_cell {w : World} {Q least : Nat} (h : Ri w Q least) : w.cell? ⟨Q, 0, none⟩ = some (.int .i64 least) ∧ w.frozen? ⟨Q, 0, none⟩ = false := by
  unfold Ri at h; simp [World.cell?, World.frozen?, h]
theorem ri_set {w : World} {Q least n : Nat} (h : Ri w Q least) : Ri (w.setCell ⟨Q, 0, none⟩ (.int .i64 n)) Q n := by
  have e := heap_setCell_same w Q 0 _ 452 (.int .i64 n) h
  show _ = _; rw [e]; rfl

end Go.Proofs.YtpdoacfiiledcaaGreatDoor.Pak

namespace Go.Proofs.YtpdoacfiiledcaaGreatDoor.Pak
open Go.RowKit Go.Proofs.YtpdoacfiiledcaaGreatDoor Go.Proofs.YtpdoacfiiledcaaGreatDoor.Spl SiftM
set_option linter.unusedVariables false

/-- Nothing has turned but the blocks of S and rows of bytes from base on. -/
structure Kb (t : TypeId) (S : List Nat) (base : Nat) (w w' : World) : Prop where
  os : w'.os = w.os
  tape : w'.tape = w.tape
  output : w'.output = w.output
  size : w.heap.size ≤ w'.heap.size
  block : ∀ k o, k ∉ S → w.heap[k]? = some o → (k < base ∨ ∀ cs fr, o ≠ .cells cs t fr) → w'.heap[k]? = some o
theorem Kb.refl (t : TypeId) (S : List Nat) (base : Nat) (w : World) : Kb t S base w w := ⟨rfl, rfl, rfl, Nat.le_refl _, fun _ _ _ h _ => h⟩
theorem Kb.trans {t : TypeId} {S S' : List Nat} {base : Nat} {a b c : World} (h : Kb t S base a b) (k : Kb t S' base b c) (hS : ∀ x ∈ S', x ∈ S ∨ a.heap.size ≤ x) : Kb t S base a c :=
  ⟨k.os.trans h.os, k.tape.trans h.tape, k.output.trans h.output, Nat.le_trans h.size k.size, fun i o hi ho hk => k.block i o (fun hx => by
    rcases hS i hx with h' | h'
    · exact hi h'
    · have := heap_lt ho; omega) (h.block i o hi ho hk) hk⟩
theorem Kb.next {t : TypeId} {S : List Nat} {base : Nat} {a b c : World} (h : Kb t S base a b) (k : Kb t S base b c) : Kb t S base a c := h.trans k fun _ hx => .inl hx
theorem Kb.mono {t : TypeId} {S S' : List Nat} {base : Nat} {w w' : World} (h : Kb t S base w w') (hS : ∀ x ∈ S, x ∈ S') : Kb t S' base w w' :=
  ⟨h.os, h.tape, h.output, h.size, fun k o hk ho hkind => h.block k o (fun hx => hk (hS k hx)) ho hkind⟩
theorem Kb.of_kp {t : TypeId} {S S' : List Nat} {base : Nat} {w w' : World} (h : Kp S w w') (hS : ∀ x ∈ S, x ∈ S' ∨ base ≤ x ∧ ∃ cs fr, w.heap[x]? = some (.cells cs t fr)) : Kb t S' base w w' :=
  ⟨h.os, h.tape, h.output, h.size, fun k o hk ho hkind => h.heap ho fun hx => by
    rcases hS k hx with e | ⟨e1, cs, fr, e2⟩
    · exact hk e
    · rcases hkind with h' | h'
      · omega
      · rw [ho] at e2; simp at e2; exact h' cs fr e2⟩
theorem Kb.alloc {t : TypeId} {S : List Nat} {base : Nat} {a w : World} (h : Kb t S base a w) (o : Obj) : Kb t S base a (w.alloc o) := h.next (Kb.of_kp (S := []) ((Kp.refl _ _).alloc _) (by simp))
theorem Kb.setW {t : TypeId} {S : List Nat} {base : Nat} {a w : World} (h : Kb t S base a w) {p : Addr} (hp : p.block ∈ S ∨ a.heap.size ≤ p.block) (u : Value) : Kb t S base a (w.setCell p u) :=
  h.trans (S' := [p.block]) (Kb.of_kp (S := [p.block]) ((Kp.refl _ _).setCell (.inl (by simp)) _) (by simp)) (by simpa using hp)
theorem Kb.grown {t : TypeId} {S : List Nat} {base : Nat} {a w w' : World} {v : Value} {n : Nat} {xs : List Value} (h : Kb t S base a w) (hown : w.ownsRow base t 1 v n xs) (hg : w.grownBy w' v.ownBlock) : Kb t S base a w' := by
  refine h.next (Kb.of_kp (S := v.ownBlock.toList) ((Kp.refl _ _).grown hg (fun k hk => .inl (by simp [hk]))) ?_)
  intro x hx
  rcases hown.2 with ⟨rfl, _⟩ | ⟨g, cap, cur, rfl, hb, hgg, rest⟩
  · simp [Value.ownBlock] at hx
  · simp [Value.ownBlock] at hx
    subst hx
    exact .inr ⟨hb, _, _, hgg⟩
theorem Kb.below {t : TypeId} {S : List Nat} {base B : Nat} {w w' : World} (h : Kb t S base w w') (hB : B ≤ w.heap.size) (hS : ∀ x ∈ S, B ≤ x) (hb : B ≤ base) : Below B w w' :=
  ⟨h.os, h.tape, h.output, h.size, fun k hk => by
    have hlt : k < w.heap.size := by omega
    have := h.block k _ (fun hx => by have := hS k hx; omega) (Array.getElem?_eq_getElem hlt) (.inl (by omega))
    rw [this, Array.getElem?_eq_getElem hlt]⟩
theorem Kb.heap {t : TypeId} {S : List Nat} {base k : Nat} {w w' : World} {cs : Array Value} {t' : TypeId} {fr : Nat × Nat} (h : Kb t S base w w') (hk : k ∉ S) (ho : w.heap[k]? = some (.cells cs t' fr)) (ht : t' ≠ t) : w'.heap[k]? = some (.cells cs t' fr) :=
  h.block k _ hk ho (.inr (fun cs fr e => by simp at e; exact ht e.2.1))
theorem Kb.owns {t : TypeId} {S : List Nat} {base base' : Nat} {w w' : World} {e : TypeId} {size : Nat} {v : Value} {n : Nat} {xs : List Value} (k : Kb t S base w w') (h : w.ownsRow base' e size v n xs) (he : e ≠ t) (hne : ∀ x ∈ S, v.ownBlock ≠ some x) : w'.ownsRow base' e size v n xs := by
  refine ⟨h.1, ?_⟩
  rcases h.2 with hn | ⟨g, cap, cur, rfl, hb, hgg, rest⟩
  · exact .inl hn
  · exact .inr ⟨g, cap, cur, rfl, hb, k.heap (fun hx => hne g hx rfl) hgg he, rest⟩

def byV (l : List UInt8) : List Value := l.map fun (c : UInt8) => Value.int .u8 (c.toNat : Int)
theorem byV_length (l : List UInt8) : (byV l).length = l.length := by simp [byV]
theorem byV_append (a b : List UInt8) : byV (a ++ b) = byV a ++ byV b := by simp [byV]
theorem info5 : (Tryz.prog.info? 5).map (fun i => (i.zero, i.size, i.bytes)) = some (some (.int .u8 0), 1, 1) := by kernel_rfl

/-- The writer in block W: what it has written. -/
def Wr (w : World) (W base : Nat) (l : List UInt8) : Prop := ∃ v, w.heap[W]? = some (.cells #[v] 365 (0, 0)) ∧ w.ownsRow base 5 1 v l.length (byV l)
theorem wr_cell {w : World} {W : Nat} {v : Value} (h : w.heap[W]? = some (.cells #[v] 365 (0, 0))) : w.cell? ⟨W, 0, none⟩ = some v ∧ w.frozen? ⟨W, 0, none⟩ = false := by
  simp [World.cell?, World.frozen?, h]
theorem wr_slice {w : World} {W base : Nat} {l : List UInt8} (h : Wr w W base l) : ∃ a cap, w.heap[W]? = some (.cells #[.slice a l.length cap] 365 (0, 0)) ∧ w.ownsRow base 5 1 (.slice a l.length cap) l.length (byV l) := by
  obtain ⟨v, h1, h2⟩ := h
  obtain ⟨a, cap, rfl, _⟩ := owns_forms h2
  exact ⟨a, cap, h1, h2⟩
theorem wr_put {w w' : World} {W base : Nat} {l : List UInt8} {v v' : Value} (h : w.heap[W]? = some (.cells #[v] 365 (0, 0))) (hown : w.ownsRow base 5 1 v' l.length (byV l)) : Wr (w.setCell ⟨W, 0, none⟩ v') W base l := by
  refine ⟨v', ?_, ?_⟩
  · have e := heap_setCell_same w W 0 _ 365 v' h
    rw [e]; rfl
  · exact ((Kp.refl [W] w).setCell (p := ⟨W, 0, none⟩) (.inl (by simp)) v').owns hown (fun g hg => by
      have := owns_ne hown h (by decide)
      rw [hg] at this; simpa using this)

set_option maxHeartbeats 400000 in
theorem wtext_any (W base : Nat) (l : List UInt8) (s : ByteArray) (w : World) (h : Wr w W base l) (hb : base ≤ w.heap.size) (hl : l.length + s.size ≤ 2000000) :
    Calls Tryz.prog 263 #[.pointer (some ⟨W, 0, none⟩), .string s] w fun e w' => e = .returned (.tuple #[]) ∧ Wr w' W base (l ++ s.data.toList) ∧ Kb 5 [W] base w w' := by
  obtain ⟨i0, hi, hz0, hz1, hz2⟩ := info_parts info5
  obtain ⟨a, cap, h1, hown⟩ := wr_slice h
  obtain ⟨c0, f0⟩ := wr_cell h1
  have H1 := hide h1
  have hne := owns_ne hown h1 (by decide)
  clear h h1
  go_enter Tryz.func263, Tryz.ntmps263
  go_wp2_with (first
    | (at_builtin; refine Lib.wpList_append_own_string _ rfl _ _ 112 9 rfl base 5 i0 Tryz.underlying112 Tryz.underlying9 hi hz0 hz1 hz2 _ _ _ rfl hown s rfl ?c1 ?c2 hb ?_)
    | fail)
  case c1 => unfold maxLen; omega
  case c2 => omega
  intro v' w2 hown2 hgrow _
  have h2 : w2.heap[W]? = some (.cells #[.slice a l.length cap] 365 (0, 0)) := by
    rw [hgrow.block W (heap_lt H1.out) (fun e => hne e.symm)]; exact H1.out
  obtain ⟨c2, f2⟩ := wr_cell h2
  have H2 := hide h2
  obtain ⟨a', cap', rfl, _⟩ := owns_forms hown2
  clear h2
  go_wp2_with fail
  go_end0
  refine ⟨rfl, wr_put (w' := w2) H2.out ?_, ((Kb.refl 5 [W] base w).grown hown hgrow).setW (.inl (by simp)) _⟩
  rw [byV_append, List.length_append]
  exact hown2
end Go.Proofs.YtpdoacfiiledcaaGreatDoor.Pak

namespace Go.Proofs.YtpdoacfiiledcaaGreatDoor.Pak
open Go.RowKit Go.Proofs.YtpdoacfiiledcaaGreatDoor Go.Proofs.YtpdoacfiiledcaaGreatDoor.Spl SiftM
set_option linter.unusedVariables false

def intV (l : List Nat) : List Value := l.map fun (n : Nat) => Value.int .i64 (n : Int)
theorem made_one (z : Value) (n : Nat) : madeCells #[z] n = Array.replicate n z := by
  apply Array.ext
  · simp [size_madeCells]
  · intro i h1 h2
    simp [madeCells]
    have : i % 1 = 0 := by omega
    simp [this]

theorem info3 : (Tryz.prog.info? 3).map (fun i => (i.zero, i.size, i.bytes)) = some (some (.int .i64 0), 1, 8) := by kernel_rfl
/-- The list's block behind k rounds. -/
def part (l : List Nat) (c : Nat) : Array Value := (intV l ++ List.replicate (c - l.length) (Value.int .i64 0)).toArray
end Go.Proofs.YtpdoacfiiledcaaGreatDoor.Pak

namespace Go.Proofs.YtpdoacfiiledcaaGreatDoor.Pak
open Go.RowKit Go.Proofs.YtpdoacfiiledcaaGreatDoor Go.Proofs.YtpdoacfiiledcaaGreatDoor.Spl SiftM
set_option linter.unusedVariables false

/-- The bytes of a small number. -/
def numG : Nat → Nat → List UInt8
  | 0, n => [UInt8.ofNat n]
  | f + 1, n => if n < 128 then [UInt8.ofNat n] else UInt8.ofNat (n % 128 + 128) :: numG f (n / 128)
def numB (n : Nat) : List UInt8 := numG 3 n
theorem numG_len : ∀ f n, (numG f n).length ≤ f + 1
  | 0, n => by simp [numG]
  | f + 1, n => by
    rw [numG]; split
    · simp
    · have := numG_len f (n / 128); simp; omega
theorem numG_low (f n : Nat) (h : n < 128) : numG f n = [UInt8.ofNat n] := by
  cases f with
  | zero => rfl
  | succ f => rw [numG, if_pos h]
theorem ofNat_toNat (n : Nat) (h : n < 256) : ((UInt8.ofNat n).toNat : Int) = (n : Int) := by rw [UInt8.toNat_ofNat']; omega

theorem one_new (w : World) (x : Value) (t : TypeId) : ∀ j u, [x][j]? = some u → (w.alloc (.cells #[x] t)).cell? ((⟨w.heap.size, 0, none⟩ : Addr).add j) = some u := by
  intro j u hj
  match j, hj with
  | 0, hj => simp at hj; subst hj; simp [Addr.add]
theorem one_cell (x : Int) (k : IntKind) : ∀ u ∈ [Value.int k x], u.oneCell' = true := by intro u hu; simp at hu; subst hu; rfl

set_option maxHeartbeats 800000 in
set_option maxRecDepth 100000 in
theorem wnum_any (W base : Nat) (l : List UInt8) (n : Nat) (w : World) (h : Wr w W base l) (hb : base ≤ w.heap.size) (hl : l.length ≤ 2000000) (hn : n < 268435456) :
    Calls Tryz.prog 264 #[.pointer (some ⟨W, 0, none⟩), .int .i64 n] w fun e w' => e = .returned (.tuple #[]) ∧ Wr w' W base (l ++ numB n) ∧ Kb 5 [W] base w w' := by
  obtain ⟨i0, hi, hz0, hz1, hz2⟩ := info_parts info5
  have HW := hide h
  clear h
  go_enter Tryz.func264, Tryz.ntmps264
  go_wp2_with fail
  go_loopw [1] (fun nv wr => ∃ (f m : Nat) (acc : List UInt8), f ≤ 3 ∧ m < 128 ^ (f + 1) ∧ nv = .int .i64 m ∧ acc ++ numG f m = l ++ numB n ∧ acc.length + f ≤ 2000004 ∧ base ≤ wr.heap.size ∧ Wr wr W base acc ∧ Kb 5 [W] base w wr) (fun nv _ => (intOf nv).toNat)
  case atStart => exact ⟨3, n, l, by omega, by omega, rfl, rfl, by omega, hb, HW.out, Kb.refl _ _ _ _⟩
  case round =>
    clear HW
    obtain ⟨f, m, acc, hf, hm, rfl, hacc, hlen, hbase, hwr, hkb⟩ := hrel
    have hm28 : m < 268435456 := by
      have : 128 ^ (f + 1) ≤ 128 ^ 4 := Nat.pow_le_pow_right (by omega) (by omega)
      omega
    obtain ⟨a, cap, h1, hown⟩ := wr_slice hwr
    obtain ⟨c0, f0⟩ := wr_cell h1
    have H1 := hide h1
    have hne := hide (owns_ne hown h1 (by decide))
    clear h1 hwr
    by_cases hlow : m < 128
    · have hd : Hid (l ++ numB n = acc ++ [UInt8.ofNat m]) := by
        show _ = _
        rw [← hacc, numG_low f m hlow]
      have Hm := hide hm
      clear hacc hm
      go_wp2_with (first
        | (at_builtin; refine wpList_append_own_at _ rfl _ _ 112 rfl base 5 i0 (.int .u8 0) 1 1 Tryz.underlying112 hi hz0 hz1 hz2 rfl (by decide) _ _ _ rfl (hown.alloc _) ⟨wr.heap.size, 0, none⟩ 1 1 [.int .u8 m] rfl rfl (one_new _ _ _) (one_cell _ _) ?c1 ?c2 ?c3 ?_)
        | fail)
      case c1 => unfold maxLen; omega
      case c2 => omega
      case c3 => simp; omega
      intro v' w2 hown2 hgrow _ _
      have hg2 := (World.grownBy_alloc wr (.cells #[.int .u8 (m : Int)] 5) (Value.slice a acc.length cap).ownBlock)
      have h2 : w2.heap[W]? = some (.cells #[.slice a acc.length cap] 365 (0, 0)) := by
        rw [hgrow.block W (by have := heap_lt H1.out; simp; omega) (fun e => hne.out e.symm), Below.heap_alloc _ _ _ (heap_lt H1.out)]; exact H1.out
      obtain ⟨c2, f2⟩ := wr_cell h2
      have H2 := hide h2
      obtain ⟨a', cap', rfl, _⟩ := owns_forms hown2
      clear h2 hg2
      go_wp2_with fail
      go_end0
      refine ⟨rfl, wr_put (w' := w2) H2.out ?_, ((hkb.alloc _).grown (hown.alloc _) hgrow).setW (.inl (by simp)) _⟩
      rw [hd.out, byV_append, List.length_append]
      simp only [byV, List.map_cons, List.map_nil, ofNat_toNat m (by omega)]
      exact hown2
    · obtain ⟨q, hq⟩ : ∃ q, m % 128 = q := ⟨_, rfl⟩
      obtain ⟨r, hr⟩ : ∃ r, m / 128 = r := ⟨_, rfl⟩
      have hA := i64_and127 (m : Int)
      rw [show ((m : Int) % 128) = (q : Int) by omega] at hA
      have hO := u8_or128_right (q : Int) (by omega) (by omega)
      have hS : ((m : Int) / 128) = (r : Int) := by omega
      have q128 : q < 128 := by omega
      have hf0 : f ≠ 0 := by rintro rfl; simp at hm; omega
      obtain ⟨f', rfl⟩ : ∃ f', f = f' + 1 := ⟨f - 1, by omega⟩
      have hd : Hid ((acc ++ [UInt8.ofNat (q + 128)]) ++ numG f' r = l ++ numB n) := by
        show _ = _
        rw [← hacc, numG, if_neg hlow, hq, hr]; simp
      have hr2 : Hid (r < 128 ^ (f' + 1)) := by
        show r < _
        rw [← hr]
        exact Nat.div_lt_of_lt_mul (by rw [Nat.pow_succ] at hm; omega)
      have hrm : r < m := by omega
      have Hm := hide hm
      clear hacc hm hq hr
      go_wp2_with (first
        | (at_builtin; refine wpList_append_own_at _ rfl _ _ 112 rfl base 5 i0 (.int .u8 0) 1 1 Tryz.underlying112 hi hz0 hz1 hz2 rfl (by decide) _ _ _ rfl (hown.alloc _) ⟨wr.heap.size, 0, none⟩ 1 1 [.int .u8 (q + 128)] rfl rfl (one_new _ _ _) (one_cell _ _) ?c1 ?c2 ?c3 ?_)
        | fail)
      case c1 => unfold maxLen; omega
      case c2 => omega
      case c3 => simp; omega
      intro v' w2 hown2 hgrow _ _
      have h2 : w2.heap[W]? = some (.cells #[.slice a acc.length cap] 365 (0, 0)) := by
        rw [hgrow.block W (by have := heap_lt H1.out; simp; omega) (fun e => hne.out e.symm), Below.heap_alloc _ _ _ (heap_lt H1.out)]; exact H1.out
      obtain ⟨c2, f2⟩ := wr_cell h2
      have H2 := hide h2
      obtain ⟨a', cap', rfl, _⟩ := owns_forms hown2
      have hz2' := hgrow.size
      simp at hz2'
      clear h2
      go_wp2_with fail
      go_roundw
      case rel =>
        refine ⟨f', r, acc ++ [UInt8.ofNat (q + 128)], by omega, hr2.out, by go_num, hd.out, by simp; omega, by simp [World.setCell]; omega, wr_put (w' := w2) H2.out ?_, ((hkb.alloc _).grown (hown.alloc _) hgrow).setW (.inl (by simp)) _⟩
        rw [byV_append, List.length_append]
        simp only [byV, List.map_cons, List.map_nil, ofNat_toNat (q + 128) (by omega)]
        exact hown2
      case measure => simp [intOf]; omega

set_option maxHeartbeats 400000 in
theorem gap_any (Q least entry : Nat) (w : World) (h : Ri w Q least) (h1 : least ≤ entry) (h2 : entry ≤ 1099511627776) :
    Calls Tryz.prog 413 #[.pointer (some ⟨Q, 0, none⟩), .int .i64 entry] w fun e w' => e = .returned (.int .i64 ((entry - least : Nat) : Int)) ∧ Ri w' Q (entry + 1) ∧ Kp [Q] w w' := by
  obtain ⟨c0, f0⟩ := ri_cell h
  have H := hide h
  clear h
  go_enter Tryz.func413, Tryz.ntmps413
  go_wp2_with fail
  go_ret
  exact ⟨ret_int (by omega), ri_set H.out, (Kp.refl _ _).setCell (.inl (by simp)) _⟩

theorem Wr.kp {S : List Nat} {w w' : World} {W base : Nat} {l : List UInt8} (h : Wr w W base l) (k : Kp S w w') (hW : W ∉ S) (hS : ∀ x ∈ S, ∀ cs fr, w.heap[x]? ≠ some (.cells cs 5 fr)) : Wr w' W base l := by
  obtain ⟨v, h1, h2⟩ := h
  refine ⟨v, k.heap h1 hW, k.owns h2 (fun g hg hx => ?_)⟩
  rcases h2.2 with ⟨rfl, _⟩ | ⟨g', cap, cur, rfl, hb, hgg, rest⟩
  · simp [Value.ownBlock] at hg
  · simp [Value.ownBlock] at hg
    subst hg
    exact hS _ hx _ _ hgg

set_option maxHeartbeats 400000 in
theorem wentry_any (W base Q least entry : Nat) (l : List UInt8) (w : World) (h : Wr w W base l) (hq : Ri w Q least) (hQW : Q ≠ W) (hb : base ≤ w.heap.size) (hl : l.length ≤ 2000000) (h1 : least ≤ entry) (h2 : entry < 268435456) :
    Calls Tryz.prog 359 #[.pointer (some ⟨W, 0, none⟩), .pointer (some ⟨Q, 0, none⟩), .int .i64 entry] w fun e w' => e = .returned (.tuple #[]) ∧ Wr w' W base (l ++ numB (entry - least)) ∧ Ri w' Q (entry + 1) ∧ Kb 5 [W, Q] base w w' := by
  have HW := hide h
  have HQ := hide hq
  clear h hq
  go_enter Tryz.func359, Tryz.ntmps359
  go_wp2_with fail
  refine (gap_any Q least entry w HQ.out h1 (by omega)).mono ?_
  rintro e w1 ⟨rfl, hq1, hk1⟩
  have hw1 : Wr w1 W base l := HW.out.kp hk1 (by simpa using hQW.symm) (by
    intro x hx cs fr e
    simp at hx; subst hx
    have := HQ.out
    unfold Ri at this
    rw [this] at e; simp at e)
  have HQ1 := hide hq1
  have HW1 := hide hw1
  have hz := hk1.size
  clear hq1 hw1
  go_wp2_with fail
  refine (wnum_any W base l (entry - least) w1 HW1.out (by omega) hl (by omega)).mono ?_
  rintro e w2 ⟨rfl, hw2, hk2⟩
  have HW2 := hide hw2
  clear hw2
  go_wp2_with fail
  go_end0
  exact ⟨rfl, HW2.out, hk2.heap (by simpa using hQW) HQ1.out (by decide), (Kb.of_kp hk1 (by simp)).next (hk2.mono (by simp))⟩

/-- The bytes of a rising list. -/
def riseB : Nat → List Nat → List UInt8
  | _, [] => []
  | least, x :: r => numB (x - least) ++ riseB (x + 1) r
def Rs : Nat → List Nat → Prop
  | _, [] => True
  | least, x :: r => least ≤ x ∧ Rs (x + 1) r
theorem riseB_len : ∀ (l : List Nat) (least : Nat), (riseB least l).length ≤ 4 * l.length
  | [], _ => by simp [riseB]
  | x :: r, least => by
    have := riseB_len r (x + 1)
    have h2 := numG_len 3 (x - least)
    simp [riseB, numB]; omega
theorem rise_split : ∀ (l : List Nat) (least k : Nat) (hk : k < l.length), riseB least (l.take (k + 1)) = riseB least (l.take k) ++ numB (l[k] - (if k = 0 then least else l.getD (k - 1) 0 + 1))
  | x :: r, least, 0, hk => by simp [riseB]
  | x :: r, least, k + 1, hk => by
    have ih := rise_split r (x + 1) k (by simpa using hk)
    simp only [List.take_succ_cons, riseB]
    rw [ih]
    cases k with
    | zero => simp
    | succ k => simp
theorem rs_at : ∀ (l : List Nat) (least k : Nat) (hk : k < l.length), Rs least l → (if k = 0 then least else l.getD (k - 1) 0 + 1) ≤ l[k]
  | x :: r, least, 0, hk, h => by simpa using h.1
  | x :: r, least, k + 1, hk, h => by
    have ih := rs_at r (x + 1) k (by simpa using hk) h.2
    cases k with
    | zero => simpa using ih
    | succ k => simpa using ih

theorem ints_cells {w : World} {base n g cap : Nat} {l : List Nat} (h : w.ownsRow base 3 1 (.slice (some ⟨g, 0, none⟩) n cap) n (intV l)) (hl : l.length = n) : ∀ i (hi : i < l.length), w.cell? ⟨g, i, none⟩ = some (.int .i64 (l[i] : Int)) := by
  intro i hi
  have := h.cells (g := g) rfl i (.int .i64 (l[i] : Int)) (by simp [intV, hi])
  have e : (⟨g, 0, none⟩ : Addr).add i = ⟨g, i, none⟩ := by unfold Addr.add; split <;> simp_all
  rwa [e] at this

set_option maxHeartbeats 800000 in
set_option maxRecDepth 100000 in
theorem wrising_any (W base base' : Nat) (l : List UInt8) (v : Value) (xs : List Nat) (w : World) (h : Wr w W base l) (hv : w.ownsRow base' 3 1 v xs.length (intV xs)) (hb : base ≤ w.heap.size) (hl : l.length + 4 * xs.length ≤ 2000000) (hx : xs.length ≤ 4000) (hr : Rs 0 xs) (hbd : ∀ x ∈ xs, x < 268435456) :
    Calls Tryz.prog 285 #[.pointer (some ⟨W, 0, none⟩), v] w fun e w' => e = .returned (.tuple #[]) ∧ Wr w' W base (l ++ riseB 0 xs) ∧ Kb 5 [W] base w w' := by
  obtain ⟨a, cap, rfl, ha⟩ := owns_forms hv
  have hlt : W < w.heap.size := by obtain ⟨v0, hW0, _⟩ := h; exact heap_lt hW0
  have HW := hide h
  have HV := hide hv
  clear h hv
  go_enter Tryz.func285, Tryz.ntmps285
  go_wp2_with fail
  obtain ⟨W1, hW1⟩ : ∃ W1, w.alloc (.cells #[.int .i64 0] 452) = W1 := ⟨_, rfl⟩
  rw [hW1]
  have k0 : Kp [] w W1 := by rw [← hW1]; exact (Kp.refl _ _).alloc _
  have hz0 := k0.size
  have hq0 : Ri W1 w.heap.size 0 := by rw [← hW1]; exact heap_alloc_new w _
  have hw0 := HW.out.kp k0 (by simp) (by simp)
  have hv0 := k0.owns HV.out (by simp)
  have HW0 := hide hw0
  have HQ0 := hide hq0
  have HV0 := hide hv0
  have kb0 : Kb 5 [W] base w W1 := Kb.of_kp k0 (by simp)
  clear hw0 hq0 hv0 HW HV hW1 k0
  go_loopw [9] (fun iv wr => ∃ k : Nat, k ≤ xs.length ∧ iv = .int .i64 k ∧ Wr wr W base (l ++ riseB 0 (xs.take k)) ∧ Ri wr w.heap.size (if k = 0 then 0 else xs.getD (k - 1) 0 + 1) ∧ wr.ownsRow base' 3 1 (.slice a xs.length cap) xs.length (intV xs) ∧ base ≤ wr.heap.size ∧ Kb 5 [W] base w wr) (fun iv _ => xs.length - (intOf iv).toNat)
  case atStart => exact ⟨0, by omega, rfl, by simpa [riseB] using HW0.out, HQ0.out, HV0.out, by omega, kb0⟩
  case round =>
    clear HW0 HQ0 HV0 kb0
    obtain ⟨k, hk, rfl, hw1, hq1, hv1, hbase, hkb⟩ := hrel
    by_cases hlt2 : k < xs.length
    · obtain ⟨g, rfl⟩ := ha (by omega)
      have hc := ints_cells hv1 rfl k hlt2
      have hsp := hide (rise_split xs 0 k hlt2)
      have hat := rs_at xs 0 k hlt2 hr
      have hbx := hbd xs[k] (List.getElem_mem hlt2)
      have hlen := riseB_len (xs.take k) 0
      have HNE := hide (owns_ne hv1 hq1 (by decide))
      have HW := hide hw1
      have HQ := hide hq1
      have HV := hide hv1
      obtain ⟨x, hxE⟩ : ∃ x, xs[k] = x := ⟨_, rfl⟩
      obtain ⟨le, hle⟩ : ∃ le, (if k = 0 then 0 else xs.getD (k - 1) 0 + 1) = le := ⟨_, rfl⟩
      rw [hxE] at hc hat hbx hsp
      rw [hle] at hat HQ hsp
      have hnx : Hid ((if k + 1 = 0 then 0 else xs.getD (k + 1 - 1) 0 + 1) = x + 1) := by
        show _ = _
        simp [hlt2, hxE]
      clear hw1 hq1 hv1 hxE hle
      have Hlen : Hid ((l ++ riseB 0 (xs.take k)).length ≤ 2000000) := by
        show _ ≤ _
        have : (xs.take k).length ≤ xs.length := by simp; omega
        simp at hlen ⊢; omega
      go_wp2_with fail
      refine (wentry_any W base w.heap.size le x _ wr HW.out HQ.out (by omega) hbase Hlen.out hat hbx).mono ?_
      rintro e w2 ⟨rfl, hw2, hq2, hk2⟩
      have HW2 := hide hw2
      have HQ2 := hide hq2
      clear hw2 hq2
      have hsz := hk2.size
      go_wp2_with fail
      go_roundw
      case rel =>
        refine ⟨k + 1, by omega, by go_num, ?_, ?_, ?_, by omega, hkb.trans hk2 (by simp)⟩
        · rw [hsp.out, ← List.append_assoc]; exact HW2.out
        · rw [hnx.out]; exact HQ2.out
        · exact hk2.owns HV.out (by decide) (by
            intro y hy
            simp at hy
            rcases hy with rfl | rfl
            · obtain ⟨v0, h0, _⟩ := HW.out
              exact owns_ne HV.out h0 (by decide)
            · exact HNE.out)
      case measure => simp [intOf]; omega
    · have e : k = xs.length := by omega
      subst e
      have HW := hide hw1
      clear hw1 hq1 hv1
      go_wp2_with fail
      go_end0
      refine ⟨rfl, ?_, hkb⟩
      have := HW.out
      rwa [List.take_length] at this
end Go.Proofs.YtpdoacfiiledcaaGreatDoor.Pak

