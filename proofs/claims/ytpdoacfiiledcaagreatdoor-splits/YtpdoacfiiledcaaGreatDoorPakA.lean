import Derived.Test.YtpdoacfiiledcaaGreatDoorSplE
namespace Go.Proofs.YtpdoacfiiledcaaGreatDoor.Pak
open Go.RowKit Go.Proofs.YtpdoacfiiledcaaGreatDoor Go.Proofs.YtpdoacfiiledcaaGreatDoor.Spl SiftM
set_option linter.unusedVariables false

/-- Of what was there in w nothing has turned but the blocks of S. -/
structure Kp (S : List Nat) (w w' : World) : Prop where
  os : w'.os = w.os
  tape : w'.tape = w.tape
  output : w'.output = w.output
  size : w.heap.size ≤ w'.heap.size
  block : ∀ k, k < w.heap.size → k ∉ S → w'.heap[k]? = w.heap[k]?

theorem Kp.refl (S : List Nat) (w : World) : Kp S w w := ⟨rfl, rfl, rfl, Nat.le_refl _, fun _ _ _ => rfl⟩
theorem Kp.trans {S S' : List Nat} {a b c : World} (h : Kp S a b) (k : Kp S' b c) (hS : ∀ x ∈ S', x ∈ S ∨ a.heap.size ≤ x) : Kp S a c :=
  ⟨k.os.trans h.os, k.tape.trans h.tape, k.output.trans h.output, Nat.le_trans h.size k.size, fun i hi hn =>
    (k.block i (Nat.lt_of_lt_of_le hi h.size) (fun hx => by rcases hS i hx with h' | h'; exact hn h'; omega)).trans (h.block i hi hn)⟩
theorem Kp.next {S : List Nat} {a b c : World} (h : Kp S a b) (k : Kp S b c) : Kp S a c := h.trans k fun _ hx => .inl hx
theorem Kp.mono {S S' : List Nat} {w w' : World} (h : Kp S w w') (hS : ∀ x ∈ S, x ∈ S') : Kp S' w w' :=
  ⟨h.os, h.tape, h.output, h.size, fun k hk hn => h.block k hk fun hx => hn (hS k hx)⟩
theorem Kp.of_below {w w' : World} (S : List Nat) (h : Below w.heap.size w w') : Kp S w w' := ⟨h.os, h.tape, h.output, h.size, fun k hk _ => h.block k hk⟩
theorem Kp.below {S : List Nat} {w w' : World} {B : Nat} (h : Kp S w w') (hB : B ≤ w.heap.size) (hS : ∀ x ∈ S, B ≤ x) : Below B w w' :=
  ⟨h.os, h.tape, h.output, h.size, fun k hk => h.block k (by omega) fun hx => by have := hS k hx; omega⟩
theorem Kp.alloc {S : List Nat} {a w : World} (h : Kp S a w) (o : Obj) : Kp S a (w.alloc o) :=
  h.next ⟨rfl, rfl, rfl, by simp, fun k hk _ => Below.heap_alloc _ _ _ hk⟩
theorem Kp.drewN {S : List Nat} {a w : World} (h : Kp S a w) (n : Nat) : Kp S a (w.drewN n) := ⟨h.os, h.tape, h.output, h.size, h.block⟩
theorem Kp.setCell {S : List Nat} {a w : World} (h : Kp S a w) {p : Addr} (hp : p.block ∈ S ∨ a.heap.size ≤ p.block) (u : Value) : Kp S a (w.setCell p u) :=
  h.trans (S' := [p.block]) ⟨rfl, rfl, rfl, by simp [World.setCell], fun k hk hn => Below.heap_setCell _ _ _ _ (by simpa using hn)⟩ (by simpa using hp)
theorem Kp.grown {S : List Nat} {a w w' : World} {row : Option Nat} (h : Kp S a w) (hg : w.grownBy w' row) (hr : ∀ k, row = some k → k ∈ S ∨ a.heap.size ≤ k) : Kp S a w' :=
  h.trans (S' := row.toList) ⟨hg.os, hg.tape, hg.output, hg.size, fun k hk hn => hg.block k hk (by intro e; apply hn; rw [← e]; simp)⟩ (by
    intro x hx
    cases row with
    | none => simp at hx
    | some y => simp at hx; subst hx; exact hr _ rfl)
theorem Kp.cell {S : List Nat} {w w' : World} (h : Kp S w w') {p : Addr} (hl : p.block < w.heap.size) (hp : p.block ∉ S) : w'.cell? p = w.cell? p := World.cell?_of_block (w := w) (h.block p.block hl hp)
theorem Kp.cellv {S : List Nat} {w w' : World} (h : Kp S w w') {p : Addr} {v : Value} (hv : w.cell? p = some v) (hp : p.block ∉ S) : w'.cell? p = some v := (h.cell (World.block_lt_of_cell? w p hv) hp).trans hv
theorem Kp.heap {S : List Nat} {w w' : World} (h : Kp S w w') {k : Nat} {o : Obj} (ho : w.heap[k]? = some o) (hp : k ∉ S) : w'.heap[k]? = some o :=
  (h.block k (Array.getElem?_eq_some_iff.1 ho).1 hp).trans ho
theorem Kp.owns {S : List Nat} {w w' : World} {base : Nat} {e : TypeId} {size : Nat} {v : Value} {n : Nat} {xs : List Value} (k : Kp S w w') (h : w.ownsRow base e size v n xs) (hne : ∀ g, v.ownBlock = some g → g ∉ S) : w'.ownsRow base e size v n xs := by
  refine ⟨h.1, ?_⟩
  rcases h.2 with hn | ⟨g, cap, cur, rfl, hb, hgg, rest⟩
  · exact .inl hn
  · exact .inr ⟨g, cap, cur, rfl, hb, k.heap hgg (hne g rfl), rest⟩
theorem heap_lt {w : World} {k : Nat} {o : Obj} (ho : w.heap[k]? = some o) : k < w.heap.size := (Array.getElem?_eq_some_iff.1 ho).1
/-- Blocks of different kinds are different blocks. -/
theorem owns_ne {w : World} {base R n size : Nat} {e t : TypeId} {v : Value} {xs : List Value} {fr : Nat × Nat} (h : w.ownsRow base e size v n xs) {cs : Array Value} (hR : w.heap[R]? = some (.cells cs t fr)) (ht : t ≠ e) : v.ownBlock ≠ some R := by
  intro ee
  rcases h.2 with ⟨rfl, _⟩ | ⟨g, cap, cur, rfl, _, hh, _⟩
  · simp [Value.ownBlock] at ee
  · simp [Value.ownBlock] at ee
    subst ee
    rw [hR] at hh
    simp at hh
    exact ht hh.2.1

/-- A view of bytes. -/
def Vw (w : World) (B : Nat) (a : Option Addr) (l : List UInt8) : Prop := (l = [] ∧ a = none) ∨ ∃ g off, a = some ⟨g, off, none⟩ ∧ g < B ∧ ∀ j (h : j < l.length), w.cell? ⟨g, off + j, none⟩ = some (.int .u8 (l[j].toNat : Int))
/-- The reader in block R: none: it has failed. -/
def Rd (w : World) (R B : Nat) : Option (List UInt8) → Prop
  | none => B ≤ R ∧ w.heap[R]? = some (.cells #[.slice none 0 0, .bool true] 461 (0, 0))
  | some l => B ≤ R ∧ ∃ a cap, w.heap[R]? = some (.cells #[.slice a l.length cap, .bool false] 461 (0, 0)) ∧ Vw w B a l ∧ l.length ≤ cap ∧ cap ≤ 9223372036854775807

def nextF : Option (List UInt8) → UInt8 × Option (List UInt8)
  | none => (0, none)
  | some [] => (0, none)
  | some (c :: r) => (c, some r)

theorem rd_cells {w : World} {R : Nat} {x y : Value} {t : TypeId} (h : w.heap[R]? = some (.cells #[x, y] t (0, 0))) :
    w.cell? ⟨R, 0, none⟩ = some x ∧ w.cell? ⟨R, 1, none⟩ = some y ∧ w.frozen? ⟨R, 0, none⟩ = false ∧ w.frozen? ⟨R, 1, none⟩ = false := by
  simp [World.cell?, World.frozen?, h]

set_option maxHeartbeats 400000 in
theorem fail_any (R B : Nat) (hB : B ≤ R) (x y : Value) (w : World) (h : w.heap[R]? = some (.cells #[x, y] 461 (0, 0))) :
    Calls Tryz.prog 364 #[.pointer (some ⟨R, 0, none⟩)] w fun e w' => e = .returned (.tuple #[]) ∧ Rd w' R B none ∧ Kp [R] w w' := by
  obtain ⟨c0, c1, f0, f1⟩ := rd_cells h
  have H := hide h
  clear h
  go_enter Tryz.func364, Tryz.ntmps364
  go_wp2_with fail
  go_end0
  refine ⟨rfl, ⟨hB, ?_⟩, ((Kp.refl _ _).setCell (.inl (by simp)) _).setCell (.inl (by simp)) _⟩
  have e1 := heap_setCell_same w R 1 _ 461 (.bool true) H.out
  have e2 := heap_setCell_same _ R 0 _ 461 (.slice none 0 0) e1
  rw [e2]; rfl
end Go.Proofs.YtpdoacfiiledcaaGreatDoor.Pak
