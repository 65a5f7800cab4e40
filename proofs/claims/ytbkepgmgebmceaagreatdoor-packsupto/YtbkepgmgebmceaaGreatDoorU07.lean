import Derived.Test.YtbkepgmgebmceaaGreatDoorU06
import Derived.Laws.OwnMore
import Derived.ArgAppend

namespace Go.Proofs.YtbkepgmgebmceaaGreatDoor
open Go.RowKit ChkM
set_option linter.unusedVariables false

/-- A step of a script, as it lies in memory. -/
def opA (k a b c d : Int) (s : ByteArray) (l n f : Value) : Value := .agg #[.int .i64 k, .int .i64 a, .int .i64 b, .int .i64 c, .int .i64 d, .string s, l, n, f]

/-- The box of a step: its cells in whatever later world. -/
theorem box_cell {w w1 : World} {cs : Array Value} {t : TypeId} {j : Nat} {x : Value} (hj : cs[j]? = some x) (hb : Below (w.alloc (.cells cs t)).heap.size (w.alloc (.cells cs t)) w1) : w1.cell? ⟨w.heap.size, j, none⟩ = some x := by
  rw [hb.cell (by show w.heap.size < _; simp), World.cell?_alloc_at _ _ _ _ rfl]; exact hj

set_option maxHeartbeats 400000 in
set_option maxRecDepth 100000 in
theorem free_long (p : Value) (a b c d : Int) (s : ByteArray) (l n f : Value) (w : World) (hs : 60 < s.size) :
    Calls Tryz.prog 40 #[p, opA 2 a b c d s l n f] w fun e w' => e = .returned (.bool true) ∧ Below w.heap.size w w' := by
  unfold opA
  go_enter Tryz.func40, Tryz.ntmps40
  go_wp2_with fail
  refine (check_long s _ hs).mono ?_
  rintro e w1 ⟨rfl, hb1⟩
  have hc5 := box_cell (j := 5) rfl hb1
  have hb0 : Below w.heap.size w w1 := ((Below.refl _ _).alloc (Nat.le_refl _) _).trans (hb1.mono (by simp))
  clear hb1
  go_wp2_with fail
  refine (rcheck_long s _ hs).mono ?_
  rintro e w' ⟨rfl, rfl⟩
  go_wp2_with fail
  go_ret
  exact ⟨rfl, hb0⟩

set_option maxHeartbeats 400000 in
set_option maxRecDepth 100000 in
theorem free_ok (p : Value) (a b c d : Int) (s : ByteArray) (l n f : Value) (w : World) (hs : s.size ≤ 60) :
    Calls Tryz.prog 40 #[p, opA 2 a b c d s l n f] w fun e w' => e = .returned (.bool true) ∧ Below w.heap.size w w' := by
  unfold opA
  have ht := hide (same_ans s.data.toList)
  go_enter Tryz.func40, Tryz.ntmps40
  go_wp2_with fail
  refine (check_ok s _ hs).mono ?_
  rintro e w1 ⟨a1, k1, rfl, h1, hk1, hb1⟩
  have hc5 := box_cell (j := 5) rfl hb1
  have hz1 := hb1.size
  have hz2 : w.heap.size + 1 ≤ w1.heap.size := by simpa using hz1
  have hb0 : Below w.heap.size w w1 := ((Below.refl _ _).alloc (Nat.le_refl _) _).trans (hb1.mono (by simp))
  clear hz1 hb1
  go_wp2_with fail
  refine (rcheck_ok s _ hs).mono ?_
  rintro e w2 ⟨a2, k2, rfl, h2, hb2⟩
  have he : (a1, k1) = (a2, k2) := h1.out.symm.trans (ht.out.trans h2.out)
  obtain ⟨rfl, rfl⟩ : a1 = a2 ∧ k1 = k2 := by injection he with x y; exact ⟨x, y⟩
  clear h1 h2 ht he
  go_wp2_with fail
  go_ret
  exact ⟨rfl, hb0.trans (hb2.mono (by omega))⟩

theorem free_any (p : Value) (a b c d : Int) (s : ByteArray) (l n f : Value) (w : World) :
    Calls Tryz.prog 40 #[p, opA 2 a b c d s l n f] w fun e w' => e = .returned (.bool true) ∧ Below w.heap.size w w' := by
  by_cases hs : s.size ≤ 60
  · exact free_ok p a b c d s l n f w hs
  · exact free_long p a b c d s l n f w (by omega)

set_option maxHeartbeats 400000 in
set_option maxRecDepth 100000 in
theorem wstep_any (p : Value) (a b c d : Int) (s : ByteArray) (l n f : Value) (w : World) :
    Calls Tryz.prog 22 #[p, opA 2 a b c d s l n f] w fun e w' => e = .returned (.bool true) ∧ Below w.heap.size w w' := by
  unfold opA
  go_enter Tryz.func22, Tryz.ntmps22
  go_wp2_with fail
  refine (free_any p a b c d s l n f _).mono ?_
  rintro e w1 ⟨rfl, hb1⟩
  go_wp2_with fail
  go_ret
  exact ⟨rfl, ((Below.refl _ _).alloc (Nat.le_refl _) _).trans (hb1.mono (by simp))⟩

set_option maxHeartbeats 400000 in
set_option maxRecDepth 100000 in
theorem looks_nil (W : Nat) (w : World) (h1 : w.cell? ⟨W, 1, none⟩ = some (.slice none 0 0)) (h2 : w.cell? ⟨W, 2, none⟩ = some (.slice none 0 0)) (h3 : w.cell? ⟨W, 3, none⟩ = some (.slice none 0 0))
    (h4 : w.cell? ⟨W, 4, none⟩ = some (.slice none 0 0)) (h5 : w.cell? ⟨W, 5, none⟩ = some (.slice none 0 0)) :
    Calls Tryz.prog 23 #[.pointer (some ⟨W, 1, none⟩)] w fun e w' => e = .returned (.bool true) ∧ w' = w := by
  go_enter Tryz.func23, Tryz.ntmps23
  go_wp2_with fail
  refine wp_loop_rounds 1 ?_
  rw [rounds_succ]
  go_wp2_with fail
  refine wp_loop_rounds 1 ?_
  rw [rounds_succ]
  go_wp2_with fail
  refine wp_loop_rounds 1 ?_
  rw [rounds_succ]
  go_wp2_with fail
  refine wp_loop_rounds 1 ?_
  rw [rounds_succ]
  go_wp2_with fail
  refine wp_loop_rounds 1 ?_
  rw [rounds_succ]
  go_wp2_with fail
  go_ret
  exact ⟨rfl, rfl⟩
end Go.Proofs.YtbkepgmgebmceaaGreatDoor

namespace Go.Proofs.YtbkepgmgebmceaaGreatDoor
open Go.RowKit ChkM
set_option linter.unusedVariables false

/-- The steps of a script, as they lie in memory. -/
def OpAt (w : World) (b o : Nat) (k a b' c d : Int) (s : ByteArray) (l n f : Value) : Prop :=
  w.cell? ⟨b, o, none⟩ = some (.int .i64 k) ∧ w.cell? ⟨b, o + 1, none⟩ = some (.int .i64 a) ∧ w.cell? ⟨b, o + 2, none⟩ = some (.int .i64 b') ∧ w.cell? ⟨b, o + 3, none⟩ = some (.int .i64 c) ∧ w.cell? ⟨b, o + 4, none⟩ = some (.int .i64 d) ∧
  w.cell? ⟨b, o + 5, none⟩ = some (.string s) ∧ w.cell? ⟨b, o + 6, none⟩ = some l ∧ w.cell? ⟨b, o + 7, none⟩ = some n ∧ w.cell? ⟨b, o + 8, none⟩ = some f
def ScriptAt (w : World) (b off len : Nat) : Prop := ∀ i, i < len → ∃ (k a b' c d : Int) (s : ByteArray) (l n f : Value), OpAt w b (off + i * 9) k a b' c d s l n f

def worldO : Obj := .cells #[.slice none 0 0, .slice none 0 0, .slice none 0 0, .slice none 0 0, .slice none 0 0, .slice none 0 0] 64

set_option maxHeartbeats 1000000 in
set_option maxRecDepth 100000 in
theorem plays_any (b off len cap K : Nat) (w : World) (hlen : len ≤ 9223372036854775807) (hS : ScriptAt w b off len) (hb : b < w.heap.size) (hK : w.cell? ⟨K, 0, none⟩ = some (.int .i64 2)) (hKb : K < w.heap.size) :
    Calls Tryz.prog 11 #[.slice (some ⟨b, off, none⟩) len cap, .slice (some ⟨K, 0, none⟩) 1 1] w fun e w' => e = .returned (.bool true) ∧ Below w.heap.size w w' := by
  replace hS := hide hS
  go_enter Tryz.func11, Tryz.ntmps11
  go_wp2_with fail
  refine (wstep_any _ 2 2 0 0 ⟨#[97]⟩ (.slice none 0 0) (.slice none 0 0) (.slice none 0 0) _).mono ?_
  rintro e w1 ⟨rfl, hb1⟩
  have hz1 : w.heap.size + 1 ≤ w1.heap.size := by simpa using hb1.size
  have hw0 : Below w.heap.size w w1 := ((Below.refl _ _).alloc (Nat.le_refl _) _).trans (hb1.mono (by simp))
  have hcell : ∀ j, j < 6 → w1.cell? ⟨w.heap.size, j, none⟩ = some (.slice none 0 0) := fun j hj => by
    match j, hj with
    | 0, _ => exact box_cell rfl hb1
    | 1, _ => exact box_cell rfl hb1
    | 2, _ => exact box_cell rfl hb1
    | 3, _ => exact box_cell rfl hb1
    | 4, _ => exact box_cell rfl hb1
    | 5, _ => exact box_cell rfl hb1
  replace hcell := hide hcell
  clear hb1
  go_wp2_with fail
  go_loopw [7] (fun i wr => ∃ k : Nat, k ≤ len ∧ i = .int .i64 k ∧ Hid (∀ j, j < 6 → wr.cell? ⟨w.heap.size, j, none⟩ = some (.slice none 0 0)) ∧ Below w.heap.size w wr ∧ w.heap.size + 1 ≤ wr.heap.size) (fun i _ => len - (intOf i).toNat)
  case atStart => exact ⟨0, Nat.zero_le _, rfl, hcell, hw0, hz1⟩
  case round =>
    clear hcell hw0 hz1
    obtain ⟨k, hk, rfl, hcell, hw, hz⟩ := hrel
    have hKr : wr.cell? ⟨K, 0, none⟩ = some (.int .i64 2) := by rw [hw.cell hKb]; exact hK
    by_cases hlt : k < len
    · have h1 : (k : Int) < (len : Int) := by omega
      have h0 : (0 : Int) ≤ (k : Int) := by omega
      obtain ⟨kk, a, b', c, d, s, l, n, f, hop⟩ := hS.out k hlt
      have hc0 : wr.cell? ⟨b, off + k * 9, none⟩ = some (.int .i64 kk) := by rw [hw.cell hb]; exact hop.1
      by_cases h2 : kk = 2
      · subst h2
        have e1 : wr.cell? ⟨b, off + k * 9 + 1, none⟩ = some (.int .i64 a) := by rw [hw.cell hb]; exact hop.2.1
        have e2 : wr.cell? ⟨b, off + k * 9 + 2, none⟩ = some (.int .i64 b') := by rw [hw.cell hb]; exact hop.2.2.1
        have e3 : wr.cell? ⟨b, off + k * 9 + 3, none⟩ = some (.int .i64 c) := by rw [hw.cell hb]; exact hop.2.2.2.1
        have e4 : wr.cell? ⟨b, off + k * 9 + 4, none⟩ = some (.int .i64 d) := by rw [hw.cell hb]; exact hop.2.2.2.2.1
        have e5 : wr.cell? ⟨b, off + k * 9 + 5, none⟩ = some (.string s) := by rw [hw.cell hb]; exact hop.2.2.2.2.2.1
        have e6 : wr.cell? ⟨b, off + k * 9 + 6, none⟩ = some l := by rw [hw.cell hb]; exact hop.2.2.2.2.2.2.1
        have e7 : wr.cell? ⟨b, off + k * 9 + 7, none⟩ = some n := by rw [hw.cell hb]; exact hop.2.2.2.2.2.2.2.1
        have e8 : wr.cell? ⟨b, off + k * 9 + 8, none⟩ = some f := by rw [hw.cell hb]; exact hop.2.2.2.2.2.2.2.2
        replace hop := hide hop
        go_wp2_with fail
        refine wp_loop_rounds 2 ?_
        rw [rounds_succ]
        go_wp2_with fail
        go_quiet (fail)
        go_wp2_with fail
        rw [rounds_succ]
        go_wp2_with fail
        refine (wstep_any _ a b' c d s l n f _).mono ?_
        rintro e w2 ⟨rfl, hb2⟩
        clear e1 e2 e3 e4 e5 e6 e7 e8 hc0 hKr
        have hz2 : wr.heap.size ≤ w2.heap.size := hb2.size
        have hcell2 : Hid (∀ j, j < 6 → w2.cell? ⟨w.heap.size, j, none⟩ = some (.slice none 0 0)) := fun j hj => by
          rw [hb2.cell (by show w.heap.size < wr.heap.size; omega)]
          exact hcell.out j hj
        have hw2 : Below w.heap.size w w2 := (hw.trans (bel_drewN _ _ _)).trans (hb2.mono (by show w.heap.size ≤ wr.heap.size; omega))
        clear hb2 hcell hw
        go_wp2_with fail
        refine (looks_nil w.heap.size _ (hcell2.out 1 (by omega)) (hcell2.out 2 (by omega)) (hcell2.out 3 (by omega)) (hcell2.out 4 (by omega)) (hcell2.out 5 (by omega))).mono ?_
        rintro e w3 ⟨rfl, rfl⟩
        go_wp2_with fail
        exact ⟨⟨k + 1, by omega, by go_num, hcell2, hw2, by omega⟩, by simp [intOf]; omega⟩
      · have hq : (kk == 2) = false := by rw [beq_eq_false_iff_ne]; exact h2
        clear h2
        go_wp2_with fail
        refine wp_loop_rounds 2 ?_
        rw [rounds_succ]
        go_wp2_with fail
        go_quiet (fail)
        go_wp2_with fail
        rw [rounds_succ]
        go_wp2_with fail
        exact ⟨⟨k + 1, by omega, by go_num, hcell, hw.trans (bel_drewN _ _ _), hz⟩, by simp [intOf]; omega⟩
    · go_wp2_with fail
      go_ret
      exact ⟨rfl, hw⟩

set_option maxHeartbeats 1000000 in
set_option maxRecDepth 100000 in
theorem plays_zero (a : Option Addr) (cap K : Nat) (w : World) (hK : w.cell? ⟨K, 0, none⟩ = some (.int .i64 2)) (hKb : K < w.heap.size) :
    Calls Tryz.prog 11 #[.slice a 0 cap, .slice (some ⟨K, 0, none⟩) 1 1] w fun e w' => e = .returned (.bool true) ∧ Below w.heap.size w w' := by
  go_enter Tryz.func11, Tryz.ntmps11
  go_wp2_with fail
  refine (wstep_any _ 2 2 0 0 ⟨#[97]⟩ (.slice none 0 0) (.slice none 0 0) (.slice none 0 0) _).mono ?_
  rintro e w1 ⟨rfl, hb1⟩
  have hw0 : Below w.heap.size w w1 := ((Below.refl _ _).alloc (Nat.le_refl _) _).trans (hb1.mono (by simp))
  clear hb1
  go_wp2_with fail
  refine wp_loop_rounds 1 ?_
  rw [rounds_succ]
  go_wp2_with fail
  go_ret
  exact ⟨rfl, hw0⟩

set_option maxHeartbeats 400000 in
theorem checks_zero (a : Option Addr) (cap : Nat) (w : World) :
    Calls Tryz.prog 4 #[.slice a 0 cap] w fun e w' => e = .returned (.bool true) ∧ Below w.heap.size w w' := by
  go_enter Tryz.func4, Tryz.ntmps4
  go_wp2_with fail
  refine (plays_zero a cap w.heap.size _ (by rw [World.cell?_alloc_at _ _ _ _ rfl]; rfl) (by simp)).mono ?_
  rintro e w1 ⟨rfl, hb⟩
  go_wp2_with fail
  go_ret
  exact ⟨rfl, ((Below.refl _ _).alloc (Nat.le_refl _) _).trans (hb.mono (by simp))⟩

theorem script_alloc {w : World} {b off len : Nat} (o : Obj) (h : ScriptAt w b off len) (hb : b < w.heap.size) : ScriptAt (w.alloc o) b off len := by
  intro i hi
  obtain ⟨k, a, b', c, d, s, l, n, f, h⟩ := h i hi
  unfold OpAt at h
  refine ⟨k, a, b', c, d, s, l, n, f, ?_⟩
  unfold OpAt
  rw [World.cell?_alloc_past _ _ _ hb, World.cell?_alloc_past _ _ _ hb, World.cell?_alloc_past _ _ _ hb, World.cell?_alloc_past _ _ _ hb, World.cell?_alloc_past _ _ _ hb, World.cell?_alloc_past _ _ _ hb, World.cell?_alloc_past _ _ _ hb, World.cell?_alloc_past _ _ _ hb, World.cell?_alloc_past _ _ _ hb]
  exact h

set_option maxHeartbeats 400000 in
theorem checks_any (b off len cap : Nat) (w : World) (hlen : len ≤ 9223372036854775807) (hS : ScriptAt w b off len) (hb : b < w.heap.size) :
    Calls Tryz.prog 4 #[.slice (some ⟨b, off, none⟩) len cap] w fun e w' => e = .returned (.bool true) ∧ Below w.heap.size w w' := by
  go_enter Tryz.func4, Tryz.ntmps4
  go_wp2_with fail
  refine (plays_any b off len cap w.heap.size _ hlen (script_alloc _ hS hb) (by simp; omega) (by rw [World.cell?_alloc_at _ _ _ _ rfl]; rfl) (by simp)).mono ?_
  rintro e w1 ⟨rfl, hb1⟩
  go_wp2_with fail
  go_ret
  exact ⟨rfl, ((Below.refl _ _).alloc (Nat.le_refl _) _).trans (hb1.mono (by simp))⟩
end Go.Proofs.YtbkepgmgebmceaaGreatDoor

namespace Go.Proofs.YtbkepgmgebmceaaGreatDoor.Own
open Go.RowKit Go.Proofs.YtbkepgmgebmceaaGreatDoor Go.Proofs.YtbkepgmgebmceaaGreatDoor.Spl
set_option linter.unusedVariables false

/-- k entries, each of the cells c. -/
def repG (c : List Value) : Nat → List Value
  | 0 => []
  | k + 1 => c ++ repG c k
theorem repG_len (c : List Value) : ∀ k, (repG c k).length = k * c.length
  | 0 => by simp [repG]
  | k + 1 => by rw [repG, List.length_append, repG_len c k, Nat.succ_mul, Nat.add_comm]
theorem repG_add (c : List Value) : ∀ a b, repG c a ++ repG c b = repG c (a + b)
  | 0, b => by simp [repG]
  | a + 1, b => by rw [repG, List.append_assoc, repG_add c a b, show a + 1 + b = (a + b) + 1 by omega, repG]
theorem repG_mem (c : List Value) : ∀ k, ∀ u ∈ repG c k, u ∈ c
  | 0, u, h => by simp [repG] at h
  | k + 1, u, h => by
    rw [repG] at h
    rcases List.mem_append.1 h with h | h
    · exact h
    · exact repG_mem c k u h
theorem repG_pre (c : List Value) (q p j : Nat) (h : q ≤ p) (hj : j < q * c.length) : (repG c p)[j]? = (repG c q)[j]? := by
  rw [show p = q + (p - q) by omega, ← repG_add, List.getElem?_append_left (by rw [repG_len]; exact hj)]
theorem repG_at (c : List Value) : ∀ (k i f : Nat), i < k → f < c.length → (repG c k)[i * c.length + f]? = c[f]?
  | 0, i, f, h, _ => by omega
  | k + 1, 0, f, _, hf => by rw [repG, Nat.zero_mul, Nat.zero_add, List.getElem?_append_left hf]
  | k + 1, i + 1, f, h, hf => by
    rw [repG, List.getElem?_append_right (by rw [Nat.succ_mul]; omega), show (i + 1) * c.length + f - c.length = i * c.length + f by rw [Nat.succ_mul]; omega]
    exact repG_at c k i f (by omega) hf
theorem repG_take (c : List Value) (n k : Nat) (h : n ≤ k) : (repG c k).take (n * c.length) = repG c n := by
  rw [show k = n + (k - n) by omega, ← repG_add, ← repG_len c n, List.take_left]

/-- What is asked of a kind of lists. -/
structure Fam (st e : TypeId) (size bytes : Nat) (i0 : TypeInfo) (z : Value) : Prop where
  und : Tryz.prog.underlying st = some (.slice e)
  info : Tryz.prog.info? e = some i0
  zero : i0.zero = some z
  sz : i0.size = size
  by_ : i0.bytes = bytes
  zs : z.cells.size = size
  pos : 0 < size

/-- A list all of whose entries are the mark c. -/
def MkG (e : TypeId) (w : World) (u : Value) (k : Nat) (c : List Value) : Prop :=
  ∃ a cap, u = .slice a k cap ∧ (0 < k → ∃ g, a = some ⟨g, 0, none⟩ ∧ (∃ cs fz, w.heap[g]? = some (.cells cs e fz)) ∧ ∀ j, j < k * c.length → w.cell? ⟨g, j, none⟩ = (repG c k)[j]?)

theorem lt_of_heap {w : World} {g : Nat} {o : Obj} (h : w.heap[g]? = some o) : g < w.heap.size := (Array.getElem?_eq_some_iff.1 h).1

/-- A list of marks is not touched by what is done to other blocks. -/
theorem MkG.blocks {e : TypeId} {w w' : World} {u : Value} {k : Nat} {c : List Value} (h : MkG e w u k c) (hb : ∀ g cs fz, u.ownBlock = some g → w.heap[g]? = some (.cells cs e fz) → w'.heap[g]? = w.heap[g]?) : MkG e w' u k c := by
  obtain ⟨a, cap, rfl, hc⟩ := h
  refine ⟨a, cap, rfl, fun hk => ?_⟩
  obtain ⟨g, rfl, ⟨cs, fz, hh⟩, hcell⟩ := hc hk
  have hblk := hb g cs fz rfl hh
  exact ⟨g, rfl, ⟨cs, fz, by rw [hblk]; exact hh⟩, fun j hj => by rw [World.cell?_of_block (w := w) (a := ⟨g, j, none⟩) hblk]; exact hcell j hj⟩
theorem MkG.later {e : TypeId} {w w' : World} {u : Value} {k : Nat} {c : List Value} (h : MkG e w u k c) (hb : Below w.heap.size w w') : MkG e w' u k c :=
  h.blocks fun g cs fz _ hh => hb.block g (lt_of_heap hh)
theorem MkG.none {e : TypeId} {w w' : World} {u : Value} {k : Nat} {c : List Value} (h : MkG e w u k c) (hg : w.grownBy w' none) : MkG e w' u k c :=
  h.blocks fun g cs fz _ hh => hg.block g (lt_of_heap hh) (by simp)
theorem MkG.far {e : TypeId} {w w' : World} {u : Value} {k : Nat} {c : List Value} {row : Option Nat} (h : MkG e w u k c) (hg : w.grownBy w' row) (hr : ∀ r, row = some r → ∃ cs t fz, w.heap[r]? = some (.cells cs t fz) ∧ t ≠ e) : MkG e w' u k c :=
  h.blocks fun g cs fz _ hh => hg.block g (lt_of_heap hh) (fun er => by
    obtain ⟨cs', t, fz', h1, h2⟩ := hr g er.symm
    rw [hh] at h1
    simp at h1
    exact h2 h1.2.1.symm)
theorem MkG.of_owns {e : TypeId} {w : World} {base k : Nat} {v : Value} {c : List Value} (h : w.ownsRow base e c.length v k (repG c k)) : MkG e w v k c := by
  rcases h.2 with ⟨rfl, rfl⟩ | ⟨g, cap, cur, rfl, hb, hh, hn, hcap, hsz, ht⟩
  · exact ⟨_, _, rfl, fun h => by omega⟩
  · exact ⟨_, _, rfl, fun _ => ⟨g, rfl, ⟨cur, _, hh⟩, fun j hj => h.cellAt j hj⟩⟩

theorem owns_to {w : World} {base base' : Nat} {e : TypeId} {size : Nat} {v : Value} {n : Nat} {xs : List Value} (h : w.ownsRow base e size v n xs) (hb : base' ≤ base) : w.ownsRow base' e size v n xs :=
  ⟨h.1, h.2.imp id fun ⟨g, cap, cur, h1, h2, h3⟩ => ⟨g, cap, cur, h1, by omega, h3⟩⟩

/-- What an append of marks leaves. -/
structure MarkedG (e : TypeId) (w w' : World) (base n k : Nat) (c : List Value) (v v' : Value) : Prop where
  new : w'.ownsRow base e c.length v' (n + k) (repG c (n + k))
  old : w'.ownsRow base e c.length v n (repG c n)
  keep : ∀ u q, q ≤ n + k → MkG e w u q c → MkG e w' u q c
  grown : w.grownBy w' v.ownBlock
  loc : ∀ g, v'.ownBlock = some g → v.ownBlock = some g ∨ w.heap.size ≤ g

theorem run_markG {st e : TypeId} {size bytes : Nat} {i0 : TypeInfo} {z : Value} (hF : Fam st e size bytes i0 z) (w : World) (ty base n k : Nat) (c : List Value) (hc0 : c.length = size) (h1 : ∀ u ∈ c, u.oneCell' = true) (v : Value) (hown : w.ownsRow base e c.length v n (repG c n)) (ad : Addr) (cc : Nat) (hc : ∀ j u, (repG c k)[j]? = some u → w.cell? (ad.add j) = some u)
    (hk : 0 < k) (hb : n + k ≤ 9223372036854775807) (hby : (n + k) * bytes ≤ 140737488355328) (hbase : base ≤ w.heap.size) :
    ∃ v' w', (Builtin.append_ #[st, st] ty #[v, .slice (some ad) k cc]).run Tryz.prog w = .ok v' w' ∧ MarkedG e w w' base n k c v v' := by
  have h1c : ∀ u ∈ repG c k, u.oneCell' = true := fun u hu => h1 u (repG_mem c k u hu)
  have hsz1 : i0.size = c.length := by rw [hc0]; exact hF.sz
  have hzs : z.cells.size = c.length := by rw [hc0]; exact hF.zs
  have hpos : 0 < c.length := by rw [hc0]; exact hF.pos
  have hlen := repG_len c k
  have hown0 := hown
  rcases hown.2 with ⟨rfl, rfl⟩ | ⟨g, cap, cur, rfl, hgb, hh, hn, hcap, hsz, ht⟩
  · obtain ⟨v', w', hrun, r1, r2, _⟩ := run_append_own (P := Tryz.prog) w w.heap.size st ty e i0 z c.length bytes hF.und hF.info hF.zero hsz1 hF.by_ hzs hpos (.slice none 0 0) 0 [] (World.ownsRow_nil w _ e _) ad k cc (repG c k) hlen hc h1c (by unfold maxLen; omega) hby (Nat.le_refl _)
    refine ⟨v', w', hrun, ?_, World.ownsRow_nil _ _ _ _, fun u q _ hu => hu.none r2, r2, fun g hg => .inr (r1.lt g hg).1⟩
    exact owns_to (by simpa using r1) hbase
  · by_cases hfit : n + k ≤ cap
    · obtain ⟨w', hrun, r1, r2⟩ := run_append_fits (P := Tryz.prog) w base st ty e i0 c.length hF.und hF.info hsz1 g n cap (repG c n) hown0 ad k cc (repG c k) hlen hc h1c hfit
      rw [repG_add] at r1
      refine ⟨_, w', hrun, r1, ?_, fun u q hq hu => ?_, r2, fun g' hg' => .inl hg'⟩
      · rcases r1.2 with ⟨h', _⟩ | ⟨g', cap', cur', h', hb', hh', hn', hc', hs', ht'⟩
        · cases h'
        · cases h'
          refine ⟨by rw [repG_len], .inr ⟨g, cap, cur', rfl, hb', hh', by omega, hc', hs', ?_⟩⟩
          have := congrArg (List.take (n * c.length)) ht'
          rw [List.take_take, Nat.min_eq_left (Nat.mul_le_mul_right _ (by omega)), repG_take c n (n + k) (by omega)] at this
          exact this
      · obtain ⟨a, cap2, rfl, hcu⟩ := hu
        refine ⟨a, cap2, rfl, fun hq0 => ?_⟩
        obtain ⟨gu, rfl, ⟨cs, fz, hhu⟩, hcell⟩ := hcu hq0
        by_cases e1 : gu = g
        · subst e1
          rcases r1.2 with ⟨h', _⟩ | ⟨g', cap', cur', h', hb', hh', _⟩
          · cases h'
          · cases h'
            refine ⟨gu, rfl, ⟨cur', _, hh'⟩, fun j hj => ?_⟩
            rw [r1.cellAt j (Nat.lt_of_lt_of_le hj (Nat.mul_le_mul_right _ hq)), repG_pre c q (n + k) j hq hj]
        · have hblk := r2.block gu (lt_of_heap hhu) (by simp; exact e1)
          exact ⟨gu, rfl, ⟨cs, fz, by rw [hblk]; exact hhu⟩, fun j hj => by rw [World.cell?_of_block (w := w) (a := ⟨gu, j, none⟩) hblk]; exact hcell j hj⟩
    · obtain ⟨v', w', hrun, r1, r2⟩ := run_append_arg_grows (P := Tryz.prog) w st ty e i0 z c.length bytes hF.und hF.info hF.zero hsz1 hF.by_ hzs hpos ⟨g, 0, none⟩ n cap (repG c n) (repG_len c n) (fun j u hj => by
          have hjn : j < n * c.length := by
            rcases Nat.lt_or_ge j (n * c.length) with h' | h'
            · exact h'
            · rw [List.getElem?_eq_none (by rw [repG_len]; exact h')] at hj; simp at hj
          rw [show (⟨g, 0, none⟩ : Addr).add j = ⟨g, j, none⟩ by unfold Addr.add; split <;> simp_all]
          rw [hown0.cellAt j hjn]; exact hj) ad k cc (repG c k) hlen hc (by omega) (by unfold maxLen; omega) hby
      rw [repG_add] at r1
      exact ⟨v', w', hrun, owns_to r1 hbase, hown0.kept r2 (Classical.em _), fun u q _ hu => hu.none r2, ⟨r2.os, r2.tape, r2.output, r2.size, fun j hj _ => r2.block j hj (by simp)⟩, fun g' hg' => .inr (r1.lt g' hg').1⟩

theorem wpList_markG {st e : TypeId} {size bytes : Nat} {i0 : TypeInfo} {z : Value} (hF : Fam st e size bytes i0 z) (w : World) {ops : Array Oper} {rest : List Oper} {o : Oper} {a : Act} {Q : Exit → Act → World → Prop}
    (hg : o.guard = none) (s x : Operand) (hop : o.op = Op.call { callee := Callee.builtin Builtin.append, args := #[s, x], argTypes := #[st, st] })
    (base n k : Nat) (c : List Value) (hc0 : c.length = size) (h1 : ∀ u ∈ c, u.oneCell' = true) (v : Value) (hs : a.eval s = v) (hown : w.ownsRow base e c.length v n (repG c n)) (ad : Addr) (cc : Nat) (hx : a.eval x = .slice (some ad) k cc) (hc : ∀ j u, (repG c k)[j]? = some u → w.cell? (ad.add j) = some u)
    (hk : 0 < k) (hb : n + k ≤ 9223372036854775807) (hby : (n + k) * bytes ≤ 140737488355328) (hbase : base ≤ w.heap.size)
    (h : ∀ g cap w', MarkedG e w w' base n k c v (.slice (some ⟨g, 0, none⟩) (n + k) cap) → wpList Tryz.prog ops Q rest (a.put o.dst (.slice (some ⟨g, 0, none⟩) (n + k) cap)) w') :
    wpList Tryz.prog ops Q (o :: rest) a w := by
  refine wpList_plain hg fun K hK' => ?_
  obtain ⟨v', w', hrun, r⟩ := run_markG hF w o.type base n k c hc0 h1 v hown ad cc hc hk hb hby hbase
  unfold Oper.wp
  simp [execOp, hop, resolve, invoke, builtin, hs, hx, hrun, Result.andThen]
  obtain ⟨a', cap', hv', hsome⟩ := owns_forms r.new
  obtain ⟨g, rfl⟩ := hsome (by omega)
  subst hv'
  exact hK' _ _ (h g cap' w' r)

/-- A list that came out, and the three begun at it. -/
structure KeptG (e : TypeId) (w : World) (l o t h : Value) (n : Nat) (c : List Value) : Prop where
  fa : MkG e w l n c
  fb : MkG e w o (n + 1) c
  fc : MkG e w t (n + 2) c
  fd : MkG e w h (n + 3) c
theorem KeptG.later {e : TypeId} {w w' : World} {l o t h : Value} {n : Nat} {c : List Value} (k : KeptG e w l o t h n c) (hb : Below w.heap.size w w') : KeptG e w' l o t h n c :=
  ⟨k.fa.later hb, k.fb.later hb, k.fc.later hb, k.fd.later hb⟩
theorem KeptG.far {e : TypeId} {w w' : World} {l o t h : Value} {n : Nat} {c : List Value} {row : Option Nat} (k : KeptG e w l o t h n c) (hg : w.grownBy w' row) (hr : ∀ r, row = some r → ∃ cs t fz, w.heap[r]? = some (.cells cs t fz) ∧ t ≠ e) : KeptG e w' l o t h n c :=
  ⟨k.fa.far hg hr, k.fb.far hg hr, k.fc.far hg hr, k.fd.far hg hr⟩
end Go.Proofs.YtbkepgmgebmceaaGreatDoor.Own
