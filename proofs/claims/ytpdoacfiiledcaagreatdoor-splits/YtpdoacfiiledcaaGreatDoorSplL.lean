import Derived.Test.YtpdoacfiiledcaaGreatDoorSplK
import Derived.Deep.RegionLaw
namespace Go.Proofs.YtpdoacfiiledcaaGreatDoor.Spl
open Go.RowKit Go.Proofs.YtpdoacfiiledcaaGreatDoor Go.Proofs.YtpdoacfiiledcaaGreatDoor.SiftM
set_option linter.unusedVariables false

theorem Tryz.info111 : (Tryz.prog.info? 111).map (fun i => (i.zero, i.size, i.bytes)) = some (some (.agg #[.slice none 0 0, .slice none 0 0, .slice none 0 0, .slice none 0 0, .int .i64 0]), 5, 104) := by kernel_rfl

/-- One list that came out: it, and the three begun at it. -/
structure One where
  l : Value
  o : Value
  t : Value
  h : Value
  n : Nat
def oneV (x : One) (i : Nat) : List Value := [x.l, x.o, x.t, x.h, .int .i64 (i : Int)]
def rowF : Nat → List One → List Value
  | _, [] => []
  | i, x :: t => oneV x i ++ rowF (i + 1) t
theorem rowF_append : ∀ (F G : List One) (i : Nat), rowF i (F ++ G) = rowF i F ++ rowF (i + F.length) G
  | [], _, _ => rfl
  | x :: t, G, i => by simp only [List.cons_append, rowF, rowF_append t G (i + 1), List.append_assoc, List.length_cons]; rw [show i + 1 + t.length = i + (t.length + 1) by omega]
theorem rowF_len : ∀ (F : List One) (i : Nat), (rowF i F).length = F.length * 5
  | [], _ => rfl
  | x :: t, i => by simp only [rowF, List.length_append, rowF_len t (i + 1), List.length_cons]; simp [oneV]; omega
/-- The fields of entry i. -/
theorem rowF_get : ∀ (F : List One) (i b : Nat) (x : One), F[i]? = some x → ∀ j, j < 5 → (rowF b F)[i * 5 + j]? = (oneV x (b + i))[j]?
  | [], i, b, x, h, j, hj => by simp at h
  | y :: t, 0, b, x, h, j, hj => by
    simp at h; subst h
    simp only [rowF]
    rw [List.getElem?_append_left (by simp [oneV]; omega)]
    simp
  | y :: t, i + 1, b, x, h, j, hj => by
    simp only [rowF]
    rw [List.getElem?_append_right (by simp [oneV]; omega)]
    have := rowF_get t i (b + 1) x (by simpa using h) j hj
    rw [show (i + 1) * 5 + j - (oneV y b).length = i * 5 + j by simp [oneV]; omega, this, show b + 1 + i = b + (i + 1) by omega]
def rowV (F : List One) : List Value := rowF 0 F
theorem rowV_snoc (F : List One) (x : One) : rowV (F ++ [x]) = rowV F ++ oneV x F.length := by
  unfold rowV; rw [rowF_append]; simp [rowF]

/-- The lists that came out, at block P. -/
structure Inv (w : World) (P : Nat) (F : List One) (v : Value) : Prop where
  hP : w.heap[P]? = some (.cells #[.slice none 0 0, .slice none 0 0, v, .slice none 0 0, .slice none 0 0, .slice none 0 0] 64 (0, 0))
  own : w.ownsRow (P + 1) 111 5 v F.length (rowV F)
  kept : ∀ i x, F[i]? = some x → Kept w x.l x.o x.t x.h x.n i

theorem heap_lt {w : World} {g : Nat} {o : Obj} (h : w.heap[g]? = some o) : g < w.heap.size := by
  rcases Nat.lt_or_ge g w.heap.size with h' | h'
  · exact h'
  · rw [Array.getElem?_eq_none h'] at h; simp at h
theorem inv_later {w w' : World} {P : Nat} {F : List One} {v : Value} (h : Inv w P F v) (hb : Below w.heap.size w w') : Inv w' P F v :=
  ⟨by rw [hb.block P (heap_lt h.hP)]; exact h.hP, owns_below h.own hb, fun i x hx => kept_later (h.kept i x hx) hb⟩

/-- A list of marks is not touched by what is done to a block of another kind. -/
theorem mk_far {w w' : World} {u : Value} {k m : Nat} {row : Option Nat} (hg : w.grownBy w' row) (hr : ∀ r, row = some r → ∃ cs t fz, w.heap[r]? = some (.cells cs t fz) ∧ t ≠ 9) (h : Mk w u k m) : Mk w' u k m := by
  obtain ⟨a, cap, rfl, hc⟩ := h
  refine ⟨a, cap, rfl, fun hk => ?_⟩
  obtain ⟨g, rfl, ⟨c9, fz, hh⟩, hcell⟩ := hc hk
  have hne : some g ≠ row := by
    intro e
    obtain ⟨cs, t, fz', h1, h2⟩ := hr g e.symm
    rw [hh] at h1
    simp at h1
    exact h2 h1.2.1.symm
  have hblk := hg.block g (heap_lt hh) hne
  exact ⟨g, rfl, ⟨c9, fz, by rw [hblk]; exact hh⟩, fun j hj => by rw [World.cell?_of_block (w := w) (a := ⟨g, j, none⟩) hblk]; exact hcell j hj⟩
theorem kept_far {w w' : World} {l o t h : Value} {n m : Nat} {row : Option Nat} (hg : w.grownBy w' row) (hr : ∀ r, row = some r → ∃ cs t fz, w.heap[r]? = some (.cells cs t fz) ∧ t ≠ 9) (k : Kept w l o t h n m) : Kept w' l o t h n m :=
  ⟨mk_far hg hr k.a, mk_far hg hr k.b, mk_far hg hr k.c, mk_far hg hr k.d, k.hn⟩
theorem own_kind {w : World} {base n size : Nat} {v : Value} {xs : List Value} (h : w.ownsRow base 111 size v n xs) : ∀ r, v.ownBlock = some r → ∃ cs t fz, w.heap[r]? = some (.cells cs t fz) ∧ t ≠ 9 := by
  intro r hr
  rcases h.2 with ⟨rfl, _⟩ | ⟨g, cap, cur, rfl, _, hh, _⟩
  · simp [Value.ownBlock] at hr
  · simp [Value.ownBlock] at hr
    subst hr
    exact ⟨cur, 111, _, hh, by decide⟩

/-- The lists with one more, behind the append and the store. -/
theorem inv_push {W w1 : World} {P g cap : Nat} {F : List One} {v : Value} {x : One} (hI : Inv W P F v) (hg : W.grownBy w1 v.ownBlock) (hk : Kept W x.l x.o x.t x.h x.n F.length)
    (hown : w1.ownsRow (P + 1) 111 5 (.slice (some ⟨g, 0, none⟩) (F.length + 1) cap) (F.length + 1) (rowV F ++ oneV x F.length)) :
    Inv (w1.setCell ⟨P, 2, none⟩ (.slice (some ⟨g, 0, none⟩) (F.length + 1) cap)) P (F ++ [x]) (.slice (some ⟨g, 0, none⟩) (F.length + 1) cap) := by
  have hPlt := heap_lt hI.hP
  have hPne : some P ≠ v.ownBlock := by
    intro e
    have := (hI.own.lt P e.symm).1
    omega
  have hP1 : w1.heap[P]? = some (.cells #[.slice none 0 0, .slice none 0 0, v, .slice none 0 0, .slice none 0 0, .slice none 0 0] 64 (0, 0)) := by rw [hg.block P hPlt hPne]; exact hI.hP
  have hset : w1.grownBy (w1.setCell ⟨P, 2, none⟩ (.slice (some ⟨g, 0, none⟩) (F.length + 1) cap)) (some P) :=
    ⟨rfl, rfl, rfl, by simp [World.setCell], fun k hk hn => Below.heap_setCell _ _ _ _ (fun e => hn (by rw [e]))⟩
  have hr : ∀ r, some P = some r → ∃ cs t fz, w1.heap[r]? = some (.cells cs t fz) ∧ t ≠ 9 := by
    intro r e; injection e with e; subst e; exact ⟨_, 64, _, hP1, by decide⟩
  refine ⟨?_, ?_, ?_⟩
  · rw [heap_setCell_same w1 P 2 _ 64 _ hP1]; rfl
  · rw [rowV_snoc, List.length_append]
    exact ownsRow_setCell_below hown (by simp) _
  · intro i y hy
    by_cases hi : i < F.length
    · rw [List.getElem?_append_left hi] at hy
      exact kept_far hset hr (kept_far hg (own_kind hI.own) (hI.kept i y hy))
    · rw [List.getElem?_append_right (by omega)] at hy
      have he : i = F.length := by
        rcases Nat.lt_or_ge (i - F.length) 1 with h' | h'
        · omega
        · rw [List.getElem?_eq_none (by simpa using h')] at hy; simp at hy
      subst he
      simp at hy
      subst hy
      exact kept_far hset hr (kept_far hg (own_kind hI.own) hk)
end Go.Proofs.YtpdoacfiiledcaaGreatDoor.Spl
