import Derived.Test.YtpdoacfiiledcaaGreatDoorV05
import Derived.Test.YtpdoacfiiledcaaGreatDoorV08

namespace Go.Proofs.YtpdoacfiiledcaaGreatDoor.Own
open Go.RowKit Go.Proofs.YtpdoacfiiledcaaGreatDoor Go.Proofs.YtpdoacfiiledcaaGreatDoor.Spl
set_option linter.unusedVariables false

set_option maxHeartbeats 1000000 in
set_option maxRecDepth 100000 in
theorem allT_any (n m : Nat) (u : Value) (w : World) (hm : m ≤ 4611686018427387904) (hn : n ≤ 2000000000) (h : MkG 226 w u n (mtC m)) :
    Calls Tryz.prog 123 #[u, .int .i64 m] w fun e w' => e = .returned (.bool true) ∧ Below w.heap.size w w' := by
  have q1 := mt_wrap m hm
  obtain ⟨a, cap, rfl, hc⟩ := h
  have HC := hide hc
  clear hc
  go_enter Tryz.func123, Tryz.ntmps123
  go_wp2_with fail
  go_loopw [5] (fun i wr => ∃ k : Nat, k ≤ n ∧ i = .int .i64 k ∧ Below w.heap.size w wr) (fun i _ => n - (intOf i).toNat)
  case atStart => exact ⟨0, Nat.zero_le _, rfl, Below.refl _ _⟩
  case round =>
    obtain ⟨k, hk, rfl, hb⟩ := hrel
    by_cases hlt : k < n
    · obtain ⟨g, rfl, ⟨cs, fz, hh⟩, hcell⟩ := HC.out (by omega)
      have hg := lt_of_heap hh
      have p0 : wr.cell? ⟨g, k * 2, none⟩ = some (.int .i64 (mt m)) := by
        rw [hb.cell (p := ⟨g, k * 2, none⟩) hg, hcell (k * 2) (by simp; omega)]
        have := repG_at (mtC m) n k 0 hlt (by simp)
        simpa using this
      have p1 : wr.cell? ⟨g, k * 2 + 1, none⟩ = some (.slice none 0 0) := by
        rw [hb.cell (p := ⟨g, k * 2 + 1, none⟩) hg, hcell (k * 2 + 1) (by simp; omega)]
        have := repG_at (mtC m) n k 1 hlt (by simp)
        simpa using this
      have h3 : (k : Int) < (n : Int) := by omega
      have h4 : (0 : Int) ≤ (k : Int) := by omega
      have HB := hide hb
      clear hcell HC hh hb
      go_wp2_with fail
      exact ⟨⟨k + 1, by omega, by go_num, HB.out⟩, by simp [intOf]; omega⟩
    · go_wp2_with fail
      go_ret
      exact ⟨rfl, hb⟩

set_option maxHeartbeats 1000000 in
set_option maxRecDepth 100000 in
theorem stillT_any (n m : Nat) (l o t h : Value) (w : World) (hm : m ≤ 4611686018427387904) (hn : n ≤ 1000000000) (hk : KeptG 226 w l o t h n (mtC m)) :
    Calls Tryz.prog 52 #[.agg #[l, o, t, h, .int .i64 m]] w fun e w' => e = .returned (.bool true) ∧ Below w.heap.size w w' := by
  have hb0 : Below w.heap.size w (w.alloc (.cells #[l, o, t, h, .int .i64 m] 119)) := (Below.refl _ _).alloc (Nat.le_refl _) _
  have hk0 := hide (hk.later hb0)
  obtain ⟨a1, c1, rfl, _⟩ := hk.fa
  obtain ⟨a2, c2, rfl, _⟩ := hk.fb
  obtain ⟨a3, c3, rfl, _⟩ := hk.fc
  obtain ⟨a4, c4, rfl, _⟩ := hk.fd
  have HB := hide hb0
  clear hk hb0
  go_enter Tryz.func52, Tryz.ntmps52
  go_wp2_with fail
  refine (allT_any n m _ _ hm (by omega) hk0.out.fa).mono ?_
  rintro e w1 ⟨rfl, hb1⟩
  rw [World.size_alloc] at hb1
  have hz1 : w.heap.size + 1 ≤ w1.heap.size := by simpa using hb1.size
  have d1 := box5 (j := 1) rfl hb1
  have d4 := box5 (j := 4) rfl hb1
  have hk1 := hide (hk0.out.later (hb1.mono (by simp)))
  go_wp2_with fail
  refine (allT_any (n + 1) m _ _ hm (by omega) hk1.out.fb).mono ?_
  rintro e w2 ⟨rfl, hb2⟩
  have hz2 := hb2.size
  have hb2' := hb1.trans (hb2.mono hz1)
  have e2 := box5 (j := 2) rfl hb2'
  have e4 := box5 (j := 4) rfl hb2'
  have hk2 := hide (hk1.out.later hb2)
  clear d1 d4 hb2
  go_wp2_with fail
  refine (allT_any (n + 2) m _ _ hm (by omega) hk2.out.fc).mono ?_
  rintro e w3 ⟨rfl, hb3⟩
  have hz3 := hb3.size
  have hb3' := hb2'.trans (hb3.mono (by omega))
  have f3 := box5 (j := 3) rfl hb3'
  have f4 := box5 (j := 4) rfl hb3'
  have hk3 := hide (hk2.out.later hb3)
  clear e2 e4 hb3
  go_wp2_with fail
  refine (allT_any (n + 3) m _ _ hm (by omega) hk3.out.fd).mono ?_
  rintro e w4 ⟨rfl, hb4⟩
  have hz4 := hb4.size
  go_wp2_with fail
  go_ret
  exact ⟨rfl, (HB.out.trans (hb3'.mono (by omega))).trans (hb4.mono (by omega))⟩
end Go.Proofs.YtpdoacfiiledcaaGreatDoor.Own

namespace Go.Proofs.YtpdoacfiiledcaaGreatDoor.Own
open Go.RowKit Go.Proofs.YtpdoacfiiledcaaGreatDoor
open Go.Proofs.YtpdoacfiiledcaaGreatDoor.Spl
set_option linter.unusedVariables false

abbrev E1 := Go.Proofs.YtpdoacfiiledcaaGreatDoor.Spl.One
/-- What is said of an entry stays where another kind of block turns. -/
def Steady (e : TypeId) (K : World → E1 → Nat → Prop) : Prop :=
  ∀ w w' x i row, K w x i → w.grownBy w' row → (∀ r, row = some r → ∃ cs t fz, w.heap[r]? = some (.cells cs t fz) ∧ t ≠ e) → K w' x i
/-- E1 row of lists that came out. -/
def Row (T : TypeId) (K : World → E1 → Nat → Prop) (w : World) (P : Nat) (F : List E1) (v : Value) : Prop :=
  w.ownsRow (P + 1) T 5 v F.length (rowV F) ∧ ∀ i x, F[i]? = some x → K w x i

def K1 (w : World) (x : E1) (i : Nat) : Prop := KeptG 3 w x.l x.o x.t x.h x.n [.int .i64 (mt i)] ∧ x.n ≤ 1000000000
def K2 (w : World) (x : E1) (i : Nat) : Prop := Kept w x.l x.o x.t x.h x.n i
def K3 (w : World) (x : E1) (i : Nat) : Prop := KeptG 5 w x.l x.o x.t x.h x.n [.int .u8 (mb i)] ∧ x.n ≤ 100000000000
def K4 (w : World) (x : E1) (i : Nat) : Prop := KeptG 295 w x.l x.o x.t x.h x.n [.int .i64 (mt i), .int .i64 0, .int .i64 0, .int .i64 0, .int .i64 0, .int .i64 0] ∧ x.n ≤ 1000000000
def K5 (w : World) (x : E1) (i : Nat) : Prop := KeptG 226 w x.l x.o x.t x.h x.n (mtC i) ∧ x.n ≤ 1000000000
theorem s1 : Steady 3 K1 := fun w w' x i row h hg hr => ⟨h.1.far hg hr, h.2⟩
theorem s2 : Steady 9 K2 := fun w w' x i row h hg hr => kept_far hg hr h
theorem s3 : Steady 5 K3 := fun w w' x i row h hg hr => ⟨h.1.far hg hr, h.2⟩
theorem s4 : Steady 295 K4 := fun w w' x i row h hg hr => ⟨h.1.far hg hr, h.2⟩
theorem s5 : Steady 226 K5 := fun w w' x i row h hg hr => ⟨h.1.far hg hr, h.2⟩

theorem owns_farG {w w' : World} {base n size : Nat} {e : TypeId} {v : Value} {xs : List Value} {row : Option Nat} (h : w.ownsRow base e size v n xs) (hg : w.grownBy w' row) (hr : ∀ r, row = some r → ∃ cs t fz, w.heap[r]? = some (.cells cs t fz) ∧ t ≠ e) : w'.ownsRow base e size v n xs := by
  refine ⟨h.1, ?_⟩
  rcases h.2 with hn | ⟨g, cap, cur, rfl, hb, hh, rest⟩
  · exact .inl hn
  · refine .inr ⟨g, cap, cur, rfl, hb, ?_, rest⟩
    rw [hg.block g (lt_of_heap hh) (fun er => by
      obtain ⟨cs, t, fz, h1, h2⟩ := hr g er.symm
      rw [hh] at h1
      simp at h1
      exact h2 h1.2.1.symm)]
    exact hh
theorem own_kindG {w : World} {base n size : Nat} {T : TypeId} {v : Value} {xs : List Value} (h : w.ownsRow base T size v n xs) : ∀ r, v.ownBlock = some r → ∃ cs fz, w.heap[r]? = some (.cells cs T fz) := by
  intro r hr
  rcases h.2 with ⟨rfl, _⟩ | ⟨g, cap, cur, rfl, _, hh, _⟩
  · simp [Value.ownBlock] at hr
  · simp [Value.ownBlock] at hr
    subst hr
    exact ⟨cur, _, hh⟩
theorem grown_of_below {w w' : World} (h : Below w.heap.size w w') : w.grownBy w' none := ⟨h.os, h.tape, h.output, h.size, fun k hk _ => h.block k hk⟩

theorem Row.far {T e : TypeId} {K : World → E1 → Nat → Prop} (hK : Steady e K) {w w' : World} {P : Nat} {F : List E1} {v : Value} {row : Option Nat} (h : Row T K w P F v) (hg : w.grownBy w' row) (hr : ∀ r, row = some r → ∃ cs t fz, w.heap[r]? = some (.cells cs t fz) ∧ t ≠ e ∧ t ≠ T) : Row T K w' P F v :=
  ⟨owns_farG h.1 hg (fun r e1 => by obtain ⟨cs, t, fz, h1, h2, h3⟩ := hr r e1; exact ⟨cs, t, fz, h1, h3⟩), fun i x hx => hK _ _ _ _ _ (h.2 i x hx) hg (fun r e1 => by obtain ⟨cs, t, fz, h1, h2, h3⟩ := hr r e1; exact ⟨cs, t, fz, h1, h2⟩)⟩
/-- The row with one entry more. -/
theorem Row.push {T e : TypeId} (hTe : T ≠ e) {K : World → E1 → Nat → Prop} (hK : Steady e K) {w w' : World} {P : Nat} {F : List E1} {v v' : Value} {x : E1} (h : Row T K w P F v) (hg : w.grownBy w' v.ownBlock) (hk : K w x F.length)
    (hown : w'.ownsRow (P + 1) T 5 v' (F.length + 1) (rowV F ++ oneV x F.length)) : Row T K w' P (F ++ [x]) v' := by
  have hr : ∀ r, v.ownBlock = some r → ∃ cs t fz, w.heap[r]? = some (.cells cs t fz) ∧ t ≠ e := fun r e1 => by
    obtain ⟨cs, fz, h1⟩ := own_kindG h.1 r e1; exact ⟨cs, T, fz, h1, hTe⟩
  refine ⟨by rw [rowV_snoc, List.length_append]; exact hown, fun i y hy => ?_⟩
  by_cases hi : i < F.length
  · rw [List.getElem?_append_left hi] at hy
    exact hK _ _ _ _ _ (h.2 i y hy) hg hr
  · rw [List.getElem?_append_right (by omega)] at hy
    have he : i = F.length := by
      rcases Nat.lt_or_ge (i - F.length) 1 with h' | h'
      · omega
      · rw [List.getElem?_eq_none (by simpa using h')] at hy; simp at hy
    subst he
    simp at hy
    subst hy
    exact hK _ _ _ _ _ hk hg hr

/-- All lists that came out. -/
structure Ls where
  pv : Value
  v1 : Value
  v2 : Value
  v3 : Value
  v4 : Value
  v5 : Value
  F1 : List E1
  F2 : List E1
  F3 : List E1
  F4 : List E1
  F5 : List E1
structure Inv (w : World) (P : Nat) (L : Ls) : Prop where
  hP : w.heap[P]? = some (.cells #[L.pv, L.v1, L.v2, L.v3, L.v4, L.v5] 64 (0, 0))
  r1 : Row 109 K1 w P L.F1 L.v1
  r2 : Row 111 K2 w P L.F2 L.v2
  r3 : Row 114 K3 w P L.F3 L.v3
  r4 : Row 117 K4 w P L.F4 L.v4
  r5 : Row 119 K5 w P L.F5 L.v5

theorem Inv.later {w w' : World} {P : Nat} {L : Ls} (h : Inv w P L) (hb : Below w.heap.size w w') : Inv w' P L :=
  ⟨by rw [hb.block P (lt_of_heap h.hP)]; exact h.hP, h.r1.far s1 (grown_of_below hb) (fun r e => by cases e), h.r2.far s2 (grown_of_below hb) (fun r e => by cases e), h.r3.far s3 (grown_of_below hb) (fun r e => by cases e),
    h.r4.far s4 (grown_of_below hb) (fun r e => by cases e), h.r5.far s5 (grown_of_below hb) (fun r e => by cases e)⟩
/-- The world's own block turns in one cell. -/
theorem far_set {w : World} {P j : Nat} {x : Value} {cs : Array Value} (hP : w.heap[P]? = some (.cells cs 64 (0, 0))) (e T : TypeId) (h1 : 64 ≠ e) (h2 : 64 ≠ T) : ∀ r, some P = some r → ∃ cs t fz, w.heap[r]? = some (.cells cs t fz) ∧ t ≠ e ∧ t ≠ T := by
  intro r er; injection er with er; subst er; exact ⟨cs, 64, _, hP, h1, h2⟩
theorem Row.set {T e : TypeId} {K : World → E1 → Nat → Prop} (hK : Steady e K) (h1 : 64 ≠ e) (h2 : 64 ≠ T) {w : World} {P j : Nat} {F : List E1} {v x : Value} {cs : Array Value} (hP : w.heap[P]? = some (.cells cs 64 (0, 0))) (h : Row T K w P F v) : Row T K (w.setCell ⟨P, j, none⟩ x) P F v :=
  h.far hK (grown_cell w P j x) (far_set (j := j) (x := x) hP e T h1 h2)
theorem inv_ne {w : World} {P n size : Nat} {T : TypeId} {v : Value} {xs : List Value} (h : w.ownsRow (P + 1) T size v n xs) : some P ≠ v.ownBlock := fun e => by
  have := (h.lt P e.symm).1; omega
theorem far_row {T T' e : TypeId} {w : World} {base n size : Nat} {v : Value} {xs : List Value} (h : w.ownsRow base T size v n xs) (h1 : T ≠ e) (h2 : T ≠ T') : ∀ r, v.ownBlock = some r → ∃ cs t fz, w.heap[r]? = some (.cells cs t fz) ∧ t ≠ e ∧ t ≠ T' := fun r hr => by
  obtain ⟨cs, fz, hh⟩ := own_kindG h r hr; exact ⟨cs, T, fz, hh, h1, h2⟩

theorem Inv.push3 {W w1 : World} {P : Nat} {L : Ls} {v' : Value} {x : E1} (hI : Inv W P L) (hg : W.grownBy w1 L.v3.ownBlock) (hk : K3 W x L.F3.length) (hown : w1.ownsRow (P + 1) 114 5 v' (L.F3.length + 1) (rowV L.F3 ++ oneV x L.F3.length)) :
    Inv (w1.setCell ⟨P, 3, none⟩ v') P { L with F3 := L.F3 ++ [x], v3 := v' } := by
  have hP1 : w1.heap[P]? = some (.cells #[L.pv, L.v1, L.v2, L.v3, L.v4, L.v5] 64 (0, 0)) := by rw [hg.block P (lt_of_heap hI.hP) (inv_ne hI.r3.1)]; exact hI.hP
  have fr := fun (e T' : TypeId) (h1 : 114 ≠ e) (h2 : 114 ≠ T') => far_row hI.r3.1 h1 h2
  exact ⟨by rw [heap_setCell_same w1 P 3 _ 64 _ hP1]; rfl,
    (hI.r1.far s1 hg (fr 3 109 (by decide) (by decide))).set s1 (by decide) (by decide) hP1, (hI.r2.far s2 hg (fr 9 111 (by decide) (by decide))).set s2 (by decide) (by decide) hP1,
    (hI.r3.push (by decide) s3 hg hk hown).set s3 (by decide) (by decide) hP1, (hI.r4.far s4 hg (fr 295 117 (by decide) (by decide))).set s4 (by decide) (by decide) hP1,
    (hI.r5.far s5 hg (fr 226 119 (by decide) (by decide))).set s5 (by decide) (by decide) hP1⟩
theorem Inv.push5 {W w1 : World} {P : Nat} {L : Ls} {v' : Value} {x : E1} (hI : Inv W P L) (hg : W.grownBy w1 L.v5.ownBlock) (hk : K5 W x L.F5.length) (hown : w1.ownsRow (P + 1) 119 5 v' (L.F5.length + 1) (rowV L.F5 ++ oneV x L.F5.length)) :
    Inv (w1.setCell ⟨P, 5, none⟩ v') P { L with F5 := L.F5 ++ [x], v5 := v' } := by
  have hP1 : w1.heap[P]? = some (.cells #[L.pv, L.v1, L.v2, L.v3, L.v4, L.v5] 64 (0, 0)) := by rw [hg.block P (lt_of_heap hI.hP) (inv_ne hI.r5.1)]; exact hI.hP
  have fr := fun (e T' : TypeId) (h1 : 119 ≠ e) (h2 : 119 ≠ T') => far_row hI.r5.1 h1 h2
  exact ⟨by rw [heap_setCell_same w1 P 5 _ 64 _ hP1]; rfl,
    (hI.r1.far s1 hg (fr 3 109 (by decide) (by decide))).set s1 (by decide) (by decide) hP1, (hI.r2.far s2 hg (fr 9 111 (by decide) (by decide))).set s2 (by decide) (by decide) hP1,
    (hI.r3.far s3 hg (fr 5 114 (by decide) (by decide))).set s3 (by decide) (by decide) hP1, (hI.r4.far s4 hg (fr 295 117 (by decide) (by decide))).set s4 (by decide) (by decide) hP1,
    (hI.r5.push (by decide) s5 hg hk hown).set s5 (by decide) (by decide) hP1⟩
theorem Inv.push2 {W w1 : World} {P : Nat} {L : Ls} {v' : Value} {x : E1} (hI : Inv W P L) (hg : W.grownBy w1 L.v2.ownBlock) (hk : K2 W x L.F2.length) (hown : w1.ownsRow (P + 1) 111 5 v' (L.F2.length + 1) (rowV L.F2 ++ oneV x L.F2.length)) :
    Inv (w1.setCell ⟨P, 2, none⟩ v') P { L with F2 := L.F2 ++ [x], v2 := v' } := by
  have hP1 : w1.heap[P]? = some (.cells #[L.pv, L.v1, L.v2, L.v3, L.v4, L.v5] 64 (0, 0)) := by rw [hg.block P (lt_of_heap hI.hP) (inv_ne hI.r2.1)]; exact hI.hP
  have fr := fun (e T' : TypeId) (h1 : 111 ≠ e) (h2 : 111 ≠ T') => far_row hI.r2.1 h1 h2
  exact ⟨by rw [heap_setCell_same w1 P 2 _ 64 _ hP1]; rfl,
    (hI.r1.far s1 hg (fr 3 109 (by decide) (by decide))).set s1 (by decide) (by decide) hP1, (hI.r2.push (by decide) s2 hg hk hown).set s2 (by decide) (by decide) hP1,
    (hI.r3.far s3 hg (fr 5 114 (by decide) (by decide))).set s3 (by decide) (by decide) hP1, (hI.r4.far s4 hg (fr 295 117 (by decide) (by decide))).set s4 (by decide) (by decide) hP1,
    (hI.r5.far s5 hg (fr 226 119 (by decide) (by decide))).set s5 (by decide) (by decide) hP1⟩
end Go.Proofs.YtpdoacfiiledcaaGreatDoor.Own

namespace Go.Proofs.YtpdoacfiiledcaaGreatDoor.Own
open Go.RowKit Go.Proofs.YtpdoacfiiledcaaGreatDoor
open Go.Proofs.YtpdoacfiiledcaaGreatDoor.Spl
set_option linter.unusedVariables false

theorem Tryz.info114o : (Tryz.prog.info? 114).map (fun i => (i.zero, i.size, i.bytes)) = some (some (.agg #[.slice none 0 0, .slice none 0 0, .slice none 0 0, .slice none 0 0, .int .i64 0]), 5, 104) := by kernel_rfl
theorem Tryz.info111o : (Tryz.prog.info? 111).map (fun i => (i.zero, i.size, i.bytes)) = some (some (.agg #[.slice none 0 0, .slice none 0 0, .slice none 0 0, .slice none 0 0, .int .i64 0]), 5, 104) := by kernel_rfl
theorem Tryz.info119o : (Tryz.prog.info? 119).map (fun i => (i.zero, i.size, i.bytes)) = some (some (.agg #[.slice none 0 0, .slice none 0 0, .slice none 0 0, .slice none 0 0, .int .i64 0]), 5, 104) := by kernel_rfl
theorem inv_c2 {w : World} {P : Nat} {L : Ls} (h : Inv w P L) : w.cell? ⟨P, 2, none⟩ = some L.v2 ∧ w.frozen? ⟨P, 2, none⟩ = false := by simp [World.cell?, World.frozen?, h.hP]
theorem inv_c3 {w : World} {P : Nat} {L : Ls} (h : Inv w P L) : w.cell? ⟨P, 3, none⟩ = some L.v3 ∧ w.frozen? ⟨P, 3, none⟩ = false := by simp [World.cell?, World.frozen?, h.hP]
theorem inv_c5 {w : World} {P : Nat} {L : Ls} (h : Inv w P L) : w.cell? ⟨P, 5, none⟩ = some L.v5 ∧ w.frozen? ⟨P, 5, none⟩ = false := by simp [World.cell?, World.frozen?, h.hP]
theorem far2G (j : Nat) {w1 w2 : World} {P : Nat} {X Y : Obj} {row : Option Nat} {x : Value} (hP : P < w1.heap.size) (hne : some P ≠ row) (hg : ((w1.alloc X).alloc Y).drew.grownBy w2 row) (hc : w1.cell? ⟨P, j, none⟩ = some x) (hf : w1.frozen? ⟨P, j, none⟩ = false) :
    w2.cell? ⟨P, j, none⟩ = some x ∧ w2.frozen? ⟨P, j, none⟩ = false := by
  have hb : w2.heap[P]? = w1.heap[P]? := by
    rw [hg.block P (by show P < ((w1.alloc X).alloc Y).heap.size; simp; omega) hne]
    show ((w1.alloc X).alloc Y).heap[P]? = _
    rw [Below.heap_alloc _ _ _ (by simp; omega), Below.heap_alloc _ _ _ hP]
  exact ⟨by rw [World.cell?_of_block (w := w1) (a := ⟨P, j, none⟩) hb]; exact hc, by rw [World.frozen?_of_block (w := w1) (a := ⟨P, j, none⟩) hb]; exact hf⟩

set_option maxHeartbeats 1000000 in
set_option maxRecDepth 100000 in
theorem byte_any (P base n : Nat) (L : Ls) (l : Value) (ws : List Value) (w0 w : World) (hI : Inv w0 P L) (hb : Below w0.heap.size w0 w) (hbase : w0.heap.size ≤ base) (hbz : base ≤ w.heap.size)
    (hF : (L.F3.length + 1) * 104 ≤ 140737488355328) (hn : n ≤ 100000000000) (hown : w.ownsRow base 5 1 l n ws) :
    Calls Tryz.prog 81 #[.pointer (some ⟨P, 1, none⟩), l] w fun e w' => e = .returned (.tuple #[]) ∧ (∃ x v', Inv w' P { L with F3 := L.F3 ++ [x], v3 := v' }) ∧ Below P w w' := by
  obtain ⟨i0, hi, hz0, hz1, hz2⟩ := info_parts Tryz.info114o
  obtain ⟨a, cap, hv, _⟩ := owns_forms hI.r3.1
  have hPlt := lt_of_heap hI.hP
  have hI1 := hI.later hb
  obtain ⟨hc2, hf2⟩ := inv_c3 hI1
  rw [hv] at hc2
  obtain ⟨nF, hnF⟩ : ∃ nF, L.F3.length = nF := ⟨_, rfl⟩
  rw [hnF] at hc2 hF hv
  replace hI := hide hI
  replace hI1 := hide hI1
  replace hv := hide hv
  have HNF := hide hnF
  clear hnF

  go_enter Tryz.func81, Tryz.ntmps81
  go_wp2_with fail
  refine (ownB_any base n nF l ws _ (by omega) hbz hn hown).mono ?_
  rintro e w1 ⟨o, t, h, rfl, hk, hb1⟩
  obtain ⟨al, cl, rfl, _⟩ := id hk.fa
  obtain ⟨ao, co, rfl, _⟩ := id hk.fb
  obtain ⟨at', ct, rfl, _⟩ := id hk.fc
  obtain ⟨ah, ch, rfl, _⟩ := id hk.fd
  have hb2 : Below w0.heap.size w0 w1 := hb.trans (hb1.mono hbase)
  have hI2 := hI.out.later hb2
  obtain ⟨d2, e2⟩ := inv_c3 hI2
  rw [hv.out] at d2
  replace hI2 := hide hI2
  replace hk := hide hk
  clear hI1 hc2 hf2
  go_wp2_with fail
  have hP1 : P < w1.heap.size := by have := hb2.size; omega
  have hownv : Hid (w1.ownsRow (P + 1) 114 5 (.slice a nF cap) nF (rowV L.F3)) := by
    show World.ownsRow _ _ _ _ _ _ _
    have := hI2.out.r3.1
    rw [hv.out, HNF.out] at this; exact this
  have hne : some P ≠ (Value.slice a nF cap).ownBlock := inv_ne hownv.out
  have HB1 := hide hb1
  clear hown hb1
  go_region_law ((refine step_append_lies _ (by rfl) _ _ _ (by rfl) (P + 1) 114 i0 _ 5 104 Tryz.underlying58 hi hz0 hz1 hz2 rfl (by omega) (.slice a nF cap) nF (rowV L.F3) (by rfl) (((hownv.out.alloc _).alloc _).drew) ⟨w1.heap.size + 1, 0, none⟩ 1 1 [.slice al n cl, .slice ao (n + 1) co, .slice at' (n + 2) ct, .slice ah (n + 3) ch, .int .i64 (nF : Int)] (by rfl) (by rfl) (World.news_of_block (cs := #[.slice al n cl, .slice ao (n + 1) co, .slice at' (n + 2) ct, .slice ah (n + 3) ch, .int .i64 (nF : Int)]) (t := 114) (fr := (0, 0)) (heap_two w1 _ _)) (by simp [Value.oneCell']) (by omega) (by unfold maxLen; omega) (by omega) (by simp; omega) (w1.heap.size + 2) (by simp) ?_; intro g cap2 w2 hown2 hgrow hat hlt; obtain ⟨d3, e3⟩ := far2G 3 hP1 hne hgrow d2 e2))
  all_goals
    go_wp2_with fail
    go_end0
    have hgrow' := hgrow
    rw [← hv.out] at hgrow'
    refine ⟨rfl, ⟨⟨.slice al n cl, .slice ao (n + 1) co, .slice at' (n + 2) ct, .slice ah (n + 3) ch, n⟩, _, (hI2.out.later (two_below w1 _ _)).push3 hgrow' (by rw [HNF.out]; exact ⟨hk.out.later (two_below w1 _ _), hn⟩) (by rw [HNF.out]; exact hown2)⟩, ?_⟩
    have hbel : Below P w w2 := ((HB1.out.mono (by omega)).trans ((two_below w1 _ _).mono (by omega))).grown hgrow (by show P ≤ ((w1.alloc _).alloc _).heap.size; simp; omega) (fun k hk => by have := (hownv.out.lt k hk).1; omega)
    exact hbel.setCell (p := ⟨P, 3, none⟩) (Nat.le_refl P) _

set_option maxHeartbeats 1000000 in
set_option maxRecDepth 100000 in
theorem string_any5 (B : Nat) (P base n : Nat) (L : Ls) (l : Value) (ws : List Value) (w0 w : World) (hI : Inv w0 P L) (hb : Below w0.heap.size w0 w) (hbase : w0.heap.size ≤ base) (hbz : base ≤ w.heap.size)
    (hF : (L.F2.length + 1) * 104 ≤ 140737488355328) (hT : Tab B w) (hB : B ≤ P) (hn : n ≤ 900) (hown : w.ownsRow base 9 1 l n ws) :
    Calls Tryz.prog 74 #[.pointer (some ⟨P, 1, none⟩), l] w fun e w' => e = .returned (.tuple #[]) ∧ (∃ x v', Inv w' P { L with F2 := L.F2 ++ [x], v2 := v' }) ∧ Below P w w' := by
  obtain ⟨i0, hi, hz0, hz1, hz2⟩ := info_parts Tryz.info111o
  obtain ⟨a, cap, hv, _⟩ := owns_forms hI.r2.1
  have hPlt := lt_of_heap hI.hP
  have hI1 := hI.later hb
  obtain ⟨hc2, hf2⟩ := inv_c2 hI1
  rw [hv] at hc2
  obtain ⟨nF, hnF⟩ : ∃ nF, L.F2.length = nF := ⟨_, rfl⟩
  rw [hnF] at hc2 hF hv
  replace hI := hide hI
  replace hI1 := hide hI1
  replace hv := hide hv
  have HNF := hide hnF
  clear hnF
  replace hT := hide hT
  go_enter Tryz.func74, Tryz.ntmps74
  go_wp2_with fail
  refine (own_any B base n nF l ws _ (by omega) hT.out (by omega) hbz hn hown).mono ?_
  rintro e w1 ⟨o, t, h, rfl, hk, hb1⟩
  obtain ⟨al, cl, rfl, _⟩ := id hk.a
  obtain ⟨ao, co, rfl, _⟩ := id hk.b
  obtain ⟨at', ct, rfl, _⟩ := id hk.c
  obtain ⟨ah, ch, rfl, _⟩ := id hk.d
  have hb2 : Below w0.heap.size w0 w1 := hb.trans (hb1.mono hbase)
  have hI2 := hI.out.later hb2
  obtain ⟨d2, e2⟩ := inv_c2 hI2
  rw [hv.out] at d2
  replace hI2 := hide hI2
  replace hk := hide hk
  clear hI1 hc2 hf2
  go_wp2_with fail
  have hP1 : P < w1.heap.size := by have := hb2.size; omega
  have hownv : Hid (w1.ownsRow (P + 1) 111 5 (.slice a nF cap) nF (rowV L.F2)) := by
    show World.ownsRow _ _ _ _ _ _ _
    have := hI2.out.r2.1
    rw [hv.out, HNF.out] at this; exact this
  have hne : some P ≠ (Value.slice a nF cap).ownBlock := inv_ne hownv.out
  have HB1 := hide hb1
  clear hown hb1
  go_region_law ((refine step_append_lies _ (by rfl) _ _ _ (by rfl) (P + 1) 111 i0 _ 5 104 Tryz.underlying57 hi hz0 hz1 hz2 rfl (by omega) (.slice a nF cap) nF (rowV L.F2) (by rfl) (((hownv.out.alloc _).alloc _).drew) ⟨w1.heap.size + 1, 0, none⟩ 1 1 [.slice al n cl, .slice ao (n + 1) co, .slice at' (n + 2) ct, .slice ah (n + 3) ch, .int .i64 (nF : Int)] (by rfl) (by rfl) (World.news_of_block (cs := #[.slice al n cl, .slice ao (n + 1) co, .slice at' (n + 2) ct, .slice ah (n + 3) ch, .int .i64 (nF : Int)]) (t := 111) (fr := (0, 0)) (heap_two w1 _ _)) (by simp [Value.oneCell']) (by omega) (by unfold maxLen; omega) (by omega) (by simp; omega) (w1.heap.size + 2) (by simp) ?_; intro g cap2 w2 hown2 hgrow hat hlt; obtain ⟨d3, e3⟩ := far2G 2 hP1 hne hgrow d2 e2))
  all_goals
    go_wp2_with fail
    go_end0
    have hgrow' := hgrow
    rw [← hv.out] at hgrow'
    refine ⟨rfl, ⟨⟨.slice al n cl, .slice ao (n + 1) co, .slice at' (n + 2) ct, .slice ah (n + 3) ch, n⟩, _, (hI2.out.later (two_below w1 _ _)).push2 hgrow' (by rw [HNF.out]; exact kept_later hk.out (two_below w1 _ _)) (by rw [HNF.out]; exact hown2)⟩, ?_⟩
    have hbel : Below P w w2 := ((HB1.out.mono (by omega)).trans ((two_below w1 _ _).mono (by omega))).grown hgrow (by show P ≤ ((w1.alloc _).alloc _).heap.size; simp; omega) (fun k hk => by have := (hownv.out.lt k hk).1; omega)
    exact hbel.setCell (p := ⟨P, 2, none⟩) (Nat.le_refl P) _
end Go.Proofs.YtpdoacfiiledcaaGreatDoor.Own

namespace Go.Proofs.YtpdoacfiiledcaaGreatDoor.Own
open Go.RowKit Go.Proofs.YtpdoacfiiledcaaGreatDoor
open Go.Proofs.YtpdoacfiiledcaaGreatDoor.Spl
set_option linter.unusedVariables false

theorem Tryz.info9o : (Tryz.prog.info? 9).map (fun i => (i.zero, i.size, i.bytes)) = some (some (.string ⟨#[]⟩), 1, 16) := by kernel_rfl
theorem fam9 : ∃ i0, Fam 67 9 1 16 i0 (.string ⟨#[]⟩) := by
  obtain ⟨i0, hi, hz0, hz1, hz2⟩ := info_parts Tryz.info9o
  exact ⟨i0, Tryz.underlying67, hi, hz0, hz1, hz2, rfl, by omega⟩
theorem mk_of_G {w : World} {u : Value} {k m : Nat} (h : MkG 9 w u k [.string (tx m)]) : Mk w u k m := by
  obtain ⟨a, cap, rfl, hc⟩ := h
  refine ⟨a, cap, rfl, fun hk => ?_⟩
  obtain ⟨g, rfl, hh, hcell⟩ := hc hk
  refine ⟨g, rfl, hh, fun j hj => ?_⟩
  rw [hcell j (by simpa using hj)]
  have := repG_at [Value.string (tx m)] k j 0 hj (by simp)
  simpa using this
theorem kept_of_G {w : World} {l o t h : Value} {n m : Nat} (k : KeptG 9 w l o t h n [.string (tx m)]) (hn : n ≤ 900) : Kept w l o t h n m := ⟨mk_of_G k.fa, mk_of_G k.fb, mk_of_G k.fc, mk_of_G k.fd, hn⟩

set_option maxHeartbeats 2000000 in
set_option maxRecDepth 100000 in
theorem ownS_any (B base n m : Nat) (v : Value) (ws : List Value) (w : World) (hm : m ≤ 9223372036854775807) (hT : Tab B w) (hB : B ≤ base) (hbase : base ≤ w.heap.size) (hn : n ≤ 900) (hown0 : w.ownsRow base 9 1 v n ws) :
    Calls Tryz.prog 172 #[v, .int .i64 m] w fun e w' => ∃ o t h, e = .returned (.agg #[v, o, t, h, .int .i64 m]) ∧ KeptG 9 w' v o t h n [.string (tx m)] ∧ Kp v.ownBlock.toList w w' ∧ (∀ u ∈ [o, t, h], ∀ g, u.ownBlock = some g → v.ownBlock = some g ∨ w.heap.size ≤ g) := by
  obtain ⟨i0, hF⟩ := fam9
  have hone : ∀ u ∈ ([.string (tx m)] : List Value), u.oneCell' = true := by intro u hu; simp at hu; subst hu; rfl
  obtain ⟨a, cap, rfl, hsome⟩ := owns_forms hown0
  have hws : Hid (ws.length = n) := by have := hown0.1; show _ = _; omega
  have hgl : Hid (∀ g, a = some ⟨g, 0, none⟩ → base ≤ g ∧ g < w.heap.size) := fun g hg => by subst hg; exact ⟨(hown0.lt g rfl).1, (hown0.lt g rfl).2⟩
  have hso := hide hsome
  have HO0 := hide hown0
  have hT0 := hide (tab_on hT (((Below.refl B w).alloc (by omega) (.cells zero5 111))))
  clear hown0 hsome hT
  go_enter Tryz.func172, Tryz.ntmps172
  go_wp2_with fail
  refine (text_any B m _ hm hT0.out).mono ?_
  rintro e W ⟨rfl, hb1⟩
  rw [World.size_alloc] at hb1
  have hbW : w.heap.size + 1 ≤ W.heap.size := by simpa using hb1.size
  have hb0 : Below w.heap.size w W := ((Below.refl _ _).alloc (Nat.le_refl _) _).trans (hb1.mono (by omega))
  have hR : Hid (W.heap[w.heap.size]? = some (.cells zero5 111 (0, 0))) := by show _ = _; rw [hb1.block w.heap.size (by omega)]; exact heap_alloc_new w _
  have hown1 : Hid (W.ownsRow base 9 1 (.slice a n cap) n ws) := owns_below HO0.out hb0
  have hk0 : Hid (Kp (Value.slice a n cap).ownBlock.toList w W) := Pak.Kp.of_below _ hb0
  clear hb1 hT0 HO0 hb0
  go_wp2_with fail
  go_loopw [6] (fun i wr => ∃ j : Nat, j ≤ n ∧ i = .int .i64 j ∧ Hid (wr.ownsRow base 9 1 (.slice a n cap) n (repG [.string (tx m)] j ++ ws.drop j)) ∧ Hid (wr.heap[w.heap.size]? = some (.cells zero5 111 (0, 0))) ∧ Hid (Kp (Value.slice a n cap).ownBlock.toList w wr) ∧ w.heap.size + 1 ≤ wr.heap.size) (fun i _ => n - (intOf i).toNat)
  case atStart => exact ⟨0, Nat.zero_le _, rfl, by simpa [repG] using hown1, hR, hk0, hbW⟩
  case round =>
    clear hown1 hR hk0 hbW
    obtain ⟨j, hj, rfl, hown, hR, hk, hz⟩ := hrel
    by_cases hlt : j < n
    · obtain ⟨g, rfl⟩ := hso.out (by omega)
      have hg1 := (hgl.out g rfl).1
      have hg2 := (hgl.out g rfl).2
      have h1 : (j : Int) < (n : Int) := by omega
      have h0 : (0 : Int) ≤ (j : Int) := by omega
      have hl : (repG [.string (tx m)] j ++ ws.drop j).length = n := by rw [List.length_append, repG_len, List.length_drop, hws.out]; simp; omega
      obtain ⟨x, hx⟩ : ∃ x, wr.cell? ⟨g, j, none⟩ = some x := ⟨_, by rw [hown.out.cellAt j (by omega), List.getElem?_eq_getElem (by omega)]⟩
      have hfz : wr.frozen? ⟨g, j, none⟩ = false := hown.out.frozenAt j
      have hst := hide (hown.out.stored j (.string (tx m))).1
      have hmk := hide (mark1 (.string (tx m)) n j ws hws.out hlt)
      clear hl
      go_wp2_with fail
      go_roundw
      case rel =>
        refine ⟨j + 1, by omega, by go_num, ?_, ?_, hk.out.setCell (p := ⟨g, j, none⟩) (.inl (by simp [Value.ownBlock])) _, by simpa using hz⟩
        · show World.ownsRow _ _ _ _ _ _ _
          have := hst.out; rw [hmk.out] at this; exact this
        · show _ = _
          rw [Below.heap_setCell _ _ _ _ (show w.heap.size ≠ g by omega)]; exact hR.out
      case measure => simp [intOf]; omega
    · have hjn : n = j := by omega
      subst hjn
      have hown2 := hown.out
      rw [List.drop_of_length_le (by rw [hws.out]; exact Nat.le_refl _), List.append_nil] at hown2
      replace hown := hown2
      clear hown2
      have hbr : base ≤ wr.heap.size := by omega
      have HZ := hide hz
      clear hz
      go_wp2_with (first
        | (at_builtin; refine wpList_markG hF _ rfl _ _ rfl base n 1 [.string (tx m)] rfl hone _ rfl (hown.alloc _) ⟨wr.heap.size, 0, none⟩ 1 rfl (World.news_of_block (cs := #[.string (tx m)]) (t := 9) (fr := (0, 0)) (heap_alloc_new _ _)) (by omega) (by omega) (by omega) (by simp; omega) ?_; intro go co w2 M1)
        | (at_builtin; refine wpList_markG hF _ rfl _ _ rfl base n 2 [.string (tx m)] rfl hone _ rfl (M1.old.alloc _) ⟨w2.heap.size, 0, none⟩ 2 rfl (World.news_of_block (cs := #[.string (tx m), .string (tx m)]) (t := 9) (fr := (0, 0)) (heap_alloc_new _ _)) (by omega) (by omega) (by omega) (by have := M1.grown.size; simp at this ⊢; omega) ?_; intro gt ct w3 M2)
        | (at_builtin; refine wpList_markG hF _ rfl _ _ rfl base n 3 [.string (tx m)] rfl hone _ rfl (M2.old.alloc _) ⟨w3.heap.size, 0, none⟩ 3 rfl (World.news_of_block (cs := #[.string (tx m), .string (tx m), .string (tx m)]) (t := 9) (fr := (0, 0)) (heap_alloc_new _ _)) (by omega) (by omega) (by omega) (by have := M1.grown.size; have := M2.grown.size; simp at *; omega) ?_; intro gh ch w4 M3; obtain ⟨r0, r1, r2, r3, r4, f0, f1, f2, f3, f4⟩ := cells5 (own_blockG (by decide) hR.out M1 M2 M3 hown))
        | fail)
      have hE := own_endG (w := wr) (R := w.heap.size) (by decide) hR.out (Below.refl base wr) (by omega) hbase M1 M2 M3 hown (.slice a n cap) (.slice (some ⟨go, 0, none⟩) (n + 1) co) (.slice (some ⟨gt, 0, none⟩) (n + 2) ct) (.slice (some ⟨gh, 0, none⟩) (n + 3) ch) (.int .i64 m)
      have hE2 := own_endK (R := w.heap.size) hk.out (Nat.le_refl _) M1 M2 M3 (.slice a n cap) (.slice (some ⟨go, 0, none⟩) (n + 1) co) (.slice (some ⟨gt, 0, none⟩) (n + 2) ct) (.slice (some ⟨gh, 0, none⟩) (n + 3) ch) (.int .i64 m)
      refine bodyPost_ret (v := .agg #[.slice a n cap, .slice (some ⟨go, 0, none⟩) (n + 1) co, .slice (some ⟨gt, 0, none⟩) (n + 2) ct, .slice (some ⟨gh, 0, none⟩) (n + 3) ch, .int .i64 m]) (by simp [results, Tryz.results172, go_sem, r0, r1, r2, r3, r4]) rfl ⟨_, _, _, rfl, hE.1, hE2, ?_⟩
      have hz0 := HZ.out
      have g1 := M1.grown.size
      have g2 := M2.grown.size
      simp at g1 g2
      intro u hu g hg
      simp only [List.mem_cons, List.not_mem_nil, or_false] at hu
      rcases hu with rfl | rfl | rfl
      · exact (M1.loc g hg).imp_right (fun hh => by simp at hh; omega)
      · exact (M2.loc g hg).imp_right (fun hh => by simp at hh; omega)
      · exact (M3.loc g hg).imp_right (fun hh => by simp at hh; omega)
end Go.Proofs.YtpdoacfiiledcaaGreatDoor.Own

namespace Go.Proofs.YtpdoacfiiledcaaGreatDoor.Own
open Go.RowKit Go.Proofs.YtpdoacfiiledcaaGreatDoor
open Go.Proofs.YtpdoacfiiledcaaGreatDoor.Spl
set_option linter.unusedVariables false

/-- No list of a row lies in the block. -/
def Av (F : List E1) (g : Option Nat) : Prop := ∀ (i : Nat) (x : E1), F[i]? = some x → ∀ b, g = some b → (0 < x.n → x.l.ownBlock ≠ some b) ∧ ∀ u ∈ [x.o, x.t, x.h], u.ownBlock ≠ some b
theorem mk_blocks {w w' : World} {u : Value} {k m : Nat} (h : Mk w u k m) (hb : 0 < k → ∀ g cs fz, u.ownBlock = some g → w.heap[g]? = some (.cells cs 9 fz) → w'.heap[g]? = w.heap[g]?) : Mk w' u k m := by
  obtain ⟨a, cap, rfl, hc⟩ := h
  refine ⟨a, cap, rfl, fun hk => ?_⟩
  obtain ⟨g, rfl, ⟨cs, fz, hh⟩, hcell⟩ := hc hk
  have hblk := hb hk g cs fz rfl hh
  exact ⟨g, rfl, ⟨cs, fz, by rw [hblk]; exact hh⟩, fun j hj => by rw [World.cell?_of_block (w := w) (a := ⟨g, j, none⟩) hblk]; exact hcell j hj⟩
theorem MkG.blocks0 {e : TypeId} {w w' : World} {u : Value} {k : Nat} {c : List Value} (h : MkG e w u k c) (hb : 0 < k → ∀ g cs fz, u.ownBlock = some g → w.heap[g]? = some (.cells cs e fz) → w'.heap[g]? = w.heap[g]?) : MkG e w' u k c := by
  rcases Nat.eq_zero_or_pos k with rfl | hk
  · obtain ⟨a, cap, rfl, _⟩ := h
    exact ⟨a, cap, rfl, fun h0 => by omega⟩
  · exact h.blocks (hb hk)
theorem grown_kp {w w' : World} {row : Option Nat} (h : Kp row.toList w w') : w.grownBy w' row :=
  ⟨h.os, h.tape, h.output, h.size, fun k hk hn => h.block k hk (fun hx => hn (by rw [Option.mem_toList] at hx; exact hx.symm))⟩

/-- The lists that came out stay, where a list of words that is none of them is written over. -/
theorem Inv.own9 {w w1 : World} {P base n : Nat} {L : Ls} {l : Value} {ws : List Value} (hI : Inv w P L) (hown : w.ownsRow base 9 1 l n ws) (hk : Kp l.ownBlock.toList w w1) (hav : Av L.F2 l.ownBlock) : Inv w1 P L := by
  have hg := grown_kp hk
  have fr := fun (e T' : TypeId) (h1 : 9 ≠ e) (h2 : 9 ≠ T') => far_row (e := e) (T' := T') hown h1 h2
  have hPn : some P ≠ l.ownBlock := fun er => by
    obtain ⟨cs, fz, hh⟩ := own_kindG hown P er.symm
    rw [hI.hP] at hh; simp at hh
  refine ⟨by rw [hg.block P (lt_of_heap hI.hP) hPn]; exact hI.hP, hI.r1.far s1 hg (fr 3 109 (by decide) (by decide)), ⟨owns_farG hI.r2.1 hg (fun r er => ?_), fun i x hx => ?_⟩, hI.r3.far s3 hg (fr 5 114 (by decide) (by decide)), hI.r4.far s4 hg (fr 295 117 (by decide) (by decide)), hI.r5.far s5 hg (fr 226 119 (by decide) (by decide))⟩
  · obtain ⟨cs, fz, hh⟩ := own_kindG hown r er
    exact ⟨cs, 9, fz, hh, by decide⟩
  · have hk2 := hI.r2.2 i x hx
    have bl : ∀ u ∈ [x.o, x.t, x.h], ∀ g cs fz, u.ownBlock = some g → w.heap[g]? = some (.cells cs 9 fz) → w1.heap[g]? = w.heap[g]? := fun u hu g cs fz hug hh =>
      hg.block g (lt_of_heap hh) (fun er => (hav i x hx g er.symm).2 u hu hug)
    exact ⟨mk_blocks hk2.a (fun h0 g cs fz hug hh => hg.block g (lt_of_heap hh) (fun er => (hav i x hx g er.symm).1 h0 hug)), mk_blocks hk2.b (fun _ => bl _ (by simp)), mk_blocks hk2.c (fun _ => bl _ (by simp)), mk_blocks hk2.d (fun _ => bl _ (by simp)), hk2.hn⟩
/-- .. and where a list of texts that is none of them is. -/
theorem Inv.own194 {w w1 : World} {P base n : Nat} {L : Ls} {l : Value} {ws : List Value} (hI : Inv w P L) (hown : w.ownsRow base 226 2 l n ws) (hk : Kp l.ownBlock.toList w w1) (hav : Av L.F5 l.ownBlock) : Inv w1 P L := by
  have hg := grown_kp hk
  have fr := fun (e T' : TypeId) (h1 : 226 ≠ e) (h2 : 226 ≠ T') => far_row (e := e) (T' := T') hown h1 h2
  have hPn : some P ≠ l.ownBlock := fun er => by
    obtain ⟨cs, fz, hh⟩ := own_kindG hown P er.symm
    rw [hI.hP] at hh; simp at hh
  refine ⟨by rw [hg.block P (lt_of_heap hI.hP) hPn]; exact hI.hP, hI.r1.far s1 hg (fr 3 109 (by decide) (by decide)), hI.r2.far s2 hg (fr 9 111 (by decide) (by decide)), hI.r3.far s3 hg (fr 5 114 (by decide) (by decide)), hI.r4.far s4 hg (fr 295 117 (by decide) (by decide)), ⟨owns_farG hI.r5.1 hg (fun r er => ?_), fun i x hx => ?_⟩⟩
  · obtain ⟨cs, fz, hh⟩ := own_kindG hown r er
    exact ⟨cs, 226, fz, hh, by decide⟩
  · obtain ⟨hk2, hn⟩ := hI.r5.2 i x hx
    have bl : ∀ u ∈ [x.o, x.t, x.h], ∀ g cs fz, u.ownBlock = some g → w.heap[g]? = some (.cells cs 226 fz) → w1.heap[g]? = w.heap[g]? := fun u hu g cs fz hug hh =>
      hg.block g (lt_of_heap hh) (fun er => (hav i x hx g er.symm).2 u hu hug)
    exact ⟨⟨hk2.fa.blocks0 (fun h0 g cs fz hug hh => hg.block g (lt_of_heap hh) (fun er => (hav i x hx g er.symm).1 h0 hug)), hk2.fb.blocks (bl _ (by simp)), hk2.fc.blocks (bl _ (by simp)), hk2.fd.blocks (bl _ (by simp))⟩, hn⟩

set_option maxHeartbeats 1000000 in
set_option maxRecDepth 100000 in
theorem string_any6 (B P base n : Nat) (L : Ls) (l : Value) (ws : List Value) (w : World) (hI : Inv w P L) (hav : Av L.F2 l.ownBlock) (hT : Tab B w) (hB : B ≤ base) (hbz : base ≤ w.heap.size)
    (hF : (L.F2.length + 1) * 104 ≤ 140737488355328) (hn : n ≤ 900) (hown : w.ownsRow base 9 1 l n ws) :
    Calls Tryz.prog 74 #[.pointer (some ⟨P, 1, none⟩), l] w fun e w' => e = .returned (.tuple #[]) ∧ ∃ x v', Inv w' P { L with F2 := L.F2 ++ [x], v2 := v' } ∧ x.l = l
      ∧ (∀ u ∈ [x.l, x.o, x.t, x.h], ∀ g, u.ownBlock = some g → l.ownBlock = some g ∨ w.heap.size ≤ g) ∧ (∀ g, v'.ownBlock = some g → L.v2.ownBlock = some g ∨ w.heap.size ≤ g) ∧ Kp (P :: (l.ownBlock.toList ++ L.v2.ownBlock.toList)) w w' := by
  obtain ⟨i0, hi, hz0, hz1, hz2⟩ := info_parts Tryz.info111o
  obtain ⟨a, cap, hv, _⟩ := owns_forms hI.r2.1
  have hPlt := lt_of_heap hI.hP
  obtain ⟨hc2, hf2⟩ := inv_c2 hI
  rw [hv] at hc2
  obtain ⟨nF, hnF⟩ : ∃ nF, L.F2.length = nF := ⟨_, rfl⟩
  rw [hnF] at hc2 hF hv
  replace hI := hide hI
  replace hv := hide hv
  have HNF := hide hnF
  have HOW := hide hown
  replace hT := hide hT
  have HAV := hide hav
  clear hnF hown hav
  go_enter Tryz.func74, Tryz.ntmps74
  go_wp2_with fail
  refine (ownS_any B base n nF l ws _ (by omega) hT.out hB hbz hn HOW.out).mono ?_
  rintro e w1 ⟨o, t, h, rfl, hk, hb1, hloc⟩
  obtain ⟨al, cl, rfl, _⟩ := id hk.fa
  obtain ⟨ao, co, rfl, _⟩ := id hk.fb
  obtain ⟨at', ct, rfl, _⟩ := id hk.fc
  obtain ⟨ah, ch, rfl, _⟩ := id hk.fd
  have hI2 := hI.out.own9 HOW.out hb1 HAV.out
  obtain ⟨d2, e2⟩ := inv_c2 hI2
  rw [hv.out] at d2
  have hz := hb1.size
  replace hI2 := hide hI2
  replace hk := hide hk
  have HLOC := hide hloc
  have HB1 := hide hb1
  clear hc2 hf2 hloc hb1
  go_wp2_with fail
  have hP1 : P < w1.heap.size := by omega
  have hownv : Hid (w1.ownsRow (P + 1) 111 5 (.slice a nF cap) nF (rowV L.F2)) := by
    show World.ownsRow _ _ _ _ _ _ _
    have := hI2.out.r2.1
    rw [hv.out, HNF.out] at this; exact this
  have hne : some P ≠ (Value.slice a nF cap).ownBlock := inv_ne hownv.out
  go_region_law ((refine step_append_lies _ (by rfl) _ _ _ (by rfl) (P + 1) 111 i0 _ 5 104 Tryz.underlying57 hi hz0 hz1 hz2 rfl (by omega) (.slice a nF cap) nF (rowV L.F2) (by rfl) (((hownv.out.alloc _).alloc _).drew) ⟨w1.heap.size + 1, 0, none⟩ 1 1 [.slice al n cl, .slice ao (n + 1) co, .slice at' (n + 2) ct, .slice ah (n + 3) ch, .int .i64 (nF : Int)] (by rfl) (by rfl) (World.news_of_block (cs := #[.slice al n cl, .slice ao (n + 1) co, .slice at' (n + 2) ct, .slice ah (n + 3) ch, .int .i64 (nF : Int)]) (t := 111) (fr := (0, 0)) (heap_two w1 _ _)) (by simp [Value.oneCell']) (by omega) (by unfold maxLen; omega) (by omega) (by simp; omega) (w1.heap.size + 2) (by simp) ?_; intro g cap2 w2 hown2 hgrow hat hlt; obtain ⟨d3, e3⟩ := far2G 2 hP1 hne hgrow d2 e2))
  all_goals
    go_wp2_with fail
    go_end0
    have hgrow' := hgrow
    rw [← hv.out] at hgrow'
    refine ⟨rfl, ⟨.slice al n cl, .slice ao (n + 1) co, .slice at' (n + 2) ct, .slice ah (n + 3) ch, n⟩, _, (hI2.out.later (two_below w1 _ _)).push2 hgrow' (by rw [HNF.out]; exact kept_later (kept_of_G hk.out hn) (two_below w1 _ _)) (by rw [HNF.out]; exact hown2), rfl, ?_, ?_, ?_⟩
    · intro u hu b hb
      rcases List.mem_cons.1 hu with rfl | hu
      · exact .inl hb
      · exact HLOC.out u hu b hb
    · intro b hb
      simp [Value.ownBlock] at hb
      subst hb
      rcases hat with hat | hat
      · exact .inl (by rw [hv.out]; exact hat)
      · exact .inr (by omega)
    · have kk : Kp (P :: ((Value.slice al n cl).ownBlock.toList ++ L.v2.ownBlock.toList)) w w2 := by
        refine Pak.Kp.grown (Pak.Kp.trans (HB1.out.mono ?_) (S' := []) (Pak.Kp.of_below _ (two_below w1 _ _)) (by simp)) hgrow' (fun k hk => .inl (by simp [hk]))
        intro x hx; simp at hx ⊢; exact .inr (.inl hx)
      exact kk.setCell (p := ⟨P, 2, none⟩) (.inl (by simp)) _

/-- Lists that came out earlier lie in earlier blocks. -/
theorem av_fresh2 {w : World} {P : Nat} {L : Ls} (hI : Inv w P L) (g : Option Nat) (hg : ∀ b, g = some b → w.heap.size ≤ b) : Av L.F2 g := by
  intro i x hx b hb
  have hk := hI.r2.2 i x hx
  have hlt : ∀ (u : Value) (k : Nat), 0 < k → Mk w u k i → ∀ c, u.ownBlock = some c → c < w.heap.size := fun u k h0 hm c hc => by
    obtain ⟨a, cap, rfl, hcc⟩ := hm
    obtain ⟨g', rfl, ⟨cs, fz, hh⟩, _⟩ := hcc h0
    simp [Value.ownBlock] at hc
    subst hc
    exact lt_of_heap hh
  have hbb := hg b hb
  refine ⟨fun h0 hc => ?_, fun u hu hc => ?_⟩
  · have := hlt _ _ h0 hk.a b hc; omega
  · simp only [List.mem_cons, List.not_mem_nil, or_false] at hu
    rcases hu with rfl | rfl | rfl
    · have := hlt _ _ (by omega) hk.b b hc; omega
    · have := hlt _ _ (by omega) hk.c b hc; omega
    · have := hlt _ _ (by omega) hk.d b hc; omega
theorem av_fresh5 {w : World} {P : Nat} {L : Ls} (hI : Inv w P L) (g : Option Nat) (hg : ∀ b, g = some b → w.heap.size ≤ b) : Av L.F5 g := by
  intro i x hx b hb
  have hk := (hI.r5.2 i x hx).1
  have hlt : ∀ (u : Value) (k : Nat), 0 < k → MkG 226 w u k (mtC i) → ∀ c, u.ownBlock = some c → c < w.heap.size := fun u k h0 hm c hc => by
    obtain ⟨a, cap, rfl, hcc⟩ := hm
    obtain ⟨g', rfl, ⟨cs, fz, hh⟩, _⟩ := hcc h0
    simp [Value.ownBlock] at hc
    subst hc
    exact lt_of_heap hh
  have hbb := hg b hb
  refine ⟨fun h0 hc => ?_, fun u hu hc => ?_⟩
  · have := hlt _ _ h0 hk.fa b hc; omega
  · simp only [List.mem_cons, List.not_mem_nil, or_false] at hu
    rcases hu with rfl | rfl | rfl
    · have := hlt _ _ (by omega) hk.fb b hc; omega
    · have := hlt _ _ (by omega) hk.fc b hc; omega
    · have := hlt _ _ (by omega) hk.fd b hc; omega
/-- One entry more, none of whose lists lies in the block. -/
theorem Av.snoc {F : List E1} {g : Option Nat} {x : E1} (h : Av F g) (hx : ∀ b, g = some b → ∀ u ∈ [x.l, x.o, x.t, x.h], u.ownBlock ≠ some b) : Av (F ++ [x]) g := by
  intro i y hy b hb
  by_cases hi : i < F.length
  · rw [List.getElem?_append_left hi] at hy
    exact h i y hy b hb
  · rw [List.getElem?_append_right (by omega)] at hy
    have he : i - F.length = 0 := by
      rcases Nat.lt_or_ge (i - F.length) 1 with h' | h'
      · omega
      · rw [List.getElem?_eq_none (by simpa using h')] at hy; simp at hy
    rw [he] at hy
    simp at hy
    subst hy
    exact ⟨fun _ => hx b hb _ (by simp), fun u hu => hx b hb u (List.mem_cons_of_mem _ hu)⟩
end Go.Proofs.YtpdoacfiiledcaaGreatDoor.Own
