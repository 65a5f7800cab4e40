import Derived.Test.YtbkepgmgebmceaaGreatDoorU11

namespace Go.Proofs.YtbkepgmgebmceaaGreatDoor.Spl
open Go.RowKit Go.Proofs.YtbkepgmgebmceaaGreatDoor Go.Proofs.YtbkepgmgebmceaaGreatDoor.SiftM
set_option linter.unusedVariables false

theorem inv_cells {w : World} {P : Nat} {F : List One} {v : Value} (h : Inv w P F v) :
    w.cell? ⟨P, 1, none⟩ = some (.slice none 0 0) ∧ w.cell? ⟨P, 3, none⟩ = some (.slice none 0 0) ∧ w.cell? ⟨P, 4, none⟩ = some (.slice none 0 0) ∧ w.cell? ⟨P, 5, none⟩ = some (.slice none 0 0) := by
  simp [World.cell?, h.hP]
theorem inv_row {w : World} {P g cap k : Nat} {F : List One} {x : One} (h : Inv w P F (.slice (some ⟨g, 0, none⟩) F.length cap)) (hk : F[k]? = some x) :
    w.cell? ⟨g, k * 5, none⟩ = some x.l ∧ w.cell? ⟨g, k * 5 + 1, none⟩ = some x.o ∧ w.cell? ⟨g, k * 5 + 2, none⟩ = some x.t ∧ w.cell? ⟨g, k * 5 + 3, none⟩ = some x.h ∧ w.cell? ⟨g, k * 5 + 4, none⟩ = some (.int .i64 (k : Int)) := by
  have hlt : k < F.length := by
    rcases Nat.lt_or_ge k F.length with h' | h'
    · exact h'
    · rw [List.getElem?_eq_none h'] at hk; simp at hk
  have key : ∀ j, j < 5 → w.cell? ⟨g, k * 5 + j, none⟩ = (oneV x (0 + k))[j]? := fun j hj => by
    rw [h.own.cellAt (k * 5 + j) (by omega)]
    exact rowF_get F k 0 x hk j hj
  have k0 := key 0 (by omega)
  have k1 := key 1 (by omega)
  have k2 := key 2 (by omega)
  have k3 := key 3 (by omega)
  have k4 := key 4 (by omega)
  rw [Nat.zero_add] at k4
  exact ⟨k0, k1, k2, k3, k4⟩

set_option maxHeartbeats 1000000 in
set_option maxRecDepth 100000 in
theorem looks_any (B P : Nat) (F : List One) (v : Value) (w : World) (hI : Inv w P F v) (hT : Tab B w) (hB : B ≤ w.heap.size) (hF : F.length ≤ 9223372036854775806) :
    Calls Tryz.prog 23 #[.pointer (some ⟨P, 1, none⟩)] w fun e w' => e = .returned (.bool true) ∧ Below w.heap.size w w' := by
  obtain ⟨c1, c3, c4, c5⟩ := inv_cells hI
  obtain ⟨a, cap, hv⟩ : ∃ a cap, v = .slice a F.length cap := by
    rcases hI.own.2 with ⟨rfl, h0⟩ | ⟨g, cap, cur, rfl, _⟩
    · exact ⟨none, 0, by rw [h0]⟩
    · exact ⟨_, _, rfl⟩
  subst hv
  replace hI := hide hI
  replace hT := hide hT
  go_enter Tryz.func23, Tryz.ntmps23
  go_wp2_with fail
  refine wp_loop_rounds 1 ?_
  rw [rounds_succ]
  go_wp2_with fail
  clear c1 c3 c4 c5
  go_loopw [3, 6] (fun o i wr => ∃ k : Nat, k ≤ F.length ∧ i = .int .i64 k ∧ o = .bool true ∧ Below w.heap.size w wr) (fun _ i _ => F.length - (intOf i).toNat)
  case atStart => exact ⟨0, Nat.zero_le _, rfl, rfl, Below.refl _ _⟩
  case round =>
    obtain ⟨k, hk, rfl, rfl, hb⟩ := hrel
    have hbz := hb.size
    have hI1 := inv_later hI.out hb
    have c2 := (inv_cell hI1).1
    by_cases hlt : k < F.length
    · obtain ⟨x, hx⟩ : ∃ x, F[k]? = some x := ⟨_, List.getElem?_eq_getElem hlt⟩
      obtain ⟨g, rfl⟩ : ∃ g, a = some ⟨g, 0, none⟩ := by
        rcases hI1.own.2 with ⟨h', h0⟩ | ⟨g, cap', cur, h', _⟩
        · omega
        · cases h'; exact ⟨g, rfl⟩
      obtain ⟨r0, r1, r2, r3, r4⟩ := inv_row hI1 hx
      have hkept := hide (hI1.kept k x hx)
      have hT1 := hide (tab_on hT.out (hb.mono hB))
      have h1 : (k : Int) < (F.length : Int) := by omega
      have h0 : (0 : Int) ≤ (k : Int) := by omega
      replace hx := hide hx
      replace hI1 := hide hI1
      go_wp2_with fail
      refine (still_any B x.n k x.l x.o x.t x.h _ (by omega) hT1.out (by omega) hkept.out).mono ?_
      rintro e w1 ⟨rfl, hb1⟩
      go_wp2_with fail
      exact ⟨⟨k + 1, by omega, by go_num, rfl, hb.trans (hb1.mono hbz)⟩, by simp [intOf]; omega⟩
    · obtain ⟨c1, c3, c4, c5⟩ := inv_cells hI1
      clear hI1
      go_wp2_with fail
      refine wp_loop_rounds 1 ?_
      rw [rounds_succ]
      go_wp2_with fail
      refine wp_loop_rounds 1 ?_
      rw [rounds_succ]
      go_wp2_with fail
      refine wp_loop_rounds 1 ?_
      rw [rounds_succ]
      go_wp2_with fail
      go_ret
      exact ⟨rfl, hb⟩
end Go.Proofs.YtbkepgmgebmceaaGreatDoor.Spl

namespace Go.Proofs.YtbkepgmgebmceaaGreatDoor.Own
open Go.RowKit Go.Proofs.YtbkepgmgebmceaaGreatDoor Go.Proofs.YtbkepgmgebmceaaGreatDoor.Spl
set_option linter.unusedVariables false

set_option maxHeartbeats 1000000 in
set_option maxRecDepth 100000 in
theorem allT_any (n m : Nat) (u : Value) (w : World) (hm : m ≤ 4611686018427387904) (hn : n ≤ 2000000000) (h : MkG 204 w u n (mtC m)) :
    Calls Tryz.prog 118 #[u, .int .i64 m] w fun e w' => e = .returned (.bool true) ∧ Below w.heap.size w w' := by
  have q1 := mt_wrap m hm
  obtain ⟨a, cap, rfl, hc⟩ := h
  have HC := hide hc
  clear hc
  go_enter Tryz.func118, Tryz.ntmps118
  go_wp2_with fail
  go_loopw [5] (fun i wr => ∃ k : Nat, k ≤ n ∧ i = .int .i64 k ∧ Below w.heap.size w wr) (fun i _ => n - (intOf i).toNat)
  case atStart => exact ⟨0, Nat.zero_le _, rfl, Below.refl _ _⟩
  case round =>
    obtain ⟨k, hk, rfl, hb⟩ := hrel
    by_cases hlt : k < n
    · obtain ⟨g, rfl, ⟨cs, fz, hh⟩, hcell⟩ := HC.out (by omega)
      have hg := lt_of_heap hh
      have p0 : wr.cell? ⟨g, k * 2, none⟩ = some (.int .i64 (mt m)) := by
        rw [hb.cell (p := ⟨g, k * 2, none⟩) hg, hcell (k * 2) (by simp; omega)]
        have := repG_at (mtC m) n k 0 hlt (by simp)
        simpa using this
      have p1 : wr.cell? ⟨g, k * 2 + 1, none⟩ = some (.slice none 0 0) := by
        rw [hb.cell (p := ⟨g, k * 2 + 1, none⟩) hg, hcell (k * 2 + 1) (by simp; omega)]
        have := repG_at (mtC m) n k 1 hlt (by simp)
        simpa using this
      have h3 : (k : Int) < (n : Int) := by omega
      have h4 : (0 : Int) ≤ (k : Int) := by omega
      have HB := hide hb
      clear hcell HC hh hb
      go_wp2_with fail
      exact ⟨⟨k + 1, by omega, by go_num, HB.out⟩, by simp [intOf]; omega⟩
    · go_wp2_with fail
      go_ret
      exact ⟨rfl, hb⟩

set_option maxHeartbeats 1000000 in
set_option maxRecDepth 100000 in
theorem stillT_any (n m : Nat) (l o t h : Value) (w : World) (hm : m ≤ 4611686018427387904) (hn : n ≤ 1000000000) (hk : KeptG 204 w l o t h n (mtC m)) :
    Calls Tryz.prog 50 #[.agg #[l, o, t, h, .int .i64 m]] w fun e w' => e = .returned (.bool true) ∧ Below w.heap.size w w' := by
  have hb0 : Below w.heap.size w (w.alloc (.cells #[l, o, t, h, .int .i64 m] 116)) := (Below.refl _ _).alloc (Nat.le_refl _) _
  have hk0 := hide (hk.later hb0)
  obtain ⟨a1, c1, rfl, _⟩ := hk.fa
  obtain ⟨a2, c2, rfl, _⟩ := hk.fb
  obtain ⟨a3, c3, rfl, _⟩ := hk.fc
  obtain ⟨a4, c4, rfl, _⟩ := hk.fd
  have HB := hide hb0
  clear hk hb0
  go_enter Tryz.func50, Tryz.ntmps50
  go_wp2_with fail
  refine (allT_any n m _ _ hm (by omega) hk0.out.fa).mono ?_
  rintro e w1 ⟨rfl, hb1⟩
  rw [World.size_alloc] at hb1
  have hz1 : w.heap.size + 1 ≤ w1.heap.size := by simpa using hb1.size
  have d1 := box5 (j := 1) rfl hb1
  have d4 := box5 (j := 4) rfl hb1
  have hk1 := hide (hk0.out.later (hb1.mono (by simp)))
  go_wp2_with fail
  refine (allT_any (n + 1) m _ _ hm (by omega) hk1.out.fb).mono ?_
  rintro e w2 ⟨rfl, hb2⟩
  have hz2 := hb2.size
  have hb2' := hb1.trans (hb2.mono hz1)
  have e2 := box5 (j := 2) rfl hb2'
  have e4 := box5 (j := 4) rfl hb2'
  have hk2 := hide (hk1.out.later hb2)
  clear d1 d4 hb2
  go_wp2_with fail
  refine (allT_any (n + 2) m _ _ hm (by omega) hk2.out.fc).mono ?_
  rintro e w3 ⟨rfl, hb3⟩
  have hz3 := hb3.size
  have hb3' := hb2'.trans (hb3.mono (by omega))
  have f3 := box5 (j := 3) rfl hb3'
  have f4 := box5 (j := 4) rfl hb3'
  have hk3 := hide (hk2.out.later hb3)
  clear e2 e4 hb3
  go_wp2_with fail
  refine (allT_any (n + 3) m _ _ hm (by omega) hk3.out.fd).mono ?_
  rintro e w4 ⟨rfl, hb4⟩
  have hz4 := hb4.size
  go_wp2_with fail
  go_ret
  exact ⟨rfl, (HB.out.trans (hb3'.mono (by omega))).trans (hb4.mono (by omega))⟩
end Go.Proofs.YtbkepgmgebmceaaGreatDoor.Own

namespace Go.Proofs.YtbkepgmgebmceaaGreatDoor.Own
open Go.RowKit Go.Proofs.YtbkepgmgebmceaaGreatDoor
open Go.Proofs.YtbkepgmgebmceaaGreatDoor.Spl
set_option linter.unusedVariables false

abbrev E1 := Go.Proofs.YtbkepgmgebmceaaGreatDoor.Spl.One
/-- What is said of an entry stays where another kind of block turns. -/
def Steady (e : TypeId) (K : World → E1 → Nat → Prop) : Prop :=
  ∀ w w' x i row, K w x i → w.grownBy w' row → (∀ r, row = some r → ∃ cs t fz, w.heap[r]? = some (.cells cs t fz) ∧ t ≠ e) → K w' x i
/-- E1 row of lists that came out. -/
def Row (T : TypeId) (K : World → E1 → Nat → Prop) (w : World) (P : Nat) (F : List E1) (v : Value) : Prop :=
  w.ownsRow (P + 1) T 5 v F.length (rowV F) ∧ ∀ i x, F[i]? = some x → K w x i

def K1 (w : World) (x : E1) (i : Nat) : Prop := KeptG 3 w x.l x.o x.t x.h x.n [.int .i64 (mt i)] ∧ x.n ≤ 1000000000
def K2 (w : World) (x : E1) (i : Nat) : Prop := Kept w x.l x.o x.t x.h x.n i
def K3 (w : World) (x : E1) (i : Nat) : Prop := KeptG 5 w x.l x.o x.t x.h x.n [.int .u8 (mb i)] ∧ x.n ≤ 100000000000
def K4 (w : World) (x : E1) (i : Nat) : Prop := KeptG 277 w x.l x.o x.t x.h x.n [.int .i64 (mt i), .int .i64 0, .int .i64 0, .int .i64 0, .int .i64 0, .int .i64 0] ∧ x.n ≤ 1000000000
def K5 (w : World) (x : E1) (i : Nat) : Prop := KeptG 204 w x.l x.o x.t x.h x.n (mtC i) ∧ x.n ≤ 1000000000
theorem s1 : Steady 3 K1 := fun w w' x i row h hg hr => ⟨h.1.far hg hr, h.2⟩
theorem s2 : Steady 9 K2 := fun w w' x i row h hg hr => kept_far hg hr h
theorem s3 : Steady 5 K3 := fun w w' x i row h hg hr => ⟨h.1.far hg hr, h.2⟩
theorem s4 : Steady 277 K4 := fun w w' x i row h hg hr => ⟨h.1.far hg hr, h.2⟩
theorem s5 : Steady 204 K5 := fun w w' x i row h hg hr => ⟨h.1.far hg hr, h.2⟩

theorem owns_farG {w w' : World} {base n size : Nat} {e : TypeId} {v : Value} {xs : List Value} {row : Option Nat} (h : w.ownsRow base e size v n xs) (hg : w.grownBy w' row) (hr : ∀ r, row = some r → ∃ cs t fz, w.heap[r]? = some (.cells cs t fz) ∧ t ≠ e) : w'.ownsRow base e size v n xs := by
  refine ⟨h.1, ?_⟩
  rcases h.2 with hn | ⟨g, cap, cur, rfl, hb, hh, rest⟩
  · exact .inl hn
  · refine .inr ⟨g, cap, cur, rfl, hb, ?_, rest⟩
    rw [hg.block g (lt_of_heap hh) (fun er => by
      obtain ⟨cs, t, fz, h1, h2⟩ := hr g er.symm
      rw [hh] at h1
      simp at h1
      exact h2 h1.2.1.symm)]
    exact hh
theorem own_kindG {w : World} {base n size : Nat} {T : TypeId} {v : Value} {xs : List Value} (h : w.ownsRow base T size v n xs) : ∀ r, v.ownBlock = some r → ∃ cs fz, w.heap[r]? = some (.cells cs T fz) := by
  intro r hr
  rcases h.2 with ⟨rfl, _⟩ | ⟨g, cap, cur, rfl, _, hh, _⟩
  · simp [Value.ownBlock] at hr
  · simp [Value.ownBlock] at hr
    subst hr
    exact ⟨cur, _, hh⟩
theorem grown_of_below {w w' : World} (h : Below w.heap.size w w') : w.grownBy w' none := ⟨h.os, h.tape, h.output, h.size, fun k hk _ => h.block k hk⟩

theorem Row.far {T e : TypeId} {K : World → E1 → Nat → Prop} (hK : Steady e K) {w w' : World} {P : Nat} {F : List E1} {v : Value} {row : Option Nat} (h : Row T K w P F v) (hg : w.grownBy w' row) (hr : ∀ r, row = some r → ∃ cs t fz, w.heap[r]? = some (.cells cs t fz) ∧ t ≠ e ∧ t ≠ T) : Row T K w' P F v :=
  ⟨owns_farG h.1 hg (fun r e1 => by obtain ⟨cs, t, fz, h1, h2, h3⟩ := hr r e1; exact ⟨cs, t, fz, h1, h3⟩), fun i x hx => hK _ _ _ _ _ (h.2 i x hx) hg (fun r e1 => by obtain ⟨cs, t, fz, h1, h2, h3⟩ := hr r e1; exact ⟨cs, t, fz, h1, h2⟩)⟩
/-- The row with one entry more. -/
theorem Row.push {T e : TypeId} (hTe : T ≠ e) {K : World → E1 → Nat → Prop} (hK : Steady e K) {w w' : World} {P : Nat} {F : List E1} {v v' : Value} {x : E1} (h : Row T K w P F v) (hg : w.grownBy w' v.ownBlock) (hk : K w x F.length)
    (hown : w'.ownsRow (P + 1) T 5 v' (F.length + 1) (rowV F ++ oneV x F.length)) : Row T K w' P (F ++ [x]) v' := by
  have hr : ∀ r, v.ownBlock = some r → ∃ cs t fz, w.heap[r]? = some (.cells cs t fz) ∧ t ≠ e := fun r e1 => by
    obtain ⟨cs, fz, h1⟩ := own_kindG h.1 r e1; exact ⟨cs, T, fz, h1, hTe⟩
  refine ⟨by rw [rowV_snoc, List.length_append]; exact hown, fun i y hy => ?_⟩
  by_cases hi : i < F.length
  · rw [List.getElem?_append_left hi] at hy
    exact hK _ _ _ _ _ (h.2 i y hy) hg hr
  · rw [List.getElem?_append_right (by omega)] at hy
    have he : i = F.length := by
      rcases Nat.lt_or_ge (i - F.length) 1 with h' | h'
      · omega
      · rw [List.getElem?_eq_none (by simpa using h')] at hy; simp at hy
    subst he
    simp at hy
    subst hy
    exact hK _ _ _ _ _ hk hg hr

/-- All lists that came out. -/
structure Ls where
  pv : Value
  v1 : Value
  v2 : Value
  v3 : Value
  v4 : Value
  v5 : Value
  F1 : List E1
  F2 : List E1
  F3 : List E1
  F4 : List E1
  F5 : List E1
structure Inv (w : World) (P : Nat) (L : Ls) : Prop where
  hP : w.heap[P]? = some (.cells #[L.pv, L.v1, L.v2, L.v3, L.v4, L.v5] 64 (0, 0))
  r1 : Row 106 K1 w P L.F1 L.v1
  r2 : Row 108 K2 w P L.F2 L.v2
  r3 : Row 111 K3 w P L.F3 L.v3
  r4 : Row 114 K4 w P L.F4 L.v4
  r5 : Row 116 K5 w P L.F5 L.v5

theorem Inv.later {w w' : World} {P : Nat} {L : Ls} (h : Inv w P L) (hb : Below w.heap.size w w') : Inv w' P L :=
  ⟨by rw [hb.block P (lt_of_heap h.hP)]; exact h.hP, h.r1.far s1 (grown_of_below hb) (fun r e => by cases e), h.r2.far s2 (grown_of_below hb) (fun r e => by cases e), h.r3.far s3 (grown_of_below hb) (fun r e => by cases e),
    h.r4.far s4 (grown_of_below hb) (fun r e => by cases e), h.r5.far s5 (grown_of_below hb) (fun r e => by cases e)⟩
/-- The world's own block turns in one cell. -/
theorem far_set {w : World} {P j : Nat} {x : Value} {cs : Array Value} (hP : w.heap[P]? = some (.cells cs 64 (0, 0))) (e T : TypeId) (h1 : 64 ≠ e) (h2 : 64 ≠ T) : ∀ r, some P = some r → ∃ cs t fz, w.heap[r]? = some (.cells cs t fz) ∧ t ≠ e ∧ t ≠ T := by
  intro r er; injection er with er; subst er; exact ⟨cs, 64, _, hP, h1, h2⟩
theorem Row.set {T e : TypeId} {K : World → E1 → Nat → Prop} (hK : Steady e K) (h1 : 64 ≠ e) (h2 : 64 ≠ T) {w : World} {P j : Nat} {F : List E1} {v x : Value} {cs : Array Value} (hP : w.heap[P]? = some (.cells cs 64 (0, 0))) (h : Row T K w P F v) : Row T K (w.setCell ⟨P, j, none⟩ x) P F v :=
  h.far hK (grown_cell w P j x) (far_set (j := j) (x := x) hP e T h1 h2)
theorem inv_ne {w : World} {P n size : Nat} {T : TypeId} {v : Value} {xs : List Value} (h : w.ownsRow (P + 1) T size v n xs) : some P ≠ v.ownBlock := fun e => by
  have := (h.lt P e.symm).1; omega
theorem far_row {T T' e : TypeId} {w : World} {base n size : Nat} {v : Value} {xs : List Value} (h : w.ownsRow base T size v n xs) (h1 : T ≠ e) (h2 : T ≠ T') : ∀ r, v.ownBlock = some r → ∃ cs t fz, w.heap[r]? = some (.cells cs t fz) ∧ t ≠ e ∧ t ≠ T' := fun r hr => by
  obtain ⟨cs, fz, hh⟩ := own_kindG h r hr; exact ⟨cs, T, fz, hh, h1, h2⟩

theorem Inv.push3 {W w1 : World} {P : Nat} {L : Ls} {v' : Value} {x : E1} (hI : Inv W P L) (hg : W.grownBy w1 L.v3.ownBlock) (hk : K3 W x L.F3.length) (hown : w1.ownsRow (P + 1) 111 5 v' (L.F3.length + 1) (rowV L.F3 ++ oneV x L.F3.length)) :
    Inv (w1.setCell ⟨P, 3, none⟩ v') P { L with F3 := L.F3 ++ [x], v3 := v' } := by
  have hP1 : w1.heap[P]? = some (.cells #[L.pv, L.v1, L.v2, L.v3, L.v4, L.v5] 64 (0, 0)) := by rw [hg.block P (lt_of_heap hI.hP) (inv_ne hI.r3.1)]; exact hI.hP
  have fr := fun (e T' : TypeId) (h1 : 111 ≠ e) (h2 : 111 ≠ T') => far_row hI.r3.1 h1 h2
  exact ⟨by rw [heap_setCell_same w1 P 3 _ 64 _ hP1]; rfl,
    (hI.r1.far s1 hg (fr 3 106 (by decide) (by decide))).set s1 (by decide) (by decide) hP1, (hI.r2.far s2 hg (fr 9 108 (by decide) (by decide))).set s2 (by decide) (by decide) hP1,
    (hI.r3.push (by decide) s3 hg hk hown).set s3 (by decide) (by decide) hP1, (hI.r4.far s4 hg (fr 277 114 (by decide) (by decide))).set s4 (by decide) (by decide) hP1,
    (hI.r5.far s5 hg (fr 204 116 (by decide) (by decide))).set s5 (by decide) (by decide) hP1⟩
theorem Inv.push5 {W w1 : World} {P : Nat} {L : Ls} {v' : Value} {x : E1} (hI : Inv W P L) (hg : W.grownBy w1 L.v5.ownBlock) (hk : K5 W x L.F5.length) (hown : w1.ownsRow (P + 1) 116 5 v' (L.F5.length + 1) (rowV L.F5 ++ oneV x L.F5.length)) :
    Inv (w1.setCell ⟨P, 5, none⟩ v') P { L with F5 := L.F5 ++ [x], v5 := v' } := by
  have hP1 : w1.heap[P]? = some (.cells #[L.pv, L.v1, L.v2, L.v3, L.v4, L.v5] 64 (0, 0)) := by rw [hg.block P (lt_of_heap hI.hP) (inv_ne hI.r5.1)]; exact hI.hP
  have fr := fun (e T' : TypeId) (h1 : 116 ≠ e) (h2 : 116 ≠ T') => far_row hI.r5.1 h1 h2
  exact ⟨by rw [heap_setCell_same w1 P 5 _ 64 _ hP1]; rfl,
    (hI.r1.far s1 hg (fr 3 106 (by decide) (by decide))).set s1 (by decide) (by decide) hP1, (hI.r2.far s2 hg (fr 9 108 (by decide) (by decide))).set s2 (by decide) (by decide) hP1,
    (hI.r3.far s3 hg (fr 5 111 (by decide) (by decide))).set s3 (by decide) (by decide) hP1, (hI.r4.far s4 hg (fr 277 114 (by decide) (by decide))).set s4 (by decide) (by decide) hP1,
    (hI.r5.push (by decide) s5 hg hk hown).set s5 (by decide) (by decide) hP1⟩
theorem Inv.push2 {W w1 : World} {P : Nat} {L : Ls} {v' : Value} {x : E1} (hI : Inv W P L) (hg : W.grownBy w1 L.v2.ownBlock) (hk : K2 W x L.F2.length) (hown : w1.ownsRow (P + 1) 108 5 v' (L.F2.length + 1) (rowV L.F2 ++ oneV x L.F2.length)) :
    Inv (w1.setCell ⟨P, 2, none⟩ v') P { L with F2 := L.F2 ++ [x], v2 := v' } := by
  have hP1 : w1.heap[P]? = some (.cells #[L.pv, L.v1, L.v2, L.v3, L.v4, L.v5] 64 (0, 0)) := by rw [hg.block P (lt_of_heap hI.hP) (inv_ne hI.r2.1)]; exact hI.hP
  have fr := fun (e T' : TypeId) (h1 : 108 ≠ e) (h2 : 108 ≠ T') => far_row hI.r2.1 h1 h2
  exact ⟨by rw [heap_setCell_same w1 P 2 _ 64 _ hP1]; rfl,
    (hI.r1.far s1 hg (fr 3 106 (by decide) (by decide))).set s1 (by decide) (by decide) hP1, (hI.r2.push (by decide) s2 hg hk hown).set s2 (by decide) (by decide) hP1,
    (hI.r3.far s3 hg (fr 5 111 (by decide) (by decide))).set s3 (by decide) (by decide) hP1, (hI.r4.far s4 hg (fr 277 114 (by decide) (by decide))).set s4 (by decide) (by decide) hP1,
    (hI.r5.far s5 hg (fr 204 116 (by decide) (by decide))).set s5 (by decide) (by decide) hP1⟩
end Go.Proofs.YtbkepgmgebmceaaGreatDoor.Own
