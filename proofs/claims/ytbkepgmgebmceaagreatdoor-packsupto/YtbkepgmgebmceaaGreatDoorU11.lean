import Derived.Test.YtbkepgmgebmceaaGreatDoorU10
import Derived.Deep.RegionLaw

namespace Go.Proofs.YtbkepgmgebmceaaGreatDoor.Spl
open Go.RowKit Go.Proofs.YtbkepgmgebmceaaGreatDoor Go.Proofs.YtbkepgmgebmceaaGreatDoor.SiftM
set_option linter.unusedVariables false

set_option maxHeartbeats 1000000 in
set_option maxRecDepth 100000 in
theorem own_some (B base n m g cap : Nat) (ws : List Value) (w : World) (hm : m ≤ 9223372036854775807) (hT : Tab B w) (hB : B ≤ base) (hbase : base ≤ w.heap.size) (hn : n ≤ 900) (hws : ws.length = n) (hown0 : w.ownsRow base 9 1 (.slice (some ⟨g, 0, none⟩) n cap) n ws) :
    Calls Tryz.prog 146 #[.slice (some ⟨g, 0, none⟩) n cap, .int .i64 m] w fun e w' => ∃ o t h, e = .returned (.agg #[.slice (some ⟨g, 0, none⟩) n cap, o, t, h, .int .i64 m]) ∧ Kept w' (.slice (some ⟨g, 0, none⟩) n cap) o t h n m ∧ Below base w w' := by
  have hT0 := hide (tab_on hT (((Below.refl B w).alloc (by omega) (.cells zero59 108))))
  replace hT := hide hT
  have hg := hown0.lt g rfl
  have hg1 := hg.1
  have hg2 := hg.2
  clear hg
  replace hws := hide hws
  go_enter Tryz.func146, Tryz.ntmps146
  go_wp2_with fail
  refine (text_any B m _ hm hT0.out).mono ?_
  rintro e w1 ⟨rfl, hb1⟩
  rw [World.size_alloc] at hb1
  have hz1 : w.heap.size + 1 ≤ w1.heap.size := by simpa using hb1.size
  have hb0 : Below w.heap.size w w1 := ((Below.refl _ _).alloc (Nat.le_refl _) _).trans (hb1.mono (by omega))
  have hR : w1.heap[w.heap.size]? = some (.cells zero59 108 (0, 0)) := by rw [hb1.block w.heap.size (by omega)]; exact heap_alloc_new w _
  have hown1 := owns_below hown0 hb0
  clear hb1 hT0 hT hown0
  replace hR := hide hR
  go_wp2_with fail
  go_loopw [6] (fun i wr => ∃ j : Nat, j ≤ n ∧ i = .int .i64 j ∧ wr.ownsRow base 9 1 (.slice (some ⟨g, 0, none⟩) n cap) n (rep j m ++ ws.drop j) ∧ Hid (wr.heap[w.heap.size]? = some (.cells zero59 108 (0, 0))) ∧ Below base w wr ∧ w.heap.size + 1 ≤ wr.heap.size) (fun i _ => n - (intOf i).toNat)
  case atStart => exact ⟨0, Nat.zero_le _, rfl, hown1, hR, hb0.mono hbase, hz1⟩
  case round =>
    clear hown1 hR hb0 hz1
    obtain ⟨j, hj, rfl, hown, hR, hb, hz⟩ := hrel
    by_cases hlt : j < n
    · have h1 : (j : Int) < (n : Int) := by omega
      have h0 : (0 : Int) ≤ (j : Int) := by omega
      have hcell : ∃ x, wr.cell? ⟨g, j, none⟩ = some x := by
        have hl : (rep j m ++ ws.drop j).length = n := by rw [List.length_append, rep_len, List.length_drop, hws.out]; omega
        exact ⟨_, by rw [hown.cellAt j (by omega), List.getElem?_eq_getElem (by omega)]⟩
      obtain ⟨x, hx⟩ := hcell
      have hfz : wr.frozen? ⟨g, j, none⟩ = false := hown.frozenAt j
      have hst := hide (hown.stored j (.string (tx m))).1
      have hmk := hide (mark_set n m j ws hws.out hlt)
      replace hown := hide hown
      go_wp2_with fail
      go_roundw
      case rel =>
        refine ⟨j + 1, by omega, by go_num, ?_, ?_, hb.setCell (p := ⟨g, j, none⟩) hg1 _, by simpa using hz⟩
        · have := hst.out; rw [hmk.out] at this; exact this
        · show _ = _
          rw [Below.heap_setCell _ _ _ _ (show w.heap.size ≠ g by omega)]; exact hR.out
      case measure => simp [intOf]; omega
    · have hjn : n = j := by omega
      subst hjn
      rw [List.drop_of_length_le (by rw [hws.out]; exact Nat.le_refl _), List.append_nil] at hown
      go_wp2_with (first
        | (at_builtin; refine wpList_mark _ rfl _ _ rfl base n m 1 _ rfl (hown.alloc _) ⟨wr.heap.size, 0, none⟩ 1 rfl (World.news_of_block (cs := #[.string (tx m)]) (t := 9) (fr := (0, 0)) (heap_alloc_new _ _)) (by omega) (by omega) (by simp; omega) ?_; intro go co w2 M1)
        | (at_builtin; refine wpList_mark _ rfl _ _ rfl base n m 2 _ rfl (M1.old.alloc _) ⟨w2.heap.size, 0, none⟩ 2 rfl (World.news_of_block (cs := #[.string (tx m), .string (tx m)]) (t := 9) (fr := (0, 0)) (heap_alloc_new _ _)) (by omega) (by omega) (by have := M1.grown.size; simp at this ⊢; omega) ?_; intro gt ct w3 M2)
        | (at_builtin; refine wpList_mark _ rfl _ _ rfl base n m 3 _ rfl (M2.old.alloc _) ⟨w3.heap.size, 0, none⟩ 3 rfl (World.news_of_block (cs := #[.string (tx m), .string (tx m), .string (tx m)]) (t := 9) (fr := (0, 0)) (heap_alloc_new _ _)) (by omega) (by omega) (by have := M1.grown.size; have := M2.grown.size; simp at *; omega) ?_; intro gh ch w4 M3; obtain ⟨r0, r1, r2, r3, r4, f0, f1, f2, f3, f4⟩ := cells59 (own_block hR.out M1 M2 M3 hown))
        | fail)
      have hE := own_end (R := w.heap.size) (by omega) hR.out hb (by omega) hbase M1 M2 M3 hown (.slice (some ⟨g, 0, none⟩) n cap) (.slice (some ⟨go, 0, none⟩) (n + 1) co) (.slice (some ⟨gt, 0, none⟩) (n + 2) ct) (.slice (some ⟨gh, 0, none⟩) (n + 3) ch) (.int .i64 m)
      refine bodyPost_ret (v := .agg #[.slice (some ⟨g, 0, none⟩) n cap, .slice (some ⟨go, 0, none⟩) (n + 1) co, .slice (some ⟨gt, 0, none⟩) (n + 2) ct, .slice (some ⟨gh, 0, none⟩) (n + 3) ch, .int .i64 m]) (by simp [results, Tryz.results146, go_sem, r0, r1, r2, r3, r4]) rfl ⟨_, _, _, rfl, hE.1, hE.2⟩

theorem own_any (B base n m : Nat) (v : Value) (ws : List Value) (w : World) (hm : m ≤ 9223372036854775807) (hT : Tab B w) (hB : B ≤ base) (hbase : base ≤ w.heap.size) (hn : n ≤ 900) (hown : w.ownsRow base 9 1 v n ws) :
    Calls Tryz.prog 146 #[v, .int .i64 m] w fun e w' => ∃ o t h, e = .returned (.agg #[v, o, t, h, .int .i64 m]) ∧ Kept w' v o t h n m ∧ Below base w w' := by
  obtain ⟨a, cap, rfl, hsome⟩ := owns_forms hown
  have hl : ws.length = n := by have := hown.1; omega
  by_cases h0 : n = 0
  · subst h0
    have hw : ws = [] := List.length_eq_zero_iff.1 hl
    subst hw
    exact own_zero B base m a cap w hm hT hB hbase hown
  · obtain ⟨g, rfl⟩ := hsome (by omega)
    exact own_some B base n m g cap ws w hm hT hB hbase hn hl hown
end Go.Proofs.YtbkepgmgebmceaaGreatDoor.Spl

namespace Go.Proofs.YtbkepgmgebmceaaGreatDoor.Spl
open Go.RowKit Go.Proofs.YtbkepgmgebmceaaGreatDoor Go.Proofs.YtbkepgmgebmceaaGreatDoor.SiftM
set_option linter.unusedVariables false

theorem Tryz.info108 : (Tryz.prog.info? 108).map (fun i => (i.zero, i.size, i.bytes)) = some (some (.agg #[.slice none 0 0, .slice none 0 0, .slice none 0 0, .slice none 0 0, .int .i64 0]), 5, 104) := by kernel_rfl

/-- One list that came out: it, and the three begun at it. -/
structure One where
  l : Value
  o : Value
  t : Value
  h : Value
  n : Nat
def oneV (x : One) (i : Nat) : List Value := [x.l, x.o, x.t, x.h, .int .i64 (i : Int)]
def rowF : Nat → List One → List Value
  | _, [] => []
  | i, x :: t => oneV x i ++ rowF (i + 1) t
theorem rowF_append : ∀ (F G : List One) (i : Nat), rowF i (F ++ G) = rowF i F ++ rowF (i + F.length) G
  | [], _, _ => rfl
  | x :: t, G, i => by simp only [List.cons_append, rowF, rowF_append t G (i + 1), List.append_assoc, List.length_cons]; rw [show i + 1 + t.length = i + (t.length + 1) by omega]
theorem rowF_len : ∀ (F : List One) (i : Nat), (rowF i F).length = F.length * 5
  | [], _ => rfl
  | x :: t, i => by simp only [rowF, List.length_append, rowF_len t (i + 1), List.length_cons]; simp [oneV]; omega
/-- The fields of entry i. -/
theorem rowF_get : ∀ (F : List One) (i b : Nat) (x : One), F[i]? = some x → ∀ j, j < 5 → (rowF b F)[i * 5 + j]? = (oneV x (b + i))[j]?
  | [], i, b, x, h, j, hj => by simp at h
  | y :: t, 0, b, x, h, j, hj => by
    simp at h; subst h
    simp only [rowF]
    rw [List.getElem?_append_left (by simp [oneV]; omega)]
    simp
  | y :: t, i + 1, b, x, h, j, hj => by
    simp only [rowF]
    rw [List.getElem?_append_right (by simp [oneV]; omega)]
    have := rowF_get t i (b + 1) x (by simpa using h) j hj
    rw [show (i + 1) * 5 + j - (oneV y b).length = i * 5 + j by simp [oneV]; omega, this, show b + 1 + i = b + (i + 1) by omega]
def rowV (F : List One) : List Value := rowF 0 F
theorem rowV_snoc (F : List One) (x : One) : rowV (F ++ [x]) = rowV F ++ oneV x F.length := by
  unfold rowV; rw [rowF_append]; simp [rowF]

/-- The lists that came out, at block P. -/
structure Inv (w : World) (P : Nat) (F : List One) (v : Value) : Prop where
  hP : w.heap[P]? = some (.cells #[.slice none 0 0, .slice none 0 0, v, .slice none 0 0, .slice none 0 0, .slice none 0 0] 64 (0, 0))
  own : w.ownsRow (P + 1) 108 5 v F.length (rowV F)
  kept : ∀ i x, F[i]? = some x → Kept w x.l x.o x.t x.h x.n i

theorem heap_lt {w : World} {g : Nat} {o : Obj} (h : w.heap[g]? = some o) : g < w.heap.size := by
  rcases Nat.lt_or_ge g w.heap.size with h' | h'
  · exact h'
  · rw [Array.getElem?_eq_none h'] at h; simp at h
theorem inv_later {w w' : World} {P : Nat} {F : List One} {v : Value} (h : Inv w P F v) (hb : Below w.heap.size w w') : Inv w' P F v :=
  ⟨by rw [hb.block P (heap_lt h.hP)]; exact h.hP, owns_below h.own hb, fun i x hx => kept_later (h.kept i x hx) hb⟩

/-- A list of marks is not touched by what is done to a block of another kind. -/
theorem mk_far {w w' : World} {u : Value} {k m : Nat} {row : Option Nat} (hg : w.grownBy w' row) (hr : ∀ r, row = some r → ∃ cs t fz, w.heap[r]? = some (.cells cs t fz) ∧ t ≠ 9) (h : Mk w u k m) : Mk w' u k m := by
  obtain ⟨a, cap, rfl, hc⟩ := h
  refine ⟨a, cap, rfl, fun hk => ?_⟩
  obtain ⟨g, rfl, ⟨c9, fz, hh⟩, hcell⟩ := hc hk
  have hne : some g ≠ row := by
    intro e
    obtain ⟨cs, t, fz', h1, h2⟩ := hr g e.symm
    rw [hh] at h1
    simp at h1
    exact h2 h1.2.1.symm
  have hblk := hg.block g (heap_lt hh) hne
  exact ⟨g, rfl, ⟨c9, fz, by rw [hblk]; exact hh⟩, fun j hj => by rw [World.cell?_of_block (w := w) (a := ⟨g, j, none⟩) hblk]; exact hcell j hj⟩
theorem kept_far {w w' : World} {l o t h : Value} {n m : Nat} {row : Option Nat} (hg : w.grownBy w' row) (hr : ∀ r, row = some r → ∃ cs t fz, w.heap[r]? = some (.cells cs t fz) ∧ t ≠ 9) (k : Kept w l o t h n m) : Kept w' l o t h n m :=
  ⟨mk_far hg hr k.a, mk_far hg hr k.b, mk_far hg hr k.c, mk_far hg hr k.d, k.hn⟩
theorem own_kind {w : World} {base n size : Nat} {v : Value} {xs : List Value} (h : w.ownsRow base 108 size v n xs) : ∀ r, v.ownBlock = some r → ∃ cs t fz, w.heap[r]? = some (.cells cs t fz) ∧ t ≠ 9 := by
  intro r hr
  rcases h.2 with ⟨rfl, _⟩ | ⟨g, cap, cur, rfl, _, hh, _⟩
  · simp [Value.ownBlock] at hr
  · simp [Value.ownBlock] at hr
    subst hr
    exact ⟨cur, 108, _, hh, by decide⟩

/-- The lists with one more, behind the append and the store. -/
theorem inv_push {W w1 : World} {P g cap : Nat} {F : List One} {v : Value} {x : One} (hI : Inv W P F v) (hg : W.grownBy w1 v.ownBlock) (hk : Kept W x.l x.o x.t x.h x.n F.length)
    (hown : w1.ownsRow (P + 1) 108 5 (.slice (some ⟨g, 0, none⟩) (F.length + 1) cap) (F.length + 1) (rowV F ++ oneV x F.length)) :
    Inv (w1.setCell ⟨P, 2, none⟩ (.slice (some ⟨g, 0, none⟩) (F.length + 1) cap)) P (F ++ [x]) (.slice (some ⟨g, 0, none⟩) (F.length + 1) cap) := by
  have hPlt := heap_lt hI.hP
  have hPne : some P ≠ v.ownBlock := by
    intro e
    have := (hI.own.lt P e.symm).1
    omega
  have hP1 : w1.heap[P]? = some (.cells #[.slice none 0 0, .slice none 0 0, v, .slice none 0 0, .slice none 0 0, .slice none 0 0] 64 (0, 0)) := by rw [hg.block P hPlt hPne]; exact hI.hP
  have hset : w1.grownBy (w1.setCell ⟨P, 2, none⟩ (.slice (some ⟨g, 0, none⟩) (F.length + 1) cap)) (some P) :=
    ⟨rfl, rfl, rfl, by simp [World.setCell], fun k hk hn => Below.heap_setCell _ _ _ _ (fun e => hn (by rw [e]))⟩
  have hr : ∀ r, some P = some r → ∃ cs t fz, w1.heap[r]? = some (.cells cs t fz) ∧ t ≠ 9 := by
    intro r e; injection e with e; subst e; exact ⟨_, 64, _, hP1, by decide⟩
  refine ⟨?_, ?_, ?_⟩
  · rw [heap_setCell_same w1 P 2 _ 64 _ hP1]; rfl
  · rw [rowV_snoc, List.length_append]
    exact ownsRow_setCell_below hown (by simp) _
  · intro i y hy
    by_cases hi : i < F.length
    · rw [List.getElem?_append_left hi] at hy
      exact kept_far hset hr (kept_far hg (own_kind hI.own) (hI.kept i y hy))
    · rw [List.getElem?_append_right (by omega)] at hy
      have he : i = F.length := by
        rcases Nat.lt_or_ge (i - F.length) 1 with h' | h'
        · omega
        · rw [List.getElem?_eq_none (by simpa using h')] at hy; simp at hy
      subst he
      simp at hy
      subst hy
      exact kept_far hset hr (kept_far hg (own_kind hI.own) hk)
end Go.Proofs.YtbkepgmgebmceaaGreatDoor.Spl

namespace Go.Proofs.YtbkepgmgebmceaaGreatDoor.Spl
open Go.RowKit Go.Proofs.YtbkepgmgebmceaaGreatDoor Go.Proofs.YtbkepgmgebmceaaGreatDoor.SiftM
set_option linter.unusedVariables false

theorem inv_cell {w : World} {P : Nat} {F : List One} {v : Value} (h : Inv w P F v) : w.cell? ⟨P, 2, none⟩ = some v ∧ w.frozen? ⟨P, 2, none⟩ = false := by
  simp [World.cell?, World.frozen?, h.hP]

theorem far2 {w1 w2 : World} {P : Nat} {X Y : Obj} {row : Option Nat} {x : Value} (hP : P < w1.heap.size) (hne : some P ≠ row) (hg : ((w1.alloc X).alloc Y).drew.grownBy w2 row) (hc : w1.cell? ⟨P, 2, none⟩ = some x) (hf : w1.frozen? ⟨P, 2, none⟩ = false) :
    w2.cell? ⟨P, 2, none⟩ = some x ∧ w2.frozen? ⟨P, 2, none⟩ = false := by
  have hb : w2.heap[P]? = w1.heap[P]? := by
    rw [hg.block P (by show P < ((w1.alloc X).alloc Y).heap.size; simp; omega) hne]
    show ((w1.alloc X).alloc Y).heap[P]? = _
    rw [Below.heap_alloc _ _ _ (by simp; omega), Below.heap_alloc _ _ _ hP]
  exact ⟨by rw [World.cell?_of_block (w := w1) (a := ⟨P, 2, none⟩) hb]; exact hc, by rw [World.frozen?_of_block (w := w1) (a := ⟨P, 2, none⟩) hb]; exact hf⟩
theorem heap_two (w : World) (X Y : Obj) : ((w.alloc X).alloc Y).drew.heap[w.heap.size + 1]? = some Y := by
  have h := heap_alloc_new (w.alloc X) Y
  rw [World.size_alloc] at h
  exact h
theorem two_below (w : World) (X Y : Obj) : Below w.heap.size w ((w.alloc X).alloc Y).drew := (((Below.refl _ _).alloc (Nat.le_refl _) X).alloc (by simp) Y).drew

set_option maxHeartbeats 1000000 in
set_option maxRecDepth 100000 in
theorem string_any (B P base n : Nat) (F : List One) (v l : Value) (ws : List Value) (w0 w : World) (hI : Inv w0 P F v) (hb : Below w0.heap.size w0 w) (hbase : w0.heap.size ≤ base) (hbz : base ≤ w.heap.size) (hT : Tab B w) (hB : B ≤ P)
    (hF : (F.length + 1) * 104 ≤ 140737488355328) (hn : n ≤ 900) (hown : w.ownsRow base 9 1 l n ws) :
    Calls Tryz.prog 69 #[.pointer (some ⟨P, 1, none⟩), l] w fun e w' => e = .returned (.tuple #[]) ∧ (∃ x v', Inv w' P (F ++ [x]) v') ∧ Below P w w' := by
  obtain ⟨i0, hi, hz0, hz1, hz2⟩ := info_parts Tryz.info108
  obtain ⟨a, cap, hv, _⟩ : ∃ a cap, v = .slice a F.length cap ∧ True := by
    rcases hI.own.2 with ⟨rfl, h0⟩ | ⟨g, cap, cur, rfl, _⟩
    · exact ⟨none, 0, by rw [h0], trivial⟩
    · exact ⟨_, _, rfl, trivial⟩
  have hPlt := heap_lt hI.hP
  have hI1 := inv_later hI hb
  obtain ⟨hc2, hf2⟩ := inv_cell hI1
  rw [hv] at hc2
  replace hI := hide hI
  replace hI1 := hide hI1
  replace hv := hide hv
  replace hT := hide hT
  go_enter Tryz.func69, Tryz.ntmps69
  go_wp2_with fail
  refine (own_any B base n F.length l ws _ (by omega) hT.out (by omega) hbz hn hown).mono ?_
  rintro e w1 ⟨o, t, h, rfl, hk, hb1⟩
  obtain ⟨al, cl, rfl, _⟩ := id hk.a
  obtain ⟨ao, co, rfl, _⟩ := id hk.b
  obtain ⟨at', ct, rfl, _⟩ := id hk.c
  obtain ⟨ah, ch, rfl, _⟩ := id hk.d
  have hb2 : Below w0.heap.size w0 w1 := hb.trans (hb1.mono hbase)
  have hI2 := inv_later hI.out hb2
  obtain ⟨d2, e2⟩ := inv_cell hI2
  rw [hv.out] at d2
  replace hI2 := hide hI2
  replace hk := hide hk
  clear hI1 hc2 hf2
  go_wp2_with fail
  have hP1 : P < w1.heap.size := by have := hb2.size; omega
  have hownv : Hid (w1.ownsRow (P + 1) 108 5 (.slice a F.length cap) F.length (rowV F)) := by show World.ownsRow _ _ _ _ _ _ _; rw [← hv.out]; exact hI2.out.own
  have hne : some P ≠ (Value.slice a F.length cap).ownBlock := fun e => by have := (hownv.out.lt P e.symm).1; omega
  clear hown
  go_region_law ((refine step_append_lies _ (by rfl) _ _ _ (by rfl) (P + 1) 108 i0 _ 5 104 Tryz.underlying57 hi hz0 hz1 hz2 rfl (by omega) (.slice a F.length cap) F.length (rowV F) (by rfl) (((hownv.out.alloc _).alloc _).drew) ⟨w1.heap.size + 1, 0, none⟩ 1 1 [.slice al n cl, .slice ao (n + 1) co, .slice at' (n + 2) ct, .slice ah (n + 3) ch, .int .i64 (F.length : Int)] (by rfl) (by rfl) (World.news_of_block (cs := #[.slice al n cl, .slice ao (n + 1) co, .slice at' (n + 2) ct, .slice ah (n + 3) ch, .int .i64 (F.length : Int)]) (t := 108) (fr := (0, 0)) (heap_two w1 _ _)) (by simp [Value.oneCell']) (by omega) (by unfold maxLen; omega) (by omega) (by simp; omega) (w1.heap.size + 2) (by simp) ?_; intro g cap2 w2 hown2 hgrow hat hlt; obtain ⟨d3, e3⟩ := far2 hP1 hne hgrow d2 e2))
  all_goals
    go_wp2_with fail
    go_end0
    have hgrow' := hgrow
    rw [← hv.out] at hgrow'
    refine ⟨rfl, ⟨⟨.slice al n cl, .slice ao (n + 1) co, .slice at' (n + 2) ct, .slice ah (n + 3) ch, n⟩, _, inv_push (inv_later hI2.out (two_below w1 _ _)) hgrow' (kept_later hk.out (two_below w1 _ _)) hown2⟩, ?_⟩
    have hbel : Below P w w2 := ((hb1.mono (by omega)).trans ((two_below w1 _ _).mono (by omega))).grown hgrow (by show P ≤ ((w1.alloc _).alloc _).heap.size; simp; omega) (fun k hk => by have := (hownv.out.lt k hk).1; omega)
    exact hbel.setCell (p := ⟨P, 2, none⟩) (Nat.le_refl P) _
end Go.Proofs.YtbkepgmgebmceaaGreatDoor.Spl
