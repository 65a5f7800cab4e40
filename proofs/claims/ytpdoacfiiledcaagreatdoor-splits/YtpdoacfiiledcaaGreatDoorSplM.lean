import Derived.Test.YtpdoacfiiledcaaGreatDoorSplL
namespace Go.Proofs.YtpdoacfiiledcaaGreatDoor.Spl
open Go.RowKit Go.Proofs.YtpdoacfiiledcaaGreatDoor Go.Proofs.YtpdoacfiiledcaaGreatDoor.SiftM
set_option linter.unusedVariables false

theorem inv_cell {w : World} {P : Nat} {F : List One} {v : Value} (h : Inv w P F v) : w.cell? ⟨P, 2, none⟩ = some v ∧ w.frozen? ⟨P, 2, none⟩ = false := by
  simp [World.cell?, World.frozen?, h.hP]

theorem far2 {w1 w2 : World} {P : Nat} {X Y : Obj} {row : Option Nat} {x : Value} (hP : P < w1.heap.size) (hne : some P ≠ row) (hg : ((w1.alloc X).alloc Y).drew.grownBy w2 row) (hc : w1.cell? ⟨P, 2, none⟩ = some x) (hf : w1.frozen? ⟨P, 2, none⟩ = false) :
    w2.cell? ⟨P, 2, none⟩ = some x ∧ w2.frozen? ⟨P, 2, none⟩ = false := by
  have hb : w2.heap[P]? = w1.heap[P]? := by
    rw [hg.block P (by show P < ((w1.alloc X).alloc Y).heap.size; simp; omega) hne]
    show ((w1.alloc X).alloc Y).heap[P]? = _
    rw [Below.heap_alloc _ _ _ (by simp; omega), Below.heap_alloc _ _ _ hP]
  exact ⟨by rw [World.cell?_of_block (w := w1) (a := ⟨P, 2, none⟩) hb]; exact hc, by rw [World.frozen?_of_block (w := w1) (a := ⟨P, 2, none⟩) hb]; exact hf⟩
theorem heap_two (w : World) (X Y : Obj) : ((w.alloc X).alloc Y).drew.heap[w.heap.size + 1]? = some Y := by
  have h := heap_alloc_new (w.alloc X) Y
  rw [World.size_alloc] at h
  exact h
theorem two_below (w : World) (X Y : Obj) : Below w.heap.size w ((w.alloc X).alloc Y).drew := (((Below.refl _ _).alloc (Nat.le_refl _) X).alloc (by simp) Y).drew

set_option maxHeartbeats 1000000 in
set_option maxRecDepth 100000 in
theorem string_any (B P base n : Nat) (F : List One) (v l : Value) (ws : List Value) (w0 w : World) (hI : Inv w0 P F v) (hb : Below w0.heap.size w0 w) (hbase : w0.heap.size ≤ base) (hbz : base ≤ w.heap.size) (hT : Tab B w) (hB : B ≤ P)
    (hF : (F.length + 1) * 104 ≤ 140737488355328) (hn : n ≤ 900) (hown : w.ownsRow base 9 1 l n ws) :
    Calls Tryz.prog 74 #[.pointer (some ⟨P, 1, none⟩), l] w fun e w' => e = .returned (.tuple #[]) ∧ (∃ x v', Inv w' P (F ++ [x]) v') ∧ Below P w w' := by
  obtain ⟨i0, hi, hz0, hz1, hz2⟩ := info_parts Tryz.info111
  obtain ⟨a, cap, hv, _⟩ : ∃ a cap, v = .slice a F.length cap ∧ True := by
    rcases hI.own.2 with ⟨rfl, h0⟩ | ⟨g, cap, cur, rfl, _⟩
    · exact ⟨none, 0, by rw [h0], trivial⟩
    · exact ⟨_, _, rfl, trivial⟩
  have hPlt := heap_lt hI.hP
  have hI1 := inv_later hI hb
  obtain ⟨hc2, hf2⟩ := inv_cell hI1
  rw [hv] at hc2
  replace hI := hide hI
  replace hI1 := hide hI1
  replace hv := hide hv
  replace hT := hide hT
  go_enter Tryz.func74, Tryz.ntmps74
  go_wp2_with fail
  refine (own_any B base n F.length l ws _ (by omega) hT.out (by omega) hbz hn hown).mono ?_
  rintro e w1 ⟨o, t, h, rfl, hk, hb1⟩
  obtain ⟨al, cl, rfl, _⟩ := id hk.a
  obtain ⟨ao, co, rfl, _⟩ := id hk.b
  obtain ⟨at', ct, rfl, _⟩ := id hk.c
  obtain ⟨ah, ch, rfl, _⟩ := id hk.d
  have hb2 : Below w0.heap.size w0 w1 := hb.trans (hb1.mono hbase)
  have hI2 := inv_later hI.out hb2
  obtain ⟨d2, e2⟩ := inv_cell hI2
  rw [hv.out] at d2
  replace hI2 := hide hI2
  replace hk := hide hk
  clear hI1 hc2 hf2
  go_wp2_with fail
  have hP1 : P < w1.heap.size := by have := hb2.size; omega
  have hownv : Hid (w1.ownsRow (P + 1) 111 5 (.slice a F.length cap) F.length (rowV F)) := by show World.ownsRow _ _ _ _ _ _ _; rw [← hv.out]; exact hI2.out.own
  have hne : some P ≠ (Value.slice a F.length cap).ownBlock := fun e => by have := (hownv.out.lt P e.symm).1; omega
  clear hown
  go_region_law ((refine step_append_lies _ (by rfl) _ _ _ (by rfl) (P + 1) 111 i0 _ 5 104 Tryz.underlying57 hi hz0 hz1 hz2 rfl (by omega) (.slice a F.length cap) F.length (rowV F) (by rfl) (((hownv.out.alloc _).alloc _).drew) ⟨w1.heap.size + 1, 0, none⟩ 1 1 [.slice al n cl, .slice ao (n + 1) co, .slice at' (n + 2) ct, .slice ah (n + 3) ch, .int .i64 (F.length : Int)] (by rfl) (by rfl) (World.news_of_block (cs := #[.slice al n cl, .slice ao (n + 1) co, .slice at' (n + 2) ct, .slice ah (n + 3) ch, .int .i64 (F.length : Int)]) (t := 111) (fr := (0, 0)) (heap_two w1 _ _)) (by simp [Value.oneCell']) (by omega) (by unfold maxLen; omega) (by omega) (by simp; omega) (w1.heap.size + 2) (by simp) ?_; intro g cap2 w2 hown2 hgrow hat hlt; obtain ⟨d3, e3⟩ := far2 hP1 hne hgrow d2 e2))
  all_goals
    go_wp2_with fail
    go_end0
    have hgrow' := hgrow
    rw [← hv.out] at hgrow'
    refine ⟨rfl, ⟨⟨.slice al n cl, .slice ao (n + 1) co, .slice at' (n + 2) ct, .slice ah (n + 3) ch, n⟩, _, inv_push (inv_later hI2.out (two_below w1 _ _)) hgrow' (kept_later hk.out (two_below w1 _ _)) hown2⟩, ?_⟩
    have hbel : Below P w w2 := ((hb1.mono (by omega)).trans ((two_below w1 _ _).mono (by omega))).grown hgrow (by show P ≤ ((w1.alloc _).alloc _).heap.size; simp; omega) (fun k hk => by have := (hownv.out.lt k hk).1; omega)
    exact hbel.setCell (p := ⟨P, 2, none⟩) (Nat.le_refl P) _
end Go.Proofs.YtpdoacfiiledcaaGreatDoor.Spl
