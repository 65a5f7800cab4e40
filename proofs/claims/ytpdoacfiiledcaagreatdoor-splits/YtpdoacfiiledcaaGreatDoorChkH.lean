import Derived.Test.YtpdoacfiiledcaaGreatDoorChkG
import Derived.Deep.RegionLaw
namespace Go.Proofs.YtpdoacfiiledcaaGreatDoor
open Go.RowKit ChkM
set_option linter.unusedVariables false

theorem Tryz.info3 : (Tryz.prog.info? 3).map (fun i => (i.zero, i.size, i.bytes)) = some (some (.int .i64 0), 1, 8) := by kernel_rfl

theorem part_word (s : St) (c : UInt8) (h : isSm c = true) : partA s c = { { s with at_ := 1 } with n := 1 } := by unfold partA; rw [if_pos h]
theorem part_quote (s : St) (c : UInt8) (h : isSm c = false) (h2 : c = 34) : partA s c = { { s with at_ := 3 } with n := 0 } := by unfold partA; rw [if_neg (by simp [h]), if_pos h2]
theorem part_not (s : St) (c : UInt8) (h : isSm c = false) (h2 : c = 33) (hd : s.deep < 5) : partA s c = { s with deep := s.deep + 1 } := by
  subst h2; unfold partA; rw [if_neg (by simp [h]), if_neg (by decide), if_pos ⟨rfl, hd⟩]
theorem part_brack (s : St) (c : UInt8) (h : isSm c = false) (h2 : c = 40) (hd : s.deep < 5) : partA s c = { { s with op := s.deep :: s.op } with deep := s.deep + 1 } := by
  subst h2; unfold partA; rw [if_neg (by simp [h]), if_neg (by decide), if_neg (by simp), if_pos ⟨rfl, hd⟩]
theorem part_bad (s : St) (c : UInt8) (h : isSm c = false) (h2 : ¬ c = 34) (h3 : ¬ (c = 33 ∧ s.deep < 5)) (h4 : ¬ (c = 40 ∧ s.deep < 5)) : partA s c = { s with at_ := 4 } := by
  unfold partA; rw [if_neg (by simp [h]), if_neg h2, if_neg h3, if_neg h4]

/-- A station's cells behind an append onto its own row. -/
theorem far_cell {w w1 : World} {S : Nat} {o : Obj} {row : Option Nat} (hz : S < w.heap.size) (hne : some S ≠ row) (hg : (w.alloc o).drew.grownBy w1 row) (j : Nat) : w1.cell? ⟨S, j, none⟩ = w.cell? ⟨S, j, none⟩ := by
  rw [hg.cell_far ⟨S, j, none⟩ (by show S < (w.alloc o).heap.size; simp; omega) hne]
  show (w.alloc o).cell? _ = _
  rw [World.cell?_alloc_past _ _ _ hz]
theorem far_frozen {w w1 : World} {S : Nat} {o : Obj} {row : Option Nat} (hz : S < w.heap.size) (hne : some S ≠ row) (hg : (w.alloc o).drew.grownBy w1 row) (j : Nat) : w1.frozen? ⟨S, j, none⟩ = w.frozen? ⟨S, j, none⟩ := by
  rw [World.frozen?_of_block (w := (w.alloc o).drew) (hg.block S (by show S < (w.alloc o).heap.size; simp; omega) hne)]
  exact World.frozen?_of_block (w := w) (Below.heap_alloc w o S hz)
theorem far_all {w w1 : World} {S : Nat} {o : Obj} {row : Option Nat} {a b : Value} (hz : S < w.heap.size) (hne : some S ≠ row) (hg : (w.alloc o).drew.grownBy w1 row)
    (h3 : w.cell? ⟨S, 3, none⟩ = some a) (h2 : w.cell? ⟨S, 2, none⟩ = some b) (f3 : w.frozen? ⟨S, 3, none⟩ = false) (f2 : w.frozen? ⟨S, 2, none⟩ = false) :
    w1.cell? ⟨S, 3, none⟩ = some a ∧ w1.cell? ⟨S, 2, none⟩ = some b ∧ w1.frozen? ⟨S, 3, none⟩ = false ∧ w1.frozen? ⟨S, 2, none⟩ = false :=
  ⟨(far_cell hz hne hg 3).trans h3, (far_cell hz hne hg 2).trans h2, (far_frozen hz hne hg 3).trans f3, (far_frozen hz hne hg 2).trans f2⟩
theorem far_below {w w1 : World} {S : Nat} {o : Obj} {row : Option Nat} (hz : S < w.heap.size) (hr : ∀ k, row = some k → S ≤ k) (hg : (w.alloc o).drew.grownBy w1 row) : Below S w w1 :=
  ((Below.refl S w).alloc (by omega) o).drew.grown hg (by show S ≤ (w.alloc o).heap.size; simp; omega) hr

theorem Stn.push {w w1 : World} {S : Nat} {s : St} {v v' : Value} {o : Obj} (h : Stn w S s v) (hz : S < w.heap.size) (hne : some S ≠ v.ownBlock) (hg : (w.alloc o).drew.grownBy w1 v.ownBlock)
    (hown : w1.ownsRow (S + 1) 3 1 v' (s.op.length + 1) (opV s.op ++ [.int .i64 (s.deep : Int)])) (hl : s.op.length < 1000) (hd : s.deep < 5) :
    Stn (w1.setCell ⟨S, 3, none⟩ v') S { s with op := s.deep :: s.op } v' :=
  ⟨by rw [cell_ne (by decide), far_cell hz hne hg]; exact h.c0, by rw [cell_ne (by decide), far_cell hz hne hg]; exact h.c1, by rw [cell_ne (by decide), far_cell hz hne hg]; exact h.c2,
    World.cell?_setCell_same _ _ _ ((far_cell hz hne hg 3).trans h.c3), by
      show (w1.setCell ⟨S, 3, none⟩ v').ownsRow (S + 1) 3 1 v' (s.op.length + 1) (opV (s.deep :: s.op))
      rw [opV_cons]; exact ownsRow_setCell_below hown (by simp) _,
    fun j => by rw [World.frozen?_setCell, far_frozen hz hne hg]; exact h.f j, h.hn, h.hd, fun x hx => by
      rcases List.mem_cons.1 hx with rfl | hx
      · omega
      · exact h.ho x hx, by show s.op.length + 1 ≤ 1000; omega⟩

set_option maxHeartbeats 1000000 in
set_option maxRecDepth 100000 in
theorem part_open_any (s : St) (v : Value) (c : UInt8) (S : Nat) (w : World) (h : Stn w S s v) (hl : s.op.length < 1000) (hz : S < w.heap.size) (hw : isSm c = false) (hc : c = 40) (hd : s.deep < 5) :
    Calls Tryz.prog 280 #[.pointer (some ⟨S, 0, none⟩), .int .u8 c.toNat] w fun e w' => e = .returned (.tuple #[]) ∧ (∃ v', Stn w' S (partA s c) v') ∧ Below S w w' := by
  obtain ⟨i0, hi, hz0, hz1, hz2⟩ := info_parts Tryz.info3
  have hown := h.own
  have hc3 := h.c3
  have hc2 := h.c2
  have f2 := h.f 2
  have f3 := h.f 3
  have HJ := hide (part_brack s c hw hc hd)
  have b1 := byte_ne c 34 34 rfl (by rw [hc]; decide)
  have b2 := byte_ne c 33 33 rfl (by rw [hc]; decide)
  have b3 := byte_eq c 40 40 rfl hc
  have hne : some S ≠ v.ownBlock := fun e => by have := (hown.lt S e.symm).1; omega
  replace h := hide h
  replace hown := hide hown
  clear hc
  go_enter Tryz.func280, Tryz.ntmps280
  go_wp2_with fail
  refine (isWord_any _ _).mono ?_
  rintro e w' ⟨rfl, rfl⟩
  rw [hw]
  go_wp2_with fail
  go_region_law ((refine step_append_lies _ (by rfl) _ _ _ (by rfl) (S + 1) 3 i0 _ 1 8 Tryz.underlying24 hi hz0 hz1 hz2 rfl (by omega) v s.op.length (opV s.op) (by rfl) ((hown.out.alloc _).drew) ⟨w'.heap.size, 0, none⟩ 1 1 [.int .i64 (s.deep : Int)] (by rfl) (by rfl) (World.news_of_block (cs := #[.int .i64 (s.deep : Int)]) (t := 3) (fr := (0, 0)) (heap_alloc_new w' _)) (by simp [Value.oneCell']) (by omega) (by unfold maxLen; omega) (by omega) (by simp; omega) (w'.heap.size + 1) (by simp) ?_; intro g cap w1 hown1 hgrow hat hlt; obtain ⟨d3, d2, e3, e2⟩ := far_all hz hne hgrow hc3 hc2 f3 f2))
  all_goals
    go_wp2_with fail
    go_end0
    rw [HJ.out]
    exact ⟨rfl, ⟨_, (h.out.push hz hne hgrow hown1 hl hd).set2 (s.deep + 1) (by omega)⟩, (far_below hz (fun k hk => by have := (hown.out.lt k hk).1; omega) hgrow).trans (Stn.below0.trans Stn.below0)⟩
end Go.Proofs.YtpdoacfiiledcaaGreatDoor
