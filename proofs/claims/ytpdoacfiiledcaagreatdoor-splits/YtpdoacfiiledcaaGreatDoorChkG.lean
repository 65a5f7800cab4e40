import Derived.Test.YtpdoacfiiledcaaGreatDoorAskG
import Derived.WalkSmall
import Derived.Deep.RegionHeld3
import Derived.Deep.AppendLies
namespace Go.Proofs.YtpdoacfiiledcaaGreatDoor
open Go.RowKit ChkM
set_option linter.unusedVariables false

set_option maxHeartbeats 400000 in
theorem isWord_any (c : UInt8) (w : World) :
    Calls Tryz.prog 279 #[.int .u8 c.toNat] w fun e w' => e = .returned (.bool (isSm c)) ∧ w' = w := by
  have hs := hide (isSm_int c)
  by_cases h1 : (97 : Int) ≤ (c.toNat : Int)
  · by_cases h2 : (c.toNat : Int) ≤ 122
    · go_enter Tryz.func279, Tryz.ntmps279
      go_wp2
      go_ret
      exact ⟨ret_bool (by rw [hs.out]; simp [h1, h2]), rfl⟩
    · have h3 : (48 : Int) ≤ (c.toNat : Int) := by omega
      have h4 : ¬ (c.toNat : Int) ≤ 57 := by omega
      go_enter Tryz.func279, Tryz.ntmps279
      go_wp2
      go_ret
      exact ⟨ret_bool (by rw [hs.out]; simp; omega), rfl⟩
  · by_cases h3 : (48 : Int) ≤ (c.toNat : Int)
    · by_cases h4 : (c.toNat : Int) ≤ 57
      · go_enter Tryz.func279, Tryz.ntmps279
        go_wp2
        go_ret
        exact ⟨ret_bool (by rw [hs.out]; simp; omega), rfl⟩
      · go_enter Tryz.func279, Tryz.ntmps279
        go_wp2
        go_ret
        exact ⟨ret_bool (by rw [hs.out]; simp; omega), rfl⟩
    · go_enter Tryz.func279, Tryz.ntmps279
      go_wp2
      go_ret
      exact ⟨ret_bool (by rw [hs.out]; simp; omega), rfl⟩

def opV (l : List Nat) : List Value := l.reverse.map fun (d : Nat) => Value.int .i64 (d : Int)
/-- A station at block S. -/
structure Stn (w : World) (S : Nat) (s : St) (v : Value) : Prop where
  c0 : w.cell? ⟨S, 0, none⟩ = some (.int .i64 s.at_)
  c1 : w.cell? ⟨S, 1, none⟩ = some (.int .i64 s.n)
  c2 : w.cell? ⟨S, 2, none⟩ = some (.int .i64 s.deep)
  c3 : w.cell? ⟨S, 3, none⟩ = some v
  own : w.ownsRow (S + 1) 3 1 v s.op.length (opV s.op)
  f : ∀ j, w.frozen? ⟨S, j, none⟩ = false
  hn : s.n ≤ 1000
  hd : s.deep ≤ 5
  ho : ∀ d ∈ s.op, d ≤ 4
  hl : s.op.length ≤ 1000

theorem cell_ne {w : World} {S i j : Nat} {v : Value} (h : i ≠ j) : (w.setCell ⟨S, i, none⟩ v).cell? ⟨S, j, none⟩ = w.cell? ⟨S, j, none⟩ :=
  World.cell?_setCell_other _ _ _ _ (fun hh => h (congrArg Addr.off hh))
theorem Stn.drewN {w : World} {S : Nat} {s : St} {v : Value} (h : Stn w S s v) (n : Nat) : Stn (w.drewN n) S s v := ⟨h.c0, h.c1, h.c2, h.c3, h.own, h.f, h.hn, h.hd, h.ho, h.hl⟩
theorem Stn.set0 {w : World} {S : Nat} {s : St} {v : Value} (h : Stn w S s v) (j : Nat) : Stn (w.setCell ⟨S, 0, none⟩ (.int .i64 j)) S { s with at_ := j } v :=
  ⟨World.cell?_setCell_same _ _ _ h.c0, by rw [cell_ne (by decide)]; exact h.c1, by rw [cell_ne (by decide)]; exact h.c2, by rw [cell_ne (by decide)]; exact h.c3, ownsRow_setCell_below h.own (by simp) _, fun j => by simpa using h.f j, h.hn, h.hd, h.ho, h.hl⟩
theorem Stn.set1 {w : World} {S : Nat} {s : St} {v : Value} (h : Stn w S s v) (j : Nat) (hj : j ≤ 1000) : Stn (w.setCell ⟨S, 1, none⟩ (.int .i64 j)) S { s with n := j } v :=
  ⟨by rw [cell_ne (by decide)]; exact h.c0, World.cell?_setCell_same _ _ _ h.c1, by rw [cell_ne (by decide)]; exact h.c2, by rw [cell_ne (by decide)]; exact h.c3, ownsRow_setCell_below h.own (by simp) _, fun j => by simpa using h.f j, hj, h.hd, h.ho, h.hl⟩
theorem Stn.set2 {w : World} {S : Nat} {s : St} {v : Value} (h : Stn w S s v) (j : Nat) (hj : j ≤ 5) : Stn (w.setCell ⟨S, 2, none⟩ (.int .i64 j)) S { s with deep := j } v :=
  ⟨by rw [cell_ne (by decide)]; exact h.c0, by rw [cell_ne (by decide)]; exact h.c1, World.cell?_setCell_same _ _ _ h.c2, by rw [cell_ne (by decide)]; exact h.c3, ownsRow_setCell_below h.own (by simp) _, fun j => by simpa using h.f j, h.hn, hj, h.ho, h.hl⟩
theorem Stn.set3 {w : World} {S : Nat} {s : St} {v : Value} (h : Stn w S s v) (v' : Value) (op' : List Nat) (hown : w.ownsRow (S + 1) 3 1 v' op'.length (opV op')) (ho : ∀ d ∈ op', d ≤ 4) (hl : op'.length ≤ 1000) :
    Stn (w.setCell ⟨S, 3, none⟩ v') S { s with op := op' } v' :=
  ⟨by rw [cell_ne (by decide)]; exact h.c0, by rw [cell_ne (by decide)]; exact h.c1, by rw [cell_ne (by decide)]; exact h.c2, World.cell?_setCell_same _ _ _ h.c3, ownsRow_setCell_below hown (by simp) _, fun j => by simpa using h.f j, h.hn, h.hd, ho, hl⟩
theorem Stn.drew {w : World} {S : Nat} {s : St} {v : Value} (h : Stn w S s v) : Stn w.drew S s v := ⟨h.c0, h.c1, h.c2, h.c3, h.own, h.f, h.hn, h.hd, h.ho, h.hl⟩
theorem Stn.below0 {w : World} {S i : Nat} {v : Value} : Below S w (w.setCell ⟨S, i, none⟩ v) := (Below.refl S w).setCell (p := ⟨S, i, none⟩) (Nat.le_refl _) v
theorem bel_drewN (B : Nat) (w : World) (n : Nat) : Below B w (w.drewN n) := ⟨rfl, rfl, rfl, Nat.le_refl _, fun _ _ => rfl⟩
theorem byte_eq (c d : UInt8) (n : Int) (hd : (d.toNat : Int) = n) (h : c = d) : ((c.toNat : Int) == n) = true := by subst h; rw [hd]; simp
theorem byte_ne (c d : UInt8) (n : Int) (hd : (d.toNat : Int) = n) (h : ¬ c = d) : ((c.toNat : Int) == n) = false := by
  rw [beq_eq_false_iff_ne]; intro e; exact h (UInt8.toNat_inj.1 (by omega))

theorem joins_and (s : St) (c : UInt8) (h : c = 38 ∨ c = 124) : joinsA s c = { { s with at_ := 0 } with deep := around s.op } := by unfold joinsA; rw [if_pos h]
theorem joins_shut (s : St) (c : UInt8) (h : c = 41) (ho : s.op ≠ []) : joinsA s c = { { s with at_ := 2 } with op := s.op.tail } := by
  subst h; unfold joinsA; rw [if_neg (by decide), if_pos ⟨rfl, ho⟩]
theorem joins_no (s : St) (c : UInt8) (h : ¬ c = 38) (h2 : ¬ c = 124) (h3 : c = 41 → s.op = []) : joinsA s c = { s with at_ := 4 } := by
  unfold joinsA; rw [if_neg (by simp [h, h2]), if_neg (fun e => e.2 (h3 e.1))]

set_option maxHeartbeats 400000 in
set_option maxRecDepth 100000 in
theorem joins_nil (s : St) (v : Value) (c : UInt8) (S : Nat) (w : World) (h : Stn w S s v) (ho : s.op = []) :
    Calls Tryz.prog 281 #[.pointer (some ⟨S, 0, none⟩), .int .u8 c.toNat] w fun e w' => e = .returned (.tuple #[]) ∧ (∃ v', Stn w' S (joinsA s c) v') ∧ Below S w w' := by
  have hown := h.own
  have hc3 := h.c3
  have hc0 := h.c0
  have hc2 := h.c2
  have f0 := h.f 0
  have f2 := h.f 2
  obtain ⟨a, cap, hv, _⟩ : ∃ a cap, v = .slice a 0 cap ∧ True := by
    rw [ho] at hown
    rcases hown.2 with ⟨rfl, _⟩ | ⟨g, cap, cur, rfl, _⟩
    · exact ⟨_, _, rfl, trivial⟩
    · exact ⟨_, _, rfl, trivial⟩
  rw [hv] at hc3
  clear hown
  replace h := hide h
  replace hv := hide hv
  by_cases h38 : c = 38
  · have b1 := byte_eq c 38 38 rfl h38
    have HJ := hide (joins_and s c (Or.inl h38))
    have HA : Hid (around s.op = 0) := by show _ = _; rw [ho]; rfl
    clear h38 ho
    go_enter Tryz.func281, Tryz.ntmps281
    go_wp2_with fail
    go_end0
    rw [HJ.out, HA.out]
    exact ⟨rfl, ⟨v, (h.out.set0 0).set2 0 (by omega)⟩, Stn.below0.trans Stn.below0⟩
  · have b1 := byte_ne c 38 38 rfl h38
    by_cases h124 : c = 124
    · have b2 := byte_eq c 124 124 rfl h124
      have HJ := hide (joins_and s c (Or.inr h124))
      have HA : Hid (around s.op = 0) := by show _ = _; rw [ho]; rfl
      clear h38 ho h124
      go_enter Tryz.func281, Tryz.ntmps281
      go_wp2_with fail
      go_end0
      rw [HJ.out, HA.out]
      exact ⟨rfl, ⟨v, (h.out.set0 0).set2 0 (by omega)⟩, Stn.below0.trans Stn.below0⟩
    · have b2 := byte_ne c 124 124 rfl h124
      have HJ := hide (joins_no s c h38 h124 (fun _ => ho))
      clear h38 ho h124
      by_cases h41 : c = 41
      · have b3 := byte_eq c 41 41 rfl h41
        clear h41
        go_enter Tryz.func281, Tryz.ntmps281
        go_wp2_with fail
        go_end0
        rw [HJ.out]
        exact ⟨rfl, ⟨v, h.out.set0 4⟩, Stn.below0⟩
      · have b3 := byte_ne c 41 41 rfl h41
        clear h41
        go_enter Tryz.func281, Tryz.ntmps281
        go_wp2_with fail
        go_end0
        rw [HJ.out]
        exact ⟨rfl, ⟨v, h.out.set0 4⟩, Stn.below0⟩

theorem opV_cons (d : Nat) (t : List Nat) : opV (d :: t) = opV t ++ [.int .i64 (d : Int)] := by simp [opV]
theorem opV_length (l : List Nat) : (opV l).length = l.length := by simp [opV]

set_option maxHeartbeats 400000 in
set_option maxRecDepth 100000 in
theorem joins_cons (s : St) (v : Value) (c : UInt8) (S d : Nat) (t : List Nat) (w : World) (h : Stn w S s v) (ho : s.op = d :: t) :
    Calls Tryz.prog 281 #[.pointer (some ⟨S, 0, none⟩), .int .u8 c.toNat] w fun e w' => e = .returned (.tuple #[]) ∧ (∃ v', Stn w' S (joinsA s c) v') ∧ Below S w w' := by
  have hown := h.own
  have hc3 := h.c3
  have hc0 := h.c0
  have hc2 := h.c2
  have f0 := h.f 0
  have f2 := h.f 2
  have f3 := h.f 3
  have hd := h.ho d (by rw [ho]; simp)
  have hlen := h.hl
  obtain ⟨m, hm⟩ : ∃ m, t.length = m := ⟨_, rfl⟩
  rw [ho, List.length_cons, hm, opV_cons] at hown
  rw [ho, List.length_cons, hm] at hlen
  obtain ⟨g, cap, hv⟩ : ∃ g cap, v = .slice (some ⟨g, 0, none⟩) (m + 1) cap := by
    rcases hown.2 with ⟨_, hz⟩ | ⟨g, cap, cur, rfl, _⟩
    · omega
    · exact ⟨_, _, rfl⟩
  rw [hv] at hc3 hown
  have hcap : m + 1 ≤ cap := by
    rcases hown.2 with ⟨_, hz⟩ | ⟨g', cap', cur, hx, _, _, hle, _⟩
    · omega
    · cases hx; exact hle
  have hcell : w.cell? ⟨g, m, none⟩ = some (.int .i64 (d : Int)) := by
    rw [hown.cellAt m (by omega), List.getElem?_append_right (by rw [opV_length]; omega), opV_length, hm]; simp
  have i1 : (0 : Int) ≤ (m : Int) := by omega
  have i2 : (m : Int) < (m : Int) + 1 := by omega
  replace hown := hide hown
  replace h := hide h
  replace hv := hide hv
  replace hm := hide hm
  have HA : Hid (around s.op = d + 1) := by show _ = _; rw [ho]; rfl
  by_cases h38 : c = 38
  · have b1 := byte_eq c 38 38 rfl h38
    have HJ := hide (joins_and s c (Or.inl h38))
    clear h38 ho
    go_enter Tryz.func281, Tryz.ntmps281
    go_wp2_with fail
    go_quiet (fail)
    go_wp2_with fail
    go_end0
    rw [HJ.out, HA.out]
    exact ⟨rfl, ⟨v, ((h.out.drewN nq).set0 0).set2 (d + 1) (by omega)⟩, (bel_drewN S w nq).trans (Stn.below0.trans Stn.below0)⟩
  · have b1 := byte_ne c 38 38 rfl h38
    by_cases h124 : c = 124
    · have b2 := byte_eq c 124 124 rfl h124
      have HJ := hide (joins_and s c (Or.inr h124))
      clear h38 ho h124
      go_enter Tryz.func281, Tryz.ntmps281
      go_wp2_with fail
      go_quiet (fail)
      go_wp2_with fail
      go_end0
      rw [HJ.out, HA.out]
      exact ⟨rfl, ⟨v, ((h.out.drewN nq).set0 0).set2 (d + 1) (by omega)⟩, (bel_drewN S w nq).trans (Stn.below0.trans Stn.below0)⟩
    · have b2 := byte_ne c 124 124 rfl h124
      by_cases h41 : c = 41
      · have b3 := byte_eq c 41 41 rfl h41
        have HJ := hide (joins_shut s c h41 (by rw [ho]; simp))
        have HT : Hid (s.op.tail = t) := by show _ = _; rw [ho]; rfl
        clear h38 h124 h41 ho
        go_enter Tryz.func281, Tryz.ntmps281
        go_wp2_with fail
        go_quiet (fail)
        go_wp2_with fail
        go_region
        go_wp2_with fail
        go_end0
        rw [HJ.out, HT.out]
        have hop : ∀ x ∈ t, x ≤ 4 := fun x hx => h.out.ho x (by
          have := HT.out
          cases hop : s.op with
          | nil => rw [hop] at this; simp at this; rw [this] at hx; simp at hx
          | cons y u => rw [hop] at this; simp at this; rw [this]; simp [hx])
        have hown2 : ((w.drewN nq).setCell ⟨S, 0, none⟩ (.int .i64 2)).ownsRow (S + 1) 3 1 (.slice (some ⟨g, 0, none⟩) m cap) t.length (opV t) := by
          rw [hm.out]
          exact ownsRow_pop (by rw [opV_length, hm.out]; omega) (ownsRow_setCell_below (w := w.drewN nq) hown.out (by simp) _)
        exact ⟨rfl, ⟨_, (((h.out.drewN nq).set0 2).set3 _ t hown2 hop (by rw [hm.out]; omega)).drew⟩, ((bel_drewN S w nq).trans (Stn.below0.trans Stn.below0)).drew⟩
      · have b3 := byte_ne c 41 41 rfl h41
        have HJ := hide (joins_no s c h38 h124 (fun e => absurd e h41))
        clear h38 ho h124 h41
        go_enter Tryz.func281, Tryz.ntmps281
        go_wp2_with fail
        go_quiet (fail)
        go_wp2_with fail
        go_end0
        rw [HJ.out]
        exact ⟨rfl, ⟨v, (h.out.drewN nq).set0 4⟩, (bel_drewN S w nq).trans Stn.below0⟩

theorem joins_any (s : St) (v : Value) (c : UInt8) (S : Nat) (w : World) (h : Stn w S s v) :
    Calls Tryz.prog 281 #[.pointer (some ⟨S, 0, none⟩), .int .u8 c.toNat] w fun e w' => e = .returned (.tuple #[]) ∧ (∃ v', Stn w' S (joinsA s c) v') ∧ Below S w w' := by
  cases ho : s.op with
  | nil => exact joins_nil s v c S w h ho
  | cons d t => exact joins_cons s v c S d t w h ho
end Go.Proofs.YtpdoacfiiledcaaGreatDoor
