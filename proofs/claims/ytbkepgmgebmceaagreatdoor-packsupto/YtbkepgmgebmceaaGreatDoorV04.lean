import Derived.Test.YtbkepgmgebmceaaGreatDoorV03
import Derived.WalkSmall
import Derived.Deep.RegionHeld3
import Derived.Deep.AppendLies
import Derived.Deep.RegionLaw

namespace Go.Proofs.YtbkepgmgebmceaaGreatDoor
open Go.RowKit ChkM
open Pak (Kp)
set_option linter.unusedVariables false

/-- What readQuery gives. -/
def AskPost (ans : Int × Nat) (w : World) (e : Ending) (w' : World) : Prop :=
  ∃ v : Value, e = .returned (.tuple #[v, .int .i64 ans.1, .int .i64 (ans.2 : Int)]) ∧ Qv v ∧ Kp [] w w'
/-- The answer of Check to a text of whatever length. -/
def checkAns (s : ByteArray) : Int × Nat := if 60 < s.size then (4, 0) else codeAns s.data.toList

set_option maxHeartbeats 1000000 in
set_option maxRecDepth 100000 in
theorem askq_any (s : ByteArray) (w : World) : Calls Tryz.prog 56 #[.string s] w (AskPost (checkAns s) w) := by
  have hr := heap_alloc_new w (.cells nilQ 136)
  by_cases hl : 60 < s.size
  · have HE : Hid (checkAns s = (4, 0)) := by show _ = _; unfold checkAns; rw [if_pos hl]
    have HR := hide hr
    clear hr
    go_enter Tryz.func56, Tryz.ntmps56
    go_wp2_with fail
    refine ret_query3 (R0 := w.heap.size) rfl (heap_alloc_new w _) rfl rfl ?_
    rw [HE.out]
    exact ⟨_, rfl, ⟨0, none, 0, 0, none, 0, 0, rfl⟩, (Kp.refl [] w).alloc _⟩
  · have HE : Hid (checkAns s = codeAns s.data.toList) := by show _ = _; unfold checkAns; rw [if_neg hl]
    have hls : s.data.toList.length = s.size := by simp
    have HL := hide hls
    have HR := hide hr
    clear hr hls
    go_enter Tryz.func56, Tryz.ntmps56
    go_wp2_with fail
    refine (readq_any s _ (by omega)).mono ?_
    rintro e w1 ⟨v, b, k, rfl, ⟨kd1, a1, n1, c1, a2, n2, c2, rfl⟩, hb, hk, hks, hK⟩
    have r1 : Bx w1 w.heap.size 0 (.slice none 0 0) (.slice none 0 0) := hK.heap HR.out (by simp)
    have K1 : Hid (Kp [] w w1) := ((Kp.refl [] w).alloc _).next hK
    have HR1 := hide r1
    have hlt : w.heap.size < w1.heap.size := (Array.getElem?_eq_some_iff.1 r1).1
    obtain ⟨x0, x1, x2, y0, y1, y2⟩ := bx_cells r1
    obtain ⟨X0, X1, X2, Y0, Y1, Y2⟩ := bx_cells_past r1
    clear r1 hK HR
    cases b
    · have hf : Hid (codeAns s.data.toList = (8, k)) := by
        show _ = _
        unfold codeAns
        have h2 := of_decide_eq_false hb.out.symm
        rw [if_neg h2, HL.out, hk.out]
      clear hb hk
      go_wp2_with fail
      refine ret_query3 rfl (bx_past (bx_store3 HR1.out _ _ _) _) rfl rfl ?_
      rw [HE.out, hf.out]
      exact ⟨_, rfl, ⟨0, none, 0, 0, none, 0, 0, rfl⟩, K1.out.trans ((kp_store3 _ _ _ _ _).alloc _) (fun x hx => by simp at hx; subst hx; exact .inr (Nat.le_refl _))⟩
    · have hf : Hid (codeAns s.data.toList = (0, 0)) := by
        show _ = _
        unfold codeAns
        have h2 := of_decide_eq_true hb.out.symm
        rw [if_pos h2]
      clear hb hk
      go_wp2_with fail
      refine ret_query3 rfl (bx_past (bx_store3 HR1.out _ _ _) _) rfl rfl ?_
      rw [HE.out, hf.out]
      exact ⟨_, rfl, ⟨kd1, a1, n1, c1, a2, n2, c2, rfl⟩, K1.out.trans ((kp_store3 _ _ _ _ _).alloc _) (fun x hx => by simp at hx; subst hx; exact .inr (Nat.le_refl _))⟩

set_option maxHeartbeats 1000000 in
set_option maxRecDepth 100000 in
theorem check_any (s : ByteArray) (w : World) :
    Calls Tryz.prog 70 #[.string s] w fun e w' => e = .returned (.tuple #[.int .i64 (checkAns s).1, .int .i64 ((checkAns s).2 : Int)]) ∧ Below w.heap.size w w' := by
  go_enter Tryz.func70, Tryz.ntmps70
  go_wp2_with fail
  refine (askq_any s _).mono ?_
  rintro e w1 ⟨v, rfl, ⟨kd1, a1, n1, c1, a2, n2, c2, rfl⟩, hK⟩
  have HK := hide hK
  clear hK
  go_wp2_with fail
  go_ret2
  exact ⟨rfl, (HK.out.alloc _).below (Nat.le_refl _) (by simp)⟩
theorem check_long (s : ByteArray) (w : World) (hs : 60 < s.size) :
    Calls Tryz.prog 70 #[.string s] w fun e w' => e = .returned (.tuple #[.int .i64 4, .int .i64 0]) ∧ Below w.heap.size w w' := by
  have h := check_any s w
  rw [show checkAns s = (4, 0) by unfold checkAns; rw [if_pos hs]] at h
  exact h
theorem code_le (l : List UInt8) : (codeAns l).2 ≤ l.length := by
  unfold codeAns
  split
  · exact Nat.zero_le _
  · exact Nat.sub_le _ _
theorem check_ok (s : ByteArray) (w : World) (hs : s.size ≤ 60) :
    Calls Tryz.prog 70 #[.string s] w fun e w' => ∃ (a : Int) (k : Nat), e = .returned (.tuple #[.int .i64 a, .int .i64 k]) ∧ Hid (codeAns s.data.toList = (a, k)) ∧ k ≤ s.size ∧ Below w.heap.size w w' := by
  have h := check_any s w
  rw [show checkAns s = codeAns s.data.toList by unfold checkAns; rw [if_neg (by omega)]] at h
  refine h.mono ?_
  rintro e w' ⟨rfl, hb⟩
  have hl : s.data.toList.length = s.size := by simp
  have := code_le s.data.toList
  exact ⟨_, _, rfl, rfl, by omega, hb⟩
end Go.Proofs.YtbkepgmgebmceaaGreatDoor

namespace Go.Proofs.YtbkepgmgebmceaaGreatDoor
open Go.RowKit ChkM
set_option linter.unusedVariables false

set_option maxHeartbeats 400000 in
theorem isWord_any (c : UInt8) (w : World) :
    Calls Tryz.prog 232 #[.int .u8 c.toNat] w fun e w' => e = .returned (.bool (isSm c)) ∧ w' = w := by
  have hs := hide (isSm_int c)
  by_cases h1 : (97 : Int) ≤ (c.toNat : Int)
  · by_cases h2 : (c.toNat : Int) ≤ 122
    · go_enter Tryz.func232, Tryz.ntmps232
      go_wp2
      go_ret
      exact ⟨ret_bool (by rw [hs.out]; simp [h1, h2]), rfl⟩
    · have h3 : (48 : Int) ≤ (c.toNat : Int) := by omega
      have h4 : ¬ (c.toNat : Int) ≤ 57 := by omega
      go_enter Tryz.func232, Tryz.ntmps232
      go_wp2
      go_ret
      exact ⟨ret_bool (by rw [hs.out]; simp; omega), rfl⟩
  · by_cases h3 : (48 : Int) ≤ (c.toNat : Int)
    · by_cases h4 : (c.toNat : Int) ≤ 57
      · go_enter Tryz.func232, Tryz.ntmps232
        go_wp2
        go_ret
        exact ⟨ret_bool (by rw [hs.out]; simp; omega), rfl⟩
      · go_enter Tryz.func232, Tryz.ntmps232
        go_wp2
        go_ret
        exact ⟨ret_bool (by rw [hs.out]; simp; omega), rfl⟩
    · go_enter Tryz.func232, Tryz.ntmps232
      go_wp2
      go_ret
      exact ⟨ret_bool (by rw [hs.out]; simp; omega), rfl⟩

def opV (l : List Nat) : List Value := l.reverse.map fun (d : Nat) => Value.int .i64 (d : Int)
/-- A station at block S. -/
structure Stn (w : World) (S : Nat) (s : St) (v : Value) : Prop where
  c0 : w.cell? ⟨S, 0, none⟩ = some (.int .i64 s.at_)
  c1 : w.cell? ⟨S, 1, none⟩ = some (.int .i64 s.n)
  c2 : w.cell? ⟨S, 2, none⟩ = some (.int .i64 s.deep)
  c3 : w.cell? ⟨S, 3, none⟩ = some v
  own : w.ownsRow (S + 1) 3 1 v s.op.length (opV s.op)
  f : ∀ j, w.frozen? ⟨S, j, none⟩ = false
  hn : s.n ≤ 1000
  hd : s.deep ≤ 5
  ho : ∀ d ∈ s.op, d ≤ 4
  hl : s.op.length ≤ 1000

theorem cell_ne {w : World} {S i j : Nat} {v : Value} (h : i ≠ j) : (w.setCell ⟨S, i, none⟩ v).cell? ⟨S, j, none⟩ = w.cell? ⟨S, j, none⟩ :=
  World.cell?_setCell_other _ _ _ _ (fun hh => h (congrArg Addr.off hh))
theorem Stn.drewN {w : World} {S : Nat} {s : St} {v : Value} (h : Stn w S s v) (n : Nat) : Stn (w.drewN n) S s v := ⟨h.c0, h.c1, h.c2, h.c3, h.own, h.f, h.hn, h.hd, h.ho, h.hl⟩
theorem Stn.set0 {w : World} {S : Nat} {s : St} {v : Value} (h : Stn w S s v) (j : Nat) : Stn (w.setCell ⟨S, 0, none⟩ (.int .i64 j)) S { s with at_ := j } v :=
  ⟨World.cell?_setCell_same _ _ _ h.c0, by rw [cell_ne (by decide)]; exact h.c1, by rw [cell_ne (by decide)]; exact h.c2, by rw [cell_ne (by decide)]; exact h.c3, ownsRow_setCell_below h.own (by simp) _, fun j => by simpa using h.f j, h.hn, h.hd, h.ho, h.hl⟩
theorem Stn.set1 {w : World} {S : Nat} {s : St} {v : Value} (h : Stn w S s v) (j : Nat) (hj : j ≤ 1000) : Stn (w.setCell ⟨S, 1, none⟩ (.int .i64 j)) S { s with n := j } v :=
  ⟨by rw [cell_ne (by decide)]; exact h.c0, World.cell?_setCell_same _ _ _ h.c1, by rw [cell_ne (by decide)]; exact h.c2, by rw [cell_ne (by decide)]; exact h.c3, ownsRow_setCell_below h.own (by simp) _, fun j => by simpa using h.f j, hj, h.hd, h.ho, h.hl⟩
theorem Stn.set2 {w : World} {S : Nat} {s : St} {v : Value} (h : Stn w S s v) (j : Nat) (hj : j ≤ 5) : Stn (w.setCell ⟨S, 2, none⟩ (.int .i64 j)) S { s with deep := j } v :=
  ⟨by rw [cell_ne (by decide)]; exact h.c0, by rw [cell_ne (by decide)]; exact h.c1, World.cell?_setCell_same _ _ _ h.c2, by rw [cell_ne (by decide)]; exact h.c3, ownsRow_setCell_below h.own (by simp) _, fun j => by simpa using h.f j, h.hn, hj, h.ho, h.hl⟩
theorem Stn.set3 {w : World} {S : Nat} {s : St} {v : Value} (h : Stn w S s v) (v' : Value) (op' : List Nat) (hown : w.ownsRow (S + 1) 3 1 v' op'.length (opV op')) (ho : ∀ d ∈ op', d ≤ 4) (hl : op'.length ≤ 1000) :
    Stn (w.setCell ⟨S, 3, none⟩ v') S { s with op := op' } v' :=
  ⟨by rw [cell_ne (by decide)]; exact h.c0, by rw [cell_ne (by decide)]; exact h.c1, by rw [cell_ne (by decide)]; exact h.c2, World.cell?_setCell_same _ _ _ h.c3, ownsRow_setCell_below hown (by simp) _, fun j => by simpa using h.f j, h.hn, h.hd, ho, hl⟩
theorem Stn.drew {w : World} {S : Nat} {s : St} {v : Value} (h : Stn w S s v) : Stn w.drew S s v := ⟨h.c0, h.c1, h.c2, h.c3, h.own, h.f, h.hn, h.hd, h.ho, h.hl⟩
theorem Stn.below0 {w : World} {S i : Nat} {v : Value} : Below S w (w.setCell ⟨S, i, none⟩ v) := (Below.refl S w).setCell (p := ⟨S, i, none⟩) (Nat.le_refl _) v
theorem bel_drewN (B : Nat) (w : World) (n : Nat) : Below B w (w.drewN n) := ⟨rfl, rfl, rfl, Nat.le_refl _, fun _ _ => rfl⟩
theorem byte_eq (c d : UInt8) (n : Int) (hd : (d.toNat : Int) = n) (h : c = d) : ((c.toNat : Int) == n) = true := by subst h; rw [hd]; simp
theorem byte_ne (c d : UInt8) (n : Int) (hd : (d.toNat : Int) = n) (h : ¬ c = d) : ((c.toNat : Int) == n) = false := by
  rw [beq_eq_false_iff_ne]; intro e; exact h (UInt8.toNat_inj.1 (by omega))

theorem joins_and (s : St) (c : UInt8) (h : c = 38 ∨ c = 124) : joinsA s c = { { s with at_ := 0 } with deep := around s.op } := by unfold joinsA; rw [if_pos h]
theorem joins_shut (s : St) (c : UInt8) (h : c = 41) (ho : s.op ≠ []) : joinsA s c = { { s with at_ := 2 } with op := s.op.tail } := by
  subst h; unfold joinsA; rw [if_neg (by decide), if_pos ⟨rfl, ho⟩]
theorem joins_no (s : St) (c : UInt8) (h : ¬ c = 38) (h2 : ¬ c = 124) (h3 : c = 41 → s.op = []) : joinsA s c = { s with at_ := 4 } := by
  unfold joinsA; rw [if_neg (by simp [h, h2]), if_neg (fun e => e.2 (h3 e.1))]

set_option maxHeartbeats 400000 in
set_option maxRecDepth 100000 in
theorem joins_nil (s : St) (v : Value) (c : UInt8) (S : Nat) (w : World) (h : Stn w S s v) (ho : s.op = []) :
    Calls Tryz.prog 234 #[.pointer (some ⟨S, 0, none⟩), .int .u8 c.toNat] w fun e w' => e = .returned (.tuple #[]) ∧ (∃ v', Stn w' S (joinsA s c) v') ∧ Below S w w' := by
  have hown := h.own
  have hc3 := h.c3
  have hc0 := h.c0
  have hc2 := h.c2
  have f0 := h.f 0
  have f2 := h.f 2
  obtain ⟨a, cap, hv, _⟩ : ∃ a cap, v = .slice a 0 cap ∧ True := by
    rw [ho] at hown
    rcases hown.2 with ⟨rfl, _⟩ | ⟨g, cap, cur, rfl, _⟩
    · exact ⟨_, _, rfl, trivial⟩
    · exact ⟨_, _, rfl, trivial⟩
  rw [hv] at hc3
  clear hown
  replace h := hide h
  replace hv := hide hv
  by_cases h38 : c = 38
  · have b1 := byte_eq c 38 38 rfl h38
    have HJ := hide (joins_and s c (Or.inl h38))
    have HA : Hid (around s.op = 0) := by show _ = _; rw [ho]; rfl
    clear h38 ho
    go_enter Tryz.func234, Tryz.ntmps234
    go_wp2_with fail
    go_end0
    rw [HJ.out, HA.out]
    exact ⟨rfl, ⟨v, (h.out.set0 0).set2 0 (by omega)⟩, Stn.below0.trans Stn.below0⟩
  · have b1 := byte_ne c 38 38 rfl h38
    by_cases h124 : c = 124
    · have b2 := byte_eq c 124 124 rfl h124
      have HJ := hide (joins_and s c (Or.inr h124))
      have HA : Hid (around s.op = 0) := by show _ = _; rw [ho]; rfl
      clear h38 ho h124
      go_enter Tryz.func234, Tryz.ntmps234
      go_wp2_with fail
      go_end0
      rw [HJ.out, HA.out]
      exact ⟨rfl, ⟨v, (h.out.set0 0).set2 0 (by omega)⟩, Stn.below0.trans Stn.below0⟩
    · have b2 := byte_ne c 124 124 rfl h124
      have HJ := hide (joins_no s c h38 h124 (fun _ => ho))
      clear h38 ho h124
      by_cases h41 : c = 41
      · have b3 := byte_eq c 41 41 rfl h41
        clear h41
        go_enter Tryz.func234, Tryz.ntmps234
        go_wp2_with fail
        go_end0
        rw [HJ.out]
        exact ⟨rfl, ⟨v, h.out.set0 4⟩, Stn.below0⟩
      · have b3 := byte_ne c 41 41 rfl h41
        clear h41
        go_enter Tryz.func234, Tryz.ntmps234
        go_wp2_with fail
        go_end0
        rw [HJ.out]
        exact ⟨rfl, ⟨v, h.out.set0 4⟩, Stn.below0⟩

theorem opV_cons (d : Nat) (t : List Nat) : opV (d :: t) = opV t ++ [.int .i64 (d : Int)] := by simp [opV]
theorem opV_length (l : List Nat) : (opV l).length = l.length := by simp [opV]

set_option maxHeartbeats 400000 in
set_option maxRecDepth 100000 in
theorem joins_cons (s : St) (v : Value) (c : UInt8) (S d : Nat) (t : List Nat) (w : World) (h : Stn w S s v) (ho : s.op = d :: t) :
    Calls Tryz.prog 234 #[.pointer (some ⟨S, 0, none⟩), .int .u8 c.toNat] w fun e w' => e = .returned (.tuple #[]) ∧ (∃ v', Stn w' S (joinsA s c) v') ∧ Below S w w' := by
  have hown := h.own
  have hc3 := h.c3
  have hc0 := h.c0
  have hc2 := h.c2
  have f0 := h.f 0
  have f2 := h.f 2
  have f3 := h.f 3
  have hd := h.ho d (by rw [ho]; simp)
  have hlen := h.hl
  obtain ⟨m, hm⟩ : ∃ m, t.length = m := ⟨_, rfl⟩
  rw [ho, List.length_cons, hm, opV_cons] at hown
  rw [ho, List.length_cons, hm] at hlen
  obtain ⟨g, cap, hv⟩ : ∃ g cap, v = .slice (some ⟨g, 0, none⟩) (m + 1) cap := by
    rcases hown.2 with ⟨_, hz⟩ | ⟨g, cap, cur, rfl, _⟩
    · omega
    · exact ⟨_, _, rfl⟩
  rw [hv] at hc3 hown
  have hcap : m + 1 ≤ cap := by
    rcases hown.2 with ⟨_, hz⟩ | ⟨g', cap', cur, hx, _, _, hle, _⟩
    · omega
    · cases hx; exact hle
  have hcell : w.cell? ⟨g, m, none⟩ = some (.int .i64 (d : Int)) := by
    rw [hown.cellAt m (by omega), List.getElem?_append_right (by rw [opV_length]; omega), opV_length, hm]; simp
  have i1 : (0 : Int) ≤ (m : Int) := by omega
  have i2 : (m : Int) < (m : Int) + 1 := by omega
  replace hown := hide hown
  replace h := hide h
  replace hv := hide hv
  replace hm := hide hm
  have HA : Hid (around s.op = d + 1) := by show _ = _; rw [ho]; rfl
  by_cases h38 : c = 38
  · have b1 := byte_eq c 38 38 rfl h38
    have HJ := hide (joins_and s c (Or.inl h38))
    clear h38 ho
    go_enter Tryz.func234, Tryz.ntmps234
    go_wp2_with fail
    go_quiet (fail)
    go_wp2_with fail
    go_end0
    rw [HJ.out, HA.out]
    exact ⟨rfl, ⟨v, ((h.out.drewN nq).set0 0).set2 (d + 1) (by omega)⟩, (bel_drewN S w nq).trans (Stn.below0.trans Stn.below0)⟩
  · have b1 := byte_ne c 38 38 rfl h38
    by_cases h124 : c = 124
    · have b2 := byte_eq c 124 124 rfl h124
      have HJ := hide (joins_and s c (Or.inr h124))
      clear h38 ho h124
      go_enter Tryz.func234, Tryz.ntmps234
      go_wp2_with fail
      go_quiet (fail)
      go_wp2_with fail
      go_end0
      rw [HJ.out, HA.out]
      exact ⟨rfl, ⟨v, ((h.out.drewN nq).set0 0).set2 (d + 1) (by omega)⟩, (bel_drewN S w nq).trans (Stn.below0.trans Stn.below0)⟩
    · have b2 := byte_ne c 124 124 rfl h124
      by_cases h41 : c = 41
      · have b3 := byte_eq c 41 41 rfl h41
        have HJ := hide (joins_shut s c h41 (by rw [ho]; simp))
        have HT : Hid (s.op.tail = t) := by show _ = _; rw [ho]; rfl
        clear h38 h124 h41 ho
        go_enter Tryz.func234, Tryz.ntmps234
        go_wp2_with fail
        go_quiet (fail)
        go_wp2_with fail
        go_region
        go_wp2_with fail
        go_end0
        rw [HJ.out, HT.out]
        have hop : ∀ x ∈ t, x ≤ 4 := fun x hx => h.out.ho x (by
          have := HT.out
          cases hop : s.op with
          | nil => rw [hop] at this; simp at this; rw [this] at hx; simp at hx
          | cons y u => rw [hop] at this; simp at this; rw [this]; simp [hx])
        have hown2 : ((w.drewN nq).setCell ⟨S, 0, none⟩ (.int .i64 2)).ownsRow (S + 1) 3 1 (.slice (some ⟨g, 0, none⟩) m cap) t.length (opV t) := by
          rw [hm.out]
          exact ownsRow_pop (by rw [opV_length, hm.out]; omega) (ownsRow_setCell_below (w := w.drewN nq) hown.out (by simp) _)
        exact ⟨rfl, ⟨_, (((h.out.drewN nq).set0 2).set3 _ t hown2 hop (by rw [hm.out]; omega)).drew⟩, ((bel_drewN S w nq).trans (Stn.below0.trans Stn.below0)).drew⟩
      · have b3 := byte_ne c 41 41 rfl h41
        have HJ := hide (joins_no s c h38 h124 (fun e => absurd e h41))
        clear h38 ho h124 h41
        go_enter Tryz.func234, Tryz.ntmps234
        go_wp2_with fail
        go_quiet (fail)
        go_wp2_with fail
        go_end0
        rw [HJ.out]
        exact ⟨rfl, ⟨v, (h.out.drewN nq).set0 4⟩, (bel_drewN S w nq).trans Stn.below0⟩

theorem joins_any (s : St) (v : Value) (c : UInt8) (S : Nat) (w : World) (h : Stn w S s v) :
    Calls Tryz.prog 234 #[.pointer (some ⟨S, 0, none⟩), .int .u8 c.toNat] w fun e w' => e = .returned (.tuple #[]) ∧ (∃ v', Stn w' S (joinsA s c) v') ∧ Below S w w' := by
  cases ho : s.op with
  | nil => exact joins_nil s v c S w h ho
  | cons d t => exact joins_cons s v c S d t w h ho
end Go.Proofs.YtbkepgmgebmceaaGreatDoor

namespace Go.Proofs.YtbkepgmgebmceaaGreatDoor
open Go.RowKit ChkM
set_option linter.unusedVariables false

theorem Tryz.info3 : (Tryz.prog.info? 3).map (fun i => (i.zero, i.size, i.bytes)) = some (some (.int .i64 0), 1, 8) := by kernel_rfl

theorem part_word (s : St) (c : UInt8) (h : isSm c = true) : partA s c = { { s with at_ := 1 } with n := 1 } := by unfold partA; rw [if_pos h]
theorem part_quote (s : St) (c : UInt8) (h : isSm c = false) (h2 : c = 34) : partA s c = { { s with at_ := 3 } with n := 0 } := by unfold partA; rw [if_neg (by simp [h]), if_pos h2]
theorem part_not (s : St) (c : UInt8) (h : isSm c = false) (h2 : c = 33) (hd : s.deep < 5) : partA s c = { s with deep := s.deep + 1 } := by
  subst h2; unfold partA; rw [if_neg (by simp [h]), if_neg (by decide), if_pos ⟨rfl, hd⟩]
theorem part_brack (s : St) (c : UInt8) (h : isSm c = false) (h2 : c = 40) (hd : s.deep < 5) : partA s c = { { s with op := s.deep :: s.op } with deep := s.deep + 1 } := by
  subst h2; unfold partA; rw [if_neg (by simp [h]), if_neg (by decide), if_neg (by simp), if_pos ⟨rfl, hd⟩]
theorem part_bad (s : St) (c : UInt8) (h : isSm c = false) (h2 : ¬ c = 34) (h3 : ¬ (c = 33 ∧ s.deep < 5)) (h4 : ¬ (c = 40 ∧ s.deep < 5)) : partA s c = { s with at_ := 4 } := by
  unfold partA; rw [if_neg (by simp [h]), if_neg h2, if_neg h3, if_neg h4]

/-- A station's cells behind an append onto its own row. -/
theorem far_cell {w w1 : World} {S : Nat} {o : Obj} {row : Option Nat} (hz : S < w.heap.size) (hne : some S ≠ row) (hg : (w.alloc o).drew.grownBy w1 row) (j : Nat) : w1.cell? ⟨S, j, none⟩ = w.cell? ⟨S, j, none⟩ := by
  rw [hg.cell_far ⟨S, j, none⟩ (by show S < (w.alloc o).heap.size; simp; omega) hne]
  show (w.alloc o).cell? _ = _
  rw [World.cell?_alloc_past _ _ _ hz]
theorem far_frozen {w w1 : World} {S : Nat} {o : Obj} {row : Option Nat} (hz : S < w.heap.size) (hne : some S ≠ row) (hg : (w.alloc o).drew.grownBy w1 row) (j : Nat) : w1.frozen? ⟨S, j, none⟩ = w.frozen? ⟨S, j, none⟩ := by
  rw [World.frozen?_of_block (w := (w.alloc o).drew) (hg.block S (by show S < (w.alloc o).heap.size; simp; omega) hne)]
  exact World.frozen?_of_block (w := w) (Below.heap_alloc w o S hz)
theorem far_all {w w1 : World} {S : Nat} {o : Obj} {row : Option Nat} {a b : Value} (hz : S < w.heap.size) (hne : some S ≠ row) (hg : (w.alloc o).drew.grownBy w1 row)
    (h3 : w.cell? ⟨S, 3, none⟩ = some a) (h2 : w.cell? ⟨S, 2, none⟩ = some b) (f3 : w.frozen? ⟨S, 3, none⟩ = false) (f2 : w.frozen? ⟨S, 2, none⟩ = false) :
    w1.cell? ⟨S, 3, none⟩ = some a ∧ w1.cell? ⟨S, 2, none⟩ = some b ∧ w1.frozen? ⟨S, 3, none⟩ = false ∧ w1.frozen? ⟨S, 2, none⟩ = false :=
  ⟨(far_cell hz hne hg 3).trans h3, (far_cell hz hne hg 2).trans h2, (far_frozen hz hne hg 3).trans f3, (far_frozen hz hne hg 2).trans f2⟩
theorem far_below {w w1 : World} {S : Nat} {o : Obj} {row : Option Nat} (hz : S < w.heap.size) (hr : ∀ k, row = some k → S ≤ k) (hg : (w.alloc o).drew.grownBy w1 row) : Below S w w1 :=
  ((Below.refl S w).alloc (by omega) o).drew.grown hg (by show S ≤ (w.alloc o).heap.size; simp; omega) hr

theorem Stn.push {w w1 : World} {S : Nat} {s : St} {v v' : Value} {o : Obj} (h : Stn w S s v) (hz : S < w.heap.size) (hne : some S ≠ v.ownBlock) (hg : (w.alloc o).drew.grownBy w1 v.ownBlock)
    (hown : w1.ownsRow (S + 1) 3 1 v' (s.op.length + 1) (opV s.op ++ [.int .i64 (s.deep : Int)])) (hl : s.op.length < 1000) (hd : s.deep < 5) :
    Stn (w1.setCell ⟨S, 3, none⟩ v') S { s with op := s.deep :: s.op } v' :=
  ⟨by rw [cell_ne (by decide), far_cell hz hne hg]; exact h.c0, by rw [cell_ne (by decide), far_cell hz hne hg]; exact h.c1, by rw [cell_ne (by decide), far_cell hz hne hg]; exact h.c2,
    World.cell?_setCell_same _ _ _ ((far_cell hz hne hg 3).trans h.c3), by
      show (w1.setCell ⟨S, 3, none⟩ v').ownsRow (S + 1) 3 1 v' (s.op.length + 1) (opV (s.deep :: s.op))
      rw [opV_cons]; exact ownsRow_setCell_below hown (by simp) _,
    fun j => by rw [World.frozen?_setCell, far_frozen hz hne hg]; exact h.f j, h.hn, h.hd, fun x hx => by
      rcases List.mem_cons.1 hx with rfl | hx
      · omega
      · exact h.ho x hx, by show s.op.length + 1 ≤ 1000; omega⟩

set_option maxHeartbeats 1000000 in
set_option maxRecDepth 100000 in
theorem part_open_any (s : St) (v : Value) (c : UInt8) (S : Nat) (w : World) (h : Stn w S s v) (hl : s.op.length < 1000) (hz : S < w.heap.size) (hw : isSm c = false) (hc : c = 40) (hd : s.deep < 5) :
    Calls Tryz.prog 233 #[.pointer (some ⟨S, 0, none⟩), .int .u8 c.toNat] w fun e w' => e = .returned (.tuple #[]) ∧ (∃ v', Stn w' S (partA s c) v') ∧ Below S w w' := by
  obtain ⟨i0, hi, hz0, hz1, hz2⟩ := info_parts Tryz.info3
  have hown := h.own
  have hc3 := h.c3
  have hc2 := h.c2
  have f2 := h.f 2
  have f3 := h.f 3
  have HJ := hide (part_brack s c hw hc hd)
  have b1 := byte_ne c 34 34 rfl (by rw [hc]; decide)
  have b2 := byte_ne c 33 33 rfl (by rw [hc]; decide)
  have b3 := byte_eq c 40 40 rfl hc
  have hne : some S ≠ v.ownBlock := fun e => by have := (hown.lt S e.symm).1; omega
  replace h := hide h
  replace hown := hide hown
  clear hc
  go_enter Tryz.func233, Tryz.ntmps233
  go_wp2_with fail
  refine (isWord_any _ _).mono ?_
  rintro e w' ⟨rfl, rfl⟩
  rw [hw]
  go_wp2_with fail
  go_region_law ((refine step_append_lies _ (by rfl) _ _ _ (by rfl) (S + 1) 3 i0 _ 1 8 Tryz.underlying24 hi hz0 hz1 hz2 rfl (by omega) v s.op.length (opV s.op) (by rfl) ((hown.out.alloc _).drew) ⟨w'.heap.size, 0, none⟩ 1 1 [.int .i64 (s.deep : Int)] (by rfl) (by rfl) (World.news_of_block (cs := #[.int .i64 (s.deep : Int)]) (t := 3) (fr := (0, 0)) (heap_alloc_new w' _)) (by simp [Value.oneCell']) (by omega) (by unfold maxLen; omega) (by omega) (by simp; omega) (w'.heap.size + 1) (by simp) ?_; intro g cap w1 hown1 hgrow hat hlt; obtain ⟨d3, d2, e3, e2⟩ := far_all hz hne hgrow hc3 hc2 f3 f2))
  all_goals
    go_wp2_with fail
    go_end0
    rw [HJ.out]
    exact ⟨rfl, ⟨_, (h.out.push hz hne hgrow hown1 hl hd).set2 (s.deep + 1) (by omega)⟩, (far_below hz (fun k hk => by have := (hown.out.lt k hk).1; omega) hgrow).trans (Stn.below0.trans Stn.below0)⟩
end Go.Proofs.YtbkepgmgebmceaaGreatDoor

namespace Go.Proofs.YtbkepgmgebmceaaGreatDoor
open Go.RowKit ChkM
set_option linter.unusedVariables false

set_option maxHeartbeats 1000000 in
set_option maxRecDepth 100000 in
theorem part_any (s : St) (v : Value) (c : UInt8) (S : Nat) (w : World) (h : Stn w S s v) (hl : s.op.length < 1000) (hz : S < w.heap.size) :
    Calls Tryz.prog 233 #[.pointer (some ⟨S, 0, none⟩), .int .u8 c.toNat] w fun e w' => e = .returned (.tuple #[]) ∧ (∃ v', Stn w' S (partA s c) v') ∧ Below S w w' := by
  by_cases hx : isSm c = false ∧ c = 40 ∧ s.deep < 5
  · exact part_open_any s v c S w h hl hz hx.1 hx.2.1 hx.2.2
  have hc0 := h.c0
  have hc1 := h.c1
  have hc2 := h.c2
  have f0 := h.f 0
  have f1 := h.f 1
  have f2 := h.f 2
  have hd5 := h.hd
  replace h := hide h
  cases hw : isSm c
  · by_cases h34 : c = 34
    · have b1 := byte_eq c 34 34 rfl h34
      have HJ := hide (part_quote s c hw h34)
      clear h34 hx
      go_enter Tryz.func233, Tryz.ntmps233
      go_wp2_with fail
      refine (isWord_any _ _).mono ?_
      rintro e w' ⟨rfl, rfl⟩
      rw [hw]
      go_wp2_with fail
      go_end0
      rw [HJ.out]
      exact ⟨rfl, ⟨v, (h.out.set0 3).set1 0 (by omega)⟩, Stn.below0.trans Stn.below0⟩
    · have b1 := byte_ne c 34 34 rfl h34
      by_cases h33 : c = 33
      · have b2 := byte_eq c 33 33 rfl h33
        have b3 := byte_ne c 40 40 rfl (by rw [h33]; decide)
        by_cases hd : s.deep < 5
        · have HJ := hide (part_not s c hw h33 hd)
          clear h34 hx h33
          go_enter Tryz.func233, Tryz.ntmps233
          go_wp2_with fail
          refine (isWord_any _ _).mono ?_
          rintro e w' ⟨rfl, rfl⟩
          rw [hw]
          go_wp2_with fail
          go_end0
          rw [HJ.out]
          exact ⟨rfl, ⟨v, h.out.set2 (s.deep + 1) (by omega)⟩, Stn.below0⟩
        · have HJ := hide (part_bad s c hw h34 (fun e => hd e.2) (fun e => hd e.2))
          clear h34 hx h33
          go_enter Tryz.func233, Tryz.ntmps233
          go_wp2_with fail
          refine (isWord_any _ _).mono ?_
          rintro e w' ⟨rfl, rfl⟩
          rw [hw]
          go_wp2_with fail
          go_end0
          rw [HJ.out]
          exact ⟨rfl, ⟨v, h.out.set0 4⟩, Stn.below0⟩
      · have b2 := byte_ne c 33 33 rfl h33
        by_cases h40 : c = 40
        · have b3 := byte_eq c 40 40 rfl h40
          have hd : ¬ s.deep < 5 := fun e => hx ⟨hw, h40, e⟩
          have HJ := hide (part_bad s c hw h34 (fun e => hd e.2) (fun e => hd e.2))
          clear h34 hx h33 h40
          go_enter Tryz.func233, Tryz.ntmps233
          go_wp2_with fail
          refine (isWord_any _ _).mono ?_
          rintro e w' ⟨rfl, rfl⟩
          rw [hw]
          go_wp2_with fail
          go_end0
          rw [HJ.out]
          exact ⟨rfl, ⟨v, h.out.set0 4⟩, Stn.below0⟩
        · have b3 := byte_ne c 40 40 rfl h40
          have HJ := hide (part_bad s c hw h34 (fun e => h33 e.1) (fun e => h40 e.1))
          clear h34 hx h33 h40
          go_enter Tryz.func233, Tryz.ntmps233
          go_wp2_with fail
          refine (isWord_any _ _).mono ?_
          rintro e w' ⟨rfl, rfl⟩
          rw [hw]
          go_wp2_with fail
          go_end0
          rw [HJ.out]
          exact ⟨rfl, ⟨v, h.out.set0 4⟩, Stn.below0⟩
  · have HJ := hide (part_word s c hw)
    clear hx
    go_enter Tryz.func233, Tryz.ntmps233
    go_wp2_with fail
    refine (isWord_any _ _).mono ?_
    rintro e w' ⟨rfl, rfl⟩
    rw [hw]
    go_wp2_with fail
    go_end0
    rw [HJ.out]
    exact ⟨rfl, ⟨v, (h.out.set0 1).set1 1 (by omega)⟩, Stn.below0.trans Stn.below0⟩

theorem step_0 (s : St) (c : UInt8) (h : s.at_ = 0) : stepA s c = partA s c := by unfold stepA; rw [if_pos h]
theorem step_2 (s : St) (c : UInt8) (h : s.at_ = 2) : stepA s c = joinsA s c := by unfold stepA; rw [if_neg (by omega), if_neg (by omega), if_pos h]
theorem step_4 (s : St) (c : UInt8) (h : 4 ≤ s.at_) : stepA s c = s := by unfold stepA; rw [if_neg (by omega), if_neg (by omega), if_neg (by omega), if_neg (by omega)]
theorem step_1 (s : St) (c : UInt8) (h : s.at_ = 1) : stepA s c = if isSm c = true ∧ s.n < 8 then { s with n := s.n + 1 } else if c = 42 then { s with at_ := 2 } else if isSm c = true then { s with at_ := 4 } else joinsA s c := by
  unfold stepA; rw [if_neg (by omega), if_pos h]
theorem step_3 (s : St) (c : UInt8) (h : s.at_ = 3) : stepA s c = if isSm c = true ∧ s.n < 8 then { s with n := s.n + 1 } else if c = 32 ∧ 0 < s.n then { s with n := 0 } else if c = 34 ∧ 0 < s.n then { s with at_ := 2 } else { s with at_ := 4 } := by
  unfold stepA; rw [if_neg (by omega), if_neg (by omega), if_neg (by omega), if_pos h]

set_option maxHeartbeats 1000000 in
set_option maxRecDepth 100000 in
theorem step_at0 (s : St) (v : Value) (c : UInt8) (S : Nat) (w : World) (h : Stn w S s v) (hl : s.op.length < 1000) (hz : S < w.heap.size) (ha : s.at_ = 0) :
    Calls Tryz.prog 147 #[.pointer (some ⟨S, 0, none⟩), .int .u8 c.toNat] w fun e w' => e = .returned (.tuple #[]) ∧ (∃ v', Stn w' S (stepA s c) v') ∧ Below S w w' := by
  have hc0 := h.c0
  rw [ha] at hc0
  have HJ := hide (step_0 s c ha)
  replace h := hide h
  clear ha
  go_enter Tryz.func147, Tryz.ntmps147
  go_wp2_with fail
  refine (isWord_any _ _).mono ?_
  rintro e w' ⟨rfl, rfl⟩
  go_wp2_with fail
  refine (part_any s v c S _ h.out hl hz).mono ?_
  rintro e w1 ⟨rfl, ⟨v', hs⟩, hb⟩
  go_wp2_with fail
  go_end0
  rw [HJ.out]
  exact ⟨rfl, ⟨v', hs⟩, hb⟩
end Go.Proofs.YtbkepgmgebmceaaGreatDoor

namespace Go.Proofs.YtbkepgmgebmceaaGreatDoor
open Go.RowKit ChkM
set_option linter.unusedVariables false

set_option maxHeartbeats 1000000 in
set_option maxRecDepth 100000 in
theorem step_at2 (s : St) (v : Value) (c : UInt8) (S : Nat) (w : World) (h : Stn w S s v) (hl : s.op.length < 1000) (hz : S < w.heap.size) (ha : s.at_ = 2) :
    Calls Tryz.prog 147 #[.pointer (some ⟨S, 0, none⟩), .int .u8 c.toNat] w fun e w' => e = .returned (.tuple #[]) ∧ (∃ v', Stn w' S (stepA s c) v') ∧ Below S w w' := by
  have hc0 := h.c0
  rw [ha] at hc0
  have HJ := hide (step_2 s c ha)
  replace h := hide h
  clear ha
  go_enter Tryz.func147, Tryz.ntmps147
  go_wp2_with fail
  refine (isWord_any _ _).mono ?_
  rintro e w' ⟨rfl, rfl⟩
  go_wp2_with fail
  refine (joins_any s v c S _ h.out).mono ?_
  rintro e w1 ⟨rfl, ⟨v', hs⟩, hb⟩
  go_wp2_with fail
  go_end0
  rw [HJ.out]
  exact ⟨rfl, ⟨v', hs⟩, hb⟩

set_option maxHeartbeats 1000000 in
set_option maxRecDepth 100000 in
theorem step_at4 (s : St) (v : Value) (c : UInt8) (S : Nat) (w : World) (h : Stn w S s v) (hl : s.op.length < 1000) (hz : S < w.heap.size) (ha : 4 ≤ s.at_) (ha2 : s.at_ ≤ 1000) :
    Calls Tryz.prog 147 #[.pointer (some ⟨S, 0, none⟩), .int .u8 c.toNat] w fun e w' => e = .returned (.tuple #[]) ∧ (∃ v', Stn w' S (stepA s c) v') ∧ Below S w w' := by
  have hc0 := h.c0
  have HJ := hide (step_4 s c ha)
  replace h := hide h
  go_enter Tryz.func147, Tryz.ntmps147
  go_wp2_with fail
  refine (isWord_any _ _).mono ?_
  rintro e w' ⟨rfl, rfl⟩
  go_wp2_with fail
  go_end0
  rw [HJ.out]
  exact ⟨rfl, ⟨v, h.out⟩, Below.refl _ _⟩

set_option maxHeartbeats 1000000 in
set_option maxRecDepth 100000 in
theorem step_at1 (s : St) (v : Value) (c : UInt8) (S : Nat) (w : World) (h : Stn w S s v) (hl : s.op.length < 1000) (hz : S < w.heap.size) (ha : s.at_ = 1) :
    Calls Tryz.prog 147 #[.pointer (some ⟨S, 0, none⟩), .int .u8 c.toNat] w fun e w' => e = .returned (.tuple #[]) ∧ (∃ v', Stn w' S (stepA s c) v') ∧ Below S w w' := by
  have hc0 := h.c0
  rw [ha] at hc0
  have hc1 := h.c1
  have f0 := h.f 0
  have f1 := h.f 1
  have hn := h.hn
  have HS := hide (step_1 s c ha)
  replace h := hide h
  clear ha
  cases hw : isSm c
  · by_cases h42 : c = 42
    · have b1 := byte_eq c 42 42 rfl h42
      have HJ : Hid (stepA s c = { s with at_ := 2 }) := by show _ = _; rw [HS.out, if_neg (by simp [hw]), if_pos h42]
      clear h42
      go_enter Tryz.func147, Tryz.ntmps147
      go_wp2_with fail
      refine (isWord_any _ _).mono ?_
      rintro e w' ⟨rfl, rfl⟩
      rw [hw]
      go_wp2_with fail
      go_end0
      rw [HJ.out]
      exact ⟨rfl, ⟨v, h.out.set0 2⟩, Stn.below0⟩
    · have b1 := byte_ne c 42 42 rfl h42
      have HJ : Hid (stepA s c = joinsA s c) := by show _ = _; rw [HS.out, if_neg (by simp [hw]), if_neg h42, if_neg (by simp [hw])]
      clear h42
      go_enter Tryz.func147, Tryz.ntmps147
      go_wp2_with fail
      refine (isWord_any _ _).mono ?_
      rintro e w' ⟨rfl, rfl⟩
      rw [hw]
      go_wp2_with fail
      refine (joins_any s v c S _ h.out).mono ?_
      rintro e w1 ⟨rfl, ⟨v', hs⟩, hb⟩
      go_wp2_with fail
      go_end0
      rw [HJ.out]
      exact ⟨rfl, ⟨v', hs⟩, hb⟩
  · by_cases h8 : s.n < 8
    · have HJ : Hid (stepA s c = { s with n := s.n + 1 }) := by show _ = _; rw [HS.out, if_pos ⟨hw, h8⟩]
      go_enter Tryz.func147, Tryz.ntmps147
      go_wp2_with fail
      refine (isWord_any _ _).mono ?_
      rintro e w' ⟨rfl, rfl⟩
      rw [hw]
      go_wp2_with fail
      go_end0
      rw [HJ.out]
      exact ⟨rfl, ⟨v, h.out.set1 (s.n + 1) (by omega)⟩, Stn.below0⟩
    · have b1 := byte_ne c 42 42 rfl (small_not c hw).2.2.2.2.2.1
      have HJ : Hid (stepA s c = { s with at_ := 4 }) := by show _ = _; rw [HS.out, if_neg (fun e => h8 e.2), if_neg (small_not c hw).2.2.2.2.2.1, if_pos hw]
      go_enter Tryz.func147, Tryz.ntmps147
      go_wp2_with fail
      refine (isWord_any _ _).mono ?_
      rintro e w' ⟨rfl, rfl⟩
      rw [hw]
      go_wp2_with fail
      go_end0
      rw [HJ.out]
      exact ⟨rfl, ⟨v, h.out.set0 4⟩, Stn.below0⟩

set_option maxHeartbeats 1000000 in
set_option maxRecDepth 100000 in
theorem step_at3 (s : St) (v : Value) (c : UInt8) (S : Nat) (w : World) (h : Stn w S s v) (hl : s.op.length < 1000) (hz : S < w.heap.size) (ha : s.at_ = 3) :
    Calls Tryz.prog 147 #[.pointer (some ⟨S, 0, none⟩), .int .u8 c.toNat] w fun e w' => e = .returned (.tuple #[]) ∧ (∃ v', Stn w' S (stepA s c) v') ∧ Below S w w' := by
  have hc0 := h.c0
  rw [ha] at hc0
  have hc1 := h.c1
  have f0 := h.f 0
  have f1 := h.f 1
  have hn := h.hn
  have HS := hide (step_3 s c ha)
  replace h := hide h
  clear ha
  by_cases hx : isSm c = true ∧ s.n < 8
  · obtain ⟨hw, h8⟩ := hx
    have HJ : Hid (stepA s c = { s with n := s.n + 1 }) := by show _ = _; rw [HS.out, if_pos ⟨hw, h8⟩]
    go_enter Tryz.func147, Tryz.ntmps147
    go_wp2_with fail
    refine (isWord_any _ _).mono ?_
    rintro e w' ⟨rfl, rfl⟩
    rw [hw]
    go_wp2_with fail
    go_end0
    rw [HJ.out]
    exact ⟨rfl, ⟨v, h.out.set1 (s.n + 1) (by omega)⟩, Stn.below0⟩
  · by_cases h0 : 0 < s.n
    · by_cases h32 : c = 32
      · have b1 := byte_eq c 32 32 rfl h32
        have hw : isSm c = false := by rw [h32]; decide
        have HJ : Hid (stepA s c = { s with n := 0 }) := by show _ = _; rw [HS.out, if_neg hx, if_pos ⟨h32, h0⟩]
        clear h32 hx
        go_enter Tryz.func147, Tryz.ntmps147
        go_wp2_with fail
        refine (isWord_any _ _).mono ?_
        rintro e w' ⟨rfl, rfl⟩
        rw [hw]
        go_wp2_with fail
        go_end0
        rw [HJ.out]
        exact ⟨rfl, ⟨v, h.out.set1 0 (by omega)⟩, Stn.below0⟩
      · have b1 := byte_ne c 32 32 rfl h32
        by_cases h34 : c = 34
        · have b2 := byte_eq c 34 34 rfl h34
          have hw : isSm c = false := by rw [h34]; decide
          have HJ : Hid (stepA s c = { s with at_ := 2 }) := by show _ = _; rw [HS.out, if_neg hx, if_neg (fun e => h32 e.1), if_pos ⟨h34, h0⟩]
          clear h32 h34 hx
          go_enter Tryz.func147, Tryz.ntmps147
          go_wp2_with fail
          refine (isWord_any _ _).mono ?_
          rintro e w' ⟨rfl, rfl⟩
          rw [hw]
          go_wp2_with fail
          go_end0
          rw [HJ.out]
          exact ⟨rfl, ⟨v, h.out.set0 2⟩, Stn.below0⟩
        · have b2 := byte_ne c 34 34 rfl h34
          have HJ : Hid (stepA s c = { s with at_ := 4 }) := by show _ = _; rw [HS.out, if_neg hx, if_neg (fun e => h32 e.1), if_neg (fun e => h34 e.1)]
          clear h32 h34
          cases hw : isSm c
          · clear hx
            go_enter Tryz.func147, Tryz.ntmps147
            go_wp2_with fail
            refine (isWord_any _ _).mono ?_
            rintro e w' ⟨rfl, rfl⟩
            rw [hw]
            go_wp2_with fail
            go_end0
            rw [HJ.out]
            exact ⟨rfl, ⟨v, h.out.set0 4⟩, Stn.below0⟩
          · have h8 : ¬ s.n < 8 := fun e => hx ⟨hw, e⟩
            clear hx
            go_enter Tryz.func147, Tryz.ntmps147
            go_wp2_with fail
            refine (isWord_any _ _).mono ?_
            rintro e w' ⟨rfl, rfl⟩
            rw [hw]
            go_wp2_with fail
            go_end0
            rw [HJ.out]
            exact ⟨rfl, ⟨v, h.out.set0 4⟩, Stn.below0⟩
    · have HJ : Hid (stepA s c = { s with at_ := 4 }) := by show _ = _; rw [HS.out, if_neg hx, if_neg (fun e => h0 e.2), if_neg (fun e => h0 e.2)]
      have h8 : s.n < 8 := by omega
      have hw : isSm c = false := by
        cases hw : isSm c
        · rfl
        · exact absurd ⟨hw, h8⟩ hx
      clear hx
      by_cases h32 : c = 32
      · have b1 := byte_eq c 32 32 rfl h32
        have b2 := byte_ne c 34 34 rfl (by rw [h32]; decide)
        clear h32
        go_enter Tryz.func147, Tryz.ntmps147
        go_wp2_with fail
        refine (isWord_any _ _).mono ?_
        rintro e w' ⟨rfl, rfl⟩
        rw [hw]
        go_wp2_with fail
        go_end0
        rw [HJ.out]
        exact ⟨rfl, ⟨v, h.out.set0 4⟩, Stn.below0⟩
      · have b1 := byte_ne c 32 32 rfl h32
        clear h32
        by_cases h34 : c = 34
        · have b2 := byte_eq c 34 34 rfl h34
          clear h34
          go_enter Tryz.func147, Tryz.ntmps147
          go_wp2_with fail
          refine (isWord_any _ _).mono ?_
          rintro e w' ⟨rfl, rfl⟩
          rw [hw]
          go_wp2_with fail
          go_end0
          rw [HJ.out]
          exact ⟨rfl, ⟨v, h.out.set0 4⟩, Stn.below0⟩
        · have b2 := byte_ne c 34 34 rfl h34
          clear h34
          go_enter Tryz.func147, Tryz.ntmps147
          go_wp2_with fail
          refine (isWord_any _ _).mono ?_
          rintro e w' ⟨rfl, rfl⟩
          rw [hw]
          go_wp2_with fail
          go_end0
          rw [HJ.out]
          exact ⟨rfl, ⟨v, h.out.set0 4⟩, Stn.below0⟩

theorem step_any (s : St) (v : Value) (c : UInt8) (S : Nat) (w : World) (h : Stn w S s v) (hl : s.op.length < 1000) (hz : S < w.heap.size) (ha : s.at_ ≤ 4) :
    Calls Tryz.prog 147 #[.pointer (some ⟨S, 0, none⟩), .int .u8 c.toNat] w fun e w' => e = .returned (.tuple #[]) ∧ (∃ v', Stn w' S (stepA s c) v') ∧ Below S w w' := by
  by_cases h0 : s.at_ = 0
  · exact step_at0 s v c S w h hl hz h0
  · by_cases h1 : s.at_ = 1
    · exact step_at1 s v c S w h hl hz h1
    · by_cases h2 : s.at_ = 2
      · exact step_at2 s v c S w h hl hz h2
      · by_cases h3 : s.at_ = 3
        · exact step_at3 s v c S w h hl hz h3
        · exact step_at4 s v c S w h hl hz (by omega) (by omega)
end Go.Proofs.YtbkepgmgebmceaaGreatDoor

namespace Go.Proofs.YtbkepgmgebmceaaGreatDoor
open Go.RowKit ChkM
set_option linter.unusedVariables false

theorem joins_le (s : St) (c : UInt8) : (joinsA s c).at_ ≤ 4 ∧ (joinsA s c).op.length ≤ s.op.length := by
  unfold joinsA
  split
  · exact ⟨Nat.zero_le _, Nat.le_refl _⟩
  · split
    · exact ⟨by show 2 ≤ 4; omega, by show s.op.tail.length ≤ _; simp⟩
    · exact ⟨Nat.le_refl _, Nat.le_refl _⟩
theorem step_le (s : St) (c : UInt8) (h : s.at_ ≤ 4) : (stepA s c).at_ ≤ 4 ∧ (stepA s c).op.length ≤ s.op.length + 1 := by
  have hj := joins_le s c
  unfold stepA
  split
  · unfold partA
    repeat' split
    all_goals (constructor <;> simp <;> omega)
  · repeat' split
    all_goals first | exact ⟨hj.1, by omega⟩ | exact ⟨h, Nat.le_succ _⟩ | exact ⟨by show 2 ≤ 4; omega, Nat.le_succ _⟩ | exact ⟨by show 4 ≤ 4; omega, Nat.le_succ _⟩

theorem refAns_dead {l r : List UInt8} {s : St} (h : runA ⟨0, 0, 0, []⟩ l = (some r, s)) : refAns l = (8, l.length - r.length) := by unfold refAns; rw [h]
theorem refAns_yes {l : List UInt8} {s : St} (h : runA ⟨0, 0, 0, []⟩ l = (none, s)) (h2 : (s.at_ = 1 ∨ s.at_ = 2) ∧ s.op = []) : refAns l = (0, 0) := by unfold refAns; rw [h]; simp only; rw [if_pos h2]
theorem refAns_no {l : List UInt8} {s : St} (h : runA ⟨0, 0, 0, []⟩ l = (none, s)) (h2 : ¬ ((s.at_ = 1 ∨ s.at_ = 2) ∧ s.op = [])) : refAns l = (8, l.length) := by unfold refAns; rw [h]; simp only; rw [if_neg h2]

set_option maxHeartbeats 400000 in
theorem rcheck_long (s : ByteArray) (w : World) (hs : 60 < s.size) :
    Calls Tryz.prog 71 #[.string s] w fun e w' => e = .returned (.tuple #[.int .i64 4, .int .i64 0]) ∧ w' = w := by
  go_enter Tryz.func71, Tryz.ntmps71
  go_wp2_with fail
  go_ret2
  exact ⟨rfl, rfl⟩

theorem stn_new (w : World) : Stn (w.alloc (.cells #[.int .i64 0, .int .i64 0, .int .i64 0, .slice none 0 0] 243)) w.heap.size ⟨0, 0, 0, []⟩ (.slice none 0 0) :=
  ⟨by rw [World.cell?_alloc_at _ _ _ _ rfl]; rfl, by rw [World.cell?_alloc_at _ _ _ _ rfl]; rfl, by rw [World.cell?_alloc_at _ _ _ _ rfl]; rfl, by rw [World.cell?_alloc_at _ _ _ _ rfl]; rfl,
    World.ownsRow_nil _ _ _ _, fun j => World.frozen?_alloc_at _ _ _ _ rfl, by simp, by simp, by simp, by simp⟩

set_option maxHeartbeats 400000 in
set_option maxRecDepth 100000 in
theorem rcheck_ok (s : ByteArray) (w : World) (hs : s.size ≤ 60) :
    Calls Tryz.prog 71 #[.string s] w fun e w' => ∃ (a : Int) (k : Nat), e = .returned (.tuple #[.int .i64 a, .int .i64 k]) ∧ Hid (refAns s.data.toList = (a, k)) ∧ Below w.heap.size w w' := by
  have hl : Hid (s.data.toList.length = s.size) := by show _ = _; simp
  go_enter Tryz.func71, Tryz.ntmps71
  go_wp2_with fail
  go_loopw [5] (fun i wr => ∃ (k : Nat) (st : St) (v : Value), k ≤ s.size ∧ i = .int .i64 k ∧ Stn wr w.heap.size st v ∧ st.at_ ≤ 3 ∧ st.op.length ≤ k ∧ Hid (runA ⟨0, 0, 0, []⟩ s.data.toList = runA st (s.data.toList.drop k)) ∧ Below w.heap.size w wr ∧ w.heap.size < wr.heap.size) (fun i _ => s.size - (intOf i).toNat)
  case atStart => exact ⟨0, ⟨0, 0, 0, []⟩, _, Nat.zero_le _, rfl, stn_new w, by decide, by decide, rfl, (Below.refl _ _).alloc (Nat.le_refl _) _, by simp⟩
  case round =>
    obtain ⟨k, st, v, hk, rfl, hS, ha, ho, hR, hb, hz⟩ := hrel
    by_cases hlt : k < s.size
    · have hd := hide (drop_at s k hlt)
      replace hS := hide hS
      go_wp2_with fail
      refine (step_any st v s[k] w.heap.size _ hS.out (by omega) hz (by omega)).mono ?_
      rintro e w1 ⟨rfl, ⟨v1, hS1⟩, hb1⟩
      have hle := step_le st s[k] (by omega)
      have hz1 := hb1.size
      have hc0 := hS1.c0
      by_cases h4 : (stepA st s[k]).at_ = 4
      · have hq : (((stepA st s[k]).at_ : Int) == 4) = true := by rw [beq_iff_eq]; omega
        have HF : Hid (refAns s.data.toList = (8, k)) := by
          show _ = _
          rw [refAns_dead (r := s.data.toList.drop k) (s := stepA st s[k]) (by rw [hR.out, hd.out]; exact run_dead rfl h4)]
          rw [List.length_drop, hl.out, show s.size - (s.size - k) = k by omega]
        clear h4 hle hS1
        go_wp2_with fail
        go_ret2
        exact ⟨8, k, rfl, HF, hb.trans hb1⟩
      · have hq : (((stepA st s[k]).at_ : Int) == 4) = false := by rw [beq_eq_false_iff_ne]; omega
        have HR : Hid (runA ⟨0, 0, 0, []⟩ s.data.toList = runA (stepA st s[k]) (s.data.toList.drop (k + 1))) := by
          show _ = _
          rw [hR.out, hd.out]; exact run_live rfl h4
        replace hS1 := hide hS1
        go_wp2_with fail
        go_roundw
        case rel => exact ⟨k + 1, stepA st s[k], v1, by omega, by go_num, hS1.out, by omega, by omega, HR, hb.trans hb1, by omega⟩
        case measure => simp [intOf]; omega
    · have he : Hid (runA ⟨0, 0, 0, []⟩ s.data.toList = (none, st)) := by
        show _ = _
        rw [hR.out, drop_end s k hlt]; rfl
      have hc0 := hS.c0
      have hc3 := hS.c3
      obtain ⟨a, cap, hv⟩ : ∃ a cap, v = .slice a st.op.length cap := by
        rcases hS.own.2 with ⟨rfl, h0⟩ | ⟨g, cap, cur, rfl, _⟩
        · exact ⟨none, 0, by rw [h0]⟩
        · exact ⟨_, _, rfl⟩
      rw [hv] at hc3
      by_cases hacc : (st.at_ = 1 ∨ st.at_ = 2) ∧ st.op = []
      · have HF : Hid (refAns s.data.toList = (0, 0)) := refAns_yes he.out hacc
        have ho0 : st.op.length = 0 := by rw [hacc.2]; rfl
        rw [ho0] at hc3
        clear hS ho0
        rcases hacc.1 with h1 | h1
        · rw [h1] at hc0
          clear hacc h1
          go_wp2_with fail
          go_ret2
          exact ⟨0, 0, rfl, HF, hb⟩
        · rw [h1] at hc0
          clear hacc h1
          go_wp2_with fail
          go_ret2
          exact ⟨0, 0, rfl, HF, hb⟩
      · have HF : Hid (refAns s.data.toList = (8, s.size)) := by
          show _ = _
          rw [refAns_no he.out hacc, hl.out]
        clear hS
        by_cases h1 : st.at_ = 1
        · have h0 : ((st.op.length : Int) == 0) = false := by
            rw [beq_eq_false_iff_ne]; intro e; exact hacc ⟨Or.inl h1, List.length_eq_zero_iff.1 (by omega)⟩
          rw [h1] at hc0
          clear hacc h1
          go_wp2_with fail
          go_ret2
          exact ⟨8, s.size, rfl, HF, hb⟩
        · by_cases h2 : st.at_ = 2
          · have h0 : ((st.op.length : Int) == 0) = false := by
              rw [beq_eq_false_iff_ne]; intro e; exact hacc ⟨Or.inr h2, List.length_eq_zero_iff.1 (by omega)⟩
            rw [h2] at hc0
            clear hacc h1 h2
            go_wp2_with fail
            go_ret2
            exact ⟨8, s.size, rfl, HF, hb⟩
          · have q1 : ((st.at_ : Int) == 1) = false := by rw [beq_eq_false_iff_ne]; omega
            have q2 : ((st.at_ : Int) == 2) = false := by rw [beq_eq_false_iff_ne]; omega
            clear hacc
            go_wp2_with fail
            go_ret2
            exact ⟨8, s.size, rfl, HF, hb⟩
end Go.Proofs.YtbkepgmgebmceaaGreatDoor
