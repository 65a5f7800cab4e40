import Derived.Test.YtpdoacfiiledcaaGreatDoorChkA
import Derived.Test.YtpdoacfiiledcaaGreatDoorPakA
import Derived.Deep.LoopGhost
import Derived.Deep.RegionHeld3
import Derived.Deep.RegionLaw
import Derived.Deep.AppendLies
namespace Go.Proofs.YtpdoacfiiledcaaGreatDoor
open Go.RowKit ChkM
open Pak (Kp)
set_option linter.unusedVariables false

theorem Tryz.info9a : (Tryz.prog.info? 9).map (fun i => (i.zero, i.size, i.bytes)) = some (some (.string ⟨#[]⟩), 1, 16) := by kernel_rfl

theorem pa_kp {w w' : World} {B : Nat} {s : ByteArray} {k : Nat} {S : List Nat} (h : Pa w B s k) (hk : Kp S w w') (hB : B ∉ S) : Pa w' B s k :=
  ⟨hk.cellv h.1 hB, hk.cellv h.2.1 hB, by rw [World.frozen?_of_block (w := w) (hk.block B (World.block_lt_of_cell? w _ h.1) hB)]; exact h.2.2⟩
theorem kp_grown {w w' : World} {B : Nat} (h : w.grownBy w' (some B)) : Kp [B] w w' := (Kp.refl _ _).grown h (fun k hk => .inl (by injection hk with hk; simp [hk]))

theorem kp_drew {S : List Nat} {a w : World} (h : Kp S a w) : Kp S a w.drew := ⟨h.os, h.tape, h.output, h.size, h.block⟩
theorem kp_append {wq w1 : World} {o : Obj} {row : Option Nat} (hg : (wq.alloc o).drew.grownBy w1 row) : Kp row.toList wq w1 :=
  (kp_drew ((Kp.refl _ wq).alloc o)).grown hg (fun k hk => .inl (by simp [hk]))
theorem kp_set (w : World) (Q j : Nat) (v : Value) : Kp [Q] w (w.setCell ⟨Q, j, none⟩ v) := (Kp.refl [Q] w).setCell (.inl (by simp)) _
/-- A box of a query: its kind, its words, its parts. -/
def Bx (w : World) (Q : Nat) (kd : Int) (wv pv : Value) : Prop := w.heap[Q]? = some (.cells #[.int .i64 kd, wv, pv] 139 (0, 0))
theorem bx_cells {w : World} {Q : Nat} {kd : Int} {wv pv : Value} (h : Bx w Q kd wv pv) :
    w.cell? ⟨Q, 0, none⟩ = some (.int .i64 kd) ∧ w.cell? ⟨Q, 1, none⟩ = some wv ∧ w.cell? ⟨Q, 2, none⟩ = some pv ∧ w.frozen? ⟨Q, 0, none⟩ = false ∧ w.frozen? ⟨Q, 1, none⟩ = false ∧ w.frozen? ⟨Q, 2, none⟩ = false := by
  unfold Bx at h
  simp [World.cell?, World.frozen?, h]

set_option maxHeartbeats 1000000 in
set_option maxRecDepth 100000 in
theorem wordq_any (s : ByteArray) (k B Q base n : Nat) (kd : Int) (wv pv : Value) (xs : List Value) (w : World) (hs : s.size ≤ 1000) (hk : k ≤ s.size) (hp : Pa w B s k)
    (hq : Bx w Q kd wv pv) (hown : w.ownsRow base 9 1 wv n xs) (hn : n ≤ 1000) (hB : B < base) (hQ : Q < base) (hBQ : B ≠ Q) (hbase : base ≤ w.heap.size) :
    Calls Tryz.prog 453 #[.pointer (some ⟨B, 0, none⟩), .pointer (some ⟨Q, 0, none⟩)] w fun e w' =>
      ∃ (k' n' : Nat) (wv' : Value) (xs' : List Value), e = .returned (.bool (wordP (s.data.toList.drop k)).1) ∧ k ≤ k' ∧ k' ≤ s.size ∧ (wordP (s.data.toList.drop k)).2 = s.data.toList.drop k' ∧ Pa w' B s k' ∧ Bx w' Q kd wv' pv
        ∧ w'.ownsRow base 9 1 wv' n' xs' ∧ n' ≤ n + 1 ∧ Kp (B :: Q :: wv.ownBlock.toList) w w' := by
  obtain ⟨i0, hi, hz0, hz1, hz2⟩ := info_parts Tryz.info9a
  have hp2 := hp.2.1
  replace hp := hide hp
  replace hq := hide hq
  replace hown := hide hown
  go_enter Tryz.func453, Tryz.ntmps453
  go_wp2_with fail
  clear hp2
  go_loopg [13] 8 (fun g u wr => ∃ m : Nat, g = 8 - m ∧ m ≤ 8 ∧ k + m ≤ s.size ∧ Hid (wordLen 8 (s.data.toList.drop k) = m + wordLen (8 - m) (s.data.toList.drop (k + m))) ∧ Pa wr B s (k + m) ∧ w.grownBy wr (some B))
  case atStart => exact ⟨0, rfl, by omega, by omega, by show _ = _; simp, hp.out, grown_refl _ _⟩
  case round =>
    obtain ⟨m, rfl, hm, hkm, hW, hP, hg⟩ := hrel
    have hp1 := hP.1
    have hp2 := hP.2.1
    have hp3 := hP.2.2
    rw [show ((k + m : Nat) : Int) = (k : Int) + (m : Int) by omega] at hp2
    have hkp := kp_grown hg
    have hne : ∀ g, wv.ownBlock = some g → g ∉ [B] := fun g hg' hx => by have := (hown.out.lt g hg').1; simp at hx; omega
    have F2 := hide (show Bx wr Q kd wv pv from hkp.heap hq.out (by simpa using hBQ.symm))
    have F3 := hide (hkp.owns hown.out hne)
    have F1 := hide hP
    have F4 := hide hkp
    have HG := hide hg
    clear hP hg hkp
    by_cases hlt : k + m < s.size
    case' pos =>
      have h1 : (k : Int) + (m : Int) < (s.size : Int) := by omega
      have h1' : (0 : Int) ≤ (k : Int) + (m : Int) := by omega
      rcases Nat.lt_or_ge m 8 with h8 | h8
      case' inl =>
        have h2 : (k : Int) + (m : Int) - (k : Int) < 8 := by omega
        have HH := hide (word_hit s k m hlt h8)
        have HM := hide (word_miss s k m hlt)
        cases hc : isSm s[k + m]
        case true =>
          go_wp2_with fail
          go_quiet ((go_at_call 356; exact Calls.quiet_of_same (small_any _ _)))
          go_wp2_with fail
          go_roundg (8 - (m + 1))
          case measure => omega
          case rel =>
            refine ⟨m + 1, rfl, by omega, by omega, by show _ = _; rw [hW.out, HH.out hc], ?_, grown_trans (grown_trans HG.out (grown_drewN _ _ _)) (grown_set _ _ _ _)⟩
            exact pa_set (pa_drewN F1.out _) (k + (m + 1))
        case' false =>
          have hz : Hid (wordLen 8 (s.data.toList.drop k) = m) := by show _ = _; rw [hW.out, HM.out hc]; rfl
          go_wp2_with fail
          go_quiet ((go_at_call 356; exact Calls.quiet_of_same (small_any _ _)))
          clear hc HH HM h2
      case' inr =>
        have h2 : decide ((k : Int) + (m : Int) - (k : Int) < 8) = false := by simp; omega
        have hz : Hid (wordLen 8 (s.data.toList.drop k) = m) := by show _ = _; rw [hW.out, show 8 - m = 0 by omega]; rfl
        go_wp2_with fail
        go_quiet (fail)
        clear h2 h8
    case' neg =>
      have h1 : decide ((k : Int) + (m : Int) < (s.size : Int)) = false := by simp; omega
      have HM := hide (word_end s k m hlt)
      have hz : Hid (wordLen 8 (s.data.toList.drop k) = m) := by show _ = _; rw [hW.out, HM.out]; rfl
      go_wp2_with fail
      go_quiet (fail)
      clear HM h1
    all_goals
      have f1 : Pa (wr.drewN nq) B s (k + m) := pa_drewN F1.out nq
      have f2 : Bx (wr.drewN nq) Q kd wv pv := F2.out
      have f3 : (wr.drewN nq).ownsRow base 9 1 wv n xs := F3.out
      have f4 : Kp [B] w (wr.drewN nq) := F4.out.drewN nq
      clear hW hp1 hp2 hp3 HG F1 F2 F3 F4 hp hq hown
      generalize wr.drewN nq = wq at f1 f2 f3 f4 ⊢
      rcases Nat.eq_zero_or_pos m with h0 | h0
      case inl =>
        have e0 : ((k : Int) + (m : Int) == (k : Int)) = true := by simp [h0]
        have c1 := f1.2.1
        rw [show ((k + m : Nat) : Int) = (k : Int) + (m : Int) by omega] at c1
        go_wp2_with fail
        go_ret
        rw [wordP_of s k m hz.out]
        exact ⟨k + m, n, wv, xs, ret_bool (by simp [h0]), by omega, by omega, rfl, f1, f2, f3, by omega, f4.mono (fun x hx => by simp at hx ⊢; exact .inl hx)⟩
      case inr =>
        have e0 : ((k : Int) + (m : Int) == (k : Int)) = false := by simp; omega
        have c0 := f1.1
        have c1 := f1.2.1
        rw [show ((k + m : Nat) : Int) = (k : Int) + (m : Int) by omega] at c1
        obtain ⟨_, d1, _, _, g1, _⟩ := bx_cells f2
        have hi0 : (0 : Int) ≤ (k : Int) := by omega
        have hi1 : (k : Int) ≤ (k : Int) + (m : Int) := by omega
        have hi2 : (k : Int) + (m : Int) ≤ (s.size : Int) := by omega
        have hi3 : ((k : Int) + (m : Int)).toNat = k + m := by omega
        have hsz : base ≤ wq.heap.size := Nat.le_trans hbase f4.size
        have HQo : Hid (Q ∉ wv.ownBlock.toList) := fun hx => by have := (f3.lt Q (by simpa using hx)).1; omega
        have HBo : Hid (B ∉ wv.ownBlock.toList) := fun hx => by have := (f3.lt B (by simpa using hx)).1; omega
        have d1' : ∀ o, (wq.alloc o).cell? ⟨Q, 1, none⟩ = some wv := fun o => by rw [World.cell?_alloc_past _ _ _ (World.block_lt_of_cell? wq _ d1)]; exact d1
        have HF3 := hide f3
        clear f3
        go_wp2_with fail
        go_region_law ((refine step_append_lies _ (by rfl) _ _ _ (by rfl) base 9 i0 _ 1 16 Tryz.underlying67 hi hz0 hz1 hz2 rfl (by omega) wv n xs (by rfl) ((HF3.out.alloc _).drew) ⟨wq.heap.size, 0, none⟩ 1 1 [.string (s.extract k (k + m))] (by rfl) (by rfl) (World.news_of_block (cs := #[.string (s.extract k (k + m))]) (t := 9) (fr := (0, 0)) (heap_alloc_new wq _)) (by simp [Value.oneCell']) (by omega) (by unfold maxLen; omega) (by omega) (by simp; omega) (wq.heap.size + 1) (by simp) ?_; intro g cap w1 hown1 hgrow hat hlt1; have k1 := kp_append hgrow; obtain ⟨_, x1, _, _, y1, _⟩ := bx_cells (show Bx w1 Q kd wv pv from k1.heap f2 HQo.out)))
        all_goals
          go_wp2_with fail
          go_ret
          rw [wordP_of s k m hz.out]
          have hb1 : Bx w1 Q kd wv pv := k1.heap f2 HQo.out
          refine ⟨k + m, n + 1, _, _, ret_bool (by simp; omega), by omega, by omega, rfl, pa_kp (pa_kp f1 k1 HBo.out) (kp_set w1 Q 1 _) (by simpa using hBQ), ?_, (kp_set w1 Q 1 _).owns hown1 (fun x hx hm' => by have := (hown1.lt x hx).1; simp at hm'; omega), by omega, ?_⟩
          · show (w1.setCell ⟨Q, 1, none⟩ _).heap[Q]? = _
            rw [heap_setCell_same w1 Q 1 _ 139 _ hb1]; rfl
          · refine ((f4.mono ?_).trans k1 ?_).trans (kp_set w1 Q 1 _) ?_
            · intro x hx; simp at hx ⊢; exact .inl hx
            · intro x hx; exact .inl (List.mem_cons_of_mem _ (List.mem_cons_of_mem _ hx))
            · intro x hx; simp at hx; subst hx; exact .inl (by simp)
end Go.Proofs.YtpdoacfiiledcaaGreatDoor
