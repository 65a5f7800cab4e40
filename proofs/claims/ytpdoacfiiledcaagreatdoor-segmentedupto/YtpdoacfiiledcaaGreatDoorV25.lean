import Derived.Test.YtpdoacfiiledcaaGreatDoorV24
import Derived.Test.YtpdoacfiiledcaaGreatDoorV01
import Derived.Test.YtpdoacfiiledcaaGreatDoorV22
import Derived.Test.YtpdoacfiiledcaaGreatDoorV23
import Derived.Deep.LoopGhost
import Derived.Deep.RegionHeld3
import Derived.Deep.RegionLaw
import Derived.Deep.AppendLies
namespace Go.Proofs.YtpdoacfiiledcaaGreatDoor
open Go.RowKit ChkM
open Pak (Kp)
set_option linter.unusedVariables false

theorem Tryz.info9a : (Tryz.prog.info? 9).map (fun i => (i.zero, i.size, i.bytes)) = some (some (.string ⟨#[]⟩), 1, 16) := by kernel_rfl

theorem pa_kp {w w' : World} {B : Nat} {s : ByteArray} {k : Nat} {S : List Nat} (h : Pa w B s k) (hk : Kp S w w') (hB : B ∉ S) : Pa w' B s k :=
  ⟨hk.cellv h.1 hB, hk.cellv h.2.1 hB, by rw [World.frozen?_of_block (w := w) (hk.block B (World.block_lt_of_cell? w _ h.1) hB)]; exact h.2.2⟩
theorem kp_grown {w w' : World} {B : Nat} (h : w.grownBy w' (some B)) : Kp [B] w w' := (Kp.refl _ _).grown h (fun k hk => .inl (by injection hk with hk; simp [hk]))

theorem kp_drew {S : List Nat} {a w : World} (h : Kp S a w) : Kp S a w.drew := ⟨h.os, h.tape, h.output, h.size, h.block⟩
theorem kp_append {wq w1 : World} {o : Obj} {row : Option Nat} (hg : (wq.alloc o).drew.grownBy w1 row) : Kp row.toList wq w1 :=
  (kp_drew ((Kp.refl _ wq).alloc o)).grown hg (fun k hk => .inl (by simp [hk]))
theorem kp_set (w : World) (Q j : Nat) (v : Value) : Kp [Q] w (w.setCell ⟨Q, j, none⟩ v) := (Kp.refl [Q] w).setCell (.inl (by simp)) _
/-- A box of a query: its kind, its words, its parts. -/
def Bx (w : World) (Q : Nat) (kd : Int) (wv pv : Value) : Prop := w.heap[Q]? = some (.cells #[.int .i64 kd, wv, pv] 139 (0, 0))
theorem bx_cells {w : World} {Q : Nat} {kd : Int} {wv pv : Value} (h : Bx w Q kd wv pv) :
    w.cell? ⟨Q, 0, none⟩ = some (.int .i64 kd) ∧ w.cell? ⟨Q, 1, none⟩ = some wv ∧ w.cell? ⟨Q, 2, none⟩ = some pv ∧ w.frozen? ⟨Q, 0, none⟩ = false ∧ w.frozen? ⟨Q, 1, none⟩ = false ∧ w.frozen? ⟨Q, 2, none⟩ = false := by
  unfold Bx at h
  simp [World.cell?, World.frozen?, h]

set_option maxHeartbeats 1000000 in
set_option maxRecDepth 100000 in
theorem wordq_any (s : ByteArray) (k B Q base n : Nat) (kd : Int) (wv pv : Value) (xs : List Value) (w : World) (hs : s.size ≤ 1000) (hk : k ≤ s.size) (hp : Pa w B s k)
    (hq : Bx w Q kd wv pv) (hown : w.ownsRow base 9 1 wv n xs) (hn : n ≤ 1000) (hB : B < base) (hQ : Q < base) (hBQ : B ≠ Q) (hbase : base ≤ w.heap.size) :
    Calls Tryz.prog 453 #[.pointer (some ⟨B, 0, none⟩), .pointer (some ⟨Q, 0, none⟩)] w fun e w' =>
      ∃ (k' n' : Nat) (wv' : Value) (xs' : List Value), e = .returned (.bool (wordP (s.data.toList.drop k)).1) ∧ k ≤ k' ∧ k' ≤ s.size ∧ (wordP (s.data.toList.drop k)).2 = s.data.toList.drop k' ∧ Pa w' B s k' ∧ Bx w' Q kd wv' pv
        ∧ w'.ownsRow base 9 1 wv' n' xs' ∧ n' ≤ n + 1 ∧ Kp (B :: Q :: wv.ownBlock.toList) w w' := by
  obtain ⟨i0, hi, hz0, hz1, hz2⟩ := info_parts Tryz.info9a
  have hp2 := hp.2.1
  replace hp := hide hp
  replace hq := hide hq
  replace hown := hide hown
  go_enter Tryz.func453, Tryz.ntmps453
  go_wp2_with fail
  clear hp2
  go_loopg [13] 8 (fun g u wr => ∃ m : Nat, g = 8 - m ∧ m ≤ 8 ∧ k + m ≤ s.size ∧ Hid (wordLen 8 (s.data.toList.drop k) = m + wordLen (8 - m) (s.data.toList.drop (k + m))) ∧ Pa wr B s (k + m) ∧ w.grownBy wr (some B))
  case atStart => exact ⟨0, rfl, by omega, by omega, by show _ = _; simp, hp.out, grown_refl _ _⟩
  case round =>
    obtain ⟨m, rfl, hm, hkm, hW, hP, hg⟩ := hrel
    have hp1 := hP.1
    have hp2 := hP.2.1
    have hp3 := hP.2.2
    rw [show ((k + m : Nat) : Int) = (k : Int) + (m : Int) by omega] at hp2
    have hkp := kp_grown hg
    have hne : ∀ g, wv.ownBlock = some g → g ∉ [B] := fun g hg' hx => by have := (hown.out.lt g hg').1; simp at hx; omega
    have F2 := hide (show Bx wr Q kd wv pv from hkp.heap hq.out (by simpa using hBQ.symm))
    have F3 := hide (hkp.owns hown.out hne)
    have F1 := hide hP
    have F4 := hide hkp
    have HG := hide hg
    clear hP hg hkp
    by_cases hlt : k + m < s.size
    case' pos =>
      have h1 : (k : Int) + (m : Int) < (s.size : Int) := by omega
      have h1' : (0 : Int) ≤ (k : Int) + (m : Int) := by omega
      rcases Nat.lt_or_ge m 8 with h8 | h8
      case' inl =>
        have h2 : (k : Int) + (m : Int) - (k : Int) < 8 := by omega
        have HH := hide (word_hit s k m hlt h8)
        have HM := hide (word_miss s k m hlt)
        cases hc : isSm s[k + m]
        case true =>
          go_wp2_with fail
          go_quiet ((go_at_call 356; exact Calls.quiet_of_same (small_any _ _)))
          go_wp2_with fail
          go_roundg (8 - (m + 1))
          case measure => omega
          case rel =>
            refine ⟨m + 1, rfl, by omega, by omega, by show _ = _; rw [hW.out, HH.out hc], ?_, grown_trans (grown_trans HG.out (grown_drewN _ _ _)) (grown_set _ _ _ _)⟩
            exact pa_set (pa_drewN F1.out _) (k + (m + 1))
        case' false =>
          have hz : Hid (wordLen 8 (s.data.toList.drop k) = m) := by show _ = _; rw [hW.out, HM.out hc]; rfl
          go_wp2_with fail
          go_quiet ((go_at_call 356; exact Calls.quiet_of_same (small_any _ _)))
          clear hc HH HM h2
      case' inr =>
        have h2 : decide ((k : Int) + (m : Int) - (k : Int) < 8) = false := by simp; omega
        have hz : Hid (wordLen 8 (s.data.toList.drop k) = m) := by show _ = _; rw [hW.out, show 8 - m = 0 by omega]; rfl
        go_wp2_with fail
        go_quiet (fail)
        clear h2 h8
    case' neg =>
      have h1 : decide ((k : Int) + (m : Int) < (s.size : Int)) = false := by simp; omega
      have HM := hide (word_end s k m hlt)
      have hz : Hid (wordLen 8 (s.data.toList.drop k) = m) := by show _ = _; rw [hW.out, HM.out]; rfl
      go_wp2_with fail
      go_quiet (fail)
      clear HM h1
    all_goals
      have f1 : Pa (wr.drewN nq) B s (k + m) := pa_drewN F1.out nq
      have f2 : Bx (wr.drewN nq) Q kd wv pv := F2.out
      have f3 : (wr.drewN nq).ownsRow base 9 1 wv n xs := F3.out
      have f4 : Kp [B] w (wr.drewN nq) := F4.out.drewN nq
      clear hW hp1 hp2 hp3 HG F1 F2 F3 F4 hp hq hown
      generalize wr.drewN nq = wq at f1 f2 f3 f4 ⊢
      rcases Nat.eq_zero_or_pos m with h0 | h0
      case inl =>
        have e0 : ((k : Int) + (m : Int) == (k : Int)) = true := by simp [h0]
        have c1 := f1.2.1
        rw [show ((k + m : Nat) : Int) = (k : Int) + (m : Int) by omega] at c1
        go_wp2_with fail
        go_ret
        rw [wordP_of s k m hz.out]
        exact ⟨k + m, n, wv, xs, ret_bool (by simp [h0]), by omega, by omega, rfl, f1, f2, f3, by omega, f4.mono (fun x hx => by simp at hx ⊢; exact .inl hx)⟩
      case inr =>
        have e0 : ((k : Int) + (m : Int) == (k : Int)) = false := by simp; omega
        have c0 := f1.1
        have c1 := f1.2.1
        rw [show ((k + m : Nat) : Int) = (k : Int) + (m : Int) by omega] at c1
        obtain ⟨_, d1, _, _, g1, _⟩ := bx_cells f2
        have hi0 : (0 : Int) ≤ (k : Int) := by omega
        have hi1 : (k : Int) ≤ (k : Int) + (m : Int) := by omega
        have hi2 : (k : Int) + (m : Int) ≤ (s.size : Int) := by omega
        have hi3 : ((k : Int) + (m : Int)).toNat = k + m := by omega
        have hsz : base ≤ wq.heap.size := Nat.le_trans hbase f4.size
        have HQo : Hid (Q ∉ wv.ownBlock.toList) := fun hx => by have := (f3.lt Q (by simpa using hx)).1; omega
        have HBo : Hid (B ∉ wv.ownBlock.toList) := fun hx => by have := (f3.lt B (by simpa using hx)).1; omega
        have d1' : ∀ o, (wq.alloc o).cell? ⟨Q, 1, none⟩ = some wv := fun o => by rw [World.cell?_alloc_past _ _ _ (World.block_lt_of_cell? wq _ d1)]; exact d1
        have HF3 := hide f3
        clear f3
        go_wp2_with fail
        go_region_law ((refine step_append_lies _ (by rfl) _ _ _ (by rfl) base 9 i0 _ 1 16 Tryz.underlying67 hi hz0 hz1 hz2 rfl (by omega) wv n xs (by rfl) ((HF3.out.alloc _).drew) ⟨wq.heap.size, 0, none⟩ 1 1 [.string (s.extract k (k + m))] (by rfl) (by rfl) (World.news_of_block (cs := #[.string (s.extract k (k + m))]) (t := 9) (fr := (0, 0)) (heap_alloc_new wq _)) (by simp [Value.oneCell']) (by omega) (by unfold maxLen; omega) (by omega) (by simp; omega) (wq.heap.size + 1) (by simp) ?_; intro g cap w1 hown1 hgrow hat hlt1; have k1 := kp_append hgrow; obtain ⟨_, x1, _, _, y1, _⟩ := bx_cells (show Bx w1 Q kd wv pv from k1.heap f2 HQo.out)))
        all_goals
          go_wp2_with fail
          go_ret
          rw [wordP_of s k m hz.out]
          have hb1 : Bx w1 Q kd wv pv := k1.heap f2 HQo.out
          refine ⟨k + m, n + 1, _, _, ret_bool (by simp; omega), by omega, by omega, rfl, pa_kp (pa_kp f1 k1 HBo.out) (kp_set w1 Q 1 _) (by simpa using hBQ), ?_, (kp_set w1 Q 1 _).owns hown1 (fun x hx hm' => by have := (hown1.lt x hx).1; simp at hm'; omega), by omega, ?_⟩
          · show (w1.setCell ⟨Q, 1, none⟩ _).heap[Q]? = _
            rw [heap_setCell_same w1 Q 1 _ 139 _ hb1]; rfl
          · refine ((f4.mono ?_).trans k1 ?_).trans (kp_set w1 Q 1 _) ?_
            · intro x hx; simp at hx ⊢; exact .inl hx
            · intro x hx; exact .inl (List.mem_cons_of_mem _ (List.mem_cons_of_mem _ hx))
            · intro x hx; simp at hx; subst hx; exact .inl (by simp)
end Go.Proofs.YtpdoacfiiledcaaGreatDoor

set_option linter.unusedVariables false
set_option maxRecDepth 8000
namespace Go.Proofs.YtpdoacfiiledcaaGreatDoor.Pak
open Go.RowKit Go.Proofs.YtpdoacfiiledcaaGreatDoor Go.Proofs.YtpdoacfiiledcaaGreatDoor.Spl SiftM

theorem ixC_set3 (s : RSt) (x : Value) : (ixC s).setIfInBounds 3 x = ixC { s with sv := x } := by simp [ixC, ixA]
theorem ixC_set2 (s : RSt) (x : Value) : (ixC s).setIfInBounds 2 x = ixC { s with lv := x } := by simp [ixC, ixA]
theorem ixC_set4 (s : RSt) (x : Nat) : (ixC s).setIfInBounds 4 (.int .i64 (x : Int)) = ixC { s with next := x } := by simp [ixC, ixA]
theorem owns_ne_type {w : World} {X base size n : Nat} {e t : TypeId} {v : Value} {xs : List Value} {cs : Array Value} {fr : Nat × Nat} (h : w.ownsRow base e size v n xs) (hX : w.heap[X]? = some (.cells cs t fr)) (hne : e ≠ t) : v.ownBlock ≠ some X := by
  intro ee
  rcases h.2 with ⟨rfl, _⟩ | ⟨g, cap, cur, rfl, _, hb, _⟩
  · simp [Value.ownBlock] at ee
  · simp [Value.ownBlock] at ee
    subst ee
    rw [hX] at hb
    simp at hb
    exact hne hb.2.1.symm
theorem info269 : (Tryz.prog.info? 287).map (fun i => (i.zero, i.size, i.bytes)) = some (some (.agg #[.int .i64 0, .slice none 0 0]), 2, 32) := by kernel_rfl
theorem sg2_append (L : List RSg) (t : RSg) : sg2 (L ++ [t]) = sg2 L ++ [.int .i64 (t.num : Int), t.v] := by simp [sg2]

/-- What a flush leaves. -/
def flushed (s : RSt) (sv v : Value) (T : List Tx) (vs : List Value) : RSt := { s with lv := .slice none 0 0, T := [], vs := [], sv := sv, L := s.L ++ [⟨s.next, v, T, vs, List.replicate T.length false⟩], next := s.next + 1 }

set_option maxHeartbeats 4000000 in
theorem rflush_any (X B : Nat) (O : List Nat) (s : RSt) (w : World) (h : RIs w X B O s) (hnx : s.next ≤ 1000000) :
    Calls Tryz.prog 210 #[.pointer (some ⟨X, 0, none⟩)] w fun e w' => (s.T = [] ∧ e = .returned (.bool false) ∧ w' = w) ∨ (s.T ≠ [] ∧ e = .returned (.bool true) ∧ ∃ sv v T' vs',
      T'.Perm s.T ∧ SortT T' ∧ Fine T' ∧ (∀ u ∈ vs', u ∈ s.vs) ∧ w'.heap[X]? = some (.cells (ixC (flushed s sv v T' vs')) 187 (0, 0)) ∧ DocsIs w' B v T' vs' ∧ w'.ownsRow B 287 2 sv (s.L.length + 1) (sg2 (flushed s sv v T' vs').L) ∧
      (∀ g, v.ownBlock = some g → w.heap.size ≤ g) ∧ (∀ g, sv.ownBlock = some g → g ∈ O ∨ w.heap.size ≤ g) ∧ Kp (X :: s.sv.ownBlock.toList) w w') := by
  obtain ⟨i0, hi0, hz0, hz1, hz2⟩ := info_parts info269
  obtain ⟨x0, x2, x3, x4, x18, f2, f3, f4⟩ := ix_cells h
  obtain ⟨al, cl, el, hal⟩ := owns_forms h.loose.row
  obtain ⟨T', hp, hso, hfi⟩ := h.sorted
  obtain ⟨N, hN⟩ : ∃ N, s.T.length = N := ⟨_, rfl⟩
  have hN60 : N ≤ 60 := by rw [← hN, ← hp.length_eq]; exact hfi.len
  rw [hN] at el
  have hcall := xsorted_any B N s.lv s.T T' s.vs w h.loose hN hN60 h.low hp hso
  rw [el] at x2 hcall
  have HH := hide h
  have HX := hide h.blk
  have hXne : Hid (s.sv.ownBlock ≠ some X) := owns_ne_type h.segs.row h.blk (by decide)
  clear h
  by_cases hT0 : s.T = []
  · have hN0 : N = 0 := by rw [← hN, hT0]; rfl
    subst hN0
    clear hcall
    go_enter Tryz.func210, Tryz.ntmps210
    go_wp2_with fail
    go_ret
    exact .inl ⟨hT0, rfl, rfl⟩
  · have hNp : 0 < N := by rw [← hN]; exact List.length_pos_iff.2 hT0
    have hN1 : ((N : Int) == 0) = false := by rw [beq_eq_false_iff_ne]; omega
    go_enter Tryz.func210, Tryz.ntmps210
    go_wp2_with fail
    refine hcall.mono ?_
    rintro e w1 ⟨v, vs', rfl, hd, hfr, k1⟩
    have HD := hide hd
    have HFR := hide hfr
    have y3 := k1.cellv x3 (by simp)
    have y4 := k1.cellv x4 (by simp)
    have HX1 := hide (k1.heap HX.out (by simp))
    have HS1 := hide (k1.owns HH.out.segs.row (by simp))
    obtain ⟨av, cv, ev, _⟩ := owns_forms hd.row
    have hXX : ∀ (u : World), Kp s.sv.ownBlock.toList w1 u → u.cell? ⟨X, 3, none⟩ = some s.sv ∧ u.cell? ⟨X, 4, none⟩ = some (.int .i64 (s.next : Int)) ∧ u.frozen? ⟨X, 3, none⟩ = false ∧ u.heap[X]? = some (.cells (ixC s) 187 (0, 0)) := by
      intro u ku
      have hu := ku.heap HX1.out (fun hx => hXne.out (by simpa using hx))
      exact ⟨ku.cellv y3 (fun hx => hXne.out (by simpa using hx)), ku.cellv y4 (fun hx => hXne.out (by simpa using hx)), by simp [World.frozen?, hu], hu⟩
    rw [hp.length_eq, hN] at ev
    subst ev
    have y3' : ∀ o, (w1.alloc o).cell? ⟨X, 3, none⟩ = some s.sv := fun o => by rw [World.cell?_alloc_past _ _ _ (World.block_lt_of_cell? w1 _ y3)]; exact y3
    have y4' : ∀ o, (w1.alloc o).cell? ⟨X, 4, none⟩ = some (.int .i64 (s.next : Int)) := fun o => by rw [World.cell?_alloc_past _ _ _ (World.block_lt_of_cell? w1 _ y4)]; exact y4
    have hlowB : B ≤ w1.heap.size := Nat.le_trans HH.out.low k1.size
    have hLn : s.L.length ≤ 1000000 := Nat.le_trans HH.out.cnt hnx
    have hXn : X ∉ s.sv.ownBlock.toList := fun hx => hXne.out (by simpa using hx)
    clear hd hfr hcall x0 x2 x3 x4 x18
    go_wp2_with fail
    have HXX := hide hXX
    clear hXX
    go_region_law ((refine step_append_lies _ (by rfl) _ _ _ (by rfl) B 287 i0 _ 2 32 Tryz.underlying177 hi0 hz0 hz1 hz2 rfl (by omega) s.sv s.L.length (sg2 s.L) (by rfl) ((HS1.out.alloc _).drew) ⟨w1.heap.size, 0, none⟩ 1 1 [.int .i64 (s.next : Int), .slice av N cv] (by rfl) (by rfl) (World.news_of_block (cs := #[.int .i64 (s.next : Int), .slice av N cv]) (t := 287) (fr := (0, 0)) (heap_alloc_new w1 _)) (by simp [Value.oneCell']) (by omega) (by unfold maxLen; omega) (by omega) (by simp; omega) (w1.heap.size + 1) (by simp) ?_; intro g cap w2 hown2 hgrow hat hlt2; have k2 := kp_append hgrow; obtain ⟨z3, z4, zf, zX⟩ := HXX.out w2 k2))
    all_goals
      obtain ⟨W3, hW3⟩ : ∃ W3, w2.setCell ⟨X, 3, none⟩ (.slice (some ⟨g, 0, none⟩) (s.L.length + 1) cap) = W3 := ⟨_, rfl⟩
      rw [hW3]
      have hX3 : W3.heap[X]? = some (.cells (ixC { s with sv := .slice (some ⟨g, 0, none⟩) (s.L.length + 1) cap }) 187 (0, 0)) := by rw [← hW3, heap_setCell_same w2 X 3 _ 187 _ zX, ixC_set3]
      have a4 : W3.cell? ⟨X, 4, none⟩ = some (.int .i64 (s.next : Int)) := by simp [World.cell?, hX3, ixC, ixA]
      have b4 : W3.frozen? ⟨X, 4, none⟩ = false := by simp [World.frozen?, hX3]
      have ks3 : Kp [X] w2 W3 := by rw [← hW3]; exact kp_set w2 X 3 _
      obtain ⟨W4, hW4⟩ : ∃ W4, W3.setCell ⟨X, 4, none⟩ (.int .i64 ((s.next : Int) + 1)) = W4 := ⟨_, rfl⟩
      have hX4 : W4.heap[X]? = some (.cells (ixC { s with sv := .slice (some ⟨g, 0, none⟩) (s.L.length + 1) cap, next := s.next + 1 }) 187 (0, 0)) := by
        rw [← hW4, heap_setCell_same W3 X 4 _ 187 _ hX3, show ((s.next : Int) + 1) = ((s.next + 1 : Nat) : Int) by omega, ixC_set4]
      have a2 : W4.cell? ⟨X, 2, none⟩ = some s.lv := by simp [World.cell?, hX4, ixC, ixA]
      have b2 : W4.frozen? ⟨X, 2, none⟩ = false := by simp [World.frozen?, hX4]
      have ks4 : Kp [X] W3 W4 := by rw [← hW4]; exact kp_set W3 X 4 _
      obtain ⟨W5, hW5⟩ : ∃ W5, W4.setCell ⟨X, 2, none⟩ (.slice none 0 0) = W5 := ⟨_, rfl⟩
      have hX5 : W5.heap[X]? = some (.cells (ixC { s with sv := .slice (some ⟨g, 0, none⟩) (s.L.length + 1) cap, next := s.next + 1, lv := .slice none 0 0 }) 187 (0, 0)) := by
        rw [← hW5, heap_setCell_same W4 X 2 _ 187 _ hX4, ixC_set2]
      have ks5 : Kp [X] W4 W5 := by rw [← hW5]; exact kp_set W4 X 2 _
      have k25 : Kp [X] w2 W5 := (ks3.next ks4).next ks5
      have hwr : IntKind.i64.wrap ((s.next : Int) + 1) = (s.next : Int) + 1 := IntWalk.i64_in _ ⟨by omega, by omega⟩
      have kall : Kp (X :: s.sv.ownBlock.toList) w W5 := ((k1.mono (S' := X :: s.sv.ownBlock.toList) (by simp)).next (k2.mono (fun x hx => List.mem_cons_of_mem _ hx))).next (k25.mono (by simp))
      have hXd : ∀ {e : TypeId} {size m : Nat} {u : Value} {xs : List Value}, e ≠ 187 → w2.ownsRow B e size u m xs → W5.ownsRow B e size u m xs := fun he hu => k25.owns hu (fun gg hgg hx => by
        simp at hx; subst hx
        exact owns_ne_type hu zX he hgg)
      have k12 : ∀ {e : TypeId} {size m : Nat} {u : Value} {xs : List Value}, e ≠ 287 → w1.ownsRow B e size u m xs → w2.ownsRow B e size u m xs := fun he hu => k2.owns hu (fun gg hgg hx => by
        rcases HS1.out.2 with ⟨h1, _⟩ | ⟨g8, c8, cu8, h1, _, h3, _⟩
        · rw [h1] at hx; simp [Value.ownBlock] at hx
        · rw [h1] at hx; simp [Value.ownBlock] at hx
          subst hx
          exact owns_ne_type hu h3 he hgg)
      have hfin : Hid (DocsIs W5 B (.slice av N cv) T' vs') := ⟨HD.out.len, hXd (by decide) (k12 (by decide) HD.out.row), fun i h1 h2 => hXd (by decide) (k12 (by decide) (HD.out.each i h1 h2))⟩
      have hrow5 : Hid (W5.ownsRow B 287 2 (.slice (some ⟨g, 0, none⟩) (s.L.length + 1) cap) (s.L.length + 1) (sg2 (s.L ++ [⟨s.next, .slice av N cv, T', vs', List.replicate T'.length false⟩]))) := by
        show World.ownsRow _ _ _ _ _ _ _
        rw [sg2_append]
        exact hXd (by decide) hown2
      have hg5 : Hid (g ∈ O ∨ w.heap.size ≤ g) := by
        show _ ∨ _
        rcases hat with h1 | h1
        · exact .inl (HH.out.inS g h1)
        · right; have := k1.size; omega
      clear hXd k12 hown2 hgrow hat hX3 hX4 z3 z4 zf zX
      go_wp2_with fail
      go_ret
      exact .inr ⟨hT0, rfl, _, _, T', vs', hp, hso, hfi, HFR.out.2, hX5, hfin.out, hrow5.out, HFR.out.1, fun gg hgg => by simp [Value.ownBlock] at hgg; subst hgg; exact hg5.out, kall⟩
end Go.Proofs.YtpdoacfiiledcaaGreatDoor.Pak

set_option linter.unusedVariables false
set_option maxRecDepth 8000
namespace Go.Proofs.YtpdoacfiiledcaaGreatDoor.Pak
open Go.RowKit Go.Proofs.YtpdoacfiiledcaaGreatDoor Go.Proofs.YtpdoacfiiledcaaGreatDoor.Spl SiftM

/-- A doc of a segment is dead. -/
def setFl (t : RSg) (k : Nat) : RSg := ⟨t.num, t.v, t.T, t.vs, t.fl.set k true⟩
/-- The docs of an id, among the first k of a segment, are dead. -/
def markTo (id k : Nat) (t : RSg) : RSg := { t with fl := t.fl.mapIdx fun j b => b || (decide (j < k) && decide ((t.T.map Prod.fst)[j]? = some id)) }
def mark (id : Nat) (t : RSg) : RSg := markTo id t.T.length t
theorem markTo_zero (id : Nat) (t : RSg) : markTo id 0 t = t := by
  obtain ⟨num, v, T, vs, fl⟩ := t
  simp only [markTo]
  congr
  apply List.ext_getElem
  · simp
  · intro j h1 h2; simp
theorem markTo_no (id k : Nat) (t : RSg) (hk : k < t.T.length) (h : t.T[k].1 ≠ id) : markTo id (k + 1) t = markTo id k t := by
  obtain ⟨num, v, T, vs, fl⟩ := t
  simp only at hk h
  simp only [markTo]
  congr
  funext j b
  by_cases hj : j = k
  · subst hj
    simp [hk, h]
  · have : (j < k + 1) ↔ j < k := by omega
    simp [this]
theorem markTo_yes (id k : Nat) (t : RSg) (hk : k < t.T.length) (h : t.T[k].1 = id) : markTo id (k + 1) t = setFl (markTo id k t) k := by
  obtain ⟨num, v, T, vs, fl⟩ := t
  simp only at hk h
  simp only [markTo, setFl]
  congr
  apply List.ext_getElem
  · simp
  · intro j h1 h2
    simp only [List.getElem_mapIdx, List.getElem_set]
    by_cases hj : k = j
    · subst hj
      simp [hk, h]
    · have : (j < k + 1) ↔ j < k := by omega
      simp [this, hj]
/-- The segments, of which the first i, and k docs of the next one, have been gone through. -/
def markAt (id i k : Nat) (L : List RSg) : List RSg := L.mapIdx fun j t => if j < i then mark id t else if j = i then markTo id k t else t
theorem markAt_len (id i k : Nat) (L : List RSg) : (markAt id i k L).length = L.length := by simp [markAt]
theorem markAt_zero (id : Nat) (L : List RSg) : markAt id 0 0 L = L := by
  apply List.ext_getElem
  · simp [markAt]
  · intro j h1 h2
    simp only [markAt, List.getElem_mapIdx]
    by_cases hj : j = 0
    · subst hj; simp [markTo_zero]
    · simp [hj]
theorem markAt_next (id i k : Nat) (L : List RSg) (h : i < L.length) (hk : k = L[i].T.length) : markAt id i k L = markAt id (i + 1) 0 L := by
  apply List.ext_getElem
  · simp [markAt]
  · intro j h1 h2
    simp only [markAt, List.getElem_mapIdx]
    by_cases hj : j < i
    · rw [if_pos hj, if_pos (by omega)]
    · by_cases hj2 : j = i
      · subst hj2
        rw [if_neg (by omega), if_pos rfl, if_pos (by omega)]; exact congrArg (fun q => markTo id q L[j]) hk
      · rw [if_neg hj, if_neg hj2, if_neg (by omega)]
        split
        · rw [markTo_zero]
        · rfl
theorem markAt_end (id : Nat) (L : List RSg) : markAt id L.length 0 L = L.map (mark id) := by
  apply List.ext_getElem
  · simp [markAt]
  · intro j h1 h2
    simp only [markAt, List.getElem_mapIdx, List.getElem_map]
    rw [if_pos (by simpa [markAt] using h1)]
theorem markAt_get (id i k : Nat) (L : List RSg) (h : i < L.length) : (markAt id i k L)[i]'(by rw [markAt_len]; exact h) = markTo id k L[i] := by
  simp [markAt]
theorem markAt_set (id i k k' : Nat) (L : List RSg) (h : i < L.length) : (markAt id i k L).set i (markTo id k' L[i]) = markAt id i k' L := by
  apply List.ext_getElem
  · simp [markAt]
  · intro j h1 h2
    simp only [markAt, List.getElem_mapIdx, List.getElem_set]
    by_cases hj : i = j
    · subst hj; simp
    · rw [if_neg hj]
      split
      · rfl
      · rw [if_neg (fun e => hj e.symm), if_neg (fun e => hj e.symm)]
theorem markAt_vs (id i k : Nat) (L : List RSg) (j : Nat) (h : j < L.length) : ((markAt id i k L)[j]'(by rw [markAt_len]; exact h)).v = L[j].v ∧ ((markAt id i k L)[j]'(by rw [markAt_len]; exact h)).T = L[j].T ∧ ((markAt id i k L)[j]'(by rw [markAt_len]; exact h)).vs = L[j].vs ∧ ((markAt id i k L)[j]'(by rw [markAt_len]; exact h)).num = L[j].num := by
  simp only [markAt, List.getElem_mapIdx]
  split
  · exact ⟨rfl, rfl, rfl, rfl⟩
  · split <;> exact ⟨rfl, rfl, rfl, rfl⟩
theorem sg2_set (M : List RSg) (i : Nat) (t : RSg) (hi : i < M.length) (hn : t.num = M[i].num) (hv : t.v = M[i].v) : sg2 (M.set i t) = sg2 M := by
  induction M generalizing i with
  | nil => simp at hi
  | cons x r ih =>
    have e : ∀ (y : RSg) (s : List RSg), sg2 (y :: s) = .int .i64 (y.num : Int) :: y.v :: sg2 s := fun y s => by simp [sg2]
    cases i with
    | zero => simp at hn hv; simp [e, hn, hv]
    | succ i =>
      simp at hn hv hi
      simp only [List.set_cons_succ, e]
      rw [ih i hi hn hv]
theorem dxs_set {T : List Tx} {vs : List Value} {fl : List Bool} (k : Nat) (h1 : k < (dxs T vs fl).length) (b : Bool) : (dxs T vs fl).set k ((dxs T vs fl)[k].1, (dxs T vs fl)[k].2.1, b) = dxs T vs (fl.set k b) := by
  apply List.ext_getElem
  · simp [dxs]
  · intro j h2 h3
    simp only [List.getElem_set]
    by_cases hj : k = j
    · subst hj; simp [dxs]
    · rw [if_neg hj]; simp [dxs, hj]
theorem RSegs.mark {w : World} {B : Nat} {sv : Value} {M : List RSg} (h : RSegs w B sv M) (ha : M.Pairwise fun t u => ∀ g, t.v.ownBlock = some g → u.v.ownBlock ≠ some g) (i k gd n c : Nat) (hi : i < M.length) (hk : k < M[i].T.length) (hv : M[i].v = .slice (some ⟨gd, 0, none⟩) n c) :
    RSegs (w.setCell ⟨gd, k * 3 + 2, none⟩ (.bool true)) B sv (M.set i (setFl M[i] k)) := by
  have ks : Kp [gd] w (w.setCell ⟨gd, k * 3 + 2, none⟩ (.bool true)) := kp_set w gd _ _
  have hi0 := (h.each _ (List.getElem_mem hi)).1
  have hrow := hi0.row
  have hblk : ∃ cur, w.heap[gd]? = some (.cells cur 266 (0, 0)) := by
    rcases hrow.2 with ⟨h1, _⟩ | ⟨g, cap, cur, h1, _, hb, _⟩
    · rw [hv] at h1; cases h1
    · rw [hv] at h1; cases h1; exact ⟨cur, hb⟩
  obtain ⟨cur, hblk⟩ := hblk
  have far : ∀ {e : TypeId} {size m : Nat} {u : Value} {xs : List Value}, e ≠ 266 → w.ownsRow B e size u m xs → (w.setCell ⟨gd, k * 3 + 2, none⟩ (.bool true)).ownsRow B e size u m xs := fun he hu => ks.owns hu (fun gg hgg hx => by
    simp at hx; subst hx
    exact owns_ne_type hu hblk he hgg)
  refine ⟨?_, fun t ht => ?_⟩
  · rw [List.length_set, sg2_set M i (setFl M[i] k) hi rfl rfl]
    exact far (by decide) h.row
  · obtain ⟨j, hj, rfl⟩ := List.mem_iff_getElem.1 ht
    simp only [List.length_set] at hj
    by_cases hij : i = j
    · subst hij
      simp only [List.getElem_set_self]
      refine ⟨⟨hi0.len, by simp [setFl, hi0.flen], ?_, fun q h1 h2 => far (by decide) (hi0.each q h1 h2)⟩, (h.each _ (List.getElem_mem hi)).2⟩
      have hdl : k < (dxs M[i].T M[i].vs M[i].fl).length := by rw [dxs_len hi0.len hi0.flen]; exact hk
      show World.ownsRow _ B 266 3 M[i].v M[i].T.length (tx3d (dxs M[i].T M[i].vs (M[i].fl.set k true)))
      rw [← dxs_set k hdl true, tx3d_set _ k hdl true]
      have hn : n = M[i].T.length := by
        obtain ⟨a, c', e, _⟩ := owns_forms hrow
        rw [hv] at e; cases e; rfl
      rw [hv] at hrow ⊢
      subst hn
      exact owns_set hrow (by omega) _
    · simp only [List.getElem_set_ne hij]
      refine ⟨(h.each _ (List.getElem_mem hj)).1.kp ks (fun x hx e => ?_) (fun u hu x hx e => ?_), (h.each _ (List.getElem_mem hj)).2⟩
      · simp at hx; subst hx
        have hpw := List.pairwise_iff_getElem.1 ha
        rcases Nat.lt_or_gt_of_ne hij with h1 | h1
        · exact hpw i j hi hj h1 x (by rw [hv]; rfl) e
        · exact hpw j i hj hi h1 x e (by rw [hv]; rfl)
      · simp at hx; subst hx
        obtain ⟨q, hq, rfl⟩ := List.mem_iff_getElem.1 hu
        have hm := (h.each _ (List.getElem_mem hj)).1
        exact owns_ne_type (hm.each q (by rw [← hm.len]; exact hq) hq) hblk (by decide) e
end Go.Proofs.YtpdoacfiiledcaaGreatDoor.Pak

