import Derived.Test.YtpdoacfiiledcaaGreatDoorV09
import Derived.Test.YtpdoacfiiledcaaGreatDoorV14
import Derived.BigQuiet
import Derived.Deep.QuietTactic

namespace Go.Proofs.YtpdoacfiiledcaaGreatDoor.Own
open Go.RowKit Go.Proofs.YtpdoacfiiledcaaGreatDoor
open Go.Proofs.YtpdoacfiiledcaaGreatDoor.Spl
set_option linter.unusedVariables false

def blks (vs : List Value) : List Nat := vs.flatMap fun u => u.ownBlock.toList
/-- Where the rounds over the words stand. -/
structure Rnd (w wr : World) (P : Nat) (L : Ls) (vs : List Value) (i : Nat) (X : List E1) (v2 : Value) : Prop where
  len : X.length = i
  inv : Inv wr P { L with F2 := L.F2 ++ X, v2 := v2 }
  kp : Kp (P :: (L.v2.ownBlock.toList ++ blks (vs.take i))) w wr
  loc : ∀ g, v2.ownBlock = some g → L.v2.ownBlock = some g ∨ w.heap.size ≤ g
  av : ∀ k (h : k < vs.length), i ≤ k → Av (L.F2 ++ X) vs[k].ownBlock
theorem blks_mem {vs : List Value} {i x : Nat} (h : x ∈ blks (vs.take i)) : ∃ j, ∃ hj : j < vs.length, j < i ∧ vs[j].ownBlock = some x := by
  unfold blks at h
  obtain ⟨u, hu, hx⟩ := List.mem_flatMap.1 h
  obtain ⟨j, hj, rfl⟩ := List.getElem_of_mem hu
  rw [List.length_take] at hj
  refine ⟨j, by omega, by omega, ?_⟩
  rw [List.getElem_take] at hx
  simpa using hx
theorem blks_succ {vs : List Value} {i : Nat} (h : i < vs.length) : blks (vs.take (i + 1)) = blks (vs.take i) ++ vs[i].ownBlock.toList := by
  unfold blks
  rw [List.take_succ_eq_append_getElem h, List.flatMap_append]
  simp
/-- The texts' row and the words that are still to come are as they were. -/
theorem rnd_row {w wr : World} {P base i : Nat} {L : Ls} {v : Value} {T : List (Nat × List (List UInt8))} {vs X : List _} {v2 : Value} (hI : Inv w P L) (ht : Pak.TextsIs w base v T vs) (h : Rnd w wr P L vs i X v2) : wr.ownsRow base 226 2 v T.length (Pak.tx2 ((T.map Prod.fst).zip vs)) := by
  refine h.kp.owns ht.row (fun g hg hx => ?_)
  obtain ⟨cs, fz, hh⟩ := own_kindG ht.row g hg
  rcases List.mem_cons.1 hx with rfl | hx
  · rw [hI.hP] at hh; simp at hh
  · rcases List.mem_append.1 hx with hx | hx
    · obtain ⟨cs', fz', hh'⟩ := own_kindG hI.r2.1 g (by simpa using hx)
      rw [hh] at hh'; simp at hh'
    · obtain ⟨j, hj, _, hjg⟩ := blks_mem hx
      obtain ⟨cs', fz', hh'⟩ := own_kindG (ht.each j (by rw [← ht.len]; exact hj) hj) g hjg
      rw [hh] at hh'; simp at hh'
theorem rnd_each {w wr : World} {P base i : Nat} {L : Ls} {v : Value} {T : List (Nat × List (List UInt8))} {vs X : List _} {v2 : Value} (hI : Inv w P L) (ht : Pak.TextsIs w base v T vs) (h : Rnd w wr P L vs i X v2) (hi : i < T.length) (hi2 : i < vs.length) : wr.ownsRow base 9 1 vs[i] T[i].2.length (strV T[i].2) := by
  refine h.kp.owns (ht.each i hi hi2) (fun g hg hx => ?_)
  obtain ⟨cs, fz, hh⟩ := own_kindG (ht.each i hi hi2) g hg
  rcases List.mem_cons.1 hx with rfl | hx
  · rw [hI.hP] at hh; simp at hh
  · rcases List.mem_append.1 hx with hx | hx
    · obtain ⟨cs', fz', hh'⟩ := own_kindG hI.r2.1 g (by simpa using hx)
      rw [hh] at hh'; simp at hh'
    · obtain ⟨j, hj, hji, hjg⟩ := blks_mem hx
      exact ht.apart j i hj hi2 hji g hjg hg
theorem rnd_below {w wr : World} {P base i : Nat} {L : Ls} {v : Value} {T : List (Nat × List (List UInt8))} {vs X : List _} {v2 : Value} (hI : Inv w P L) (hP : P ≤ base) (ht : Pak.TextsIs w base v T vs) (h : Rnd w wr P L vs i X v2) : Below P w wr := by
  refine h.kp.below (Nat.le_of_lt (lt_of_heap hI.hP)) (fun x hx => ?_)
  rcases List.mem_cons.1 hx with rfl | hx
  · exact Nat.le_refl _
  · rcases List.mem_append.1 hx with hx | hx
    · have := (hI.r2.1.lt x (by simpa using hx)).1; omega
    · obtain ⟨j, hj, hji, hjg⟩ := blks_mem hx
      have := ((ht.each j (by rw [← ht.len]; exact hj) hj).lt x hjg).1; omega
/-- One round. -/
theorem Rnd.step {w wr w' : World} {P base i : Nat} {L : Ls} {v : Value} {T : List (Nat × List (List UInt8))} {vs : List Value} {X : List E1} {v2 v' : Value} {x : E1} (ht : Pak.TextsIs w base v T vs) (h : Rnd w wr P L vs i X v2) (hi2 : i < vs.length)
    (hinv : Inv w' P { ({ L with F2 := L.F2 ++ X, v2 := v2 } : Ls) with F2 := (L.F2 ++ X) ++ [x], v2 := v' })
    (hloc : ∀ u ∈ [x.l, x.o, x.t, x.h], ∀ g, u.ownBlock = some g → vs[i].ownBlock = some g ∨ wr.heap.size ≤ g) (hlv : ∀ g, v'.ownBlock = some g → v2.ownBlock = some g ∨ wr.heap.size ≤ g)
    (hk : Kp (P :: (vs[i].ownBlock.toList ++ v2.ownBlock.toList)) wr w') : Rnd w w' P L vs (i + 1) (X ++ [x]) v' := by
  have hsz := h.kp.size
  refine ⟨by rw [List.length_append, h.len]; rfl, by rw [← List.append_assoc]; exact hinv, ?_, ?_, ?_⟩
  · refine (h.kp.mono ?_).trans hk ?_
    · intro y hy
      rw [blks_succ hi2]
      rcases List.mem_cons.1 hy with rfl | hy
      · simp
      · rcases List.mem_append.1 hy with hy | hy
        · simp at hy; simp [hy]
        · exact List.mem_cons_of_mem _ (List.mem_append_right _ (List.mem_append_left _ hy))
    · intro y hy
      rw [blks_succ hi2]
      rcases List.mem_cons.1 hy with rfl | hy
      · exact .inl (by simp)
      · rcases List.mem_append.1 hy with hy | hy
        · exact .inl (List.mem_cons_of_mem _ (List.mem_append_right _ (List.mem_append_right _ hy)))
        · rcases h.loc y (by simpa using hy) with hh | hh
          · exact .inl (List.mem_cons_of_mem _ (List.mem_append_left _ (by simpa using hh)))
          · exact .inr hh
  · intro g hg
    rcases hlv g hg with hh | hh
    · exact h.loc g hh
    · exact .inr (by omega)
  · intro k hk' hik
    rw [← List.append_assoc]
    refine (h.av k hk' (by omega)).snoc (fun b hb u hu hub => ?_)
    have hkT : k < T.length := by rw [← ht.len]; exact hk'
    have hbl := ((ht.each k hkT hk').lt b hb).2
    rcases hloc u hu b hub with hh | hh
    · exact ht.apart i k hi2 hk' (by omega) b hh hb
    · omega
end Go.Proofs.YtpdoacfiiledcaaGreatDoor.Own

namespace Go.Proofs.YtpdoacfiiledcaaGreatDoor.Own
open Go.RowKit Go.Proofs.YtpdoacfiiledcaaGreatDoor
open Go.Proofs.YtpdoacfiiledcaaGreatDoor.Spl
set_option linter.unusedVariables false

theorem tx2_at : ∀ (xs : List (Nat × Value)) (i : Nat) (h : i < xs.length), (Pak.tx2 xs)[i * 2]? = some (.int .i64 (xs[i].1 : Int)) ∧ (Pak.tx2 xs)[i * 2 + 1]? = some xs[i].2
  | x :: r, 0, h => by simp [Pak.tx2]
  | x :: r, i + 1, h => by
    have ih := tx2_at r i (by simpa using h)
    have e : Pak.tx2 (x :: r) = .int .i64 (x.1 : Int) :: x.2 :: Pak.tx2 r := by simp [Pak.tx2]
    rw [e, show (i + 1) * 2 = i * 2 + 2 by omega]
    simpa using ih
theorem words_cell {w : World} {base g n cap i : Nat} {T : List (Nat × List (List UInt8))} {vs : List Value} (h : w.ownsRow base 226 2 (.slice (some ⟨g, 0, none⟩) n cap) n (Pak.tx2 ((T.map Prod.fst).zip vs))) (hn : T.length = n) (hv : vs.length = n) (hi : i < n) (hi2 : i < vs.length) : w.cell? ⟨g, i * 2 + 1, none⟩ = some vs[i] := by
  rw [h.cellAt (i * 2 + 1) (by omega)]
  have hl : i < ((T.map Prod.fst).zip vs).length := by simp; omega
  rw [(tx2_at _ i hl).2]
  simp

theorem fb {A n i C : Nat} (h : (A + n + 1) * 104 ≤ C) (hi : i < n) : (A + i + 1) * 104 ≤ C := Nat.le_trans (Nat.mul_le_mul_right 104 (Nat.succ_le_succ (Nat.add_le_add_left (Nat.le_of_lt hi) A))) h

set_option maxHeartbeats 1000000 in
set_option maxRecDepth 100000 in
theorem text_any5 (B P base : Nat) (L : Ls) (v : Value) (T : List (Nat × List (List UInt8))) (vs : List Value) (w0 w : World) (hI0 : Inv w0 P L) (hb : Below w0.heap.size w0 w) (hbase : w0.heap.size ≤ base) (hbz : base ≤ w.heap.size) (hT : Tab B w) (hB : B ≤ P)
    (hF2 : (L.F2.length + T.length + 1) * 104 ≤ 140737488355328) (hF5 : (L.F5.length + 1) * 104 ≤ 140737488355328) (hTl : T.length ≤ 1000) (hws : ∀ t ∈ T, t.2.length ≤ 900) (ht : Pak.TextsIs w base v T vs) :
    Calls Tryz.prog 87 #[.pointer (some ⟨P, 1, none⟩), v] w fun e w' => e = .returned (.tuple #[]) ∧ (∃ L', Inv w' P L' ∧ L'.F1 = L.F1 ∧ L'.F3 = L.F3 ∧ L'.F4 = L.F4 ∧ L'.pv = L.pv ∧ L'.F2.length = L.F2.length + T.length ∧ L'.F5.length = L.F5.length + 1) ∧ Below P w w' := by
  obtain ⟨i0, hi, hz0, hz1, hz2⟩ := info_parts Tryz.info119o
  obtain ⟨a, cap, rfl, ha⟩ := owns_forms ht.row
  have hPlt := lt_of_heap hI0.hP
  have hI := hI0.later hb
  have hR0 : Rnd w w P L vs 0 [] L.v2 := ⟨rfl, by simpa using hI, Pak.Kp.refl _ _, fun g hg => .inl hg, fun k hk _ => by
    rw [List.append_nil]
    exact av_fresh2 hI0 _ (fun b hb' => by have := ((ht.each k (by rw [← ht.len]; exact hk) hk).lt b hb').1; omega)⟩
  have hav5 : Av L.F5 (Value.slice a T.length cap).ownBlock := av_fresh5 hI0 _ (fun b hb' => by have := (ht.row.lt b hb').1; omega)
  have hlv := ht.len
  obtain ⟨n, hn⟩ : ∃ n, T.length = n := ⟨_, rfl⟩
  rw [hn] at hlv ha hF2 hTl
  have HR0 := hide hR0
  have HA5 := hide hav5
  have HI := hide hI
  have HT := hide hT
  have HTX := hide ht
  have HN := hide hn
  have HW := hide hws
  have Hl := hide hlv
  rw [hn]
  clear hR0 hav5 hI hT ht hws hI0 hn hlv
  go_enter Tryz.func87, Tryz.ntmps87
  go_wp2_with fail
  go_loopw [4] (fun iv wr => ∃ (i : Nat) (X : List E1) (v2 : Value), i ≤ n ∧ iv = .int .i64 i ∧ Hid (Rnd w wr P L vs i X v2)) (fun iv _ => n - (intOf iv).toNat)
  case atStart => exact ⟨0, [], L.v2, Nat.zero_le _, rfl, HR0⟩
  case round =>
    obtain ⟨i, X, v2, hin, rfl, HR⟩ := hrel
    by_cases hlt : i < n
    · obtain ⟨g, rfl⟩ := ha (by omega)
      have hi2 : i < vs.length := by rw [Hl.out]; exact hlt
      have hiT : i < T.length := by rw [HN.out]; exact hlt
      have hrow := rnd_row HI.out HTX.out HR.out
      rw [HN.out] at hrow
      have hcell := words_cell hrow HN.out Hl.out hlt hi2
      have heach := rnd_each HI.out HTX.out HR.out hiT hi2
      obtain ⟨aw, cw, hvw, _⟩ := owns_forms heach
      have hwn : T[i].2.length ≤ 900 := HW.out _ (List.getElem_mem hiT)
      have hbel := rnd_below HI.out (Nat.le_trans (Nat.le_of_lt hPlt) hbase) HTX.out HR.out
      have hTr := tab_on HT.out (hbel.mono hB)
      have hszr := HR.out.kp.size
      have hlenX : (L.F2 ++ X).length = L.F2.length + i := by rw [List.length_append, HR.out.len]
      have hF' : ((L.F2 ++ X).length + 1) * 104 ≤ 140737488355328 := by rw [hlenX]; exact fb hF2 hlt
      have hS := string_any6 B P base T[i].2.length { L with F2 := L.F2 ++ X, v2 := v2 } vs[i] _ wr HR.out.inv (HR.out.av i hi2 (Nat.le_refl _)) hTr (Nat.le_trans hB (Nat.le_trans (Nat.le_of_lt hPlt) hbase)) (Nat.le_trans hbz hszr) hF' hwn heach
      have HS := hide hS
      have h1 : (i : Int) < (n : Int) := by omega
      have h0 : (0 : Int) ≤ (i : Int) := by omega
      have hvi : ∃ vi, vs[i] = vi := ⟨_, rfl⟩
      clear hrow heach hwn hbel hTr hlenX hS
      rw [hvw] at hcell
      have HVW := hide hvw
      clear hvw hvi
      go_wp2_with fail
      rw [← HVW.out]
      refine HS.out.mono ?_
      rintro e w' ⟨rfl, x, v', hinv, _, hloc, hlv', hk'⟩
      have HST := hide (HR.out.step HTX.out hi2 hinv hloc hlv' hk')
      clear hinv hloc hlv' hk' HS
      go_wp2_with fail
      exact ⟨⟨i + 1, X ++ [x], v', by omega, by go_num, HST⟩, by simp [intOf]; omega⟩
    · have hjn : n = i := by omega
      subst hjn
      have hrow := rnd_row HI.out HTX.out HR.out
      rw [HN.out] at hrow
      have hbel := rnd_below HI.out (Nat.le_trans (Nat.le_of_lt hPlt) hbase) HTX.out HR.out
      have hIr := HR.out.inv
      have hszr := HR.out.kp.size
      have hlenX : (L.F2 ++ X).length = L.F2.length + n := by rw [List.length_append, HR.out.len]
      obtain ⟨a5, c5, hv5, _⟩ := owns_forms hIr.r5.1
      obtain ⟨hc5, hf5⟩ := inv_c5 hIr
      obtain ⟨nF, hnF⟩ : ∃ nF, L.F5.length = nF := ⟨_, rfl⟩
      have hv5' : L.v5 = .slice a5 nF c5 := by rw [← hnF]; exact hv5
      replace hc5 : wr.cell? ⟨P, 5, none⟩ = some (.slice a5 nF c5) := by rw [← hv5']; exact hc5
      rw [hnF] at hF5
      have HOT := hide (ownT_any base n nF (.slice a n cap) _ wr (by omega) (Nat.le_trans hbz hszr) (by omega) hrow)
      have HROW := hide hrow
      have HBEL := hide hbel
      have HIR := hide hIr
      have HNF := hide hnF
      have HV5 := hide hv5'
      have HLX := hide hlenX
      clear hrow hbel hIr hnF hv5 hv5' hlenX
      go_wp2_with fail
      refine HOT.out.mono ?_
      rintro e w1 ⟨o, t, h, rfl, hk, hb1⟩
      obtain ⟨ao, co, rfl, _⟩ := id hk.fb
      obtain ⟨at', ct, rfl, _⟩ := id hk.fc
      obtain ⟨ah, ch, rfl, _⟩ := id hk.fd
      have hA5 : Av L.F5 (Value.slice a n cap).ownBlock := by have := HA5.out; rw [HN.out] at this; exact this
      have hI2 := HIR.out.own194 HROW.out hb1 hA5
      obtain ⟨d2, e2⟩ := inv_c5 hI2
      replace d2 : w1.cell? ⟨P, 5, none⟩ = some (.slice a5 nF c5) := by rw [← HV5.out]; exact d2
      have hz := hb1.size
      have hP1 : P < w1.heap.size := Nat.lt_of_lt_of_le hPlt (Nat.le_trans hbase (Nat.le_trans (Nat.le_trans hbz hszr) hz))
      have hownv : Hid (w1.ownsRow (P + 1) 119 5 (.slice a5 nF c5) nF (rowV L.F5)) := by
        show World.ownsRow _ _ _ _ _ _ _
        have := hI2.r5.1
        rw [← HV5.out, ← HNF.out]; exact this
      have hne : some P ≠ (Value.slice a5 nF c5).ownBlock := inv_ne hownv.out
      have HI2 := hide hI2
      have HK := hide hk
      have HB1 := hide hb1
      clear hI2 hk hb1 hc5 hf5 HOT hz hszr hA5
      go_wp2_with fail
      go_region_law ((refine step_append_lies _ (by rfl) _ _ _ (by rfl) (P + 1) 119 i0 _ 5 104 Tryz.underlying60 hi hz0 hz1 hz2 rfl (by omega) (.slice a5 nF c5) nF (rowV L.F5) (by rfl) (((hownv.out.alloc _).alloc _).drew) ⟨w1.heap.size + 1, 0, none⟩ 1 1 [.slice a n cap, .slice ao (n + 1) co, .slice at' (n + 2) ct, .slice ah (n + 3) ch, .int .i64 (nF : Int)] (by rfl) (by rfl) (World.news_of_block (cs := #[.slice a n cap, .slice ao (n + 1) co, .slice at' (n + 2) ct, .slice ah (n + 3) ch, .int .i64 (nF : Int)]) (t := 119) (fr := (0, 0)) (heap_two w1 _ _)) (by simp [Value.oneCell']) (by omega) (by unfold maxLen; omega) (by omega) (by simp; omega) (w1.heap.size + 2) (by simp) ?_; intro g cap2 w2 hown2 hgrow hat hlt1; obtain ⟨d3, e3⟩ := far2G 5 hP1 hne hgrow d2 e2))
      all_goals
        go_wp2_with fail
        go_end0
        have hgrow' := hgrow
        rw [← HV5.out] at hgrow'
        have hpush := (HI2.out.later (two_below w1 _ _)).push5 (x := ⟨.slice a n cap, .slice ao (n + 1) co, .slice at' (n + 2) ct, .slice ah (n + 3) ch, n⟩) hgrow' (by show K5 _ _ L.F5.length; rw [HNF.out]; exact ⟨HK.out.later (two_below w1 _ _), by show n ≤ _; omega⟩) (by show World.ownsRow _ _ _ _ _ (L.F5.length + 1) (rowV L.F5 ++ oneV _ L.F5.length); rw [HNF.out]; exact hown2)
        refine ⟨rfl, ⟨_, hpush, rfl, rfl, rfl, rfl, HLX.out, by show (L.F5 ++ [_]).length = _; rw [List.length_append]; rfl⟩, ?_⟩
        have hb5 : Below P wr w1 := HB1.out.below (Nat.le_of_lt (Nat.lt_of_lt_of_le hPlt (Nat.le_trans (Nat.le_trans hbase hbz) HR.out.kp.size))) (fun x hx => by have := (HROW.out.lt x (by simpa using hx)).1; omega)
        have hbel : Below P w w2 := ((HBEL.out.trans hb5).trans ((two_below w1 _ _).mono (Nat.le_of_lt hP1))).grown hgrow (by show P ≤ ((w1.alloc _).alloc _).heap.size; simp; omega) (fun k hk => by have := (hownv.out.lt k hk).1; omega)
        exact hbel.setCell (p := ⟨P, 5, none⟩) (Nat.le_refl P) _
end Go.Proofs.YtpdoacfiiledcaaGreatDoor.Own

namespace Go.Proofs.YtpdoacfiiledcaaGreatDoor.Own
open Go.RowKit Go.Proofs.YtpdoacfiiledcaaGreatDoor
open Go.Proofs.YtpdoacfiiledcaaGreatDoor.Spl
set_option linter.unusedVariables false

theorem inv_cs {w : World} {P : Nat} {L : Ls} (h : Inv w P L) : w.cell? ⟨P, 1, none⟩ = some L.v1 ∧ w.cell? ⟨P, 2, none⟩ = some L.v2 ∧ w.cell? ⟨P, 3, none⟩ = some L.v3 ∧ w.cell? ⟨P, 4, none⟩ = some L.v4 ∧ w.cell? ⟨P, 5, none⟩ = some L.v5 := by
  simp [World.cell?, h.hP]
theorem row_cells {T : TypeId} {K : World → E1 → Nat → Prop} {w : World} {P g cap k n : Nat} {F : List E1} {x : E1} (h : Row T K w P F (.slice (some ⟨g, 0, none⟩) n cap)) (hn : F.length = n) (hk : F[k]? = some x) :
    w.cell? ⟨g, k * 5, none⟩ = some x.l ∧ w.cell? ⟨g, k * 5 + 1, none⟩ = some x.o ∧ w.cell? ⟨g, k * 5 + 2, none⟩ = some x.t ∧ w.cell? ⟨g, k * 5 + 3, none⟩ = some x.h ∧ w.cell? ⟨g, k * 5 + 4, none⟩ = some (.int .i64 (k : Int)) := by
  have hlt : k < F.length := by
    rcases Nat.lt_or_ge k F.length with h' | h'
    · exact h'
    · rw [List.getElem?_eq_none h'] at hk; simp at hk
  have h1 := h.1
  rw [hn] at h1
  have key : ∀ j, j < 5 → w.cell? ⟨g, k * 5 + j, none⟩ = (oneV x (0 + k))[j]? := fun j hj => by
    rw [h1.cellAt (k * 5 + j) (by omega)]
    exact rowF_get F k 0 x hk j hj
  have k0 := key 0 (by omega)
  have k1 := key 1 (by omega)
  have k2 := key 2 (by omega)
  have k3 := key 3 (by omega)
  have k4 := key 4 (by omega)
  rw [Nat.zero_add] at k4
  exact ⟨k0, k1, k2, k3, k4⟩
theorem row_some {T : TypeId} {K : World → E1 → Nat → Prop} {w : World} {P n cap k : Nat} {a : Option Addr} {F : List E1} (h : Row T K w P F (.slice a n cap)) (hn : F.length = n) (hk : k < n) : (∃ x, F[k]? = some x) ∧ ∃ g, a = some ⟨g, 0, none⟩ := by
  refine ⟨⟨_, List.getElem?_eq_getElem (by omega)⟩, ?_⟩
  rcases h.1.2 with ⟨h', h0⟩ | ⟨g, cap', cur, h', _⟩
  · omega
  · cases h'; exact ⟨g, rfl⟩

set_option maxHeartbeats 2000000 in
set_option maxRecDepth 100000 in
theorem looks_any5 (B P : Nat) (L : Ls) (w : World) (hI : Inv w P L) (e1 : L.F1 = []) (e4 : L.F4 = []) (hT : Tab B w) (hB : B ≤ w.heap.size) (hF2 : L.F2.length ≤ 4611686018427387903) (hF3 : L.F3.length ≤ 4611686018427387903) (hF5 : L.F5.length ≤ 4611686018427387903) :
    Calls Tryz.prog 25 #[.pointer (some ⟨P, 1, none⟩)] w fun e w' => e = .returned (.bool true) ∧ Below w.heap.size w w' := by
  obtain ⟨a1, p1, v1, _⟩ := owns_forms hI.r1.1
  obtain ⟨a2, p2, v2, _⟩ := owns_forms hI.r2.1
  obtain ⟨a3, p3, v3, _⟩ := owns_forms hI.r3.1
  obtain ⟨a4, p4, v4, _⟩ := owns_forms hI.r4.1
  obtain ⟨a5, p5, v5, _⟩ := owns_forms hI.r5.1
  rw [e1] at v1
  rw [e4] at v4
  obtain ⟨n2, hn2⟩ : ∃ n, L.F2.length = n := ⟨_, rfl⟩
  obtain ⟨n3, hn3⟩ : ∃ n, L.F3.length = n := ⟨_, rfl⟩
  obtain ⟨n5, hn5⟩ : ∃ n, L.F5.length = n := ⟨_, rfl⟩
  rw [hn2] at v2 hF2
  rw [hn3] at v3 hF3
  rw [hn5] at v5 hF5
  have hcs : Hid (∀ w', Below w.heap.size w w' → w'.cell? ⟨P, 1, none⟩ = some (.slice a1 0 p1) ∧ w'.cell? ⟨P, 2, none⟩ = some (.slice a2 n2 p2) ∧ w'.cell? ⟨P, 3, none⟩ = some (.slice a3 n3 p3) ∧ w'.cell? ⟨P, 4, none⟩ = some (.slice a4 0 p4) ∧ w'.cell? ⟨P, 5, none⟩ = some (.slice a5 n5 p5)) := fun w' hb => by
    have := inv_cs (hI.later hb)
    rw [v1, v2, v3, v4, v5] at this
    exact this
  have H2 : Hid (∀ w', Below w.heap.size w w' → Row 111 K2 w' P L.F2 (.slice a2 n2 p2)) := fun w' hb => by rw [← v2]; exact (hI.later hb).r2
  have H3 : Hid (∀ w', Below w.heap.size w w' → Row 114 K3 w' P L.F3 (.slice a3 n3 p3)) := fun w' hb => by rw [← v3]; exact (hI.later hb).r3
  have H5 : Hid (∀ w', Below w.heap.size w w' → Row 119 K5 w' P L.F5 (.slice a5 n5 p5)) := fun w' hb => by rw [← v5]; exact (hI.later hb).r5
  have N2 := hide hn2
  have N3 := hide hn3
  have N5 := hide hn5
  have HT := hide hT
  clear hI v1 v2 v3 v4 v5 hn2 hn3 hn5 hT e1 e4
  obtain ⟨c1, c2, c3, c4, c5⟩ := hcs.out w (Below.refl _ _)
  go_enter Tryz.func25, Tryz.ntmps25
  go_wp2_with fail
  refine wp_loop_rounds 1 ?_
  rw [rounds_succ]
  go_wp2_with fail
  clear c1 c2 c3 c4 c5
  go_loopw [3, 6] (fun o i wr => ∃ k : Nat, k ≤ n2 ∧ i = .int .i64 k ∧ o = .bool true ∧ Below w.heap.size w wr) (fun _ i _ => n2 - (intOf i).toNat)
  case atStart => exact ⟨0, Nat.zero_le _, rfl, rfl, Below.refl _ _⟩
  case round =>
    obtain ⟨k, hk, rfl, rfl, hb⟩ := hrel
    have hbz := hb.size
    obtain ⟨c1, c2, c3, c4, c5⟩ := hcs.out wr hb
    by_cases hlt : k < n2
    · have hrow := H2.out wr hb
      obtain ⟨⟨x, hx⟩, g, rfl⟩ := row_some hrow N2.out hlt
      obtain ⟨r0, r1, r2, r3, r4⟩ := row_cells hrow N2.out hx
      have hkept := hide (hrow.2 k x hx)
      have hT1 := hide (tab_on HT.out (hb.mono hB))
      have h1 : (k : Int) < (n2 : Int) := by omega
      have h0 : (0 : Int) ≤ (k : Int) := by omega
      clear hrow hx c1 c3 c4 c5
      go_wp2_with fail
      refine (still_any B x.n k x.l x.o x.t x.h _ (by omega) hT1.out (by omega) hkept.out).mono ?_
      rintro e w1 ⟨rfl, hb1⟩
      go_wp2_with fail
      exact ⟨⟨k + 1, by omega, by go_num, rfl, hb.trans (hb1.mono hbz)⟩, by simp [intOf]; omega⟩
    · clear c1 c4 c5
      go_wp2_with fail
      clear c2 c3
      go_loopw [3, 8] (fun o i w2 => ∃ k : Nat, k ≤ n3 ∧ i = .int .i64 k ∧ o = .bool true ∧ Below w.heap.size w w2) (fun _ i _ => n3 - (intOf i).toNat)
      case atStart => exact ⟨0, Nat.zero_le _, rfl, rfl, hb⟩
      case round =>
        obtain ⟨k3, hk3, rfl, rfl, hb3⟩ := hrel
        have hbz3 := hb3.size
        obtain ⟨c1, c2, c3, c4, c5⟩ := hcs.out wr hb3
        by_cases hlt3 : k3 < n3
        · have hrow := H3.out wr hb3
          obtain ⟨⟨x, hx⟩, g, rfl⟩ := row_some hrow N3.out hlt3
          obtain ⟨r0, r1, r2, r3, r4⟩ := row_cells hrow N3.out hx
          have hkept := hide (hrow.2 k3 x hx)
          have h1 : (k3 : Int) < (n3 : Int) := by omega
          have h0 : (0 : Int) ≤ (k3 : Int) := by omega
          clear hrow hx c1 c2 c4 c5
          go_wp2_with fail
          refine (stillB_any x.n k3 x.l x.o x.t x.h _ (by omega) hkept.out.2 hkept.out.1).mono ?_
          rintro e w1 ⟨rfl, hb1⟩
          go_wp2_with fail
          exact ⟨⟨k3 + 1, by omega, by go_num, rfl, hb3.trans (hb1.mono hbz3)⟩, by simp [intOf]; omega⟩
        · clear c1 c2
          go_wp2_with fail
          refine wp_loop_rounds 1 ?_
          rw [rounds_succ]
          go_wp2_with fail
          clear c3 c4 c5
          go_loopw [3, 12] (fun o i w3 => ∃ k : Nat, k ≤ n5 ∧ i = .int .i64 k ∧ o = .bool true ∧ Below w.heap.size w w3) (fun _ i _ => n5 - (intOf i).toNat)
          case atStart => exact ⟨0, Nat.zero_le _, rfl, rfl, hb3⟩
          case round =>
            obtain ⟨k5, hk5, rfl, rfl, hb5⟩ := hrel
            have hbz5 := hb5.size
            obtain ⟨c1, c2, c3, c4, c5⟩ := hcs.out wr hb5
            by_cases hlt5 : k5 < n5
            · have hrow := H5.out wr hb5
              obtain ⟨⟨x, hx⟩, g, rfl⟩ := row_some hrow N5.out hlt5
              obtain ⟨r0, r1, r2, r3, r4⟩ := row_cells hrow N5.out hx
              have hkept := hide (hrow.2 k5 x hx)
              have h1 : (k5 : Int) < (n5 : Int) := by omega
              have h0 : (0 : Int) ≤ (k5 : Int) := by omega
              clear hrow hx c1 c2 c3 c4
              go_wp2_with fail
              refine (stillT_any x.n k5 x.l x.o x.t x.h _ (by omega) hkept.out.2 hkept.out.1).mono ?_
              rintro e w1 ⟨rfl, hb1⟩
              go_wp2_with fail
              exact ⟨⟨k5 + 1, by omega, by go_num, rfl, hb5.trans (hb1.mono hbz5)⟩, by simp [intOf]; omega⟩
            · clear c1 c2 c3 c4
              go_wp2_with fail
              go_ret
              exact ⟨rfl, hb5⟩
end Go.Proofs.YtpdoacfiiledcaaGreatDoor.Own

namespace Go.Proofs.YtpdoacfiiledcaaGreatDoor.Own
open Go.RowKit Go.Proofs.YtpdoacfiiledcaaGreatDoor
open Go.Proofs.YtpdoacfiiledcaaGreatDoor.Spl
set_option linter.unusedVariables false

/-- Texts that lie in memory: their row, and the words of each. -/
structure TxAt (w : World) (base : Nat) (v : Value) (T : List (Nat × List (List UInt8))) (vs : List Value) : Prop where
  len : vs.length = T.length
  row : w.ownsRow base 226 2 v T.length (Pak.tx2 ((T.map Prod.fst).zip vs))
  each : ∀ i (h : i < T.length) (h2 : i < vs.length), w.ownsRow base 9 1 vs[i] T[i].2.length (strV T[i].2)
theorem TxAt.later {w w' : World} {base : Nat} {v : Value} {T : List (Nat × List (List UInt8))} {vs : List Value} (h : TxAt w base v T vs) (hb : Below w.heap.size w w') : TxAt w' base v T vs :=
  ⟨h.len, owns_below h.row hb, fun i h1 h2 => owns_below (h.each i h1 h2) hb⟩
theorem id_cell {w : World} {base g n cap i : Nat} {T : List (Nat × List (List UInt8))} {vs : List Value} (h : w.ownsRow base 226 2 (.slice (some ⟨g, 0, none⟩) n cap) n (Pak.tx2 ((T.map Prod.fst).zip vs))) (hn : T.length = n) (hv : vs.length = n) (hi : i < n) (hi2 : i < T.length) : w.cell? ⟨g, i * 2, none⟩ = some (.int .i64 (T[i].1 : Int)) := by
  rw [h.cellAt (i * 2) (by omega)]
  have hl : i < ((T.map Prod.fst).zip vs).length := by simp; omega
  rw [(tx2_at _ i hl).1]
  simp

set_option maxHeartbeats 1000000 in
set_option maxRecDepth 100000 in
theorem sameT_any (b1 b2 : Nat) (v1 v2 : Value) (T : List (Nat × List (List UInt8))) (vs1 vs2 : List Value) (w : World) (hTl : T.length ≤ 1000) (hws : ∀ t ∈ T, t.2.length ≤ 900) (h1 : TxAt w b1 v1 T vs1) (h2 : TxAt w b2 v2 T vs2) :
    Calls Tryz.prog 86 #[v1, v2] w fun e w' => e = .returned (.bool true) ∧ Below w.heap.size w w' := by
  obtain ⟨a1, c1, rfl, g1⟩ := owns_forms h1.row
  obtain ⟨a2, c2, rfl, g2⟩ := owns_forms h2.row
  obtain ⟨n, hn⟩ : ∃ n, T.length = n := ⟨_, rfl⟩
  rw [hn] at hTl g1 g2
  have HN := hide hn
  have H1 := hide h1
  have H2 := hide h2
  have HW := hide hws
  rw [hn]
  clear hn h1 h2 hws
  go_enter Tryz.func86, Tryz.ntmps86
  go_wp2_with fail
  go_loopw [5] (fun iv wr => ∃ i : Nat, i ≤ n ∧ iv = .int .i64 i ∧ Below w.heap.size w wr) (fun iv _ => n - (intOf iv).toNat)
  case atStart => exact ⟨0, Nat.zero_le _, rfl, Below.refl _ _⟩
  case round =>
    obtain ⟨i, hin, rfl, hb⟩ := hrel
    by_cases hlt : i < n
    · obtain ⟨p, rfl⟩ := g1 (by omega)
      obtain ⟨q, rfl⟩ := g2 (by omega)
      have hiT : i < T.length := by rw [HN.out]; exact hlt
      have t1 := H1.out.later hb
      have t2 := H2.out.later hb
      have l1 : i < vs1.length := by rw [t1.len]; exact hiT
      have l2 : i < vs2.length := by rw [t2.len]; exact hiT
      have r1 := t1.row
      have r2 := t2.row
      rw [HN.out] at r1 r2
      have x1 := words_cell r1 HN.out (t1.len.trans HN.out) hlt l1
      have x2 := words_cell r2 HN.out (t2.len.trans HN.out) hlt l2
      have y1 := id_cell r1 HN.out (t1.len.trans HN.out) hlt hiT
      have y2 := id_cell r2 HN.out (t2.len.trans HN.out) hlt hiT
      obtain ⟨z1, k1, f1, _⟩ := owns_forms (t1.each i hiT l1)
      obtain ⟨z2, k2, f2, _⟩ := owns_forms (t2.each i hiT l2)
      have hp : p < w.heap.size := (H1.out.row.lt p rfl).2
      have hq : q < w.heap.size := (H2.out.row.lt q rfl).2
      have E1' := t1.each i hiT l1
      have E2' := t2.each i hiT l2
      rw [f1] at E1' x1
      rw [f2] at E2' x2
      have hS := hide (same_owned (.slice z1 T[i].2.length k1) (.slice z2 T[i].2.length k2) b1 b2 T[i].2 wr.drew (by have := HW.out _ (List.getElem_mem hiT); omega) E1' E2')
      have Y1 : Hid (∀ w', Below wr.heap.size wr w' → w'.cell? ⟨p, i * 2, none⟩ = some (.int .i64 (T[i].1 : Int)) ∧ w'.cell? ⟨q, i * 2, none⟩ = some (.int .i64 (T[i].1 : Int))) := fun w' hb' =>
        ⟨by rw [hb'.cell (p := ⟨p, i * 2, none⟩) (Nat.lt_of_lt_of_le hp hb.size)]; exact y1, by rw [hb'.cell (p := ⟨q, i * 2, none⟩) (Nat.lt_of_lt_of_le hq hb.size)]; exact y2⟩
      have hbz := hb.size
      have h1' : (i : Int) < (n : Int) := by omega
      have h0 : (0 : Int) ≤ (i : Int) := by omega
      have HB := hide hb
      generalize T[i].2.length = len at x1 x2 hS
      clear t1 t2 r1 r2 y1 y2 f1 f2 hb E1' E2'
      go_wp2_with fail
      go_region_held3 (fun w' => w'.cell? ⟨p, i * 2 + 1, none⟩ = some (.slice z1 len k1) ∧ w'.cell? ⟨q, i * 2 + 1, none⟩ = some (.slice z2 len k2)) (first | go_keep | exact ⟨s3, s4⟩) ((first | (go_at_call 73; refine hS.out.mono ?_; rintro e w1 ⟨rfl, hb1⟩; have hb2 := ((Below.refl wr.heap.size wr).drew).trans hb1; obtain ⟨s1, s2⟩ := Y1.out w1 hb2; have s3 : w1.cell? ⟨p, i * 2 + 1, none⟩ = some (.slice z1 len k1) := (by rw [hb2.cell (p := ⟨p, i * 2 + 1, none⟩) (Nat.lt_of_lt_of_le hp hbz)]; exact x1); have s4 : w1.cell? ⟨q, i * 2 + 1, none⟩ = some (.slice z2 len k2) := (by rw [hb2.cell (p := ⟨q, i * 2 + 1, none⟩) (Nat.lt_of_lt_of_le hq hbz)]; exact x2))))
      all_goals
        have HBB := hide (HB.out.trans (hb2.mono hbz))
        clear x1 x2 hS Y1 hb1 hb2 s3 s4
        go_wp2_with fail
        go_quiet (fail)
        go_wp2_with fail
        exact ⟨⟨i + 1, by omega, by go_num, HBB.out.trans ⟨rfl, rfl, rfl, Nat.le_refl _, fun _ _ => rfl⟩⟩, by simp [intOf]; omega⟩
    · go_wp2_with fail
      go_ret
      exact ⟨rfl, hb⟩
end Go.Proofs.YtpdoacfiiledcaaGreatDoor.Own
