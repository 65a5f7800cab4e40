import Derived.Test.YtpdoacfiiledcaaSplitE
import Derived.Deep.RegionHeld3
import Derived.Deep.RegionWith
namespace Go.Proofs.Ytpdoacfiiledcaa
open Go.RowKit SiftM
set_option linter.unusedVariables false

def betO : Obj := .cells (strs betL) 9
def vocO : Obj := .cells (strs vocL) 9
theorem strs_cell (l : List (List UInt8)) (j : Nat) (h : j < l.length) : (strs l)[j]? = some (.string ⟨(l.getD j []).toArray⟩) := by
  simp [strs, List.getD_eq_getElem?_getD, List.getElem?_eq_getElem h]
theorem madeW_len (code : List Int) : ∀ k, (madeW code k).length = k
  | 0 => rfl
  | k + 1 => by simp [madeW, madeW_len code k]

/-- The world behind the two lists. -/
def W2 (w : World) : World := (w.alloc betO).alloc vocO
theorem W2_size (w : World) : (W2 w).heap.size = w.heap.size + 2 := by simp [W2]
theorem W2_below (w : World) : Below w.heap.size w (W2 w) := ((Below.refl _ _).alloc (Nat.le_refl _) _).alloc (by simp) _
theorem W2_bet (w : World) (j : Nat) (h : j < 6) : (W2 w).cell? ⟨w.heap.size, j, none⟩ = some (.string ⟨(betL.getD j []).toArray⟩) := by
  unfold W2
  rw [World.cell?_alloc_past _ _ _ (by simp), betO, World.cell?_alloc_at _ _ _ _ rfl]
  exact strs_cell betL j h
theorem W2_voc (w : World) (j : Nat) (h : j < 10) : (W2 w).cell? ⟨w.heap.size + 1, j, none⟩ = some (.string ⟨(vocL.getD j []).toArray⟩) := by
  unfold W2
  rw [vocO, World.cell?_alloc_at _ _ _ _ (by simp)]
  exact strs_cell vocL j h

theorem pick_at (c : Int) (n : Nat) (hn : Hid (pickN c = n)) (w : World) (h1 : -9223372036854775808 ≤ c) (h2 : c ≤ 9223372036854775807) :
    Calls Try.prog 12 #[.int .i64 c, .int .i64 1099511627776] w fun e w' => e = .returned (.int .i64 n) ∧ w' = w := by
  rw [← hn.out]; exact pick_any c w h1 h2
theorem shown_at (ws : ByteArray) (n : Nat) (h : Int) (w : World) (hl : ws.size ≤ 100) (h0 : 0 ≤ h) (hh : h ≤ 1099511627776) (hq : h = ((n / 10 / 6 : Nat) : Int)) :
    Calls Try.prog 14 #[.string ws, .int .i64 h] w fun e w' => ∃ r : ByteArray, e = .returned (.string r) ∧ r.size ≤ ws.size ∧ ws.size ≤ r.size ∧ Hid (r = ⟨(shownL (n / 10 / 6) 0 ws.data.toList).toArray⟩) ∧ Below w.heap.size w w' := by
  refine (shown_int ws h w hl h0 hh).mono ?_
  rintro e w' ⟨rfl, hb⟩
  have e1 : h.toNat = n / 10 / 6 := by omega
  have e2 : (ByteArray.mk (shownL h.toNat 0 ws.data.toList).toArray).size = ws.size := by
    show (shownL h.toNat 0 ws.data.toList).toArray.size = _
    simp [len_shown]
  exact ⟨_, rfl, by omega, by omega, by rw [e1]; exact rfl, hb⟩

def t8 : ByteArray := ⟨#[48, 49, 50, 51, 52, 53, 54, 55]⟩
theorem ba_list (b : ByteArray) : b = ⟨b.data.toList.toArray⟩ := by simp
theorem madeP_succ (zs : List Int) (k n : Nat) (hn : pickN (zs.getD k 0) = n) : joinP (madeP zs (k + 1)) = joinP (madeP zs k) ++ ((itemP (joinP (madeP zs k)).length n).1 ++ (itemP (joinP (madeP zs k)).length n).2) := by
  rw [madeP, hn, join_snoc]
theorem madeW_succ (zs : List Int) (k n : Nat) (hn : pickN (zs.getD k 0) = n) : madeW zs (k + 1) = madeW zs k ++ [itemW (joinP (madeP zs k)).length n] := by
  rw [madeW, hn]

/-- What the round makes of the text and the word, where the run is made longer. -/
theorem round_ext (zs : List Int) (k n : Nat) (bs ss ws r : ByteArray) (hn : pickN (zs.getD k 0) = n) (hb : bs = ⟨(joinP (madeP zs k)).toArray⟩)
    (hs : ss = ⟨(sOf n).toArray⟩) (hw : ws = ⟨(wOf n).toArray⟩) (hr : r = ⟨(shownL (n / 10 / 6) 0 ws.data.toList).toArray⟩)
    (h1 : n / 10 / 18 % 9 = 8) (h2 : bs.size + ss.size + ws.size < 60) :
    bs ++ ss ++ r ++ ⟨#[48, 49, 50, 51, 52, 53, 54, 55]⟩ = ⟨(joinP (madeP zs (k + 1))).toArray⟩ ∧
    strV (madeW zs (k + 1)) = strV (madeW zs k) ++ [Value.string ((ws ++ ⟨#[48, 49, 50, 51, 52, 53, 54, 55]⟩).extract 0 8)] := by
  have e1 : bs.size = (joinP (madeP zs k)).length := by rw [hb]; rfl
  have e2 : ss.size = (sOf n).length := by rw [hs]; rfl
  have e3 : ws.size = (rOf n).length := by rw [hw]; show (wOf n).toArray.size = _; rw [rOf, len_shown]; simp
  have hx : ext (joinP (madeP zs k)).length n (sOf n) (rOf n) = true := by
    unfold ext; simp [h1]; omega
  have e4 : r = ⟨(rOf n).toArray⟩ := by rw [hr, hw]; rfl
  refine ⟨?_, ?_⟩
  · rw [madeP_succ zs k n hn, itemP, if_pos hx, hb, hs, e4]
    show ByteArray.mk _ ++ ByteArray.mk _ ++ ByteArray.mk _ ++ ByteArray.mk tail8.toArray = _
    rw [Go.ByteArray.mk_append_mk, Go.ByteArray.mk_append_mk, Go.ByteArray.mk_append_mk]
    simp
  · rw [madeW_succ zs k n hn, strV_snoc, itemW, if_pos hx, hw]
    show _ = _ ++ [Value.string ((ByteArray.mk _ ++ ByteArray.mk tail8.toArray).extract 0 8)]
    rw [Go.ByteArray.mk_append_mk, Go.ByteArray.extract_mk]
    simp
theorem round_not (zs : List Int) (k n : Nat) (bs ss ws r : ByteArray) (hn : pickN (zs.getD k 0) = n) (hb : bs = ⟨(joinP (madeP zs k)).toArray⟩)
    (hs : ss = ⟨(sOf n).toArray⟩) (hw : ws = ⟨(wOf n).toArray⟩) (hr : r = ⟨(shownL (n / 10 / 6) 0 ws.data.toList).toArray⟩)
    (h1 : ¬ (n / 10 / 18 % 9 = 8 ∧ bs.size + ss.size + ws.size < 60)) :
    bs ++ ss ++ r = ⟨(joinP (madeP zs (k + 1))).toArray⟩ ∧ strV (madeW zs (k + 1)) = strV (madeW zs k) ++ [Value.string ws] := by
  have e1 : bs.size = (joinP (madeP zs k)).length := by rw [hb]; rfl
  have e2 : ss.size = (sOf n).length := by rw [hs]; rfl
  have e3 : ws.size = (rOf n).length := by rw [hw]; show (wOf n).toArray.size = _; rw [rOf, len_shown]; simp
  have hx : ¬ ext (joinP (madeP zs k)).length n (sOf n) (rOf n) = true := by
    unfold ext; simp only [Bool.and_eq_true, decide_eq_true_eq]; rw [← e1, ← e2, ← e3]; exact h1
  have e4 : r = ⟨(rOf n).toArray⟩ := by rw [hr, hw]; rfl
  refine ⟨?_, ?_⟩
  · rw [madeP_succ zs k n hn, itemP, if_neg hx, hb, hs, e4]
    rw [Go.ByteArray.mk_append_mk, Go.ByteArray.mk_append_mk]
    simp
  · rw [madeW_succ zs k n hn, strV_snoc, itemW, if_neg hx, hw]

set_option maxHeartbeats 1000000 in
set_option maxRecDepth 100000 in
theorem made_any (b off len cap : Nat) (zs : List Int) (w : World) (hlen : len ≤ 9223372036854775807) (hb : b < w.heap.size)
    (hc : ∀ j, j < len → w.cell? ⟨b, off + j, none⟩ = some (.int .i64 (zs.getD j 0))) (hz : ∀ j, -9223372036854775808 ≤ zs.getD j 0 ∧ zs.getD j 0 ≤ 9223372036854775807) :
    Calls Try.prog 5 #[.slice (some ⟨b, off, none⟩) len cap] w fun e w' => ∃ v, e = .returned (.tuple #[.string ⟨(joinP (madeP zs (min len 8))).toArray⟩, v]) ∧
      w'.ownsRow (w.heap.size + 2) 9 1 v (min len 8) (strV (madeW zs (min len 8))) ∧ Below w.heap.size w w' := by
  obtain ⟨i0, hi, hz0, hz1, hz2⟩ := info_parts Try.info9
  replace hc := hide hc
  replace hz := hide hz
  go_enter Try.func5, Try.ntmps5
  go_wp2_with fail
  refine (voc_any _).mono ?_
  rintro e w1 ⟨rfl, rfl⟩
  go_wp2_with fail
  go_loopw [6, 7, 8] (fun o v i wr => ∃ k : Nat, k ≤ len ∧ k ≤ 8 ∧ i = .int .i64 k ∧ (∃ bs : ByteArray, o = .string bs ∧ Hid (bs = ⟨(joinP (madeP zs k)).toArray⟩)) ∧ wr.ownsRow (w.heap.size + 2) 9 1 v k (strV (madeW zs k)) ∧ Below (w.heap.size + 2) (W2 w) wr) (fun _ _ i _ => 8 - (intOf i).toNat)
  case atStart => exact ⟨0, Nat.zero_le _, by omega, rfl, ⟨_, rfl, rfl⟩, World.ownsRow_nil _ _ _ _, Below.refl _ _⟩
  case round =>
    obtain ⟨k, h1, h2, rfl, ⟨bs, rfl, hbs⟩, hown, hbw⟩ := hrel
    have hbz := hbw.size
    rw [W2_size] at hbz
    have hbl : bs.size ≤ 104 := by rw [hbs.out]; exact made_le zs k h2
    by_cases hlt : k < len ∧ k < 8
    · obtain ⟨hl1, hl2⟩ := hlt
      obtain ⟨z, hzk⟩ : ∃ z, zs.getD k 0 = z := ⟨_, rfl⟩
      obtain ⟨n, hnk⟩ : ∃ n, pickN z = n := ⟨_, rfl⟩
      have hn1 : n < 1099511627776 := by rw [← hnk]; exact pickN_lt z
      obtain ⟨ss, hss⟩ : ∃ ss : ByteArray, ss = ⟨(sOf n).toArray⟩ := ⟨_, rfl⟩
      obtain ⟨ws, hws⟩ : ∃ ws : ByteArray, ws = ⟨(wOf n).toArray⟩ := ⟨_, rfl⟩
      have hs2 : ss.size ≤ 2 := by rw [hss]; exact (sOf_all n).2.1
      have hw7 : ws.size ≤ 7 := by rw [hws]; exact (wOf_all n).2.1
      have hz1' : -9223372036854775808 ≤ z := by rw [← hzk]; exact (hz.out k).1
      have hz2' : z ≤ 9223372036854775807 := by rw [← hzk]; exact (hz.out k).2
      have c1 : wr.cell? ⟨b, off + k, none⟩ = some (.int .i64 z) := by
        rw [hbw.cell (by show b < _; omega), (W2_below w).cell hb, hc.out k hl1, hzk]
      have c2 : wr.cell? ⟨w.heap.size, n / 10 % 6, none⟩ = some (.string ss) := by
        rw [hbw.cell (by show w.heap.size < _; omega), W2_bet w _ (by omega), hss]; rfl
      have c3 : wr.cell? ⟨w.heap.size + 1, n % 10, none⟩ = some (.string ws) := by
        rw [hbw.cell (by show w.heap.size + 1 < _; omega), W2_voc w _ (by omega), hws]; rfl
      replace hzk := hide hzk
      replace hnk := hide hnk
      replace hss := hide hss
      replace hws := hide hws
      go_wp2_with fail
      refine (pick_at _ n hnk _ hz1' hz2').mono ?_
      rintro e w' ⟨rfl, rfl⟩
      have g1 : (0 : Int) ≤ (n : Int) / 10 % 6 := by omega
      have g2 : (n : Int) / 10 % 6 < 6 := by omega
      have q1 : IntKind.i64.wrap ((n : Int) / 10) = (n : Int) / 10 := IntWalk.i64_in _ ⟨by omega, by omega⟩
      have q2 : ((n : Int) / 10).tmod 6 = (n : Int) / 10 % 6 := Int.tmod_eq_emod_of_nonneg (by omega)
      have q4 : ((n : Int) / 10 % 6).toNat = n / 10 % 6 := by omega
      have q5 : ¬ 9223372036854775807 < bs.size + ss.size := by omega
      have q6 : ((n : Int) / 10).tdiv 6 = (n : Int) / 10 / 6 := Int.tdiv_eq_ediv_of_nonneg (by omega)
      have q3 : IntKind.i64.wrap ((n : Int) / 10 / 6) = (n : Int) / 10 / 6 := IntWalk.i64_in _ ⟨by omega, by omega⟩
      go_wp2_with fail
      go_region_held3 (fun w2 => w2.cell? ⟨w.heap.size, n / 10 % 6, none⟩ = some (.string ss)) (first | (rw [hb1.cell (by simp; omega)]; assumption) | go_keep)
        ((go_at_call 14; refine (shown_at _ n _ _ (by omega) (by omega) (by omega) (by omega)).mono ?_; rintro e w1 ⟨r, rfl, hr1, hr2, hr3, hb1⟩; have q7 : ¬ 9223372036854775807 < bs.size + ss.size + r.size := by omega))
      have hb2 : Below w'.heap.size w' w1 := ((Below.refl _ _).drew).trans hb1
      clear q1 q2 q3 q4 q5 q6 q7 g1 g2 c1 c2 c3 hb1
      have hown1 := owns_below hown hb2
      have hz3 := hb2.size
      have hb3 : Below (w.heap.size + 2) (W2 w) w1 := hbw.trans (hb2.mono hbz)
      clear hb2 hown hbw
      by_cases hx : n / 10 / 18 % 9 = 8 ∧ bs.size + ss.size + ws.size < 60
      · obtain ⟨hx1, hx2⟩ := hx
        have HR := hide (round_ext zs k n bs ss ws r (by rw [hzk.out]; exact hnk.out) hbs.out hss.out hws.out hr3.out hx1 hx2)
        have hq : (((n : Int) / 10 / 18 % 9) == 8) = true := by rw [beq_iff_eq]; omega
        clear hx1
        go_wp2_with (first
          | (at_builtin; refine wpList_append_own _ rfl _ _ 23 rfl (w.heap.size + 2) 9 i0 (.string ⟨#[]⟩) 1 16 Try.underlying23 hi hz0 hz1 hz2 rfl (by decide) _ _ _ rfl (hown1.alloc _) ⟨w1.heap.size, 0, none⟩ 1 1 [.string ((ws ++ ⟨#[48, 49, 50, 51, 52, 53, 54, 55]⟩).extract 0 8)] rfl rfl ?c1 ?c2 ?c3 ?c4 ?c5 ?_)
          | fail)
        case c1 =>
          intro j u hj
          match j, hj with
          | 0, hj => simp at hj; subst hj; simp [Addr.add]
        case c2 => intro u hu; simp at hu; subst hu; rfl
        case c3 => unfold maxLen; omega
        case c4 => omega
        case c5 => simp; omega
        intro v' w2 hown2 hgrow _
        have hb4 : Below (w.heap.size + 2) (W2 w) w2 := (hb3.alloc (by omega) _).grown hgrow (by simp; omega) (fun k hk => (hown1.lt k hk).1)
        clear hb3 hgrow hown1
        go_wp2_with fail
        go_roundw
        case rel => exact ⟨k + 1, by omega, by omega, by go_num, ⟨_, rfl, HR.out.1⟩, by rw [HR.out.2]; exact hown2, hb4⟩
        case measure => simp [intOf]; omega
      · have HR := hide (round_not zs k n bs ss ws r (by rw [hzk.out]; exact hnk.out) hbs.out hss.out hws.out hr3.out hx)
        by_cases hx1 : n / 10 / 18 % 9 = 8
        · have hq : (((n : Int) / 10 / 18 % 9) == 8) = true := by rw [beq_iff_eq]; omega
          have hx2 : 60 ≤ bs.size + ss.size + ws.size := by omega
          clear hx1 hx
          go_wp2_with (first
            | (at_builtin; refine wpList_append_own _ rfl _ _ 23 rfl (w.heap.size + 2) 9 i0 (.string ⟨#[]⟩) 1 16 Try.underlying23 hi hz0 hz1 hz2 rfl (by decide) _ _ _ rfl (hown1.alloc _) ⟨w1.heap.size, 0, none⟩ 1 1 [.string ws] rfl rfl ?c1 ?c2 ?c3 ?c4 ?c5 ?_)
            | fail)
          case c1 =>
            intro j u hj
            match j, hj with
            | 0, hj => simp at hj; subst hj; simp [Addr.add]
          case c2 => intro u hu; simp at hu; subst hu; rfl
          case c3 => unfold maxLen; omega
          case c4 => omega
          case c5 => simp; omega
          intro v' w2 hown2 hgrow _
          have hb4 : Below (w.heap.size + 2) (W2 w) w2 := (hb3.alloc (by omega) _).grown hgrow (by simp; omega) (fun k hk => (hown1.lt k hk).1)
          clear hb3 hgrow hown1
          go_wp2_with fail
          go_roundw
          case rel => exact ⟨k + 1, by omega, by omega, by go_num, ⟨_, rfl, HR.out.1⟩, by rw [HR.out.2]; exact hown2, hb4⟩
          case measure => simp [intOf]; omega
        · have hq : (((n : Int) / 10 / 18 % 9) == 8) = false := by rw [beq_eq_false_iff_ne]; omega
          clear hx1 hx
          go_wp2_with (first
            | (at_builtin; refine wpList_append_own _ rfl _ _ 23 rfl (w.heap.size + 2) 9 i0 (.string ⟨#[]⟩) 1 16 Try.underlying23 hi hz0 hz1 hz2 rfl (by decide) _ _ _ rfl (hown1.alloc _) ⟨w1.heap.size, 0, none⟩ 1 1 [.string ws] rfl rfl ?c1 ?c2 ?c3 ?c4 ?c5 ?_)
            | fail)
          case c1 =>
            intro j u hj
            match j, hj with
            | 0, hj => simp at hj; subst hj; simp [Addr.add]
          case c2 => intro u hu; simp at hu; subst hu; rfl
          case c3 => unfold maxLen; omega
          case c4 => omega
          case c5 => simp; omega
          intro v' w2 hown2 hgrow _
          have hb4 : Below (w.heap.size + 2) (W2 w) w2 := (hb3.alloc (by omega) _).grown hgrow (by simp; omega) (fun k hk => (hown1.lt k hk).1)
          clear hb3 hgrow hown1
          go_wp2_with fail
          go_roundw
          case rel => exact ⟨k + 1, by omega, by omega, by go_num, ⟨_, rfl, HR.out.1⟩, by rw [HR.out.2]; exact hown2, hb4⟩
          case measure => simp [intOf]; omega
    · have hk : min len 8 = k := by omega
      replace hk := hide hk
      have hbel : Below w.heap.size w wr := (W2_below w).trans (hbw.mono (by omega))
      by_cases hl : k < len
      · have h8 : ¬ k < 8 := by omega
        go_wp2_with fail
        go_ret2
        rw [hk.out]
        exact ⟨_, by rw [hbs.out]; rfl, hown, hbel⟩
      · go_wp2_with fail
        go_ret2
        rw [hk.out]
        exact ⟨_, by rw [hbs.out]; rfl, hown, hbel⟩
end Go.Proofs.Ytpdoacfiiledcaa
