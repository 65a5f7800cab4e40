import Derived.Test.YtnffagpdnklnkaaGreatDoorV29
import Derived.Test.YtnffagpdnklnkaaGreatDoorV26
import Derived.Test.YtnffagpdnklnkaaGreatDoorV23
import Derived.Deep.RegionHeld3
import Derived.Deep.RegionWith
import Derived.OpenShut
set_option linter.unusedVariables false
set_option linter.unusedSimpArgs false
set_option maxRecDepth 8000
namespace Go.Proofs.YtnffagpdnklnkaaGreatDoor.Mad
open Go.RowKit Go.Proofs.YtnffagpdnklnkaaGreatDoor Go.Proofs.YtnffagpdnklnkaaGreatDoor.Spl Go.Proofs.YtnffagpdnklnkaaGreatDoor.SiftM
def betO : Obj := .cells (strs betL) 9
def vocO : Obj := .cells (strs vocL) 9
theorem strs_cell (l : List (List UInt8)) (j : Nat) (h : j < l.length) : (strs l)[j]? = some (.string ⟨(l.getD j []).toArray⟩) := by
  simp [strs, List.getD_eq_getElem?_getD, List.getElem?_eq_getElem h]
theorem madeW_len (code : List Int) : ∀ k, (madeW code k).length = k
  | 0 => rfl
  | k + 1 => by simp [madeW, madeW_len code k]
/-- The world behind the two lists. -/
def W2 (w : World) : World := (w.alloc betO).alloc vocO
theorem W2_size (w : World) : (W2 w).heap.size = w.heap.size + 2 := by simp [W2]
theorem W2_below (w : World) : Below w.heap.size w (W2 w) := ((Below.refl _ _).alloc (Nat.le_refl _) _).alloc (by simp) _
theorem W2_bet (w : World) (j : Nat) (h : j < 6) : (W2 w).cell? ⟨w.heap.size, j, none⟩ = some (.string ⟨(betL.getD j []).toArray⟩) := by
  unfold W2
  rw [World.cell?_alloc_past _ _ _ (by simp), betO, World.cell?_alloc_at _ _ _ _ rfl]
  exact strs_cell betL j h
theorem W2_voc (w : World) (j : Nat) (h : j < 10) : (W2 w).cell? ⟨w.heap.size + 1, j, none⟩ = some (.string ⟨(vocL.getD j []).toArray⟩) := by
  unfold W2
  rw [vocO, World.cell?_alloc_at _ _ _ _ (by simp)]
  exact strs_cell vocL j h
theorem pick_at (c : Int) (n : Nat) (hn : Hid (pickN c = n)) (w : World) (h1 : -9223372036854775808 ≤ c) (h2 : c ≤ 9223372036854775807) :
    Calls Tryz.prog 16 #[.int .i64 c, .int .i64 1099511627776] w fun e w' => e = .returned (.int .i64 n) ∧ w' = w := by
  rw [← hn.out]; exact pick_any c w h1 h2
theorem shown_at (ws : ByteArray) (n : Nat) (h : Int) (w : World) (hl : ws.size ≤ 100) (h0 : 0 ≤ h) (hh : h ≤ 1099511627776) (hq : h = ((n / 10 / 6 : Nat) : Int)) :
    Calls Tryz.prog 106 #[.string ws, .int .i64 h] w fun e w' => ∃ r : ByteArray, e = .returned (.string r) ∧ r.size ≤ ws.size ∧ ws.size ≤ r.size ∧ Hid (r = ⟨(shownL (n / 10 / 6) 0 ws.data.toList).toArray⟩) ∧ Below w.heap.size w w' := by
  refine (shown_int ws h w hl h0 hh).mono ?_
  rintro e w' ⟨rfl, hb⟩
  have e1 : h.toNat = n / 10 / 6 := by omega
  have e2 : (ByteArray.mk (shownL h.toNat 0 ws.data.toList).toArray).size = ws.size := by
    show (shownL h.toNat 0 ws.data.toList).toArray.size = _
    simp [len_shown]
  exact ⟨_, rfl, by omega, by omega, by rw [e1]; exact rfl, hb⟩
theorem madeP_succ (zs : List Int) (k n : Nat) (hn : pickN (zs.getD k 0) = n) : joinP (madeP zs (k + 1)) = joinP (madeP zs k) ++ ((itemP (joinP (madeP zs k)).length n).1 ++ (itemP (joinP (madeP zs k)).length n).2) := by
  rw [madeP, hn, join_snoc]
theorem madeW_succ (zs : List Int) (k n : Nat) (hn : pickN (zs.getD k 0) = n) : madeW zs (k + 1) = madeW zs k ++ [itemW (joinP (madeP zs k)).length n] := by
  rw [madeW, hn]
/-- What the round makes of the text and the word, where the run is made longer. -/
theorem round_ext (zs : List Int) (k n : Nat) (bs ss ws r : ByteArray) (hn : pickN (zs.getD k 0) = n) (hb : bs = ⟨(joinP (madeP zs k)).toArray⟩)
    (hs : ss = ⟨(sOf n).toArray⟩) (hw : ws = ⟨(wOf n).toArray⟩) (hr : r = ⟨(shownL (n / 10 / 6) 0 ws.data.toList).toArray⟩)
    (h1 : n / 10 / 18 % 9 = 8) (h2 : bs.size + ss.size + ws.size < 60) :
    bs ++ ss ++ r ++ ⟨#[48, 49, 50, 51, 52, 53, 54, 55]⟩ = ⟨(joinP (madeP zs (k + 1))).toArray⟩ ∧
    strV (madeW zs (k + 1)) = strV (madeW zs k) ++ [Value.string ((ws ++ ⟨#[48, 49, 50, 51, 52, 53, 54, 55]⟩).extract 0 8)] := by
  have e1 : bs.size = (joinP (madeP zs k)).length := by rw [hb]; rfl
  have e2 : ss.size = (sOf n).length := by rw [hs]; rfl
  have e3 : ws.size = (rOf n).length := by rw [hw]; show (wOf n).toArray.size = _; rw [rOf, len_shown]; simp
  have hx : ext (joinP (madeP zs k)).length n (sOf n) (rOf n) = true := by
    unfold ext; simp [h1]; omega
  have e4 : r = ⟨(rOf n).toArray⟩ := by rw [hr, hw]; rfl
  refine ⟨?_, ?_⟩
  · rw [madeP_succ zs k n hn, itemP, if_pos hx, hb, hs, e4]
    show ByteArray.mk _ ++ ByteArray.mk _ ++ ByteArray.mk _ ++ ByteArray.mk tail8.toArray = _
    rw [Go.ByteArray.mk_append_mk, Go.ByteArray.mk_append_mk, Go.ByteArray.mk_append_mk]
    simp
  · rw [madeW_succ zs k n hn, strV_snoc, itemW, if_pos hx, hw]
    show _ = _ ++ [Value.string ((ByteArray.mk _ ++ ByteArray.mk tail8.toArray).extract 0 8)]
    rw [Go.ByteArray.mk_append_mk, Go.ByteArray.extract_mk]
    simp
theorem round_not (zs : List Int) (k n : Nat) (bs ss ws r : ByteArray) (hn : pickN (zs.getD k 0) = n) (hb : bs = ⟨(joinP (madeP zs k)).toArray⟩)
    (hs : ss = ⟨(sOf n).toArray⟩) (hw : ws = ⟨(wOf n).toArray⟩) (hr : r = ⟨(shownL (n / 10 / 6) 0 ws.data.toList).toArray⟩)
    (h1 : ¬ (n / 10 / 18 % 9 = 8 ∧ bs.size + ss.size + ws.size < 60)) :
    bs ++ ss ++ r = ⟨(joinP (madeP zs (k + 1))).toArray⟩ ∧ strV (madeW zs (k + 1)) = strV (madeW zs k) ++ [Value.string ws] := by
  have e1 : bs.size = (joinP (madeP zs k)).length := by rw [hb]; rfl
  have e2 : ss.size = (sOf n).length := by rw [hs]; rfl
  have e3 : ws.size = (rOf n).length := by rw [hw]; show (wOf n).toArray.size = _; rw [rOf, len_shown]; simp
  have hx : ¬ ext (joinP (madeP zs k)).length n (sOf n) (rOf n) = true := by
    unfold ext; simp only [Bool.and_eq_true, decide_eq_true_eq]; rw [← e1, ← e2, ← e3]; exact h1
  have e4 : r = ⟨(rOf n).toArray⟩ := by rw [hr, hw]; rfl
  refine ⟨?_, ?_⟩
  · rw [madeP_succ zs k n hn, itemP, if_neg hx, hb, hs, e4]
    rw [Go.ByteArray.mk_append_mk, Go.ByteArray.mk_append_mk]
    simp
  · rw [madeW_succ zs k n hn, strV_snoc, itemW, if_neg hx, hw]
set_option maxHeartbeats 1000000 in
set_option maxRecDepth 100000 in
theorem made_any (b off len cap : Nat) (zs : List Int) (w : World) (hlen : len ≤ 9223372036854775807) (hb : b < w.heap.size)
    (hc : ∀ j, j < len → w.cell? ⟨b, off + j, none⟩ = some (.int .i64 (zs.getD j 0))) (hz : ∀ j, -9223372036854775808 ≤ zs.getD j 0 ∧ zs.getD j 0 ≤ 9223372036854775807) :
    Calls Tryz.prog 68 #[.slice (some ⟨b, off, none⟩) len cap] w fun e w' => ∃ v, e = .returned (.tuple #[.string ⟨(joinP (madeP zs (min len 8))).toArray⟩, v]) ∧
      w'.ownsRow (w.heap.size + 2) 9 1 v (min len 8) (strV (madeW zs (min len 8))) ∧ Below w.heap.size w w' := by
  obtain ⟨i0, hi, hz0, hz1, hz2⟩ := info_parts Tryz.info9
  replace hc := hide hc
  replace hz := hide hz
  go_enter Tryz.func68, Tryz.ntmps68
  go_wp2_with fail
  refine (voc_any _).mono ?_
  rintro e w1 ⟨rfl, rfl⟩
  go_wp2_with fail
  go_loopw [6, 7, 8] (fun o v i wr => ∃ k : Nat, k ≤ len ∧ k ≤ 8 ∧ i = .int .i64 k ∧ (∃ bs : ByteArray, o = .string bs ∧ Hid (bs = ⟨(joinP (madeP zs k)).toArray⟩)) ∧ wr.ownsRow (w.heap.size + 2) 9 1 v k (strV (madeW zs k)) ∧ Below (w.heap.size + 2) (W2 w) wr) (fun _ _ i _ => 8 - (intOf i).toNat)
  case atStart => exact ⟨0, Nat.zero_le _, by omega, rfl, ⟨_, rfl, rfl⟩, World.ownsRow_nil _ _ _ _, Below.refl _ _⟩
  case round =>
    obtain ⟨k, h1, h2, rfl, ⟨bs, rfl, hbs⟩, hown, hbw⟩ := hrel
    have hbz := hbw.size
    rw [W2_size] at hbz
    have hbl : bs.size ≤ 104 := by rw [hbs.out]; exact made_le zs k h2
    by_cases hlt : k < len ∧ k < 8
    · obtain ⟨hl1, hl2⟩ := hlt
      obtain ⟨z, hzk⟩ : ∃ z, zs.getD k 0 = z := ⟨_, rfl⟩
      obtain ⟨n, hnk⟩ : ∃ n, pickN z = n := ⟨_, rfl⟩
      have hn1 : n < 1099511627776 := by rw [← hnk]; exact pickN_lt z
      obtain ⟨ss, hss⟩ : ∃ ss : ByteArray, ss = ⟨(sOf n).toArray⟩ := ⟨_, rfl⟩
      obtain ⟨ws, hws⟩ : ∃ ws : ByteArray, ws = ⟨(wOf n).toArray⟩ := ⟨_, rfl⟩
      have hs2 : ss.size ≤ 2 := by rw [hss]; exact (sOf_all n).2.1
      have hw7 : ws.size ≤ 7 := by rw [hws]; exact (wOf_all n).2.1
      have hz1' : -9223372036854775808 ≤ z := by rw [← hzk]; exact (hz.out k).1
      have hz2' : z ≤ 9223372036854775807 := by rw [← hzk]; exact (hz.out k).2
      have c1 : wr.cell? ⟨b, off + k, none⟩ = some (.int .i64 z) := by
        rw [hbw.cell (by show b < _; omega), (W2_below w).cell hb, hc.out k hl1, hzk]
      have c2 : wr.cell? ⟨w.heap.size, n / 10 % 6, none⟩ = some (.string ss) := by
        rw [hbw.cell (by show w.heap.size < _; omega), W2_bet w _ (by omega), hss]; rfl
      have c3 : wr.cell? ⟨w.heap.size + 1, n % 10, none⟩ = some (.string ws) := by
        rw [hbw.cell (by show w.heap.size + 1 < _; omega), W2_voc w _ (by omega), hws]; rfl
      replace hzk := hide hzk
      replace hnk := hide hnk
      replace hss := hide hss
      replace hws := hide hws
      go_wp2_with fail
      refine (pick_at _ n hnk _ hz1' hz2').mono ?_
      rintro e w' ⟨rfl, rfl⟩
      have g1 : (0 : Int) ≤ (n : Int) / 10 % 6 := by omega
      have g2 : (n : Int) / 10 % 6 < 6 := by omega
      have q1 : IntKind.i64.wrap ((n : Int) / 10) = (n : Int) / 10 := IntWalk.i64_in _ ⟨by omega, by omega⟩
      have q2 : ((n : Int) / 10).tmod 6 = (n : Int) / 10 % 6 := Int.tmod_eq_emod_of_nonneg (by omega)
      have q4 : ((n : Int) / 10 % 6).toNat = n / 10 % 6 := by omega
      have q5 : ¬ 9223372036854775807 < bs.size + ss.size := by omega
      have q6 : ((n : Int) / 10).tdiv 6 = (n : Int) / 10 / 6 := Int.tdiv_eq_ediv_of_nonneg (by omega)
      have q3 : IntKind.i64.wrap ((n : Int) / 10 / 6) = (n : Int) / 10 / 6 := IntWalk.i64_in _ ⟨by omega, by omega⟩
      go_wp2_with fail
      go_region_held3 (fun w2 => w2.cell? ⟨w.heap.size, n / 10 % 6, none⟩ = some (.string ss)) (first | (rw [hb1.cell (by simp; omega)]; assumption) | go_keep)
        ((go_at_call 106; refine (shown_at _ n _ _ (by omega) (by omega) (by omega) (by omega)).mono ?_; rintro e w1 ⟨r, rfl, hr1, hr2, hr3, hb1⟩; have q7 : ¬ 9223372036854775807 < bs.size + ss.size + r.size := by omega))
      have hb2 : Below w'.heap.size w' w1 := ((Below.refl _ _).drew).trans hb1
      clear q1 q2 q3 q4 q5 q6 q7 g1 g2 c1 c2 c3 hb1
      have hown1 := owns_below hown hb2
      have hz3 := hb2.size
      have hb3 : Below (w.heap.size + 2) (W2 w) w1 := hbw.trans (hb2.mono hbz)
      clear hb2 hown hbw
      by_cases hx : n / 10 / 18 % 9 = 8 ∧ bs.size + ss.size + ws.size < 60
      · obtain ⟨hx1, hx2⟩ := hx
        have HR := hide (round_ext zs k n bs ss ws r (by rw [hzk.out]; exact hnk.out) hbs.out hss.out hws.out hr3.out hx1 hx2)
        have hq : (((n : Int) / 10 / 18 % 9) == 8) = true := by rw [beq_iff_eq]; omega
        clear hx1
        go_wp2_with (first
          | (at_builtin; refine wpList_append_own _ rfl _ _ 37 rfl (w.heap.size + 2) 9 i0 (.string ⟨#[]⟩) 1 16 Tryz.underlying37 hi hz0 hz1 hz2 rfl (by decide) _ _ _ rfl (hown1.alloc _) ⟨w1.heap.size, 0, none⟩ 1 1 [.string ((ws ++ ⟨#[48, 49, 50, 51, 52, 53, 54, 55]⟩).extract 0 8)] rfl rfl ?c1 ?c2 ?c3 ?c4 ?c5 ?_)
          | fail)
        case c1 =>
          intro j u hj
          match j, hj with
          | 0, hj => simp at hj; subst hj; simp [Addr.add]
        case c2 => intro u hu; simp at hu; subst hu; rfl
        case c3 => unfold maxLen; omega
        case c4 => omega
        case c5 => simp; omega
        intro v' w2 hown2 hgrow _
        have hb4 : Below (w.heap.size + 2) (W2 w) w2 := (hb3.alloc (by omega) _).grown hgrow (by simp; omega) (fun k hk => (hown1.lt k hk).1)
        clear hb3 hgrow hown1
        go_wp2_with fail
        go_roundw
        case rel => exact ⟨k + 1, by omega, by omega, by go_num, ⟨_, rfl, HR.out.1⟩, by rw [HR.out.2]; exact hown2, hb4⟩
        case measure => simp [intOf]; omega
      · have HR := hide (round_not zs k n bs ss ws r (by rw [hzk.out]; exact hnk.out) hbs.out hss.out hws.out hr3.out hx)
        by_cases hx1 : n / 10 / 18 % 9 = 8
        · have hq : (((n : Int) / 10 / 18 % 9) == 8) = true := by rw [beq_iff_eq]; omega
          have hx2 : 60 ≤ bs.size + ss.size + ws.size := by omega
          clear hx1 hx
          go_wp2_with (first
            | (at_builtin; refine wpList_append_own _ rfl _ _ 37 rfl (w.heap.size + 2) 9 i0 (.string ⟨#[]⟩) 1 16 Tryz.underlying37 hi hz0 hz1 hz2 rfl (by decide) _ _ _ rfl (hown1.alloc _) ⟨w1.heap.size, 0, none⟩ 1 1 [.string ws] rfl rfl ?c1 ?c2 ?c3 ?c4 ?c5 ?_)
            | fail)
          case c1 =>
            intro j u hj
            match j, hj with
            | 0, hj => simp at hj; subst hj; simp [Addr.add]
          case c2 => intro u hu; simp at hu; subst hu; rfl
          case c3 => unfold maxLen; omega
          case c4 => omega
          case c5 => simp; omega
          intro v' w2 hown2 hgrow _
          have hb4 : Below (w.heap.size + 2) (W2 w) w2 := (hb3.alloc (by omega) _).grown hgrow (by simp; omega) (fun k hk => (hown1.lt k hk).1)
          clear hb3 hgrow hown1
          go_wp2_with fail
          go_roundw
          case rel => exact ⟨k + 1, by omega, by omega, by go_num, ⟨_, rfl, HR.out.1⟩, by rw [HR.out.2]; exact hown2, hb4⟩
          case measure => simp [intOf]; omega
        · have hq : (((n : Int) / 10 / 18 % 9) == 8) = false := by rw [beq_eq_false_iff_ne]; omega
          clear hx1 hx
          go_wp2_with (first
            | (at_builtin; refine wpList_append_own _ rfl _ _ 37 rfl (w.heap.size + 2) 9 i0 (.string ⟨#[]⟩) 1 16 Tryz.underlying37 hi hz0 hz1 hz2 rfl (by decide) _ _ _ rfl (hown1.alloc _) ⟨w1.heap.size, 0, none⟩ 1 1 [.string ws] rfl rfl ?c1 ?c2 ?c3 ?c4 ?c5 ?_)
            | fail)
          case c1 =>
            intro j u hj
            match j, hj with
            | 0, hj => simp at hj; subst hj; simp [Addr.add]
          case c2 => intro u hu; simp at hu; subst hu; rfl
          case c3 => unfold maxLen; omega
          case c4 => omega
          case c5 => simp; omega
          intro v' w2 hown2 hgrow _
          have hb4 : Below (w.heap.size + 2) (W2 w) w2 := (hb3.alloc (by omega) _).grown hgrow (by simp; omega) (fun k hk => (hown1.lt k hk).1)
          clear hb3 hgrow hown1
          go_wp2_with fail
          go_roundw
          case rel => exact ⟨k + 1, by omega, by omega, by go_num, ⟨_, rfl, HR.out.1⟩, by rw [HR.out.2]; exact hown2, hb4⟩
          case measure => simp [intOf]; omega
    · have hk : min len 8 = k := by omega
      replace hk := hide hk
      have hbel : Below w.heap.size w wr := (W2_below w).trans (hbw.mono (by omega))
      by_cases hl : k < len
      · have h8 : ¬ k < 8 := by omega
        go_wp2_with fail
        go_ret2
        rw [hk.out]
        exact ⟨_, by rw [hbs.out]; rfl, hown, hbel⟩
      · go_wp2_with fail
        go_ret2
        rw [hk.out]
        exact ⟨_, by rw [hbs.out]; rfl, hown, hbel⟩
theorem cell_lt {w : World} {a : Addr} {v : Value} (h : w.cell? a = some v) : a.block < w.heap.size := by
  rcases Nat.lt_or_ge a.block w.heap.size with h' | h'
  · exact h'
  · simp [World.cell?, Array.getElem?_eq_none h'] at h
set_option maxHeartbeats 400000 in
theorem made_zero (a : Option Addr) (cap : Nat) (w : World) :
    Calls Tryz.prog 68 #[.slice a 0 cap] w fun e w' => e = .returned (.tuple #[.string ⟨#[]⟩, .slice none 0 0]) ∧ Below w.heap.size w w' := by
  go_enter Tryz.func68, Tryz.ntmps68
  go_wp2_with fail
  refine (voc_any _).mono ?_
  rintro e w1 ⟨rfl, rfl⟩
  go_wp2_with fail
  refine wp_loop_rounds 1 ?_
  rw [rounds_succ]
  go_wp2_with fail
  go_ret2
  exact ⟨rfl, W2_below w⟩
/-- A list of numbers that came in. -/
def Row (w : World) (a : Option Addr) (len cap : Nat) (zs : List Int) : Prop :=
  (a = none ∧ len = 0 ∧ cap = 0 ∧ zs = []) ∨
  ∃ x, a = some x ∧ len ≤ cap ∧ cap ≤ maxLen ∧ zs.length = cap ∧ (∀ i, i < zs.length → w.cell? (x.add i) = some (.int .i64 (zs.getD i 0))) ∧ ∀ n ∈ zs, (Lit.int .i64 n).wf = true
theorem wf_bd (n : Int) (h : (Lit.int .i64 n).wf = true) : -9223372036854775808 ≤ n ∧ n ≤ 9223372036854775807 := by
  exact bounds_i64 h
theorem made_row (a : Option Addr) (len cap : Nat) (zs : List Int) (w : World) (h : Row w a len cap zs) :
    Calls Tryz.prog 68 #[.slice a len cap] w fun e w' => ∃ (v : Value) (bs : ByteArray) (l : List (List UInt8)), e = .returned (.tuple #[.string bs, v]) ∧ Hid (sp bs.size bs.data.toList = l) ∧ bs.size ≤ 104 ∧ l.length ≤ 8 ∧
      w'.ownsRow w.heap.size 9 1 v l.length (strV l) ∧ Below w.heap.size w w' := by
  have key : ∀ k, k ≤ 8 → Hid (sp (ByteArray.mk (joinP (madeP zs k)).toArray).size (ByteArray.mk (joinP (madeP zs k)).toArray).data.toList = madeW zs k) := by
    intro k hk
    show sp (joinP (madeP zs k)).toArray.size (joinP (madeP zs k)).toArray.toList = _
    rw [List.size_toArray]
    exact made_split zs k _ (Nat.le_refl _)
  by_cases h0 : len = 0
  · subst h0
    refine (made_zero a cap w).mono ?_
    rintro e w' ⟨rfl, hb⟩
    exact ⟨_, _, [], rfl, key 0 (by omega), by decide, by decide, World.ownsRow_nil _ _ _ _, hb⟩
  · rcases h with ⟨_, rfl, _⟩ | ⟨x, rfl, hl, hm, hz, hcell, hwf⟩
    · exact absurd rfl h0
    · have hc := hcell 0 (by omega)
      obtain ⟨b, off, spot⟩ := x
      have hspot : spot = none := by simpa [Addr.add] using World.cell?_spot hc
      subst hspot
      have hb := cell_lt hc
      unfold maxLen at hm
      refine (made_any b off len cap zs w (by omega) (by simpa [Addr.add] using hb) (fun j hj => by have hj2 := hcell j (by omega); by_cases e : j = 0 <;> simpa [Addr.add, e] using hj2) ?_).mono ?_
      · intro j
        by_cases hj : j < zs.length
        · exact wf_bd _ (hwf _ (getD_mem _ _ _ hj))
        · rw [List.getD_eq_getElem?_getD, List.getElem?_eq_none (by omega)]; simp
      · rintro e w' ⟨v, rfl, hown, hbel⟩
        refine ⟨v, _, madeW zs (min len 8), rfl, key _ (by omega), made_le zs _ (by omega), by rw [madeW_len]; omega, ?_, hbel⟩
        rw [madeW_len]
        exact ⟨hown.1, hown.2.imp id fun ⟨g, cap, cur, h1, h2, h3⟩ => ⟨g, cap, cur, h1, by omega, h3⟩⟩
end Go.Proofs.YtnffagpdnklnkaaGreatDoor.Mad
namespace Go.Proofs.YtnffagpdnklnkaaGreatDoor.Pak
open Go.RowKit Go.Proofs.YtnffagpdnklnkaaGreatDoor Go.Proofs.YtnffagpdnklnkaaGreatDoor.Spl SiftM
def pickG (c : Int) (n : Nat) : Nat := ((if c < 0 then -(c + 1) else c) % (n : Int)).toNat
theorem pickG_lt (c : Int) (n : Nat) (h : 0 < n) : pickG c n < n := by
  unfold pickG
  have h1 := Int.emod_nonneg (if c < 0 then -(c + 1) else c) (b := (n : Int)) (by omega)
  have h2 := Int.emod_lt_of_pos (if c < 0 then -(c + 1) else c) (b := (n : Int)) (by omega)
  omega
theorem pickG_any (c : Int) (n : Nat) (w : World) (hn : 0 < n) (hn2 : n ≤ 1000) (h1 : -9223372036854775808 ≤ c) (h2 : c ≤ 9223372036854775807) :
    Calls Tryz.prog 16 #[.int .i64 c, .int .i64 (n : Int)] w fun e w' => e = .returned (.int .i64 (pickG c n : Nat)) ∧ w' = w := by
  have hne : ¬ (n : Int) = 0 := by omega
  have hne2 : ¬ (n : Int) = -1 := by omega
  by_cases hc : c < 0
  · have e : Hid ((pickG c n : Int) = (-(c + 1)) % (n : Int)) := by
      show (pickG c n : Int) = _
      unfold pickG; rw [if_pos hc]
      have h5 := Int.emod_nonneg (-(c + 1)) (b := (n : Int)) (by omega)
      omega
    go_enter Tryz.func16, Tryz.ntmps16
    go_wp2_with fail
    go_ret
    exact ⟨ret_int (by rw [e.out, ← Int.neg_tmod, Int.tmod_eq_emod_of_nonneg (by omega)]), rfl⟩
  · have e : Hid ((pickG c n : Int) = c % (n : Int)) := by
      show (pickG c n : Int) = _
      unfold pickG; rw [if_neg hc]
      have h5 := Int.emod_nonneg c (b := (n : Int)) (by omega)
      omega
    go_enter Tryz.func16, Tryz.ntmps16
    go_wp2_with fail
    go_ret
    exact ⟨ret_int (by rw [e.out]), rfl⟩
/-- What the law knows: its block, its two lists. -/
structure LW (w : World) (B : Nat) (Wd X tb wb : Nat) (on : Bool) (th : List Bool) (vs : List Value) (wl : List (List (List UInt8))) : Prop where
  blk : w.heap[Wd]? = some (.cells #[.pointer (some ⟨X, 0, none⟩), .slice (some ⟨tb, 0, none⟩) 20 20, .slice (some ⟨wb, 0, none⟩) 20 20, .bool on] 32 (0, 0))
  thb : w.heap[tb]? = some (.cells (th.map Value.bool).toArray 4 (0, 0))
  wob : w.heap[wb]? = some (.cells vs.toArray 37 (0, 0))
  thl : th.length = 20
  vl : vs.length = 20
  wll : wl.length = 20
  each : ∀ (i : Nat) (v : Value) (l : List (List UInt8)), vs[i]? = some v → wl[i]? = some l → w.ownsRow B 9 1 v l.length (strV l)
def rowTh : Array Value := ((List.replicate 20 false).map Value.bool).toArray
def rowWo : Array Value := (List.replicate 20 (Value.slice none 0 0)).toArray
theorem info4b : (Tryz.prog.info? 4).map (fun i => (i.zero, i.size, i.bytes)) = some (some (.bool false), 1, 1) := by kernel_rfl
theorem info37b : (Tryz.prog.info? 37).map (fun i => (i.zero, i.size, i.bytes)) = some (some (.slice none 0 0), 1, 24) := by kernel_rfl
theorem mk29 (w : World) : (Instr.makeSlice 29 (.int .i64 20) (.int .i64 20)).run Tryz.prog w = .ok (.slice (some ⟨w.heap.size, 0, none⟩) 20 20) (w.alloc (.cells rowTh 4)) := by
  obtain ⟨i0, hi, hz0, hz1, hz2⟩ := info_parts info4b
  have h := run_make (P := Tryz.prog) w 29 4 i0 (.bool false) (by kernel_rfl) hi hz0 .i64 .i64 20 20 (by omega) (by omega) (by rw [hz2]; omega) (by omega)
  rw [hz1, show madeCells (Value.bool false).cells (Int.toNat 20 * 1) = rowTh from by kernel_rfl] at h
  exact h
theorem mk30 (w : World) : (Instr.makeSlice 30 (.int .i64 20) (.int .i64 20)).run Tryz.prog w = .ok (.slice (some ⟨w.heap.size, 0, none⟩) 20 20) (w.alloc (.cells rowWo 37)) := by
  obtain ⟨i0, hi, hz0, hz1, hz2⟩ := info_parts info37b
  have h := run_make (P := Tryz.prog) w 30 37 i0 (.slice none 0 0) (by kernel_rfl) hi hz0 .i64 .i64 20 20 (by omega) (by omega) (by rw [hz2]; omega) (by omega)
  rw [hz1, show madeCells (Value.slice none 0 0).cells (Int.toNat 20 * 1) = rowWo from by kernel_rfl] at h
  exact h
theorem three_allocs (W : World) (o1 o2 o3 : Obj) : (((W.alloc o1).alloc o2).alloc o3).drew.heap[W.heap.size]? = some o1 ∧ (((W.alloc o1).alloc o2).alloc o3).drew.heap[W.heap.size + 1]? = some o2 ∧ (((W.alloc o1).alloc o2).alloc o3).drew.heap[W.heap.size + 1 + 1]? = some o3 ∧ Kp [] W (((W.alloc o1).alloc o2).alloc o3).drew := by
  refine ⟨?_, ?_, ?_, (((Kp.refl _ _).alloc _).alloc _).alloc _ |>.next ((Kp.refl _ _).drewN 1)⟩
  · show (((W.alloc o1).alloc o2).alloc o3).heap[W.heap.size]? = _
    rw [Below.heap_alloc _ _ _ (by simp; omega), Below.heap_alloc _ _ _ (by simp)]
    exact heap_alloc_new W o1
  · show (((W.alloc o1).alloc o2).alloc o3).heap[W.heap.size + 1]? = _
    rw [Below.heap_alloc _ _ _ (by simp)]
    have := heap_alloc_new (W.alloc o1) o2
    rwa [World.size_alloc] at this
  · show (((W.alloc o1).alloc o2).alloc o3).heap[W.heap.size + 1 + 1]? = _
    have := heap_alloc_new ((W.alloc o1).alloc o2) o3
    rwa [World.size_alloc, World.size_alloc] at this
theorem lw_zero (w : World) (B : Nat) : ∀ (i : Nat) (v : Value) (l : List (List UInt8)), (List.replicate 20 (Value.slice none 0 0))[i]? = some v → (List.replicate 20 ([] : List (List UInt8)))[i]? = some l → w.ownsRow B 9 1 v l.length (strV l) := by
  intro i v l h1 h2
  have e1 := List.eq_of_mem_replicate (List.mem_of_getElem? h1)
  have e2 := List.eq_of_mem_replicate (List.mem_of_getElem? h2)
  subst e1 e2
  exact World.ownsRow_nil _ _ _ _
def BeginPost (bI fI : Int) (w : World) (e : Ending) (w' : World) : Prop :=
  ∃ Wd X tb wb W1, e = .returned (.tuple #[.pointer (some ⟨Wd, 0, none⟩), .bool true]) ∧ Kp [] w W1 ∧ Kp [] W1 w' ∧ NewD w W1 (1 + pickG bI 8) (2 + pickG fI 3) X ∧ LW w' w.heap.size Wd X tb wb false (List.replicate 20 false) (List.replicate 20 (.slice none 0 0)) (List.replicate 20 []) ∧ (W1.heap.size ≤ Wd ∧ W1.heap.size ≤ tb ∧ W1.heap.size ≤ wb)
set_option maxRecDepth 100000 in
set_option maxHeartbeats 2000000 in
theorem begin_any (bI fI : Int) (w : World) (h1 : -9223372036854775808 ≤ bI) (h2 : bI ≤ 9223372036854775807) (h3 : -9223372036854775808 ≤ fI) (h4 : fI ≤ 9223372036854775807) :
    Calls Tryz.prog 4 #[.int .i64 bI, .int .i64 fI] w fun e w' => BeginPost bI fI w e w' := by
  have hp1 := fun W => pickG_any bI 8 W (by omega) (by omega) h1 h2
  have hp2 := fun W => pickG_any fI 3 W (by omega) (by omega) h3 h4
  have l1 := pickG_lt bI 8 (by omega)
  have l2 := pickG_lt fI 3 (by omega)
  unfold BeginPost
  generalize pickG bI 8 = p1 at hp1 l1 ⊢
  generalize pickG fI 3 = p2 at hp2 l2 ⊢
  have hnew := fun W => new2_any (1 + p1) (2 + p2) W (by omega) (by omega) (by omega) (by omega)
  go_enter Tryz.func4, Tryz.ntmps4
  go_wp2_with fail
  refine (hp1 w).mono ?_
  rintro e w' ⟨rfl, rfl⟩
  go_wp2_with fail
  refine (hp2 w').mono ?_
  rintro e w1 ⟨rfl, rfl⟩
  go_wp2_with fail
  have e1 : (1 : Int) + (p1 : Int) = ((1 + p1 : Nat) : Int) := by omega
  have e2 : (2 : Int) + (p2 : Int) = ((2 + p2 : Nat) : Int) := by omega
  first | rw [e1, e2] | skip
  refine (hnew w1).mono ?_
  rintro e W1 ⟨k1, X, rfl, hN⟩
  have HN := hide hN
  clear hN hnew hp1 hp2 e1 e2
  have hm29 := mk29
  have hm30 := mk30
  go_wp2_with fail
  go_region
  · go_wp2_with fail
    go_ret2
    obtain ⟨a1, a2, a3, a4⟩ := three_allocs W1 (.cells rowTh 4) (.cells rowWo 37) (.cells #[.pointer (some ⟨X, 0, none⟩), .slice (some ⟨W1.heap.size, 0, none⟩) 20 20, .slice (some ⟨W1.heap.size + 1, 0, none⟩) 20 20, .bool false] 32)
    exact ⟨W1.heap.size + 1 + 1, X, W1.heap.size, W1.heap.size + 1, W1, rfl, k1, a4, HN.out, ⟨a3, a1, a2, by simp, by simp, by simp, lw_zero _ _⟩, by omega, by omega, by omega⟩
  · go_wp2_with fail
    go_ret2
    obtain ⟨a1, a2, a3, a4⟩ := three_allocs W1 (.cells rowWo 37) (.cells rowTh 4) (.cells #[.pointer (some ⟨X, 0, none⟩), .slice (some ⟨W1.heap.size + 1, 0, none⟩) 20 20, .slice (some ⟨W1.heap.size, 0, none⟩) 20 20, .bool false] 32)
    exact ⟨W1.heap.size + 1 + 1, X, W1.heap.size + 1, W1.heap.size, W1, rfl, k1, a4, HN.out, ⟨a3, a2, a1, by simp, by simp, by simp, lw_zero _ _⟩, by omega, by omega, by omega⟩
/-- What goes from the parts. -/
def dropP (s : PSt) (id : Nat) : PSt := match homF s.Ps id with | none => s | some (p, d) => { s with Ps := killAt s.Ps p d }
theorem dropP_abs {w : World} {X B : Nat} {O : List Nat} {s : PSt} (h : PIs w X B O s) (id : Nat) : (dropP s id).abs = { s.abs with L := s.abs.L.map (DSg.mark id) } := by
  have hnd : ((homL s.Ps).map Prod.fst).Nodup := (List.pairwise_append.1 h.nodup).2.1
  unfold dropP
  cases hf : homF s.Ps id with
  | none =>
    have hno : id ∉ (homL s.Ps).map Prod.fst := by
      have := homF_isSome (Ps := s.Ps) id
      rw [hf] at this
      simpa using this.symm
    simp only
    have := none_abs hno
    unfold PSt.abs
    simp only
    rw [← this]
  | some x =>
    obtain ⟨p, d⟩ := x
    simp only
    have hx := (homF_some hnd id (p, d)).1 hf
    unfold PSt.abs
    simp only
    rw [kill_abs hnd h.apart (fun t ht => (h.each t ht).fine) hx]
theorem kill_mem {Ps : List PPt} {p d : Nat} {t : PPt} (h : t ∈ killAt Ps p d) : ∃ u ∈ Ps, (t = u ∧ u.p ≠ p) ∨ (t = u.more d ∧ u.p = p) := by
  unfold killAt at h
  obtain ⟨u, hu, rfl⟩ := List.mem_map.1 h
  refine ⟨u, hu, ?_⟩
  by_cases e : u.p = p
  · rw [if_pos e]; exact .inr ⟨rfl, e⟩
  · rw [if_neg e]; exact .inl ⟨rfl, e⟩
theorem kill_outS {Ps : List PPt} {p d g : Nat} (h : OutS Ps g) : OutS (killAt Ps p d) g := by
  intro t ht
  obtain ⟨u, hu, ⟨rfl, _⟩ | ⟨rfl, _⟩⟩ := kill_mem ht
  · exact h t hu
  · exact h u hu
theorem kill_ptV (Ps : List PPt) (p d : Nat) : ptV (killAt Ps p d) = ptV Ps := by
  unfold ptV killAt
  rw [List.map_map]
  apply List.map_congr_left
  intro t _
  simp only [Function.comp]
  split <;> rfl
theorem p_one {Ps : List PPt} (h : Ps.Pairwise fun t u => t.p ≠ u.p) {t u : PPt} (ht : t ∈ Ps) (hu : u ∈ Ps) (e : t.p = u.p) : t = u := by
  obtain ⟨i, hi, rfl⟩ := List.mem_iff_getElem.1 ht
  obtain ⟨j, hj, rfl⟩ := List.mem_iff_getElem.1 hu
  have hpw := List.pairwise_iff_getElem.1 h
  rcases Nat.lt_trichotomy i j with h3 | h3 | h3
  · exact absurd e (hpw i j hi hj h3)
  · subst h3; rfl
  · exact absurd e.symm (hpw j i hj hi h3)
/-- A doc is dead, and its id has no home. -/
theorem PIs.kill {w w' : World} {X B : Nat} {O : List Nat} {s : PSt} (h : PIs w X B O s) {id p d : Nat} (hx : (id, (p, d)) ∈ homL s.Ps) {dead : Nat} (hp : ∀ t ∈ s.Ps, t.p = p → t.dead = dead) (hd : d < 60)
    (k : Kp [p, s.hb] w w') (hc : ∃ q, w.heap[p]? = some (.cells #[q, .int .u64 (dead : Int)] 81 (0, 0)) ∧ w'.heap[p]? = some (.cells #[q, .int .u64 ((dead ||| 2 ^ d : Nat) : Int)] 81 (0, 0)))
    (hm : HomIs w' s.hb ((homL s.Ps).length - 1) (setAt (homF s.Ps) id none)) : PIs w' X B O { s with Ps := killAt s.Ps p d } := by
  have hnd : ((homL s.Ps).map Prod.fst).Nodup := (List.pairwise_append.1 h.nodup).2.1
  obtain ⟨q, hq, hq'⟩ := hc
  obtain ⟨es, ck, hmap⟩ := h.hmap
  have hk := kill_ids hnd h.apart hx
  have hidm : id ∈ (homL s.Ps).map Prod.fst := List.mem_map.2 ⟨_, hx, rfl⟩
  have hlen : (homL (killAt s.Ps p d)).length = (homL s.Ps).length - 1 := by rw [hk]; exact filter_count hnd hidm
  have hXp : X ≠ p := cells_ne h.blk hq (by decide)
  have hXh : X ≠ s.hb := cells_map h.blk hmap
  have hS : ∀ {g : Nat}, g ∈ [p, s.hb] → g = p ∨ g = s.hb := fun hx => by simpa using hx
  have far : ∀ {e : TypeId} {size m : Nat} {u : Value} {xs : List Value}, e ≠ 81 → w.ownsRow B e size u m xs → w'.ownsRow B e size u m xs := fun he hu => k.owns hu (fun gg hgg hx => by
    rcases hS hx with rfl | rfl
    · exact owns_ne_type hu hq he hgg
    · exact owns_ne_obj hu hmap hgg)
  obtain ⟨t0, ht0, hh0⟩ := mem_homL.1 hx
  have hp0 : t0.p = p := (homes_mem hh0).1.symm
  refine ⟨?_, h.rd, Nat.le_trans h.low k.size, ?_, h.word, h.sort, ?_, ?_, ?_, ?_, ?_, ?_, h.inX, h.inG, h.inW, h.inP, h.inH, ?_, ?_, kill_outS h.outX, fun g hg => kill_outS (h.outG g hg), fun g hg => kill_outS (h.outP g hg), kill_outS h.outH, ?_, ?_, ?_⟩
  · exact k.heap h.blk (fun hx => by rcases hS hx with e | e; exact hXp e; exact hXh e)
  · exact ⟨h.gath.len, far (by decide) h.gath.row, fun i h1 h2 => far (by decide) (h.gath.each i h1 h2), h.gath.apart⟩
  · show w'.ownsRow B 76 1 s.pv (killAt s.Ps p d).length (ptV (killAt s.Ps p d))
    rw [kill_ptV]
    have : (killAt s.Ps p d).length = s.Ps.length := by simp [killAt]
    rw [this]
    exact far (by decide) h.parts
  · intro t ht
    obtain ⟨u, hu, ⟨rfl, hne⟩ | ⟨rfl, he⟩⟩ := kill_mem ht
    · refine (h.each t hu).kp k (fun hx => ?_) (fun x hx => ?_)
      · rcases hS hx with e | e
        · exact hne e
        · exact cells_map (h.each t hu).cells hmap e
      · rcases hS hx with rfl | rfl
        · rw [← hp0]; exact h.outT t0 ht0 t hu
        · exact h.outH t hu
    · have hu' := h.each u hu
      have hdd := hp u hu he
      refine ⟨?_, hu'.seg.kp k (fun x hx => ?_), hu'.fine, ?_, hu'.nlt⟩
      · have h1 := hu'.cells
        rw [he, hq] at h1
        simp at h1
        show w'.heap[u.p]? = some (.cells #[.pointer (some ⟨u.q, 0, none⟩), .int .u64 ((u.dead ||| 2 ^ d : Nat) : Int)] 81 (0, 0))
        rw [he, hq', hdd, h1.1]
      · rcases hS hx with rfl | rfl
        · rw [← he]; exact h.outT u hu u hu
        · exact h.outH u hu
      · show u.dead ||| 2 ^ d < 2 ^ u.T.length
        have e : u = t0 := p_one h.apart hu ht0 (he.trans hp0.symm)
        have hdT : d < u.T.length := by rw [e]; exact (homes_mem hh0).2.1
        exact Nat.or_lt_two_pow hu'.dlo (Nat.pow_lt_pow_right (by omega) hdT)
  · show HomIs w' s.hb (homL (killAt s.Ps p d)).length (homF (killAt s.Ps p d))
    rw [hlen, kill_homF hnd h.apart hx]
    exact hm
  · show (killAt s.Ps p d).length ≤ s.next
    have : (killAt s.Ps p d).length = s.Ps.length := by simp [killAt]
    rw [this]; exact h.cnt
  · have := h.all60
    show s.G.length + (homL (killAt s.Ps p d)).length ≤ 60
    omega
  · show (s.G.map Prod.fst ++ (homL (killAt s.Ps p d)).map Prod.fst).Nodup
    rw [hk]
    exact (List.Sublist.append (List.Sublist.refl _) (List.filter_sublist.map _)).nodup h.nodup
  · intro t ht
    obtain ⟨u, hu, ⟨rfl, _⟩ | ⟨rfl, _⟩⟩ := kill_mem ht
    · exact h.inT t hu
    · exact h.inT u hu
  · intro t ht
    obtain ⟨u, hu, ⟨rfl, _⟩ | ⟨rfl, _⟩⟩ := kill_mem ht
    · exact h.inS t hu
    · exact h.inS u hu
  · intro t ht
    obtain ⟨u, hu, ⟨rfl, _⟩ | ⟨rfl, _⟩⟩ := kill_mem ht
    · exact kill_outS (h.outT t hu)
    · exact kill_outS (h.outT u hu)
  · intro t ht
    obtain ⟨u, hu, ⟨rfl, _⟩ | ⟨rfl, _⟩⟩ := kill_mem ht
    · exact Nat.le_trans (h.hiLe t hu) k.size
    · exact Nat.le_trans (h.hiLe u hu) k.size
  · show (killAt s.Ps p d).Pairwise _
    unfold killAt
    rw [List.pairwise_map]
    refine h.apart.imp ?_
    intro a b hab
    split <;> split <;> exact hab
end Go.Proofs.YtnffagpdnklnkaaGreatDoor.Pak
