import Derived.Test.YtpdoacfiiledcaaGreatDoorV14
import Derived.Test.YtpdoacfiiledcaaGreatDoorV19
import Derived.Test.YtpdoacfiiledcaaGreatDoorV13

namespace Go.Proofs.YtpdoacfiiledcaaGreatDoor.Pak
open Go.RowKit Go.Proofs.YtpdoacfiiledcaaGreatDoor Go.Proofs.YtpdoacfiiledcaaGreatDoor.Spl SiftM
set_option linter.unusedVariables false

def sumL : List (List UInt8) → Nat
  | [] => 0
  | x :: r => x.length + sumL r
def lenF (ws : List (List UInt8)) : Nat := (ws.length - 1) + sumL ws
theorem sumL_snoc : ∀ (l : List (List UInt8)) (x : List UInt8), sumL (l ++ [x]) = sumL l + x.length
  | [], x => by simp [sumL]
  | y :: r, x => by simp [sumL, sumL_snoc r x]; omega
theorem sumL_take : ∀ (l : List (List UInt8)) (k : Nat), sumL (l.take k) ≤ sumL l
  | [], k => by simp [sumL]
  | y :: r, 0 => by simp [sumL]
  | y :: r, k + 1 => by have := sumL_take r k; simp [sumL]; omega

set_option maxHeartbeats 800000 in
set_option maxRecDepth 100000 in
theorem length_any (B : Nat) (v : Value) (ws : List (List UInt8)) (w : World) (h : w.ownsRow B 9 1 v ws.length (strV ws)) (hn : ws.length ≤ 2000000) (hs : sumL ws ≤ 100000000) :
    Calls Tryz.prog 368 #[v] w fun e w' => e = .returned (.int .i64 (lenF ws)) ∧ w' = w := by
  obtain ⟨a, cap, rfl, ha⟩ := owns_forms h
  have hmax : max ((ws.length : Int) - 1) 0 = ((ws.length - 1 : Nat) : Int) := by omega
  have Hl : Hid (lenF ws = (ws.length - 1) + sumL ws) := rfl
  generalize lenF ws = res at *
  obtain ⟨m, hm⟩ : ∃ m, ws.length - 1 = m := ⟨_, rfl⟩
  rw [hm] at hmax Hl
  have hmle : m ≤ 2000000 := by omega
  have HH := hide h
  clear h hm
  go_enter Tryz.func368, Tryz.ntmps368
  go_wp2_with fail
  go_loopw [3, 12] (fun tv iv wr => ∃ k : Nat, k ≤ ws.length ∧ iv = .int .i64 k ∧ tv = .int .i64 ((m + sumL (ws.take k) : Nat) : Int) ∧ wr = w) (fun _ iv _ => ws.length - (intOf iv).toNat)
  case atStart => exact ⟨0, by omega, rfl, by simp [sumL], rfl⟩
  case round =>
    obtain ⟨k, hk, rfl, rfl, rfl⟩ := hrel
    by_cases hlt : k < ws.length
    · obtain ⟨g, rfl⟩ := ha (by omega)
      have hc := strs_cells HH.out rfl k hlt
      have hsn : sumL (ws.take (k + 1)) = sumL (ws.take k) + ws[k].length := by rw [take_snocL ws k hlt, sumL_snoc]
      have hst := sumL_take ws (k + 1)
      have hszk : (ByteArray.mk ws[k].toArray).size = ws[k].length := by show ws[k].toArray.size = _; simp
      obtain ⟨x, hx⟩ : ∃ x, (ByteArray.mk ws[k].toArray) = x := ⟨_, rfl⟩
      rw [hx] at hc hszk
      rw [← hszk] at hsn
      obtain ⟨s1, hs1⟩ : ∃ s1, sumL (ws.take k) = s1 := ⟨_, rfl⟩
      rw [hs1] at hsn ⊢
      have Hsn := hide hsn
      rw [hsn] at hst
      clear hsn hszk hx hs1
      go_wp2_with fail
      go_roundw
      case rel => exact ⟨k + 1, by omega, by go_num, by rw [Hsn.out]; go_num, by trivial⟩
      case measure => simp [intOf]; omega
    · have ek : k = ws.length := by omega
      subst ek
      rw [List.take_length]
      go_wp2_with fail
      go_ret
      exact ⟨ret_int (by rw [Hl.out]), by trivial⟩
end Go.Proofs.YtpdoacfiiledcaaGreatDoor.Pak

namespace Go.Proofs.YtpdoacfiiledcaaGreatDoor.Pak
open Go.RowKit Go.Proofs.YtpdoacfiiledcaaGreatDoor Go.Proofs.YtpdoacfiiledcaaGreatDoor.Spl SiftM
set_option linter.unusedVariables false

abbrev Tx := Nat × List (List UInt8)
def mayB : List Tx → Int → Bool
  | [], c => c == 0
  | t :: r, c => if 120 < lenF t.2 then false else mayB r (c - t.2.length)

theorem tx2_get : ∀ (xs : List (Nat × Value)) (i : Nat) (h : i < xs.length), (tx2 xs)[i * 2]? = some (.int .i64 (xs[i].1 : Int)) ∧ (tx2 xs)[i * 2 + 1]? = some xs[i].2
  | x :: r, 0, h => by simp [tx2]
  | x :: r, i + 1, h => by
    have ih := tx2_get r i (by simpa using h)
    have e : tx2 (x :: r) = .int .i64 (x.1 : Int) :: x.2 :: tx2 r := by simp [tx2]
    rw [e, show (i + 1) * 2 = i * 2 + 2 by omega, show i * 2 + 2 + 1 = i * 2 + 1 + 2 by omega]
    simpa using ih
/-- The cells of a list of texts. -/
theorem TextsIs.cells {w : World} {base g cap n : Nat} {T : List Tx} {vs : List Value} (h : TextsIs w base (.slice (some ⟨g, 0, none⟩) n cap) T vs) (i : Nat) (hi : i < T.length) (h2 : i < vs.length) :
    w.cell? ⟨g, i * 2, none⟩ = some (.int .i64 (T[i].1 : Int)) ∧ w.cell? ⟨g, i * 2 + 1, none⟩ = some vs[i] := by
  have hz : i < ((T.map Prod.fst).zip vs).length := by simp; omega
  have hg := tx2_get ((T.map Prod.fst).zip vs) i hz
  have ea : ∀ j, (⟨g, 0, none⟩ : Addr).add j = ⟨g, j, none⟩ := by intro j; unfold Addr.add; split <;> simp_all
  have c0 := h.row.cells (g := g) rfl _ _ hg.1
  have c1 := h.row.cells (g := g) rfl _ _ hg.2
  rw [ea] at c0 c1
  simp at c0 c1
  exact ⟨c0, c1⟩
theorem TextsIs.kp {S : List Nat} {w w' : World} {base : Nat} {v : Value} {T : List Tx} {vs : List Value} (h : TextsIs w base v T vs) (k : Kp S w w') (hv : ∀ x ∈ S, v.ownBlock ≠ some x) (hvs : ∀ i (h : i < vs.length), ∀ x ∈ S, vs[i].ownBlock ≠ some x) : TextsIs w' base v T vs :=
  ⟨h.len, k.owns h.row (fun g hg hx => hv g hx hg), fun i h1 h2 => k.owns (h.each i h1 h2) (fun g hg hx => hvs i h2 g hx hg), h.apart⟩
theorem TextsIs.kp0 {w w' : World} {base : Nat} {v : Value} {T : List Tx} {vs : List Value} (h : TextsIs w base v T vs) (k : Kp [] w w') : TextsIs w' base v T vs := h.kp k (by simp) (by simp)

set_option maxHeartbeats 800000 in
set_option maxRecDepth 100000 in
theorem maybe_any (B c : Nat) (v : Value) (T : List Tx) (vs : List Value) (w : World) (h : TextsIs w B v T vs) (hn : T.length ≤ 1000) (hc : c ≤ 1000000000) (hs : ∀ t ∈ T, t.2.length ≤ 1000 ∧ sumL t.2 ≤ 2000000) :
    Calls Tryz.prog 295 #[v, .int .i64 c] w fun e w' => e = .returned (.bool (mayB T c)) ∧ Kp [] w w' := by
  obtain ⟨a, cap, rfl, ha⟩ := owns_forms h.row
  obtain ⟨res, hres⟩ : ∃ res, mayB T c = res := ⟨_, rfl⟩
  rw [hres]
  have HR := hide hres
  have HH := hide h
  have HS := hide hs
  clear h hs hres
  go_enter Tryz.func295, Tryz.ntmps295
  go_wp2_with fail
  go_loopw [1, 9] (fun cv iv wr => ∃ (k : Nat) (c' : Int), k ≤ T.length ∧ iv = .int .i64 k ∧ cv = .int .i64 c' ∧ mayB (T.drop k) c' = res ∧ c' ≤ 1000000000 ∧ -(1000 * (k : Int)) ≤ c' ∧ Kp [] w wr) (fun _ iv _ => T.length - (intOf iv).toNat)
  case atStart => exact ⟨0, c, by omega, rfl, rfl, HR.out, by omega, by omega, Kp.refl _ _⟩
  case round =>
    obtain ⟨k, c', hk, rfl, rfl, hd, hc1, hc2, hkp⟩ := hrel
    by_cases hlt : k < T.length
    · obtain ⟨g, rfl⟩ := ha (by omega)
      have hh := HH.out.kp0 hkp
      have hkv : k < vs.length := by rw [hh.len]; exact hlt
      obtain ⟨q0, q1⟩ := hh.cells k hlt hkv
      have he := hh.each k hlt hkv
      obtain ⟨av, cv, ev, _⟩ := owns_forms he
      rw [ev] at q1 he
      have hsk := HS.out T[k] (List.getElem_mem hlt)
      have hdk : T.drop k = T[k] :: T.drop (k + 1) := List.drop_eq_getElem_cons hlt
      rw [hdk] at hd
      obtain ⟨t, ht⟩ : ∃ t, T[k] = t := ⟨_, rfl⟩
      rw [ht] at q0 q1 he hsk hd
      obtain ⟨id, ws⟩ := t
      simp only at q0 q1 he hsk
      obtain ⟨W, hW⟩ : ∃ W, wr.alloc (.cells #[.int .i64 (id : Int), .slice av ws.length cv] 226) = W := ⟨_, rfl⟩
      have kW : Kp [] wr W := by rw [← hW]; exact (Kp.refl _ _).alloc _
      have hL := length_any B (.slice av ws.length cv) ws W (kW.owns he (by simp)) (by omega) (by omega)
      have hb : W.heap[wr.heap.size]? = some (.cells #[.int .i64 (id : Int), .slice av ws.length cv] 226 (0, 0)) := by rw [← hW]; exact heap_alloc_new wr _
      obtain ⟨p0, p1, _, _⟩ := rd_cells hb
      have HD := hide hd
      have HL := hide hL
      have HE := hide he
      have hkW := hkp.next kW
      clear hd hL he hdk ht ev hb hh
      go_wp2_with fail
      clear hW
      refine HL.out.mono ?_
      rintro e w1 ⟨rfl, rfl⟩
      by_cases hl : 120 < lenF ws
      · have hdd : Hid (false = res) := by
          have := HD.out
          simp only [mayB] at this
          rw [if_pos hl] at this
          exact this
        generalize lenF ws = x at *
        go_wp2_with fail
        go_ret
        exact ⟨ret_bool hdd.out, hkW⟩
      · have hdd : Hid (mayB (T.drop (k + 1)) (c' - (ws.length : Int)) = res) := by
          have := HD.out
          simp only [mayB] at this
          rw [if_neg hl] at this
          exact this
        generalize lenF ws = x at *
        go_wp2_with fail
        go_roundw
        case rel => exact ⟨k + 1, c' - (ws.length : Int), by omega, by go_num, by go_num, hdd.out, by omega, by omega, hkW⟩
        case measure => simp [intOf]; omega
    · have ek : k = T.length := by omega
      subst ek
      rw [List.drop_length] at hd
      have HD := hide hd
      clear hd
      go_wp2_with fail
      go_ret
      exact ⟨ret_bool (by rw [← HD.out]; rfl), hkp⟩
end Go.Proofs.YtpdoacfiiledcaaGreatDoor.Pak

namespace Go.Proofs.YtpdoacfiiledcaaGreatDoor.Pak
open Go.RowKit Go.Proofs.YtpdoacfiiledcaaGreatDoor Go.Proofs.YtpdoacfiiledcaaGreatDoor.Spl SiftM
set_option linter.unusedVariables false

theorem tup2 {a b c d : Value} (h1 : a = c) (h2 : b = d) : Ending.returned (.tuple #[a, b]) = .returned (.tuple #[c, d]) := by rw [h1, h2]

set_option maxHeartbeats 800000 in
set_option maxRecDepth 100000 in
/-- Bytes that are not read to their end are no file. -/
theorem pread_bad (a : Option Addr) (cap : Nat) (l : List UInt8) (w : World) (hv : Vw w w.heap.size a l) (hl : l.length ≤ 2000000) (hc : l.length ≤ cap) (hc2 : cap ≤ 9223372036854775807) (hbad : (tableF (unsealF l)).2.2.2.2 ≠ some []) :
    Calls Tryz.prog 181 #[.slice a l.length cap] w fun e w' => e = .returned (.tuple #[.slice none 0 0, .bool false]) ∧ Kp [] w w' := by
  have hU := hide (unseal_any a cap l w hv hl hc hc2)
  have hT := hide (fun R w' (h : Rd w' R w.heap.size (unsealF l)) (hB : w.heap.size ≤ w'.heap.size) => table_rd R w.heap.size (unsealF l) w' h hB)
  generalize hX : tableF (unsealF l) = X at *
  obtain ⟨ids, terms, c, f, st⟩ := X
  simp only at hbad hT
  clear hX
  go_enter Tryz.func181, Tryz.ntmps181
  go_wp2_with fail
  refine hU.out.mono ?_
  rintro e w1 ⟨R, rfl, hr1, hk1⟩
  have HR1 := hide hr1
  have hsz1 := hk1.size
  clear hr1
  go_wp2_with fail
  refine (hT.out R w1 HR1.out hsz1).mono ?_
  rintro e w2 ⟨T, M, iv, tv, rfl, hr2, ht2, hb2⟩
  obtain ⟨ai, ci, ei, _⟩ := owns_forms ht2.ids
  obtain ⟨at', ct, et, _⟩ := owns_forms ht2.terms
  subst ei et
  have hsz2 := hb2.size
  obtain ⟨W, hW⟩ : ∃ W, w2.alloc (.cells #[.slice ai ids.length ci, .slice at' terms.length ct, .map (some M)] 316) = W := ⟨_, rfl⟩
  have kW : Kp [] w2 W := by rw [← hW]; exact (Kp.refl _ _).alloc _
  have hrW := hr2.kp kW (by simp) (by simp)
  have hD := hide (done_rd R w.heap.size st W hrW)
  have hdd : decide (st = some []) = false := by simpa using hbad
  rw [hdd] at hD
  clear hr2 ht2 hrW hdd
  go_wp2_with fail
  clear hW
  refine hD.out.mono ?_
  rintro e w3 ⟨rfl, rfl⟩
  go_wp2_with fail
  go_ret2
  refine ⟨rfl, ?_⟩
  have hbel : Below w.heap.size w w3 := ((hk1.below (Nat.le_refl _) (by simp)).trans hb2).trans (kW.below (by omega) (by simp))
  exact Kp.of_below [] hbel

set_option maxHeartbeats 800000 in
set_option maxRecDepth 100000 in
theorem pread_good (a : Option Addr) (cap : Nat) (l : List UInt8) (ids : List Nat) (terms : List (List UInt8)) (c : Nat) (f : Nat → Nat → Option Nat) (rows : List (List Nat)) (w : World) (hv : Vw w w.heap.size a l) (hl : l.length ≤ 2000000) (hc : l.length ≤ cap) (hc2 : cap ≤ 9223372036854775807)
    (htab : tableF (unsealF l) = (ids, terms, c, f, some [])) (hr : RowsAre f rows terms.length) (hlen : rows.length = ids.length) (hn : ids.length ≤ 60) (hnt : terms.length ≤ 100000) (hcc : c ≤ 1000000000) (hsm : ∀ r ∈ rows, (wordsOf terms r).length ≤ 1000 ∧ sumL (wordsOf terms r) ≤ 2000000) :
    Calls Tryz.prog 181 #[.slice a l.length cap] w fun e w' => (mayB (ids.zip (rows.map (wordsOf terms))) c = false ∧ e = .returned (.tuple #[.slice none 0 0, .bool false]) ∨
      mayB (ids.zip (rows.map (wordsOf terms))) c = true ∧ ∃ v vs, e = .returned (.tuple #[v, .bool true]) ∧ TextsIs w' w.heap.size v (ids.zip (rows.map (wordsOf terms))) vs) ∧ Kp [] w w' := by
  have hU := hide (unseal_any a cap l w hv hl hc hc2)
  have hT := hide (fun R w' (h : Rd w' R w.heap.size (unsealF l)) (hB : w.heap.size ≤ w'.heap.size) => table_rd R w.heap.size (unsealF l) w' h hB)
  rw [htab] at hT
  simp only at hT
  obtain ⟨TT, hTT⟩ : ∃ TT, ids.zip (rows.map (wordsOf terms)) = TT := ⟨_, rfl⟩
  rw [hTT]
  have HTT := hide hTT
  clear hTT
  have HR := hide hr
  have Hlen := hide hlen
  have HS := hide hsm
  clear hr hlen hsm htab
  go_enter Tryz.func181, Tryz.ntmps181
  go_wp2_with fail
  refine hU.out.mono ?_
  rintro e w1 ⟨R, rfl, hr1, hk1⟩
  have HR1 := hide hr1
  have hsz1 := hk1.size
  clear hr1
  go_wp2_with fail
  refine (hT.out R w1 HR1.out hsz1).mono ?_
  rintro e w2 ⟨T, M, iv, tv, rfl, hr2, ht2, hb2⟩
  obtain ⟨ai, ci, ei, _⟩ := owns_forms ht2.ids
  obtain ⟨at', ct, et, _⟩ := owns_forms ht2.terms
  subst ei et
  have hsz2 := hb2.size
  obtain ⟨W, hW⟩ : ∃ W, w2.alloc (.cells #[.slice ai ids.length ci, .slice at' terms.length ct, .map (some M)] 316) = W := ⟨_, rfl⟩
  have kW : Kp [] w2 W := by rw [← hW]; exact (Kp.refl _ _).alloc _
  have hrW := hr2.kp kW (by simp) (by simp)
  have hD := hide (done_rd R w.heap.size (some []) W hrW)
  have hbW : W.heap[w2.heap.size]? = some (.cells #[.slice ai ids.length ci, .slice at' terms.length ct, .map (some M)] 316 (0, 0)) := by rw [← hW]; exact heap_alloc_new w2 _
  obtain ⟨b0, b1, b2, _, _, _⟩ := tb_cells hbW
  have hmW := ht2.map.kp kW (by simp)
  have hX := hide (texts_any M c w.heap.size f (.slice ai ids.length ci) (.slice at' terms.length ct) ids terms rows W hmW (kW.owns ht2.ids (by simp)) (kW.owns ht2.terms (by simp)) HR.out Hlen.out hn hnt)
  rw [HTT.out] at hX
  have HMW := hide hmW
  have HBW := hide hbW
  have hbel : Below w.heap.size w W := ((hk1.below (Nat.le_refl _) (by simp)).trans hb2).trans (kW.below (by omega) (by simp))
  simp only [decide_true] at hD
  clear hr2 ht2 hrW hmW hbW
  go_wp2_with fail
  clear hW
  refine hD.out.mono ?_
  rintro e w3 ⟨rfl, rfl⟩
  go_wp2_with fail
  refine hX.out.mono ?_
  rintro e w4 ⟨v, vs, rfl, ht4, hk4⟩
  obtain ⟨av, cv, ev, _⟩ := owns_forms ht4.row
  subst ev
  have hb4 := hk4.heap HBW.out (by simp)
  obtain ⟨d0, d1, d2, _, _, _⟩ := tb_cells hb4
  have hm4 := HMW.out.kp hk4 (by simp)
  have hlen4 := hm4.len
  have hzl : TT.length ≤ 1000 := by rw [← HTT.out]; simp [Hlen.out]; omega
  have hMB := hide (maybe_any w3.heap.size c _ _ vs w4 ht4 hzl hcc (by
    intro t ht
    rw [← HTT.out] at ht
    have := List.of_mem_zip ht
    obtain ⟨r, hr, he⟩ := List.mem_map.1 this.2
    rw [← he]
    exact HS.out r hr))
  have hsz3 := hbel.size
  have ht4' : TextsIs w4 w.heap.size (.slice av TT.length cv) TT vs := by
    refine ⟨ht4.len, ⟨ht4.row.1, ?_⟩, fun i h1 h2 => ⟨(ht4.each i h1 h2).1, ?_⟩, ht4.apart⟩
    · rcases ht4.row.2 with h' | ⟨g, cp, cur, e1, hb, rest⟩
      · exact .inl h'
      · exact .inr ⟨g, cp, cur, e1, by omega, rest⟩
    · rcases (ht4.each i h1 h2).2 with h' | ⟨g, cp, cur, e1, hb, rest⟩
      · exact .inl h'
      · exact .inr ⟨g, cp, cur, e1, by omega, rest⟩
  have HT4 := hide ht4'
  clear ht4 ht4' hb4 hm4 HS
  have HL4 := hide hlen4
  clear b0 b1 b2
  go_wp2_with fail
  refine hMB.out.mono ?_
  rintro e w5 ⟨rfl, hk5⟩
  have hbel5 : Below w.heap.size w w5 := hbel.trans ((hk4.next hk5).below (by omega) (by simp))
  cases hmb : mayB TT c
  · go_wp2_with fail
    go_ret2
    exact ⟨.inl ⟨hmb, rfl⟩, Kp.of_below [] hbel5⟩
  · go_wp2_with fail
    go_ret2
    exact ⟨.inr ⟨hmb, _, vs, rfl, HT4.out.kp0 hk5⟩, Kp.of_below [] hbel5⟩

set_option maxHeartbeats 800000 in
set_option maxRecDepth 100000 in
theorem read_bad (a : Option Addr) (cap : Nat) (l : List UInt8) (w : World) (hv : Vw w w.heap.size a l) (hl : l.length ≤ 2000000) (hc : l.length ≤ cap) (hc2 : cap ≤ 9223372036854775807) (hbad : (tableF (unsealF l)).2.2.2.2 ≠ some []) :
    Calls Tryz.prog 83 #[.slice a l.length cap] w fun e w' => e = .returned (.tuple #[.slice none 0 0, .int .i64 12]) ∧ Kp [] w w' := by
  have hP := hide (pread_bad a cap l w hv hl hc hc2 hbad)
  clear hbad hv
  go_enter Tryz.func83, Tryz.ntmps83
  go_wp2_with fail
  refine hP.out.mono ?_
  rintro e w1 ⟨rfl, hk1⟩
  go_wp2_with fail
  go_ret2
  exact ⟨rfl, hk1⟩

set_option maxHeartbeats 800000 in
set_option maxRecDepth 100000 in
theorem read_good (a : Option Addr) (cap : Nat) (l : List UInt8) (ids : List Nat) (terms : List (List UInt8)) (c : Nat) (f : Nat → Nat → Option Nat) (rows : List (List Nat)) (w : World) (hv : Vw w w.heap.size a l) (hl : l.length ≤ 2000000) (hc : l.length ≤ cap) (hc2 : cap ≤ 9223372036854775807)
    (htab : tableF (unsealF l) = (ids, terms, c, f, some [])) (hr : RowsAre f rows terms.length) (hlen : rows.length = ids.length) (hn : ids.length ≤ 60) (hnt : terms.length ≤ 100000) (hcc : c ≤ 1000000000) (hsm : ∀ r ∈ rows, (wordsOf terms r).length ≤ 1000 ∧ sumL (wordsOf terms r) ≤ 2000000) (hmb : mayB (ids.zip (rows.map (wordsOf terms))) c = true) :
    Calls Tryz.prog 83 #[.slice a l.length cap] w fun e w' => ∃ v vs, e = .returned (.tuple #[v, .int .i64 0]) ∧ TextsIs w' w.heap.size v (ids.zip (rows.map (wordsOf terms))) vs ∧ Kp [] w w' := by
  have hP := hide (pread_good a cap l ids terms c f rows w hv hl hc hc2 htab hr hlen hn hnt hcc hsm)
  rw [hmb] at hP
  generalize ids.zip (rows.map (wordsOf terms)) = TT at *
  clear htab hr hsm hv hmb
  go_enter Tryz.func83, Tryz.ntmps83
  go_wp2_with fail
  refine hP.out.mono ?_
  rintro e w1 ⟨h | ⟨_, v, vs, rfl, ht⟩, hk1⟩
  · simp at h
  obtain ⟨av, cv, ev, _⟩ := owns_forms ht.row
  subst ev
  have HT := hide ht
  clear ht
  go_wp2_with fail
  go_ret2
  exact ⟨_, vs, rfl, HT.out, hk1⟩
end Go.Proofs.YtpdoacfiiledcaaGreatDoor.Pak
