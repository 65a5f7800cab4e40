import Derived.Test.YtbkepgmgebmceaaGreatDoorU23

namespace Go.Proofs.YtbkepgmgebmceaaGreatDoor.Pak
open Go.RowKit Go.Proofs.YtbkepgmgebmceaaGreatDoor Go.Proofs.YtbkepgmgebmceaaGreatDoor.Spl SiftM
set_option linter.unusedVariables false

def sumL : List (List UInt8) → Nat
  | [] => 0
  | x :: r => x.length + sumL r
def lenF (ws : List (List UInt8)) : Nat := (ws.length - 1) + sumL ws
theorem sumL_snoc : ∀ (l : List (List UInt8)) (x : List UInt8), sumL (l ++ [x]) = sumL l + x.length
  | [], x => by simp [sumL]
  | y :: r, x => by simp [sumL, sumL_snoc r x]; omega
theorem sumL_take : ∀ (l : List (List UInt8)) (k : Nat), sumL (l.take k) ≤ sumL l
  | [], k => by simp [sumL]
  | y :: r, 0 => by simp [sumL]
  | y :: r, k + 1 => by have := sumL_take r k; simp [sumL]; omega

set_option maxHeartbeats 800000 in
set_option maxRecDepth 100000 in
theorem length_any (B : Nat) (v : Value) (ws : List (List UInt8)) (w : World) (h : w.ownsRow B 9 1 v ws.length (strV ws)) (hn : ws.length ≤ 2000000) (hs : sumL ws ≤ 100000000) :
    Calls Tryz.prog 315 #[v] w fun e w' => e = .returned (.int .i64 (lenF ws)) ∧ w' = w := by
  obtain ⟨a, cap, rfl, ha⟩ := owns_forms h
  have hmax : max ((ws.length : Int) - 1) 0 = ((ws.length - 1 : Nat) : Int) := by omega
  have Hl : Hid (lenF ws = (ws.length - 1) + sumL ws) := rfl
  generalize lenF ws = res at *
  obtain ⟨m, hm⟩ : ∃ m, ws.length - 1 = m := ⟨_, rfl⟩
  rw [hm] at hmax Hl
  have hmle : m ≤ 2000000 := by omega
  have HH := hide h
  clear h hm
  go_enter Tryz.func315, Tryz.ntmps315
  go_wp2_with fail
  go_loopw [3, 12] (fun tv iv wr => ∃ k : Nat, k ≤ ws.length ∧ iv = .int .i64 k ∧ tv = .int .i64 ((m + sumL (ws.take k) : Nat) : Int) ∧ wr = w) (fun _ iv _ => ws.length - (intOf iv).toNat)
  case atStart => exact ⟨0, by omega, rfl, by simp [sumL], rfl⟩
  case round =>
    obtain ⟨k, hk, rfl, rfl, rfl⟩ := hrel
    by_cases hlt : k < ws.length
    · obtain ⟨g, rfl⟩ := ha (by omega)
      have hc := strs_cells HH.out rfl k hlt
      have hsn : sumL (ws.take (k + 1)) = sumL (ws.take k) + ws[k].length := by rw [take_snocL ws k hlt, sumL_snoc]
      have hst := sumL_take ws (k + 1)
      have hszk : (ByteArray.mk ws[k].toArray).size = ws[k].length := by show ws[k].toArray.size = _; simp
      obtain ⟨x, hx⟩ : ∃ x, (ByteArray.mk ws[k].toArray) = x := ⟨_, rfl⟩
      rw [hx] at hc hszk
      rw [← hszk] at hsn
      obtain ⟨s1, hs1⟩ : ∃ s1, sumL (ws.take k) = s1 := ⟨_, rfl⟩
      rw [hs1] at hsn ⊢
      have Hsn := hide hsn
      rw [hsn] at hst
      clear hsn hszk hx hs1
      go_wp2_with fail
      go_roundw
      case rel => exact ⟨k + 1, by omega, by go_num, by rw [Hsn.out]; go_num, by trivial⟩
      case measure => simp [intOf]; omega
    · have ek : k = ws.length := by omega
      subst ek
      rw [List.take_length]
      go_wp2_with fail
      go_ret
      exact ⟨ret_int (by rw [Hl.out]), by trivial⟩
end Go.Proofs.YtbkepgmgebmceaaGreatDoor.Pak

namespace Go.Proofs.YtbkepgmgebmceaaGreatDoor.Pak
open Go.RowKit Go.Proofs.YtbkepgmgebmceaaGreatDoor Go.Proofs.YtbkepgmgebmceaaGreatDoor.Spl SiftM
set_option linter.unusedVariables false

abbrev Tx := Nat × List (List UInt8)
def mayB : List Tx → Int → Bool
  | [], c => c == 0
  | t :: r, c => if 120 < lenF t.2 then false else mayB r (c - t.2.length)

theorem tx2_get : ∀ (xs : List (Nat × Value)) (i : Nat) (h : i < xs.length), (tx2 xs)[i * 2]? = some (.int .i64 (xs[i].1 : Int)) ∧ (tx2 xs)[i * 2 + 1]? = some xs[i].2
  | x :: r, 0, h => by simp [tx2]
  | x :: r, i + 1, h => by
    have ih := tx2_get r i (by simpa using h)
    have e : tx2 (x :: r) = .int .i64 (x.1 : Int) :: x.2 :: tx2 r := by simp [tx2]
    rw [e, show (i + 1) * 2 = i * 2 + 2 by omega, show i * 2 + 2 + 1 = i * 2 + 1 + 2 by omega]
    simpa using ih
/-- The cells of a list of texts. -/
theorem TextsIs.cells {w : World} {base g cap n : Nat} {T : List Tx} {vs : List Value} (h : TextsIs w base (.slice (some ⟨g, 0, none⟩) n cap) T vs) (i : Nat) (hi : i < T.length) (h2 : i < vs.length) :
    w.cell? ⟨g, i * 2, none⟩ = some (.int .i64 (T[i].1 : Int)) ∧ w.cell? ⟨g, i * 2 + 1, none⟩ = some vs[i] := by
  have hz : i < ((T.map Prod.fst).zip vs).length := by simp; omega
  have hg := tx2_get ((T.map Prod.fst).zip vs) i hz
  have ea : ∀ j, (⟨g, 0, none⟩ : Addr).add j = ⟨g, j, none⟩ := by intro j; unfold Addr.add; split <;> simp_all
  have c0 := h.row.cells (g := g) rfl _ _ hg.1
  have c1 := h.row.cells (g := g) rfl _ _ hg.2
  rw [ea] at c0 c1
  simp at c0 c1
  exact ⟨c0, c1⟩
theorem TextsIs.kp {S : List Nat} {w w' : World} {base : Nat} {v : Value} {T : List Tx} {vs : List Value} (h : TextsIs w base v T vs) (k : Kp S w w') (hv : ∀ x ∈ S, v.ownBlock ≠ some x) (hvs : ∀ i (h : i < vs.length), ∀ x ∈ S, vs[i].ownBlock ≠ some x) : TextsIs w' base v T vs :=
  ⟨h.len, k.owns h.row (fun g hg hx => hv g hx hg), fun i h1 h2 => k.owns (h.each i h1 h2) (fun g hg hx => hvs i h2 g hx hg), h.apart⟩
theorem TextsIs.kp0 {w w' : World} {base : Nat} {v : Value} {T : List Tx} {vs : List Value} (h : TextsIs w base v T vs) (k : Kp [] w w') : TextsIs w' base v T vs := h.kp k (by simp) (by simp)

set_option maxHeartbeats 800000 in
set_option maxRecDepth 100000 in
theorem maybe_any (B c : Nat) (v : Value) (T : List Tx) (vs : List Value) (w : World) (h : TextsIs w B v T vs) (hn : T.length ≤ 1000) (hc : c ≤ 1000000000) (hs : ∀ t ∈ T, t.2.length ≤ 1000 ∧ sumL t.2 ≤ 2000000) :
    Calls Tryz.prog 252 #[v, .int .i64 c] w fun e w' => e = .returned (.bool (mayB T c)) ∧ Kp [] w w' := by
  obtain ⟨a, cap, rfl, ha⟩ := owns_forms h.row
  obtain ⟨res, hres⟩ : ∃ res, mayB T c = res := ⟨_, rfl⟩
  rw [hres]
  have HR := hide hres
  have HH := hide h
  have HS := hide hs
  clear h hs hres
  go_enter Tryz.func252, Tryz.ntmps252
  go_wp2_with fail
  go_loopw [1, 9] (fun cv iv wr => ∃ (k : Nat) (c' : Int), k ≤ T.length ∧ iv = .int .i64 k ∧ cv = .int .i64 c' ∧ mayB (T.drop k) c' = res ∧ c' ≤ 1000000000 ∧ -(1000 * (k : Int)) ≤ c' ∧ Kp [] w wr) (fun _ iv _ => T.length - (intOf iv).toNat)
  case atStart => exact ⟨0, c, by omega, rfl, rfl, HR.out, by omega, by omega, Kp.refl _ _⟩
  case round =>
    obtain ⟨k, c', hk, rfl, rfl, hd, hc1, hc2, hkp⟩ := hrel
    by_cases hlt : k < T.length
    · obtain ⟨g, rfl⟩ := ha (by omega)
      have hh := HH.out.kp0 hkp
      have hkv : k < vs.length := by rw [hh.len]; exact hlt
      obtain ⟨q0, q1⟩ := hh.cells k hlt hkv
      have he := hh.each k hlt hkv
      obtain ⟨av, cv, ev, _⟩ := owns_forms he
      rw [ev] at q1 he
      have hsk := HS.out T[k] (List.getElem_mem hlt)
      have hdk : T.drop k = T[k] :: T.drop (k + 1) := List.drop_eq_getElem_cons hlt
      rw [hdk] at hd
      obtain ⟨t, ht⟩ : ∃ t, T[k] = t := ⟨_, rfl⟩
      rw [ht] at q0 q1 he hsk hd
      obtain ⟨id, ws⟩ := t
      simp only at q0 q1 he hsk
      obtain ⟨W, hW⟩ : ∃ W, wr.alloc (.cells #[.int .i64 (id : Int), .slice av ws.length cv] 204) = W := ⟨_, rfl⟩
      have kW : Kp [] wr W := by rw [← hW]; exact (Kp.refl _ _).alloc _
      have hL := length_any B (.slice av ws.length cv) ws W (kW.owns he (by simp)) (by omega) (by omega)
      have hb : W.heap[wr.heap.size]? = some (.cells #[.int .i64 (id : Int), .slice av ws.length cv] 204 (0, 0)) := by rw [← hW]; exact heap_alloc_new wr _
      obtain ⟨p0, p1, _, _⟩ := rd_cells hb
      have HD := hide hd
      have HL := hide hL
      have HE := hide he
      have hkW := hkp.next kW
      clear hd hL he hdk ht ev hb hh
      go_wp2_with fail
      clear hW
      refine HL.out.mono ?_
      rintro e w1 ⟨rfl, rfl⟩
      by_cases hl : 120 < lenF ws
      · have hdd : Hid (false = res) := by
          have := HD.out
          simp only [mayB] at this
          rw [if_pos hl] at this
          exact this
        generalize lenF ws = x at *
        go_wp2_with fail
        go_ret
        exact ⟨ret_bool hdd.out, hkW⟩
      · have hdd : Hid (mayB (T.drop (k + 1)) (c' - (ws.length : Int)) = res) := by
          have := HD.out
          simp only [mayB] at this
          rw [if_neg hl] at this
          exact this
        generalize lenF ws = x at *
        go_wp2_with fail
        go_roundw
        case rel => exact ⟨k + 1, c' - (ws.length : Int), by omega, by go_num, by go_num, hdd.out, by omega, by omega, hkW⟩
        case measure => simp [intOf]; omega
    · have ek : k = T.length := by omega
      subst ek
      rw [List.drop_length] at hd
      have HD := hide hd
      clear hd
      go_wp2_with fail
      go_ret
      exact ⟨ret_bool (by rw [← HD.out]; rfl), hkp⟩
end Go.Proofs.YtbkepgmgebmceaaGreatDoor.Pak

namespace Go.Proofs.YtbkepgmgebmceaaGreatDoor.Pak
open Go.RowKit Go.Proofs.YtbkepgmgebmceaaGreatDoor Go.Proofs.YtbkepgmgebmceaaGreatDoor.Spl SiftM
set_option linter.unusedVariables false

def wordsB (b : ByteArray) : List (List UInt8) := sp b.size b.data.toList
abbrev Nd := Nat × ByteArray
def dcs (N : List Nd) : List Dc := N.map fun x => ((x.1 : Int), x.2)
def txs (N : List Nd) : List Tx := N.map fun x => (x.1, wordsB x.2)
def longB (N : List Nd) : Bool := N.any fun x => decide (120 < x.2.size)

theorem TextsIs.nil (w : World) (base : Nat) : TextsIs w base (.slice none 0 0) [] [] := ⟨rfl, World.ownsRow_nil _ _ _ _, fun i h => by simp at h, fun i j h => by simp at h⟩

/-- A list of texts behind an append. -/
theorem TextsIs.snoc {w w2 : World} {base : Nat} {v v' lv : Value} {T : List Tx} {vs : List Value} {id : Nat} {ws : List (List UInt8)} {S : List Nat} (h : TextsIs w base v T vs) (hl : w.ownsRow base 9 1 lv ws.length (strV ws)) (hap : ∀ i (hi : i < vs.length), ∀ g, vs[i].ownBlock = some g → lv.ownBlock ≠ some g)
    (hrow : w2.ownsRow base 204 2 v' (T.length + 1) (tx2 ((T.map Prod.fst).zip vs) ++ [.int .i64 (id : Int), lv])) (k : Kp v.ownBlock.toList w w2) : TextsIs w2 base v' (T ++ [(id, ws)]) (vs ++ [lv]) := by
  have hne : ∀ {n : Nat} {u : Value} {xs : List Value}, w.ownsRow base 9 1 u n xs → ∀ g, u.ownBlock = some g → g ∉ v.ownBlock.toList := by
    intro n u xs hu g hg hx
    have hx' : v.ownBlock = some g := by simpa using hx
    rcases h.row.2 with ⟨rfl, _⟩ | ⟨g', cap, cur, rfl, hb, hgg, rest⟩
    · simp [Value.ownBlock] at hx'
    · simp [Value.ownBlock] at hx'
      subst hx'
      exact owns_ne hu hgg (by decide) hg
  refine ⟨by simp [h.len], ?_, ?_, ?_⟩
  · rw [List.length_append, List.map_append, List.zip_append (by simp [h.len]), show [(id, ws)].map Prod.fst = [id] from rfl, show [id].zip [lv] = [(id, lv)] from rfl, tx2_snoc]
    exact hrow
  · intro i h1 h2
    by_cases e : i < T.length
    · have e2 : i < vs.length := by rw [h.len]; exact e
      rw [List.getElem_append_left e2]
      simp only [List.getElem_append_left e]
      exact k.owns (h.each i e e2) (hne (h.each i e e2))
    · have ei : i = T.length := by simp at h1; omega
      subst ei
      have e2 : (vs ++ [lv])[T.length] = lv := by rw [List.getElem_append_right (by rw [h.len]; omega)]; simp [h.len]
      rw [e2]
      simp only [List.getElem_append_right (Nat.le_refl _), Nat.sub_self, List.getElem_cons_zero]
      exact k.owns hl (hne hl)
  · intro i j hi hj hij g hg
    by_cases e : j < vs.length
    · rw [List.getElem_append_left e]
      rw [List.getElem_append_left (by omega)] at hg
      exact h.apart i j (by omega) e hij g hg
    · have ej : j = vs.length := by simp at hj; omega
      subst ej
      rw [List.getElem_append_left (by omega)] at hg
      have e2 : (vs ++ [lv])[vs.length] = lv := by rw [List.getElem_append_right (Nat.le_refl _)]; simp
      rw [e2]
      exact hap i (by omega) g hg

set_option maxHeartbeats 2000000 in
set_option maxRecDepth 100000 in
theorem textsOf_any (B : Nat) (v : Value) (N : List Nd) (w : World) (h : w.ownsRow B 246 2 v (dcs N).length (docV (dcs N))) (hn : N.length ≤ 1000) (hid : ∀ x ∈ N, x.1 ≤ 99999) :
    Calls Tryz.prog 150 #[v] w fun e w' => (longB N = true ∧ e = .returned (.tuple #[.slice none 0 0, .int .i64 4]) ∨ longB N = false ∧ ∃ v' vs, e = .returned (.tuple #[v', .int .i64 0]) ∧ TextsIs w' w.heap.size v' (txs N) vs) ∧ Kp [] w w' := by
  obtain ⟨i0, hi, hz0, hz1, hz2⟩ := info_parts info52
  have hlN : (dcs N).length = N.length := by simp [dcs]
  rw [hlN] at h
  obtain ⟨a, cap, rfl, ha⟩ := owns_forms h
  have HH := hide h
  have HID := hide hid
  clear h hid
  go_enter Tryz.func150, Tryz.ntmps150
  go_wp2_with fail
  go_loopw [4, 11] (fun lv iv wr => ∃ (k : Nat) (a' : Option Addr) (cap' : Nat) (vs : List Value), k ≤ N.length ∧ iv = .int .i64 k ∧ lv = .slice a' k cap' ∧ TextsIs wr w.heap.size (.slice a' k cap') (txs (N.take k)) vs ∧ longB (N.take k) = false ∧ Kp [] w wr) (fun _ iv _ => N.length - (intOf iv).toNat)
  case atStart => exact ⟨0, none, 0, [], by omega, rfl, rfl, TextsIs.nil _ _, rfl, Kp.refl _ _⟩
  case round =>
    obtain ⟨k, a', cap', vs, hk, rfl, rfl, htx, hlg, hkp⟩ := hrel
    by_cases hlt : k < N.length
    · obtain ⟨g, rfl⟩ := ha (by omega)
      have ho := hkp.owns HH.out (by simp)
      have hkd : k < (dcs N).length := by rw [hlN]; exact hlt
      obtain ⟨q0, q1⟩ := docs_cells ho k hkd
      have hgd : (dcs N)[k] = ((N[k].1 : Int), N[k].2) := by simp [dcs]
      rw [hgd] at q0 q1
      simp only at q0 q1
      have hsn := hide (take_snocL N k hlt)
      have hidk := HID.out N[k] (List.getElem_mem hlt)
      have hmem : N[k] ∈ N := List.getElem_mem hlt
      have hlen2 : (txs (N.take k)).length = k := by simp [txs]; omega
      obtain ⟨x, hx⟩ : ∃ x, N[k] = x := ⟨_, rfl⟩
      rw [hx] at q0 q1 hsn hidk hmem
      obtain ⟨id, bd⟩ := x
      simp only at q0 q1 hidk
      obtain ⟨W, hW⟩ : ∃ W, wr.alloc (.cells #[.int .i64 (id : Int), .string bd] 246) = W := ⟨_, rfl⟩
      have kW : Kp [] wr W := by rw [← hW]; exact (Kp.refl _ _).alloc _
      have hb : W.heap[wr.heap.size]? = some (.cells #[.int .i64 (id : Int), .string bd] 246 (0, 0)) := by rw [← hW]; exact heap_alloc_new wr _
      obtain ⟨p0, p1, _, _⟩ := rd_cells hb
      have hkW := hkp.next kW
      have hszW := hkW.size
      have HB := hide hb
      have htW := htx.kp0 kW
      have HTW := hide htW
      have Hmem := hide hmem
      have Hlg := hide hlg
      have Hlen2 := hide hlen2
      clear hb htx htW hx hgd ho hmem hlg hlen2
      by_cases hlong : 120 < bd.size
      · have hL := hide (words_long bd W hlong)
        go_wp2_with fail
        clear hW
        refine hL.out.mono ?_
        rintro e w1 ⟨rfl, rfl⟩
        go_wp2_with fail
        go_ret2
        refine ⟨.inl ⟨?_, rfl⟩, hkW⟩
        unfold longB
        rw [List.any_eq_true]
        exact ⟨_, Hmem.out, by simpa using hlong⟩
      · have hL := hide (words_ok bd W (by omega))
        go_wp2_with fail
        clear hW
        refine hL.out.mono ?_
        rintro e w1 ⟨lv, rfl, hlo, hbel⟩
        have k1 : Kp [] W w1 := Kp.of_below [] hbel
        have hb1 := k1.heap HB.out (by simp)
        obtain ⟨s0, s1, _, _⟩ := rd_cells hb1
        obtain ⟨al, cl, rfl, _⟩ := owns_forms hlo
        have ht1 := HTW.out.kp0 k1
        have hsz1 := k1.size
        have HLO := hide hlo
        have HT1 := hide ht1
        have hro := ht1.row
        rw [Hlen2.out] at hro
        have HRO := hide hro
        clear hlo ht1 hb1 hro p0 p1
        go_wp2_with (first
          | (at_builtin; refine wpList_append_own_at _ rfl _ _ 79 rfl w.heap.size 204 i0 (.agg #[.int .i64 0, .slice none 0 0]) 2 32 Tryz.underlying79 hi hz0 hz1 hz2 rfl (by decide) _ _ _ rfl (HRO.out.alloc _) ⟨w1.heap.size, 0, none⟩ 1 1 [.int .i64 (id : Int), .slice al (sp bd.size bd.data.toList).length cl] rfl rfl (World.news_of_block (cs := #[.int .i64 (id : Int), .slice al (sp bd.size bd.data.toList).length cl]) (t := 204) (fr := (0, 0)) (heap_alloc_new _ _)) ?c2 ?c3 ?c4 ?c5 ?_)
          | fail)
        case c2 => intro u hu; simp at hu; rcases hu with rfl | rfl <;> rfl
        case c3 => unfold maxLen; omega
        case c4 => omega
        case c5 => simp; omega
        intro v' w2 hown2 hgrow _ _
        obtain ⟨a2, cap2, rfl, _⟩ := owns_forms hown2
        have k2 : Kp (Value.slice a' k cap').ownBlock.toList w1 w2 := ((Kp.refl _ _).alloc _).grown hgrow (fun j hj => .inl (by simp [hj]))
        have hlo1 : w1.ownsRow w.heap.size 9 1 (.slice al (sp bd.size bd.data.toList).length cl) (wordsB bd).length (strV (wordsB bd)) := by
          refine ⟨HLO.out.1, ?_⟩
          rcases HLO.out.2 with h' | ⟨g', cp, cur, e1, hb, rest⟩
          · exact .inl h'
          · exact .inr ⟨g', cp, cur, e1, by omega, rest⟩
        have hsnoc := HT1.out.snoc (S := []) (v' := .slice a2 (k + 1) cap2) (id := id) hlo1 (by
          intro i hi' g' hg' hg2
          have h1 := (HLO.out.lt g' hg2).1
          have h2 := (HTW.out.each i (by rw [← HTW.out.len]; exact hi') hi').lt g' hg'
          omega) (by rw [Hlen2.out]; exact hown2) k2
        have kp2 : Kp [] w w2 := (hkW.next k1).trans k2 (fun x hx => .inr (HRO.out.lt x (by simpa using hx)).1)
        have HSN := hide hsnoc
        clear hsnoc hown2 hgrow hlo1 s0 s1
        go_wp2_with fail
        go_roundw
        case rel =>
          refine ⟨k + 1, a2, cap2, vs ++ [.slice al (sp bd.size bd.data.toList).length cl], by omega, by go_num, rfl, ?_, ?_, kp2⟩
          · rw [hsn.out]
            have e : txs (N.take k ++ [(id, bd)]) = txs (N.take k) ++ [(id, wordsB bd)] := by simp [txs]
            rw [e]
            exact HSN.out
          · rw [hsn.out]
            have e : longB (N.take k ++ [(id, bd)]) = (longB (N.take k) || decide (120 < bd.size)) := by simp [longB]
            rw [e, Hlg.out]
            simpa using hlong
        case measure => simp [intOf]; omega
    · have ek : k = N.length := by omega
      subst ek
      rw [List.take_length] at htx hlg
      have HT := hide htx
      have HL := hide hlg
      clear htx hlg
      go_wp2_with fail
      go_ret2
      exact ⟨.inr ⟨HL.out, _, vs, rfl, HT.out⟩, hkp⟩
end Go.Proofs.YtbkepgmgebmceaaGreatDoor.Pak
