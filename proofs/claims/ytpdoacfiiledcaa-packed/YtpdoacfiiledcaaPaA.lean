import Derived.Test.YtpdoacfiiledcaaPakZ
import Derived.Test.YtpdoacfiiledcaaPakV
namespace Go.Proofs.Ytpdoacfiiledcaa.Pak
open Go.RowKit Go.Proofs.Ytpdoacfiiledcaa SiftM
set_option linter.unusedVariables false

def wordsB (b : ByteArray) : List (List UInt8) := sp b.size b.data.toList
abbrev Nd := Nat × ByteArray
def dcs (N : List Nd) : List Dc := N.map fun x => ((x.1 : Int), x.2)
def txs (N : List Nd) : List Tx := N.map fun x => (x.1, wordsB x.2)
def longB (N : List Nd) : Bool := N.any fun x => decide (120 < x.2.size)

theorem TextsIs.nil (w : World) (base : Nat) : TextsIs w base (.slice none 0 0) [] [] := ⟨rfl, World.ownsRow_nil _ _ _ _, fun i h => by simp at h, fun i j h => by simp at h⟩

/-- A list of texts behind an append. -/
theorem TextsIs.snoc {w w2 : World} {base : Nat} {v v' lv : Value} {T : List Tx} {vs : List Value} {id : Nat} {ws : List (List UInt8)} {S : List Nat} (h : TextsIs w base v T vs) (hl : w.ownsRow base 9 1 lv ws.length (strV ws)) (hap : ∀ i (hi : i < vs.length), ∀ g, vs[i].ownBlock = some g → lv.ownBlock ≠ some g)
    (hrow : w2.ownsRow base 52 2 v' (T.length + 1) (tx2 ((T.map Prod.fst).zip vs) ++ [.int .i64 (id : Int), lv])) (k : Kp v.ownBlock.toList w w2) : TextsIs w2 base v' (T ++ [(id, ws)]) (vs ++ [lv]) := by
  have hne : ∀ {n : Nat} {u : Value} {xs : List Value}, w.ownsRow base 9 1 u n xs → ∀ g, u.ownBlock = some g → g ∉ v.ownBlock.toList := by
    intro n u xs hu g hg hx
    have hx' : v.ownBlock = some g := by simpa using hx
    rcases h.row.2 with ⟨rfl, _⟩ | ⟨g', cap, cur, rfl, hb, hgg, rest⟩
    · simp [Value.ownBlock] at hx'
    · simp [Value.ownBlock] at hx'
      subst hx'
      exact owns_ne hu hgg (by decide) hg
  refine ⟨by simp [h.len], ?_, ?_, ?_⟩
  · rw [List.length_append, List.map_append, List.zip_append (by simp [h.len]), show [(id, ws)].map Prod.fst = [id] from rfl, show [id].zip [lv] = [(id, lv)] from rfl, tx2_snoc]
    exact hrow
  · intro i h1 h2
    by_cases e : i < T.length
    · have e2 : i < vs.length := by rw [h.len]; exact e
      rw [List.getElem_append_left e2]
      simp only [List.getElem_append_left e]
      exact k.owns (h.each i e e2) (hne (h.each i e e2))
    · have ei : i = T.length := by simp at h1; omega
      subst ei
      have e2 : (vs ++ [lv])[T.length] = lv := by rw [List.getElem_append_right (by rw [h.len]; omega)]; simp [h.len]
      rw [e2]
      simp only [List.getElem_append_right (Nat.le_refl _), Nat.sub_self, List.getElem_cons_zero]
      exact k.owns hl (hne hl)
  · intro i j hi hj hij g hg
    by_cases e : j < vs.length
    · rw [List.getElem_append_left e]
      rw [List.getElem_append_left (by omega)] at hg
      exact h.apart i j (by omega) e hij g hg
    · have ej : j = vs.length := by simp at hj; omega
      subst ej
      rw [List.getElem_append_left (by omega)] at hg
      have e2 : (vs ++ [lv])[vs.length] = lv := by rw [List.getElem_append_right (Nat.le_refl _)]; simp
      rw [e2]
      exact hap i (by omega) g hg

set_option maxHeartbeats 2000000 in
set_option maxRecDepth 100000 in
theorem textsOf_any (B : Nat) (v : Value) (N : List Nd) (w : World) (h : w.ownsRow B 43 2 v (dcs N).length (docV (dcs N))) (hn : N.length ≤ 1000) (hid : ∀ x ∈ N, x.1 ≤ 99999) :
    Calls Try.prog 18 #[v] w fun e w' => (longB N = true ∧ e = .returned (.tuple #[.slice none 0 0, .int .i64 4]) ∨ longB N = false ∧ ∃ v' vs, e = .returned (.tuple #[v', .int .i64 0]) ∧ TextsIs w' w.heap.size v' (txs N) vs) ∧ Kp [] w w' := by
  obtain ⟨i0, hi, hz0, hz1, hz2⟩ := info_parts info52
  have hlN : (dcs N).length = N.length := by simp [dcs]
  rw [hlN] at h
  obtain ⟨a, cap, rfl, ha⟩ := owns_forms h
  have HH := hide h
  have HID := hide hid
  clear h hid
  go_enter Try.func18, Try.ntmps18
  go_wp2_with fail
  go_loopw [4, 11] (fun lv iv wr => ∃ (k : Nat) (a' : Option Addr) (cap' : Nat) (vs : List Value), k ≤ N.length ∧ iv = .int .i64 k ∧ lv = .slice a' k cap' ∧ TextsIs wr w.heap.size (.slice a' k cap') (txs (N.take k)) vs ∧ longB (N.take k) = false ∧ Kp [] w wr) (fun _ iv _ => N.length - (intOf iv).toNat)
  case atStart => exact ⟨0, none, 0, [], by omega, rfl, rfl, TextsIs.nil _ _, rfl, Kp.refl _ _⟩
  case round =>
    obtain ⟨k, a', cap', vs, hk, rfl, rfl, htx, hlg, hkp⟩ := hrel
    by_cases hlt : k < N.length
    · obtain ⟨g, rfl⟩ := ha (by omega)
      have ho := hkp.owns HH.out (by simp)
      have hkd : k < (dcs N).length := by rw [hlN]; exact hlt
      obtain ⟨q0, q1⟩ := docs_cells ho k hkd
      have hgd : (dcs N)[k] = ((N[k].1 : Int), N[k].2) := by simp [dcs]
      rw [hgd] at q0 q1
      simp only at q0 q1
      have hsn := hide (take_snocL N k hlt)
      have hidk := HID.out N[k] (List.getElem_mem hlt)
      have hmem : N[k] ∈ N := List.getElem_mem hlt
      have hlen2 : (txs (N.take k)).length = k := by simp [txs]; omega
      obtain ⟨x, hx⟩ : ∃ x, N[k] = x := ⟨_, rfl⟩
      rw [hx] at q0 q1 hsn hidk hmem
      obtain ⟨id, bd⟩ := x
      simp only at q0 q1 hidk
      obtain ⟨W, hW⟩ : ∃ W, wr.alloc (.cells #[.int .i64 (id : Int), .string bd] 43) = W := ⟨_, rfl⟩
      have kW : Kp [] wr W := by rw [← hW]; exact (Kp.refl _ _).alloc _
      have hb : W.heap[wr.heap.size]? = some (.cells #[.int .i64 (id : Int), .string bd] 43 (0, 0)) := by rw [← hW]; exact heap_alloc_new wr _
      obtain ⟨p0, p1, _, _⟩ := rd_cells hb
      have hkW := hkp.next kW
      have hszW := hkW.size
      have HB := hide hb
      have htW := htx.kp0 kW
      have HTW := hide htW
      have Hmem := hide hmem
      have Hlg := hide hlg
      have Hlen2 := hide hlen2
      clear hb htx htW hx hgd ho hmem hlg hlen2
      by_cases hlong : 120 < bd.size
      · have hL := hide (words_long bd W hlong)
        go_wp2_with fail
        clear hW
        refine hL.out.mono ?_
        rintro e w1 ⟨rfl, rfl⟩
        go_wp2_with fail
        go_ret2
        refine ⟨.inl ⟨?_, rfl⟩, hkW⟩
        unfold longB
        rw [List.any_eq_true]
        exact ⟨_, Hmem.out, by simpa using hlong⟩
      · have hL := hide (words_ok bd W (by omega))
        go_wp2_with fail
        clear hW
        refine hL.out.mono ?_
        rintro e w1 ⟨lv, rfl, hlo, hbel⟩
        have k1 : Kp [] W w1 := Kp.of_below [] hbel
        have hb1 := k1.heap HB.out (by simp)
        obtain ⟨s0, s1, _, _⟩ := rd_cells hb1
        obtain ⟨al, cl, rfl, _⟩ := owns_forms hlo
        have ht1 := HTW.out.kp0 k1
        have hsz1 := k1.size
        have HLO := hide hlo
        have HT1 := hide ht1
        have hro := ht1.row
        rw [Hlen2.out] at hro
        have HRO := hide hro
        clear hlo ht1 hb1 hro p0 p1
        go_wp2_with (first
          | (at_builtin; refine wpList_append_own_at _ rfl _ _ 33 rfl w.heap.size 52 i0 (.agg #[.int .i64 0, .slice none 0 0]) 2 32 Try.underlying33 hi hz0 hz1 hz2 rfl (by decide) _ _ _ rfl (HRO.out.alloc _) ⟨w1.heap.size, 0, none⟩ 1 1 [.int .i64 (id : Int), .slice al (sp bd.size bd.data.toList).length cl] rfl rfl (World.news_of_block (cs := #[.int .i64 (id : Int), .slice al (sp bd.size bd.data.toList).length cl]) (t := 52) (fr := (0, 0)) (heap_alloc_new _ _)) ?c2 ?c3 ?c4 ?c5 ?_)
          | fail)
        case c2 => intro u hu; simp at hu; rcases hu with rfl | rfl <;> rfl
        case c3 => unfold maxLen; omega
        case c4 => omega
        case c5 => simp; omega
        intro v' w2 hown2 hgrow _ _
        obtain ⟨a2, cap2, rfl, _⟩ := owns_forms hown2
        have k2 : Kp (Value.slice a' k cap').ownBlock.toList w1 w2 := ((Kp.refl _ _).alloc _).grown hgrow (fun j hj => .inl (by simp [hj]))
        have hlo1 : w1.ownsRow w.heap.size 9 1 (.slice al (sp bd.size bd.data.toList).length cl) (wordsB bd).length (strV (wordsB bd)) := by
          refine ⟨HLO.out.1, ?_⟩
          rcases HLO.out.2 with h' | ⟨g', cp, cur, e1, hb, rest⟩
          · exact .inl h'
          · exact .inr ⟨g', cp, cur, e1, by omega, rest⟩
        have hsnoc := HT1.out.snoc (S := []) (v' := .slice a2 (k + 1) cap2) (id := id) hlo1 (by
          intro i hi' g' hg' hg2
          have h1 := (HLO.out.lt g' hg2).1
          have h2 := (HTW.out.each i (by rw [← HTW.out.len]; exact hi') hi').lt g' hg'
          omega) (by rw [Hlen2.out]; exact hown2) k2
        have kp2 : Kp [] w w2 := (hkW.next k1).trans k2 (fun x hx => .inr (HRO.out.lt x (by simpa using hx)).1)
        have HSN := hide hsnoc
        clear hsnoc hown2 hgrow hlo1 s0 s1
        go_wp2_with fail
        go_roundw
        case rel =>
          refine ⟨k + 1, a2, cap2, vs ++ [.slice al (sp bd.size bd.data.toList).length cl], by omega, by go_num, rfl, ?_, ?_, kp2⟩
          · rw [hsn.out]
            have e : txs (N.take k ++ [(id, bd)]) = txs (N.take k) ++ [(id, wordsB bd)] := by simp [txs]
            rw [e]
            exact HSN.out
          · rw [hsn.out]
            have e : longB (N.take k ++ [(id, bd)]) = (longB (N.take k) || decide (120 < bd.size)) := by simp [longB]
            rw [e, Hlg.out]
            simpa using hlong
        case measure => simp [intOf]; omega
    · have ek : k = N.length := by omega
      subst ek
      rw [List.take_length] at htx hlg
      have HT := hide htx
      have HL := hide hlg
      clear htx hlg
      go_wp2_with fail
      go_ret2
      exact ⟨.inr ⟨HL.out, _, vs, rfl, HT.out⟩, hkp⟩
end Go.Proofs.Ytpdoacfiiledcaa.Pak
