import Derived.Test.YtbkepgmgebmceaaGreatDoorU17
import Derived.Deep.AppendLies

namespace Go.Proofs.YtbkepgmgebmceaaGreatDoor.Pak
open Go.RowKit Go.Proofs.YtbkepgmgebmceaaGreatDoor Go.Proofs.YtbkepgmgebmceaaGreatDoor.Spl SiftM
set_option linter.unusedVariables false

def lenV : Value → Nat
  | .slice _ n _ => n
  | _ => 0
theorem intV_one (l : List Nat) (x : Nat) : intV (l ++ [x]) = intV l ++ [Value.int .i64 (x : Int)] := by simp [intV]

set_option maxHeartbeats 2000000 in
set_option maxRecDepth 100000 in
theorem row_any (M c doc : Nat) (f : Nat → Nat → Option Nat) (iv tv : Value) (l : List Nat) (w : World) (hm : MapIs w M c f) (hl : ∀ i (h : i < l.length), f doc i = some l[i]) (he : f doc l.length = none) (hl2 : l.length ≤ 1000) (hd : doc ≤ 2000000) (hiv : iv.oneCell' = true) (htv : tv.oneCell' = true) :
    Calls Tryz.prog 306 #[.agg #[iv, tv, .map (some M)], .int .i64 doc] w fun e w' => ∃ v, e = .returned v ∧ w'.ownsRow w.heap.size 3 1 v l.length (intV l) ∧ Kp [] w w' := by
  obtain ⟨i0, hi, hz0, hz1, hz2⟩ := info_parts info3
  have hMw := hm.lt
  have HM := hide hm
  have HL := hide hl
  have HE := hide he
  clear hm hl he
  go_enter Tryz.func306, Tryz.ntmps306
  go_wp2_with fail
  obtain ⟨W, hW⟩ : ∃ W, w.alloc (.cells #[iv, tv, .map (some M)] 290) = W := ⟨_, rfl⟩
  rw [hW]
  have k0 : Kp [] w W := by rw [← hW]; exact (Kp.refl _ _).alloc _
  have hb0 : W.heap[w.heap.size]? = some (.cells #[iv, tv, .map (some M)] 290 (0, 0)) := by rw [← hW]; exact heap_alloc_new w _
  have hm0 := HM.out.kp k0 (by simp)
  have hsz0 : W.heap.size = w.heap.size + 1 := by rw [← hW]; simp
  have HB0 := hide hb0
  have HM0 := hide hm0
  clear hb0 hm0 hW
  go_loopw [5] (fun lv wr => ∃ (k : Nat) (a : Option Addr) (cap : Nat), k ≤ l.length ∧ lv = .slice a k cap ∧ wr.ownsRow w.heap.size 3 1 (.slice a k cap) k (intV (l.take k)) ∧ wr.heap[w.heap.size]? = some (.cells #[iv, tv, .map (some M)] 290 (0, 0)) ∧ MapIs wr M c f ∧ w.heap.size < wr.heap.size ∧ Kp [] w wr) (fun lv _ => l.length + 1 - lenV lv)
  case atStart => exact ⟨0, _, _, by omega, rfl, World.ownsRow_nil _ _ _ _, HB0.out, HM0.out, by omega, k0⟩
  case round =>
    clear HB0 HM0
    obtain ⟨k, a, cap, hk, rfl, hown, hb, hm, hsz, hkp⟩ := hrel
    obtain ⟨b0, b1, b2, _, _, _⟩ := tb_cells hb
    obtain ⟨x, hlook, hx⟩ := hm.look doc k (by omega) (by omega)
    have HO := hide hown
    have HB := hide hb
    have HMr := hide hm
    clear hown hb hm
    by_cases hlt : k < l.length
    · have hfk := HL.out k hlt
      rw [hfk] at hlook
      have hxk := hx _ hfk
      subst hxk
      simp only [Option.isSome_some] at hlook
      have hsn := hide (take_snocL l k hlt)
      obtain ⟨y, hy⟩ : ∃ y, l[k] = y := ⟨_, rfl⟩
      rw [hy] at hlook hsn
      clear hx hfk hy
      go_wp2_with (first
        | (at_builtin; refine wpList_append_own_at _ rfl _ _ 24 rfl w.heap.size 3 i0 (.int .i64 0) 1 8 Tryz.underlying24 hi hz0 hz1 hz2 rfl (by decide) _ _ _ rfl (HO.out.alloc _) ⟨wr.heap.size, 0, none⟩ 1 1 [.int .i64 (y : Int)] rfl rfl (one_new _ _ _) (one_cell _ _) ?c3 ?c4 ?c5 ?_)
        | fail)
      case c3 => unfold maxLen; omega
      case c4 => omega
      case c5 => simp; omega
      intro v' w2 hown2 hgrow _ _
      have hgrow' := hgrow
      obtain ⟨a', cap', rfl, _⟩ := owns_forms hown2
      have hwne := owns_ne HO.out HB.out (by decide)
      have hmne := owns_ne_map HO.out HMr.out
      have k2 : Kp (Value.slice a k cap).ownBlock.toList wr w2 := ((Kp.refl _ _).alloc _).grown hgrow (fun j hj => .inl (by simp [hj]))
      have hb2 := k2.heap HB.out (fun hx => hwne (by simpa using hx))
      have hm2 := HMr.out.kp k2 (fun hx => hmne (by simpa using hx))
      have hsz2 := k2.size
      have kp2 : Kp [] w w2 := hkp.trans k2 (fun x hx => .inr (HO.out.lt x (by simpa using hx)).1)
      have HO2 := hide hown2
      have HB2 := hide hb2
      have HM2 := hide hm2
      clear hown2 hb2 hm2 hgrow hgrow' hlook
      go_wp2_with fail
      go_roundw
      case rel =>
        refine ⟨k + 1, a', cap', by omega, rfl, ?_, HB2.out, HM2.out, by omega, kp2⟩
        rw [hsn.out, intV_one]
        exact HO2.out
      case measure => simp [lenV]; omega
    · have ek : k = l.length := by omega
      subst ek
      rw [HE.out] at hlook
      simp only [Option.isSome_none] at hlook
      clear hx
      go_wp2_with fail
      go_ret
      refine ⟨_, rfl, ?_, hkp⟩
      have := HO.out
      rwa [List.take_length] at this
end Go.Proofs.YtbkepgmgebmceaaGreatDoor.Pak

namespace Go.Proofs.YtbkepgmgebmceaaGreatDoor.Pak
open Go.RowKit Go.Proofs.YtbkepgmgebmceaaGreatDoor Go.Proofs.YtbkepgmgebmceaaGreatDoor.Spl SiftM
set_option linter.unusedVariables false

def tx2 (xs : List (Nat × Value)) : List Value := xs.flatMap fun x => [Value.int .i64 (x.1 : Int), x.2]
def z2 : Nat → List Value
  | 0 => []
  | n + 1 => .int .i64 0 :: .slice none 0 0 :: z2 n
def partT (xs : List (Nat × Value)) (n : Nat) : Array Value := (tx2 xs ++ z2 (n - xs.length)).toArray
theorem tx2_len (xs : List (Nat × Value)) : (tx2 xs).length = xs.length * 2 := by
  induction xs with
  | nil => rfl
  | cons x r ih => simp [tx2] at ih ⊢; omega
theorem tx2_snoc (xs : List (Nat × Value)) (x : Nat × Value) : tx2 (xs ++ [x]) = tx2 xs ++ [.int .i64 (x.1 : Int), x.2] := by simp [tx2]
theorem z2_len (n : Nat) : (z2 n).length = n * 2 := by
  induction n with
  | zero => rfl
  | succ n ih => simp [z2, ih]; omega
theorem partT_id (xs : List (Nat × Value)) (n id : Nat) (h : xs.length < n) : (partT xs n).setIfInBounds (xs.length * 2) (.int .i64 (id : Int)) = partT (xs ++ [(id, .slice none 0 0)]) n := by
  unfold partT
  obtain ⟨d, hd⟩ : ∃ d, n - xs.length = d + 1 := ⟨n - xs.length - 1, by omega⟩
  have hd2 : n - (xs ++ [(id, Value.slice none 0 0)]).length = d := by simp; omega
  rw [hd2, hd, List.setIfInBounds_toArray]
  congr 1
  rw [tx2_snoc, List.set_append_right _ _ (by rw [tx2_len]; omega), tx2_len, Nat.sub_self, z2, List.set_cons_zero]
  simp
theorem partT_w (xs : List (Nat × Value)) (n id : Nat) (v0 v : Value) : (partT (xs ++ [(id, v0)]) n).setIfInBounds (xs.length * 2 + 1) v = partT (xs ++ [(id, v)]) n := by
  unfold partT
  have e1 : (xs ++ [(id, v0)]).length = (xs ++ [(id, v)]).length := by simp
  rw [e1, List.setIfInBounds_toArray]
  congr 1
  rw [tx2_snoc, tx2_snoc, List.append_assoc, List.append_assoc, List.set_append_right _ _ (by rw [tx2_len]; omega), tx2_len, show xs.length * 2 + 1 - xs.length * 2 = 1 by omega]
  simp
theorem partT_c0 {w : World} {L n : Nat} {xs : List (Nat × Value)} (h : w.heap[L]? = some (.cells (partT xs n) 204 (0, 0))) (hl : xs.length < n) : w.cell? ⟨L, xs.length * 2, none⟩ = some (.int .i64 0) ∧ w.frozen? ⟨L, xs.length * 2, none⟩ = false := by
  obtain ⟨d, hd⟩ : ∃ d, n - xs.length = d + 1 := ⟨n - xs.length - 1, by omega⟩
  constructor
  · simp only [World.cell?, h]
    unfold partT
    rw [List.getElem?_toArray, List.getElem?_append_right (by rw [tx2_len]; omega), tx2_len, Nat.sub_self, hd]
    rfl
  · simp [World.frozen?, h]
theorem partT_c1 {w : World} {L n id : Nat} {xs : List (Nat × Value)} {v : Value} (h : w.heap[L]? = some (.cells (partT (xs ++ [(id, v)]) n) 204 (0, 0))) : w.cell? ⟨L, xs.length * 2 + 1, none⟩ = some v ∧ w.frozen? ⟨L, xs.length * 2 + 1, none⟩ = false := by
  constructor
  · simp only [World.cell?, h]
    unfold partT
    rw [List.getElem?_toArray, tx2_snoc, List.append_assoc, List.getElem?_append_right (by rw [tx2_len]; omega), tx2_len, show xs.length * 2 + 1 - xs.length * 2 = 1 by omega]
    rfl
  · simp [World.frozen?, h]

theorem info52 : (Tryz.prog.info? 204).map (fun i => (i.zero, i.size, i.bytes)) = some (some (.agg #[.int .i64 0, .slice none 0 0]), 2, 32) := by kernel_rfl
theorem z2_at : ∀ (n i : Nat), i < n * 2 → (z2 n)[i]? = some (if i % 2 = 0 then .int .i64 0 else .slice none 0 0)
  | 0, i, h => by omega
  | n + 1, 0, h => by simp [z2]
  | n + 1, 1, h => by simp [z2]
  | n + 1, i + 2, h => by
    have := z2_at n i (by omega)
    simp only [z2, List.getElem?_cons_succ]
    rw [this]
    congr 2
    simp
theorem made_two (n : Nat) : madeCells #[.int .i64 0, .slice none 0 0] (n * 2) = (z2 n).toArray := by
  apply Array.ext
  · simp [size_madeCells, z2_len]
  · intro i h1 h2
    have h3 : i < n * 2 := by simpa [size_madeCells] using h1
    have h4 := z2_at n i h3
    have h5 : (z2 n).toArray[i]? = some ((z2 n).toArray[i]) := Array.getElem?_eq_getElem h2
    rw [List.getElem?_toArray, h4] at h5
    simp only [Option.some.injEq] at h5
    rw [← h5]
    simp only [madeCells, Array.getElem_map, Array.getElem_range]
    have : i % 2 = 0 ∨ i % 2 = 1 := by omega
    rcases this with e | e <;> simp [e]
theorem make_texts (c : Nat) (w : World) (hc : c ≤ 2000000) : (Instr.makeSlice 79 (.int .i64 c) (.int .i64 c)).run Tryz.prog w = .ok (.slice (some ⟨w.heap.size, 0, none⟩) c c) (w.alloc (.cells (partT [] c) 204)) := by
  obtain ⟨i0, hi, hz0, hz1, hz2⟩ := info_parts info52
  have := run_make (P := Tryz.prog) w 79 204 i0 (.agg #[.int .i64 0, .slice none 0 0]) Tryz.underlying79 hi hz0 .i64 .i64 c c (by omega) (by omega) (by rw [hz2]; omega) (by omega)
  rw [hz1] at this
  simp only [Int.toNat_natCast] at this
  rw [this, show (Value.agg #[.int .i64 0, .slice none 0 0]).cells = #[.int .i64 0, .slice none 0 0] from rfl, made_two]
  simp [partT, tx2]

/-- A list of texts: v holds T; vs: the lists of their words. -/
structure TextsIs (w : World) (base : Nat) (v : Value) (T : List (Nat × List (List UInt8))) (vs : List Value) : Prop where
  len : vs.length = T.length
  row : w.ownsRow base 204 2 v T.length (tx2 ((T.map Prod.fst).zip vs))
  each : ∀ i (h : i < T.length) (h2 : i < vs.length), w.ownsRow base 9 1 vs[i] T[i].2.length (strV T[i].2)
  apart : ∀ i j (hi : i < vs.length) (hj : j < vs.length), i < j → ∀ g, vs[i].ownBlock = some g → vs[j].ownBlock ≠ some g
end Go.Proofs.YtbkepgmgebmceaaGreatDoor.Pak

namespace Go.Proofs.YtbkepgmgebmceaaGreatDoor.Own
open Go.RowKit Go.Proofs.YtbkepgmgebmceaaGreatDoor
open Go.Proofs.YtbkepgmgebmceaaGreatDoor.Spl
set_option linter.unusedVariables false

def blks (vs : List Value) : List Nat := vs.flatMap fun u => u.ownBlock.toList
/-- Where the rounds over the words stand. -/
structure Rnd (w wr : World) (P : Nat) (L : Ls) (vs : List Value) (i : Nat) (X : List E1) (v2 : Value) : Prop where
  len : X.length = i
  inv : Inv wr P { L with F2 := L.F2 ++ X, v2 := v2 }
  kp : Kp (P :: (L.v2.ownBlock.toList ++ blks (vs.take i))) w wr
  loc : ∀ g, v2.ownBlock = some g → L.v2.ownBlock = some g ∨ w.heap.size ≤ g
  av : ∀ k (h : k < vs.length), i ≤ k → Av (L.F2 ++ X) vs[k].ownBlock
theorem blks_mem {vs : List Value} {i x : Nat} (h : x ∈ blks (vs.take i)) : ∃ j, ∃ hj : j < vs.length, j < i ∧ vs[j].ownBlock = some x := by
  unfold blks at h
  obtain ⟨u, hu, hx⟩ := List.mem_flatMap.1 h
  obtain ⟨j, hj, rfl⟩ := List.getElem_of_mem hu
  rw [List.length_take] at hj
  refine ⟨j, by omega, by omega, ?_⟩
  rw [List.getElem_take] at hx
  simpa using hx
theorem blks_succ {vs : List Value} {i : Nat} (h : i < vs.length) : blks (vs.take (i + 1)) = blks (vs.take i) ++ vs[i].ownBlock.toList := by
  unfold blks
  rw [List.take_succ_eq_append_getElem h, List.flatMap_append]
  simp
/-- The texts' row and the words that are still to come are as they were. -/
theorem rnd_row {w wr : World} {P base i : Nat} {L : Ls} {v : Value} {T : List (Nat × List (List UInt8))} {vs X : List _} {v2 : Value} (hI : Inv w P L) (ht : Pak.TextsIs w base v T vs) (h : Rnd w wr P L vs i X v2) : wr.ownsRow base 204 2 v T.length (Pak.tx2 ((T.map Prod.fst).zip vs)) := by
  refine h.kp.owns ht.row (fun g hg hx => ?_)
  obtain ⟨cs, fz, hh⟩ := own_kindG ht.row g hg
  rcases List.mem_cons.1 hx with rfl | hx
  · rw [hI.hP] at hh; simp at hh
  · rcases List.mem_append.1 hx with hx | hx
    · obtain ⟨cs', fz', hh'⟩ := own_kindG hI.r2.1 g (by simpa using hx)
      rw [hh] at hh'; simp at hh'
    · obtain ⟨j, hj, _, hjg⟩ := blks_mem hx
      obtain ⟨cs', fz', hh'⟩ := own_kindG (ht.each j (by rw [← ht.len]; exact hj) hj) g hjg
      rw [hh] at hh'; simp at hh'
theorem rnd_each {w wr : World} {P base i : Nat} {L : Ls} {v : Value} {T : List (Nat × List (List UInt8))} {vs X : List _} {v2 : Value} (hI : Inv w P L) (ht : Pak.TextsIs w base v T vs) (h : Rnd w wr P L vs i X v2) (hi : i < T.length) (hi2 : i < vs.length) : wr.ownsRow base 9 1 vs[i] T[i].2.length (strV T[i].2) := by
  refine h.kp.owns (ht.each i hi hi2) (fun g hg hx => ?_)
  obtain ⟨cs, fz, hh⟩ := own_kindG (ht.each i hi hi2) g hg
  rcases List.mem_cons.1 hx with rfl | hx
  · rw [hI.hP] at hh; simp at hh
  · rcases List.mem_append.1 hx with hx | hx
    · obtain ⟨cs', fz', hh'⟩ := own_kindG hI.r2.1 g (by simpa using hx)
      rw [hh] at hh'; simp at hh'
    · obtain ⟨j, hj, hji, hjg⟩ := blks_mem hx
      exact ht.apart j i hj hi2 hji g hjg hg
theorem rnd_below {w wr : World} {P base i : Nat} {L : Ls} {v : Value} {T : List (Nat × List (List UInt8))} {vs X : List _} {v2 : Value} (hI : Inv w P L) (hP : P ≤ base) (ht : Pak.TextsIs w base v T vs) (h : Rnd w wr P L vs i X v2) : Below P w wr := by
  refine h.kp.below (Nat.le_of_lt (lt_of_heap hI.hP)) (fun x hx => ?_)
  rcases List.mem_cons.1 hx with rfl | hx
  · exact Nat.le_refl _
  · rcases List.mem_append.1 hx with hx | hx
    · have := (hI.r2.1.lt x (by simpa using hx)).1; omega
    · obtain ⟨j, hj, hji, hjg⟩ := blks_mem hx
      have := ((ht.each j (by rw [← ht.len]; exact hj) hj).lt x hjg).1; omega
/-- One round. -/
theorem Rnd.step {w wr w' : World} {P base i : Nat} {L : Ls} {v : Value} {T : List (Nat × List (List UInt8))} {vs : List Value} {X : List E1} {v2 v' : Value} {x : E1} (ht : Pak.TextsIs w base v T vs) (h : Rnd w wr P L vs i X v2) (hi2 : i < vs.length)
    (hinv : Inv w' P { ({ L with F2 := L.F2 ++ X, v2 := v2 } : Ls) with F2 := (L.F2 ++ X) ++ [x], v2 := v' })
    (hloc : ∀ u ∈ [x.l, x.o, x.t, x.h], ∀ g, u.ownBlock = some g → vs[i].ownBlock = some g ∨ wr.heap.size ≤ g) (hlv : ∀ g, v'.ownBlock = some g → v2.ownBlock = some g ∨ wr.heap.size ≤ g)
    (hk : Kp (P :: (vs[i].ownBlock.toList ++ v2.ownBlock.toList)) wr w') : Rnd w w' P L vs (i + 1) (X ++ [x]) v' := by
  have hsz := h.kp.size
  refine ⟨by rw [List.length_append, h.len]; rfl, by rw [← List.append_assoc]; exact hinv, ?_, ?_, ?_⟩
  · refine (h.kp.mono ?_).trans hk ?_
    · intro y hy
      rw [blks_succ hi2]
      rcases List.mem_cons.1 hy with rfl | hy
      · simp
      · rcases List.mem_append.1 hy with hy | hy
        · simp at hy; simp [hy]
        · exact List.mem_cons_of_mem _ (List.mem_append_right _ (List.mem_append_left _ hy))
    · intro y hy
      rw [blks_succ hi2]
      rcases List.mem_cons.1 hy with rfl | hy
      · exact .inl (by simp)
      · rcases List.mem_append.1 hy with hy | hy
        · exact .inl (List.mem_cons_of_mem _ (List.mem_append_right _ (List.mem_append_right _ hy)))
        · rcases h.loc y (by simpa using hy) with hh | hh
          · exact .inl (List.mem_cons_of_mem _ (List.mem_append_left _ (by simpa using hh)))
          · exact .inr hh
  · intro g hg
    rcases hlv g hg with hh | hh
    · exact h.loc g hh
    · exact .inr (by omega)
  · intro k hk' hik
    rw [← List.append_assoc]
    refine (h.av k hk' (by omega)).snoc (fun b hb u hu hub => ?_)
    have hkT : k < T.length := by rw [← ht.len]; exact hk'
    have hbl := ((ht.each k hkT hk').lt b hb).2
    rcases hloc u hu b hub with hh | hh
    · exact ht.apart i k hi2 hk' (by omega) b hh hb
    · omega
end Go.Proofs.YtbkepgmgebmceaaGreatDoor.Own
