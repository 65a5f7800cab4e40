import Derived.Test.YtbkepgmgebmceaaGreatDoorU31
import Derived.Maps.AppendAt

set_option linter.unusedVariables false
set_option maxRecDepth 4000
namespace Go.Proofs.YtbkepgmgebmceaaGreatDoor.Pak
open Go.RowKit Go.Proofs.YtbkepgmgebmceaaGreatDoor Go.Proofs.YtbkepgmgebmceaaGreatDoor.Spl SiftM

theorem size148 (w : World) : (sizeOf 251).run Tryz.prog w = .ok 3 w := by kernel_rfl
theorem info148 : (Tryz.prog.info? 251).map (fun i => (i.zero, i.size, i.bytes)) = some (some (.agg #[.int .i64 0, .slice none 0 0, .bool false]), 3, 40) := by kernel_rfl

theorem tx3_append (xs ys : List (Nat × Value)) : tx3 (xs ++ ys) = tx3 xs ++ tx3 ys := by simp [tx3]
theorem tx3_take : ∀ (xs : List (Nat × Value)) (a : Nat), tx3 (xs.take a) = (tx3 xs).take (a * 3)
  | [], a => by simp [tx3]
  | x :: r, 0 => by simp [tx3]
  | x :: r, a + 1 => by
    have ih := tx3_take r a
    have e : tx3 (x :: r) = .int .i64 (x.1 : Int) :: x.2 :: .bool false :: tx3 r := by simp [tx3]
    have e2 : tx3 (x :: r.take a) = .int .i64 (x.1 : Int) :: x.2 :: .bool false :: tx3 (r.take a) := by simp [tx3]
    rw [List.take_succ_cons, e, e2, ih, show (a + 1) * 3 = a * 3 + 1 + 1 + 1 by omega]
    rfl
theorem tx3_drop : ∀ (xs : List (Nat × Value)) (a : Nat), tx3 (xs.drop a) = (tx3 xs).drop (a * 3)
  | [], a => by simp [tx3]
  | x :: r, 0 => by simp
  | x :: r, a + 1 => by
    have ih := tx3_drop r a
    have e : tx3 (x :: r) = .int .i64 (x.1 : Int) :: x.2 :: .bool false :: tx3 r := by simp [tx3]
    rw [List.drop_succ_cons, e, ih, show (a + 1) * 3 = a * 3 + 1 + 1 + 1 by omega]
    rfl
theorem tx3_ins (xs : List (Nat × Value)) (a id : Nat) (lv : Value) : tx3 (ins xs a (id, lv)) = (tx3 xs).take (a * 3) ++ [.int .i64 (id : Int), lv, .bool false] ++ (tx3 xs).drop (a * 3) := by
  unfold ins
  rw [tx3_append, tx3_take, ← tx3_drop]
  simp [tx3]

theorem DocsIs.low {w : World} {base b : Nat} {v : Value} {T : List Tx} {vs : List Value} (h : DocsIs w base v T vs) (hb : b ≤ base) : DocsIs w b v T vs :=
  ⟨h.len, owns_low h.row hb, fun i h1 h2 => owns_low (h.each i h1 h2) hb⟩
theorem DocsIs.ins {w w' : World} {base a id : Nat} {v v' lv : Value} {T : List Tx} {vs : List Value} {ws : List (List UInt8)} (h : DocsIs w base v T vs) (hl : w.ownsRow base 9 1 lv ws.length (strV ws)) (ha : a ≤ T.length)
    (hrow : w'.ownsRow base 251 3 v' (T.length + 1) ((tx3 ((T.map Prod.fst).zip vs)).take (a * 3) ++ [.int .i64 (id : Int), lv, .bool false] ++ (tx3 ((T.map Prod.fst).zip vs)).drop (a * 3))) (k : Kp [] w w') : DocsIs w' base v' (Pak.ins T a (id, ws)) (Pak.ins vs a lv) := by
  have hlen := h.len
  have hav : a ≤ vs.length := by omega
  refine ⟨by rw [ins_len _ _ _ hav, ins_len _ _ _ ha, hlen], ?_, ?_⟩
  · rw [ins_len _ _ _ ha, ins_map, ins_zip _ _ _ _ _ (by simp [hlen]), tx3_ins]
    exact hrow
  · intro i hi h2
    rw [ins_len _ _ _ ha] at hi
    by_cases h3 : i < a
    · rw [ins_lo vs a lv hav i h2 h3, ins_lo T a (id, ws) ha i (by rw [ins_len _ _ _ ha]; omega) h3]
      exact k.owns (h.each i (by omega) (by omega)) (by simp)
    · by_cases h4 : i = a
      · subst h4
        rw [ins_at vs i lv hav h2, ins_at T i (id, ws) ha (by rw [ins_len _ _ _ ha]; omega)]
        exact k.owns hl (by simp)
      · rw [ins_hi vs a lv hav i h2 (by omega), ins_hi T a (id, ws) ha i (by rw [ins_len _ _ _ ha]; omega) (by omega)]
        exact k.owns (h.each (i - 1) (by omega) (by omega)) (by simp)

def SortT (T : List Tx) : Prop := T.Pairwise fun x y => x.1 < y.1
theorem sortT_ins (N : List Tx) (a : Nat) (x : Tx) (ha : a ≤ N.length) (h : SortT N) (h1 : ∀ j (hj : j < N.length), j < a → N[j].1 < x.1) (h2 : ∀ (hj : a < N.length), x.1 < N[a].1) : SortT (Pak.ins N a x) := by
  have hp := List.pairwise_iff_getElem.1 h
  have h2' : ∀ j (hj : j < N.length), a ≤ j → x.1 < N[j].1 := by
    intro j hj haj
    have h3 := h2 (by omega)
    by_cases e : j = a
    · subst e; exact h3
    · have := hp a j (by omega) hj (by omega); omega
  unfold SortT
  rw [List.pairwise_iff_getElem]
  intro i j hi hj hij
  have hj' : j < N.length + 1 := by rw [ins_len _ _ _ ha] at hj; exact hj
  by_cases j3 : j < a
  · rw [ins_lo N a x ha j hj j3, ins_lo N a x ha i hi (by omega)]
    exact hp i j (by omega) (by omega) hij
  · by_cases j4 : j = a
    · subst j4
      rw [ins_at N j x ha hj, ins_lo N j x ha i hi hij]
      exact h1 i (by omega) hij
    · rw [ins_hi N a x ha j hj (by omega)]
      by_cases i3 : i < a
      · rw [ins_lo N a x ha i hi i3]
        exact hp i (j - 1) (by omega) (by omega) (by omega)
      · by_cases i4 : i = a
        · subst i4
          rw [ins_at N i x ha hi]
          exact h2' (j - 1) (by omega) (by omega)
        · rw [ins_hi N a x ha i hi (by omega)]
          exact hp (i - 1) (j - 1) (by omega) (by omega) (by omega)
theorem perm_insT (N N' : List Tx) (a : Nat) (x : Tx) (h : N'.Perm N) : (Pak.ins N' a x).Perm (N ++ [x]) := by
  have h1 : (Pak.ins N' a x).Perm (x :: N') := by
    unfold Pak.ins
    refine List.perm_middle.trans ?_
    rw [List.take_append_drop]
  exact h1.trans ((h.cons x).trans (List.perm_append_singleton x N).symm)
theorem sortT_eq (A B : List Tx) (h : A.Perm B) (ha : SortT A) (hb : SortT B) : A = B :=
  List.Perm.eq_of_pairwise (le := fun x y : Tx => x.1 < y.1) (fun a b _ _ h1 h2 => by omega) ha hb h
theorem DocsIs.one {w : World} {base : Nat} {v : Value} {T : List Tx} {vs : List Value} (h : DocsIs w base v T vs) : ∀ u ∈ tx3 ((T.map Prod.fst).zip vs), u.oneCell' = true := by
  intro u hu
  unfold tx3 at hu
  obtain ⟨x, hx, hu⟩ := List.mem_flatMap.1 hu
  simp at hu
  rcases hu with rfl | rfl | rfl
  · rfl
  · have hm := (List.of_mem_zip hx).2
    obtain ⟨i, hi, e⟩ := List.getElem_of_mem hm
    have ho := h.each i (by rw [← h.len]; exact hi) hi
    obtain ⟨a, c, e2, _⟩ := owns_forms ho
    rw [← e, e2]; rfl
  · rfl

set_option maxHeartbeats 1000000 in
set_option maxRecDepth 100000 in
theorem rsorted_any (B N : Nat) (u : Value) (T T' : List Tx) (vs : List Value) (w : World) (hu : DocsIs w B u T vs) (hT : T.length = N) (hN : N ≤ 60) (hB : B ≤ w.heap.size) (hp : T'.Perm T) (hs : SortT T') :
    Calls Tryz.prog 153 #[u] w fun e w' => ∃ v' vs', e = .returned v' ∧ DocsIs w' B v' T' vs' ∧ Kp [] w w' := by
  obtain ⟨i0, hi0, hz0, hz1, hz2⟩ := info_parts info148
  obtain ⟨au, cu, rfl, hau⟩ := owns_forms hu.row
  have hnd : ∀ i j (hi : i < T.length) (hj : j < T.length), T[i].1 = T[j].1 → i = j := by
    have h1 : (T'.map Prod.fst).Nodup := by
      refine List.Pairwise.imp (R := (· < ·)) (fun {a b} h => by omega) ?_
      rw [List.pairwise_map]; exact hs
    have h2 : (T.map Prod.fst).Nodup := (hp.map Prod.fst).nodup_iff.1 h1
    intro i j hi hj e
    have hpw := List.pairwise_iff_getElem.1 h2
    rcases Nat.lt_trichotomy i j with h | h | h
    · exact absurd (by rw [List.getElem_map, List.getElem_map]; exact e) (hpw i j (by simpa using hi) (by simpa using hj) h)
    · exact h
    · exact absurd (by rw [List.getElem_map, List.getElem_map]; exact e.symm) (hpw j i (by simpa using hj) (by simpa using hi) h)
  rw [hT] at hu hau
  rw [hT]
  have HU := hide hu
  have HT := hide hT
  have HND := hide hnd
  have HP := hide hp
  have HS := hide hs
  clear hu hT hnd hp hs
  go_enter Tryz.func153, Tryz.ntmps153
  go_wp2_with fail
  go_loopw [3, 4] (fun lv iv wr => ∃ (i : Nat) (L : List Tx) (al : Option Addr) (cl : Nat) (ls : List Value), i ≤ N ∧ iv = .int .i64 i ∧ lv = .slice al i cl ∧ L.length = i ∧ DocsIs wr B (.slice al i cl) L ls ∧ SortT L ∧ L.Perm (T.take i) ∧ Kp [] w wr) (fun _ iv _ => N - (intOf iv).toNat)
  case atStart => exact ⟨0, [], none, 0, [], by omega, rfl, rfl, rfl, DocsIs.nil _ _, List.Pairwise.nil, List.Perm.refl _, Kp.refl _ _⟩
  case round =>
    obtain ⟨i, L, al, cl, ls, hi, rfl, rfl, hm, hl, hso, hpe, hkp⟩ := hrel
    by_cases hlt : i < N
    · obtain ⟨g, rfl⟩ := hau (by omega)
      have hiT : i < T.length := by rw [HT.out]; exact hlt
      have hur := HU.out.kp0 hkp
      have hiv : i < vs.length := by rw [hur.len]; exact hiT
      obtain ⟨q0, q1, q2⟩ := hur.cells i hiT hiv
      have hw := hur.each i hiT hiv
      obtain ⟨aw, cw, ew, _⟩ := owns_forms hw
      rw [ew] at q1 hw
      have hgl := (hur.row.lt g rfl).2
      have htk := take_snocL T i hiT
      have hne : ∀ j (hj : j < L.length), L[j].1 ≠ T[i].1 := by
        intro j hj e
        have hmem : L[j] ∈ T.take i := hpe.mem_iff.1 (List.getElem_mem hj)
        obtain ⟨q, hq, e2⟩ := List.getElem_of_mem hmem
        rw [List.length_take] at hq
        rw [List.getElem_take] at e2
        have := HND.out q i (by omega) hiT (by rw [e2]; exact e)
        omega
      obtain ⟨t, ht⟩ : ∃ t, T[i] = t := ⟨_, rfl⟩
      rw [ht] at q0 q1 hw htk hne
      obtain ⟨id, ws⟩ := t
      simp only at q0 q1 hw hne
      have hrowl := hl.row
      rw [hm] at hrowl
      obtain ⟨hf1, hf2, hf3, hf4⟩ := halves hrowl
      have hone := hl.one
      obtain ⟨zz, hzz⟩ : ∃ zz, (L.map Prod.fst).zip ls = zz := ⟨_, rfl⟩
      rw [hzz] at hf4 hone hrowl
      have hzl : (tx3 zz).length = i * 3 := hrowl.1
      have hlc : ∀ p (hp : p < L.length), (tx3 zz)[p * 3]? = some (.int .i64 (L[p].1 : Int)) := by
        intro p hp
        have hz : p < ((L.map Prod.fst).zip ls).length := by simp; have := hl.len; omega
        rw [← hzz, (tx3_get _ p hz).1]
        simp
      have hlb : ∀ gl, al = some ⟨gl, 0, none⟩ → gl < wr.heap.size := fun gl e => (hrowl.lt gl (by rw [e]; rfl)).2
      have HL := hide hl
      have HW := hide hw
      have HSO := hide hso
      have HPE := hide hpe
      have Hm := hide hm
      have HTK := hide htk
      have HNE := hide hne
      have HF1 := hide hf1
      have HF2 := hide hf2
      have HF4 := hide hf4
      have HON := hide hone
      have Hzz := hide hzz
      have HLC := hide hlc
      have HLB := hide hlb
      clear hl hw hso hpe hm htk hne hf1 hf2 hf4 hone hzz hlc hlb hrowl hur ew ht
      have hzr := hkp.size
      go_wp2_with fail
      go_loopw [5] (fun av w2 => ∃ p : Nat, p ≤ i ∧ av = .int .i64 p ∧ (∀ j (hj : j < L.length), j < p → L[j].1 < id) ∧ Kp [] wr w2) (fun av _ => i - (intOf av).toNat)
      case atStart => exact ⟨0, by omega, rfl, fun j _ hj => absurd hj (by omega), Kp.refl _ _⟩
      case round =>
        obtain ⟨p, hpm, rfl, hlow, hkq⟩ := hrel
        have hmL : L.length = i := Hm.out
        have r0 := hkq.cellv q0 (by simp)
        have r1 := hkq.cellv q1 (by simp)
        have r2 := hkq.cellv q2 (by simp)
        have hzq := hkq.size
        have hgl2 : g < wr.heap.size := by omega
        have hF4 : ∀ g, al = some ⟨g, 0, none⟩ → ∀ j u, (tx3 zz)[j]? = some u → wr.cell? ⟨g, j, none⟩ = some u := fun g e j u h => hkq.cellv (HF4.out g e j u h) (by simp)
        have hF4d : ∀ g, al = some ⟨g, 0, none⟩ → ∀ j u, (tx3 zz)[j]? = some u → wr.drew.cell? ⟨g, j, none⟩ = some u := hF4
        have hlb2 : ∀ gl, al = some ⟨gl, 0, none⟩ → gl < wr.heap.size := fun gl e => by have := HLB.out gl e; omega
        have hsome : p < i → ∃ gl, al = some ⟨gl, 0, none⟩ := by
          intro hpi
          cases hal : al with
          | none => have := (HF2.out hal).1; omega
          | some y => obtain ⟨gl, rfl⟩ := HF1.out y hal; exact ⟨gl, rfl⟩
        have kpw : Kp [] w wr := hkp.next hkq
        have HLr := hide (HL.out.kp0 hkq)
        have HWr := hide (hkq.owns HW.out (by simp))
        clear q0 q1 q2
        by_cases hc : ∃ h : p < L.length, L[p].1 < id
        · obtain ⟨hpl, hlt5⟩ := hc
          have hpm2 : p < i := by omega
          obtain ⟨gl, hgl'⟩ := hsome hpm2
          have hcl := hF4 gl hgl' _ _ (HLC.out p hpl)
          have hgll := hlb2 gl hgl'
          have hnx : ∀ j (hj : j < L.length), j < p + 1 → L[j].1 < id := by
            intro j hj hjp
            by_cases e : j = p
            · subst e; exact hlt5
            · exact hlow j hj (by omega)
          subst hgl'
          obtain ⟨y, hy⟩ : ∃ y, L[p].1 = y := ⟨_, rfl⟩
          rw [hy] at hcl hlt5
          have HNX := hide hnx
          have hyI : (y : Int) < (id : Int) := by omega
          have hpI : (p : Int) < (i : Int) := by omega
          clear hlow hy hnx hF4 hF4d hlb2 hsome
          go_wp2_with fail
          go_region
          go_wp2_with fail
          go_roundw
          case rel => exact ⟨p + 1, by omega, by go_num, HNX.out, hkq.drewN 1⟩
          case measure => simp [intOf]; omega
        · have hge : ∀ h : p < L.length, id < L[p].1 := by
            intro h
            have h1 : ¬ L[p].1 < id := fun h' => hc ⟨h, h'⟩
            have h2 := HNE.out p h
            omega
          have hns := sortT_ins L p (id, ws) (by omega) HSO.out hlow hge
          have hlo := fun w' => slice_loG 175 251 3 Tryz.underlying175 size148 al i cl p w' hpm hf3 HF1.out
          obtain ⟨ad, hhi, hadn, hads⟩ := slice_hiG 175 251 3 Tryz.underlying175 size148 al i cl p hpm hf3 HF2.out HF1.out
          have hd1 : al = none → p = 0 ∧ cl = 0 := fun e => by obtain ⟨e1, e2⟩ := HF2.out e; exact ⟨by omega, e2⟩
          have hd2 : ((tx3 zz).take (p * 3)).length = p * 3 := by rw [List.length_take, hzl]; omega
          have hd2b : ((tx3 zz).drop (p * 3)).length = (i - p) * 3 := by rw [List.length_drop, hzl]; omega
          have hd3 : ∀ adr, al = some adr → ∀ j u, ((tx3 zz).take (p * 3))[j]? = some u → wr.drew.cell? (adr.add j) = some u := by
            intro adr hadr j u hu
            obtain ⟨g', rfl⟩ := HF1.out adr hadr
            rw [add_zero']
            refine hF4d g' hadr j u ?_
            rw [List.getElem?_take] at hu
            split at hu
            · exact hu
            · simp at hu
          have hd3b : ∀ adr, ad = some adr → ∀ j u, ((tx3 zz).drop (p * 3))[j]? = some u → wr.drew.cell? (adr.add j) = some u := by
            intro adr hadr j u hu
            have hj : j < ((tx3 zz).drop (p * 3)).length := by
              rcases Nat.lt_or_ge j ((tx3 zz).drop (p * 3)).length with h | h
              · exact h
              · rw [List.getElem?_eq_none h] at hu; simp at hu
            obtain ⟨g', hg', rfl⟩ := hads adr hadr (by omega)
            have ea : (⟨g', p * 3, none⟩ : Addr).add j = ⟨g', p * 3 + j, none⟩ := by unfold Addr.add; split <;> simp_all
            rw [ea]
            refine hF4d g' hg' _ u ?_
            rw [List.getElem?_drop] at hu
            exact hu
          have hd4 : ∀ u ∈ (tx3 zz).take (p * 3), u.oneCell' = true := fun u hu => HON.out u (List.mem_of_mem_take hu)
          have hd4b : ∀ u ∈ (tx3 zz).drop (p * 3), u.oneCell' = true := fun u hu => HON.out u (List.mem_of_mem_drop hu)
          have hcase : ∀ (gl : Nat), al = some ⟨gl, 0, none⟩ → p < i → ∃ y : Nat, wr.cell? ⟨gl, p * 3, none⟩ = some (.int .i64 (y : Int)) ∧ ¬ (y : Int) < (id : Int) ∧ gl < wr.heap.size := by
            intro gl hgl' hpm2
            have hpl : p < L.length := by omega
            refine ⟨L[p].1, hF4 gl hgl' _ _ (HLC.out p hpl), ?_, hlb2 gl hgl'⟩
            have := hge hpl
            omega
          have HNS := hide hns
          have HADN := hide hadn
          have HD1 := hide hd1
          have HD2 := hide hd2
          have HD2b := hide hd2b
          have HD4 := hide hd4
          have HD4b := hide hd4b
          have HD3 := hide hd3
          have HD3b := hide hd3b
          clear hns hadn hd1 hd2 hd2b hd3 hd3b hd4 hd4b hlow hge hads hc hmL hF4 hF4d hlb2
          by_cases hlt6 : p < i
          · obtain ⟨gl, hga⟩ := hsome hlt6
            obtain ⟨y, q3, q4, q5⟩ := hcase gl hga hlt6
            subst hga
            have hpI : (p : Int) < (i : Int) := by omega
            have q4d : decide ((y : Int) < (id : Int)) = false := decide_eq_false q4
            clear hcase hsome
            go_wp2_with fail
            go_region
            have q4e : decide (y < id) = false := decide_eq_false (by omega)
            rw [q4e]
            clear q3 q4 q4d q4e
            obtain ⟨wd, hwd⟩ : ∃ wd, wr.drew = wd := ⟨_, rfl⟩
            have t0 : wr.drew.cell? ⟨g, i * 3, none⟩ = some (.int .i64 (id : Int)) := r0
            have t1 : wr.drew.cell? ⟨g, i * 3 + 1, none⟩ = some (.slice aw ws.length cw) := r1
            have t2 : wr.drew.cell? ⟨g, i * 3 + 2, none⟩ = some (.bool false) := r2
            have hzd : wr.drew.heap.size = wr.heap.size := rfl
            have kpd : Kp [] w wr.drew := kpw.drewN 1
            have HLd := hide HLr.out.drew
            have HWd := hide HWr.out.drew
            clear r0 r1 r2 kpw HLr HWr
            rw [hwd] at t0 t1 t2 hzd kpd HLd HWd HD3 HD3b
            rw [hwd]
            have hgd : g < wd.heap.size := by omega
            have hzd1 : wr.heap.size ≤ wd.heap.size := by omega
            clear hwd hzd
            go_wp2_with (first
              | (at_builtin; refine wpList_append_opt _ rfl _ _ 175 rfl wd.heap.size 251 i0 (.agg #[.int .i64 0, .slice none 0 0, .bool false]) 3 40 Tryz.underlying175 hi0 hz0 hz1 hz2 rfl (by decide) _ 0 [] rfl (World.ownsRow_nil _ _ _ _) (some ⟨gl, 0, none⟩) p cl ((tx3 zz).take (p * 3)) rfl HD1.out HD2.out HD3.out HD4.out ?d5 ?d6 ?d7 ?_)
              | fail)
            case d5 => unfold maxLen; omega
            case d6 => omega
            case d7 => exact Nat.le_refl _
            intro v5 w5 hown5 hg5 hb5
            obtain ⟨a5, c5, rfl, _⟩ := owns_forms hown5
            have k5 : Kp [] wd w5 := (Kp.refl _ _).grown hg5 (fun k hk => by simp [Value.ownBlock] at hk)
            have hz5 := k5.size
            have s0 := k5.cellv t0 (by simp)
            have s1 := k5.cellv t1 (by simp)
            have s2 := k5.cellv t2 (by simp)
            have HO5 := hide hown5
            have hz5g : g < w5.heap.size := by omega
            clear hown5 hg5 hb5 t0 t1 t2
            go_wp2_with (first
              | (at_builtin; refine wpList_append_own_at _ rfl _ _ 175 rfl wd.heap.size 251 i0 (.agg #[.int .i64 0, .slice none 0 0, .bool false]) 3 40 Tryz.underlying175 hi0 hz0 hz1 hz2 rfl (by decide) _ _ _ rfl (HO5.out.alloc _) ⟨w5.heap.size, 0, none⟩ 1 1 [.int .i64 (id : Int), .slice aw ws.length cw, .bool false] rfl rfl (World.news_of_block (cs := #[.int .i64 (id : Int), .slice aw ws.length cw, .bool false]) (t := 251) (fr := (0, 0)) (heap_alloc_new _ _)) ?c2 ?c3 ?c4 ?c5 ?_)
              | fail)
            case c2 => intro u hu; simp at hu; rcases hu with rfl | rfl | rfl <;> rfl
            case c3 => unfold maxLen; omega
            case c4 => omega
            case c5 => simp; omega
            intro v6 w6 hown6 hg6 _ _
            obtain ⟨a6, c6, rfl, _⟩ := owns_forms hown6
            have k6 : Kp (Value.slice a5 p c5).ownBlock.toList w5 w6 := ((Kp.refl _ _).alloc _).grown hg6 (fun j hj => .inl (by simp [hj]))
            have k6' : Kp [] wd w6 := k5.trans k6 (fun x hx => .inr (HO5.out.lt x (by simpa using hx)).1)
            have hz6 := k6'.size
            have HO6 := hide hown6
            have HD5 := hide (fun adr h1 j u h2 => k6'.cellv (HD3b.out adr h1 j u h2) (by simp))
            clear hown6 hg6 k6 k5 HO5 s0 s1 s2
            go_wp2_with (first
              | (at_builtin; refine wpList_append_opt _ rfl _ _ 175 rfl wd.heap.size 251 i0 (.agg #[.int .i64 0, .slice none 0 0, .bool false]) 3 40 Tryz.underlying175 hi0 hz0 hz1 hz2 rfl (by decide) _ _ _ rfl HO6.out ad (i - p) (cl - p) ((tx3 zz).drop (p * 3)) rfl HADN.out HD2b.out HD5.out HD4b.out ?d5 ?d6 ?d7 ?_)
              | fail)
            case d5 => unfold maxLen; omega
            case d6 => omega
            case d7 => omega
            intro v7 w7 hown7 hg7 hb7
            rw [show p + 1 + (i - p) = i + 1 by omega] at hown7
            obtain ⟨a7, c7, rfl, _⟩ := owns_forms hown7
            have k7 : Kp (Value.slice a6 (p + 1) c6).ownBlock.toList w6 w7 := (Kp.refl _ _).grown hg7 (fun j hj => .inl (by simp [hj]))
            have k7' : Kp [] wd w7 := k6'.trans k7 (fun x hx => .inr (HO6.out.lt x (by simpa using hx)).1)
            have hbB : B ≤ wd.heap.size := by omega
            have hins := HLd.out.ins HWd.out (show p ≤ L.length by rw [Hm.out]; exact hpm) (id := id) (v' := .slice a7 (i + 1) c7) (by rw [Hm.out, Hzz.out, List.append_assoc]; exact owns_low hown7 hbB) k7'
            have HINS := hide hins
            have kf := kpd.next k7'
            clear hown7 hg7 hb7 k7 k6' k7' hins HO6 HD5
            go_wp2_with fail
            go_roundw
            case rel =>
              refine ⟨i + 1, Pak.ins L p (id, ws), a7, c7, Pak.ins ls p (.slice aw ws.length cw), by omega, by go_num, rfl, ?_, HINS.out, HNS.out, ?_, kf⟩
              · rw [ins_len L p _ (by rw [Hm.out]; exact hpm), Hm.out]
              · rw [HTK.out]; exact perm_insT _ _ p _ HPE.out
            case measure => simp [intOf]; omega
          · have hpI : decide ((p : Int) < (i : Int)) = false := by simp; omega
            clear hcase hsome
            go_wp2_with fail
            go_region
            obtain ⟨wd, hwd⟩ : ∃ wd, wr.drew = wd := ⟨_, rfl⟩
            have t0 : wr.drew.cell? ⟨g, i * 3, none⟩ = some (.int .i64 (id : Int)) := r0
            have t1 : wr.drew.cell? ⟨g, i * 3 + 1, none⟩ = some (.slice aw ws.length cw) := r1
            have t2 : wr.drew.cell? ⟨g, i * 3 + 2, none⟩ = some (.bool false) := r2
            have hzd : wr.drew.heap.size = wr.heap.size := rfl
            have kpd : Kp [] w wr.drew := kpw.drewN 1
            have HLd := hide HLr.out.drew
            have HWd := hide HWr.out.drew
            clear r0 r1 r2 kpw HLr HWr
            rw [hwd] at t0 t1 t2 hzd kpd HLd HWd HD3 HD3b
            rw [hwd]
            have hgd : g < wd.heap.size := by omega
            have hzd1 : wr.heap.size ≤ wd.heap.size := by omega
            clear hwd hzd
            go_wp2_with (first
              | (at_builtin; refine wpList_append_opt _ rfl _ _ 175 rfl wd.heap.size 251 i0 (.agg #[.int .i64 0, .slice none 0 0, .bool false]) 3 40 Tryz.underlying175 hi0 hz0 hz1 hz2 rfl (by decide) _ 0 [] rfl (World.ownsRow_nil _ _ _ _) al p cl ((tx3 zz).take (p * 3)) rfl HD1.out HD2.out HD3.out HD4.out ?d5 ?d6 ?d7 ?_)
              | fail)
            case d5 => unfold maxLen; omega
            case d6 => omega
            case d7 => exact Nat.le_refl _
            intro v5 w5 hown5 hg5 hb5
            obtain ⟨a5, c5, rfl, _⟩ := owns_forms hown5
            have k5 : Kp [] wd w5 := (Kp.refl _ _).grown hg5 (fun k hk => by simp [Value.ownBlock] at hk)
            have hz5 := k5.size
            have s0 := k5.cellv t0 (by simp)
            have s1 := k5.cellv t1 (by simp)
            have s2 := k5.cellv t2 (by simp)
            have HO5 := hide hown5
            have hz5g : g < w5.heap.size := by omega
            clear hown5 hg5 hb5 t0 t1 t2
            go_wp2_with (first
              | (at_builtin; refine wpList_append_own_at _ rfl _ _ 175 rfl wd.heap.size 251 i0 (.agg #[.int .i64 0, .slice none 0 0, .bool false]) 3 40 Tryz.underlying175 hi0 hz0 hz1 hz2 rfl (by decide) _ _ _ rfl (HO5.out.alloc _) ⟨w5.heap.size, 0, none⟩ 1 1 [.int .i64 (id : Int), .slice aw ws.length cw, .bool false] rfl rfl (World.news_of_block (cs := #[.int .i64 (id : Int), .slice aw ws.length cw, .bool false]) (t := 251) (fr := (0, 0)) (heap_alloc_new _ _)) ?c2 ?c3 ?c4 ?c5 ?_)
              | fail)
            case c2 => intro u hu; simp at hu; rcases hu with rfl | rfl | rfl <;> rfl
            case c3 => unfold maxLen; omega
            case c4 => omega
            case c5 => simp; omega
            intro v6 w6 hown6 hg6 _ _
            obtain ⟨a6, c6, rfl, _⟩ := owns_forms hown6
            have k6 : Kp (Value.slice a5 p c5).ownBlock.toList w5 w6 := ((Kp.refl _ _).alloc _).grown hg6 (fun j hj => .inl (by simp [hj]))
            have k6' : Kp [] wd w6 := k5.trans k6 (fun x hx => .inr (HO5.out.lt x (by simpa using hx)).1)
            have hz6 := k6'.size
            have HO6 := hide hown6
            have HD5 := hide (fun adr h1 j u h2 => k6'.cellv (HD3b.out adr h1 j u h2) (by simp))
            clear hown6 hg6 k6 k5 HO5 s0 s1 s2
            go_wp2_with (first
              | (at_builtin; refine wpList_append_opt _ rfl _ _ 175 rfl wd.heap.size 251 i0 (.agg #[.int .i64 0, .slice none 0 0, .bool false]) 3 40 Tryz.underlying175 hi0 hz0 hz1 hz2 rfl (by decide) _ _ _ rfl HO6.out ad (i - p) (cl - p) ((tx3 zz).drop (p * 3)) rfl HADN.out HD2b.out HD5.out HD4b.out ?d5 ?d6 ?d7 ?_)
              | fail)
            case d5 => unfold maxLen; omega
            case d6 => omega
            case d7 => omega
            intro v7 w7 hown7 hg7 hb7
            rw [show p + 1 + (i - p) = i + 1 by omega] at hown7
            obtain ⟨a7, c7, rfl, _⟩ := owns_forms hown7
            have k7 : Kp (Value.slice a6 (p + 1) c6).ownBlock.toList w6 w7 := (Kp.refl _ _).grown hg7 (fun j hj => .inl (by simp [hj]))
            have k7' : Kp [] wd w7 := k6'.trans k7 (fun x hx => .inr (HO6.out.lt x (by simpa using hx)).1)
            have hbB : B ≤ wd.heap.size := by omega
            have hins := HLd.out.ins HWd.out (show p ≤ L.length by rw [Hm.out]; exact hpm) (id := id) (v' := .slice a7 (i + 1) c7) (by rw [Hm.out, Hzz.out, List.append_assoc]; exact owns_low hown7 hbB) k7'
            have HINS := hide hins
            have kf := kpd.next k7'
            clear hown7 hg7 hb7 k7 k6' k7' hins HO6 HD5
            go_wp2_with fail
            go_roundw
            case rel =>
              refine ⟨i + 1, Pak.ins L p (id, ws), a7, c7, Pak.ins ls p (.slice aw ws.length cw), by omega, by go_num, rfl, ?_, HINS.out, HNS.out, ?_, kf⟩
              · rw [ins_len L p _ (by rw [Hm.out]; exact hpm), Hm.out]
              · rw [HTK.out]; exact perm_insT _ _ p _ HPE.out
            case measure => simp [intOf]; omega
    · have ei : N = i := by omega
      subst ei
      have he : L = T' := by
        rw [show T.take N = T by rw [← HT.out, List.take_length]] at hpe
        exact sortT_eq L T' (hpe.trans HP.out.symm) hso HS.out
      subst he
      have HL := hide hl
      clear hl hso hpe
      go_wp2_with fail
      go_ret
      exact ⟨_, ls, rfl, HL.out, hkp⟩
end Go.Proofs.YtbkepgmgebmceaaGreatDoor.Pak

set_option linter.unusedVariables false
set_option maxRecDepth 4000
namespace Go.Proofs.YtbkepgmgebmceaaGreatDoor.Pak
open Go.RowKit Go.Proofs.YtbkepgmgebmceaaGreatDoor Go.Proofs.YtbkepgmgebmceaaGreatDoor.Spl SiftM

/-- Docs that lie somewhere. -/
def DocsAt (w : World) (a : Option Addr) (D : List Dc) : Prop := D = [] ∨ ∃ b off, a = some ⟨b, off, none⟩ ∧ b < w.heap.size ∧ ∀ i (h : i < D.length), w.cell? ⟨b, off + i * 2, none⟩ = some (.int .i64 D[i].1) ∧ w.cell? ⟨b, off + i * 2 + 1, none⟩ = some (.string D[i].2)
theorem DocsAt.kp {w w' : World} {a : Option Addr} {D : List Dc} (h : DocsAt w a D) (k : Kp [] w w') : DocsAt w' a D := by
  rcases h with h | ⟨b, off, e, h0, h1⟩
  · exact .inl h
  · exact .inr ⟨b, off, e, Nat.lt_of_lt_of_le h0 k.size, fun i hi => ⟨k.cellv (h1 i hi).1 (by simp), k.cellv (h1 i hi).2 (by simp)⟩⟩
def IdOk (D : List Dc) (i : Nat) : Prop := ∀ h : i < D.length, 0 ≤ D[i].1 ∧ D[i].1 ≤ 99999 ∧ ∀ k (hk : k < i), D[k].1 ≠ D[i].1
def IdsOk (D : List Dc) : Prop := ∀ i, IdOk D i
/-- What the document's Pack answers. -/
def PackPost (D : List Dc) (N' : List Nd) (w : World) (e : Ending) (w' : World) : Prop :=
  Kp [] w w' ∧ (60 < D.length ∧ e = .returned (.tuple #[.slice none 0 0, .int .i64 5]) ∨
    D.length ≤ 60 ∧ ¬ IdsOk D ∧ e = .returned (.tuple #[.slice none 0 0, .int .i64 3]) ∨
    D.length ≤ 60 ∧ IdsOk D ∧ (∃ d ∈ D, 120 < d.2.size) ∧ e = .returned (.tuple #[.slice none 0 0, .int .i64 4]) ∨
    D.length ≤ 60 ∧ IdsOk D ∧ (∀ d ∈ D, d.2.size ≤ 120) ∧ ∃ (a : Option Addr) (c n : Nat), (fileT (txs N')).length = n ∧ e = .returned (.tuple #[.slice a n c, .int .i64 0]) ∧ w'.ownsRow w.heap.size 5 1 (.slice a n c) n (byV (fileT (txs N'))))

theorem DocsIs.snoc {w w' : World} {base id : Nat} {v v' lv : Value} {T : List Tx} {vs : List Value} {ws : List (List UInt8)} (h : DocsIs w base v T vs) (hl : w.ownsRow base 9 1 lv ws.length (strV ws))
    (hrow : w'.ownsRow base 251 3 v' (T.length + 1) (tx3 ((T.map Prod.fst).zip vs) ++ [.int .i64 (id : Int), lv, .bool false])) (k : Kp v.ownBlock.toList w w') : DocsIs w' base v' (T ++ [(id, ws)]) (vs ++ [lv]) := by
  have hne : ∀ {n : Nat} {u : Value} {xs : List Value}, w.ownsRow base 9 1 u n xs → ∀ g, u.ownBlock = some g → g ∉ v.ownBlock.toList := by
    intro n u xs ho g hg hx
    exact owns_disj h.row ho (by decide) g (by simpa using hx) hg
  refine ⟨by simp [h.len], ?_, ?_⟩
  · have e1 : (T ++ [(id, ws)]).length = T.length + 1 := by simp
    have e2 : ((T ++ [(id, ws)]).map Prod.fst).zip (vs ++ [lv]) = (T.map Prod.fst).zip vs ++ [(id, lv)] := by
      rw [List.map_append, List.zip_append (by simp [h.len])]; rfl
    rw [e1, e2, tx3_append]
    have e3 : tx3 [(id, lv)] = [.int .i64 (id : Int), lv, .bool false] := by simp [tx3]
    rw [e3]; exact hrow
  · intro i hi h2
    by_cases e : i < T.length
    · have hiv : i < vs.length := by rw [h.len]; exact e
      rw [List.getElem_append_left hiv]
      have ho := h.each i e hiv
      simp only [List.getElem_append_left e]
      exact k.owns ho (hne ho)
    · have ei : i = T.length := by simp at hi; omega
      subst ei
      have e2 : (vs ++ [lv])[T.length] = lv := by rw [List.getElem_append_right (by rw [h.len]; omega)]; simp [h.len]
      rw [e2]
      simp only [List.getElem_append_right (Nat.le_refl _), Nat.sub_self, List.getElem_cons_zero]
      exact k.owns hl (hne hl)

set_option maxHeartbeats 1000000 in
set_option maxRecDepth 100000 in
theorem rpack_any (a : Option Addr) (cap n : Nat) (D : List Dc) (N N' : List Nd) (w : World) (h : DocsAt w a D) (hn : D.length = n) (hn2 : n ≤ 4000000000000) (hN : IdsOk D → D = dcs N ∧ N'.Perm N ∧ Sorted N') :
    Calls Tryz.prog 75 #[.slice a n cap] w (PackPost D N' w) := by
  obtain ⟨i0, hi0, hz0, hz1, hz2⟩ := info_parts info148
  have HD := hide h
  have Hn := hide hn
  have HN := hide hN
  clear h hn hN
  go_enter Tryz.func75, Tryz.ntmps75
  by_cases h60 : 60 < n
  · go_wp2_with fail
    go_ret2
    exact ⟨Kp.refl _ _, .inl ⟨by rw [Hn.out]; exact h60, rfl⟩⟩
  have h60I : ¬ ((n : Int) > 60) := by omega
  go_wp2_with fail
  go_loopw [4] (fun iv wr => ∃ i : Nat, i ≤ n ∧ iv = .int .i64 i ∧ (∀ j, j < i → IdOk D j) ∧ Kp [] w wr) (fun iv _ => n - (intOf iv).toNat)
  case atStart => exact ⟨0, by omega, rfl, fun j hj => absurd hj (by omega), Kp.refl _ _⟩
  case round =>
    obtain ⟨i, hi, rfl, hok, hkp⟩ := hrel
    have HOK := hide hok
    clear hok
    by_cases hlt : i < n
    · have hiD : i < D.length := by rw [Hn.out]; exact hlt
      obtain ⟨b, off, rfl, hb, hc⟩ : ∃ b off, a = some ⟨b, off, none⟩ ∧ b < wr.heap.size ∧ ∀ i (h : i < D.length), wr.cell? ⟨b, off + i * 2, none⟩ = some (.int .i64 D[i].1) ∧ wr.cell? ⟨b, off + i * 2 + 1, none⟩ = some (.string D[i].2) := by
        rcases HD.out.kp hkp with e | e
        · rw [e] at hiD; simp at hiD
        · exact e
      have q0 := (hc i hiD).1
      by_cases hbad : D[i].1 < 0 ∨ 99999 < D[i].1
      · have hno : ¬ IdsOk D := by
          intro hk
          have := hk i hiD
          omega
        obtain ⟨x, hx⟩ : ∃ x, D[i].1 = x := ⟨_, rfl⟩
        rw [hx] at q0 hbad
        have HNO := hide hno
        clear hc hno hx
        by_cases hx0 : x < 0
        · go_wp2_with fail
          go_ret2
          exact ⟨hkp, .inr (.inl ⟨by rw [Hn.out]; omega, HNO.out, rfl⟩)⟩
        · have hx9 : 99999 < x := by omega
          go_wp2_with fail
          go_ret2
          exact ⟨hkp, .inr (.inl ⟨by rw [Hn.out]; omega, HNO.out, rfl⟩)⟩
      · have hx0 : ¬ D[i].1 < 0 := fun h => hbad (.inl h)
        have hx9 : ¬ 99999 < D[i].1 := fun h => hbad (.inr h)
        obtain ⟨x, hx⟩ : ∃ x, D[i].1 = x := ⟨_, rfl⟩
        rw [hx] at q0 hx0 hx9
        have HC := hide hc
        have Hx := hide hx
        clear hc hx hbad
        go_wp2_with fail
        go_loopw [5] (fun kv w2 => ∃ k : Nat, k ≤ i ∧ kv = .int .i64 k ∧ (∀ j (hj : j < D.length), j < k → D[j].1 ≠ x) ∧ Kp [] w w2) (fun kv _ => i - (intOf kv).toNat)
        case atStart => exact ⟨0, by omega, rfl, fun j _ hj => absurd hj (by omega), hkp⟩
        case round =>
          obtain ⟨k, hk, rfl, hne, hkp2⟩ := hrel
          have HNE := hide hne
          clear hne
          by_cases hlt2 : k < i
          · have hkD : k < D.length := by omega
            obtain ⟨hb2, hc2⟩ : b < wr.heap.size ∧ ∀ i (h : i < D.length), wr.cell? ⟨b, off + i * 2, none⟩ = some (.int .i64 D[i].1) ∧ wr.cell? ⟨b, off + i * 2 + 1, none⟩ = some (.string D[i].2) := by
              rcases HD.out.kp hkp2 with e | ⟨b', off', e, e1, e2⟩
              · rw [e] at hiD; simp at hiD
              · simp at e
                obtain ⟨rfl, rfl⟩ := e
                exact ⟨e1, e2⟩
            have r0 := (hc2 i hiD).1
            have r1 := (hc2 k hkD).1
            rw [Hx.out] at r0
            have hnx := HNE.out
            by_cases hyx : D[k].1 = x
            · have hno : ¬ IdsOk D := by
                intro hk'
                have := (hk' i hiD).2.2 k hlt2
                rw [Hx.out] at this
                exact this hyx
              rw [hyx] at r1
              have HNO := hide hno
              clear hno hc2 hnx
              go_wp2_with fail
              go_region
              go_wp2_with fail
              go_ret2
              exact ⟨hkp2.drewN 1, .inr (.inl ⟨by rw [Hn.out]; omega, HNO.out, rfl⟩)⟩
            · have hnx2 : ∀ j (hj : j < D.length), j < k + 1 → D[j].1 ≠ x := by
                intro j hj hjk
                by_cases e : j = k
                · subst e; exact hyx
                · exact hnx j hj (by omega)
              obtain ⟨y, hy⟩ : ∃ y, D[k].1 = y := ⟨_, rfl⟩
              rw [hy] at r1 hyx
              have hyb : (y == x) = false := by simpa using hyx
              have HNX := hide hnx2
              clear hnx hnx2 hc2 hy
              go_wp2_with fail
              go_region
              go_wp2_with fail
              go_roundw
              case rel => exact ⟨k + 1, by omega, by go_num, HNX.out, hkp2.drewN 1⟩
              case measure => simp [intOf]; omega
          · have ek : i = k := by omega
            subst ek
            have hid : ∀ j, j < i + 1 → IdOk D j := by
              intro j hj
              by_cases e : j = i
              · subst e
                intro hjD
                rw [Hx.out]
                refine ⟨by omega, by omega, fun k' hk' => ?_⟩
                exact HNE.out k' (by omega) hk'
              · exact HOK.out j (by omega)
            have HID := hide hid
            clear hid q0
            go_wp2_with fail
            go_roundw
            case rel => exact ⟨i + 1, by omega, by go_num, HID.out, hkp2⟩
            case measure => simp [intOf]; omega
    · have ei : n = i := by omega
      subst ei
      have hall : IdsOk D := by
        intro j hj
        exact HOK.out j (by rw [← Hn.out]; exact hj) hj
      obtain ⟨hDN, hpe, hso⟩ := HN.out hall
      have HAL := hide hall
      have HPE := hide hpe
      have HSO := hide hso
      have HDN := hide hDN
      clear hall hpe hso hDN HN HOK
      go_wp2_with fail
      have hNl : N.length = n := by have := congrArg List.length HDN.out; rw [dcs_len] at this; rw [← this]; exact Hn.out
      have HNL := hide hNl
      clear hNl
      go_loopw [6, 7] (fun lv iv wr => ∃ (k : Nat) (al : Option Addr) (cl : Nat) (ls : List Value), k ≤ n ∧ iv = .int .i64 k ∧ lv = .slice al k cl ∧ DocsIs wr w.heap.size (.slice al k cl) (txs (N.take k)) ls ∧ (∀ x ∈ N.take k, x.2.size ≤ 120) ∧ Kp [] w wr) (fun _ iv _ => n - (intOf iv).toNat)
      case atStart => exact ⟨0, none, 0, [], by omega, rfl, rfl, DocsIs.nil _ _, by simp, hkp⟩
      case round =>
        obtain ⟨k, al, cl, ls, hk, rfl, rfl, hl, hsz, hkp2⟩ := hrel
        have hlen2 : (txs (N.take k)).length = k := by have := HNL.out; simp [txs]; omega
        by_cases hlt2 : k < n
        · have hkN : k < N.length := by rw [HNL.out]; exact hlt2
          have hkD : k < D.length := by rw [Hn.out]; exact hlt2
          obtain ⟨b, off, rfl, hb, hc⟩ : ∃ b off, a = some ⟨b, off, none⟩ ∧ b < wr.heap.size ∧ ∀ i (h : i < D.length), wr.cell? ⟨b, off + i * 2, none⟩ = some (.int .i64 D[i].1) ∧ wr.cell? ⟨b, off + i * 2 + 1, none⟩ = some (.string D[i].2) := by
            rcases HD.out.kp hkp2 with e | e
            · rw [e] at hkD; simp at hkD
            · exact e
          obtain ⟨q0, q1⟩ := hc k hkD
          have hgd : D[k] = ((N[k].1 : Int), N[k].2) := by
            have := HDN.out
            subst this
            simp [dcs]
          rw [hgd] at q0 q1
          simp only at q0 q1
          have hsn := take_snocL N k hkN
          have hmemD : ((N[k].1 : Int), N[k].2) ∈ D := by rw [← hgd]; exact List.getElem_mem hkD
          obtain ⟨x, hx⟩ : ∃ x, N[k] = x := ⟨_, rfl⟩
          rw [hx] at q0 q1 hsn hmemD
          obtain ⟨id, bd⟩ := x
          simp only at q0 q1 hmemD
          have HSN := hide hsn
          have HMD := hide hmemD
          have HL := hide hl
          have HSZ := hide hsz
          have Hl2 := hide hlen2
          clear hsn hmemD hl hsz hlen2 hc hgd hx
          by_cases hlong : 120 < bd.size
          · go_wp2_with fail
            go_ret2
            exact ⟨hkp2, .inr (.inr (.inl ⟨by rw [Hn.out]; omega, HAL.out, ⟨_, HMD.out, hlong⟩, rfl⟩))⟩
          · have hspl := refSplit_any bd wr (by omega)
            have HSP := hide hspl
            have hlongI : ¬ ((bd.size : Int) > 120) := by omega
            clear hspl
            go_wp2_with fail
            refine HSP.out.mono ?_
            rintro e w3 ⟨lv, rfl, hlo, hbel⟩
            obtain ⟨aw, cw, rfl, _⟩ := owns_forms hlo
            have k3 : Kp [] wr w3 := Kp.of_below [] hbel
            have hz3 := k3.size
            have hz2' := hkp2.size
            have r0 := k3.cellv q0 (by simp)
            have HL3 := hide (HL.out.kp0 k3)
            have HLO := hide (owns_low hlo hz2')
            have kp3 := hkp2.next k3
            have hro := HL3.out.row
            rw [Hl2.out] at hro
            have HRO := hide hro
            have hb3 : b < w3.heap.size := by omega
            obtain ⟨wl, hwl⟩ : ∃ wl, (sp bd.size bd.data.toList).length = wl := ⟨_, rfl⟩
            rw [hwl] at HLO
            rw [hwl]
            have Hwl := hide hwl
            clear hlo hro HL hbel k3 HSP q0 q1 hwl
            go_wp2_with (first
              | (at_builtin; refine wpList_append_own_at _ rfl _ _ 175 rfl w.heap.size 251 i0 (.agg #[.int .i64 0, .slice none 0 0, .bool false]) 3 40 Tryz.underlying175 hi0 hz0 hz1 hz2 rfl (by decide) _ _ _ rfl (HRO.out.alloc _) ⟨w3.heap.size, 0, none⟩ 1 1 [.int .i64 (id : Int), .slice aw wl cw, .bool false] rfl rfl (World.news_of_block (cs := #[.int .i64 (id : Int), .slice aw wl cw, .bool false]) (t := 251) (fr := (0, 0)) (heap_alloc_new _ _)) ?c2 ?c3 ?c4 ?c5 ?_)
              | fail)
            case c2 => intro u hu; simp at hu; rcases hu with rfl | rfl | rfl <;> rfl
            case c3 => unfold maxLen; omega
            case c4 => omega
            case c5 => simp; omega
            intro v4 w4 hown4 hgrow _ _
            obtain ⟨a4, c4, rfl, _⟩ := owns_forms hown4
            have k4 : Kp (Value.slice al k cl).ownBlock.toList w3 w4 := ((Kp.refl _ _).alloc _).grown hgrow (fun j hj => .inl (by simp [hj]))
            have kf : Kp [] w w4 := kp3.trans k4 (fun y hy => .inr (HRO.out.lt y (by simpa using hy)).1)
            have hlo2 : w3.ownsRow w.heap.size 9 1 (.slice aw wl cw) (wordsB bd).length (strV (wordsB bd)) := by
              have e : (wordsB bd).length = wl := Hwl.out
              rw [e]; exact HLO.out
            have hsn4 := HL3.out.snoc (id := id) (v' := .slice a4 (k + 1) c4) hlo2 (by rw [Hl2.out]; exact hown4) k4
            have HS4 := hide hsn4
            clear hown4 hgrow k4 hsn4 hlo2 HL3 HLO HRO r0
            go_wp2_with fail
            go_roundw
            case rel =>
              refine ⟨k + 1, a4, c4, ls ++ [.slice aw wl cw], by omega, by go_num, rfl, ?_, ?_, kf⟩
              · rw [HSN.out]
                have e : txs (N.take k ++ [(id, bd)]) = txs (N.take k) ++ [(id, wordsB bd)] := by simp [txs]
                rw [e]; exact HS4.out
              · rw [HSN.out]
                intro x hx
                rcases List.mem_append.1 hx with hx | hx
                · exact HSZ.out x hx
                · simp at hx; subst hx; simp only; omega
            case measure => simp [intOf]; omega
        · have ek : n = k := by omega
          subst ek
          rw [show N.take n = N by rw [← HNL.out, List.take_length]] at hl hsz hlen2
          have hid : ∀ x ∈ N, x.1 ≤ 99999 := by
            intro x hx
            obtain ⟨j, hj, rfl⟩ := List.getElem_of_mem hx
            have hjD : j < D.length := by rw [Hn.out, ← HNL.out]; exact hj
            have h1 := (HAL.out j hjD).2.1
            have hgd : D[j] = ((N[j].1 : Int), N[j].2) := by
              have := HDN.out
              subst this
              simp [dcs]
            rw [hgd] at h1
            simp only at h1
            omega
          have hfine := fine_txs N' HSO.out (by rw [HPE.out.length_eq, HNL.out]; omega) (fun x hx => hid x (HPE.out.mem_iff.1 hx)) (fun x hx => hsz x (HPE.out.mem_iff.1 hx))
          have hsT : SortT (txs N') := by
            unfold SortT txs
            rw [List.pairwise_map]
            exact HSO.out
          have hpT : (txs N').Perm (txs N) := by unfold txs; exact HPE.out.map _
          have HSR := hide (rsorted_any w.heap.size n _ (txs N) (txs N') ls wr hl hlen2 (by omega) hkp2.size hpT hsT)
          have hsD : ∀ d ∈ D, d.2.size ≤ 120 := by
            intro d hd
            rw [HDN.out] at hd
            obtain ⟨x, hx, rfl⟩ := List.mem_map.1 hd
            exact hsz x hx
          have HSD := hide hsD
          have HFI := hide hfine
          clear hl hsz hlen2 hid hfine hsT hpT hsD
          go_wp2_with fail
          refine HSR.out.mono ?_
          rintro e w3 ⟨v3, vs3, rfl, hd3, k3⟩
          have hz3 := k3.size
          have hz2' := hkp2.size
          obtain ⟨a3, c3, rfl, _⟩ := owns_forms hd3.row
          have HFL := hide (rfile_any w.heap.size _ (txs N') vs3 w3 hd3 HFI.out)
          clear hd3 HSR
          go_wp2_with fail
          refine HFL.out.mono ?_
          rintro e w4 ⟨a4, c4, n4, hn4, rfl, ho4, k4⟩
          have HO4 := hide (owns_low ho4 (show w.heap.size ≤ w3.heap.size by omega))
          have Hn4 := hide hn4
          have kf : Kp [] w w4 := (hkp2.next k3).next k4
          clear hn4 ho4 HFL k3 k4
          go_wp2_with fail
          go_ret2
          exact ⟨kf, .inr (.inr (.inr ⟨by rw [Hn.out]; omega, HAL.out, HSD.out, a4, c4, n4, Hn4.out, rfl, HO4.out⟩))⟩
end Go.Proofs.YtbkepgmgebmceaaGreatDoor.Pak

namespace Go.Proofs.YtbkepgmgebmceaaGreatDoor.Own
open Go.RowKit Go.Proofs.YtbkepgmgebmceaaGreatDoor
open Go.Proofs.YtbkepgmgebmceaaGreatDoor.Spl
set_option linter.unusedVariables false

theorem wpList_append_opt {P : Program} (w : World) {ops : Array Oper} {rest : List Oper} {o : Oper} {a : Act} {Q : Exit → Act → World → Prop} (hgd : o.guard = none) (s x : Operand) (t : TypeId)
    (ho : o.op = .call { callee := .builtin .append, args := #[s, x], argTypes := #[t, t] })
    (base : Nat) (e : TypeId) (i : TypeInfo) (z : Value) (size bytes : Nat) (ht : P.underlying t = some (.slice e)) (hi : P.info? e = some i) (hz : i.zero = some z)
    (hsize : i.size = size) (hby : i.bytes = bytes) (hzs : z.cells.size = size) (hsz : 0 < size)
    (v : Value) (n : Nat) (xs : List Value) (hs : a.eval s = v) (hown : w.ownsRow base e size v n xs)
    (ad : Option Addr) (m c : Nat) (news : List Value) (hx : a.eval x = .slice ad m c) (hnone : ad = none → m = 0 ∧ c = 0) (hl : news.length = m * size)
    (hsrc : ∀ adr, ad = some adr → ∀ j u, news[j]? = some u → w.cell? (adr.add j) = some u) (h1 : ∀ u ∈ news, u.oneCell' = true)
    (h63 : n + m ≤ maxLen) (hbytes : (n + m) * bytes ≤ 140737488355328) (hbase : base ≤ w.heap.size)
    (h : ∀ v' w', w'.ownsRow base e size v' (n + m) (xs ++ news) → w.grownBy w' v.ownBlock → (v'.ownBlock = v.ownBlock ∨ v'.ownBlock = some w.heap.size) → wpList P ops Q rest (a.put o.dst v') w') :
    wpList P ops Q (o :: rest) a w := by
  cases ad with
  | none =>
    obtain ⟨rfl, rfl⟩ := hnone rfl
    have hn : news = [] := List.eq_nil_of_length_eq_zero (by simpa using hl)
    subst hn
    refine wpList_append_own_none hgd s x t ho base e i size ht hi v n xs hs hown hx ?_
    exact h v w (by simpa using hown) (World.grownBy.refl _ _) (.inl rfl)
  | some adr =>
    refine wpList_append_own_at w hgd s x t ho base e i z size bytes ht hi hz hsize hby hzs hsz v n xs hs hown adr m c news hx hl (hsrc adr rfl) h1 h63 hbytes hbase ?_
    intro v' w' h1 h2 _ h3
    exact h v' w' h1 h2 h3


theorem owns_capG {w : World} {base size n c : Nat} {e : TypeId} {a : Option Addr} {xs : List Value} (h : w.ownsRow base e size (.slice a n c) n xs) : n ≤ c := by
  rcases h.2 with ⟨h', h0⟩ | ⟨g, cap, cur, h', _, _, hn, _⟩
  · omega
  · cases h'; exact hn

set_option maxHeartbeats 1000000 in
set_option maxRecDepth 100000 in
theorem wideDocs_any (a : Option Addr) (cap n : Nat) (D : List Pak.Dc) (w : World) (hD : Pak.DocsAt w a D) (hn : D.length = n) (hnone : a = none → n = 0 ∧ cap = 0) (hb : n ≤ 2000000000) :
    Calls Tryz.prog 72 #[.slice a n cap] w fun e w' => ∃ g c, e = .returned (.slice (some ⟨g, 0, none⟩) n c) ∧ n + 1 ≤ c ∧ w'.ownsRow w.heap.size 246 2 (.slice (some ⟨g, 0, none⟩) (n + 1) c) (n + 1) (Pak.docV D ++ [.int .i64 (-1000), .string ⟨#[]⟩]) ∧ Kp [] w w' := by
  obtain ⟨i0, hi, hz0, hz1, hz2⟩ := info_parts Pak.info43
  have hl : (Pak.docV D).length = n * 2 := by rw [Pak.docV_len, hn]
  have hsrc : ∀ adr, a = some adr → ∀ j u, (Pak.docV D)[j]? = some u → w.cell? (adr.add j) = some u := by
    intro adr ha j u hu
    have hj : j < (Pak.docV D).length := by
      rcases Nat.lt_or_ge j (Pak.docV D).length with h | h
      · exact h
      · rw [List.getElem?_eq_none h] at hu; simp at hu
    rcases hD with rfl | ⟨b, off, e, hlt, hc⟩
    · simp [Pak.docV] at hj
    · rw [e] at ha; injection ha with ha; subst ha
      have hi' : j / 2 < D.length := by rw [Pak.docV_len] at hj; omega
      have hg := Pak.docV_get D (j / 2) hi'
      have hcc := hc (j / 2) hi'
      have ea : (⟨b, off, none⟩ : Addr).add j = ⟨b, off + j, none⟩ := by unfold Addr.add; split <;> simp_all
      rw [ea]
      rcases Nat.mod_two_eq_zero_or_one j with h0 | h0
      · have ej : j = j / 2 * 2 := by omega
        rw [ej] at hu ⊢
        rw [hg.1] at hu
        rw [hcc.1]; exact hu
      · have ej : j = j / 2 * 2 + 1 := by omega
        rw [ej] at hu ⊢
        rw [hg.2] at hu
        rw [← Nat.add_assoc, hcc.2]; exact hu
  have h1 : ∀ u ∈ Pak.docV D, u.oneCell' = true := by
    intro u hu
    unfold Pak.docV at hu
    obtain ⟨x, _, hx⟩ := List.mem_flatMap.1 hu
    simp [Pak.encDoc] at hx
    rcases hx with rfl | rfl <;> rfl
  have HS := hide hsrc
  have H1 := hide h1
  have HL := hide hl
  have HNO := hide hnone
  clear hsrc h1 hl hnone hD hn
  go_enter Tryz.func72, Tryz.ntmps72
  go_wp2_with (first
    | (at_builtin; refine wpList_append_opt _ rfl _ _ 66 rfl w.heap.size 246 i0 (.agg #[.int .i64 0, .string ⟨#[]⟩]) 2 24 Tryz.underlying66 hi hz0 hz1 hz2 rfl (by decide) (.slice none 0 0) 0 [] rfl (World.ownsRow_nil _ _ _ _) a n cap (Pak.docV D) rfl HNO.out HL.out HS.out H1.out (by unfold maxLen; omega) (by omega) (Nat.le_refl _) ?_; intro v1 w1 hown1 hgrow1 hloc1; rw [Nat.zero_add, List.nil_append] at hown1; obtain ⟨a1, c1, rfl, hs1⟩ := owns_forms hown1; clear hloc1 hs1)
    | (at_builtin; refine wpList_append_own_at _ rfl _ _ 66 rfl w.heap.size 246 i0 (.agg #[.int .i64 0, .string ⟨#[]⟩]) 2 24 Tryz.underlying66 hi hz0 hz1 hz2 rfl (by decide) _ _ _ rfl (hown1.alloc _) ⟨w1.heap.size, 0, none⟩ 1 1 [.int .i64 (-1000), .string ⟨#[]⟩] rfl rfl (World.news_of_block (cs := #[.int .i64 (-1000), .string ⟨#[]⟩]) (t := 246) (fr := (0, 0)) (heap_alloc_new _ _)) (by intro u hu; simp at hu; rcases hu with rfl | rfl <;> rfl) (by unfold maxLen; omega) (by omega) (by have := hgrow1.size; simp at this ⊢; omega) ?_; intro v2 w2 hown2 hgrow2 _ hloc2; obtain ⟨a2, c2, rfl, hs2⟩ := owns_forms hown2; obtain ⟨g2, rfl⟩ := hs2 (by omega); have hc2 := owns_capG hown2; have hgrow3 : (w1.alloc (.cells #[.int .i64 (-1000), .string ⟨#[]⟩] 246)).grownBy w2 (Value.slice a1 n c1).ownBlock := hgrow2; clear hs2 hloc2 hgrow2)
    | fail)
  go_ret
  refine ⟨g2, c2, rfl, hc2, hown2, ?_⟩
  have k1 : Kp [] w w1 := (Pak.Kp.refl [] w).grown hgrow1 (fun k hk => by cases hk)
  exact (k1.alloc _).grown hgrow3 (fun k hk => .inr (hown1.lt k hk).1)
end Go.Proofs.YtbkepgmgebmceaaGreatDoor.Own
