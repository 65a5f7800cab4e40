import Derived.Test.YtpdoacfiiledcaaGreatDoorV09
set_option linter.unusedVariables false
set_option maxRecDepth 4000
namespace Go.Proofs.YtpdoacfiiledcaaGreatDoor.Pak
open Go.RowKit Go.Proofs.YtpdoacfiiledcaaGreatDoor Go.Proofs.YtpdoacfiiledcaaGreatDoor.Spl SiftM

theorem size9 (w : World) : (sizeOf 9).run Tryz.prog w = .ok 1 w := by kernel_rfl

theorem strV_ins (L : List (List UInt8)) (p : Nat) (x : List UInt8) : strV (ins L p x) = ((strV L).take p ++ [Value.string ⟨x.toArray⟩]) ++ (strV L).drop p := by
  simp [ins, strV, List.map_take, List.map_drop]

theorem pw_ins (L : List (List UInt8)) (p : Nat) (x : List UInt8) (hp : p ≤ L.length) (h : L.Pairwise (· < ·)) (h1 : ∀ j (hj : j < L.length), j < p → L[j] < x) (h2 : ∀ (hj : p < L.length), x < L[p]) : (ins L p x).Pairwise (· < ·) := by
  have hpw := List.pairwise_iff_getElem.1 h
  have h2' : ∀ j (hj : j < L.length), p ≤ j → x < L[j] := by
    intro j hj hpj
    have h3 := h2 (by omega)
    by_cases e : j = p
    · subst e; exact h3
    · exact List.lt_trans h3 (hpw p j (by omega) hj (by omega))
  rw [List.pairwise_iff_getElem]
  intro i j hi hj hij
  have hj' : j < L.length + 1 := by rw [ins_len _ _ _ hp] at hj; exact hj
  by_cases j3 : j < p
  · rw [ins_lo L p x hp j hj j3, ins_lo L p x hp i hi (by omega)]
    exact hpw i j (by omega) (by omega) hij
  · by_cases j4 : j = p
    · subst j4
      rw [ins_at L j x hp hj, ins_lo L j x hp i hi hij]
      exact h1 i (by omega) hij
    · rw [ins_hi L p x hp j hj (by omega)]
      by_cases i3 : i < p
      · rw [ins_lo L p x hp i hi i3]
        exact hpw i (j - 1) (by omega) (by omega) (by omega)
      · by_cases i4 : i = p
        · subst i4
          rw [ins_at L i x hp hi]
          exact h2' (j - 1) (by omega) (by omega)
        · rw [ins_hi L p x hp i hi (by omega)]
          exact hpw (i - 1) (j - 1) (by omega) (by omega) (by omega)
theorem mem_ins {α : Type} (L : List α) (p : Nat) (x y : α) : y ∈ ins L p x ↔ y = x ∨ y ∈ L := by
  unfold ins
  have h := (List.take_append_drop p L)
  constructor
  · intro hy
    rcases List.mem_append.1 hy with hy | hy
    · exact .inr (List.mem_of_mem_take hy)
    · rcases List.mem_cons.1 hy with hy | hy
      · exact .inl hy
      · exact .inr (List.mem_of_mem_drop hy)
  · rintro (rfl | hy)
    · simp
    · rw [← h] at hy
      rcases List.mem_append.1 hy with hy | hy
      · simp [hy]
      · simp [hy]

theorem allW_take (T : List Tx) (i : Nat) (h : i < T.length) (x : List UInt8) : x ∈ allW (T.take (i + 1)) ↔ x ∈ allW (T.take i) ∨ x ∈ T[i].2 := by
  rw [take_snocL T i h, allW_snoc]; simp

end Go.Proofs.YtpdoacfiiledcaaGreatDoor.Pak

set_option linter.unusedVariables false
set_option maxRecDepth 4000
namespace Go.Proofs.YtpdoacfiiledcaaGreatDoor.Pak
open Go.RowKit Go.Proofs.YtpdoacfiiledcaaGreatDoor Go.Proofs.YtpdoacfiiledcaaGreatDoor.Spl SiftM

theorem plW_plc (T : List Tx) (ws : List (List UInt8)) (hw : ∀ x ∈ ws, x ∈ termsOf T) (k : Nat) (hk : k < (termsOf T).length) : ∀ n, n ≤ ws.length → plW ws (termsOf T)[k] n = plc (ws.map (bsIx (termsOf T))) k n
  | 0, _ => rfl
  | n + 1, hn => by
    have hn' : n < ws.length := by omega
    have ih := plW_plc T ws hw k hk n (by omega)
    rw [plW, plc, ih, getD_at _ _ hn', getD_at _ _ (by simpa using hn'), List.getElem_map]
    congr 1
    have hx := hw ws[n] (List.getElem_mem hn')
    by_cases e : ws[n] = (termsOf T)[k]
    · rw [if_pos e, if_pos (by rw [e, bs_at _ (terms_pw T) k hk])]
    · rw [if_neg e, if_neg]
      intro e2
      apply e
      have := (bs_mem _ (terms_pw T) _ hx).2
      rw [← e2, getD_at _ _ hk] at this
      exact this.symm

theorem postW_postD (T : List Tx) (k : Nat) (hk : k < (termsOf T).length) : ∀ d, d ≤ T.length → postW T (termsOf T)[k] d = postD (rowsOf T) k d
  | 0, _ => rfl
  | d + 1, hd => by
    have hd' : d < T.length := by omega
    have er : (rowsOf T).getD d [] = T[d].2.map (bsIx (termsOf T)) := by rw [getD_at _ _ (by rw [rows_len]; exact hd')]; exact rows_at T d hd'
    rw [postW_step T _ d hd', postD, postW_postD T k hk d (by omega), er, List.length_map]
    congr 2
    exact plW_plc T T[d].2 (fun x hx => (terms_mem T x).2 ((allW_iff T x).2 ⟨T[d], List.getElem_mem hd', hx⟩)) k hk _ (Nat.le_refl _)

end Go.Proofs.YtpdoacfiiledcaaGreatDoor.Pak

set_option linter.unusedVariables false
set_option maxRecDepth 4000
namespace Go.Proofs.YtpdoacfiiledcaaGreatDoor.Pak
open Go.RowKit Go.Proofs.YtpdoacfiiledcaaGreatDoor Go.Proofs.YtpdoacfiiledcaaGreatDoor.Spl SiftM

theorem size148 (w : World) : (sizeOf 266).run Tryz.prog w = .ok 3 w := by kernel_rfl
theorem info148 : (Tryz.prog.info? 266).map (fun i => (i.zero, i.size, i.bytes)) = some (some (.agg #[.int .i64 0, .slice none 0 0, .bool false]), 3, 40) := by kernel_rfl

theorem tx3_append (xs ys : List (Nat × Value)) : tx3 (xs ++ ys) = tx3 xs ++ tx3 ys := by simp [tx3]
theorem tx3_take : ∀ (xs : List (Nat × Value)) (a : Nat), tx3 (xs.take a) = (tx3 xs).take (a * 3)
  | [], a => by simp [tx3]
  | x :: r, 0 => by simp [tx3]
  | x :: r, a + 1 => by
    have ih := tx3_take r a
    have e : tx3 (x :: r) = .int .i64 (x.1 : Int) :: x.2 :: .bool false :: tx3 r := by simp [tx3]
    have e2 : tx3 (x :: r.take a) = .int .i64 (x.1 : Int) :: x.2 :: .bool false :: tx3 (r.take a) := by simp [tx3]
    rw [List.take_succ_cons, e, e2, ih, show (a + 1) * 3 = a * 3 + 1 + 1 + 1 by omega]
    rfl
theorem tx3_drop : ∀ (xs : List (Nat × Value)) (a : Nat), tx3 (xs.drop a) = (tx3 xs).drop (a * 3)
  | [], a => by simp [tx3]
  | x :: r, 0 => by simp
  | x :: r, a + 1 => by
    have ih := tx3_drop r a
    have e : tx3 (x :: r) = .int .i64 (x.1 : Int) :: x.2 :: .bool false :: tx3 r := by simp [tx3]
    rw [List.drop_succ_cons, e, ih, show (a + 1) * 3 = a * 3 + 1 + 1 + 1 by omega]
    rfl
theorem tx3_ins (xs : List (Nat × Value)) (a id : Nat) (lv : Value) : tx3 (ins xs a (id, lv)) = (tx3 xs).take (a * 3) ++ [.int .i64 (id : Int), lv, .bool false] ++ (tx3 xs).drop (a * 3) := by
  unfold ins
  rw [tx3_append, tx3_take, ← tx3_drop]
  simp [tx3]

theorem DocsIs.low {w : World} {base b : Nat} {v : Value} {T : List Tx} {vs : List Value} (h : DocsIs w base v T vs) (hb : b ≤ base) : DocsIs w b v T vs :=
  ⟨h.len, owns_low h.row hb, fun i h1 h2 => owns_low (h.each i h1 h2) hb⟩
theorem DocsIs.ins {w w' : World} {base a id : Nat} {v v' lv : Value} {T : List Tx} {vs : List Value} {ws : List (List UInt8)} (h : DocsIs w base v T vs) (hl : w.ownsRow base 9 1 lv ws.length (strV ws)) (ha : a ≤ T.length)
    (hrow : w'.ownsRow base 266 3 v' (T.length + 1) ((tx3 ((T.map Prod.fst).zip vs)).take (a * 3) ++ [.int .i64 (id : Int), lv, .bool false] ++ (tx3 ((T.map Prod.fst).zip vs)).drop (a * 3))) (k : Kp [] w w') : DocsIs w' base v' (Pak.ins T a (id, ws)) (Pak.ins vs a lv) := by
  have hlen := h.len
  have hav : a ≤ vs.length := by omega
  refine ⟨by rw [ins_len _ _ _ hav, ins_len _ _ _ ha, hlen], ?_, ?_⟩
  · rw [ins_len _ _ _ ha, ins_map, ins_zip _ _ _ _ _ (by simp [hlen]), tx3_ins]
    exact hrow
  · intro i hi h2
    rw [ins_len _ _ _ ha] at hi
    by_cases h3 : i < a
    · rw [ins_lo vs a lv hav i h2 h3, ins_lo T a (id, ws) ha i (by rw [ins_len _ _ _ ha]; omega) h3]
      exact k.owns (h.each i (by omega) (by omega)) (by simp)
    · by_cases h4 : i = a
      · subst h4
        rw [ins_at vs i lv hav h2, ins_at T i (id, ws) ha (by rw [ins_len _ _ _ ha]; omega)]
        exact k.owns hl (by simp)
      · rw [ins_hi vs a lv hav i h2 (by omega), ins_hi T a (id, ws) ha i (by rw [ins_len _ _ _ ha]; omega) (by omega)]
        exact k.owns (h.each (i - 1) (by omega) (by omega)) (by simp)

def SortT (T : List Tx) : Prop := T.Pairwise fun x y => x.1 < y.1
theorem sortT_ins (N : List Tx) (a : Nat) (x : Tx) (ha : a ≤ N.length) (h : SortT N) (h1 : ∀ j (hj : j < N.length), j < a → N[j].1 < x.1) (h2 : ∀ (hj : a < N.length), x.1 < N[a].1) : SortT (Pak.ins N a x) := by
  have hp := List.pairwise_iff_getElem.1 h
  have h2' : ∀ j (hj : j < N.length), a ≤ j → x.1 < N[j].1 := by
    intro j hj haj
    have h3 := h2 (by omega)
    by_cases e : j = a
    · subst e; exact h3
    · have := hp a j (by omega) hj (by omega); omega
  unfold SortT
  rw [List.pairwise_iff_getElem]
  intro i j hi hj hij
  have hj' : j < N.length + 1 := by rw [ins_len _ _ _ ha] at hj; exact hj
  by_cases j3 : j < a
  · rw [ins_lo N a x ha j hj j3, ins_lo N a x ha i hi (by omega)]
    exact hp i j (by omega) (by omega) hij
  · by_cases j4 : j = a
    · subst j4
      rw [ins_at N j x ha hj, ins_lo N j x ha i hi hij]
      exact h1 i (by omega) hij
    · rw [ins_hi N a x ha j hj (by omega)]
      by_cases i3 : i < a
      · rw [ins_lo N a x ha i hi i3]
        exact hp i (j - 1) (by omega) (by omega) (by omega)
      · by_cases i4 : i = a
        · subst i4
          rw [ins_at N i x ha hi]
          exact h2' (j - 1) (by omega) (by omega)
        · rw [ins_hi N a x ha i hi (by omega)]
          exact hp (i - 1) (j - 1) (by omega) (by omega) (by omega)
theorem perm_insT (N N' : List Tx) (a : Nat) (x : Tx) (h : N'.Perm N) : (Pak.ins N' a x).Perm (N ++ [x]) := by
  have h1 : (Pak.ins N' a x).Perm (x :: N') := by
    unfold Pak.ins
    refine List.perm_middle.trans ?_
    rw [List.take_append_drop]
  exact h1.trans ((h.cons x).trans (List.perm_append_singleton x N).symm)
theorem sortT_eq (A B : List Tx) (h : A.Perm B) (ha : SortT A) (hb : SortT B) : A = B :=
  List.Perm.eq_of_pairwise (le := fun x y : Tx => x.1 < y.1) (fun a b _ _ h1 h2 => by omega) ha hb h
theorem DocsIs.one {w : World} {base : Nat} {v : Value} {T : List Tx} {vs : List Value} (h : DocsIs w base v T vs) : ∀ u ∈ tx3 ((T.map Prod.fst).zip vs), u.oneCell' = true := by
  intro u hu
  unfold tx3 at hu
  obtain ⟨x, hx, hu⟩ := List.mem_flatMap.1 hu
  simp at hu
  rcases hu with rfl | rfl | rfl
  · rfl
  · have hm := (List.of_mem_zip hx).2
    obtain ⟨i, hi, e⟩ := List.getElem_of_mem hm
    have ho := h.each i (by rw [← h.len]; exact hi) hi
    obtain ⟨a, c, e2, _⟩ := owns_forms ho
    rw [← e, e2]; rfl
  · rfl

set_option maxHeartbeats 1000000 in
set_option maxRecDepth 100000 in
theorem rsorted_any (B N : Nat) (u : Value) (T T' : List Tx) (vs : List Value) (w : World) (hu : DocsIs w B u T vs) (hT : T.length = N) (hN : N ≤ 60) (hB : B ≤ w.heap.size) (hp : T'.Perm T) (hs : SortT T') :
    Calls Tryz.prog 179 #[u] w fun e w' => ∃ v' vs', e = .returned v' ∧ DocsIs w' B v' T' vs' ∧ Kp [] w w' := by
  obtain ⟨i0, hi0, hz0, hz1, hz2⟩ := info_parts info148
  obtain ⟨au, cu, rfl, hau⟩ := owns_forms hu.row
  have hnd : ∀ i j (hi : i < T.length) (hj : j < T.length), T[i].1 = T[j].1 → i = j := by
    have h1 : (T'.map Prod.fst).Nodup := by
      refine List.Pairwise.imp (R := (· < ·)) (fun {a b} h => by omega) ?_
      rw [List.pairwise_map]; exact hs
    have h2 : (T.map Prod.fst).Nodup := (hp.map Prod.fst).nodup_iff.1 h1
    intro i j hi hj e
    have hpw := List.pairwise_iff_getElem.1 h2
    rcases Nat.lt_trichotomy i j with h | h | h
    · exact absurd (by rw [List.getElem_map, List.getElem_map]; exact e) (hpw i j (by simpa using hi) (by simpa using hj) h)
    · exact h
    · exact absurd (by rw [List.getElem_map, List.getElem_map]; exact e.symm) (hpw j i (by simpa using hj) (by simpa using hi) h)
  rw [hT] at hu hau
  rw [hT]
  have HU := hide hu
  have HT := hide hT
  have HND := hide hnd
  have HP := hide hp
  have HS := hide hs
  clear hu hT hnd hp hs
  go_enter Tryz.func179, Tryz.ntmps179
  go_wp2_with fail
  go_loopw [3, 4] (fun lv iv wr => ∃ (i : Nat) (L : List Tx) (al : Option Addr) (cl : Nat) (ls : List Value), i ≤ N ∧ iv = .int .i64 i ∧ lv = .slice al i cl ∧ L.length = i ∧ DocsIs wr B (.slice al i cl) L ls ∧ SortT L ∧ L.Perm (T.take i) ∧ Kp [] w wr) (fun _ iv _ => N - (intOf iv).toNat)
  case atStart => exact ⟨0, [], none, 0, [], by omega, rfl, rfl, rfl, DocsIs.nil _ _, List.Pairwise.nil, List.Perm.refl _, Kp.refl _ _⟩
  case round =>
    obtain ⟨i, L, al, cl, ls, hi, rfl, rfl, hm, hl, hso, hpe, hkp⟩ := hrel
    by_cases hlt : i < N
    · obtain ⟨g, rfl⟩ := hau (by omega)
      have hiT : i < T.length := by rw [HT.out]; exact hlt
      have hur := HU.out.kp0 hkp
      have hiv : i < vs.length := by rw [hur.len]; exact hiT
      obtain ⟨q0, q1, q2⟩ := hur.cells i hiT hiv
      have hw := hur.each i hiT hiv
      obtain ⟨aw, cw, ew, _⟩ := owns_forms hw
      rw [ew] at q1 hw
      have hgl := (hur.row.lt g rfl).2
      have htk := take_snocL T i hiT
      have hne : ∀ j (hj : j < L.length), L[j].1 ≠ T[i].1 := by
        intro j hj e
        have hmem : L[j] ∈ T.take i := hpe.mem_iff.1 (List.getElem_mem hj)
        obtain ⟨q, hq, e2⟩ := List.getElem_of_mem hmem
        rw [List.length_take] at hq
        rw [List.getElem_take] at e2
        have := HND.out q i (by omega) hiT (by rw [e2]; exact e)
        omega
      obtain ⟨t, ht⟩ : ∃ t, T[i] = t := ⟨_, rfl⟩
      rw [ht] at q0 q1 hw htk hne
      obtain ⟨id, ws⟩ := t
      simp only at q0 q1 hw hne
      have hrowl := hl.row
      rw [hm] at hrowl
      obtain ⟨hf1, hf2, hf3, hf4⟩ := halves hrowl
      have hone := hl.one
      obtain ⟨zz, hzz⟩ : ∃ zz, (L.map Prod.fst).zip ls = zz := ⟨_, rfl⟩
      rw [hzz] at hf4 hone hrowl
      have hzl : (tx3 zz).length = i * 3 := hrowl.1
      have hlc : ∀ p (hp : p < L.length), (tx3 zz)[p * 3]? = some (.int .i64 (L[p].1 : Int)) := by
        intro p hp
        have hz : p < ((L.map Prod.fst).zip ls).length := by simp; have := hl.len; omega
        rw [← hzz, (tx3_get _ p hz).1]
        simp
      have hlb : ∀ gl, al = some ⟨gl, 0, none⟩ → gl < wr.heap.size := fun gl e => (hrowl.lt gl (by rw [e]; rfl)).2
      have HL := hide hl
      have HW := hide hw
      have HSO := hide hso
      have HPE := hide hpe
      have Hm := hide hm
      have HTK := hide htk
      have HNE := hide hne
      have HF1 := hide hf1
      have HF2 := hide hf2
      have HF4 := hide hf4
      have HON := hide hone
      have Hzz := hide hzz
      have HLC := hide hlc
      have HLB := hide hlb
      clear hl hw hso hpe hm htk hne hf1 hf2 hf4 hone hzz hlc hlb hrowl hur ew ht
      have hzr := hkp.size
      go_wp2_with fail
      go_loopw [5] (fun av w2 => ∃ p : Nat, p ≤ i ∧ av = .int .i64 p ∧ (∀ j (hj : j < L.length), j < p → L[j].1 < id) ∧ Kp [] wr w2) (fun av _ => i - (intOf av).toNat)
      case atStart => exact ⟨0, by omega, rfl, fun j _ hj => absurd hj (by omega), Kp.refl _ _⟩
      case round =>
        obtain ⟨p, hpm, rfl, hlow, hkq⟩ := hrel
        have hmL : L.length = i := Hm.out
        have r0 := hkq.cellv q0 (by simp)
        have r1 := hkq.cellv q1 (by simp)
        have r2 := hkq.cellv q2 (by simp)
        have hzq := hkq.size
        have hgl2 : g < wr.heap.size := by omega
        have hF4 : ∀ g, al = some ⟨g, 0, none⟩ → ∀ j u, (tx3 zz)[j]? = some u → wr.cell? ⟨g, j, none⟩ = some u := fun g e j u h => hkq.cellv (HF4.out g e j u h) (by simp)
        have hF4d : ∀ g, al = some ⟨g, 0, none⟩ → ∀ j u, (tx3 zz)[j]? = some u → wr.drew.cell? ⟨g, j, none⟩ = some u := hF4
        have hlb2 : ∀ gl, al = some ⟨gl, 0, none⟩ → gl < wr.heap.size := fun gl e => by have := HLB.out gl e; omega
        have hsome : p < i → ∃ gl, al = some ⟨gl, 0, none⟩ := by
          intro hpi
          cases hal : al with
          | none => have := (HF2.out hal).1; omega
          | some y => obtain ⟨gl, rfl⟩ := HF1.out y hal; exact ⟨gl, rfl⟩
        have kpw : Kp [] w wr := hkp.next hkq
        have HLr := hide (HL.out.kp0 hkq)
        have HWr := hide (hkq.owns HW.out (by simp))
        clear q0 q1 q2
        by_cases hc : ∃ h : p < L.length, L[p].1 < id
        · obtain ⟨hpl, hlt5⟩ := hc
          have hpm2 : p < i := by omega
          obtain ⟨gl, hgl'⟩ := hsome hpm2
          have hcl := hF4 gl hgl' _ _ (HLC.out p hpl)
          have hgll := hlb2 gl hgl'
          have hnx : ∀ j (hj : j < L.length), j < p + 1 → L[j].1 < id := by
            intro j hj hjp
            by_cases e : j = p
            · subst e; exact hlt5
            · exact hlow j hj (by omega)
          subst hgl'
          obtain ⟨y, hy⟩ : ∃ y, L[p].1 = y := ⟨_, rfl⟩
          rw [hy] at hcl hlt5
          have HNX := hide hnx
          have hyI : (y : Int) < (id : Int) := by omega
          have hpI : (p : Int) < (i : Int) := by omega
          clear hlow hy hnx hF4 hF4d hlb2 hsome
          go_wp2_with fail
          go_region
          go_wp2_with fail
          go_roundw
          case rel => exact ⟨p + 1, by omega, by go_num, HNX.out, hkq.drewN 1⟩
          case measure => simp [intOf]; omega
        · have hge : ∀ h : p < L.length, id < L[p].1 := by
            intro h
            have h1 : ¬ L[p].1 < id := fun h' => hc ⟨h, h'⟩
            have h2 := HNE.out p h
            omega
          have hns := sortT_ins L p (id, ws) (by omega) HSO.out hlow hge
          have hlo := fun w' => slice_loG 180 266 3 Tryz.underlying180 size148 al i cl p w' hpm hf3 HF1.out
          obtain ⟨ad, hhi, hadn, hads⟩ := slice_hiG 180 266 3 Tryz.underlying180 size148 al i cl p hpm hf3 HF2.out HF1.out
          have hd1 : al = none → p = 0 ∧ cl = 0 := fun e => by obtain ⟨e1, e2⟩ := HF2.out e; exact ⟨by omega, e2⟩
          have hd2 : ((tx3 zz).take (p * 3)).length = p * 3 := by rw [List.length_take, hzl]; omega
          have hd2b : ((tx3 zz).drop (p * 3)).length = (i - p) * 3 := by rw [List.length_drop, hzl]; omega
          have hd3 : ∀ adr, al = some adr → ∀ j u, ((tx3 zz).take (p * 3))[j]? = some u → wr.drew.cell? (adr.add j) = some u := by
            intro adr hadr j u hu
            obtain ⟨g', rfl⟩ := HF1.out adr hadr
            rw [add_zero']
            refine hF4d g' hadr j u ?_
            rw [List.getElem?_take] at hu
            split at hu
            · exact hu
            · simp at hu
          have hd3b : ∀ adr, ad = some adr → ∀ j u, ((tx3 zz).drop (p * 3))[j]? = some u → wr.drew.cell? (adr.add j) = some u := by
            intro adr hadr j u hu
            have hj : j < ((tx3 zz).drop (p * 3)).length := by
              rcases Nat.lt_or_ge j ((tx3 zz).drop (p * 3)).length with h | h
              · exact h
              · rw [List.getElem?_eq_none h] at hu; simp at hu
            obtain ⟨g', hg', rfl⟩ := hads adr hadr (by omega)
            have ea : (⟨g', p * 3, none⟩ : Addr).add j = ⟨g', p * 3 + j, none⟩ := by unfold Addr.add; split <;> simp_all
            rw [ea]
            refine hF4d g' hg' _ u ?_
            rw [List.getElem?_drop] at hu
            exact hu
          have hd4 : ∀ u ∈ (tx3 zz).take (p * 3), u.oneCell' = true := fun u hu => HON.out u (List.mem_of_mem_take hu)
          have hd4b : ∀ u ∈ (tx3 zz).drop (p * 3), u.oneCell' = true := fun u hu => HON.out u (List.mem_of_mem_drop hu)
          have hcase : ∀ (gl : Nat), al = some ⟨gl, 0, none⟩ → p < i → ∃ y : Nat, wr.cell? ⟨gl, p * 3, none⟩ = some (.int .i64 (y : Int)) ∧ ¬ (y : Int) < (id : Int) ∧ gl < wr.heap.size := by
            intro gl hgl' hpm2
            have hpl : p < L.length := by omega
            refine ⟨L[p].1, hF4 gl hgl' _ _ (HLC.out p hpl), ?_, hlb2 gl hgl'⟩
            have := hge hpl
            omega
          have HNS := hide hns
          have HADN := hide hadn
          have HD1 := hide hd1
          have HD2 := hide hd2
          have HD2b := hide hd2b
          have HD4 := hide hd4
          have HD4b := hide hd4b
          have HD3 := hide hd3
          have HD3b := hide hd3b
          clear hns hadn hd1 hd2 hd2b hd3 hd3b hd4 hd4b hlow hge hads hc hmL hF4 hF4d hlb2
          by_cases hlt6 : p < i
          · obtain ⟨gl, hga⟩ := hsome hlt6
            obtain ⟨y, q3, q4, q5⟩ := hcase gl hga hlt6
            subst hga
            have hpI : (p : Int) < (i : Int) := by omega
            have q4d : decide ((y : Int) < (id : Int)) = false := decide_eq_false q4
            clear hcase hsome
            go_wp2_with fail
            go_region
            have q4e : decide (y < id) = false := decide_eq_false (by omega)
            rw [q4e]
            clear q3 q4 q4d q4e
            obtain ⟨wd, hwd⟩ : ∃ wd, wr.drew = wd := ⟨_, rfl⟩
            have t0 : wr.drew.cell? ⟨g, i * 3, none⟩ = some (.int .i64 (id : Int)) := r0
            have t1 : wr.drew.cell? ⟨g, i * 3 + 1, none⟩ = some (.slice aw ws.length cw) := r1
            have t2 : wr.drew.cell? ⟨g, i * 3 + 2, none⟩ = some (.bool false) := r2
            have hzd : wr.drew.heap.size = wr.heap.size := rfl
            have kpd : Kp [] w wr.drew := kpw.drewN 1
            have HLd := hide HLr.out.drew
            have HWd := hide HWr.out.drew
            clear r0 r1 r2 kpw HLr HWr
            rw [hwd] at t0 t1 t2 hzd kpd HLd HWd HD3 HD3b
            rw [hwd]
            have hgd : g < wd.heap.size := by omega
            have hzd1 : wr.heap.size ≤ wd.heap.size := by omega
            clear hwd hzd
            go_wp2_with (first
              | (at_builtin; refine wpList_append_opt _ rfl _ _ 180 rfl wd.heap.size 266 i0 (.agg #[.int .i64 0, .slice none 0 0, .bool false]) 3 40 Tryz.underlying180 hi0 hz0 hz1 hz2 rfl (by decide) _ 0 [] rfl (World.ownsRow_nil _ _ _ _) (some ⟨gl, 0, none⟩) p cl ((tx3 zz).take (p * 3)) rfl HD1.out HD2.out HD3.out HD4.out ?d5 ?d6 ?d7 ?_)
              | fail)
            case d5 => unfold maxLen; omega
            case d6 => omega
            case d7 => exact Nat.le_refl _
            intro v5 w5 hown5 hg5 hb5
            obtain ⟨a5, c5, rfl, _⟩ := owns_forms hown5
            have k5 : Kp [] wd w5 := (Kp.refl _ _).grown hg5 (fun k hk => by simp [Value.ownBlock] at hk)
            have hz5 := k5.size
            have s0 := k5.cellv t0 (by simp)
            have s1 := k5.cellv t1 (by simp)
            have s2 := k5.cellv t2 (by simp)
            have HO5 := hide hown5
            have hz5g : g < w5.heap.size := by omega
            clear hown5 hg5 hb5 t0 t1 t2
            go_wp2_with (first
              | (at_builtin; refine wpList_append_own_at _ rfl _ _ 180 rfl wd.heap.size 266 i0 (.agg #[.int .i64 0, .slice none 0 0, .bool false]) 3 40 Tryz.underlying180 hi0 hz0 hz1 hz2 rfl (by decide) _ _ _ rfl (HO5.out.alloc _) ⟨w5.heap.size, 0, none⟩ 1 1 [.int .i64 (id : Int), .slice aw ws.length cw, .bool false] rfl rfl (World.news_of_block (cs := #[.int .i64 (id : Int), .slice aw ws.length cw, .bool false]) (t := 266) (fr := (0, 0)) (heap_alloc_new _ _)) ?c2 ?c3 ?c4 ?c5 ?_)
              | fail)
            case c2 => intro u hu; simp at hu; rcases hu with rfl | rfl | rfl <;> rfl
            case c3 => unfold maxLen; omega
            case c4 => omega
            case c5 => simp; omega
            intro v6 w6 hown6 hg6 _ _
            obtain ⟨a6, c6, rfl, _⟩ := owns_forms hown6
            have k6 : Kp (Value.slice a5 p c5).ownBlock.toList w5 w6 := ((Kp.refl _ _).alloc _).grown hg6 (fun j hj => .inl (by simp [hj]))
            have k6' : Kp [] wd w6 := k5.trans k6 (fun x hx => .inr (HO5.out.lt x (by simpa using hx)).1)
            have hz6 := k6'.size
            have HO6 := hide hown6
            have HD5 := hide (fun adr h1 j u h2 => k6'.cellv (HD3b.out adr h1 j u h2) (by simp))
            clear hown6 hg6 k6 k5 HO5 s0 s1 s2
            go_wp2_with (first
              | (at_builtin; refine wpList_append_opt _ rfl _ _ 180 rfl wd.heap.size 266 i0 (.agg #[.int .i64 0, .slice none 0 0, .bool false]) 3 40 Tryz.underlying180 hi0 hz0 hz1 hz2 rfl (by decide) _ _ _ rfl HO6.out ad (i - p) (cl - p) ((tx3 zz).drop (p * 3)) rfl HADN.out HD2b.out HD5.out HD4b.out ?d5 ?d6 ?d7 ?_)
              | fail)
            case d5 => unfold maxLen; omega
            case d6 => omega
            case d7 => omega
            intro v7 w7 hown7 hg7 hb7
            rw [show p + 1 + (i - p) = i + 1 by omega] at hown7
            obtain ⟨a7, c7, rfl, _⟩ := owns_forms hown7
            have k7 : Kp (Value.slice a6 (p + 1) c6).ownBlock.toList w6 w7 := (Kp.refl _ _).grown hg7 (fun j hj => .inl (by simp [hj]))
            have k7' : Kp [] wd w7 := k6'.trans k7 (fun x hx => .inr (HO6.out.lt x (by simpa using hx)).1)
            have hbB : B ≤ wd.heap.size := by omega
            have hins := HLd.out.ins HWd.out (show p ≤ L.length by rw [Hm.out]; exact hpm) (id := id) (v' := .slice a7 (i + 1) c7) (by rw [Hm.out, Hzz.out, List.append_assoc]; exact owns_low hown7 hbB) k7'
            have HINS := hide hins
            have kf := kpd.next k7'
            clear hown7 hg7 hb7 k7 k6' k7' hins HO6 HD5
            go_wp2_with fail
            go_roundw
            case rel =>
              refine ⟨i + 1, Pak.ins L p (id, ws), a7, c7, Pak.ins ls p (.slice aw ws.length cw), by omega, by go_num, rfl, ?_, HINS.out, HNS.out, ?_, kf⟩
              · rw [ins_len L p _ (by rw [Hm.out]; exact hpm), Hm.out]
              · rw [HTK.out]; exact perm_insT _ _ p _ HPE.out
            case measure => simp [intOf]; omega
          · have hpI : decide ((p : Int) < (i : Int)) = false := by simp; omega
            clear hcase hsome
            go_wp2_with fail
            go_region
            obtain ⟨wd, hwd⟩ : ∃ wd, wr.drew = wd := ⟨_, rfl⟩
            have t0 : wr.drew.cell? ⟨g, i * 3, none⟩ = some (.int .i64 (id : Int)) := r0
            have t1 : wr.drew.cell? ⟨g, i * 3 + 1, none⟩ = some (.slice aw ws.length cw) := r1
            have t2 : wr.drew.cell? ⟨g, i * 3 + 2, none⟩ = some (.bool false) := r2
            have hzd : wr.drew.heap.size = wr.heap.size := rfl
            have kpd : Kp [] w wr.drew := kpw.drewN 1
            have HLd := hide HLr.out.drew
            have HWd := hide HWr.out.drew
            clear r0 r1 r2 kpw HLr HWr
            rw [hwd] at t0 t1 t2 hzd kpd HLd HWd HD3 HD3b
            rw [hwd]
            have hgd : g < wd.heap.size := by omega
            have hzd1 : wr.heap.size ≤ wd.heap.size := by omega
            clear hwd hzd
            go_wp2_with (first
              | (at_builtin; refine wpList_append_opt _ rfl _ _ 180 rfl wd.heap.size 266 i0 (.agg #[.int .i64 0, .slice none 0 0, .bool false]) 3 40 Tryz.underlying180 hi0 hz0 hz1 hz2 rfl (by decide) _ 0 [] rfl (World.ownsRow_nil _ _ _ _) al p cl ((tx3 zz).take (p * 3)) rfl HD1.out HD2.out HD3.out HD4.out ?d5 ?d6 ?d7 ?_)
              | fail)
            case d5 => unfold maxLen; omega
            case d6 => omega
            case d7 => exact Nat.le_refl _
            intro v5 w5 hown5 hg5 hb5
            obtain ⟨a5, c5, rfl, _⟩ := owns_forms hown5
            have k5 : Kp [] wd w5 := (Kp.refl _ _).grown hg5 (fun k hk => by simp [Value.ownBlock] at hk)
            have hz5 := k5.size
            have s0 := k5.cellv t0 (by simp)
            have s1 := k5.cellv t1 (by simp)
            have s2 := k5.cellv t2 (by simp)
            have HO5 := hide hown5
            have hz5g : g < w5.heap.size := by omega
            clear hown5 hg5 hb5 t0 t1 t2
            go_wp2_with (first
              | (at_builtin; refine wpList_append_own_at _ rfl _ _ 180 rfl wd.heap.size 266 i0 (.agg #[.int .i64 0, .slice none 0 0, .bool false]) 3 40 Tryz.underlying180 hi0 hz0 hz1 hz2 rfl (by decide) _ _ _ rfl (HO5.out.alloc _) ⟨w5.heap.size, 0, none⟩ 1 1 [.int .i64 (id : Int), .slice aw ws.length cw, .bool false] rfl rfl (World.news_of_block (cs := #[.int .i64 (id : Int), .slice aw ws.length cw, .bool false]) (t := 266) (fr := (0, 0)) (heap_alloc_new _ _)) ?c2 ?c3 ?c4 ?c5 ?_)
              | fail)
            case c2 => intro u hu; simp at hu; rcases hu with rfl | rfl | rfl <;> rfl
            case c3 => unfold maxLen; omega
            case c4 => omega
            case c5 => simp; omega
            intro v6 w6 hown6 hg6 _ _
            obtain ⟨a6, c6, rfl, _⟩ := owns_forms hown6
            have k6 : Kp (Value.slice a5 p c5).ownBlock.toList w5 w6 := ((Kp.refl _ _).alloc _).grown hg6 (fun j hj => .inl (by simp [hj]))
            have k6' : Kp [] wd w6 := k5.trans k6 (fun x hx => .inr (HO5.out.lt x (by simpa using hx)).1)
            have hz6 := k6'.size
            have HO6 := hide hown6
            have HD5 := hide (fun adr h1 j u h2 => k6'.cellv (HD3b.out adr h1 j u h2) (by simp))
            clear hown6 hg6 k6 k5 HO5 s0 s1 s2
            go_wp2_with (first
              | (at_builtin; refine wpList_append_opt _ rfl _ _ 180 rfl wd.heap.size 266 i0 (.agg #[.int .i64 0, .slice none 0 0, .bool false]) 3 40 Tryz.underlying180 hi0 hz0 hz1 hz2 rfl (by decide) _ _ _ rfl HO6.out ad (i - p) (cl - p) ((tx3 zz).drop (p * 3)) rfl HADN.out HD2b.out HD5.out HD4b.out ?d5 ?d6 ?d7 ?_)
              | fail)
            case d5 => unfold maxLen; omega
            case d6 => omega
            case d7 => omega
            intro v7 w7 hown7 hg7 hb7
            rw [show p + 1 + (i - p) = i + 1 by omega] at hown7
            obtain ⟨a7, c7, rfl, _⟩ := owns_forms hown7
            have k7 : Kp (Value.slice a6 (p + 1) c6).ownBlock.toList w6 w7 := (Kp.refl _ _).grown hg7 (fun j hj => .inl (by simp [hj]))
            have k7' : Kp [] wd w7 := k6'.trans k7 (fun x hx => .inr (HO6.out.lt x (by simpa using hx)).1)
            have hbB : B ≤ wd.heap.size := by omega
            have hins := HLd.out.ins HWd.out (show p ≤ L.length by rw [Hm.out]; exact hpm) (id := id) (v' := .slice a7 (i + 1) c7) (by rw [Hm.out, Hzz.out, List.append_assoc]; exact owns_low hown7 hbB) k7'
            have HINS := hide hins
            have kf := kpd.next k7'
            clear hown7 hg7 hb7 k7 k6' k7' hins HO6 HD5
            go_wp2_with fail
            go_roundw
            case rel =>
              refine ⟨i + 1, Pak.ins L p (id, ws), a7, c7, Pak.ins ls p (.slice aw ws.length cw), by omega, by go_num, rfl, ?_, HINS.out, HNS.out, ?_, kf⟩
              · rw [ins_len L p _ (by rw [Hm.out]; exact hpm), Hm.out]
              · rw [HTK.out]; exact perm_insT _ _ p _ HPE.out
            case measure => simp [intOf]; omega
    · have ei : N = i := by omega
      subst ei
      have he : L = T' := by
        rw [show T.take N = T by rw [← HT.out, List.take_length]] at hpe
        exact sortT_eq L T' (hpe.trans HP.out.symm) hso HS.out
      subst he
      have HL := hide hl
      clear hl hso hpe
      go_wp2_with fail
      go_ret
      exact ⟨_, ls, rfl, HL.out, hkp⟩
end Go.Proofs.YtpdoacfiiledcaaGreatDoor.Pak

