import Derived.Test.YtnffagpdnklnkaaGreatDoorV09
import Derived.Test.YtnffagpdnklnkaaGreatDoorV10
import Derived.Sort.Walk0
set_option linter.unusedVariables false
set_option linter.unusedSimpArgs false
set_option maxRecDepth 8000
namespace Go.Proofs.YtnffagpdnklnkaaGreatDoor.Pak
open Go.RowKit Go.Proofs.YtnffagpdnklnkaaGreatDoor Go.Proofs.YtnffagpdnklnkaaGreatDoor.Spl SiftM
theorem lt_of (a b : List UInt8) (h : a ≤ b) (h2 : a ≠ b) : a < b := Std.lt_of_le_of_ne h h2

theorem cu_inv (zs : List (List UInt8)) (h : zs.Pairwise (· ≤ ·)) : ∀ m, m ≤ zs.length → (Lib.compactUpTo zs.toArray m).Pairwise (· < ·) ∧ (∀ x, x ∈ Lib.compactUpTo zs.toArray m ↔ ∃ j, j < m ∧ zs[j]? = some x)
  | 0, _ => by simp [Lib.compactUpTo]
  | m + 1, hm => by
    obtain ⟨ih1, ih2⟩ := cu_inv zs h m (by omega)
    have hm' : m < zs.length := by omega
    have em : zs.toArray[m]! = zs[m] := by rw [getElem!_pos _ m (by simpa using hm')]; simp
    rw [Lib.compactUpTo_succ]
    by_cases hk : Lib.keeps zs.toArray m = true
    · rw [if_pos hk]
      constructor
      · refine List.pairwise_append.2 ⟨ih1, List.pairwise_singleton _ _, ?_⟩
        intro x hx y hy
        obtain ⟨j, hj, hxj⟩ := (ih2 x).1 hx
        rw [List.mem_singleton] at hy
        rw [hy, em]
        have hjl : j < zs.length := by omega
        rw [List.getElem?_eq_getElem hjl] at hxj
        have ex : zs[j] = x := Option.some.inj hxj
        have hpw := List.pairwise_iff_getElem.1 h
        have hne : zs[m] ≠ zs[m - 1] := by
          unfold Lib.keeps at hk
          have := of_decide_eq_true hk
          rcases this with h0 | h0
          · omega
          · rw [em, getElem!_pos _ (m - 1) (by simp; omega)] at h0
            simpa using h0
        have h1 : zs[m - 1] ≤ zs[m] := hpw (m - 1) m (by omega) hm' (by omega)
        have h2 : zs[m - 1] < zs[m] := lt_of _ _ h1 (fun e => hne e.symm)
        rw [← ex]
        by_cases e : j = m - 1
        · subst e; exact h2
        · exact List.lt_of_le_of_lt (hpw j (m - 1) hjl (by omega) (by omega)) h2
      · intro x
        simp only [List.mem_append, ih2, List.mem_singleton, em]
        constructor
        · rintro (⟨j, h1, h2⟩ | h1)
          · exact ⟨j, by omega, h2⟩
          · exact ⟨m, by omega, by rw [List.getElem?_eq_getElem hm', h1]⟩
        · rintro ⟨j, h1, h2⟩
          by_cases e : j = m
          · subst e
            rw [List.getElem?_eq_getElem hm'] at h2
            exact .inr (Option.some.inj h2).symm
          · exact .inl ⟨j, by omega, h2⟩
    · rw [if_neg hk, List.append_nil]
      refine ⟨ih1, fun x => ?_⟩
      rw [ih2]
      have hk' : ¬ (m = 0 ∨ zs.toArray[m]! ≠ zs.toArray[m - 1]!) := fun h' => hk (by unfold Lib.keeps; exact decide_eq_true h')
      have h0 : m ≠ 0 := fun e => hk' (.inl e)
      have heq : zs[m] = zs[m - 1] := by
        have := Classical.not_not.1 (fun h' => hk' (.inr h'))
        rw [em, getElem!_pos _ (m - 1) (by simp; omega)] at this
        simpa using this
      constructor
      · rintro ⟨j, h1, h2⟩; exact ⟨j, by omega, h2⟩
      · rintro ⟨j, h1, h2⟩
        by_cases e : j = m
        · subst e
          refine ⟨j - 1, by omega, ?_⟩
          rw [List.getElem?_eq_getElem hm'] at h2
          rw [List.getElem?_eq_getElem (by omega : j - 1 < zs.length), ← heq]
          exact h2
        · exact ⟨j, by omega, h2⟩

theorem sort_le (l : List (List UInt8)) : (l.mergeSort fun x y => decide (x ≤ y)).Pairwise (· ≤ ·) := by
  have := List.pairwise_mergeSort (le := fun x y : List UInt8 => decide (x ≤ y)) (fun a b c h1 h2 => by
    simp only [decide_eq_true_eq] at *; exact List.le_trans h1 h2) (fun a b => by
    rcases List.le_total a b with h | h <;> simp [h]) l
  exact this.imp (fun h => by simpa using h)

theorem terms_pw (T : List Tx) : (termsOf T).Pairwise (· < ·) := (cu_inv _ (sort_le (allW T)) _ (Nat.le_refl _)).1

theorem terms_mem (T : List Tx) (x : List UInt8) : x ∈ termsOf T ↔ x ∈ allW T := by
  have h := (cu_inv _ (sort_le (allW T)) _ (Nat.le_refl _)).2 x
  have hp := (List.mergeSort_perm (allW T) fun x y => decide (x ≤ y)).mem_iff (a := x)
  rw [← hp]
  unfold termsOf Lib.compact
  rw [h]
  constructor
  · rintro ⟨j, _, h2⟩; exact List.mem_of_getElem? h2
  · intro hx
    obtain ⟨j, hj, e⟩ := List.getElem_of_mem hx
    exact ⟨j, hj, by rw [List.getElem?_eq_getElem hj, e]⟩

theorem bsGo_at (less : Nat → Bool) (k H : Nat) (h1 : ∀ t, t < k → less t = true) (h2 : ∀ t, k ≤ t → t < H → less t = false) : ∀ (f lo hi : Nat), hi - lo ≤ f → lo ≤ k → k ≤ hi → hi ≤ H → Lib.bsGo less f lo hi = k
  | 0, lo, hi, hf, a, b, c => by simp [Lib.bsGo]; omega
  | f + 1, lo, hi, hf, a, b, c => by
    unfold Lib.bsGo
    by_cases h : lo < hi
    · rw [if_pos h]
      by_cases hm : (lo + hi) / 2 < k
      · rw [h1 _ hm, if_pos rfl]; exact bsGo_at less k H h1 h2 f _ _ (by omega) (by omega) b c
      · rw [h2 _ (by omega) (by omega)]; exact bsGo_at less k H h1 h2 f _ _ (by omega) a (by omega) (by omega)
    · rw [if_neg h]; omega

theorem getD_at {α : Type} (l : List α) (i : Nat) (h : i < l.length) (z : α) : l.getD i z = l[i] := by
  rw [List.getD_eq_getElem?_getD, List.getElem?_eq_getElem h]; rfl

theorem bs_at (terms : List (List UInt8)) (h : terms.Pairwise (· < ·)) (k : Nat) (hk : k < terms.length) : bsIx terms terms[k] = k := by
  have hpw := List.pairwise_iff_getElem.1 h
  unfold bsIx
  refine bsGo_at _ k terms.length ?_ ?_ _ _ _ (by omega) (by omega) (by omega) (Nat.le_refl _)
  · intro t ht
    rw [bytesLess_eq, getD_at _ _ (by omega)]
    exact decide_eq_true (hpw t k (by omega) hk ht)
  · intro t ht htl
    rw [bytesLess_eq, getD_at _ _ htl]
    apply decide_eq_false
    by_cases e : t = k
    · subst e; exact List.lt_irrefl _
    · exact List.lt_asymm (hpw k t hk htl (by omega))

theorem bs_mem (terms : List (List UInt8)) (h : terms.Pairwise (· < ·)) (x : List UInt8) (hx : x ∈ terms) : bsIx terms x < terms.length ∧ terms.getD (bsIx terms x) [] = x := by
  obtain ⟨k, hk, rfl⟩ := List.getElem_of_mem hx
  rw [bs_at terms h k hk]
  exact ⟨hk, getD_at _ _ hk _⟩

theorem allW_iff : ∀ (T : List Tx) (x : List UInt8), x ∈ allW T ↔ ∃ t ∈ T, x ∈ t.2
  | [], x => by simp [allW]
  | t :: r, x => by simp [allW, allW_iff r x]

theorem rows_len (T : List Tx) : (rowsOf T).length = T.length := by simp [rowsOf]
theorem rows_at (T : List Tx) (d : Nat) (h : d < T.length) : (rowsOf T)[d]'(by rw [rows_len]; exact h) = T[d].2.map (bsIx (termsOf T)) := by simp [rowsOf]

theorem rows_lt (T : List Tx) : ∀ r ∈ rowsOf T, ∀ x ∈ r, x < (termsOf T).length := by
  intro r hr x hx
  unfold rowsOf at hr
  obtain ⟨t, ht, rfl⟩ := List.mem_map.1 hr
  obtain ⟨y, hy, rfl⟩ := List.mem_map.1 hx
  exact (bs_mem _ (terms_pw T) y ((terms_mem T y).2 ((allW_iff T y).2 ⟨t, ht, hy⟩))).1

theorem rows_small (T : List Tx) (h : ∀ t ∈ T, t.2.length ≤ 60) : ∀ r ∈ rowsOf T, r.length ≤ 60 := by
  intro r hr
  unfold rowsOf at hr
  obtain ⟨t, ht, rfl⟩ := List.mem_map.1 hr
  simpa using h t ht

theorem words_back (T : List Tx) (t : Tx) (ht : t ∈ T) : wordsOf (termsOf T) (t.2.map (bsIx (termsOf T))) = t.2 := by
  unfold wordsOf
  rw [List.map_map]
  conv => rhs; rw [← List.map_id t.2]
  apply List.map_congr_left
  intro x hx
  exact (bs_mem _ (terms_pw T) x ((terms_mem T x).2 ((allW_iff T x).2 ⟨t, ht, hx⟩))).2

theorem texts_back (T : List Tx) : (T.map Prod.fst).zip ((rowsOf T).map (wordsOf (termsOf T))) = T := by
  have e : (rowsOf T).map (wordsOf (termsOf T)) = T.map Prod.snd := by
    unfold rowsOf
    rw [List.map_map]
    apply List.map_congr_left
    intro t ht
    exact words_back T t ht
  rw [e]
  clear e
  induction T with
  | nil => rfl
  | cons t r ih => simp [ih]

theorem occ (T : List Tx) : ∀ k, k < (termsOf T).length → 1 ≤ (postD (rowsOf T) k (rowsOf T).length).length := by
  intro k hk
  have hm : (termsOf T)[k] ∈ allW T := (terms_mem T _).1 (List.getElem_mem hk)
  obtain ⟨t, ht, hx⟩ := (allW_iff T _).1 hm
  obtain ⟨d, hd, rfl⟩ := List.getElem_of_mem ht
  obtain ⟨i, hi, e⟩ := List.getElem_of_mem hx
  have hd' : d < (rowsOf T).length := by rw [rows_len]; exact hd
  have er : (rowsOf T).getD d [] = T[d].2.map (bsIx (termsOf T)) := by rw [getD_at _ _ hd']; exact rows_at T d hd
  have hmem : i ∈ plc ((rowsOf T).getD d []) k ((rowsOf T).getD d []).length := by
    rw [plc_mem, er]
    have hi' : i < (T[d].2.map (bsIx (termsOf T))).length := by simpa using hi
    refine ⟨hi', ?_⟩
    rw [getD_at _ _ hi', List.getElem_map, e, bs_at _ (terms_pw T) k hk]
  have := postD_has (rowsOf T) k (rowsOf T).length d hd' (List.ne_nil_of_mem hmem)
  exact List.length_pos_of_mem this

/- The words of a text. -/
theorem sp_word : ∀ (f : Nat) (l : List UInt8), ∀ x ∈ sp f l, isWord x = true
  | 0, l, x, hx => by simp [sp] at hx
  | f + 1, l, x, hx => by
    unfold sp at hx
    split at hx
    · simp at hx
    · rcases List.mem_append.1 hx with h | h
      · split at h
        · simp at h
        · rename_i hne
          rw [List.mem_singleton] at h
          subst h
          have hal : ∀ c ∈ l.takeWhile isW, isW c = true := fun c hc => by
            have := List.all_takeWhile (p := isW) (l := l)
            exact List.all_eq_true.1 this c hc
          generalize l.takeWhile isW = r at *
          unfold isWord wordL
          simp only [Bool.and_eq_true, decide_eq_true_eq, List.all_eq_true, List.length_map, List.length_take]
          refine ⟨⟨by omega, by omega⟩, ?_⟩
          intro c hc
          obtain ⟨c', hc', rfl⟩ := List.mem_map.1 hc
          exact hal c' (List.mem_of_mem_take hc')
      · exact sp_word f _ x h

theorem sp_sum : ∀ (f : Nat) (l : List UInt8), sumL (sp f l) + (sp f l).length ≤ l.length + 1
  | 0, l => by simp [sp, sumL]
  | f + 1, l => by
    unfold sp
    split
    · simp [sumL]
    · rename_i h0
      have ih := sp_sum f (l.drop ((l.takeWhile isW).length + 1))
      have hle : (l.takeWhile isW).length ≤ l.length := (List.takeWhile_sublist isW).length_le
      rw [List.length_drop] at ih
      split
      · rename_i he
        rw [List.nil_append]
        omega
      · rename_i he
        have hw : (wordL (l.takeWhile isW)).length ≤ (l.takeWhile isW).length := by unfold wordL; simp; omega
        simp only [List.singleton_append, sumL, List.length_cons]
        by_cases hq : (l.takeWhile isW).length = l.length
        · rw [List.drop_eq_nil_of_le (by omega)]
          rw [sp_nil]
          simp [sumL]; omega
        · omega

theorem word_pos (l : List (List UInt8)) (h : ∀ x ∈ l, isWord x = true) : l.length ≤ sumL l := by
  induction l with
  | nil => simp
  | cons x r ih =>
    have h1 := h x (by simp)
    have h2 := ih (fun y hy => h y (by simp [hy]))
    have : 1 ≤ x.length := by unfold isWord at h1; simp at h1; exact h1.1.1
    simp [sumL]; omega

/-- The words of a text of at most 120 bytes. -/
theorem sp_few (b : ByteArray) (h : b.size ≤ 120) : (wordsB b).length ≤ 60 ∧ lenF (wordsB b) ≤ 120 ∧ sumL (wordsB b) ≤ 121 ∧ ∀ x ∈ wordsB b, isWord x = true := by
  unfold wordsB
  have h1 := sp_sum b.size b.data.toList
  have h2 := sp_word b.size b.data.toList
  have h3 := word_pos _ h2
  have e : b.data.toList.length = b.size := by rw [Array.length_toList]; rfl
  rw [e] at h1
  refine ⟨by omega, ?_, by omega, h2⟩
  unfold lenF
  by_cases h0 : (sp b.size b.data.toList).length = 0
  · rw [List.length_eq_zero_iff.1 h0]; exact (by decide : (0 : Nat) ≤ 120)
  · omega

def sumW : List Tx → Nat
  | [] => 0
  | t :: r => t.2.length + sumW r
theorem may_sum : ∀ (T : List Tx), (∀ t ∈ T, lenF t.2 ≤ 120) → mayB T (sumW T : Nat) = true
  | [], _ => by simp [mayB, sumW]
  | t :: r, h => by
    have h1 := h t (by simp)
    have ih := may_sum r (fun x hx => h x (by simp [hx]))
    rw [mayB, if_neg (by omega), sumW]
    rw [show ((t.2.length + sumW r : Nat) : Int) - (t.2.length : Int) = (sumW r : Int) by omega]
    exact ih

theorem cnt_cons (r : List Nat) (rows : List (List Nat)) : ∀ d, cntTo (r :: rows) (d + 1) = r.length + cntTo rows d
  | 0 => by simp [cntTo]
  | d + 1 => by
    rw [cntTo, cnt_cons r rows d, cntTo]
    simp [Nat.add_assoc]

theorem cnt_rows (g : List UInt8 → Nat) : ∀ (T : List Tx), cntTo (T.map fun t => t.2.map g) T.length = sumW T
  | [] => rfl
  | t :: r => by
    rw [List.map_cons, List.length_cons, cnt_cons, cnt_rows g r, sumW]
    simp

def bodyT (T : List Tx) : List UInt8 := bodyB (T.map Prod.fst) (termsOf T) (rowsOf T)
def fileT (T : List Tx) : List UInt8 := bodyT T ++ sumB (bodyT T)

structure Fine (T : List Tx) : Prop where
  len : T.length ≤ 60
  rise : Rs 0 (T.map Prod.fst)
  ids : ∀ t ∈ T, t.1 ≤ 99999
  few : ∀ t ∈ T, t.2.length ≤ 60
  short : ∀ t ∈ T, lenF t.2 ≤ 120 ∧ sumL t.2 ≤ 121
  word : ∀ t ∈ T, ∀ x ∈ t.2, isWord x = true

theorem allW_le (T : List Tx) (h : ∀ t ∈ T, t.2.length ≤ 60) : (termsOf T).length ≤ 60 * T.length := Nat.le_trans (by
  have := compact_len ((allW T).mergeSort fun x y => decide (x ≤ y))
  rw [List.length_mergeSort] at this
  exact this) (allW_len T h)

theorem table_back (T : List Tx) (h : Fine T) : tableF (some (bodyT T)) = (T.map Prod.fst, termsOf T, sumW T, belowF (rowsOf T) (termsOf T).length, some []) := by
  have hl := allW_le T h.few
  have := table_body (T.map Prod.fst) (termsOf T) (rowsOf T) (by rw [rows_len]; simp) (by simpa using h.len) (rows_small T h.few) h.rise (by
    intro x hx
    obtain ⟨t, ht, rfl⟩ := List.mem_map.1 hx
    exact h.ids t ht) (by have := h.len; omega) (terms_pw T) (by
    intro x hx
    obtain ⟨t, ht, hx'⟩ := (allW_iff T x).1 ((terms_mem T x).1 hx)
    exact h.word t ht x hx') (rows_lt T) (occ T)
  unfold bodyT
  rw [this, rows_len]
  have e := cnt_rows (bsIx (termsOf T)) T
  rw [show cntTo (rowsOf T) T.length = sumW T from e]

theorem sumB_len (l : List UInt8) : (sumB l).length = 4 := by simp [sumB, sumN]

theorem unseal_file (l : List UInt8) : unsealF (l ++ sumB l) = some l := by
  unfold unsealF
  have e : (l ++ sumB l).length - 4 = l.length := by rw [List.length_append, sumB_len]; omega
  rw [if_neg (by rw [List.length_append, sumB_len]; omega), e]
  simp

/- A byte that is turned. -/
theorem numB_len (n : Nat) : (numB n).length ≤ 4 := numG_len 3 n
theorem ent_split : ∀ (P : List Po) (least k : Nat) (hk : k < P.length), entB least (P.take (k + 1)) = entB least (P.take k) ++ (numB (P[k].1 - (if k = 0 then least else (P.map Prod.fst).getD (k - 1) 0 + 1)) ++ (numB P[k].2.length ++ riseB 0 P[k].2))
  | x :: r, least, 0, hk => by simp [entB]
  | x :: r, least, k + 1, hk => by
    have ih := ent_split r (x.1 + 1) k (by simpa using hk)
    simp only [List.take_succ_cons, entB, List.append_assoc, List.map_cons]
    rw [ih]
    cases k with
    | zero => simp
    | succ k => simp

theorem ok_at (N : Nat) : ∀ (P : List Po) (least k : Nat) (hk : k < P.length), OkP N least P →
    (if k = 0 then least else (P.map Prod.fst).getD (k - 1) 0 + 1) ≤ P[k].1 ∧ P[k].1 < N ∧ 1 ≤ P[k].2.length ∧ P[k].2.length ≤ 60 ∧ Rs 0 P[k].2 ∧ ∀ p ∈ P[k].2, p ≤ 59
  | x :: r, least, 0, hk, h => ⟨by simpa using h.1, h.2.1, h.2.2.1, h.2.2.2.1, h.2.2.2.2.1, h.2.2.2.2.2.1⟩
  | x :: r, least, k + 1, hk, h => by
    have ih := ok_at N r (x.1 + 1) k (by simpa using hk) h.2.2.2.2.2.2
    cases k with
    | zero => simpa using ih
    | succ k => simpa using ih

theorem ent_len (N : Nat) : ∀ (P : List Po) (least : Nat), OkP N least P → (entB least P).length ≤ 12 * cntP P
  | [], _, _ => by simp [entB]
  | x :: r, least, h => by
    have ih := ent_len N r (x.1 + 1) h.2.2.2.2.2.2
    have h1 := h.2.2.1
    have h2 := numB_len (x.1 - least)
    have h3 := numB_len x.2.length
    have h4 := riseB_len x.2 0
    simp only [entB, cntP, List.length_append]
    omega

theorem cntP_take : ∀ (P : List Po) (k : Nat), cntP (P.take k) ≤ cntP P
  | [], k => by simp
  | x :: r, 0 => by simp [cntP]
  | x :: r, k + 1 => by have := cntP_take r k; simp [cntP]; exact this

theorem ok_take (N : Nat) : ∀ (P : List Po) (least k : Nat), OkP N least P → OkP N least (P.take k)
  | [], _, k, h => by simp [OkP]
  | x :: r, least, 0, h => trivial
  | x :: r, least, k + 1, h => ⟨h.1, h.2.1, h.2.2.1, h.2.2.2.1, h.2.2.2.2.1, h.2.2.2.2.2.1, ok_take N r (x.1 + 1) k h.2.2.2.2.2.2⟩

theorem cnt_at : ∀ (P : List Po) (k : Nat) (hk : k < P.length), P[k].2.length ≤ cntP P
  | x :: r, 0, hk => by simp [cntP]
  | x :: r, k + 1, hk => by
    have := cnt_at r k (by simpa using hk)
    simp [cntP]; omega

theorem PostIs.kb {t : TypeId} {S : List Nat} {b base : Nat} {w w' : World} {v : Value} {P : List Po} {pvs : List Value} (h : PostIs w base v P pvs) (k : Kb t S b w w') (h1 : 242 ≠ t) (h2 : 3 ≠ t) (hS : ∀ x ∈ S, x ∉ foot v pvs) : PostIs w' base v P pvs :=
  ⟨h.len, k.owns h.row h1 (fun x hx hg => hS x hx (foot_row hg)), fun i hi h3 => k.owns (h.each i hi h3) h2 (fun x hx hg => hS x hx (foot_each h3 hg)), h.apart⟩

set_option maxHeartbeats 2000000 in
theorem wterm_any (W base b2 N : Nat) (l t : List UInt8) (v : Value) (P : List Po) (pvs : List Value) (w : World) (h : Wr w W base l) (hp : PostIs w b2 v P pvs) (hb : base ≤ w.heap.size) (hok : OkP N 0 P) (hN : N ≤ 60) (ht : t.length ≤ 8) (hl : l.length + 12 * cntP P ≤ 900000) :
    Calls Tryz.prog 128 #[.pointer (some ⟨W, 0, none⟩), .string ⟨t.toArray⟩, v] w fun e w' => e = .returned (.tuple #[]) ∧ Wr w' W base (l ++ termB t P) ∧ Kb 5 [W] base w w' := by
  obtain ⟨av, cv, rfl, hav⟩ := owns_forms hp.row
  have hPl := okP_len N P 0 hok
  have hsz : (ByteArray.mk t.toArray).size = t.length := by show t.toArray.size = t.length; simp
  obtain ⟨v0, hW0, hown0⟩ := id h
  have hWf : W ∉ foot (.slice av P.length cv) pvs := foot_ne hp hW0 (by decide) (by decide)
  have hWlt := heap_lt hW0
  have hc1 := numB_len t.length
  have hc2 := numB_len P.length
  have HW := hide h
  have HP := hide hp
  have HOK := hide hok
  have HF := hide hWf
  clear h hp hok hWf hW0 hown0
  go_enter Tryz.func128, Tryz.ntmps128
  go_wp2_with fail
  refine (wnum_any W base l t.length w HW.out hb (by omega) (by omega)).mono ?_
  rintro e w1 ⟨rfl, hw1, hk1⟩
  have hz1 := hk1.size
  have HW1 := hide hw1
  clear hw1
  go_wp2_with fail
  refine (wtext_any W base _ ⟨t.toArray⟩ w1 HW1.out (by omega) (by rw [hsz]; simp; omega)).mono ?_
  rintro e w2 ⟨rfl, hw2, hk2⟩
  have hz2 := hk2.size
  have HW2 := hide hw2
  clear hw2
  go_wp2_with fail
  refine (wnum_any W base _ P.length w2 HW2.out (by omega) (by simp; omega) (by omega)).mono ?_
  rintro e w3 ⟨rfl, hw3, hk3⟩
  have hz3 := hk3.size
  have k3 : Kb 5 [W] base w w3 := (hk1.next hk2).next hk3
  have hp3 := HP.out.kb k3 (by decide) (by decide) (by simpa using HF.out)
  simp only [List.append_assoc] at hw3
  obtain ⟨pre, hpre⟩ : ∃ pre, l ++ (numB t.length ++ ((ByteArray.mk t.toArray).data.toList ++ numB P.length)) = pre := ⟨_, rfl⟩
  rw [hpre] at hw3
  have hpl : pre.length ≤ l.length + 16 := by rw [← hpre]; simp; omega
  have hfin : Hid (l ++ termB t P = pre ++ entB 0 P) := by
    show _ = _
    rw [← hpre]; unfold termB; simp
  have HW3 := hide hw3
  have HP3 := hide hp3
  clear hw3 hp3 hpre HW HW1 HW2 HP hk1 hk2 hk3
  go_wp2_with fail
  obtain ⟨W1, hW1⟩ : ∃ W1, w3.alloc (.cells #[.int .i64 0] 217) = W1 := ⟨_, rfl⟩
  rw [hW1]
  have k0 : Kp [] w3 W1 := by rw [← hW1]; exact (Kp.refl _ _).alloc _
  have hz0 := k0.size
  have hq0 : Ri W1 w3.heap.size 0 := by rw [← hW1]; exact heap_alloc_new w3 _
  have hw0 := HW3.out.kp k0 (by simp) (by simp)
  have hp0 := HP3.out.kp k0 (by simp)
  have HW0 := hide hw0
  have HQ0 := hide hq0
  have HP0 := hide hp0
  have kb0 : Kb 5 [W] base w W1 := k3.next (Kb.of_kp k0 (by simp))
  obtain ⟨Q, hQ⟩ : ∃ Q, w3.heap.size = Q := ⟨_, rfl⟩
  rw [hQ] at HQ0
  rw [hQ]
  have hQW : Q ≠ W := by omega
  have hQw : w.heap.size ≤ Q := by omega
  have HQf := hide (foot_ne HP0.out HQ0.out (by decide) (by decide))
  clear hw0 hq0 hp0 HW3 HP3 hW1 k0 k3
  go_loopw [22] (fun iv wr => ∃ k : Nat, k ≤ P.length ∧ iv = .int .i64 k ∧ Wr wr W base (pre ++ entB 0 (P.take k)) ∧ Ri wr Q (if k = 0 then 0 else (P.map Prod.fst).getD (k - 1) 0 + 1) ∧ PostIs wr b2 (.slice av P.length cv) P pvs ∧ base ≤ wr.heap.size ∧ Kb 5 [W] base w wr) (fun iv _ => P.length - (intOf iv).toNat)
  case atStart => exact ⟨0, by omega, rfl, by simpa [entB] using HW0.out, HQ0.out, HP0.out, by omega, kb0⟩
  case round =>
    clear HW0 HQ0 HP0 kb0
    obtain ⟨k, hk, rfl, hw1, hq1, hp1, hbase, hkb⟩ := hrel
    by_cases hlt2 : k < P.length
    · obtain ⟨g, rfl⟩ := hav (by omega)
      have hk2 : k < pvs.length := by rw [hp1.len]; exact hlt2
      obtain ⟨c0, c1⟩ := hp1.cells k hlt2 hk2
      have hsp := hide (ent_split P 0 k hlt2)
      obtain ⟨a1, a2, a3, a4, a5, a6⟩ := ok_at N P 0 k hlt2 HOK.out
      have hlen := ent_len N (P.take k) 0 (ok_take N P 0 k HOK.out)
      have hct := cntP_take P k
      have hca := cnt_at P k hlt2
      have hown := hp1.each k hlt2 hk2
      obtain ⟨ap, cp, ev, hap⟩ := owns_forms hown
      rw [ev] at c1 hown
      have hglt := (hp1.row.lt g rfl).2
      have hnx : Hid ((if k + 1 = 0 then 0 else (P.map Prod.fst).getD (k + 1 - 1) 0 + 1) = P[k].1 + 1) := by
        show _ = _
        simp [hlt2]
      obtain ⟨le, hle⟩ : ∃ le, (if k = 0 then 0 else (P.map Prod.fst).getD (k - 1) 0 + 1) = le := ⟨_, rfl⟩
      rw [hle] at a1 hq1 hsp
      obtain ⟨d, hd⟩ : ∃ d, P[k].1 = d := ⟨_, rfl⟩
      obtain ⟨ps, hps⟩ : ∃ ps, P[k].2 = ps := ⟨_, rfl⟩
      rw [hd] at c0 a1 a2 hsp hnx
      rw [hps] at c1 a3 a4 a5 a6 hsp hca hown ev
      have HW := hide hw1
      have HQ := hide hq1
      have HP := hide hp1
      have HO := hide hown
      have HR := hide a5
      have HB := hide a6
      have Hev := hide ev
      have Hlen : Hid ((pre ++ entB 0 (P.take k)).length ≤ 900100) := by
        show _ ≤ _
        rw [List.length_append]
        omega
      clear hw1 hq1 hp1 hown a5 a6 ev hle hd hps hlen
      go_wp2_with fail
      obtain ⟨H, hH⟩ : ∃ H, wr.heap.size = H := ⟨_, rfl⟩
      obtain ⟨wp, hwp⟩ : ∃ wp, wr.alloc (.cells #[.int .i64 (d : Int), .slice ap ps.length cp] 242) = wp := ⟨_, rfl⟩
      have kp0 : Kp [] wr wp := by rw [← hwp]; exact (Kp.refl _ _).alloc _
      have hb0 : wp.heap[H]? = some (.cells #[.int .i64 (d : Int), .slice ap ps.length cp] 242 (0, 0)) := by rw [← hwp, ← hH]; exact heap_alloc_new wr _
      have hwpz := kp0.size
      have hwW := HW.out.kp kp0 (by simp) (by simp)
      have hwQ : Ri wp Q le := kp0.heap HQ.out (by simp)
      have hwP := HP.out.kp kp0 (by simp)
      have hwO := kp0.owns HO.out (by simp)
      have hHf : H ∉ foot (.slice (some ⟨g, 0, none⟩) P.length cv) pvs := fun hx => by
        have := (HP.out.foot_lt H hx).2; omega
      have hWH : W ≠ H := by have := hkb.size; omega
      have hQH : Q ≠ H := by have := heap_lt HQ.out; omega
      have HHf := hide hHf
      rw [hwp, hH]
      have HW' := hide hwW
      have HQ' := hide hwQ
      have HP' := hide hwP
      have HO' := hide hwO
      have HB0 := hide hb0
      have HH := hide hH
      clear hwW hwQ hwP hwO hwp HW HQ HP HO hHf hb0 c0 c1
      have hbase2 : base ≤ wp.heap.size := by omega
      clear hH
      refine (wentry_any W base Q le d _ wp HW'.out HQ'.out hQW hbase2 (by have := Hlen.out; omega) a1 (by omega)).mono ?_
      rintro e w4 ⟨rfl, hw4, hq4, hk4⟩
      have hz4 := hk4.size
      have hWQf : ∀ x ∈ [W, Q], x ∉ foot (.slice (some ⟨g, 0, none⟩) P.length cv) pvs := by
        intro x hx
        simp at hx
        rcases hx with rfl | rfl
        · exact HF.out
        · exact HQf.out
      have hp4 := HP'.out.kb hk4 (by decide) (by decide) hWQf
      have hb4 := hk4.heap (by simp; omega) HB0.out (by decide)
      have ho4 := hk4.owns HO'.out (by decide) (by
        intro x hx hg
        exact hWQf x hx (foot_each hk2 (by rw [Hev.out]; exact hg)))
      obtain ⟨d0, d1, _, _⟩ := rd_cells hb4
      have hH4 := heap_lt hb4
      have kb4 : Kb 5 [W] base w w4 := by
        refine (hkb.next (Kb.of_kp kp0 (by simp))).trans hk4 ?_
        intro x hx
        simp at hx
        rcases hx with rfl | rfl
        · simp
        · right; omega
      have HW4 := hide hw4
      have HQ4 := hide hq4
      have HP4 := hide hp4
      have HO4 := hide ho4
      have HB4 := hide hb4
      clear hw4 hq4 hp4 ho4 hb4 HW' HQ' HP' HO' hk4 kp0 hkb HB0
      go_wp2_with fail
      have hn1 := numB_len (d - le)
      refine (wnum_any W base _ ps.length w4 HW4.out (by omega) (by have := Hlen.out; rw [List.length_append]; omega) (by omega)).mono ?_
      rintro e w5 ⟨rfl, hw5, hk5⟩
      have hz5 := hk5.size
      have hWf1 : ∀ x ∈ [W], x ∉ foot (.slice (some ⟨g, 0, none⟩) P.length cv) pvs := fun x hx => hWQf x (by simp at hx; simp [hx])
      have hp5 := HP4.out.kb hk5 (by decide) (by decide) hWf1
      have hb5 := hk5.heap (by simp; omega) HB4.out (by decide)
      have ho5 := hk5.owns HO4.out (by decide) (by
        intro x hx hg
        exact hWf1 x hx (foot_each hk2 (by rw [Hev.out]; exact hg)))
      have hq5 : Ri w5 Q (d + 1) := hk5.heap (by simp; omega) HQ4.out (by decide)
      obtain ⟨e0, e1, _, _⟩ := rd_cells hb5
      have hH5 := heap_lt hb5
      have HW5 := hide hw5
      have HQ5 := hide hq5
      have HP5 := hide hp5
      have HO5 := hide ho5
      clear hw5 hq5 hp5 ho5 hb5 HW4 HQ4 HP4 HO4 HB4 d0 d1
      go_wp2_with fail
      have hn2 := numB_len ps.length
      refine (wrising_any W base b2 _ _ ps w5 HW5.out HO5.out (by omega) (by have := Hlen.out; rw [List.length_append, List.length_append]; omega) (by omega) HR.out (fun x hx => by have := HB.out x hx; omega)).mono ?_
      rintro e w6 ⟨rfl, hw6, hk6⟩
      have hz6 := hk6.size
      have hp6 := HP5.out.kb hk6 (by decide) (by decide) hWf1
      have hq6 : Ri w6 Q (d + 1) := hk6.heap (by simp; omega) HQ5.out (by decide)
      have HW6 := hide hw6
      have HQ6 := hide hq6
      have HP6 := hide hp6
      have kb6 : Kb 5 [W] base w w6 := (kb4.next hk5).next hk6
      clear hw6 hq6 hp6 HW5 HQ5 HP5 HO5 e0 e1 kb4 hk5 hk6
      go_wp2_with fail
      go_roundw
      case rel =>
        refine ⟨k + 1, by omega, by go_num, ?_, ?_, HP6.out, by omega, kb6⟩
        · rw [hsp.out]
          have := HW6.out
          simpa only [List.append_assoc] using this
        · rw [hnx.out]; exact HQ6.out
      case measure => simp [intOf]; omega
    · have e : k = P.length := by omega
      subst e
      have HW := hide hw1
      clear hw1 hq1 hp1
      go_wp2_with fail
      go_end0
      refine ⟨rfl, ?_, hkb⟩
      rw [hfin.out]
      have := HW.out
      rwa [List.take_length] at this
end Go.Proofs.YtnffagpdnklnkaaGreatDoor.Pak
