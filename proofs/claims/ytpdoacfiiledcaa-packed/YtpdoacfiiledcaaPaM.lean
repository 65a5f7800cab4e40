import Derived.Test.YtpdoacfiiledcaaPaL
import Derived.Test.YtpdoacfiiledcaaPaD
import Derived.Test.YtpdoacfiiledcaaPakW
import Derived.Sort.Walk0
set_option linter.unusedVariables false
set_option maxRecDepth 4000
namespace Go.Proofs.Ytpdoacfiiledcaa.Pak
open Go.RowKit Go.Proofs.Ytpdoacfiiledcaa SiftM

theorem lt_of (a b : List UInt8) (h : a ≤ b) (h2 : a ≠ b) : a < b := Std.lt_of_le_of_ne h h2

theorem cu_inv (zs : List (List UInt8)) (h : zs.Pairwise (· ≤ ·)) : ∀ m, m ≤ zs.length → (Lib.compactUpTo zs.toArray m).Pairwise (· < ·) ∧ (∀ x, x ∈ Lib.compactUpTo zs.toArray m ↔ ∃ j, j < m ∧ zs[j]? = some x)
  | 0, _ => by simp [Lib.compactUpTo]
  | m + 1, hm => by
    obtain ⟨ih1, ih2⟩ := cu_inv zs h m (by omega)
    have hm' : m < zs.length := by omega
    have em : zs.toArray[m]! = zs[m] := by rw [getElem!_pos _ m (by simpa using hm')]; simp
    rw [Lib.compactUpTo_succ]
    by_cases hk : Lib.keeps zs.toArray m = true
    · rw [if_pos hk]
      constructor
      · refine List.pairwise_append.2 ⟨ih1, List.pairwise_singleton _ _, ?_⟩
        intro x hx y hy
        obtain ⟨j, hj, hxj⟩ := (ih2 x).1 hx
        rw [List.mem_singleton] at hy
        rw [hy, em]
        have hjl : j < zs.length := by omega
        rw [List.getElem?_eq_getElem hjl] at hxj
        have ex : zs[j] = x := Option.some.inj hxj
        have hpw := List.pairwise_iff_getElem.1 h
        have hne : zs[m] ≠ zs[m - 1] := by
          unfold Lib.keeps at hk
          have := of_decide_eq_true hk
          rcases this with h0 | h0
          · omega
          · rw [em, getElem!_pos _ (m - 1) (by simp; omega)] at h0
            simpa using h0
        have h1 : zs[m - 1] ≤ zs[m] := hpw (m - 1) m (by omega) hm' (by omega)
        have h2 : zs[m - 1] < zs[m] := lt_of _ _ h1 (fun e => hne e.symm)
        rw [← ex]
        by_cases e : j = m - 1
        · subst e; exact h2
        · exact List.lt_of_le_of_lt (hpw j (m - 1) hjl (by omega) (by omega)) h2
      · intro x
        simp only [List.mem_append, ih2, List.mem_singleton, em]
        constructor
        · rintro (⟨j, h1, h2⟩ | h1)
          · exact ⟨j, by omega, h2⟩
          · exact ⟨m, by omega, by rw [List.getElem?_eq_getElem hm', h1]⟩
        · rintro ⟨j, h1, h2⟩
          by_cases e : j = m
          · subst e
            rw [List.getElem?_eq_getElem hm'] at h2
            exact .inr (Option.some.inj h2).symm
          · exact .inl ⟨j, by omega, h2⟩
    · rw [if_neg hk, List.append_nil]
      refine ⟨ih1, fun x => ?_⟩
      rw [ih2]
      have hk' : ¬ (m = 0 ∨ zs.toArray[m]! ≠ zs.toArray[m - 1]!) := fun h' => hk (by unfold Lib.keeps; exact decide_eq_true h')
      have h0 : m ≠ 0 := fun e => hk' (.inl e)
      have heq : zs[m] = zs[m - 1] := by
        have := Classical.not_not.1 (fun h' => hk' (.inr h'))
        rw [em, getElem!_pos _ (m - 1) (by simp; omega)] at this
        simpa using this
      constructor
      · rintro ⟨j, h1, h2⟩; exact ⟨j, by omega, h2⟩
      · rintro ⟨j, h1, h2⟩
        by_cases e : j = m
        · subst e
          refine ⟨j - 1, by omega, ?_⟩
          rw [List.getElem?_eq_getElem hm'] at h2
          rw [List.getElem?_eq_getElem (by omega : j - 1 < zs.length), ← heq]
          exact h2
        · exact ⟨j, by omega, h2⟩

theorem sort_le (l : List (List UInt8)) : (l.mergeSort fun x y => decide (x ≤ y)).Pairwise (· ≤ ·) := by
  have := List.pairwise_mergeSort (le := fun x y : List UInt8 => decide (x ≤ y)) (fun a b c h1 h2 => by
    simp only [decide_eq_true_eq] at *; exact List.le_trans h1 h2) (fun a b => by
    rcases List.le_total a b with h | h <;> simp [h]) l
  exact this.imp (fun h => by simpa using h)

theorem terms_pw (T : List Tx) : (termsOf T).Pairwise (· < ·) := (cu_inv _ (sort_le (allW T)) _ (Nat.le_refl _)).1

theorem terms_mem (T : List Tx) (x : List UInt8) : x ∈ termsOf T ↔ x ∈ allW T := by
  have h := (cu_inv _ (sort_le (allW T)) _ (Nat.le_refl _)).2 x
  have hp := (List.mergeSort_perm (allW T) fun x y => decide (x ≤ y)).mem_iff (a := x)
  rw [← hp]
  unfold termsOf Lib.compact
  rw [h]
  constructor
  · rintro ⟨j, _, h2⟩; exact List.mem_of_getElem? h2
  · intro hx
    obtain ⟨j, hj, e⟩ := List.getElem_of_mem hx
    exact ⟨j, hj, by rw [List.getElem?_eq_getElem hj, e]⟩

theorem bsGo_at (less : Nat → Bool) (k H : Nat) (h1 : ∀ t, t < k → less t = true) (h2 : ∀ t, k ≤ t → t < H → less t = false) : ∀ (f lo hi : Nat), hi - lo ≤ f → lo ≤ k → k ≤ hi → hi ≤ H → Lib.bsGo less f lo hi = k
  | 0, lo, hi, hf, a, b, c => by simp [Lib.bsGo]; omega
  | f + 1, lo, hi, hf, a, b, c => by
    unfold Lib.bsGo
    by_cases h : lo < hi
    · rw [if_pos h]
      by_cases hm : (lo + hi) / 2 < k
      · rw [h1 _ hm, if_pos rfl]; exact bsGo_at less k H h1 h2 f _ _ (by omega) (by omega) b c
      · rw [h2 _ (by omega) (by omega)]; exact bsGo_at less k H h1 h2 f _ _ (by omega) a (by omega) (by omega)
    · rw [if_neg h]; omega

theorem getD_at {α : Type} (l : List α) (i : Nat) (h : i < l.length) (z : α) : l.getD i z = l[i] := by
  rw [List.getD_eq_getElem?_getD, List.getElem?_eq_getElem h]; rfl

theorem bs_at (terms : List (List UInt8)) (h : terms.Pairwise (· < ·)) (k : Nat) (hk : k < terms.length) : bsIx terms terms[k] = k := by
  have hpw := List.pairwise_iff_getElem.1 h
  unfold bsIx
  refine bsGo_at _ k terms.length ?_ ?_ _ _ _ (by omega) (by omega) (by omega) (Nat.le_refl _)
  · intro t ht
    rw [bytesLess_eq, getD_at _ _ (by omega)]
    exact decide_eq_true (hpw t k (by omega) hk ht)
  · intro t ht htl
    rw [bytesLess_eq, getD_at _ _ htl]
    apply decide_eq_false
    by_cases e : t = k
    · subst e; exact List.lt_irrefl _
    · exact List.lt_asymm (hpw k t hk htl (by omega))

theorem bs_mem (terms : List (List UInt8)) (h : terms.Pairwise (· < ·)) (x : List UInt8) (hx : x ∈ terms) : bsIx terms x < terms.length ∧ terms.getD (bsIx terms x) [] = x := by
  obtain ⟨k, hk, rfl⟩ := List.getElem_of_mem hx
  rw [bs_at terms h k hk]
  exact ⟨hk, getD_at _ _ hk _⟩

theorem allW_iff : ∀ (T : List Tx) (x : List UInt8), x ∈ allW T ↔ ∃ t ∈ T, x ∈ t.2
  | [], x => by simp [allW]
  | t :: r, x => by simp [allW, allW_iff r x]

theorem rows_len (T : List Tx) : (rowsOf T).length = T.length := by simp [rowsOf]
theorem rows_at (T : List Tx) (d : Nat) (h : d < T.length) : (rowsOf T)[d]'(by rw [rows_len]; exact h) = T[d].2.map (bsIx (termsOf T)) := by simp [rowsOf]

theorem rows_lt (T : List Tx) : ∀ r ∈ rowsOf T, ∀ x ∈ r, x < (termsOf T).length := by
  intro r hr x hx
  unfold rowsOf at hr
  obtain ⟨t, ht, rfl⟩ := List.mem_map.1 hr
  obtain ⟨y, hy, rfl⟩ := List.mem_map.1 hx
  exact (bs_mem _ (terms_pw T) y ((terms_mem T y).2 ((allW_iff T y).2 ⟨t, ht, hy⟩))).1

theorem rows_small (T : List Tx) (h : ∀ t ∈ T, t.2.length ≤ 60) : ∀ r ∈ rowsOf T, r.length ≤ 60 := by
  intro r hr
  unfold rowsOf at hr
  obtain ⟨t, ht, rfl⟩ := List.mem_map.1 hr
  simpa using h t ht

theorem words_back (T : List Tx) (t : Tx) (ht : t ∈ T) : wordsOf (termsOf T) (t.2.map (bsIx (termsOf T))) = t.2 := by
  unfold wordsOf
  rw [List.map_map]
  conv => rhs; rw [← List.map_id t.2]
  apply List.map_congr_left
  intro x hx
  exact (bs_mem _ (terms_pw T) x ((terms_mem T x).2 ((allW_iff T x).2 ⟨t, ht, hx⟩))).2

theorem texts_back (T : List Tx) : (T.map Prod.fst).zip ((rowsOf T).map (wordsOf (termsOf T))) = T := by
  have e : (rowsOf T).map (wordsOf (termsOf T)) = T.map Prod.snd := by
    unfold rowsOf
    rw [List.map_map]
    apply List.map_congr_left
    intro t ht
    exact words_back T t ht
  rw [e]
  clear e
  induction T with
  | nil => rfl
  | cons t r ih => simp [ih]

theorem occ (T : List Tx) : ∀ k, k < (termsOf T).length → 1 ≤ (postD (rowsOf T) k (rowsOf T).length).length := by
  intro k hk
  have hm : (termsOf T)[k] ∈ allW T := (terms_mem T _).1 (List.getElem_mem hk)
  obtain ⟨t, ht, hx⟩ := (allW_iff T _).1 hm
  obtain ⟨d, hd, rfl⟩ := List.getElem_of_mem ht
  obtain ⟨i, hi, e⟩ := List.getElem_of_mem hx
  have hd' : d < (rowsOf T).length := by rw [rows_len]; exact hd
  have er : (rowsOf T).getD d [] = T[d].2.map (bsIx (termsOf T)) := by rw [getD_at _ _ hd']; exact rows_at T d hd
  have hmem : i ∈ plc ((rowsOf T).getD d []) k ((rowsOf T).getD d []).length := by
    rw [plc_mem, er]
    have hi' : i < (T[d].2.map (bsIx (termsOf T))).length := by simpa using hi
    refine ⟨hi', ?_⟩
    rw [getD_at _ _ hi', List.getElem_map, e, bs_at _ (terms_pw T) k hk]
  have := postD_has (rowsOf T) k (rowsOf T).length d hd' (List.ne_nil_of_mem hmem)
  exact List.length_pos_of_mem this

/- The words of a text. -/
theorem sp_word : ∀ (f : Nat) (l : List UInt8), ∀ x ∈ sp f l, isWord x = true
  | 0, l, x, hx => by simp [sp] at hx
  | f + 1, l, x, hx => by
    unfold sp at hx
    split at hx
    · simp at hx
    · rcases List.mem_append.1 hx with h | h
      · split at h
        · simp at h
        · rename_i hne
          rw [List.mem_singleton] at h
          subst h
          have hal : ∀ c ∈ l.takeWhile isW, isW c = true := fun c hc => by
            have := List.all_takeWhile (p := isW) (l := l)
            exact List.all_eq_true.1 this c hc
          generalize l.takeWhile isW = r at *
          unfold isWord wordL
          simp only [Bool.and_eq_true, decide_eq_true_eq, List.all_eq_true, List.length_map, List.length_take]
          refine ⟨⟨by omega, by omega⟩, ?_⟩
          intro c hc
          obtain ⟨c', hc', rfl⟩ := List.mem_map.1 hc
          exact hal c' (List.mem_of_mem_take hc')
      · exact sp_word f _ x h

theorem sp_sum : ∀ (f : Nat) (l : List UInt8), sumL (sp f l) + (sp f l).length ≤ l.length + 1
  | 0, l => by simp [sp, sumL]
  | f + 1, l => by
    unfold sp
    split
    · simp [sumL]
    · rename_i h0
      have ih := sp_sum f (l.drop ((l.takeWhile isW).length + 1))
      have hle : (l.takeWhile isW).length ≤ l.length := (List.takeWhile_sublist isW).length_le
      rw [List.length_drop] at ih
      split
      · rename_i he
        rw [List.nil_append]
        omega
      · rename_i he
        have hw : (wordL (l.takeWhile isW)).length ≤ (l.takeWhile isW).length := by unfold wordL; simp; omega
        simp only [List.singleton_append, sumL, List.length_cons]
        by_cases hq : (l.takeWhile isW).length = l.length
        · rw [List.drop_eq_nil_of_le (by omega)]
          rw [sp_nil]
          simp [sumL]; omega
        · omega

theorem word_pos (l : List (List UInt8)) (h : ∀ x ∈ l, isWord x = true) : l.length ≤ sumL l := by
  induction l with
  | nil => simp
  | cons x r ih =>
    have h1 := h x (by simp)
    have h2 := ih (fun y hy => h y (by simp [hy]))
    have : 1 ≤ x.length := by unfold isWord at h1; simp at h1; exact h1.1.1
    simp [sumL]; omega

/-- The words of a text of at most 120 bytes. -/
theorem sp_few (b : ByteArray) (h : b.size ≤ 120) : (wordsB b).length ≤ 60 ∧ lenF (wordsB b) ≤ 120 ∧ sumL (wordsB b) ≤ 121 ∧ ∀ x ∈ wordsB b, isWord x = true := by
  unfold wordsB
  have h1 := sp_sum b.size b.data.toList
  have h2 := sp_word b.size b.data.toList
  have h3 := word_pos _ h2
  have e : b.data.toList.length = b.size := by rw [Array.length_toList]; rfl
  rw [e] at h1
  refine ⟨by omega, ?_, by omega, h2⟩
  unfold lenF
  by_cases h0 : (sp b.size b.data.toList).length = 0
  · rw [List.length_eq_zero_iff.1 h0]; exact (by decide : (0 : Nat) ≤ 120)
  · omega

def sumW : List Tx → Nat
  | [] => 0
  | t :: r => t.2.length + sumW r
theorem may_sum : ∀ (T : List Tx), (∀ t ∈ T, lenF t.2 ≤ 120) → mayB T (sumW T : Nat) = true
  | [], _ => by simp [mayB, sumW]
  | t :: r, h => by
    have h1 := h t (by simp)
    have ih := may_sum r (fun x hx => h x (by simp [hx]))
    rw [mayB, if_neg (by omega), sumW]
    rw [show ((t.2.length + sumW r : Nat) : Int) - (t.2.length : Int) = (sumW r : Int) by omega]
    exact ih

theorem cnt_cons (r : List Nat) (rows : List (List Nat)) : ∀ d, cntTo (r :: rows) (d + 1) = r.length + cntTo rows d
  | 0 => by simp [cntTo]
  | d + 1 => by
    rw [cntTo, cnt_cons r rows d, cntTo]
    simp [Nat.add_assoc]

theorem cnt_rows (g : List UInt8 → Nat) : ∀ (T : List Tx), cntTo (T.map fun t => t.2.map g) T.length = sumW T
  | [] => rfl
  | t :: r => by
    rw [List.map_cons, List.length_cons, cnt_cons, cnt_rows g r, sumW]
    simp

def bodyT (T : List Tx) : List UInt8 := bodyB (T.map Prod.fst) (termsOf T) (rowsOf T)
def fileT (T : List Tx) : List UInt8 := bodyT T ++ sumB (bodyT T)

structure Fine (T : List Tx) : Prop where
  len : T.length ≤ 60
  rise : Rs 0 (T.map Prod.fst)
  ids : ∀ t ∈ T, t.1 ≤ 99999
  few : ∀ t ∈ T, t.2.length ≤ 60
  short : ∀ t ∈ T, lenF t.2 ≤ 120 ∧ sumL t.2 ≤ 121
  word : ∀ t ∈ T, ∀ x ∈ t.2, isWord x = true

theorem allW_le (T : List Tx) (h : ∀ t ∈ T, t.2.length ≤ 60) : (termsOf T).length ≤ 60 * T.length := Nat.le_trans (by
  have := compact_len ((allW T).mergeSort fun x y => decide (x ≤ y))
  rw [List.length_mergeSort] at this
  exact this) (allW_len T h)

theorem table_back (T : List Tx) (h : Fine T) : tableF (some (bodyT T)) = (T.map Prod.fst, termsOf T, sumW T, belowF (rowsOf T) (termsOf T).length, some []) := by
  have hl := allW_le T h.few
  have := table_body (T.map Prod.fst) (termsOf T) (rowsOf T) (by rw [rows_len]; simp) (by simpa using h.len) (rows_small T h.few) h.rise (by
    intro x hx
    obtain ⟨t, ht, rfl⟩ := List.mem_map.1 hx
    exact h.ids t ht) (by have := h.len; omega) (terms_pw T) (by
    intro x hx
    obtain ⟨t, ht, hx'⟩ := (allW_iff T x).1 ((terms_mem T x).1 hx)
    exact h.word t ht x hx') (rows_lt T) (occ T)
  unfold bodyT
  rw [this, rows_len]
  have e := cnt_rows (bsIx (termsOf T)) T
  rw [show cntTo (rowsOf T) T.length = sumW T from e]

theorem sumB_len (l : List UInt8) : (sumB l).length = 4 := by simp [sumB, sumN]

theorem unseal_file (l : List UInt8) : unsealF (l ++ sumB l) = some l := by
  unfold unsealF
  have e : (l ++ sumB l).length - 4 = l.length := by rw [List.length_append, sumB_len]; omega
  rw [if_neg (by rw [List.length_append, sumB_len]; omega), e]
  simp

/- A byte that is turned. -/
theorem adl_a : ∀ (l : List UInt8) (p : Nat × Nat), (adl l p).1 % 65521 = (p.1 + (l.map UInt8.toNat).sum) % 65521
  | [], p => by simp [adl]
  | c :: r, p => by
    rw [adl, adl_a r]
    simp only [List.map_cons, List.sum_cons]
    rw [Nat.mod_add_mod, Nat.add_assoc]

theorem sum_set : ∀ (l : List UInt8) (i : Nat) (h : i < l.length) (b : UInt8), ((l.set i b).map UInt8.toNat).sum + l[i].toNat = (l.map UInt8.toNat).sum + b.toNat
  | c :: r, 0, h, b => by simp; omega
  | c :: r, i + 1, h, b => by
    have ih := sum_set r i (by simpa using h) b
    simp only [List.set_cons_succ, List.map_cons, List.sum_cons, List.getElem_cons_succ]
    omega

theorem sumB_a (l m : List UInt8) (h : sumB l = sumB m) : (adl l (1, 0)).1 = (adl m (1, 0)).1 := by
  have hl := (adl_lt l (1, 0) (by omega) (by omega)).1
  have hm := (adl_lt m (1, 0) (by omega) (by omega)).1
  unfold sumB sumN at h
  simp only [List.map_cons, List.map_nil, List.cons.injEq] at h
  obtain ⟨_, _, h3, h4, _⟩ := h
  have e3 := congrArg UInt8.toNat h3
  have e4 := congrArg UInt8.toNat h4
  rw [UInt8.toNat_ofNat', UInt8.toNat_ofNat'] at e3 e4
  generalize (adl l (1, 0)).1 = a at *
  generalize (adl m (1, 0)).1 = b at *
  omega

theorem turned_none (l : List UInt8) (i : Nat) (hi : i < (l ++ sumB l).length) (b : UInt8) (hb : b ≠ (l ++ sumB l)[i]) : unsealF ((l ++ sumB l).set i b) = none := by
  unfold unsealF
  have hlen : ((l ++ sumB l).set i b).length = l.length + 4 := by rw [List.length_set, List.length_append, sumB_len]
  rw [hlen, if_neg (by omega), Nat.add_sub_cancel, if_neg]
  by_cases h : i < l.length
  · have e : (l ++ sumB l).set i b = l.set i b ++ sumB l := List.set_append_left _ _ h
    rw [e]
    have el : (l.set i b).length = l.length := List.length_set
    rw [List.take_append_of_le_length (by omega), List.take_of_length_le (by omega), List.drop_append_of_le_length (by omega), List.drop_eq_nil_of_le (by omega), List.nil_append]
    intro hs
    have ha := sumB_a _ _ hs
    have a1 := adl_a (l.set i b) (1, 0)
    have a2 := adl_a l (1, 0)
    rw [ha, a2] at a1
    have hs2 := sum_set l i h b
    rw [List.getElem_append_left h] at hb
    have hne : b.toNat ≠ l[i].toNat := fun e => hb (UInt8.toNat_inj.1 e)
    have hb1 : b.toNat < 256 := b.toNat_lt
    have hb2 : l[i].toNat < 256 := l[i].toNat_lt
    generalize ((l.set i b).map UInt8.toNat).sum = x at *
    generalize (l.map UInt8.toNat).sum = y at *
    simp only at a1
    omega
  · have e : (l ++ sumB l).set i b = l ++ (sumB l).set (i - l.length) b := List.set_append_right _ _ (by omega)
    have hi' : i - l.length < (sumB l).length := by rw [List.length_append] at hi; omega
    rw [e]
    rw [List.take_append_of_le_length (Nat.le_refl _), List.take_length, List.drop_append_of_le_length (Nat.le_refl _), List.drop_length, List.nil_append]
    intro hs
    apply hb
    rw [List.getElem_append_right (by omega)]
    have : (sumB l)[i - l.length] = ((sumB l).set (i - l.length) b)[i - l.length]'(by rw [List.length_set]; exact hi') := by
      congr 1
    rw [this]; simp

theorem table_none : (tableF none).2.2.2.2 ≠ some [] := by
  have : (tableF none).2.2.2.2 = none := rfl
  rw [this]; simp
end Go.Proofs.Ytpdoacfiiledcaa.Pak
