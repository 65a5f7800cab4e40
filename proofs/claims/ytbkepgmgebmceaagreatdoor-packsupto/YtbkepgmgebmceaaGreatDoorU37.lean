import Derived.Test.YtbkepgmgebmceaaGreatDoorU36

set_option linter.unusedVariables false
set_option maxRecDepth 4000
namespace Go.Proofs.YtbkepgmgebmceaaGreatDoor.Pak
open Go.RowKit Go.Proofs.YtbkepgmgebmceaaGreatDoor Go.Proofs.YtbkepgmgebmceaaGreatDoor.Spl SiftM

/-- Bounds of what was guessed. -/
theorem rnumG_suf : ∀ (f i m : Nat) (l : List UInt8) (b : Bool), (rnumG f i m l b).2.1.length ≤ l.length
  | 0, i, m, l, b => by simp [rnumG]
  | f + 1, i, m, [], b => by simp [rnumG]
  | f + 1, i, m, c :: r, b => by
    show (if c.toNat < 128 then (m + c.toNat % 128 * 128 ^ i, r, b) else rnumG f (i + 1) (m + c.toNat % 128 * 128 ^ i) r b).2.1.length ≤ _
    split
    · simp
    · have := rnumG_suf f (i + 1) (m + c.toNat % 128 * 128 ^ i) r b
      simp; omega
theorem rnum_suf (l : List UInt8) (b : Bool) : (rnum l b).2.1.length ≤ l.length := rnumG_suf 4 0 0 l b
theorem rtext_suf (n : Nat) (l : List UInt8) (b : Bool) : (rtext n l b).2.1.length ≤ l.length ∧ (rtext n l b).1.length ≤ l.length := by
  unfold rtext; split
  · simp
  · simp; omega
/-- Slots whose words have at most k bytes. -/
def ShS (k : Nat) (L : List Sl) : Prop := ∀ s ∈ L, s.2.2.length ≤ k
theorem rpl_ok (k doc : Nat) (w : List UInt8) (hw : w.length ≤ k) : ∀ (c np : Nat) (L : List Sl) (l : List UInt8) (b : Bool), ShS k L → l.length ≤ k → ShS k (rpl doc w c np L l b).1 ∧ (rpl doc w c np L l b).2.1.length ≤ k
  | 0, np, L, l, b, h, hl => ⟨h, hl⟩
  | c + 1, np, L, l, b, h, hl => by
    rw [rpl]
    split
    · exact ⟨h, hl⟩
    · refine rpl_ok k doc w hw c _ _ _ _ ?_ (Nat.le_trans (rnum_suf l b) hl)
      intro s hs
      rcases List.mem_append.1 hs with hs | hs
      · exact h s hs
      · simp at hs; subst hs; exact hw
theorem rdoc_ok (k : Nat) (w : List UInt8) (hw : w.length ≤ k) (nd : Nat) (L : List Sl) (l : List UInt8) (b : Bool) (h : ShS k L) (hl : l.length ≤ k) : ShS k (rdoc w nd L l b).1 ∧ (rdoc w nd L l b).2.1.length ≤ k := by
  unfold rdoc
  exact rpl_ok k _ w hw _ _ _ _ _ h (Nat.le_trans (rnum_suf _ _) (Nat.le_trans (rnum_suf _ _) hl))
/-- What a turn of the reader keeps: short words, few slots as long as it is not bad. -/
def OkS (k : Nat) (s : SS) : Prop := ShS k s.1 ∧ s.2.1.length ≤ k ∧ (s.2.2 = false → s.1.length ≤ 10000)
theorem rdocs_ok (k : Nat) (w : List UInt8) (hw : w.length ≤ k) : ∀ (c nd : Nat) (L : List Sl) (l : List UInt8) (b : Bool), OkS k (L, l, b) → OkS k (rdocs w c nd L l b)
  | 0, nd, L, l, b, h => h
  | c + 1, nd, L, l, b, h => by
    rw [rdocs]
    split
    · exact h
    · obtain ⟨h1, h2⟩ := rdoc_ok k w hw nd L l b h.1 h.2.1
      refine rdocs_ok k w hw c _ _ _ _ ⟨h1, h2, ?_⟩
      intro e
      simp at e
      exact e.2
theorem rslots_ok (k : Nat) (L : List Sl) (l : List UInt8) (b : Bool) (h : OkS k (L, l, b)) (hb : b = false) : OkS k (rslots L l b) := by
  unfold rslots
  have h1 := rnum_suf l b
  obtain ⟨h2, h3⟩ := rtext_suf (rnum l b).1 (rnum l b).2.1 (rnum l b).2.2
  have h4 := rnum_suf (rtext (rnum l b).1 (rnum l b).2.1 (rnum l b).2.2).2.1 (rtext (rnum l b).1 (rnum l b).2.1 (rnum l b).2.2).2.2
  have hl := h.2.1
  simp only at hl
  exact rdocs_ok k _ (by omega) _ _ _ _ _ ⟨h.1, by simp only; omega, fun _ => h.2.2 hb⟩
theorem rmany_ok (k : Nat) : ∀ (c : Nat) (s : SS), OkS k s → OkS k (rmany c s)
  | 0, s, h => h
  | c + 1, s, h => by
    rw [rmany]
    split
    · exact h
    · rename_i hb
      exact rmany_ok k c _ (rslots_ok k s.1 s.2.1 s.2.2 h (by simpa using hb))
theorem rwords_ok (k : Nat) (L : List Sl) (h : ShS k L) (d : Nat) : ∀ (f p : Nat), (rwords L d f p).length ≤ f ∧ ∀ x ∈ rwords L d f p, x.length ≤ k
  | 0, p => by simp [rwords]
  | f + 1, p => by
    rw [rwords_step]
    obtain ⟨h1, h2⟩ := rwords_ok k L h d f (p + 1)
    cases e : L.find? (hitS d p) with
    | none => simp
    | some s =>
      have hm := List.mem_of_find?_eq_some e
      refine ⟨by simp; omega, ?_⟩
      intro x hx
      rcases List.mem_cons.1 hx with rfl | hx
      · exact h s hm
      · exact h2 x hx
theorem rids_suf : ∀ (c nx : Nat) (ids : List Nat) (l : List UInt8) (b : Bool), (rids c nx ids l b).2.1.length ≤ l.length
  | 0, nx, ids, l, b => by simp [rids]
  | c + 1, nx, ids, l, b => by
    rw [rids]
    split
    · simp
    · exact Nat.le_trans (rids_suf c _ _ _ _) (rnum_suf l b)
theorem rids_bnd (Q : Nat) (hQ : ∀ l b, (rnum l b).1 < Q) : ∀ (c nx k : Nat) (ids : List Nat) (l : List UInt8) (b : Bool), (∀ x ∈ ids, x ≤ k * Q) → nx ≤ k * Q → ∀ x ∈ (rids c nx ids l b).1, x ≤ (k + c) * Q
  | 0, nx, k, ids, l, b, h, hn => by simpa [rids] using h
  | c + 1, nx, k, ids, l, b, h, hn => by
    rw [rids]
    split
    · intro x hx
      exact Nat.le_trans (h x hx) (Nat.mul_le_mul_right _ (by omega))
    · have hl := hQ l b
      have e1 : (k + 1) * Q = k * Q + Q := Nat.succ_mul k Q
      have := rids_bnd Q hQ c (nx + (rnum l b).1 + 1) (k + 1) (ids ++ [nx + (rnum l b).1]) (rnum l b).2.1 (rnum l b).2.2 (by
        intro x hx
        rcases List.mem_append.1 hx with hx | hx
        · have := h x hx; omega
        · simp at hx; subst hx; omega) (by omega)
      rw [show k + (c + 1) = k + 1 + c by omega]
      exact this
/-- What was guessed is not great. -/
structure Guessed (k : Nat) (T : List Tx) : Prop where
  len : T.length ≤ 60
  ids : ∀ t ∈ T, t.1 ≤ 60 * 268435456
  few : ∀ t ∈ T, t.2.length ≤ 10001
  short : ∀ t ∈ T, ∀ x ∈ t.2, x.length ≤ k
theorem guess_bnd (F : List UInt8) (T : List Tx) (h : rguess F = some T) : Guessed F.length T := by
  unfold rguess at h
  simp only at h
  have hd : (F.drop 1).length ≤ F.length := by simp
  have hs1 := rnum_suf (F.drop 1) false
  generalize rnum (F.drop 1) false = N1 at *
  split at h
  · simp at h
  rename_i h60
  have hi1 := rids_len N1.1 0 [] N1.2.1 N1.2.2
  have hi2 := rids_bnd 268435456 rnum_lt N1.1 0 0 [] N1.2.1 N1.2.2 (by simp) (Nat.zero_le _)
  have hi3 := rids_suf N1.1 0 [] N1.2.1 N1.2.2
  generalize rids N1.1 0 [] N1.2.1 N1.2.2 = RI at *
  have hs2 := rnum_suf RI.2.1 RI.2.2
  generalize rnum RI.2.1 RI.2.2 = N2 at *
  have hok := rmany_ok F.length N2.1 ([], N2.2.1, N2.2.2) ⟨by intro s hs; simp at hs, by simp only; omega, fun _ => by simp⟩
  generalize rmany N2.1 ([], N2.2.1, N2.2.2) = S at *
  split at h
  · simp at h
  rename_i hb
  simp at h hi1
  have hfew := hok.2.2 (by simpa using hb)
  subst h
  refine ⟨by simp; omega, ?_, ?_, ?_⟩
  · intro t ht
    obtain ⟨d, hd', rfl⟩ := List.mem_map.1 ht
    simp only
    have hdl := List.mem_range.1 hd'
    rw [List.getElem?_eq_getElem hdl]
    have := hi2 _ (List.getElem_mem hdl)
    simp only [Option.getD_some]
    have h6 : N1.1 ≤ 60 := by omega
    exact Nat.le_trans this (Nat.mul_le_mul_right _ (by omega))
  · intro t ht
    obtain ⟨d, hd', rfl⟩ := List.mem_map.1 ht
    have := (rwords_ok F.length S.1 hok.1 d (S.1.length + 1) 0).1
    simp only; omega
  · intro t ht
    obtain ⟨d, hd', rfl⟩ := List.mem_map.1 ht
    exact (rwords_ok F.length S.1 hok.1 d (S.1.length + 1) 0).2
end Go.Proofs.YtbkepgmgebmceaaGreatDoor.Pak

set_option linter.unusedVariables false
set_option maxRecDepth 4000
namespace Go.Proofs.YtbkepgmgebmceaaGreatDoor.Pak
open Go.RowKit Go.Proofs.YtbkepgmgebmceaaGreatDoor Go.Proofs.YtbkepgmgebmceaaGreatDoor.Spl SiftM

theorem low_sm (c : UInt8) (h : isSm c = true) : low c = c := by
  unfold low
  rw [if_neg]
  unfold isSm at h
  simp at h
  omega
theorem isW_sm (c : UInt8) (h : isSm c = true) : isW c = true := by unfold isW; rw [low_sm c h]; exact h
theorem word_parts (x : List UInt8) (h : isWord x = true) : 1 ≤ x.length ∧ x.length ≤ 8 ∧ ∀ c ∈ x, isSm c = true := by
  unfold isWord at h
  simp only [Bool.and_eq_true, decide_eq_true_eq, List.all_eq_true] at h
  exact ⟨h.1.1, h.1.2, h.2⟩
theorem wordL_self (x : List UInt8) (h : isWord x = true) : wordL x = x := by
  obtain ⟨h1, h2, h3⟩ := word_parts x h
  unfold wordL
  rw [List.take_of_length_le (by omega)]
  have : x.map low = x.map id := List.map_congr_left (fun c hc => low_sm c (h3 c hc))
  rw [this]; simp
theorem sp_tail : ∀ (r : List (List UInt8)) (f : Nat), (∀ x ∈ r, isWord x = true) → (r.map fun y => (32 : UInt8) :: y).flatten.length ≤ f → sp f ((r.map fun y => (32 : UInt8) :: y).flatten) = r
  | [], f, _, _ => by simp [sp_nil]
  | y :: r, f, h, hf => by
    obtain ⟨h1, h2, h3⟩ := word_parts y (h y (by simp))
    simp only [List.map_cons, List.flatten_cons, List.cons_append, List.length_cons, List.length_append] at hf ⊢
    obtain ⟨g, rfl⟩ : ∃ g, f = g + 1 := ⟨f - 1, by omega⟩
    rw [sp_sep g 32 _ (by decide)]
    have ih := sp_tail r g (fun x hx => h x (by simp [hx])) (by omega)
    rw [sp_run g y _ (fun c hc => isW_sm c (h3 c hc)) (by intro e; rw [e] at h1; simp at h1) ?_ (by omega), ih, wordL_self y (h y (by simp))]
    cases r with
    | nil => exact .inl (by simp)
    | cons z t => exact .inr ⟨32, z ++ (t.map fun y => (32 : UInt8) :: y).flatten, by simp, by decide⟩
/-- The words of words that are joined are the words. -/
theorem sp_joinW (ws : List (List UInt8)) (f : Nat) (h : ∀ x ∈ ws, isWord x = true) (hf : (joinW ws).length ≤ f) : sp f (joinW ws) = ws := by
  cases ws with
  | nil => simp [joinW, sp_nil]
  | cons x r =>
    obtain ⟨h1, h2, h3⟩ := word_parts x (h x (by simp))
    simp only [joinW, List.length_append] at hf ⊢
    have ih := sp_tail r f (fun x hx => h x (by simp [hx])) (by omega)
    rw [sp_run f x _ (fun c hc => isW_sm c (h3 c hc)) (by intro e; rw [e] at h1; simp at h1) ?_ (by omega), ih, wordL_self x (h x (by simp))]
    cases r with
    | nil => exact .inl (by simp)
    | cons z t => exact .inr ⟨32, z ++ (t.map fun y => (32 : UInt8) :: y).flatten, by simp, by decide⟩
theorem join_tail_len : ∀ r : List (List UInt8), ((r.map fun y => (32 : UInt8) :: y).flatten).length = r.length + sumL r
  | [] => by simp [sumL]
  | y :: r => by simp only [List.map_cons, List.flatten_cons, List.cons_append, List.length_cons, List.length_append, join_tail_len r, sumL]; omega
theorem joinW_lenF (ws : List (List UInt8)) : (joinW ws).length = lenF ws := by
  cases ws with
  | nil => simp [joinW, lenF, sumL]
  | cons x r => simp only [joinW, List.length_append, join_tail_len, lenF, sumL, List.length_cons]; omega
/-- The docs that are packed again. -/
def backN (T : List Tx) : List Nd := T.map fun t => (t.1, ⟨(joinW t.2).toArray⟩)
theorem backN_txs (T : List Tx) (h : ∀ t ∈ T, ∀ x ∈ t.2, isWord x = true) : txs (backN T) = T := by
  unfold txs backN
  rw [List.map_map]
  conv => rhs; rw [← List.map_id T]
  apply List.map_congr_left
  intro t ht
  simp only [Function.comp, id]
  have : wordsB ⟨(joinW t.2).toArray⟩ = t.2 := by
    unfold wordsB
    exact sp_joinW t.2 _ (h t ht) (by simp [ByteArray.size])
  rw [this]
end Go.Proofs.YtbkepgmgebmceaaGreatDoor.Pak

set_option linter.unusedVariables false
set_option maxRecDepth 4000
namespace Go.Proofs.YtbkepgmgebmceaaGreatDoor.Pak
open Go.RowKit Go.Proofs.YtbkepgmgebmceaaGreatDoor Go.Proofs.YtbkepgmgebmceaaGreatDoor.Spl SiftM

theorem pw_of_rs : ∀ (xs : List Nat) (least : Nat), Rs least xs → xs.Pairwise (· < ·)
  | [], _, _ => List.Pairwise.nil
  | x :: r, least, h => List.Pairwise.cons (fun y hy => by have := rs_ge r (x + 1) h.2 y hy; omega) (pw_of_rs r (x + 1) h.2)
theorem fine_sorted (T : List Tx) (hf : Fine T) : Sorted (backN T) := by
  have := pw_of_rs _ _ hf.rise
  rw [List.pairwise_map] at this
  unfold Sorted backN
  rw [List.pairwise_map]
  exact this
theorem back_len (T : List Tx) : (dcs (backN T)).length = T.length := by simp [dcs, backN]
theorem back_at (T : List Tx) (i : Nat) (h : i < (dcs (backN T)).length) (h' : i < T.length) : (dcs (backN T))[i].1 = (T[i].1 : Int) := by simp [dcs, backN]
theorem fine_ids (T : List Tx) (hf : Fine T) : IdsOk (dcs (backN T)) := by
  intro i h
  have h' : i < T.length := by rw [← back_len]; exact h
  rw [back_at T i h h']
  have h9 := hf.ids _ (List.getElem_mem h')
  refine ⟨by omega, by omega, ?_⟩
  intro k hk
  have hk' : k < T.length := by omega
  rw [back_at T k (by omega) hk']
  have hpw := fine_sorted T hf
  unfold Sorted backN at hpw
  rw [List.pairwise_map] at hpw
  have := List.pairwise_iff_getElem.1 hpw k i hk' h' hk
  simp only at this
  omega
theorem fine_size (T : List Tx) (hf : Fine T) : ∀ d ∈ dcs (backN T), d.2.size ≤ 120 := by
  intro d hd
  unfold dcs backN at hd
  rw [List.map_map] at hd
  obtain ⟨t, ht, rfl⟩ := List.mem_map.1 hd
  have := (hf.short t ht).1
  simp only [Function.comp, ByteArray.size, List.size_toArray, joinW_lenF]
  exact this
theorem sorted_some (N : List Nd) (h : IdsOk (dcs N)) : ∃ N' : List Nd, N'.Perm N ∧ Sorted N' := by
  let le : Nd → Nd → Bool := fun x y => decide (x.1 ≤ y.1)
  refine ⟨N.mergeSort le, List.mergeSort_perm N le, ?_⟩
  have hs : (N.mergeSort le).Pairwise fun x y => le x y = true := List.pairwise_mergeSort (by intro a b c h1 h2; simp [le] at *; omega) (by intro a b; simp [le]; omega) N
  have hne : N.Pairwise fun x y => x.1 ≠ y.1 := by
    rw [List.pairwise_iff_getElem]
    intro i j hi hj hij
    have := (h j (by simpa [dcs] using hj)).2.2 i hij
    simp [dcs] at this
    intro e
    exact this (by rw [e])
  have hne' : (N.mergeSort le).Pairwise fun x y => x.1 ≠ y.1 := (List.mergeSort_perm N le).symm.pairwise hne (fun h => Ne.symm h)
  unfold Sorted
  refine (hs.and hne').imp ?_
  rintro a b ⟨h1, h2⟩
  simp [le] at h1
  omega
/-- The order in which the docs are packed again. -/
theorem back_order (T : List Tx) : ∃ N' : List Nd, (Fine T → N' = backN T) ∧ (IdsOk (dcs (backN T)) → dcs (backN T) = dcs (backN T) ∧ N'.Perm (backN T) ∧ Sorted N') := by
  by_cases hf : Fine T
  · exact ⟨backN T, fun _ => rfl, fun _ => ⟨rfl, List.Perm.refl _, fine_sorted T hf⟩⟩
  · by_cases hi : IdsOk (dcs (backN T))
    · obtain ⟨N', h1, h2⟩ := sorted_some _ hi
      exact ⟨N', fun h => absurd h hf, fun _ => ⟨rfl, h1, h2⟩⟩
    · exact ⟨[], fun h => absurd h hf, fun h => absurd h hi⟩
/-- The document's Read takes just the files. -/
theorem read_iff (F : List UInt8) (T : List Tx) (N' : List Nd) (hg : rguess F = some T) (hch : Fine T → N' = backN T) (hs : Sorted N') (hp : N'.Perm (backN T)) (hid : IdsOk (dcs (backN T))) (hsz : ∀ d ∈ dcs (backN T), d.2.size ≤ 120) : fileT (txs N') = F ↔ Fine T ∧ F = fileT T := by
  constructor
  · intro e
    have hT := (guess_bnd F T hg).len
    have hf : Fine (txs N') := by
      refine fine_txs N' hs ?_ ?_ ?_
      · rw [hp.length_eq]; simpa [backN] using hT
      · intro x hx
        obtain ⟨i, hi, e⟩ := List.getElem_of_mem (hp.mem_iff.1 hx)
        have := (hid i (by simpa [dcs] using hi)).2.1
        simp only [dcs, List.getElem_map, e] at this
        omega
      · intro x hx
        exact hsz ((x.1 : Int), x.2) (List.mem_map.2 ⟨x, hp.mem_iff.1 hx, rfl⟩)
    have h1 := guess_file _ hf
    rw [e, hg] at h1
    simp at h1
    rw [h1]
    exact ⟨hf, e.symm⟩
  · rintro ⟨hf, e⟩
    rw [hch hf, backN_txs T hf.word]
    exact e.symm
theorem read_only (F : List UInt8) (T T' : List Tx) (hg : rguess F = some T) (hf : Fine T') (e : F = fileT T') : T = T' := by
  have := guess_file T' hf
  rw [← e, hg] at this
  simpa using this
end Go.Proofs.YtbkepgmgebmceaaGreatDoor.Pak
