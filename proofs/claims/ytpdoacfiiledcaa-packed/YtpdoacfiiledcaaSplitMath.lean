namespace Go.Proofs.Ytpdoacfiiledcaa.SiftM

def isSm (c : UInt8) : Bool := (decide (97 ≤ c.toNat) && decide (c.toNat ≤ 122)) || (decide (48 ≤ c.toNat) && decide (c.toNat ≤ 57))
def low (c : UInt8) : UInt8 := if 65 ≤ c.toNat ∧ c.toNat ≤ 90 then UInt8.ofNat (c.toNat + 32) else c
def isW (c : UInt8) : Bool := isSm (low c)
def wordL (r : List UInt8) : List UInt8 := (r.take 8).map low

/-- The words of what is left, with fuel. -/
def sp : Nat → List UInt8 → List (List UInt8)
  | 0, _ => []
  | f + 1, l => if l.length = 0 then [] else
      (if (l.takeWhile isW).length = 0 then [] else [wordL (l.takeWhile isW)]) ++ sp f (l.drop ((l.takeWhile isW).length + 1))

theorem sp_nil (f : Nat) : sp f [] = [] := by
  cases f <;> simp [sp]

theorem sp_fuel : ∀ (f g : Nat) (l : List UInt8), l.length ≤ f → l.length ≤ g → sp f l = sp g l
  | 0, g, l, hf, _ => by
    have : l = [] := List.length_eq_zero_iff.1 (by omega)
    subst this; rw [sp_nil, sp_nil]
  | f + 1, 0, l, _, hg => by
    have : l = [] := List.length_eq_zero_iff.1 (by omega)
    subst this; rw [sp_nil, sp_nil]
  | f + 1, g + 1, l, hf, hg => by
    unfold sp
    by_cases h : l.length = 0
    · rw [if_pos h, if_pos h]
    · rw [if_neg h, if_neg h]
      have hl : (l.drop ((l.takeWhile isW).length + 1)).length ≤ l.length - 1 := by simp; omega
      rw [sp_fuel f g _ (by omega) (by omega)]

theorem sp_sep (f : Nat) (c : UInt8) (l : List UInt8) (hc : isW c = false) : sp (f + 1) (c :: l) = sp f l := by
  conv => lhs; unfold sp
  rw [if_neg (by simp)]
  simp [hc]

theorem takeWhile_all (r l : List UInt8) (hr : ∀ c ∈ r, isW c = true) (hl : l = [] ∨ ∃ c t, l = c :: t ∧ isW c = false) : (r ++ l).takeWhile isW = r := by
  induction r with
  | nil =>
    rcases hl with rfl | ⟨c, t, rfl, hc⟩
    · rfl
    · simp [hc]
  | cons a r ih =>
    have ha := hr a (by simp)
    simp [ha, ih (fun c hc => hr c (by simp [hc]))]

theorem sp_run (f : Nat) (r l : List UInt8) (hr : ∀ c ∈ r, isW c = true) (hr0 : r ≠ []) (hl : l = [] ∨ ∃ c t, l = c :: t ∧ isW c = false) (hf : r.length + l.length ≤ f) :
    sp f (r ++ l) = wordL r :: sp f l := by
  have hlen : 0 < r.length := List.length_pos_iff.2 hr0
  cases f with
  | zero => omega
  | succ f =>
    conv => lhs; unfold sp
    rw [if_neg (by rw [List.length_append]; omega), takeWhile_all r l hr hl, if_neg (by omega)]
    rcases hl with rfl | ⟨c, t, rfl, hc⟩
    · rw [List.append_nil, List.drop_of_length_le (by omega), sp_nil, sp_nil]; rfl
    · rw [show (r ++ c :: t).drop (r.length + 1) = t by rw [List.drop_append]; simp]
      rw [sp_sep f c t hc]; rfl

/-- A text made of pieces: bytes between words, then the bytes of a word. -/
def joinP (ps : List (List UInt8 × List UInt8)) : List UInt8 := (ps.map fun p => p.1 ++ p.2).flatten
def okP (p : List UInt8 × List UInt8) : Prop := p.1 ≠ [] ∧ (∀ c ∈ p.1, isW c = false) ∧ p.2 ≠ [] ∧ (∀ c ∈ p.2, isW c = true)

theorem sp_seps (s l : List UInt8) (hs : ∀ c ∈ s, isW c = false) : ∀ f, s.length + l.length ≤ f → sp f (s ++ l) = sp f l := by
  induction s with
  | nil => intro f _; rfl
  | cons c s ih =>
    intro f hf
    simp at hf
    cases f with
    | zero => omega
    | succ f =>
      rw [List.cons_append, sp_sep f c _ (hs c (by simp)), ih (fun d hd => hs d (by simp [hd])) f (by omega)]
      exact sp_fuel _ _ _ (by omega) (by omega)

theorem sp_join (ps : List (List UInt8 × List UInt8)) (h : ∀ p ∈ ps, okP p) : ∀ f, (joinP ps).length ≤ f → sp f (joinP ps) = ps.map fun p => wordL p.2 := by
  induction ps with
  | nil => intro f _; exact sp_nil f
  | cons p ps ih =>
    intro f hf
    have hp := h p (by simp)
    have e : joinP (p :: ps) = p.1 ++ (p.2 ++ joinP ps) := by simp [joinP]
    rw [e] at hf ⊢
    simp at hf
    rw [sp_seps _ _ hp.2.1 f (by simp; omega)]
    have hh : joinP ps = [] ∨ ∃ c t, joinP ps = c :: t ∧ isW c = false := by
      cases ps with
      | nil => left; rfl
      | cons q qs =>
        right
        have hq := h q (by simp)
        obtain ⟨q1, q2⟩ := q
        cases q1 with
        | nil => exact absurd rfl hq.1
        | cons c t => exact ⟨c, t ++ (q2 ++ joinP qs), by simp [joinP], hq.2.1 c (by simp)⟩
    rw [sp_run f _ _ hp.2.2.2 hp.2.2.1 hh (by omega), ih (fun q hq => h q (by simp [hq])) f (by omega)]
    rfl

def vocL : List (List UInt8) := [[97], [98], [97, 98], [97, 98, 99], [99, 97, 98], [120, 49], [114, 101, 100], [114, 101, 100, 100, 105, 115, 104], [114], [102, 111, 120]]
def betL : List (List UInt8) := [[32], [44, 32], [45], [0, 255], [32, 32], [95]]
def tail8 : List UInt8 := [48, 49, 50, 51, 52, 53, 54, 55]
def shB (c : UInt8) (m : Nat) : UInt8 := if 97 ≤ c.toNat ∧ c.toNat ≤ 122 ∧ m % 3 = 0 then UInt8.ofNat (c.toNat - 32) else c
def shownL (how : Nat) : Nat → List UInt8 → List UInt8
  | _, [] => []
  | i, c :: t => shB c (how + i) :: shownL how (i + 1) t
def pickN (c : Int) : Nat := ((if c < 0 then -(c + 1) else c) % 1099511627776).toNat
def ext (len n : Nat) (s r : List UInt8) : Bool := decide (n / 10 / 18 % 9 = 8) && decide (len + s.length + r.length < 60)
def wOf (n : Nat) : List UInt8 := vocL.getD (n % 10) []
def sOf (n : Nat) : List UInt8 := betL.getD (n / 10 % 6) []
def rOf (n : Nat) : List UInt8 := shownL (n / 10 / 6) 0 (wOf n)
def itemP (len n : Nat) : List UInt8 × List UInt8 := if ext len n (sOf n) (rOf n) then (sOf n, rOf n ++ tail8) else (sOf n, rOf n)
def itemW (len n : Nat) : List UInt8 := if ext len n (sOf n) (rOf n) then (wOf n ++ tail8).take 8 else wOf n
def madeP (code : List Int) : Nat → List (List UInt8 × List UInt8)
  | 0 => []
  | k + 1 => madeP code k ++ [itemP (joinP (madeP code k)).length (pickN (code.getD k 0))]
def madeW (code : List Int) : Nat → List (List UInt8)
  | 0 => []
  | k + 1 => madeW code k ++ [itemW (joinP (madeP code k)).length (pickN (code.getD k 0))]

theorem voc_all (w : List UInt8) (h : w ∈ vocL) : w ≠ [] ∧ w.length ≤ 7 ∧ ∀ c ∈ w, isSm c = true := by
  revert w; decide
theorem bet_all (s : List UInt8) (h : s ∈ betL) : s ≠ [] ∧ s.length ≤ 2 ∧ ∀ c ∈ s, isW c = false := by
  revert s; decide
theorem getD_mem {α : Type} (l : List α) (k : Nat) (d : α) (h : k < l.length) : l.getD k d ∈ l := by
  rw [List.getD_eq_getElem?_getD, List.getElem?_eq_getElem h]; exact List.getElem_mem h
theorem wOf_all (n : Nat) : wOf n ≠ [] ∧ (wOf n).length ≤ 7 ∧ ∀ c ∈ wOf n, isSm c = true :=
  voc_all _ (getD_mem _ _ _ (by have : vocL.length = 10 := rfl; omega))
theorem sOf_all (n : Nat) : sOf n ≠ [] ∧ (sOf n).length ≤ 2 ∧ ∀ c ∈ sOf n, isW c = false :=
  bet_all _ (getD_mem _ _ _ (by have : betL.length = 6 := rfl; omega))

theorem isSm_iff (c : UInt8) : isSm c = true ↔ (97 ≤ c.toNat ∧ c.toNat ≤ 122) ∨ (48 ≤ c.toNat ∧ c.toNat ≤ 57) := by simp [isSm]
theorem low_shB (c : UInt8) (m : Nat) (h : isSm c = true) : low (shB c m) = c := by
  rw [isSm_iff] at h
  unfold shB
  split
  · rename_i hc
    have e : (UInt8.ofNat (c.toNat - 32)).toNat = c.toNat - 32 := by rw [UInt8.toNat_ofNat']; omega
    unfold low
    rw [if_pos (by rw [e]; omega)]
    rw [e, show c.toNat - 32 + 32 = c.toNat by omega, UInt8.ofNat_toNat]
  · unfold low; rw [if_neg (by omega)]
theorem low_shown (how : Nat) : ∀ (w : List UInt8) (i : Nat), (∀ c ∈ w, isSm c = true) → (shownL how i w).map low = w
  | [], _, _ => rfl
  | c :: t, i, h => by
    simp only [shownL, List.map_cons]
    rw [low_shB c _ (h c (by simp)), low_shown how t (i + 1) (fun d hd => h d (by simp [hd]))]
theorem isW_shown (how : Nat) : ∀ (w : List UInt8) (i : Nat), (∀ c ∈ w, isSm c = true) → ∀ d ∈ shownL how i w, isW d = true
  | [], _, _, d, hd => by simp [shownL] at hd
  | c :: t, i, h, d, hd => by
    simp only [shownL, List.mem_cons] at hd
    rcases hd with rfl | hd
    · unfold isW; rw [low_shB c _ (h c (by simp))]; exact h c (by simp)
    · exact isW_shown how t (i + 1) (fun d hd => h d (by simp [hd])) d hd
theorem len_shown (how : Nat) : ∀ (w : List UInt8) (i : Nat), (shownL how i w).length = w.length
  | [], _ => rfl
  | c :: t, i => by simp [shownL, len_shown how t (i + 1)]
theorem shownL_append (how : Nat) : ∀ (a b : List UInt8) (i : Nat), shownL how i (a ++ b) = shownL how i a ++ shownL how (i + a.length) b
  | [], _, _ => rfl
  | c :: t, b, i => by simp only [List.cons_append, shownL, shownL_append how t b (i + 1), List.length_cons]; rw [show i + 1 + t.length = i + (t.length + 1) by omega]
theorem low_tail : tail8.map low = tail8 := by decide
theorem isW_tail : ∀ c ∈ tail8, isW c = true := by decide

theorem item_ok (len n : Nat) : okP (itemP len n) := by
  have hw := wOf_all n
  have hs := sOf_all n
  have hr : ∀ d ∈ rOf n, isW d = true := isW_shown _ _ _ hw.2.2
  have h0 : rOf n ≠ [] := by
    intro h
    have := len_shown (n / 10 / 6) (wOf n) 0
    unfold rOf at h; rw [h] at this
    exact hw.1 (List.length_eq_zero_iff.1 this.symm)
  unfold itemP
  split
  · refine ⟨hs.1, hs.2.2, by simp [h0], ?_⟩
    intro c hc
    rcases List.mem_append.1 hc with hc | hc
    · exact hr c hc
    · exact isW_tail c hc
  · exact ⟨hs.1, hs.2.2, h0, hr⟩
theorem item_word (len n : Nat) : wordL (itemP len n).2 = itemW len n := by
  have hw := wOf_all n
  have hm : (rOf n).map low = wOf n := low_shown _ _ _ hw.2.2
  have hl : (rOf n).length = (wOf n).length := len_shown _ _ _
  unfold itemP itemW wordL
  split
  · rw [List.map_take, List.map_append, hm, low_tail]
  · rw [List.take_of_length_le (by show (rOf n).length ≤ 8; omega)]; exact hm
theorem made_ok (code : List Int) : ∀ (k : Nat), ∀ p ∈ madeP code k, okP p
  | 0, p, hp => by simp [madeP] at hp
  | k + 1, p, hp => by
    simp only [madeP, List.mem_append, List.mem_singleton] at hp
    rcases hp with hp | rfl
    · exact made_ok code k p hp
    · exact item_ok _ _
theorem made_words (code : List Int) : ∀ (k : Nat), (madeP code k).map (fun p => wordL p.2) = madeW code k
  | 0 => rfl
  | k + 1 => by simp only [madeP, madeW, List.map_append, List.map_cons, List.map_nil, made_words code k, item_word]
theorem join_snoc (ps : List (List UInt8 × List UInt8)) (p : List UInt8 × List UInt8) : joinP (ps ++ [p]) = joinP ps ++ (p.1 ++ p.2) := by simp [joinP]
theorem item_len (len n : Nat) : len + (itemP len n).1.length + (itemP len n).2.length ≤ len + 9 ∨ len + (itemP len n).1.length + (itemP len n).2.length ≤ 67 := by
  have hw := wOf_all n
  have hs := sOf_all n
  have hl : (rOf n).length = (wOf n).length := len_shown _ _ _
  unfold itemP
  split
  · rename_i h
    right
    have h2 : len + (sOf n).length + (rOf n).length < 60 := by unfold ext at h; simp at h; exact h.2
    have ht : tail8.length = 8 := rfl
    simp only [List.length_append, ht]; omega
  · left; show len + (sOf n).length + (rOf n).length ≤ _; omega
theorem item_len17 (len n : Nat) : len + (itemP len n).1.length + (itemP len n).2.length ≤ len + 17 := by
  have hw := wOf_all n
  have hs := sOf_all n
  have hl : (rOf n).length = (wOf n).length := len_shown _ _ _
  have ht : tail8.length = 8 := rfl
  unfold itemP
  split
  · simp only [List.length_append, ht]; omega
  · show len + (sOf n).length + (rOf n).length ≤ _; omega
theorem made_len (code : List Int) : ∀ (k : Nat), (joinP (madeP code k)).length ≤ 17 * k ∧ (4 ≤ k → (joinP (madeP code k)).length ≤ 32 + 9 * k)
  | 0 => by simp [madeP, joinP]
  | k + 1 => by
    have ih := made_len code k
    have a := item_len (joinP (madeP code k)).length (pickN (code.getD k 0))
    have b := item_len17 (joinP (madeP code k)).length (pickN (code.getD k 0))
    simp only [madeP, join_snoc, List.length_append]
    refine ⟨by omega, fun h4 => ?_⟩
    by_cases h : 4 ≤ k
    · have := ih.2 h; omega
    · omega
theorem made_le (code : List Int) (k : Nat) (hk : k ≤ 8) : (joinP (madeP code k)).length ≤ 104 := by
  have h := made_len code k
  by_cases h4 : 4 ≤ k
  · have := h.2 h4; omega
  · omega
/-- The words of a text are those of which it was made. -/
theorem made_split (code : List Int) (k f : Nat) (hf : (joinP (madeP code k)).length ≤ f) : sp f (joinP (madeP code k)) = madeW code k := by
  rw [sp_join _ (made_ok code k) f hf, made_words]
end Go.Proofs.Ytpdoacfiiledcaa.SiftM
