import Derived.Test.YtpdoacfiiledcaaGreatDoorProg
import Derived.WalkKit
import Derived.WalkSpells
import Derived.WalkLawsBesides
import Derived.BigQuiet
import Derived.Deep.QuietTactic
import Derived.Lib.SlBytesRow
import Derived.Lib.ConvBytes
import Derived.Laws.BitsAllLaws

namespace Go.Proofs.YtpdoacfiiledcaaGreatDoor.SiftM

def isSm (c : UInt8) : Bool := (decide (97 ≤ c.toNat) && decide (c.toNat ≤ 122)) || (decide (48 ≤ c.toNat) && decide (c.toNat ≤ 57))
def low (c : UInt8) : UInt8 := if 65 ≤ c.toNat ∧ c.toNat ≤ 90 then UInt8.ofNat (c.toNat + 32) else c
def isW (c : UInt8) : Bool := isSm (low c)
def wordL (r : List UInt8) : List UInt8 := (r.take 8).map low

/-- The words of what is left, with fuel. -/
def sp : Nat → List UInt8 → List (List UInt8)
  | 0, _ => []
  | f + 1, l => if l.length = 0 then [] else
      (if (l.takeWhile isW).length = 0 then [] else [wordL (l.takeWhile isW)]) ++ sp f (l.drop ((l.takeWhile isW).length + 1))

theorem sp_nil (f : Nat) : sp f [] = [] := by
  cases f <;> simp [sp]

theorem sp_fuel : ∀ (f g : Nat) (l : List UInt8), l.length ≤ f → l.length ≤ g → sp f l = sp g l
  | 0, g, l, hf, _ => by
    have : l = [] := List.length_eq_zero_iff.1 (by omega)
    subst this; rw [sp_nil, sp_nil]
  | f + 1, 0, l, _, hg => by
    have : l = [] := List.length_eq_zero_iff.1 (by omega)
    subst this; rw [sp_nil, sp_nil]
  | f + 1, g + 1, l, hf, hg => by
    unfold sp
    by_cases h : l.length = 0
    · rw [if_pos h, if_pos h]
    · rw [if_neg h, if_neg h]
      have hl : (l.drop ((l.takeWhile isW).length + 1)).length ≤ l.length - 1 := by simp; omega
      rw [sp_fuel f g _ (by omega) (by omega)]

theorem sp_sep (f : Nat) (c : UInt8) (l : List UInt8) (hc : isW c = false) : sp (f + 1) (c :: l) = sp f l := by
  conv => lhs; unfold sp
  rw [if_neg (by simp)]
  simp [hc]

theorem takeWhile_all (r l : List UInt8) (hr : ∀ c ∈ r, isW c = true) (hl : l = [] ∨ ∃ c t, l = c :: t ∧ isW c = false) : (r ++ l).takeWhile isW = r := by
  induction r with
  | nil =>
    rcases hl with rfl | ⟨c, t, rfl, hc⟩
    · rfl
    · simp [hc]
  | cons a r ih =>
    have ha := hr a (by simp)
    simp [ha, ih (fun c hc => hr c (by simp [hc]))]

theorem sp_run (f : Nat) (r l : List UInt8) (hr : ∀ c ∈ r, isW c = true) (hr0 : r ≠ []) (hl : l = [] ∨ ∃ c t, l = c :: t ∧ isW c = false) (hf : r.length + l.length ≤ f) :
    sp f (r ++ l) = wordL r :: sp f l := by
  have hlen : 0 < r.length := List.length_pos_iff.2 hr0
  cases f with
  | zero => omega
  | succ f =>
    conv => lhs; unfold sp
    rw [if_neg (by rw [List.length_append]; omega), takeWhile_all r l hr hl, if_neg (by omega)]
    rcases hl with rfl | ⟨c, t, rfl, hc⟩
    · rw [List.append_nil, List.drop_of_length_le (by omega), sp_nil, sp_nil]; rfl
    · rw [show (r ++ c :: t).drop (r.length + 1) = t by rw [List.drop_append]; simp]
      rw [sp_sep f c t hc]; rfl

/-- A text made of pieces: bytes between words, then the bytes of a word. -/
def joinP (ps : List (List UInt8 × List UInt8)) : List UInt8 := (ps.map fun p => p.1 ++ p.2).flatten
def okP (p : List UInt8 × List UInt8) : Prop := p.1 ≠ [] ∧ (∀ c ∈ p.1, isW c = false) ∧ p.2 ≠ [] ∧ (∀ c ∈ p.2, isW c = true)

theorem sp_seps (s l : List UInt8) (hs : ∀ c ∈ s, isW c = false) : ∀ f, s.length + l.length ≤ f → sp f (s ++ l) = sp f l := by
  induction s with
  | nil => intro f _; rfl
  | cons c s ih =>
    intro f hf
    simp at hf
    cases f with
    | zero => omega
    | succ f =>
      rw [List.cons_append, sp_sep f c _ (hs c (by simp)), ih (fun d hd => hs d (by simp [hd])) f (by omega)]
      exact sp_fuel _ _ _ (by omega) (by omega)

theorem sp_join (ps : List (List UInt8 × List UInt8)) (h : ∀ p ∈ ps, okP p) : ∀ f, (joinP ps).length ≤ f → sp f (joinP ps) = ps.map fun p => wordL p.2 := by
  induction ps with
  | nil => intro f _; exact sp_nil f
  | cons p ps ih =>
    intro f hf
    have hp := h p (by simp)
    have e : joinP (p :: ps) = p.1 ++ (p.2 ++ joinP ps) := by simp [joinP]
    rw [e] at hf ⊢
    simp at hf
    rw [sp_seps _ _ hp.2.1 f (by simp; omega)]
    have hh : joinP ps = [] ∨ ∃ c t, joinP ps = c :: t ∧ isW c = false := by
      cases ps with
      | nil => left; rfl
      | cons q qs =>
        right
        have hq := h q (by simp)
        obtain ⟨q1, q2⟩ := q
        cases q1 with
        | nil => exact absurd rfl hq.1
        | cons c t => exact ⟨c, t ++ (q2 ++ joinP qs), by simp [joinP], hq.2.1 c (by simp)⟩
    rw [sp_run f _ _ hp.2.2.2 hp.2.2.1 hh (by omega), ih (fun q hq => h q (by simp [hq])) f (by omega)]
    rfl

def vocL : List (List UInt8) := [[97], [98], [97, 98], [97, 98, 99], [99, 97, 98], [120, 49], [114, 101, 100], [114, 101, 100, 100, 105, 115, 104], [114], [102, 111, 120]]
def betL : List (List UInt8) := [[32], [44, 32], [45], [0, 255], [32, 32], [95]]
def tail8 : List UInt8 := [48, 49, 50, 51, 52, 53, 54, 55]
def shB (c : UInt8) (m : Nat) : UInt8 := if 97 ≤ c.toNat ∧ c.toNat ≤ 122 ∧ m % 3 = 0 then UInt8.ofNat (c.toNat - 32) else c
def shownL (how : Nat) : Nat → List UInt8 → List UInt8
  | _, [] => []
  | i, c :: t => shB c (how + i) :: shownL how (i + 1) t
def pickN (c : Int) : Nat := ((if c < 0 then -(c + 1) else c) % 1099511627776).toNat
def ext (len n : Nat) (s r : List UInt8) : Bool := decide (n / 10 / 18 % 9 = 8) && decide (len + s.length + r.length < 60)
def wOf (n : Nat) : List UInt8 := vocL.getD (n % 10) []
def sOf (n : Nat) : List UInt8 := betL.getD (n / 10 % 6) []
def rOf (n : Nat) : List UInt8 := shownL (n / 10 / 6) 0 (wOf n)
def itemP (len n : Nat) : List UInt8 × List UInt8 := if ext len n (sOf n) (rOf n) then (sOf n, rOf n ++ tail8) else (sOf n, rOf n)
def itemW (len n : Nat) : List UInt8 := if ext len n (sOf n) (rOf n) then (wOf n ++ tail8).take 8 else wOf n
def madeP (code : List Int) : Nat → List (List UInt8 × List UInt8)
  | 0 => []
  | k + 1 => madeP code k ++ [itemP (joinP (madeP code k)).length (pickN (code.getD k 0))]
def madeW (code : List Int) : Nat → List (List UInt8)
  | 0 => []
  | k + 1 => madeW code k ++ [itemW (joinP (madeP code k)).length (pickN (code.getD k 0))]

theorem voc_all (w : List UInt8) (h : w ∈ vocL) : w ≠ [] ∧ w.length ≤ 7 ∧ ∀ c ∈ w, isSm c = true := by
  revert w; decide
theorem bet_all (s : List UInt8) (h : s ∈ betL) : s ≠ [] ∧ s.length ≤ 2 ∧ ∀ c ∈ s, isW c = false := by
  revert s; decide
theorem getD_mem {α : Type} (l : List α) (k : Nat) (d : α) (h : k < l.length) : l.getD k d ∈ l := by
  rw [List.getD_eq_getElem?_getD, List.getElem?_eq_getElem h]; exact List.getElem_mem h
theorem wOf_all (n : Nat) : wOf n ≠ [] ∧ (wOf n).length ≤ 7 ∧ ∀ c ∈ wOf n, isSm c = true :=
  voc_all _ (getD_mem _ _ _ (by have : vocL.length = 10 := rfl; omega))
theorem sOf_all (n : Nat) : sOf n ≠ [] ∧ (sOf n).length ≤ 2 ∧ ∀ c ∈ sOf n, isW c = false :=
  bet_all _ (getD_mem _ _ _ (by have : betL.length = 6 := rfl; omega))

theorem isSm_iff (c : UInt8) : isSm c = true ↔ (97 ≤ c.toNat ∧ c.toNat ≤ 122) ∨ (48 ≤ c.toNat ∧ c.toNat ≤ 57) := by simp [isSm]
theorem low_shB (c : UInt8) (m : Nat) (h : isSm c = true) : low (shB c m) = c := by
  rw [isSm_iff] at h
  unfold shB
  split
  · rename_i hc
    have e : (UInt8.ofNat (c.toNat - 32)).toNat = c.toNat - 32 := by rw [UInt8.toNat_ofNat']; omega
    unfold low
    rw [if_pos (by rw [e]; omega)]
    rw [e, show c.toNat - 32 + 32 = c.toNat by omega, UInt8.ofNat_toNat]
  · unfold low; rw [if_neg (by omega)]
theorem low_shown (how : Nat) : ∀ (w : List UInt8) (i : Nat), (∀ c ∈ w, isSm c = true) → (shownL how i w).map low = w
  | [], _, _ => rfl
  | c :: t, i, h => by
    simp only [shownL, List.map_cons]
    rw [low_shB c _ (h c (by simp)), low_shown how t (i + 1) (fun d hd => h d (by simp [hd]))]
theorem isW_shown (how : Nat) : ∀ (w : List UInt8) (i : Nat), (∀ c ∈ w, isSm c = true) → ∀ d ∈ shownL how i w, isW d = true
  | [], _, _, d, hd => by simp [shownL] at hd
  | c :: t, i, h, d, hd => by
    simp only [shownL, List.mem_cons] at hd
    rcases hd with rfl | hd
    · unfold isW; rw [low_shB c _ (h c (by simp))]; exact h c (by simp)
    · exact isW_shown how t (i + 1) (fun d hd => h d (by simp [hd])) d hd
theorem len_shown (how : Nat) : ∀ (w : List UInt8) (i : Nat), (shownL how i w).length = w.length
  | [], _ => rfl
  | c :: t, i => by simp [shownL, len_shown how t (i + 1)]
theorem shownL_append (how : Nat) : ∀ (a b : List UInt8) (i : Nat), shownL how i (a ++ b) = shownL how i a ++ shownL how (i + a.length) b
  | [], _, _ => rfl
  | c :: t, b, i => by simp only [List.cons_append, shownL, shownL_append how t b (i + 1), List.length_cons]; rw [show i + 1 + t.length = i + (t.length + 1) by omega]
theorem low_tail : tail8.map low = tail8 := by decide
theorem isW_tail : ∀ c ∈ tail8, isW c = true := by decide

theorem item_ok (len n : Nat) : okP (itemP len n) := by
  have hw := wOf_all n
  have hs := sOf_all n
  have hr : ∀ d ∈ rOf n, isW d = true := isW_shown _ _ _ hw.2.2
  have h0 : rOf n ≠ [] := by
    intro h
    have := len_shown (n / 10 / 6) (wOf n) 0
    unfold rOf at h; rw [h] at this
    exact hw.1 (List.length_eq_zero_iff.1 this.symm)
  unfold itemP
  split
  · refine ⟨hs.1, hs.2.2, by simp [h0], ?_⟩
    intro c hc
    rcases List.mem_append.1 hc with hc | hc
    · exact hr c hc
    · exact isW_tail c hc
  · exact ⟨hs.1, hs.2.2, h0, hr⟩
theorem item_word (len n : Nat) : wordL (itemP len n).2 = itemW len n := by
  have hw := wOf_all n
  have hm : (rOf n).map low = wOf n := low_shown _ _ _ hw.2.2
  have hl : (rOf n).length = (wOf n).length := len_shown _ _ _
  unfold itemP itemW wordL
  split
  · rw [List.map_take, List.map_append, hm, low_tail]
  · rw [List.take_of_length_le (by show (rOf n).length ≤ 8; omega)]; exact hm
theorem made_ok (code : List Int) : ∀ (k : Nat), ∀ p ∈ madeP code k, okP p
  | 0, p, hp => by simp [madeP] at hp
  | k + 1, p, hp => by
    simp only [madeP, List.mem_append, List.mem_singleton] at hp
    rcases hp with hp | rfl
    · exact made_ok code k p hp
    · exact item_ok _ _
theorem made_words (code : List Int) : ∀ (k : Nat), (madeP code k).map (fun p => wordL p.2) = madeW code k
  | 0 => rfl
  | k + 1 => by simp only [madeP, madeW, List.map_append, List.map_cons, List.map_nil, made_words code k, item_word]
theorem join_snoc (ps : List (List UInt8 × List UInt8)) (p : List UInt8 × List UInt8) : joinP (ps ++ [p]) = joinP ps ++ (p.1 ++ p.2) := by simp [joinP]
theorem item_len (len n : Nat) : len + (itemP len n).1.length + (itemP len n).2.length ≤ len + 9 ∨ len + (itemP len n).1.length + (itemP len n).2.length ≤ 67 := by
  have hw := wOf_all n
  have hs := sOf_all n
  have hl : (rOf n).length = (wOf n).length := len_shown _ _ _
  unfold itemP
  split
  · rename_i h
    right
    have h2 : len + (sOf n).length + (rOf n).length < 60 := by unfold ext at h; simp at h; exact h.2
    have ht : tail8.length = 8 := rfl
    simp only [List.length_append, ht]; omega
  · left; show len + (sOf n).length + (rOf n).length ≤ _; omega
theorem item_len17 (len n : Nat) : len + (itemP len n).1.length + (itemP len n).2.length ≤ len + 17 := by
  have hw := wOf_all n
  have hs := sOf_all n
  have hl : (rOf n).length = (wOf n).length := len_shown _ _ _
  have ht : tail8.length = 8 := rfl
  unfold itemP
  split
  · simp only [List.length_append, ht]; omega
  · show len + (sOf n).length + (rOf n).length ≤ _; omega
theorem made_len (code : List Int) : ∀ (k : Nat), (joinP (madeP code k)).length ≤ 17 * k ∧ (4 ≤ k → (joinP (madeP code k)).length ≤ 32 + 9 * k)
  | 0 => by simp [madeP, joinP]
  | k + 1 => by
    have ih := made_len code k
    have a := item_len (joinP (madeP code k)).length (pickN (code.getD k 0))
    have b := item_len17 (joinP (madeP code k)).length (pickN (code.getD k 0))
    simp only [madeP, join_snoc, List.length_append]
    refine ⟨by omega, fun h4 => ?_⟩
    by_cases h : 4 ≤ k
    · have := ih.2 h; omega
    · omega
theorem made_le (code : List Int) (k : Nat) (hk : k ≤ 8) : (joinP (madeP code k)).length ≤ 104 := by
  have h := made_len code k
  by_cases h4 : 4 ≤ k
  · have := h.2 h4; omega
  · omega
/-- The words of a text are those of which it was made. -/
theorem made_split (code : List Int) (k f : Nat) (hf : (joinP (madeP code k)).length ≤ f) : sp f (joinP (madeP code k)) = madeW code k := by
  rw [sp_join _ (made_ok code k) f hf, made_words]
theorem isW_low (c : UInt8) (h : isW c = true) : isSm (low c) = true := h
/-- The byte of a word for a letter or digit, or 0. -/
def smR (c : UInt8) : UInt8 := if isW c = true then low c else 0
def stepR (p : List (List UInt8) × Nat) (c : UInt8) : List (List UInt8) × Nat :=
  if isW c = false then (p.1, 0)
  else if p.2 = 0 then (p.1 ++ [[low c]], 1)
  else (if p.2 < 8 then p.1.dropLast ++ [p.1.getLastD [] ++ [low c]] else p.1, p.2 + 1)
theorem run_fold : ∀ (r : List UInt8) (acc : List (List UInt8)) (w0 : List UInt8) (m : Nat), (∀ c ∈ r, isW c = true) → 1 ≤ m →
    r.foldl stepR (acc ++ [w0], m) = (acc ++ [w0 ++ (r.take (8 - m)).map low], m + r.length)
  | [], acc, w0, m, _, _ => by simp
  | c :: t, acc, w0, m, h, hm => by
    have hc := h c (by simp)
    have ht : ∀ d ∈ t, isW d = true := fun d hd => h d (by simp [hd])
    rw [List.foldl_cons]
    by_cases h8 : m < 8
    · have e : stepR (acc ++ [w0], m) c = (acc ++ [w0 ++ [low c]], m + 1) := by
        unfold stepR
        rw [if_neg (by simp [hc]), if_neg (by show ¬ m = 0; omega)]
        simp [h8]
      rw [e, run_fold t acc (w0 ++ [low c]) (m + 1) ht (by omega)]
      obtain ⟨j, hj⟩ : ∃ j, 8 - m = j + 1 := ⟨7 - m, by omega⟩
      rw [hj, show 8 - (m + 1) = j by omega]
      simp; omega
    · have e : stepR (acc ++ [w0], m) c = (acc ++ [w0], m + 1) := by
        unfold stepR
        rw [if_neg (by simp [hc]), if_neg (by show ¬ m = 0; omega)]
        simp [h8]
      rw [e, run_fold t acc w0 (m + 1) ht (by omega)]
      rw [show 8 - m = 0 by omega, show 8 - (m + 1) = 0 by omega]
      simp; omega
theorem word_fold (r : List UInt8) (acc : List (List UInt8)) (h : ∀ c ∈ r, isW c = true) (h0 : r ≠ []) : r.foldl stepR (acc, 0) = (acc ++ [wordL r], r.length) := by
  cases r with
  | nil => exact absurd rfl h0
  | cons c t =>
    have hc := h c (by simp)
    rw [List.foldl_cons]
    have e : stepR (acc, 0) c = (acc ++ [[low c]], 1) := by
      unfold stepR
      rw [if_neg (by simp [hc]), if_pos rfl]
    rw [e, run_fold t acc [low c] 1 (fun d hd => h d (by simp [hd])) (by omega)]
    unfold wordL
    simp; omega
theorem fold_sp : ∀ (f : Nat) (l : List UInt8) (acc : List (List UInt8)), l.length ≤ f → (l.foldl stepR (acc, 0)).1 = acc ++ sp f l
  | 0, l, acc, h => by
    have : l = [] := List.length_eq_zero_iff.1 (by omega)
    subst this; rw [sp_nil]; simp
  | f + 1, l, acc, h => by
    by_cases h0 : l.length = 0
    · have : l = [] := List.length_eq_zero_iff.1 h0
      subst this; rw [sp_nil]; simp
    · unfold sp
      rw [if_neg h0]
      have hr : ∀ c ∈ l.takeWhile isW, isW c = true := fun c hc => List.all_eq_true.1 (List.all_takeWhile (p := isW) (l := l)) c hc
      have hl : l = l.takeWhile isW ++ l.dropWhile isW := (List.takeWhile_append_dropWhile).symm
      have hd : l.drop ((l.takeWhile isW).length + 1) = (l.dropWhile isW).tail := by
        conv => lhs; rw [hl]
        rw [List.drop_append]
        simp
      rw [hd]
      have hlen : (l.takeWhile isW).length + (l.dropWhile isW).length = l.length := by
        rw [← List.length_append, ← hl]
      conv => lhs; rw [hl]
      rw [List.foldl_append]
      have hstep : ∀ (acc' : List (List UInt8)) (m : Nat), ((l.dropWhile isW).foldl stepR (acc', m)).1 = acc' ++ sp f (l.dropWhile isW).tail := by
        intro acc' m
        cases hdw : l.dropWhile isW with
        | nil => simp [sp_nil]
        | cons c t =>
          have hc : isW c = false := by
            have := List.head_dropWhile_not (l := l) isW (by rw [hdw]; simp)
            simpa [hdw] using this
          rw [List.foldl_cons]
          have e : stepR (acc', m) c = (acc', 0) := by unfold stepR; rw [if_pos hc]
          rw [e]
          exact fold_sp f t acc' (by rw [hdw] at hlen; simp at hlen; omega)
      by_cases hz : (l.takeWhile isW).length = 0
      · have : l.takeWhile isW = [] := List.length_eq_zero_iff.1 hz
        rw [if_pos hz, this, List.foldl_nil, List.nil_append, hstep]
      · rw [if_neg hz, word_fold _ acc hr (fun e => hz (by rw [e]; rfl)), hstep, List.append_assoc]
/-- The counting of runs gives the same words. -/
theorem ref_words (l : List UInt8) : (l.foldl stepR ([], 0)).1 = sp l.length l := by
  rw [fold_sp l.length l [] (Nat.le_refl _)]; rfl
end Go.Proofs.YtpdoacfiiledcaaGreatDoor.SiftM

namespace Go.Proofs.YtpdoacfiiledcaaGreatDoor.Spl
open Go.RowKit Go.Proofs.YtpdoacfiiledcaaGreatDoor Go.Proofs.YtpdoacfiiledcaaGreatDoor.SiftM

theorem hide {p : Prop} (h : p) : Hid p := h
theorem ret_int {k : IntKind} {a b : Int} (h : a = b) : Ending.returned (.int k a) = .returned (.int k b) := by rw [h]
theorem ret_bool {a b : Bool} (h : a = b) : Ending.returned (.bool a) = .returned (.bool b) := by rw [h]
theorem ret_str {a b : ByteArray} (h : a = b) : Ending.returned (.string a) = .returned (.string b) := by rw [h]

set_option maxHeartbeats 400000 in
theorem lowered_any (c : UInt8) (w : World) :
    Calls Tryz.prog 357 #[.int .u8 c.toNat] w fun e w' => e = .returned (.int .u8 (low c).toNat) ∧ w' = w := by
  have hc : (c.toNat : Int) ≤ 255 := by have := c.toNat_lt; omega
  by_cases h1 : (65 : Int) ≤ (c.toNat : Int)
  · by_cases h2 : (c.toNat : Int) ≤ 90
    · have e : Hid ((low c).toNat = c.toNat + 32) := by
        show (low c).toNat = c.toNat + 32
        unfold low; rw [if_pos (by omega)]; rw [UInt8.toNat_ofNat']; omega
      go_enter Tryz.func357, Tryz.ntmps357
      go_wp2
      go_ret
      exact ⟨ret_int (by rw [e.out]; omega), rfl⟩
    · have e : Hid (low c = c) := by show low c = c; unfold low; rw [if_neg (by omega)]
      go_enter Tryz.func357, Tryz.ntmps357
      go_wp2
      go_ret
      exact ⟨ret_int (by rw [e.out]), rfl⟩
  · have e : Hid (low c = c) := by show low c = c; unfold low; rw [if_neg (by omega)]
    go_enter Tryz.func357, Tryz.ntmps357
    go_wp2
    go_ret
    exact ⟨ret_int (by rw [e.out]), rfl⟩

theorem isSm_int (c : UInt8) : isSm c = (decide ((97 : Int) ≤ c.toNat) && decide ((c.toNat : Int) ≤ 122) || decide ((48 : Int) ≤ c.toNat) && decide ((c.toNat : Int) ≤ 57)) := by
  rw [Bool.eq_iff_iff]; simp [isSm]; omega

set_option maxHeartbeats 400000 in
theorem small_any (c : UInt8) (w : World) :
    Calls Tryz.prog 356 #[.int .u8 c.toNat] w fun e w' => e = .returned (.bool (isSm c)) ∧ w' = w := by
  have hs := hide (isSm_int c)
  by_cases h1 : (97 : Int) ≤ (c.toNat : Int)
  · by_cases h2 : (c.toNat : Int) ≤ 122
    · go_enter Tryz.func356, Tryz.ntmps356
      go_wp2
      go_ret
      exact ⟨ret_bool (by rw [hs.out]; simp [h1, h2]), rfl⟩
    · have h3 : (48 : Int) ≤ (c.toNat : Int) := by omega
      have h4 : ¬ (c.toNat : Int) ≤ 57 := by omega
      go_enter Tryz.func356, Tryz.ntmps356
      go_wp2
      go_ret
      exact ⟨ret_bool (by rw [hs.out]; simp; omega), rfl⟩
  · by_cases h3 : (48 : Int) ≤ (c.toNat : Int)
    · by_cases h4 : (c.toNat : Int) ≤ 57
      · go_enter Tryz.func356, Tryz.ntmps356
        go_wp2
        go_ret
        exact ⟨ret_bool (by rw [hs.out]; simp; omega), rfl⟩
      · go_enter Tryz.func356, Tryz.ntmps356
        go_wp2
        go_ret
        exact ⟨ret_bool (by rw [hs.out]; simp; omega), rfl⟩
    · go_enter Tryz.func356, Tryz.ntmps356
      go_wp2
      go_ret
      exact ⟨ret_bool (by rw [hs.out]; simp; omega), rfl⟩

/-- The end of the run of letters and digits that begins at k. -/
def runE (s : ByteArray) (k : Nat) : Nat := k + ((s.data.toList.drop k).takeWhile isW).length

theorem runE_hit (s : ByteArray) (m : Nat) (h : m < s.size) (hw : isSm (low s[m]) = true) : runE s m = runE s (m + 1) := by
  unfold runE
  have hl : m < s.data.toList.length := by simpa using h
  rw [List.drop_eq_getElem_cons hl, List.takeWhile_cons]
  have e : s.data.toList[m] = s[m] := rfl
  have hw' : isW s.data.toList[m] = true := by rw [e]; exact hw
  rw [if_pos hw']
  simp; omega
theorem runE_miss (s : ByteArray) (m : Nat) (h : m < s.size) (hw : isSm (low s[m]) = false) : runE s m = m := by
  unfold runE
  have hl : m < s.data.toList.length := by simpa using h
  rw [List.drop_eq_getElem_cons hl, List.takeWhile_cons]
  have e : s.data.toList[m] = s[m] := rfl
  have hw' : isW s.data.toList[m] = false := by rw [e]; exact hw
  rw [if_neg (by rw [hw']; simp)]; rfl
theorem runE_end (s : ByteArray) (m : Nat) (h : ¬ m < s.size) : runE s m = m := by
  unfold runE
  have hl : s.data.toList.length ≤ m := by simpa using h
  rw [List.drop_of_length_le hl]; rfl

set_option maxHeartbeats 400000 in
theorem runEnd_any (s : ByteArray) (k : Nat) (w : World) (hs : s.size ≤ 1000000) (hk : k ≤ s.size) :
    Calls Tryz.prog 276 #[.string s, .int .i64 k] w fun e w' => e = .returned (.int .i64 (runE s k)) ∧ w' = w := by
  go_enter Tryz.func276, Tryz.ntmps276
  go_wp2_with fail
  go_loop [1] (fun i => ∃ m : Nat, k ≤ m ∧ m ≤ s.size ∧ i = .int .i64 m ∧ runE s k = runE s m) (fun i => s.size - (intOf i).toNat)
  case atStart => exact ⟨k, Nat.le_refl _, hk, rfl, rfl⟩
  case round =>
    obtain ⟨m, h1, h2, rfl, hr⟩ := hrel
    replace hr := hide hr
    by_cases hlt : m < s.size
    · have HH := hide (runE_hit s m hlt)
      have HM := hide (runE_miss s m hlt)
      go_wp2_with fail
      refine (lowered_any _ _).mono ?_
      rintro e w' ⟨rfl, rfl⟩
      go_wp2_with fail
      refine (small_any _ _).mono ?_
      rintro e w' ⟨rfl, rfl⟩
      cases hw : isSm (low s[m])
      · go_wp2_with fail
        go_ret
        exact ⟨ret_int (by rw [hr.out, HM.out hw]), rfl⟩
      · go_wp2_with fail
        go_round
        case rel => exact ⟨m + 1, by omega, by omega, by go_num, by rw [hr.out, HH.out hw]⟩
        case measure => simp [intOf]; omega
    · have HM := hide (runE_end s m hlt)
      go_wp2_with fail
      go_ret
      exact ⟨ret_int (by rw [hr.out, HM.out]), rfl⟩
end Go.Proofs.YtpdoacfiiledcaaGreatDoor.Spl

namespace Go.Proofs.YtpdoacfiiledcaaGreatDoor.Spl
open Go.RowKit Go.Proofs.YtpdoacfiiledcaaGreatDoor Go.Proofs.YtpdoacfiiledcaaGreatDoor.SiftM

theorem one_byte (w : World) (x : Int) (c : UInt8) (hx : (c.toNat : Int) = x) : Lib.Bytes (w.alloc (.cells #[.int .u8 x] 5)) w.heap.size 0 ⟨#[c]⟩ := by
  intro i hi
  have hz : (ByteArray.mk #[c]).size = 1 := rfl
  have : i = 0 := by omega
  subst this
  rw [World.cell?_alloc_at _ _ _ _ rfl, ← hx]; rfl

theorem conv_one (x : Int) (c : UInt8) (hx : (c.toNat : Int) = x) (w : World) :
    (convert 112 9 (.slice (some ⟨w.heap.size, 0, none⟩) 1 1)).run Tryz.prog (w.alloc (.cells #[.int .u8 x] 5)) = .ok (.string ⟨#[c]⟩) (w.alloc (.cells #[.int .u8 x] 5)) :=
  Lib.run_convert_whole (P := Tryz.prog) _ 112 5 9 Tryz.underlying112 Tryz.underlying5 Tryz.underlying9 w.heap.size 0 ⟨#[c]⟩ (one_byte w x c hx) 1

theorem mk_snoc (l : List UInt8) (d : UInt8) : (ByteArray.mk l.toArray ++ ByteArray.mk #[d]) = ByteArray.mk (l ++ [d]).toArray := Go.ByteArray.mk_append_mk l [d]
theorem take_snoc (s : ByteArray) (k : Nat) (h : k < s.size) : s.data.toList.take (k + 1) = s.data.toList.take k ++ [s[k]] := by
  rw [List.take_succ_eq_append_getElem (by simpa using h)]; rfl
theorem val_str {a b : ByteArray} (h : a = b) : Value.string a = Value.string b := by rw [h]

end Go.Proofs.YtpdoacfiiledcaaGreatDoor.Spl

namespace Go.Proofs.YtpdoacfiiledcaaGreatDoor.Spl
open Go.RowKit Go.Proofs.YtpdoacfiiledcaaGreatDoor Go.Proofs.YtpdoacfiiledcaaGreatDoor.SiftM

theorem bw_below (w : World) (e : TypeId) (s : ByteArray) : Below w.heap.size w (Lib.bytesWorld w e s) :=
  ⟨rfl, rfl, rfl, by rw [Lib.bytesWorld_size]; omega, fun k hk => Lib.bytesWorld_at_old w e s k hk⟩
theorem bw_frozen (w : World) (e : TypeId) (s : ByteArray) (j : Nat) (hj : j < s.size) : (Lib.bytesWorld w e s).frozen? ⟨w.heap.size, j, none⟩ = false := by
  have hz : s.size ≤ (Lib.bytesCells w e s).size := by simp [Lib.bytesCells]
  simp [World.frozen?, Lib.bytesWorld_at_new]; omega
theorem bw_cell (w : World) (e : TypeId) (s : ByteArray) (j : Nat) (hj : j < s.size) : (Lib.bytesWorld w e s).cell? ⟨w.heap.size, j, none⟩ = some (.int .u8 (s[j].toNat : Int)) := by
  rw [Lib.bytesWorld_cell w e s j hj]
  have hl : j < s.data.toList.length := by simpa using hj
  have e1 : s.data.toList.getD j 0 = s[j] := by rw [List.getD_eq_getElem?_getD, List.getElem?_eq_getElem hl]; rfl
  rw [e1]

theorem conv_bytes (t : ByteArray) (w : World) : (convert 9 112 (.string t)).run Tryz.prog w = .ok (.slice (some ⟨w.heap.size, 0, none⟩) t.size (grownCap w t.size 0 5)) (Lib.bytesWorld w 5 t) :=
  Lib.run_convert_string_bytes (P := Tryz.prog) w 9 112 5 t Tryz.underlying9 Tryz.underlying112 Tryz.underlying5

/-- What stands in the row behind k rounds. -/
def lowAt (t : ByteArray) (k j : Nat) (h : j < t.size) : Int := if j < k then ((low t[j]).toNat : Int) else (t[j].toNat : Int)

theorem low_bytes (t : ByteArray) (w : World) (B : Nat) (h : ∀ j (hj : j < t.size), w.cell? ⟨B, j, none⟩ = some (.int .u8 (lowAt t t.size j hj))) :
    Lib.Bytes w B 0 ⟨(t.data.toList.map low).toArray⟩ := by
  intro i hi
  have hz : (ByteArray.mk (t.data.toList.map low).toArray).size = t.size := by show (t.data.toList.map low).toArray.size = _; simp
  have hi' : i < t.size := by omega
  rw [Nat.zero_add, h i hi']
  unfold lowAt; rw [if_pos hi']
  have e5 : getElem (ByteArray.mk (t.data.toList.map low).toArray) i hi = low t[i] := by
    show getElem (t.data.toList.map low).toArray i _ = _
    simp; rfl
  rw [e5]

theorem conv_low (t : ByteArray) (w : World) (B cap : Nat) (h : ∀ j (hj : j < t.size), w.cell? ⟨B, j, none⟩ = some (.int .u8 (lowAt t t.size j hj))) :
    (convert 112 9 (.slice (some ⟨B, 0, none⟩) t.size cap)).run Tryz.prog w = .ok (.string ⟨(t.data.toList.map low).toArray⟩) w := by
  have hz : (ByteArray.mk (t.data.toList.map low).toArray).size = t.size := by show (t.data.toList.map low).toArray.size = _; simp
  have := Lib.run_convert_whole (P := Tryz.prog) w 112 5 9 Tryz.underlying112 Tryz.underlying5 Tryz.underlying9 B 0 ⟨(t.data.toList.map low).toArray⟩ (low_bytes t w B h) cap
  rw [hz] at this
  exact this

/-- The row's rounds: what is read and what a store leaves. -/
theorem low_read (t : ByteArray) (w : World) (B k : Nat) (hk : k < t.size) (h : ∀ j (hj : j < t.size), w.cell? ⟨B, j, none⟩ = some (.int .u8 (lowAt t k j hj))) :
    w.cell? ⟨B, k, none⟩ = some (.int .u8 (t[k].toNat : Int)) := by
  rw [h k hk]; unfold lowAt; rw [if_neg (by omega)]
theorem low_store (t : ByteArray) (w : World) (B k : Nat) (hk : k < t.size) (h : ∀ j (hj : j < t.size), w.cell? ⟨B, j, none⟩ = some (.int .u8 (lowAt t k j hj))) :
    ∀ j (hj : j < t.size), (w.setCell ⟨B, k, none⟩ (.int .u8 ((low t[k]).toNat : Int))).cell? ⟨B, j, none⟩ = some (.int .u8 (lowAt t (k + 1) j hj)) := by
  intro j hj
  by_cases e : k = j
  · subst e
    rw [World.cell?_setCell_same _ _ _ (h k hk)]
    unfold lowAt; rw [if_pos (by omega)]
  · rw [World.cell?_setCell_other _ _ _ _ (fun hh => e (congrArg Addr.off hh)), h j hj]
    unfold lowAt
    by_cases e2 : j < k
    · rw [if_pos e2, if_pos (by omega)]
    · rw [if_neg e2, if_neg (by omega)]
theorem wordL_take (s t : ByteArray) (n : Nat) (h : s.extract 0 n = t) (hn : n = min s.size 8) : t.data.toList.map low = wordL s.data.toList := by
  subst h
  rw [Lib.extract_data, hn]
  unfold wordL
  simp only [List.drop_zero, Nat.sub_zero]
  by_cases h8 : s.size ≤ 8
  · rw [Nat.min_eq_left h8, List.take_of_length_le (by simp), List.take_of_length_le (by simpa using h8)]
  · rw [Nat.min_eq_right (by omega)]

set_option maxHeartbeats 400000 in
set_option maxRecDepth 100000 in
theorem wordOf_any (s : ByteArray) (w : World) (hl : s.size ≤ 1000) :
    Calls Tryz.prog 277 #[.string s] w fun e w' => e = .returned (.string ⟨(wordL s.data.toList).toArray⟩) ∧ Below w.heap.size w w' := by
  have hcv := conv_bytes
  obtain ⟨t, ht⟩ : ∃ t, s.extract 0 (min s.size 8) = t := ⟨_, rfl⟩
  have htz : t.size = min s.size 8 := by rw [← ht]; simp
  have hfin : Hid (t.data.toList.map low = wordL s.data.toList) := wordL_take s t _ ht rfl
  rw [← htz] at ht
  have hm : min (s.size : Int) 8 = (t.size : Int) := by omega
  have h1 : t.size ≤ s.size := by omega
  have h2 : t.size ≤ 8 := by omega
  clear htz
  go_enter Tryz.func277, Tryz.ntmps277
  go_wp2_with fail
  clear hcv ht hm
  obtain ⟨W, hW⟩ : ∃ W, Lib.bytesWorld w 5 t = W := ⟨_, rfl⟩
  have c0 : ∀ j (hj : j < t.size), W.cell? ⟨w.heap.size, j, none⟩ = some (.int .u8 (lowAt t 0 j hj)) := fun j hj => by rw [← hW, bw_cell w 5 t j hj]; rfl
  have f0 : ∀ j, j < t.size → W.frozen? ⟨w.heap.size, j, none⟩ = false := fun j hj => by rw [← hW]; exact bw_frozen w 5 t j hj
  have b0 : Below w.heap.size w W := by rw [← hW]; exact bw_below w 5 t
  rw [hW]
  clear hW
  go_loopw [14] (fun i wr => ∃ k : Nat, k ≤ t.size ∧ i = .int .i64 k ∧ (∀ j (hj : j < t.size), wr.cell? ⟨w.heap.size, j, none⟩ = some (.int .u8 (lowAt t k j hj))) ∧ (∀ j, j < t.size → wr.frozen? ⟨w.heap.size, j, none⟩ = false) ∧ Below w.heap.size w wr) (fun i _ => t.size - (intOf i).toNat)
  case atStart => exact ⟨0, Nat.zero_le _, rfl, c0, f0, b0⟩
  case round =>
    clear c0 f0 b0
    obtain ⟨k, hk, rfl, hc, hf, hb⟩ := hrel
    by_cases hlt : k < t.size
    · have hr := low_read t wr _ k hlt hc
      have hfz := hf k hlt
      have HC := hide (low_store t wr _ k hlt hc)
      replace hf := hide hf
      replace hc := hide hc
      go_wp2_with fail
      refine (lowered_any _ _).mono ?_
      rintro e w' ⟨rfl, rfl⟩
      go_wp2_with fail
      go_roundw
      case rel => exact ⟨k + 1, by omega, by go_num, HC.out, fun j hj => by simpa using hf.out j hj, hb.setCell (Nat.le_refl _) _⟩
      case measure => simp [intOf]; omega
    · have e : k = t.size := by omega
      subst e
      have hcv : ∀ cap, (convert 112 9 (.slice (some ⟨w.heap.size, 0, none⟩) t.size cap)).run Tryz.prog wr = .ok (.string ⟨(t.data.toList.map low).toArray⟩) wr := fun cap => conv_low t wr w.heap.size cap hc
      clear hc hf
      go_wp2_with fail
      go_ret
      exact ⟨ret_str (by rw [hfin.out]), hb⟩
end Go.Proofs.YtpdoacfiiledcaaGreatDoor.Spl

namespace Go.Proofs.YtpdoacfiiledcaaGreatDoor.Spl
open Go.RowKit Go.Proofs.YtpdoacfiiledcaaGreatDoor Go.Proofs.YtpdoacfiiledcaaGreatDoor.SiftM
set_option linter.unusedVariables false

theorem Tryz.info9 : (Tryz.prog.info? 9).map (fun i => (i.zero, i.size, i.bytes)) = some (some (.string ⟨#[]⟩), 1, 16) := by kernel_rfl

theorem grown_of_below {w w' : World} (h : Below w.heap.size w w') : w.grownBy w' none := ⟨h.os, h.tape, h.output, h.size, fun k hk _ => h.block k hk⟩
theorem owns_below {w w' : World} {base : Nat} {e : TypeId} {size : Nat} {v : Value} {n : Nat} {xs : List Value} (h : w.ownsRow base e size v n xs) (hb : Below w.heap.size w w') : w'.ownsRow base e size v n xs :=
  h.kept (grown_of_below hb) (Classical.em _)
/-- The values of a list of words. -/
def strV (l : List (List UInt8)) : List Value := l.map fun s => Value.string ⟨s.toArray⟩
theorem strV_length (l : List (List UInt8)) : (strV l).length = l.length := by simp [strV]
theorem strV_snoc (l : List (List UInt8)) (x : List UInt8) : strV (l ++ [x]) = strV l ++ [Value.string ⟨x.toArray⟩] := by simp [strV]

theorem runE_run (s : ByteArray) (k : Nat) (hk : k ≤ s.size) : (s.extract k (runE s k)).data.toList = (s.data.toList.drop k).takeWhile isW := by
  rw [Lib.extract_data]
  unfold runE
  rw [show k + ((s.data.toList.drop k).takeWhile isW).length - k = ((s.data.toList.drop k).takeWhile isW).length by omega]
  exact (List.prefix_iff_eq_take.1 (List.takeWhile_prefix _)).symm
theorem runE_le (s : ByteArray) (k : Nat) (hk : k ≤ s.size) : k ≤ runE s k ∧ runE s k ≤ s.size := by
  unfold runE
  have h := (List.takeWhile_prefix (l := s.data.toList.drop k) isW).length_le
  have hl : s.data.toList.length = s.size := by simp
  rw [List.length_drop] at h
  omega
theorem sp_open (s : ByteArray) (k : Nat) (hk : k < s.size) : sp s.size (s.data.toList.drop k) =
    (if ((s.data.toList.drop k).takeWhile isW).length = 0 then [] else [wordL ((s.data.toList.drop k).takeWhile isW)]) ++ sp s.size (s.data.toList.drop (runE s k + 1)) := by
  have hl : s.data.toList.length = s.size := by simp
  obtain ⟨f, hf⟩ : ∃ f, s.size = f + 1 := ⟨s.size - 1, by omega⟩
  rw [hf]
  conv => lhs; unfold sp
  rw [if_neg (by rw [List.length_drop]; omega), List.drop_drop]
  rw [show k + (((s.data.toList.drop k).takeWhile isW).length + 1) = runE s k + 1 by unfold runE; omega]
  rw [sp_fuel f (f + 1) _ (by rw [List.length_drop]; omega) (by rw [List.length_drop]; omega)]
theorem sp_step_word (s : ByteArray) (k : Nat) (acc : List (List UInt8)) (hk : k < s.size) (he : k < runE s k)
    (h : acc ++ sp s.size (s.data.toList.drop k) = sp s.size s.data.toList) :
    (acc ++ [wordL (s.extract k (runE s k)).data.toList]) ++ sp s.size (s.data.toList.drop (runE s k + 1)) = sp s.size s.data.toList := by
  rw [← h, sp_open s k hk, runE_run s k (by omega), if_neg (by unfold runE at he; omega), List.append_assoc]
theorem sp_step_none (s : ByteArray) (k : Nat) (acc : List (List UInt8)) (hk : k < s.size) (he : ¬ k < runE s k)
    (h : acc ++ sp s.size (s.data.toList.drop k) = sp s.size s.data.toList) :
    acc ++ sp s.size (s.data.toList.drop (runE s k + 1)) = sp s.size s.data.toList := by
  rw [← h, sp_open s k hk, if_pos (by unfold runE at he; omega), List.nil_append]
theorem sp_done (s : ByteArray) (k : Nat) (acc : List (List UInt8)) (hk : ¬ k < s.size)
    (h : acc ++ sp s.size (s.data.toList.drop k) = sp s.size s.data.toList) : acc = sp s.size s.data.toList := by
  rw [← h, List.drop_of_length_le (by simp; omega), sp_nil, List.append_nil]

set_option maxHeartbeats 400000 in
set_option maxRecDepth 100000 in
theorem splitW_any (s : ByteArray) (w : World) (hs : s.size ≤ 1000) :
    Calls Tryz.prog 170 #[.string s] w fun e w' => ∃ v, e = .returned v ∧ w'.ownsRow w.heap.size 9 1 v (sp s.size s.data.toList).length (strV (sp s.size s.data.toList)) ∧ Below w.heap.size w w' := by
  obtain ⟨i0, hi, hz0, hz1, hz2⟩ := info_parts Tryz.info9
  go_enter Tryz.func170, Tryz.ntmps170
  go_wp2_with fail
  go_loopw [3, 4] (fun v i wr => ∃ k : Nat, ∃ acc : List (List UInt8), k ≤ s.size + 1 ∧ acc.length ≤ k ∧ i = .int .i64 k ∧ wr.ownsRow w.heap.size 9 1 v acc.length (strV acc) ∧ acc ++ sp s.size (s.data.toList.drop k) = sp s.size s.data.toList ∧ Below w.heap.size w wr) (fun _ i _ => s.size + 1 - (intOf i).toNat)
  case atStart => exact ⟨0, [], Nat.zero_le _, Nat.zero_le _, rfl, World.ownsRow_nil _ _ _ _, rfl, Below.refl _ _⟩
  case round =>
    obtain ⟨k, acc, h1, h2, rfl, hown, hsp, hb⟩ := hrel
    have hbz := hb.size
    by_cases hlt : k < s.size
    · have hr := runE_le s k (by omega)
      by_cases he : k < runE s k
      · have HS := hide (sp_step_word s k acc hlt he hsp)
        replace hsp := hide hsp
        go_wp2_with fail
        refine (runEnd_any _ _ _ (by omega) (by omega)).mono ?_
        rintro e w' ⟨rfl, rfl⟩
        go_wp2_with fail
        refine (wordOf_any _ _ (by simp; omega)).mono ?_
        rintro e w1 ⟨rfl, hb1⟩
        have hown1 := owns_below hown hb1
        have hbz1 := hb1.size
        go_wp2_with (first
          | (at_builtin; refine wpList_append_own _ rfl _ _ 67 rfl w.heap.size 9 i0 (.string ⟨#[]⟩) 1 16 Tryz.underlying67 hi hz0 hz1 hz2 rfl (by decide) _ _ _ rfl (hown1.alloc _) ⟨w1.heap.size, 0, none⟩ 1 1 [.string ⟨(wordL (s.extract k (runE s k)).data.toList).toArray⟩] rfl rfl ?c1 ?c2 ?c3 ?c4 ?c5 ?_)
          | fail)
        case c1 =>
          intro j u hj
          match j, hj with
          | 0, hj => simp at hj; subst hj; simp [Addr.add]
        case c2 => intro u hu; simp at hu; subst hu; rfl
        case c3 => unfold maxLen; omega
        case c4 => omega
        case c5 => simp; omega
        intro v' w2 hown2 hgrow _
        go_wp2_with fail
        go_roundw
        case rel => 
          refine ⟨runE s k + 1, acc ++ [wordL (s.extract k (runE s k)).data.toList], by omega, by simp; omega, by go_num, ?_, HS.out, ?_⟩
          · rw [strV_snoc]; simpa using hown2
          · exact ((hb.trans (hb1.mono hbz)).alloc (by omega) _).grown hgrow (by simp; omega) (fun k hk => (hown1.lt k hk).1)
        case measure => simp [intOf]; omega
      · have HS := hide (sp_step_none s k acc hlt he hsp)
        replace hsp := hide hsp
        go_wp2_with fail
        refine (runEnd_any _ _ _ (by omega) (by omega)).mono ?_
        rintro e w' ⟨rfl, rfl⟩
        go_wp2_with fail
        go_roundw
        case rel => exact ⟨runE s k + 1, acc, by omega, by omega, by go_num, hown, HS.out, hb⟩
        case measure => simp [intOf]; omega
    · have HS := hide (sp_done s k acc hlt hsp)
      replace hsp := hide hsp
      go_wp2_with fail
      go_ret
      exact ⟨_, rfl, by rw [← HS.out]; exact hown, hb⟩
end Go.Proofs.YtpdoacfiiledcaaGreatDoor.Spl

namespace Go.Proofs.YtpdoacfiiledcaaGreatDoor.Spl
open Go.RowKit Go.Proofs.YtpdoacfiiledcaaGreatDoor Go.Proofs.YtpdoacfiiledcaaGreatDoor.SiftM
set_option linter.unusedVariables false

set_option maxHeartbeats 400000 in
theorem words_ok (s : ByteArray) (w : World) (hs : s.size ≤ 120) :
    Calls Tryz.prog 71 #[.string s] w fun e w' => ∃ v, e = .returned (.tuple #[v, .int .i64 0]) ∧ w'.ownsRow w.heap.size 9 1 v (sp s.size s.data.toList).length (strV (sp s.size s.data.toList)) ∧ Below w.heap.size w w' := by
  go_enter Tryz.func71, Tryz.ntmps71
  go_wp2_with fail
  refine (splitW_any _ _ (by omega)).mono ?_
  rintro e w1 ⟨v, rfl, hown, hb⟩
  go_wp2_with fail
  go_ret2
  exact ⟨_, rfl, hown, hb⟩

set_option maxHeartbeats 400000 in
theorem words_long (s : ByteArray) (w : World) (hs : 120 < s.size) :
    Calls Tryz.prog 71 #[.string s] w fun e w' => e = .returned (.tuple #[.slice none 0 0, .int .i64 4]) ∧ w' = w := by
  go_enter Tryz.func71, Tryz.ntmps71
  go_wp2_with fail
  go_ret2
  exact ⟨rfl, rfl⟩

set_option maxHeartbeats 400000 in
theorem same_none (a b : Option Addr) (ca cb : Nat) (w : World) :
    Calls Tryz.prog 73 #[.slice a 0 ca, .slice b 0 cb] w fun e w' => e = .returned (.bool true) ∧ Below w.heap.size w w' := by
  go_enter Tryz.func73, Tryz.ntmps73
  go_wp2_with fail
  refine wp_loop_rounds 1 ?_
  rw [rounds_succ]
  go_wp2_with fail
  go_ret
  exact ⟨rfl, Below.refl _ _⟩

theorem bel_drewN (w : World) (n : Nat) : Below w.heap.size w (w.drewN n) := ⟨rfl, rfl, rfl, Nat.le_refl _, fun _ _ => rfl⟩

set_option maxHeartbeats 400000 in
set_option maxRecDepth 100000 in
theorem same_true (ga gb n ca cb : Nat) (X : Nat → ByteArray) (w : World) (hn : n ≤ 1000)
    (ha : ∀ j, j < n → w.cell? ⟨ga, j, none⟩ = some (.string (X j))) (hb : ∀ j, j < n → w.cell? ⟨gb, j, none⟩ = some (.string (X j))) :
    Calls Tryz.prog 73 #[.slice (some ⟨ga, 0, none⟩) n ca, .slice (some ⟨gb, 0, none⟩) n cb] w fun e w' => e = .returned (.bool true) ∧ Below w.heap.size w w' := by
  go_enter Tryz.func73, Tryz.ntmps73
  go_wp2_with fail
  go_loopw [5] (fun i wr => ∃ k q : Nat, k ≤ n ∧ i = .int .i64 k ∧ wr = w.drewN q) (fun i _ => n - (intOf i).toNat)
  case atStart => exact ⟨0, 0, Nat.zero_le _, rfl, rfl⟩
  case round =>
    obtain ⟨k, q, hk, rfl, rfl⟩ := hrel
    by_cases hlt : k < n
    · have h1 := ha k hlt
      have h2 := hb k hlt
      have h3 : (k : Int) < (n : Int) := by omega
      have h4 : (0 : Int) ≤ (k : Int) := by omega
      go_wp2_with fail
      go_quiet (fail)
      go_wp2_with fail
      exact ⟨⟨k + 1, q + nq, by omega, by go_num, rfl⟩, by simp [intOf]; omega⟩
    · go_wp2_with fail
      go_ret
      exact ⟨rfl, bel_drewN _ _⟩
theorem owns_forms {w : World} {base size n : Nat} {e : TypeId} {v : Value} {xs : List Value} (h : w.ownsRow base e size v n xs) : ∃ a cap, v = .slice a n cap ∧ (0 < n → ∃ g, a = some ⟨g, 0, none⟩) := by
  rcases h.2 with ⟨rfl, rfl⟩ | ⟨g, cap, cur, rfl, _⟩
  · exact ⟨_, _, rfl, fun h => by omega⟩
  · exact ⟨_, _, rfl, fun _ => ⟨g, rfl⟩⟩
theorem owns_cells {w : World} {base n g cap : Nat} {l : List (List UInt8)} (h : w.ownsRow base 9 1 (.slice (some ⟨g, 0, none⟩) n cap) n (strV l)) (hl : l.length = n) :
    ∀ j, j < n → w.cell? ⟨g, j, none⟩ = some (.string ⟨(l.getD j []).toArray⟩) := by
  intro j hj
  rw [h.cellAt j (by omega)]
  simp [strV, List.getD_eq_getElem?_getD, List.getElem?_eq_getElem (by omega : j < l.length)]

theorem same_owned (va vb : Value) (A B : Nat) (l : List (List UInt8)) (w : World) (hn : l.length ≤ 1000)
    (ha : w.ownsRow A 9 1 va l.length (strV l)) (hb : w.ownsRow B 9 1 vb l.length (strV l)) :
    Calls Tryz.prog 73 #[va, vb] w fun e w' => e = .returned (.bool true) ∧ Below w.heap.size w w' := by
  obtain ⟨a, ca, rfl, fa⟩ := owns_forms ha
  obtain ⟨b, cb, rfl, fb⟩ := owns_forms hb
  by_cases h0 : l.length = 0
  · rw [h0]; exact same_none _ _ _ _ _
  · obtain ⟨ga, rfl⟩ := fa (by omega)
    obtain ⟨gb, rfl⟩ := fb (by omega)
    exact same_true ga gb l.length ca cb (fun j => ⟨(l.getD j []).toArray⟩) w hn (owns_cells ha rfl) (owns_cells hb rfl)

end Go.Proofs.YtpdoacfiiledcaaGreatDoor.Spl

namespace Go.Proofs.YtpdoacfiiledcaaGreatDoor.Pak
open Go.RowKit Go.Proofs.YtpdoacfiiledcaaGreatDoor Go.Proofs.YtpdoacfiiledcaaGreatDoor.Spl SiftM
set_option linter.unusedVariables false

/-- Of what was there in w nothing has turned but the blocks of S. -/
structure Kp (S : List Nat) (w w' : World) : Prop where
  os : w'.os = w.os
  tape : w'.tape = w.tape
  output : w'.output = w.output
  size : w.heap.size ≤ w'.heap.size
  block : ∀ k, k < w.heap.size → k ∉ S → w'.heap[k]? = w.heap[k]?

theorem Kp.refl (S : List Nat) (w : World) : Kp S w w := ⟨rfl, rfl, rfl, Nat.le_refl _, fun _ _ _ => rfl⟩
theorem Kp.trans {S S' : List Nat} {a b c : World} (h : Kp S a b) (k : Kp S' b c) (hS : ∀ x ∈ S', x ∈ S ∨ a.heap.size ≤ x) : Kp S a c :=
  ⟨k.os.trans h.os, k.tape.trans h.tape, k.output.trans h.output, Nat.le_trans h.size k.size, fun i hi hn =>
    (k.block i (Nat.lt_of_lt_of_le hi h.size) (fun hx => by rcases hS i hx with h' | h'; exact hn h'; omega)).trans (h.block i hi hn)⟩
theorem Kp.next {S : List Nat} {a b c : World} (h : Kp S a b) (k : Kp S b c) : Kp S a c := h.trans k fun _ hx => .inl hx
theorem Kp.mono {S S' : List Nat} {w w' : World} (h : Kp S w w') (hS : ∀ x ∈ S, x ∈ S') : Kp S' w w' :=
  ⟨h.os, h.tape, h.output, h.size, fun k hk hn => h.block k hk fun hx => hn (hS k hx)⟩
theorem Kp.of_below {w w' : World} (S : List Nat) (h : Below w.heap.size w w') : Kp S w w' := ⟨h.os, h.tape, h.output, h.size, fun k hk _ => h.block k hk⟩
theorem Kp.below {S : List Nat} {w w' : World} {B : Nat} (h : Kp S w w') (hB : B ≤ w.heap.size) (hS : ∀ x ∈ S, B ≤ x) : Below B w w' :=
  ⟨h.os, h.tape, h.output, h.size, fun k hk => h.block k (by omega) fun hx => by have := hS k hx; omega⟩
theorem Kp.alloc {S : List Nat} {a w : World} (h : Kp S a w) (o : Obj) : Kp S a (w.alloc o) :=
  h.next ⟨rfl, rfl, rfl, by simp, fun k hk _ => Below.heap_alloc _ _ _ hk⟩
theorem Kp.drewN {S : List Nat} {a w : World} (h : Kp S a w) (n : Nat) : Kp S a (w.drewN n) := ⟨h.os, h.tape, h.output, h.size, h.block⟩
theorem Kp.setCell {S : List Nat} {a w : World} (h : Kp S a w) {p : Addr} (hp : p.block ∈ S ∨ a.heap.size ≤ p.block) (u : Value) : Kp S a (w.setCell p u) :=
  h.trans (S' := [p.block]) ⟨rfl, rfl, rfl, by simp [World.setCell], fun k hk hn => Below.heap_setCell _ _ _ _ (by simpa using hn)⟩ (by simpa using hp)
theorem Kp.grown {S : List Nat} {a w w' : World} {row : Option Nat} (h : Kp S a w) (hg : w.grownBy w' row) (hr : ∀ k, row = some k → k ∈ S ∨ a.heap.size ≤ k) : Kp S a w' :=
  h.trans (S' := row.toList) ⟨hg.os, hg.tape, hg.output, hg.size, fun k hk hn => hg.block k hk (by intro e; apply hn; rw [← e]; simp)⟩ (by
    intro x hx
    cases row with
    | none => simp at hx
    | some y => simp at hx; subst hx; exact hr _ rfl)
theorem Kp.cell {S : List Nat} {w w' : World} (h : Kp S w w') {p : Addr} (hl : p.block < w.heap.size) (hp : p.block ∉ S) : w'.cell? p = w.cell? p := World.cell?_of_block (w := w) (h.block p.block hl hp)
theorem Kp.cellv {S : List Nat} {w w' : World} (h : Kp S w w') {p : Addr} {v : Value} (hv : w.cell? p = some v) (hp : p.block ∉ S) : w'.cell? p = some v := (h.cell (World.block_lt_of_cell? w p hv) hp).trans hv
theorem Kp.heap {S : List Nat} {w w' : World} (h : Kp S w w') {k : Nat} {o : Obj} (ho : w.heap[k]? = some o) (hp : k ∉ S) : w'.heap[k]? = some o :=
  (h.block k (Array.getElem?_eq_some_iff.1 ho).1 hp).trans ho
theorem Kp.owns {S : List Nat} {w w' : World} {base : Nat} {e : TypeId} {size : Nat} {v : Value} {n : Nat} {xs : List Value} (k : Kp S w w') (h : w.ownsRow base e size v n xs) (hne : ∀ g, v.ownBlock = some g → g ∉ S) : w'.ownsRow base e size v n xs := by
  refine ⟨h.1, ?_⟩
  rcases h.2 with hn | ⟨g, cap, cur, rfl, hb, hgg, rest⟩
  · exact .inl hn
  · exact .inr ⟨g, cap, cur, rfl, hb, k.heap hgg (hne g rfl), rest⟩
theorem heap_lt {w : World} {k : Nat} {o : Obj} (ho : w.heap[k]? = some o) : k < w.heap.size := (Array.getElem?_eq_some_iff.1 ho).1
/-- Blocks of different kinds are different blocks. -/
theorem owns_ne {w : World} {base R n size : Nat} {e t : TypeId} {v : Value} {xs : List Value} {fr : Nat × Nat} (h : w.ownsRow base e size v n xs) {cs : Array Value} (hR : w.heap[R]? = some (.cells cs t fr)) (ht : t ≠ e) : v.ownBlock ≠ some R := by
  intro ee
  rcases h.2 with ⟨rfl, _⟩ | ⟨g, cap, cur, rfl, _, hh, _⟩
  · simp [Value.ownBlock] at ee
  · simp [Value.ownBlock] at ee
    subst ee
    rw [hR] at hh
    simp at hh
    exact ht hh.2.1

/-- A view of bytes. -/
def Vw (w : World) (B : Nat) (a : Option Addr) (l : List UInt8) : Prop := (l = [] ∧ a = none) ∨ ∃ g off, a = some ⟨g, off, none⟩ ∧ g < B ∧ ∀ j (h : j < l.length), w.cell? ⟨g, off + j, none⟩ = some (.int .u8 (l[j].toNat : Int))
/-- The reader in block R: none: it has failed. -/
def Rd (w : World) (R B : Nat) : Option (List UInt8) → Prop
  | none => B ≤ R ∧ w.heap[R]? = some (.cells #[.slice none 0 0, .bool true] 461 (0, 0))
  | some l => B ≤ R ∧ ∃ a cap, w.heap[R]? = some (.cells #[.slice a l.length cap, .bool false] 461 (0, 0)) ∧ Vw w B a l ∧ l.length ≤ cap ∧ cap ≤ 9223372036854775807

def nextF : Option (List UInt8) → UInt8 × Option (List UInt8)
  | none => (0, none)
  | some [] => (0, none)
  | some (c :: r) => (c, some r)

theorem rd_cells {w : World} {R : Nat} {x y : Value} {t : TypeId} (h : w.heap[R]? = some (.cells #[x, y] t (0, 0))) :
    w.cell? ⟨R, 0, none⟩ = some x ∧ w.cell? ⟨R, 1, none⟩ = some y ∧ w.frozen? ⟨R, 0, none⟩ = false ∧ w.frozen? ⟨R, 1, none⟩ = false := by
  simp [World.cell?, World.frozen?, h]

set_option maxHeartbeats 400000 in
theorem fail_any (R B : Nat) (hB : B ≤ R) (x y : Value) (w : World) (h : w.heap[R]? = some (.cells #[x, y] 461 (0, 0))) :
    Calls Tryz.prog 364 #[.pointer (some ⟨R, 0, none⟩)] w fun e w' => e = .returned (.tuple #[]) ∧ Rd w' R B none ∧ Kp [R] w w' := by
  obtain ⟨c0, c1, f0, f1⟩ := rd_cells h
  have H := hide h
  clear h
  go_enter Tryz.func364, Tryz.ntmps364
  go_wp2_with fail
  go_end0
  refine ⟨rfl, ⟨hB, ?_⟩, ((Kp.refl _ _).setCell (.inl (by simp)) _).setCell (.inl (by simp)) _⟩
  have e1 := heap_setCell_same w R 1 _ 461 (.bool true) H.out
  have e2 := heap_setCell_same _ R 0 _ 461 (.slice none 0 0) e1
  rw [e2]; rfl
end Go.Proofs.YtpdoacfiiledcaaGreatDoor.Pak

namespace Go.Proofs.YtpdoacfiiledcaaGreatDoor.Pak
open Go.RowKit Go.Proofs.YtpdoacfiiledcaaGreatDoor Go.Proofs.YtpdoacfiiledcaaGreatDoor.Spl SiftM
set_option linter.unusedVariables false

theorem Rd.block {w : World} {R B : Nat} {st : Option (List UInt8)} (h : Rd w R B st) : ∃ x y, w.heap[R]? = some (.cells #[x, y] 461 (0, 0)) := by
  cases st with
  | none => exact ⟨_, _, h.2⟩
  | some l => obtain ⟨_, a, cap, h, _⟩ := h; exact ⟨_, _, h⟩
theorem Rd.le {w : World} {R B : Nat} {st : Option (List UInt8)} (h : Rd w R B st) : B ≤ R := by
  cases st with
  | none => exact h.1
  | some l => exact h.1

set_option maxHeartbeats 400000 in
theorem next_none (R B : Nat) (w : World) (h : Rd w R B none ∨ Rd w R B (some [])) :
    Calls Tryz.prog 448 #[.pointer (some ⟨R, 0, none⟩)] w fun e w' => e = .returned (.int .u8 0) ∧ Rd w' R B none ∧ Kp [R] w w' := by
  obtain ⟨a, cap, b, hb⟩ : ∃ a cap b, w.heap[R]? = some (.cells #[.slice a 0 cap, b] 461 (0, 0)) := by
    rcases h with h | h
    · exact ⟨_, _, _, h.2⟩
    · obtain ⟨_, a, cap, h, _⟩ := h; exact ⟨_, _, _, h⟩
  have hBR : B ≤ R := by rcases h with h | h <;> exact h.1
  obtain ⟨c0, c1, f0, f1⟩ := rd_cells hb
  have H := hide hb
  clear h hb
  go_enter Tryz.func448, Tryz.ntmps448
  go_wp2_with fail
  refine (fail_any R B hBR _ _ w H.out).mono ?_
  rintro e w' ⟨rfl, hr, hk⟩
  go_wp2_with fail
  go_ret
  exact ⟨rfl, hr, hk⟩

theorem vw_kp {S : List Nat} {w w' : World} {B : Nat} {a : Option Addr} {l : List UInt8} (h : Vw w B a l) (k : Kp S w w') (hS : ∀ x ∈ S, B ≤ x) : Vw w' B a l := by
  rcases h with h | ⟨g, off, rfl, hg, hc⟩
  · exact .inl h
  exact .inr ⟨g, off, rfl, hg, fun j hj => k.cellv (hc j hj) (fun hx => by have := hS _ hx; simp at this; omega)⟩
theorem Rd.kp {S : List Nat} {w w' : World} {R B : Nat} {st : Option (List UInt8)} (h : Rd w R B st) (k : Kp S w w') (hR : R ∉ S) (hS : ∀ x ∈ S, B ≤ x) : Rd w' R B st := by
  cases st with
  | none => exact ⟨h.1, k.heap h.2 hR⟩
  | some l =>
    obtain ⟨h1, a, cap, e, hv, hc⟩ := h
    exact ⟨h1, a, cap, k.heap e hR, vw_kp hv k hS, hc⟩
theorem rd_put {w : World} {R B n cap : Nat} {a : Option Addr} (hB : B ≤ R) (H : w.heap[R]? = some (.cells #[.slice a n cap, .bool false] 461 (0, 0))) {a' : Option Addr} {l' : List UInt8} {n' cap' : Nat} (hn : n' = l'.length) (hv : Vw w B a' l') (h1 : l'.length ≤ cap') (h2 : cap' ≤ 9223372036854775807) :
    Rd (w.setCell ⟨R, 0, none⟩ (.slice a' n' cap')) R B (some l') := by
  subst hn
  refine ⟨hB, a', cap', ?_, vw_kp hv ((Kp.refl [R] w).setCell (.inl (by simp)) _) (by simpa using hB), h1, h2⟩
  have e1 := heap_setCell_same w R 0 _ 461 (.slice a' l'.length cap') H
  rw [e1]; rfl

set_option maxHeartbeats 400000 in
theorem next_some (R B : Nat) (c : UInt8) (r : List UInt8) (w : World) (h : Rd w R B (some (c :: r))) :
    Calls Tryz.prog 448 #[.pointer (some ⟨R, 0, none⟩)] w fun e w' => e = .returned (.int .u8 c.toNat) ∧ Rd w' R B (some r) ∧ Kp [R] w w' := by
  obtain ⟨hBR, a, cap, hb, hv, hn, hcap⟩ := h
  obtain ⟨g, off, rfl, hg, hc⟩ : ∃ g off, a = some ⟨g, off, none⟩ ∧ g < B ∧ ∀ j (h : j < (c :: r).length), w.cell? ⟨g, off + j, none⟩ = some (.int .u8 ((c :: r)[j].toNat : Int)) := by
    rcases hv with h | h
    · simp at h
    · exact h
  have hc0 := hc 0 (by simp)
  simp only [Nat.add_zero, List.getElem_cons_zero] at hc0
  obtain ⟨c0, c1, f0, f1⟩ := rd_cells hb
  have H := hide hb
  have HC := hide hc
  obtain ⟨n, hnE⟩ : ∃ n, n = (c :: r).length := ⟨_, rfl⟩
  rw [← hnE] at c0 hn
  have hn0 : 0 < n := by rw [hnE]; simp
  have HN := hide hnE
  clear hb hc hv hnE
  go_enter Tryz.func448, Tryz.ntmps448
  go_wp2_with fail
  · go_ret
    have hr : r = [] := by have := HN.out; simp at this; exact List.eq_nil_of_length_eq_zero (by omega)
    refine ⟨rfl, rd_put hBR H.out (by have := HN.out; simp at this; omega) (.inr ⟨g, off, rfl, hg, fun j hj => by rw [hr] at hj; simp at hj⟩) (by rw [hr]; simp) (by omega), (Kp.refl _ _).setCell (.inl (by simp)) _⟩
  · go_ret
    have hr : n = r.length + 1 := by have := HN.out; simpa using this
    refine ⟨rfl, rd_put hBR H.out (by omega) (.inr ⟨g, off + 1, rfl, hg, fun j hj => ?_⟩) (by omega) (by omega), (Kp.refl _ _).setCell (.inl (by simp)) _⟩
    have := HC.out (j + 1) (by simpa using hj)
    rw [show off + (j + 1) = off + 1 + j by omega] at this
    simpa using this

theorem next_any (R B : Nat) (st : Option (List UInt8)) (w : World) (h : Rd w R B st) :
    Calls Tryz.prog 448 #[.pointer (some ⟨R, 0, none⟩)] w fun e w' => e = .returned (.int .u8 (nextF st).1.toNat) ∧ Rd w' R B (nextF st).2 ∧ Kp [R] w w' := by
  match st, h with
  | none, h => exact next_none R B w (.inl h)
  | some [], h => exact next_none R B w (.inr h)
  | some (c :: r), h => exact next_some R B c r w h

/-- A small number: f: how many bytes it may have yet. -/
def smallG : Nat → Nat → Nat → Option (List UInt8) → Nat × Option (List UInt8)
  | 0, _, _, _ => (0, none)
  | f + 1, i, n, st =>
    if (nextF st).1.toNat < 128 then (n + (nextF st).1.toNat * 128 ^ i, if (nextF st).1 = 0 ∧ 0 < i then none else (nextF st).2)
    else smallG f (i + 1) (n + ((nextF st).1.toNat - 128) * 128 ^ i) (nextF st).2

theorem b127 (c : Nat) (h : c < 256) : bits .and .u8 (c : Int) 127 = ((c % 128 : Nat) : Int) := by
  have := u8_and_nat c 127 h (by omega)
  rw [show ((127 : Nat) : Int) = 127 from rfl] at this
  rw [this, show (127 : Nat) = 2 ^ 7 - 1 from rfl, Nat.and_two_pow_sub_one_eq_mod]
set_option maxRecDepth 10000 in
theorem b128a : ∀ c : Fin 256, (c.val &&& 128) = c.val / 128 * 128 := by decide
theorem b128 (c : Nat) (h : c < 256) : bits .and .u8 (c : Int) 128 = ((c / 128 * 128 : Nat) : Int) := by
  have := u8_and_nat c 128 h (by omega)
  rw [show ((128 : Nat) : Int) = 128 from rfl] at this
  rw [this, b128a ⟨c, h⟩]
theorem p128 (k : Nat) (hk : k < 9) : 128 ^ k ≤ 72057594037927936 ∧ (2 : Int) ^ (7 * k) = (128 ^ k : Nat) ∧ (2 : Nat) ^ (7 * k) = 128 ^ k := by
  have : k = 0 ∨ k = 1 ∨ k = 2 ∨ k = 3 ∨ k = 4 ∨ k = 5 ∨ k = 6 ∨ k = 7 ∨ k = 8 := by omega
  rcases this with rfl | rfl | rfl | rfl | rfl | rfl | rfl | rfl | rfl <;> decide
theorem ofInt_i64 (a : Nat) (h : a < 9223372036854775808) : (BitVec.ofInt 64 (a : Int)).toNat = a := by
  rw [BitVec.toNat_ofInt]; omega
theorem i64_or_nat (a b : Nat) (ha : a < 9223372036854775808) (hb : b < 9223372036854775808) : bits .or .i64 (a : Int) (b : Int) = ((a ||| b : Nat) : Int) := by
  have hx : a ||| b < 2 ^ 63 := Nat.or_lt_two_pow (by omega) (by omega)
  show IntKind.i64.wrap ((BitVec.ofInt 64 (a : Int) ||| BitVec.ofInt 64 (b : Int)).toNat : Int) = _
  rw [BitVec.toNat_or, ofInt_i64 a (by omega), ofInt_i64 b (by omega)]
  generalize a ||| b = x at *
  simp [IntKind.wrap, IntKind.bits, IntKind.signed]
  omega
theorem bor (n m k : Nat) (hk : k < 9) (hn : n < 128 ^ k) (hm : m < 128) : bits .or .i64 (n : Int) (wrap64 ((m : Int) * 2 ^ (7 * k))) = ((n + m * 128 ^ k : Nat) : Int) := by
  obtain ⟨h1, h2, h3⟩ := p128 k hk
  have hb : m * 128 ^ k ≤ 127 * 72057594037927936 := Nat.mul_le_mul (by omega) h1
  have e : wrap64 ((m : Int) * 2 ^ (7 * k)) = ((m * 128 ^ k : Nat) : Int) := by
    rw [h2, ← Int.natCast_mul]
    simp only [wrap64]
    omega
  rw [e, i64_or_nat n (m * 128 ^ k) (by omega) (by omega)]
  congr 1
  rw [Nat.or_comm, ← h3, Nat.mul_comm, ← Nat.two_pow_add_eq_or_of_lt (by rw [h3]; exact hn), Nat.add_comm]

set_option maxHeartbeats 400000 in
theorem small_rd (R B : Nat) (st : Option (List UInt8)) (w : World) (h : Rd w R B st) :
    Calls Tryz.prog 415 #[.pointer (some ⟨R, 0, none⟩)] w fun e w' => e = .returned (.int .i64 (smallG 9 0 0 st).1) ∧ Rd w' R B (smallG 9 0 0 st).2 ∧ Kp [R] w w' := by
  obtain ⟨res, hres⟩ : ∃ res, smallG 9 0 0 st = res := ⟨_, rfl⟩
  rw [hres]
  have HR := hide hres
  have HD := hide h
  clear hres h
  go_enter Tryz.func415, Tryz.ntmps415
  go_wp2_with fail
  go_loopw [3, 6] (fun nv iv wr => ∃ (k n : Nat) (s : Option (List UInt8)), k ≤ 9 ∧ n < 128 ^ k ∧ nv = .int .i64 n ∧ iv = .int .i64 k ∧ smallG (9 - k) k n s = res ∧ Rd wr R B s ∧ Kp [R] w wr) (fun _ iv _ => 9 - (intOf iv).toNat)
  case atStart => exact ⟨0, 0, st, by omega, by omega, rfl, rfl, HR.out, HD.out, Kp.refl _ _⟩
  case round =>
    obtain ⟨k, n, s, hk, hn, rfl, rfl, hs, hr, hkp⟩ := hrel
    by_cases hlt : k < 9
    · have HS := hide hs
      have Hr := hide hr
      have Hn := hide hn
      clear hs hr hn
      go_wp2_with fail
      obtain ⟨c, s', hcs⟩ : ∃ c s', nextF s = (c, s') := ⟨_, _, rfl⟩
      have hN := next_any R B s wr Hr.out
      rw [hcs] at hN
      refine hN.mono ?_
      rintro e w' ⟨rfl, hr', hkp'⟩
      have Hcs := hide hcs
      have Hr' := hide hr'
      clear hr' hcs hN
      have c256 : c.toNat < 256 := c.toNat_lt
      obtain ⟨m, hm⟩ : ∃ m, c.toNat % 128 = m := ⟨_, rfl⟩
      obtain ⟨q, hq⟩ : ∃ q, n + m * 128 ^ k = q := ⟨_, rfl⟩
      have hA := b127 c.toNat c256
      rw [hm] at hA
      have hm128 : m < 128 := by omega
      have hO := bor n m k hlt Hn.out hm128
      rw [hq] at hO
      have hB := b128 c.toNat c256
      have Hm := hide hm
      have Hq := hide hq
      have hpow : Hid (q < 128 ^ (k + 1)) := by
        have h1 := Hn.out
        have h2 : m * 128 ^ k ≤ 127 * 128 ^ k := Nat.mul_le_mul_right _ (by omega)
        show q < 128 ^ (k + 1)
        rw [Nat.pow_succ]; omega
      have kp2 := hkp.next hkp'
      by_cases hlow : c.toNat < 128
      · rw [show c.toNat / 128 * 128 = 0 by omega] at hB
        have hS : Hid ((q, if c = 0 ∧ 0 < k then none else s') = res) := by
          show (q, if c = 0 ∧ 0 < k then none else s') = res
          have h1 := HS.out
          obtain ⟨f, hf⟩ : ∃ f, 9 - k = f + 1 := ⟨8 - k, by omega⟩
          rw [hf, smallG, Hcs.out, if_pos hlow] at h1
          rw [← h1, ← hq]
          have : m = c.toNat := by omega
          rw [this]
        clear hm hq
        go_wp2_with fail
        · refine (fail_any R B Hr'.out.le _ _ w' (Classical.choose_spec (Classical.choose_spec Hr'.out.block))).mono ?_
          rintro e w2 ⟨rfl, hr2, hk2⟩
          have Hr2 := hide hr2
          clear hr2
          go_wp2_with fail
          go_ret
          have h0 : c = 0 := UInt8.toNat_inj.1 (by simpa using by assumption)
          have e := hS.out
          rw [if_pos ⟨h0, by assumption⟩] at e
          rw [← e]
          exact ⟨rfl, Hr2.out, kp2.next hk2⟩
        · go_ret
          have e := hS.out
          rw [if_neg (fun h => by have := h.2; contradiction)] at e
          rw [← e]
          exact ⟨rfl, Hr'.out, kp2⟩
        · go_ret
          have h0 : ¬ c = 0 := fun h => by subst h; simp at *
          have e := hS.out
          rw [if_neg (fun h => h0 h.1)] at e
          rw [← e]
          exact ⟨rfl, Hr'.out, kp2⟩
      · rw [show c.toNat / 128 * 128 = 128 by omega] at hB
        have hS : Hid (smallG (9 - (k + 1)) (k + 1) q s' = res) := by
          have h1 := HS.out
          obtain ⟨f, hf⟩ : ∃ f, 9 - k = f + 1 := ⟨8 - k, by omega⟩
          rw [hf, smallG, Hcs.out, if_neg hlow, show c.toNat - 128 = m by omega, hq] at h1
          rw [show 9 - (k + 1) = f by omega]
          exact h1
        clear hm hq
        go_wp2_with fail
        go_roundw
        case rel => exact ⟨k + 1, q, s', by omega, hpow.out, rfl, by go_num, hS.out, Hr'.out, kp2⟩
        case measure => simp [intOf]; omega
    · have : k = 9 := by omega
      subst this
      have hs4 : (0, none) = res := hs
      have Hr := hide hr
      have HS4 := hide hs4
      clear hs hr hs4
      go_wp2_with fail
      refine (fail_any R B Hr.out.le _ _ wr (Classical.choose_spec (Classical.choose_spec Hr.out.block))).mono ?_
      rintro e w2 ⟨rfl, hr2, hk2⟩
      have Hr2 := hide hr2
      clear hr2
      go_wp2_with fail
      go_ret
      rw [← HS4.out]
      exact ⟨rfl, Hr2.out, hkp.next hk2⟩
end Go.Proofs.YtpdoacfiiledcaaGreatDoor.Pak
