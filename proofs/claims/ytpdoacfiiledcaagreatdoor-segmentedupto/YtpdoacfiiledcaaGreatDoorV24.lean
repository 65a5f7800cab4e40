import Derived.Test.YtpdoacfiiledcaaGreatDoorProg
import Derived.WalkKit
import Derived.WalkSpells
import Derived.WalkLawsBesides
import Derived.BigQuiet
import Derived.Deep.QuietTactic

namespace Go.Proofs.YtpdoacfiiledcaaGreatDoor.ChkM

def isSm (c : UInt8) : Bool := (decide (97 ≤ c.toNat) && decide (c.toNat ≤ 122)) || (decide (48 ≤ c.toNat) && decide (c.toNat ≤ 57))

/-! The reading by descent. -/
def takeC (c : UInt8) : List UInt8 → Bool × List UInt8
  | [] => (false, [])
  | a :: t => if a = c then (true, t) else (false, a :: t)
def wordLen : Nat → List UInt8 → Nat
  | 0, _ => 0
  | _ + 1, [] => 0
  | n + 1, a :: t => if isSm a then wordLen n t + 1 else 0
def wordP (l : List UInt8) : Bool × List UInt8 := (decide (0 < wordLen 8 l), l.drop (wordLen 8 l))
def phraseP : Nat → List UInt8 → Bool × List UInt8
  | 0, l => (false, l)
  | f + 1, l => if (wordP l).1 then (if (takeC 32 (wordP l).2).1 then phraseP f (takeC 32 (wordP l).2).2 else takeC 34 (wordP l).2) else (false, (wordP l).2)
def termP (l : List UInt8) : Bool × List UInt8 := if (wordP l).1 then (true, (takeC 42 (wordP l).2).2) else (false, (wordP l).2)
def ps : Nat → Nat → Nat → List UInt8 → Bool × List UInt8
  | 0, _, _, l => (false, l)
  | f + 1, 0, d, l =>
    if d < 5 ∧ (takeC 33 l).1 = true then ps f 0 (d + 1) (takeC 33 l).2
    else if d < 5 ∧ (takeC 40 l).1 = true then
      (if (ps f 2 (d + 1) (takeC 40 l).2).1 then takeC 41 (ps f 2 (d + 1) (takeC 40 l).2).2 else (false, (ps f 2 (d + 1) (takeC 40 l).2).2))
    else if (takeC 34 l).1 then phraseP (l.length + 1) (takeC 34 l).2
    else termP l
  | f + 1, 1, d, l => if (ps f 0 d l).1 then (if (takeC 38 (ps f 0 d l).2).1 then ps f 1 d (takeC 38 (ps f 0 d l).2).2 else (true, (ps f 0 d l).2)) else (false, (ps f 0 d l).2)
  | f + 1, _ + 2, d, l => if (ps f 1 d l).1 then (if (takeC 124 (ps f 1 d l).2).1 then ps f 2 d (takeC 124 (ps f 1 d l).2).2 else (true, (ps f 1 d l).2)) else (false, (ps f 1 d l).2)

/-! The stations. -/
structure St where
  at_ : Nat
  n : Nat
  deep : Nat
  op : List Nat
def around : List Nat → Nat
  | [] => 0
  | d :: _ => d + 1
def joinsA (s : St) (c : UInt8) : St :=
  if c = 38 ∨ c = 124 then { s with at_ := 0, deep := around s.op }
  else if c = 41 ∧ s.op ≠ [] then { s with at_ := 2, op := s.op.tail }
  else { s with at_ := 4 }
def partA (s : St) (c : UInt8) : St :=
  if isSm c = true then { s with at_ := 1, n := 1 }
  else if c = 34 then { s with at_ := 3, n := 0 }
  else if c = 33 ∧ s.deep < 5 then { s with deep := s.deep + 1 }
  else if c = 40 ∧ s.deep < 5 then { s with op := s.deep :: s.op, deep := s.deep + 1 }
  else { s with at_ := 4 }
def stepA (s : St) (c : UInt8) : St :=
  if s.at_ = 0 then partA s c
  else if s.at_ = 1 then
    (if isSm c = true ∧ s.n < 8 then { s with n := s.n + 1 } else if c = 42 then { s with at_ := 2 } else if isSm c = true then { s with at_ := 4 } else joinsA s c)
  else if s.at_ = 2 then joinsA s c
  else if s.at_ = 3 then
    (if isSm c = true ∧ s.n < 8 then { s with n := s.n + 1 } else if c = 32 ∧ 0 < s.n then { s with n := 0 } else if c = 34 ∧ 0 < s.n then { s with at_ := 2 } else { s with at_ := 4 })
  else s
def runA : St → List UInt8 → Option (List UInt8) × St
  | s, [] => (none, s)
  | s, c :: t => if (stepA s c).at_ = 4 then (some (c :: t), stepA s c) else runA (stepA s c) t

theorem run_live {s s' : St} {c : UInt8} {t : List UInt8} (h : stepA s c = s') (h4 : s'.at_ ≠ 4) : runA s (c :: t) = runA s' t := by
  rw [runA, h, if_neg h4]
theorem run_dead {s s' : St} {c : UInt8} {t : List UInt8} (h : stepA s c = s') (h4 : s'.at_ = 4) : runA s (c :: t) = (some (c :: t), s') := by
  rw [runA, h, if_pos h4]

/-- What a reading is worth: it came through, or the stations end there. -/
def Through (s : St) (l r : List UInt8) (O : List Nat) : Prop :=
  ∃ s', runA s l = runA s' r ∧ s'.op = O ∧ (s'.at_ = 1 ∨ s'.at_ = 2) ∧ ∀ c t, r = c :: t → stepA s' c = joinsA s' c
def acc (s : St) : Prop := (s.at_ = 1 ∨ s.at_ = 2) ∧ s.op = []
def Ends (s : St) (l r : List UInt8) : Prop :=
  (r ≠ [] ∧ ∃ s', runA s l = (some r, s')) ∨ (r = [] ∧ ∃ s', runA s l = (none, s') ∧ ¬ acc s')
def Good (s : St) (l : List UInt8) (p : Bool × List UInt8) (O : List Nat) : Prop :=
  (p.1 = true → Through s l p.2 O) ∧ (p.1 = false → Ends s l p.2)

theorem small_not (c : UInt8) (h : isSm c = true) : c ≠ 33 ∧ c ≠ 34 ∧ c ≠ 38 ∧ c ≠ 40 ∧ c ≠ 41 ∧ c ≠ 42 ∧ c ≠ 32 ∧ c ≠ 124 := by
  refine ⟨?_, ?_, ?_, ?_, ?_, ?_, ?_, ?_⟩ <;> (rintro rfl; exact absurd h (by decide))

theorem word_le : ∀ (n : Nat) (l : List UInt8), wordLen n l ≤ n ∧ wordLen n l ≤ l.length
  | 0, _ => by simp [wordLen]
  | n + 1, [] => by simp [wordLen]
  | n + 1, a :: t => by
    have := word_le n t
    unfold wordLen
    split <;> simp <;> omega

/-- The bytes of a word are gone over, in a term (1) or a phrase (3). -/
theorem word_run (k : Nat) (hk : k = 1 ∨ k = 3) : ∀ (l : List UInt8) (m : Nat) (s : St), s.at_ = k → s.n = m → m ≤ 8 →
    runA s l = runA { s with n := m + wordLen (8 - m) l } (l.drop (wordLen (8 - m) l))
  | [], m, s, h1, h2, h3 => by
    have : wordLen (8 - m) [] = 0 := by cases 8 - m <;> rfl
    rw [this]; subst h2; rfl
  | c :: t, m, s, h1, h2, h3 => by
    by_cases hm : m < 8
    · obtain ⟨j, hj⟩ : ∃ j, 8 - m = j + 1 := ⟨7 - m, by omega⟩
      rw [hj]
      unfold wordLen
      by_cases hc : isSm c = true
      · rw [if_pos hc]
        have hs : stepA s c = { s with n := m + 1 } := by
          unfold stepA
          rcases hk with rfl | rfl
          · rw [if_neg (by omega), if_pos h1, if_pos ⟨hc, by omega⟩, h2]
          · rw [if_neg (by omega), if_neg (by omega), if_neg (by omega), if_pos h1, if_pos ⟨hc, by omega⟩, h2]
        rw [run_live hs (by show s.at_ ≠ 4; omega)]
        rw [word_run k hk t (m + 1) { s with n := m + 1 } h1 rfl (by omega)]
        rw [show 8 - (m + 1) = j by omega, List.drop_succ_cons, show m + 1 + wordLen j t = m + (wordLen j t + 1) by omega]
      · rw [if_neg hc]; subst h2; rfl
    · rw [show 8 - m = 0 by omega]
      show runA s (c :: t) = runA { s with n := m + 0 } (c :: t)
      subst h2; rfl

/-- Behind the longest word: what comes is no small byte, or there are eight. -/
theorem word_next : ∀ (n : Nat) (l : List UInt8) (c : UInt8) (t : List UInt8), l.drop (wordLen n l) = c :: t → isSm c = false ∨ wordLen n l = n
  | 0, l, c, t, h => by right; rfl
  | n + 1, [], c, t, h => by simp [wordLen] at h
  | n + 1, a :: u, c, t, h => by
    unfold wordLen at h ⊢
    by_cases ha : isSm a = true
    · rw [if_pos ha, List.drop_succ_cons] at h
      rw [if_pos ha]
      rcases word_next n u c t h with h' | h'
      · exact Or.inl h'
      · right; omega
    · rw [if_neg ha] at h
      simp at h
      left
      rw [← h.1]; simpa using ha

theorem ends_of {s s' : St} {l l' r : List UInt8} (h : runA s l = runA s' l') (he : Ends s' l' r) : Ends s l r := by
  unfold Ends at *; rw [h]; exact he
theorem through_of {s s' : St} {l l' r : List UInt8} {O : List Nat} (h : runA s l = runA s' l') (he : Through s' l' r O) : Through s l r O := by
  obtain ⟨x, h1, h2⟩ := he; exact ⟨x, h.trans h1, h2⟩
theorem good_of {s s' : St} {l l' : List UInt8} {p : Bool × List UInt8} {O : List Nat} (h : runA s l = runA s' l') (he : Good s' l' p O) : Good s l p O :=
  ⟨fun h1 => through_of h (he.1 h1), fun h1 => ends_of h (he.2 h1)⟩

theorem takeC_yes {c : UInt8} {l : List UInt8} (h : (takeC c l).1 = true) : l = c :: (takeC c l).2 := by
  cases l with
  | nil => simp [takeC] at h
  | cons a t =>
    unfold takeC at h ⊢
    by_cases e : a = c
    · subst e; simp
    · simp [e] at h
theorem takeC_no {c : UInt8} {l : List UInt8} (h : (takeC c l).1 = false) : (takeC c l).2 = l ∧ ∀ t, l ≠ c :: t := by
  cases l with
  | nil => simp [takeC]
  | cons a t =>
    unfold takeC at h ⊢
    by_cases e : a = c
    · simp [e] at h
    · simp [e]

theorem first_word {s : St} {l : List UInt8} (h0 : s.at_ = 0) (hw : 0 < wordLen 8 l) : runA s l = runA { s with at_ := 1, n := wordLen 8 l } (l.drop (wordLen 8 l)) := by
  cases l with
  | nil => simp [wordLen] at hw
  | cons c t =>
    by_cases hc : isSm c = true
    · have hs : stepA s c = { s with at_ := 1, n := 1 } := by
        unfold stepA partA; rw [if_pos h0, if_pos hc]
      rw [run_live hs (by simp)]
      rw [word_run 1 (Or.inl rfl) t 1 { s with at_ := 1, n := 1 } rfl rfl (by omega)]
      have e : wordLen 8 (c :: t) = wordLen 7 t + 1 := by rw [wordLen, if_pos hc]
      rw [e, List.drop_succ_cons, show 8 - 1 = 7 by rfl, Nat.add_comm]
    · rw [wordLen, if_neg hc] at hw; omega

theorem term_good (s : St) (l : List UInt8) (h0 : s.at_ = 0) (h34 : ∀ t, l ≠ 34 :: t) (h33 : s.deep < 5 → ∀ t, l ≠ 33 :: t) (h40 : s.deep < 5 → ∀ t, l ≠ 40 :: t) :
    Good s l (termP l) s.op := by
  unfold termP wordP
  by_cases hw : 0 < wordLen 8 l
  · simp only [hw, decide_true, if_true]
    have hrun := first_word h0 hw
    cases h42 : (takeC 42 (l.drop (wordLen 8 l))).1 with
    | true =>
      have e := takeC_yes h42
      refine ⟨fun _ => ?_, fun h => by simp at h⟩
      refine ⟨{ s with at_ := 2, n := wordLen 8 l }, ?_, rfl, Or.inr rfl, fun c t _ => by unfold stepA; simp⟩
      rw [hrun]
      conv => lhs; rw [e]
      refine run_live ?_ (by simp)
      unfold stepA; simp
      exact fun h => absurd h (by decide)
    | false =>
      obtain ⟨e1, e2⟩ := takeC_no h42
      refine ⟨fun _ => ?_, fun h => by simp at h⟩
      show Through s l (takeC 42 (l.drop (wordLen 8 l))).2 s.op
      rw [e1]
      refine ⟨{ s with at_ := 1, n := wordLen 8 l }, hrun, rfl, Or.inl rfl, fun c t hc => ?_⟩
      have hne : c ≠ 42 := fun e => e2 t (by rw [hc, e])
      unfold stepA
      simp only [Nat.one_ne_zero, if_false, if_true]
      rcases word_next 8 l c t hc with hs | h8
      · rw [if_neg (by simp [hs]), if_neg hne, if_neg (by simp [hs])]
      · rw [if_neg (by simp [h8]), if_neg hne]
        by_cases hs : isSm c = true
        · rw [if_pos hs]
          have := small_not c hs
          unfold joinsA
          rw [if_neg (by simp [this]), if_neg (by simp [this])]
        · rw [if_neg hs]
  · have hz : wordLen 8 l = 0 := by omega
    simp only [hz, Nat.lt_irrefl, decide_false, List.drop_zero]
    refine ⟨fun h => by simp at h, fun _ => ?_⟩
    show Ends s l l
    cases l with
    | nil => exact Or.inr ⟨rfl, s, rfl, fun h => by have := h.1; omega⟩
    | cons c t =>
      left
      refine ⟨by simp, _, run_dead rfl ?_⟩
      have hc : ¬ isSm c = true := by
        intro hc
        rw [wordLen, if_pos hc] at hz; omega
      unfold stepA partA
      rw [if_pos h0, if_neg hc, if_neg (fun e => h34 t (by rw [e])), if_neg (fun e => h33 e.2 t (by rw [e.1])), if_neg (fun e => h40 e.2 t (by rw [e.1]))]

theorem phrase_good : ∀ (f : Nat) (s : St) (l : List UInt8), s.at_ = 3 → s.n = 0 → l.length < f → Good s l (phraseP f l) s.op
  | 0, s, l, _, _, hf => by omega
  | f + 1, s, l, h3, hn, hf => by
    have hrun := word_run 3 (Or.inr rfl) l 0 s h3 hn (by omega)
    rw [Nat.zero_add, show 8 - 0 = 8 by rfl] at hrun
    have hle := word_le 8 l
    unfold phraseP
    by_cases hw : 0 < wordLen 8 l
    · have e0 : (wordP l).1 = true := by simp [wordP, hw]
      have e1 : (wordP l).2 = l.drop (wordLen 8 l) := rfl
      rw [if_pos e0, e1]
      cases h32 : (takeC 32 (l.drop (wordLen 8 l))).1 with
      | true =>
        rw [if_pos rfl]
        have e := takeC_yes h32
        have hlen : (takeC 32 (l.drop (wordLen 8 l))).2.length < f := by
          have := congrArg List.length e
          rw [List.length_drop, List.length_cons] at this
          omega
        have ih := phrase_good f { s with n := 0 } (takeC 32 (l.drop (wordLen 8 l))).2 h3 rfl hlen
        refine good_of ?_ ih
        rw [hrun]
        conv => lhs; rw [e]
        refine run_live ?_ (by show s.at_ ≠ 4; omega)
        unfold stepA
        simp [h3, hw]
        exact fun h => absurd h (by decide)
      | false =>
        rw [if_neg (by simp)]
        obtain ⟨_, e32⟩ := takeC_no h32
        cases h34 : (takeC 34 (l.drop (wordLen 8 l))).1 with
        | true =>
          have e := takeC_yes h34
          refine ⟨fun _ => ?_, fun h => by rw [h34] at h; simp at h⟩
          refine ⟨{ s with at_ := 2, n := wordLen 8 l }, ?_, rfl, Or.inr rfl, fun c t _ => by unfold stepA; simp⟩
          rw [hrun]
          conv => lhs; rw [e]
          refine run_live ?_ (by simp)
          unfold stepA
          simp [h3, hw]
          exact fun h => absurd h (by decide)
        | false =>
          obtain ⟨e1, e34⟩ := takeC_no h34
          refine ⟨fun h => by rw [h34] at h; simp at h, fun _ => ?_⟩
          rw [e1]
          refine ends_of hrun ?_
          cases hl : l.drop (wordLen 8 l) with
          | nil => exact Or.inr ⟨rfl, _, rfl, fun h => by have := h.1; simp [h3] at this⟩
          | cons c t =>
            left
            refine ⟨by simp, _, run_dead rfl ?_⟩
            have n32 : c ≠ 32 := fun e => e32 t (by rw [hl, e])
            have n34 : c ≠ 34 := fun e => e34 t (by rw [hl, e])
            unfold stepA
            simp only [h3]
            rcases word_next 8 l c t hl with hs | h8
            · simp [hs, n32, n34]
            · simp [h8, n32, n34]
    · have hz : wordLen 8 l = 0 := by omega
      have e0 : (wordP l).1 = false := by simp [wordP, hz]
      have e1 : (wordP l).2 = l := by simp [wordP, hz]
      rw [if_neg (by simp [e0]), e1]
      refine ⟨fun h => by simp at h, fun _ => ?_⟩
      show Ends s l l
      cases l with
      | nil => exact Or.inr ⟨rfl, s, rfl, fun h => by have := h.1; omega⟩
      | cons c t =>
        left
        refine ⟨by simp, _, run_dead rfl ?_⟩
        have hc : ¬ isSm c = true := by
          intro hc
          rw [wordLen, if_pos hc] at hz; omega
        unfold stepA
        simp [h3, hn, hc]

theorem takeC_len (c : UInt8) (l : List UInt8) : (takeC c l).2.length ≤ l.length ∧ ((takeC c l).1 = true → (takeC c l).2.length + 1 = l.length) := by
  cases l with
  | nil => simp [takeC]
  | cons a t =>
    unfold takeC
    by_cases e : a = c
    · simp [e]
    · simp [e]
theorem phrase_len : ∀ (f : Nat) (l : List UInt8), (phraseP f l).2.length ≤ l.length
  | 0, l => Nat.le_refl _
  | f + 1, l => by
    have h1 : (wordP l).2.length ≤ l.length := by simp [wordP]
    unfold phraseP
    split
    · split
      · have h2 := phrase_len f (takeC 32 (wordP l).2).2
        have h3 := (takeC_len 32 (wordP l).2).1
        omega
      · have h3 := (takeC_len 34 (wordP l).2).1
        omega
    · exact h1
theorem term_len (l : List UInt8) : (termP l).2.length ≤ l.length := by
  have h1 : (wordP l).2.length ≤ l.length := by simp [wordP]
  unfold termP
  split
  · have h3 := (takeC_len 42 (wordP l).2).1
    show (takeC 42 (wordP l).2).2.length ≤ _; omega
  · exact h1
theorem ps_len : ∀ (f tag d : Nat) (l : List UInt8), (ps f tag d l).2.length ≤ l.length
  | 0, _, _, l => Nat.le_refl _
  | f + 1, 0, d, l => by
    unfold ps
    split
    · have h1 := ps_len f 0 (d + 1) (takeC 33 l).2
      have h2 := (takeC_len 33 l).1
      omega
    · split
      · have h1 := ps_len f 2 (d + 1) (takeC 40 l).2
        have h2 := (takeC_len 40 l).1
        split
        · have h3 := (takeC_len 41 (ps f 2 (d + 1) (takeC 40 l).2).2).1
          omega
        · show (ps f 2 (d + 1) (takeC 40 l).2).2.length ≤ _; omega
      · split
        · have h1 := phrase_len (l.length + 1) (takeC 34 l).2
          have h2 := (takeC_len 34 l).1
          omega
        · exact term_len l
  | f + 1, 1, d, l => by
    have h1 := ps_len f 0 d l
    unfold ps
    split
    · split
      · have h2 := ps_len f 1 d (takeC 38 (ps f 0 d l).2).2
        have h3 := (takeC_len 38 (ps f 0 d l).2).1
        omega
      · exact h1
    · exact h1
  | f + 1, tag + 2, d, l => by
    have h1 := ps_len f 1 d l
    unfold ps
    split
    · split
      · have h2 := ps_len f 2 d (takeC 124 (ps f 1 d l).2).2
        have h3 := (takeC_len 124 (ps f 1 d l).2).1
        omega
      · exact h1
    · exact h1

/-- What is not taken any more. -/
def Nots (tag : Nat) (r : List UInt8) : Prop := (1 ≤ tag → ∀ t, r ≠ 38 :: t) ∧ (2 ≤ tag → ∀ t, r ≠ 124 :: t)

theorem ps_good : ∀ (f tag d : Nat) (s : St) (l : List UInt8), tag ≤ 2 → 3 * l.length + tag + 1 ≤ f → s.at_ = 0 → s.deep = d → (1 ≤ tag → d = around s.op) →
    Good s l (ps f tag d l) s.op ∧ ((ps f tag d l).1 = true → Nots tag (ps f tag d l).2)
  | 0, tag, d, s, l, ht, hf, h0, hd, ha => by omega
  | f + 1, 0, d, s, l, ht, hf, h0, hd, ha => by
    refine ⟨?_, fun _ => ⟨fun h => by omega, fun h => by omega⟩⟩
    unfold ps
    by_cases c33 : d < 5 ∧ (takeC 33 l).1 = true
    · rw [if_pos c33]
      have e := takeC_yes c33.2
      have hlen := (takeC_len 33 l).2 c33.2
      have ih := (ps_good f 0 (d + 1) { s with deep := d + 1 } (takeC 33 l).2 (by omega) (by omega) h0 rfl (fun h => by omega)).1
      refine good_of ?_ ih
      conv => lhs; rw [e]
      refine run_live ?_ (by show s.at_ ≠ 4; omega)
      unfold stepA partA
      rw [if_pos h0, if_neg (by decide), if_neg (by decide), if_pos ⟨rfl, by omega⟩, hd]
    · rw [if_neg c33]
      by_cases c40 : d < 5 ∧ (takeC 40 l).1 = true
      · rw [if_pos c40]
        have e := takeC_yes c40.2
        have hlen := (takeC_len 40 l).2 c40.2
        have hrun : runA s l = runA { s with op := d :: s.op, deep := d + 1 } (takeC 40 l).2 := by
          conv => lhs; rw [e]
          refine run_live ?_ (by show s.at_ ≠ 4; omega)
          unfold stepA partA
          rw [if_pos h0, if_neg (by decide), if_neg (by decide), if_neg (by simp), if_pos ⟨rfl, by omega⟩, hd]
        have ih := ps_good f 2 (d + 1) { s with op := d :: s.op, deep := d + 1 } (takeC 40 l).2 (by omega) (by omega) h0 rfl (fun _ => rfl)
        cases hq : (ps f 2 (d + 1) (takeC 40 l).2).1 with
        | true =>
          rw [if_pos rfl]
          obtain ⟨s', h1, h2, h3, h4⟩ := ih.1.1 hq
          have hno := ih.2 hq
          generalize (ps f 2 (d + 1) (takeC 40 l).2).2 = r at *
          cases h41 : (takeC 41 r).1 with
          | true =>
            have e1 := takeC_yes h41
            refine ⟨fun _ => ⟨{ s' with at_ := 2, op := s.op }, ?_, rfl, Or.inr rfl, fun c t _ => by unfold stepA; simp⟩, fun h => by rw [h41] at h; simp at h⟩
            rw [hrun, h1]
            conv => lhs; rw [e1]
            refine run_live ?_ (by simp)
            rw [h4 41 _ e1]
            unfold joinsA
            rw [if_neg (by decide), if_pos ⟨rfl, by rw [h2]; simp⟩, h2]; rfl
          | false =>
            obtain ⟨e1, e2⟩ := takeC_no h41
            refine ⟨fun h => by rw [h41] at h; simp at h, fun _ => ?_⟩
            rw [e1]
            refine ends_of (hrun.trans h1) ?_
            cases r with
            | nil => exact Or.inr ⟨rfl, s', rfl, fun h => by have := h.2; rw [h2] at this; simp at this⟩
            | cons c t =>
              left
              refine ⟨by simp, _, run_dead rfl ?_⟩
              rw [h4 c t rfl]
              unfold joinsA
              rw [if_neg, if_neg]
              · exact fun h => e2 t (by rw [h.1])
              · rintro (rfl | rfl)
                · exact hno.1 (by omega) t rfl
                · exact hno.2 (by omega) t rfl
        | false =>
          rw [if_neg (by simp)]
          exact ⟨fun h => by simp at h, fun _ => ends_of hrun (ih.1.2 hq)⟩
      · rw [if_neg c40]
        cases c34 : (takeC 34 l).1 with
        | true =>
          rw [if_pos rfl]
          have e := takeC_yes c34
          have hlen := (takeC_len 34 l).2 c34
          have ih := phrase_good (l.length + 1) { s with at_ := 3, n := 0 } (takeC 34 l).2 rfl rfl (by omega)
          refine good_of ?_ ih
          conv => lhs; rw [e]
          refine run_live ?_ (by simp)
          unfold stepA partA
          rw [if_pos h0, if_neg (by decide), if_pos rfl]
        | false =>
          rw [if_neg (by simp)]
          refine term_good s l h0 (takeC_no c34).2 ?_ ?_
          · intro h5 t e
            refine c33 ⟨by omega, ?_⟩
            rw [e]; simp [takeC]
          · intro h5 t e
            refine c40 ⟨by omega, ?_⟩
            rw [e]; simp [takeC]
  | f + 1, 1, d, s, l, ht, hf, h0, hd, ha => by
    have ih := (ps_good f 0 d s l (by omega) (by omega) h0 hd (fun h => by omega)).1
    have hl1 := ps_len f 0 d l
    unfold ps
    cases hp : (ps f 0 d l).1 with
    | true =>
      rw [if_pos rfl]
      have hth := ih.1 hp
      generalize (ps f 0 d l).2 = r at *
      cases h38 : (takeC 38 r).1 with
      | true =>
        rw [if_pos rfl]
        have e := takeC_yes h38
        have hlen := (takeC_len 38 r).2 h38
        obtain ⟨s', h1, h2, h3, h4⟩ := hth
        have hrun : runA s l = runA { s' with at_ := 0, deep := around s'.op } (takeC 38 r).2 := by
          rw [h1]
          conv => lhs; rw [e]
          refine run_live ?_ (by simp)
          rw [h4 38 _ e]
          unfold joinsA
          rw [if_pos (Or.inl rfl)]
        have ih2 := ps_good f 1 d { s' with at_ := 0, deep := around s'.op } (takeC 38 r).2 (by omega) (by omega) rfl (by rw [h2, ha (by omega)]) (fun _ => by rw [h2]; exact ha (by omega))
        refine ⟨good_of hrun ?_, ih2.2⟩
        exact h2 ▸ ih2.1
      | false =>
        rw [if_neg (by simp)]
        exact ⟨⟨fun _ => hth, fun h => by simp at h⟩, fun _ => ⟨fun _ => (takeC_no h38).2, fun h => by omega⟩⟩
    | false =>
      rw [if_neg (by simp)]
      exact ⟨⟨fun h => by simp at h, fun _ => ih.2 hp⟩, fun h => by simp at h⟩
  | f + 1, tag + 2, d, s, l, ht, hf, h0, hd, ha => by
    have ih0 := ps_good f 1 d s l (by omega) (by omega) h0 hd (fun h => ha (by omega))
    have ih := ih0.1
    have hl1 := ps_len f 1 d l
    unfold ps
    cases hp : (ps f 1 d l).1 with
    | true =>
      rw [if_pos rfl]
      have hth := ih.1 hp
      have hno := ih0.2 hp
      generalize (ps f 1 d l).2 = r at *
      cases h38 : (takeC 124 r).1 with
      | true =>
        rw [if_pos rfl]
        have e := takeC_yes h38
        have hlen := (takeC_len 124 r).2 h38
        obtain ⟨s', h1, h2, h3, h4⟩ := hth
        have hrun : runA s l = runA { s' with at_ := 0, deep := around s'.op } (takeC 124 r).2 := by
          rw [h1]
          conv => lhs; rw [e]
          refine run_live ?_ (by simp)
          rw [h4 124 _ e]
          unfold joinsA
          rw [if_pos (Or.inr rfl)]
        have ih2 := ps_good f 2 d { s' with at_ := 0, deep := around s'.op } (takeC 124 r).2 (by omega) (by omega) rfl (by rw [h2, ha (by omega)]) (fun _ => by rw [h2]; exact ha (by omega))
        refine ⟨good_of hrun ?_, fun h => ⟨fun _ => (ih2.2 h).1 (by omega), fun _ => (ih2.2 h).2 (by omega)⟩⟩
        exact h2 ▸ ih2.1
      | false =>
        rw [if_neg (by simp)]
        exact ⟨⟨fun _ => hth, fun h => by simp at h⟩, fun _ => ⟨fun _ => hno.1 (by omega), fun _ => (takeC_no h38).2⟩⟩
    | false =>
      rw [if_neg (by simp)]
      exact ⟨⟨fun h => by simp at h, fun _ => ih.2 hp⟩, fun h => by simp at h⟩

/-- What the stations answer, and what the descent answers. -/
def refAns (l : List UInt8) : Int × Nat :=
  match runA ⟨0, 0, 0, []⟩ l with
  | (some r, _) => (8, l.length - r.length)
  | (none, s) => if (s.at_ = 1 ∨ s.at_ = 2) ∧ s.op = [] then (0, 0) else (8, l.length)
def psTop (l : List UInt8) : Bool × List UInt8 := ps (3 * l.length + 3) 2 0 l
def codeAns (l : List UInt8) : Int × Nat := if (psTop l).1 = true ∧ (psTop l).2 = [] then (0, 0) else (8, l.length - (psTop l).2.length)

theorem same_ans (l : List UInt8) : codeAns l = refAns l := by
  have h := ps_good (3 * l.length + 3) 2 0 ⟨0, 0, 0, []⟩ l (by omega) (by omega) rfl rfl (fun _ => rfl)
  change Good ⟨0, 0, 0, []⟩ l (psTop l) [] ∧ ((psTop l).1 = true → Nots 2 (psTop l).2) at h
  unfold codeAns refAns
  generalize psTop l = p at *
  obtain ⟨ok, r⟩ := p
  cases ok with
  | true =>
    obtain ⟨s', h1, h2, h3, h4⟩ := h.1.1 rfl
    have hno := h.2 rfl
    rw [h1]
    cases r with
    | nil => simp [runA, h2, h3]
    | cons c t =>
      have hd : (stepA s' c).at_ = 4 := by
        rw [h4 c t rfl]
        unfold joinsA
        rw [if_neg, if_neg]
        · rw [h2]; simp
        · rintro (rfl | rfl)
          · exact hno.1 (by omega) t rfl
          · exact hno.2 (by omega) t rfl
      rw [run_dead rfl hd]
      simp
  | false =>
    rcases h.1.2 rfl with ⟨hr, s', h1⟩ | ⟨hr, s', h1, h2⟩
    · rw [h1]; simp
    · rw [h1]
      simp only at hr
      subst hr
      unfold acc at h2
      rw [if_neg (by simp)]
      simp only
      rw [if_neg h2]; simp
end Go.Proofs.YtpdoacfiiledcaaGreatDoor.ChkM

namespace Go.Proofs.YtpdoacfiiledcaaGreatDoor
open Go.RowKit ChkM
set_option linter.unusedVariables false

theorem hide {p : Prop} (h : p) : Hid p := h
theorem ret_int {k : IntKind} {a b : Int} (h : a = b) : Ending.returned (.int k a) = .returned (.int k b) := by rw [h]
theorem ret_bool {a b : Bool} (h : a = b) : Ending.returned (.bool a) = .returned (.bool b) := by rw [h]

theorem isSm_int (c : UInt8) : isSm c = (decide ((97 : Int) ≤ c.toNat) && decide ((c.toNat : Int) ≤ 122) || decide ((48 : Int) ≤ c.toNat) && decide ((c.toNat : Int) ≤ 57)) := by
  rw [Bool.eq_iff_iff]; simp [isSm]; omega

set_option maxHeartbeats 400000 in
theorem small_any (c : UInt8) (w : World) :
    Calls Tryz.prog 356 #[.int .u8 c.toNat] w fun e w' => e = .returned (.bool (isSm c)) ∧ w' = w := by
  have hs := hide (isSm_int c)
  by_cases h1 : (97 : Int) ≤ (c.toNat : Int)
  · by_cases h2 : (c.toNat : Int) ≤ 122
    · go_enter Tryz.func356, Tryz.ntmps356
      go_wp2
      go_ret
      exact ⟨ret_bool (by rw [hs.out]; simp [h1, h2]), rfl⟩
    · have h3 : (48 : Int) ≤ (c.toNat : Int) := by omega
      have h4 : ¬ (c.toNat : Int) ≤ 57 := by omega
      go_enter Tryz.func356, Tryz.ntmps356
      go_wp2
      go_ret
      exact ⟨ret_bool (by rw [hs.out]; simp; omega), rfl⟩
  · by_cases h3 : (48 : Int) ≤ (c.toNat : Int)
    · by_cases h4 : (c.toNat : Int) ≤ 57
      · go_enter Tryz.func356, Tryz.ntmps356
        go_wp2
        go_ret
        exact ⟨ret_bool (by rw [hs.out]; simp; omega), rfl⟩
      · go_enter Tryz.func356, Tryz.ntmps356
        go_wp2
        go_ret
        exact ⟨ret_bool (by rw [hs.out]; simp; omega), rfl⟩
    · go_enter Tryz.func356, Tryz.ntmps356
      go_wp2
      go_ret
      exact ⟨ret_bool (by rw [hs.out]; simp; omega), rfl⟩

/-- A parser at block B: its text, and how far it has come. -/
def Pa (w : World) (B : Nat) (s : ByteArray) (k : Nat) : Prop :=
  w.cell? ⟨B, 0, none⟩ = some (.string s) ∧ w.cell? ⟨B, 1, none⟩ = some (.int .i64 k) ∧ w.frozen? ⟨B, 1, none⟩ = false
/-- What a reader of it leaves. -/
def Res (p : Bool × List UInt8) (B : Nat) (s : ByteArray) (k : Nat) (w : World) (e : Ending) (w' : World) : Prop :=
  ∃ k', e = .returned (.bool p.1) ∧ k ≤ k' ∧ k' ≤ s.size ∧ p.2 = s.data.toList.drop k' ∧ Pa w' B s k' ∧ w.grownBy w' (some B)

theorem grown_refl (w : World) (row : Option Nat) : w.grownBy w row := ⟨rfl, rfl, rfl, Nat.le_refl _, fun _ _ _ => rfl⟩
theorem grown_trans {a b c : World} {row : Option Nat} (h : a.grownBy b row) (k : b.grownBy c row) : a.grownBy c row :=
  ⟨k.os.trans h.os, k.tape.trans h.tape, k.output.trans h.output, Nat.le_trans h.size k.size, fun i hi hn => (k.block i (Nat.lt_of_lt_of_le hi h.size) hn).trans (h.block i hi hn)⟩
theorem grown_drewN (w : World) (n : Nat) (row : Option Nat) : w.grownBy (w.drewN n) row := ⟨rfl, rfl, rfl, Nat.le_refl _, fun _ _ _ => rfl⟩
theorem grown_set (w : World) (B o : Nat) (v : Value) : w.grownBy (w.setCell ⟨B, o, none⟩ v) (some B) :=
  ⟨rfl, rfl, rfl, by simp [World.setCell], fun k hk hn => Below.heap_setCell _ _ _ _ (fun e => hn (by rw [e]))⟩
theorem pa_drewN {w : World} {B : Nat} {s : ByteArray} {k : Nat} (h : Pa w B s k) (n : Nat) : Pa (w.drewN n) B s k := h
theorem pa_set {w : World} {B : Nat} {s : ByteArray} {k : Nat} (h : Pa w B s k) (j : Nat) : Pa (w.setCell ⟨B, 1, none⟩ (.int .i64 j)) B s j :=
  ⟨by rw [World.cell?_setCell_other _ _ _ _ (fun hh => by have := congrArg Addr.off hh; simp at this)]; exact h.1, World.cell?_setCell_same _ _ _ h.2.1, by simpa using h.2.2⟩

theorem drop_at (s : ByteArray) (k : Nat) (h : k < s.size) : s.data.toList.drop k = s[k] :: s.data.toList.drop (k + 1) := by
  have hl : k < s.data.toList.length := by simpa using h
  rw [List.drop_eq_getElem_cons hl]; rfl
theorem drop_end (s : ByteArray) (k : Nat) (h : ¬ k < s.size) : s.data.toList.drop k = [] := List.drop_of_length_le (by simp; omega)

set_option maxHeartbeats 400000 in
set_option maxRecDepth 100000 in
theorem take_any (c : UInt8) (s : ByteArray) (k B : Nat) (w : World) (hs : s.size ≤ 1000) (hk : k ≤ s.size) (hp : Pa w B s k) :
    Calls Tryz.prog 377 #[.pointer (some ⟨B, 0, none⟩), .int .u8 c.toNat] w (Res (takeC c (s.data.toList.drop k)) B s k w) := by
  have hp1 := hp.1
  have hp2 := hp.2.1
  have hp3 := hp.2.2
  replace hp := hide hp
  by_cases hlt : k < s.size
  · have h1 : (k : Int) < (s.size : Int) := by omega
    have h2 : (0 : Int) ≤ (k : Int) := by omega
    by_cases hc : s[k] = c
    · have hb : ((s[k].toNat : Int) == (c.toNat : Int)) = true := by rw [hc]; simp
      have hr : Hid (takeC c (s.data.toList.drop k) = (true, s.data.toList.drop (k + 1))) := by
        show takeC _ _ = _
        rw [drop_at s k hlt, takeC, if_pos hc]
      clear hc
      go_enter Tryz.func377, Tryz.ntmps377
      go_wp2_with fail
      go_quiet (fail)
      go_wp2_with fail
      go_ret
      rw [hr.out]
      exact ⟨k + 1, rfl, by omega, by omega, rfl, pa_set (pa_drewN hp.out _) (k + 1), grown_trans (grown_drewN _ _ _) (grown_set _ _ _ _)⟩
    · have hb : ((s[k].toNat : Int) == (c.toNat : Int)) = false := by
        rw [beq_eq_false_iff_ne]; intro h; exact hc (UInt8.toNat_inj.1 (by omega))
      have hr : Hid (takeC c (s.data.toList.drop k) = (false, s.data.toList.drop k)) := by
        show takeC _ _ = _
        rw [drop_at s k hlt, takeC, if_neg hc]
      clear hc
      go_enter Tryz.func377, Tryz.ntmps377
      go_wp2_with fail
      go_quiet (fail)
      go_wp2_with fail
      go_ret
      rw [hr.out]
      exact ⟨k, rfl, by omega, by omega, rfl, pa_drewN hp.out _, grown_drewN _ _ _⟩
  · have h1 : decide ((k : Int) < (s.size : Int)) = false := by simp; omega
    have hr : Hid (takeC c (s.data.toList.drop k) = (false, s.data.toList.drop k)) := by
      show takeC _ _ = _
      rw [drop_end s k hlt]; rfl
    go_enter Tryz.func377, Tryz.ntmps377
    go_wp2_with fail
    go_quiet (fail)
    go_wp2_with fail
    go_ret
    rw [hr.out]
    exact ⟨k, rfl, by omega, by omega, rfl, pa_drewN hp.out _, grown_drewN _ _ _⟩

theorem word_hit (s : ByteArray) (k m : Nat) (h : k + m < s.size) (hm : m < 8) (hc : isSm s[k + m] = true) :
    m + wordLen (8 - m) (s.data.toList.drop (k + m)) = m + 1 + wordLen (8 - (m + 1)) (s.data.toList.drop (k + (m + 1))) := by
  rw [drop_at s (k + m) h, show 8 - m = 8 - (m + 1) + 1 by omega, wordLen, if_pos hc, show k + m + 1 = k + (m + 1) by omega]; omega
theorem word_miss (s : ByteArray) (k m : Nat) (h : k + m < s.size) (hc : isSm s[k + m] = false) : wordLen (8 - m) (s.data.toList.drop (k + m)) = 0 := by
  rw [drop_at s (k + m) h]
  cases 8 - m with
  | zero => rfl
  | succ j => rw [wordLen, if_neg (by simp [hc])]
theorem word_end (s : ByteArray) (k m : Nat) (h : ¬ k + m < s.size) : wordLen (8 - m) (s.data.toList.drop (k + m)) = 0 := by
  rw [drop_end s (k + m) h]
  cases 8 - m <;> rfl
theorem wordP_of (s : ByteArray) (k m : Nat) (h : wordLen 8 (s.data.toList.drop k) = m) : wordP (s.data.toList.drop k) = (decide (0 < m), s.data.toList.drop (k + m)) := by
  unfold wordP; rw [h, List.drop_drop]
end Go.Proofs.YtpdoacfiiledcaaGreatDoor

