import Derived.Test.YtnffagpdnklnkaaGreatDoorV04
import Derived.Test.YtnffagpdnklnkaaGreatDoorV08
set_option linter.unusedVariables false
set_option linter.unusedSimpArgs false
set_option maxRecDepth 8000
namespace Go.Proofs.YtnffagpdnklnkaaGreatDoor.Pak
open Go.RowKit Go.Proofs.YtnffagpdnklnkaaGreatDoor Go.Proofs.YtnffagpdnklnkaaGreatDoor.Spl SiftM
/- What is written is read: numbers. -/
theorem small_low (f i m : Nat) (c : UInt8) (r : List UInt8) (h : c.toNat < 128) (hz : ¬ (c = 0 ∧ 0 < i)) : smallG (f + 1) i m (some (c :: r)) = (m + c.toNat * 128 ^ i, some r) := by
  show (if c.toNat < 128 then (m + c.toNat * 128 ^ i, if c = 0 ∧ 0 < i then none else some r) else smallG f (i + 1) (m + (c.toNat - 128) * 128 ^ i) (some r)) = _
  rw [if_pos h, if_neg hz]
theorem small_high (f i m : Nat) (c : UInt8) (r : List UInt8) (h : ¬ c.toNat < 128) : smallG (f + 1) i m (some (c :: r)) = smallG f (i + 1) (m + (c.toNat - 128) * 128 ^ i) (some r) := by
  show (if c.toNat < 128 then (m + c.toNat * 128 ^ i, if c = 0 ∧ 0 < i then none else some r) else smallG f (i + 1) (m + (c.toNat - 128) * 128 ^ i) (some r)) = _
  rw [if_neg h]
theorem small_one (f i n m : Nat) (r : List UInt8) (h : n < 128) (h0 : i = 0 ∨ 0 < n) : smallG (f + 1) i m (some (UInt8.ofNat n :: r)) = (m + n * 128 ^ i, some r) := by
  have e : (UInt8.ofNat n).toNat = n := by rw [UInt8.toNat_ofNat']; omega
  have hz : ¬ ((UInt8.ofNat n) = 0 ∧ 0 < i) := by
    rintro ⟨h1, h2⟩
    have : (UInt8.ofNat n).toNat = 0 := by rw [h1]; rfl
    omega
  rw [small_low f i m _ r (by omega) hz, e]

theorem small_num : ∀ (f i n m : Nat) (r : List UInt8), n < 128 ^ (f + 1) → (i = 0 ∨ 0 < n) →
    smallG (f + 1) i m (some (numG f n ++ r)) = (m + n * 128 ^ i, some r)
  | 0, i, n, m, r, hn, h0 => small_one 0 i n m r (by simpa using hn) h0
  | f + 1, i, n, m, r, hn, h0 => by
    by_cases h : n < 128
    · rw [numG, if_pos h]
      exact small_one (f + 1) i n m r h h0
    · have e : (UInt8.ofNat (n % 128 + 128)).toNat = n % 128 + 128 := by rw [UInt8.toNat_ofNat']; omega
      have hd : n / 128 < 128 ^ (f + 1) := by
        rw [Nat.div_lt_iff_lt_mul (by omega)]
        rw [Nat.pow_succ] at hn; exact hn
      have ih := small_num f (i + 1) (n / 128) (m + n % 128 * 128 ^ i) r hd (.inr (by omega))
      rw [numG, if_neg h, List.cons_append, small_high (f + 1) i m _ _ (by omega), e, Nat.add_sub_cancel, ih]
      have : n % 128 * 128 ^ i + n / 128 * 128 ^ (i + 1) = n * 128 ^ i := by
        rw [Nat.pow_succ, Nat.mul_comm (128 ^ i) 128, ← Nat.mul_assoc, ← Nat.add_mul]
        congr 1; omega
      rw [Nat.add_assoc, this]

theorem num_num (n : Nat) (lo hi : Int) (r : List UInt8) (hn : n < 268435456) (h1 : lo ≤ n) (h2 : (n : Int) ≤ hi) : numF (some (numB n ++ r)) lo hi = (n, some r) := by
  have e : smallG 4 0 0 (some (numB n ++ r)) = (n, some r) := by
    have := small_num 3 0 n 0 r (by simpa using hn) (.inl rfl)
    simpa [numB] using this
  unfold numF
  rw [e]
  rw [if_neg (by simp; omega)]

def lstAt (xs : List Nat) (k : Nat) : Nat := if k = 0 then 0 else xs.getD (k - 1) 0 + 1

theorem rise_rise (most : Int) (xs : List Nat) (r : List UInt8) (hr : Rs 0 xs) (hm : ∀ x ∈ xs, (x : Int) ≤ most) (hb : ∀ x ∈ xs, x < 268435456) :
    ∀ k, k ≤ xs.length → riseN most (some (riseB 0 xs ++ r)) k = (xs.take k, lstAt xs k, some (riseB (lstAt xs k) (xs.drop k) ++ r))
  | 0, _ => by simp [riseN, lstAt]
  | k + 1, hk => by
    have ih := rise_rise most xs r hr hm hb k (by omega)
    have hk' : k < xs.length := by omega
    have hat : lstAt xs k ≤ xs[k] := rs_at xs 0 k hk' hr
    have hx1 := hm xs[k] (List.getElem_mem hk')
    have hx2 := hb xs[k] (List.getElem_mem hk')
    have e3 : lstAt xs (k + 1) = xs[k] + 1 := by
      unfold lstAt; simp [hk']
    have e2 : riseB (lstAt xs k) (xs.drop k) = numB (xs[k] - lstAt xs k) ++ riseB (xs[k] + 1) (xs.drop (k + 1)) := by
      rw [List.drop_eq_getElem_cons hk']; rfl
    rw [riseN, ih]
    simp only [e2, List.append_assoc]
    rw [num_num _ _ _ _ (by omega) (by omega) (by omega)]
    simp only [e3]
    rw [show lstAt xs k + (xs[k] - lstAt xs k) = xs[k] by omega, take_snocL _ _ hk']

def putAll (f : Nat → Nat → Option Nat) (doc : Nat) (ps : List Nat) (tix : Nat) : Nat → Nat → Option Nat := fun d' p' => if d' = doc ∧ p' ∈ ps then some tix else f d' p'

theorem pl_fold (tix doc : Nat) : ∀ (ps : List Nat) (c : Nat) (f : Nat → Nat → Option Nat) (st : Option (List UInt8)), ps.Nodup → (∀ p ∈ ps, f doc p = none) →
    ps.foldl (plStep tix doc) (c, f, st) = (c + ps.length, putAll f doc ps tix, st)
  | [], c, f, st, _, _ => by
    simp only [List.foldl_nil, List.length_nil, Nat.add_zero]
    congr 2
    funext d p; simp [putAll]
  | p :: r, c, f, st, hn, hf => by
    have h0 : f doc p = none := hf p (by simp)
    have hnr := List.nodup_cons.1 hn
    have e : plStep tix doc (c, f, st) p = (c + 1, putAt f doc p tix, st) := by simp [plStep, h0]
    rw [List.foldl_cons, e, pl_fold tix doc r (c + 1) (putAt f doc p tix) st hnr.2 (by
      intro q hq
      have : q ≠ p := fun e => hnr.1 (e ▸ hq)
      simp [putAt, this]
      exact hf q (by simp [hq]))]
    have e2 : putAll (putAt f doc p tix) doc r tix = putAll f doc (p :: r) tix := by
      funext d' p'
      unfold putAll putAt
      by_cases h1 : d' = doc
      · subst h1
        by_cases h2 : p' = p
        · subst h2; simp
        · simp [h2]
      · simp [h1]
    rw [e2, List.length_cons, Nat.add_assoc, Nat.add_comm 1]

theorem rs_ge : ∀ (xs : List Nat) (least : Nat), Rs least xs → ∀ x ∈ xs, least ≤ x
  | [], _, _, x, hx => by simp at hx
  | y :: r, least, h, x, hx => by
    rcases List.mem_cons.1 hx with rfl | hx
    · exact h.1
    · have := rs_ge r (y + 1) h.2 x hx
      have := h.1; omega

theorem rs_nodup : ∀ (xs : List Nat) (least : Nat), Rs least xs → xs.Nodup
  | [], _, _ => List.nodup_nil
  | y :: r, least, h => List.nodup_cons.2 ⟨fun hm => by have := rs_ge r (y + 1) h.2 y hm; omega, rs_nodup r (y + 1) h.2⟩

theorem places_places (tix doc c : Nat) (f : Nat → Nat → Option Nat) (ps : List Nat) (r : List UInt8) (h1 : 1 ≤ ps.length) (h2 : ps.length ≤ 60) (hr : Rs 0 ps) (hb : ∀ p ∈ ps, p ≤ 59) (hf : ∀ p ∈ ps, f doc p = none) :
    placesF tix doc c f (some (numB ps.length ++ (riseB 0 ps ++ r))) = (c + ps.length, putAll f doc ps tix, some r) := by
  unfold placesF
  rw [num_num _ _ _ _ (by omega) (by omega) (by omega)]
  simp only
  rw [rise_rise 59 ps r hr (fun x hx => by have := hb x hx; omega) (fun x hx => by have := hb x hx; omega) ps.length (Nat.le_refl _)]
  simp only [List.take_length, List.drop_length]
  rw [show riseB (lstAt ps ps.length) [] ++ r = r from rfl]
  exact pl_fold tix doc ps c f (some r) (rs_nodup ps 0 hr) hf

def entB : Nat → List Po → List UInt8
  | _, [] => []
  | least, x :: r => numB (x.1 - least) ++ (numB x.2.length ++ (riseB 0 x.2 ++ entB (x.1 + 1) r))
def cntP : List Po → Nat
  | [] => 0
  | x :: r => x.2.length + cntP r
def putP (tix : Nat) : List Po → (Nat → Nat → Option Nat) → Nat → Nat → Option Nat
  | [], f => f
  | x :: r, f => putP tix r (putAll f x.1 x.2 tix)
def OkP (N : Nat) : Nat → List Po → Prop
  | _, [] => True
  | least, x :: r => least ≤ x.1 ∧ x.1 < N ∧ 1 ≤ x.2.length ∧ x.2.length ≤ 60 ∧ Rs 0 x.2 ∧ (∀ p ∈ x.2, p ≤ 59) ∧ OkP N (x.1 + 1) r

theorem docN_shift (tix N : Nat) (s : Nat × PS) : ∀ k, docN tix N s (k + 1) = docN tix N (docStep tix N s) k
  | 0 => rfl
  | k + 1 => by rw [docN, docN_shift tix N s k, docN]

theorem okP_ge (N : Nat) : ∀ (P : List Po) (least : Nat), OkP N least P → ∀ x ∈ P, least ≤ x.1 ∧ x.1 < N
  | [], _, _, x, hx => by simp at hx
  | y :: r, least, h, x, hx => by
    rcases List.mem_cons.1 hx with rfl | hx
    · exact ⟨h.1, h.2.1⟩
    · have := okP_ge N r (y.1 + 1) h.2.2.2.2.2.2 x hx
      have := h.1; omega
theorem okP_len (N : Nat) : ∀ (P : List Po) (least : Nat), OkP N least P → P.length ≤ N - least
  | [], _, _ => by simp
  | y :: r, least, h => by
    have := okP_len N r (y.1 + 1) h.2.2.2.2.2.2
    have := h.1
    have := h.2.1
    simp; omega

theorem doc_docs (tix N : Nat) (hN : N ≤ 60) : ∀ (P : List Po) (least c : Nat) (f : Nat → Nat → Option Nat) (r : List UInt8), OkP N least P → (∀ x ∈ P, ∀ p ∈ x.2, f x.1 p = none) →
    (docN tix N (least, c, f, some (entB least P ++ r)) P.length).2 = (c + cntP P, putP tix P f, some r)
  | [], least, c, f, r, _, _ => by simp [docN, cntP, putP, entB]
  | x :: P, least, c, f, r, h, hf => by
    obtain ⟨h1, h2, h3, h4, h5, h6, h7⟩ := h
    rw [List.length_cons, docN_shift]
    have e : docStep tix N (least, c, f, some (entB least (x :: P) ++ r)) = (x.1 + 1, c + x.2.length, putAll f x.1 x.2 tix, some (entB (x.1 + 1) P ++ r)) := by
      unfold docStep
      simp only [entB, List.append_assoc]
      rw [num_num _ _ _ _ (by omega) (by omega) (by omega)]
      simp only
      rw [show least + (x.1 - least) = x.1 by omega]
      rw [places_places tix x.1 c f x.2 (entB (x.1 + 1) P ++ r) h3 h4 h5 h6 (hf x (by simp))]
    rw [e, doc_docs tix N hN P (x.1 + 1) (c + x.2.length) (putAll f x.1 x.2 tix) r h7 (by
      intro y hy p hp
      have hge := (okP_ge N P (x.1 + 1) h7 y hy).1
      unfold putAll
      rw [if_neg (by omega)]
      exact hf y (by simp [hy]) p hp)]
    simp [cntP, putP, Nat.add_assoc]

def termB (t : List UInt8) (P : List Po) : List UInt8 := numB t.length ++ (t ++ (numB P.length ++ entB 0 P))

theorem term_term (N : Nat) (hN : N ≤ 60) (ts : List (List UInt8)) (c : Nat) (f : Nat → Nat → Option Nat) (t : List UInt8) (P : List Po) (r : List UInt8) (hw : isWord t = true) (hx : isNextF ts t = true) (hP : OkP N 0 P) (h1 : 1 ≤ P.length) (hf : ∀ x ∈ P, ∀ p ∈ x.2, f x.1 p = none) :
    termF N (ts, c, f, some (termB t P ++ r)) = (ts ++ [t], c + cntP P, putP ts.length P f, some r) := by
  have hw' : 1 ≤ t.length ∧ t.length ≤ 8 := by
    unfold isWord at hw; simp at hw; exact hw.1
  have hl := okP_len N P 0 hP
  have e1 : numF (some (termB t P ++ r)) 1 8 = (t.length, some (t ++ (numB P.length ++ (entB 0 P ++ r)))) := by
    unfold termB
    simp only [List.append_assoc]
    rw [num_num _ _ _ _ (by omega) (by omega) (by omega)]
  have e2 : textF (some (t ++ (numB P.length ++ (entB 0 P ++ r)))) t.length = (t, some (numB P.length ++ (entB 0 P ++ r))) := by
    unfold textF
    simp only
    rw [if_neg (by simp)]
    simp
  have e3 : stTerm ts (some (termB t P ++ r)) = some (numB P.length ++ (entB 0 P ++ r)) := by
    unfold stTerm
    rw [e1]
    simp only [e2, hw, hx]
    simp
  unfold termF
  simp only [e1, e2, e3]
  rw [num_num _ _ _ _ (by omega) (by omega) (by omega)]
  simp only
  rw [doc_docs ts.length N hN P 0 c f r hP hf]

theorem termN_shift (N : Nat) (s : TS) : ∀ k, termN N s (k + 1) = termN N (termF N s) k
  | 0 => rfl
  | k + 1 => by rw [termN, termN_shift N s k, termN]

def termsB (P : Nat → List Po) : Nat → List (List UInt8) → List UInt8
  | _, [] => []
  | k, x :: r => termB x (P k) ++ termsB P (k + 1) r
def cntK (P : Nat → List Po) : Nat → Nat → Nat
  | _, 0 => 0
  | k, n + 1 => cntP (P k) + cntK P (k + 1) n
/- The postings, in closed form. -/
def plc (r : List Nat) (t : Nat) : Nat → List Nat
  | 0 => []
  | k + 1 => plc r t k ++ (if t = r.getD k 0 then [k] else [])
def one (d : Nat) (ps : List Nat) : List Po := if ps = [] then [] else [(d, ps)]
def postD (rows : List (List Nat)) (t : Nat) : Nat → List Po
  | 0 => []
  | d + 1 => postD rows t d ++ one d (plc (rows.getD d []) t (rows.getD d []).length)

theorem postD_lt (rows : List (List Nat)) (t : Nat) : ∀ d, ∀ x ∈ postD rows t d, x.1 < d
  | 0, x, hx => by simp [postD] at hx
  | d + 1, x, hx => by
    simp only [postD, List.mem_append] at hx
    rcases hx with hx | hx
    · have := postD_lt rows t d x hx; omega
    · unfold one at hx
      split at hx
      · simp at hx
      · simp at hx; simp [hx]

theorem ws_one (P : List Po) (d k : Nat) (ps : List Nat) (h : ∀ x ∈ P, x.1 < d) : wsF (P ++ one d ps) d k = P ++ one d (ps ++ [k]) := by
  have e2 : one d (ps ++ [k]) = [(d, ps ++ [k])] := by unfold one; rw [if_neg (by simp)]
  rw [e2]
  by_cases hp : ps = []
  · have e : one d ps = [] := by unfold one; rw [if_pos hp]
    rw [e, List.append_nil, hp, List.nil_append]
    unfold wsF
    cases hg : P.getLast? with
    | none =>
      have : P = [] := List.getLast?_eq_none_iff.1 hg
      rw [this]; rfl
    | some l =>
      have hm : l ∈ P := List.mem_of_getLast? hg
      have := h l hm
      simp only
      rw [if_neg (by omega)]
  · have e : one d ps = [(d, ps)] := by unfold one; rw [if_neg hp]
    rw [e]
    unfold wsF
    rw [List.getLast?_concat]
    simp

theorem PFr_closed (rows : List (List Nat)) (d : Nat) (r : List Nat) (F : Nat → List Po) (hF : ∀ t, F t = postD rows t d) : ∀ k t, PFr F d r k t = postD rows t d ++ one d (plc r t k)
  | 0, t => by simp [PFr, hF, plc, one]
  | k + 1, t => by
    have ih := PFr_closed rows d r F hF k
    simp only [PFr, upd]
    by_cases e : t = r.getD k 0
    · rw [if_pos e, ih, ← e, plc, if_pos e]
      exact ws_one _ d k _ (postD_lt rows t d)
    · rw [if_neg e, ih, plc, if_neg e, List.append_nil]

theorem PFd_closed (rows : List (List Nat)) : ∀ d t, PFd rows d t = postD rows t d
  | 0, t => rfl
  | d + 1, t => by
    simp only [PFd, postD]
    exact PFr_closed rows d _ _ (PFd_closed rows d) _ t

theorem plc_mem (r : List Nat) (t : Nat) : ∀ k p, p ∈ plc r t k ↔ p < k ∧ t = r.getD p 0
  | 0, p => by simp [plc]
  | k + 1, p => by
    have ih := plc_mem r t k p
    simp only [plc, List.mem_append, ih]
    by_cases e : t = r.getD k 0
    · rw [if_pos e]
      simp only [List.mem_singleton]
      constructor
      · rintro (⟨h1, h2⟩ | h)
        · exact ⟨by omega, h2⟩
        · subst h; exact ⟨by omega, e⟩
      · rintro ⟨h1, h2⟩
        by_cases h : p = k
        · exact .inr h
        · exact .inl ⟨by omega, h2⟩
    · rw [if_neg e]
      simp only [List.not_mem_nil, or_false]
      constructor
      · rintro ⟨h1, h2⟩; exact ⟨by omega, h2⟩
      · rintro ⟨h1, h2⟩
        refine ⟨?_, h2⟩
        by_cases h : p = k
        · subst h; exact absurd h2 e
        · omega

theorem plc_len (r : List Nat) (t : Nat) : ∀ k, (plc r t k).length ≤ k
  | 0 => by simp [plc]
  | k + 1 => by
    have ih := plc_len r t k
    simp only [plc, List.length_append]
    split <;> simp <;> omega

theorem rs_snoc : ∀ (xs : List Nat) (least y : Nat), Rs least xs → least ≤ y → (∀ x ∈ xs, x < y) → Rs least (xs ++ [y])
  | [], least, y, _, h, _ => ⟨h, trivial⟩
  | x :: r, least, y, h, hy, hx => ⟨h.1, rs_snoc r (x + 1) y h.2 (hx x (by simp)) (fun z hz => hx z (by simp [hz]))⟩

theorem plc_rs (r : List Nat) (t : Nat) : ∀ k, Rs 0 (plc r t k)
  | 0 => trivial
  | k + 1 => by
    simp only [plc]
    split
    · exact rs_snoc _ 0 k (plc_rs r t k) (Nat.zero_le _) (fun x hx => ((plc_mem r t k x).1 hx).1)
    · rw [List.append_nil]; exact plc_rs r t k

theorem okP_append (N : Nat) : ∀ (P Q : List Po) (least m : Nat), OkP N least P → OkP N m Q → (∀ x ∈ P, x.1 < m) → least ≤ m → OkP N least (P ++ Q)
  | [], Q, least, m, _, hQ, _, hm => by
    cases Q with
    | nil => exact trivial
    | cons y r => exact ⟨by have := hQ.1; omega, hQ.2⟩
  | x :: P, Q, least, m, hP, hQ, hx, hm => by
    refine ⟨hP.1, hP.2.1, hP.2.2.1, hP.2.2.2.1, hP.2.2.2.2.1, hP.2.2.2.2.2.1, ?_⟩
    exact okP_append N P Q (x.1 + 1) m hP.2.2.2.2.2.2 hQ (fun y hy => hx y (by simp [hy])) (hx x (by simp))

theorem postD_ok (rows : List (List Nat)) (t N : Nat) (hs : ∀ r ∈ rows, r.length ≤ 60) : ∀ d, d ≤ N → OkP N 0 (postD rows t d)
  | 0, _ => trivial
  | d + 1, hd => by
    have hl : (rows.getD d []).length ≤ 60 := by
      rw [List.getD_eq_getElem?_getD]
      cases hg : rows[d]? with
      | none => simp
      | some r => exact hs r (List.mem_of_getElem? hg)
    simp only [postD]
    refine okP_append N _ _ 0 d (postD_ok rows t N hs d (by omega)) ?_ (postD_lt rows t d) (Nat.zero_le _)
    unfold one
    split
    · exact trivial
    · rename_i hne
      have h1 := plc_len (rows.getD d []) t (rows.getD d []).length
      refine ⟨Nat.le_refl _, by omega, ?_, by simp only; omega, plc_rs _ _ _, ?_, trivial⟩
      · exact List.length_pos_iff.2 hne
      · intro p hp
        have := ((plc_mem _ _ _ p).1 hp).1
        omega

/-- What the rows say of the terms ahead of k. -/
def belowF (rows : List (List Nat)) (k : Nat) : Nat → Nat → Option Nat := fun d p =>
  if d < rows.length ∧ p < (rows.getD d []).length ∧ (rows.getD d []).getD p 0 < k then some ((rows.getD d []).getD p 0) else none

theorem postD_mem (rows : List (List Nat)) (t : Nat) : ∀ D, ∀ x ∈ postD rows t D, x.1 < D ∧ x.2 = plc (rows.getD x.1 []) t (rows.getD x.1 []).length
  | 0, x, hx => by simp [postD] at hx
  | d + 1, x, hx => by
    simp only [postD, List.mem_append] at hx
    rcases hx with hx | hx
    · have := postD_mem rows t d x hx
      exact ⟨by omega, this.2⟩
    · unfold one at hx
      split at hx
      · simp at hx
      · simp at hx
        subst hx
        exact ⟨by simp, rfl⟩

theorem postD_has (rows : List (List Nat)) (t : Nat) : ∀ D d, d < D → plc (rows.getD d []) t (rows.getD d []).length ≠ [] → (d, plc (rows.getD d []) t (rows.getD d []).length) ∈ postD rows t D
  | 0, d, h, _ => by omega
  | D + 1, d, h, hne => by
    simp only [postD, List.mem_append]
    by_cases e : d = D
    · subst e
      right
      unfold one
      rw [if_neg hne]; simp
    · exact .inl (postD_has rows t D d (by omega) hne)

theorem putP_at (tix : Nat) : ∀ (P : List Po) (f : Nat → Nat → Option Nat) (d p : Nat), putP tix P f d p = if P.any (fun x => decide (x.1 = d) && decide (p ∈ x.2)) then some tix else f d p
  | [], f, d, p => by simp [putP]
  | x :: r, f, d, p => by
    rw [putP, putP_at tix r]
    by_cases h : (r.any fun x => decide (x.1 = d) && decide (p ∈ x.2)) = true
    · rw [if_pos h, if_pos (by rw [List.any_cons, h]; simp)]
    · rw [if_neg h]
      unfold putAll
      by_cases h2 : d = x.1 ∧ p ∈ x.2
      · rw [if_pos h2, if_pos (by rw [List.any_cons]; simp [h2.1, h2.2])]
      · rw [if_neg h2, if_neg]
        intro h3
        simp only [List.any_cons, Bool.or_eq_true] at h3
        rcases h3 with h3 | h3
        · simp at h3
          exact h2 ⟨h3.1.symm, h3.2⟩
        · exact h h3

theorem putP_post (rows : List (List Nat)) (k : Nat) : putP k (postD rows k rows.length) (belowF rows k) = belowF rows (k + 1) := by
  funext d p
  rw [putP_at]
  by_cases h : (postD rows k rows.length).any (fun x => decide (x.1 = d) && decide (p ∈ x.2)) = true
  · rw [if_pos h]
    obtain ⟨x, hx, h2⟩ := List.any_eq_true.1 h
    simp at h2
    obtain ⟨h3, h4⟩ := h2
    obtain ⟨h5, h6⟩ := postD_mem rows k rows.length x hx
    rw [h6] at h4
    have h7 := (plc_mem _ _ _ p).1 h4
    rw [h3] at h5 h7
    unfold belowF
    rw [if_pos ⟨h5, h7.1, by rw [← h7.2]; omega⟩, ← h7.2]
  · rw [if_neg h]
    unfold belowF
    by_cases h1 : d < rows.length ∧ p < (rows.getD d []).length ∧ (rows.getD d []).getD p 0 < k + 1
    · rw [if_pos h1]
      have hne : (rows.getD d []).getD p 0 ≠ k := by
        intro e
        apply h
        have hm : p ∈ plc (rows.getD d []) k (rows.getD d []).length := (plc_mem _ _ _ p).2 ⟨h1.2.1, e.symm⟩
        have := postD_has rows k rows.length d h1.1 (List.ne_nil_of_mem hm)
        exact List.any_eq_true.2 ⟨_, this, by simp only [decide_true, Bool.true_and, decide_eq_true_eq]; exact hm⟩
      rw [if_pos ⟨h1.1, h1.2.1, by omega⟩]
    · rw [if_neg h1, if_neg (fun h2 => h1 ⟨h2.1, h2.2.1, by omega⟩)]

theorem below_fresh (rows : List (List Nat)) (k : Nat) : ∀ x ∈ postD rows k rows.length, ∀ p ∈ x.2, belowF rows k x.1 p = none := by
  intro x hx p hp
  obtain ⟨h5, h6⟩ := postD_mem rows k rows.length x hx
  rw [h6] at hp
  have h7 := (plc_mem _ _ _ p).1 hp
  unfold belowF
  rw [if_neg]
  rintro ⟨_, _, h8⟩
  omega

theorem next_of (ts rest : List (List UInt8)) (x : List UInt8) (h : (ts ++ x :: rest).Pairwise (· < ·)) : isNextF ts x = true := by
  unfold isNextF
  by_cases h0 : ts.length = 0
  · simp [h0]
  · have hl : ts.length - 1 < ts.length := by omega
    have hm : ts.getD (ts.length - 1) [] ∈ ts := by
      rw [List.getD_eq_getElem?_getD, List.getElem?_eq_getElem hl]
      exact List.getElem_mem hl
    have := (List.pairwise_append.1 h).2.2 _ hm x (by simp)
    rw [decide_eq_true this]; simp

theorem terms_terms (rows : List (List Nat)) (hN : rows.length ≤ 60) (hs : ∀ r ∈ rows, r.length ≤ 60) (r : List UInt8) : ∀ (rest ts : List (List UInt8)) (c : Nat),
    (ts ++ rest).Pairwise (· < ·) → (∀ x ∈ rest, isWord x = true) → (∀ k, ts.length ≤ k → k < ts.length + rest.length → 1 ≤ (postD rows k rows.length).length) →
    termN rows.length (ts, c, belowF rows ts.length, some (termsB (fun t => postD rows t rows.length) ts.length rest ++ r)) rest.length =
      (ts ++ rest, c + cntK (fun t => postD rows t rows.length) ts.length rest.length, belowF rows (ts.length + rest.length), some r)
  | [], ts, c, _, _, _ => by simp [termN, cntK, termsB]
  | x :: rest, ts, c, hp, hw, h1 => by
    rw [List.length_cons, termN_shift]
    simp only [termsB, List.append_assoc]
    rw [term_term rows.length hN ts c (belowF rows ts.length) x (postD rows ts.length rows.length) _ (hw x (by simp)) (next_of ts rest x hp) (postD_ok rows ts.length rows.length hs _ (Nat.le_refl _)) (h1 ts.length (Nat.le_refl _) (by simp)) (below_fresh rows ts.length)]
    rw [putP_post]
    have ih := terms_terms rows hN hs r rest (ts ++ [x]) (c + cntP (postD rows ts.length rows.length)) (by simpa using hp) (fun y hy => hw y (by simp [hy])) (fun k hk1 hk2 => h1 k (by simp at hk1; omega) (by simp at hk2 ⊢; omega))
    rw [List.length_append, List.length_singleton] at ih
    rw [ih]
    simp only [cntK, List.append_assoc, List.singleton_append]
    rw [Nat.add_assoc, show ts.length + 1 + rest.length = ts.length + (rest.length + 1) by omega]

/- How many there are. -/
theorem cntP_append : ∀ (P Q : List Po), cntP (P ++ Q) = cntP P + cntP Q
  | [], Q => by simp [cntP]
  | x :: P, Q => by simp [cntP, cntP_append P Q, Nat.add_assoc]
theorem cntP_one (d : Nat) (ps : List Nat) : cntP (one d ps) = ps.length := by
  unfold one; split
  · rename_i h; simp [h, cntP]
  · simp [cntP]

def sumK (g : Nat → Nat) : Nat → Nat → Nat
  | _, 0 => 0
  | k, n + 1 => g k + sumK g (k + 1) n
theorem sumK_add (g h : Nat → Nat) : ∀ (k n : Nat), sumK (fun t => g t + h t) k n = sumK g k n + sumK h k n
  | _, 0 => rfl
  | k, n + 1 => by simp only [sumK]; rw [sumK_add g h (k + 1) n]; omega
theorem cntK_sum (P : Nat → List Po) : ∀ (k n : Nat), cntK P k n = sumK (fun t => cntP (P t)) k n
  | _, 0 => rfl
  | k, n + 1 => by simp only [cntK, sumK]; rw [cntK_sum P (k + 1) n]
theorem sumK_zero : ∀ (k n : Nat) (g : Nat → Nat), (∀ t, k ≤ t → t < k + n → g t = 0) → sumK g k n = 0
  | _, 0, _, _ => rfl
  | k, n + 1, g, h => by
    simp only [sumK]
    rw [h k (Nat.le_refl _) (by omega), sumK_zero (k + 1) n g (fun t h1 h2 => h t (by omega) (by omega))]
theorem sumK_hit : ∀ (n k m : Nat), k ≤ m → m < k + n → sumK (fun t => if t = m then 1 else 0) k n = 1
  | 0, k, m, h1, h2 => by omega
  | n + 1, k, m, h1, h2 => by
    simp only [sumK]
    by_cases e : k = m
    · subst e
      rw [if_pos rfl, sumK_zero _ _ _ (fun t h1 h2 => by rw [if_neg (by omega)])]
    · rw [if_neg e, sumK_hit n (k + 1) m (by omega) (by omega)]

theorem plc_sum (r : List Nat) (nt : Nat) : ∀ k, (∀ i, i < k → r.getD i 0 < nt) → sumK (fun t => (plc r t k).length) 0 nt = k
  | 0, _ => by
    exact sumK_zero 0 nt _ (fun t _ _ => by simp [plc])
  | k + 1, h => by
    have e : (fun t => (plc r t (k + 1)).length) = fun t => (plc r t k).length + (if t = r.getD k 0 then 1 else 0) := by
      funext t
      simp only [plc, List.length_append]
      split <;> simp
    rw [e, sumK_add, plc_sum r nt k (fun i hi => h i (by omega)), sumK_hit nt 0 _ (Nat.zero_le _) (by have := h k (by omega); omega)]

theorem post_sum (rows : List (List Nat)) (nt : Nat) : ∀ d, d ≤ rows.length → (∀ r ∈ rows, ∀ x ∈ r, x < nt) → cntK (fun t => postD rows t d) 0 nt = cntTo rows d
  | 0, _, _ => by
    rw [cntK_sum]
    exact sumK_zero 0 nt _ (fun t _ _ => by simp [postD, cntP])
  | d + 1, hd, h => by
    rw [cntK_sum]
    have e : (fun t => cntP (postD rows t (d + 1))) = fun t => cntP (postD rows t d) + (plc (rows.getD d []) t (rows.getD d []).length).length := by
      funext t
      simp only [postD]
      rw [cntP_append, cntP_one]
    rw [e, sumK_add, ← cntK_sum (fun t => postD rows t d), post_sum rows nt d (by omega) h]
    rw [plc_sum]
    · rfl
    · intro i hi
      have hd' : d < rows.length := by omega
      have e2 : rows.getD d [] = rows[d] := by rw [List.getD_eq_getElem?_getD, List.getElem?_eq_getElem hd']; rfl
      rw [e2] at hi ⊢
      rw [List.getD_eq_getElem?_getD, List.getElem?_eq_getElem hi]
      exact h _ (List.getElem_mem hd') _ (List.getElem_mem hi)

theorem below_zero (rows : List (List Nat)) : belowF rows 0 = no := by
  funext d p
  unfold belowF no
  rw [if_neg (by omega)]

theorem below_rows (rows : List (List Nat)) (nt : Nat) (hs : ∀ r ∈ rows, r.length ≤ 60) (h : ∀ r ∈ rows, ∀ x ∈ r, x < nt) : RowsAre (belowF rows nt) rows nt where
  at' d hd i hi := by
    have e2 : rows.getD d [] = rows[d] := by rw [List.getD_eq_getElem?_getD, List.getElem?_eq_getElem hd]; rfl
    have e3 : rows[d].getD i 0 = rows[d][i] := by rw [List.getD_eq_getElem?_getD, List.getElem?_eq_getElem hi]; rfl
    unfold belowF
    rw [e2, e3, if_pos ⟨hd, hi, h _ (List.getElem_mem hd) _ (List.getElem_mem hi)⟩]
  stop d hd := by
    have e2 : rows.getD d [] = rows[d] := by rw [List.getD_eq_getElem?_getD, List.getElem?_eq_getElem hd]; rfl
    unfold belowF
    rw [e2, if_neg (by omega)]
  small d hd := by have := hs _ (List.getElem_mem hd); omega
  lt d hd x hx := h _ (List.getElem_mem hd) x hx

def bodyB (ids : List Nat) (terms : List (List UInt8)) (rows : List (List Nat)) : List UInt8 :=
  83 :: (numB ids.length ++ (riseB 0 ids ++ (numB terms.length ++ termsB (fun t => postD rows t rows.length) 0 terms)))

theorem table_body (ids : List Nat) (terms : List (List UInt8)) (rows : List (List Nat)) (hl : rows.length = ids.length) (hN : ids.length ≤ 60) (hs : ∀ r ∈ rows, r.length ≤ 60) (hi : Rs 0 ids) (hi2 : ∀ x ∈ ids, x ≤ 99999) (hn : terms.length ≤ 3600) (hp : terms.Pairwise (· < ·)) (hw : ∀ x ∈ terms, isWord x = true)
    (hlt : ∀ r ∈ rows, ∀ x ∈ r, x < terms.length) (hocc : ∀ k, k < terms.length → 1 ≤ (postD rows k rows.length).length) :
    tableF (some (bodyB ids terms rows)) = (ids, terms, cntTo rows rows.length, belowF rows terms.length, some []) := by
  have e1 : stMark (some (bodyB ids terms rows)) = some (numB ids.length ++ (riseB 0 ids ++ (numB terms.length ++ termsB (fun t => postD rows t rows.length) 0 terms))) := by
    unfold stMark bodyB textF
    simp
  have e2 := num_num ids.length 0 60 (riseB 0 ids ++ (numB terms.length ++ termsB (fun t => postD rows t rows.length) 0 terms)) (by omega) (by omega) (by omega)
  have e3 := rise_rise 99999 ids (numB terms.length ++ termsB (fun t => postD rows t rows.length) 0 terms) hi (fun x hx => by have := hi2 x hx; omega) (fun x hx => by have := hi2 x hx; omega) ids.length (Nat.le_refl _)
  have e4 := num_num terms.length 0 3600 (termsB (fun t => postD rows t rows.length) 0 terms) (by omega) (by omega) (by omega)
  have e5 := terms_terms rows (by omega) hs [] terms [] 0 (by simpa using hp) hw (fun k _ h2 => hocc k (by simpa using h2))
  unfold tableF
  rw [e1, e2]
  simp only
  rw [e3]
  simp only [List.take_length, List.drop_length]
  rw [show riseB (lstAt ids ids.length) [] ++ (numB terms.length ++ termsB (fun t => postD rows t rows.length) 0 terms) = numB terms.length ++ termsB (fun t => postD rows t rows.length) 0 terms from rfl, e4]
  simp only
  rw [← hl, ← below_zero rows]
  simp only [List.append_nil, List.nil_append, List.length_nil, Nat.zero_add] at e5
  rw [e5, post_sum rows terms.length rows.length (Nat.le_refl _) hlt]
end Go.Proofs.YtnffagpdnklnkaaGreatDoor.Pak
