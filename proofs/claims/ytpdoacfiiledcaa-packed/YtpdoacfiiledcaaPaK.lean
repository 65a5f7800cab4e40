import Derived.Test.YtpdoacfiiledcaaPakQ
import Derived.Test.YtpdoacfiiledcaaPaI
set_option linter.unusedVariables false
set_option maxRecDepth 4000
namespace Go.Proofs.Ytpdoacfiiledcaa.Pak
open Go.RowKit Go.Proofs.Ytpdoacfiiledcaa SiftM

/- What is written is read: numbers. -/
theorem small_low (f i m : Nat) (c : UInt8) (r : List UInt8) (h : c.toNat < 128) (hz : ¬ (c = 0 ∧ 0 < i)) : smallG (f + 1) i m (some (c :: r)) = (m + c.toNat * 128 ^ i, some r) := by
  show (if c.toNat < 128 then (m + c.toNat * 128 ^ i, if c = 0 ∧ 0 < i then none else some r) else smallG f (i + 1) (m + (c.toNat - 128) * 128 ^ i) (some r)) = _
  rw [if_pos h, if_neg hz]
theorem small_high (f i m : Nat) (c : UInt8) (r : List UInt8) (h : ¬ c.toNat < 128) : smallG (f + 1) i m (some (c :: r)) = smallG f (i + 1) (m + (c.toNat - 128) * 128 ^ i) (some r) := by
  show (if c.toNat < 128 then (m + c.toNat * 128 ^ i, if c = 0 ∧ 0 < i then none else some r) else smallG f (i + 1) (m + (c.toNat - 128) * 128 ^ i) (some r)) = _
  rw [if_neg h]
theorem small_one (f i n m : Nat) (r : List UInt8) (h : n < 128) (h0 : i = 0 ∨ 0 < n) : smallG (f + 1) i m (some (UInt8.ofNat n :: r)) = (m + n * 128 ^ i, some r) := by
  have e : (UInt8.ofNat n).toNat = n := by rw [UInt8.toNat_ofNat']; omega
  have hz : ¬ ((UInt8.ofNat n) = 0 ∧ 0 < i) := by
    rintro ⟨h1, h2⟩
    have : (UInt8.ofNat n).toNat = 0 := by rw [h1]; rfl
    omega
  rw [small_low f i m _ r (by omega) hz, e]

theorem small_num : ∀ (f i n m : Nat) (r : List UInt8), n < 128 ^ (f + 1) → (i = 0 ∨ 0 < n) →
    smallG (f + 1) i m (some (numG f n ++ r)) = (m + n * 128 ^ i, some r)
  | 0, i, n, m, r, hn, h0 => small_one 0 i n m r (by simpa using hn) h0
  | f + 1, i, n, m, r, hn, h0 => by
    by_cases h : n < 128
    · rw [numG, if_pos h]
      exact small_one (f + 1) i n m r h h0
    · have e : (UInt8.ofNat (n % 128 + 128)).toNat = n % 128 + 128 := by rw [UInt8.toNat_ofNat']; omega
      have hd : n / 128 < 128 ^ (f + 1) := by
        rw [Nat.div_lt_iff_lt_mul (by omega)]
        rw [Nat.pow_succ] at hn; exact hn
      have ih := small_num f (i + 1) (n / 128) (m + n % 128 * 128 ^ i) r hd (.inr (by omega))
      rw [numG, if_neg h, List.cons_append, small_high (f + 1) i m _ _ (by omega), e, Nat.add_sub_cancel, ih]
      have : n % 128 * 128 ^ i + n / 128 * 128 ^ (i + 1) = n * 128 ^ i := by
        rw [Nat.pow_succ, Nat.mul_comm (128 ^ i) 128, ← Nat.mul_assoc, ← Nat.add_mul]
        congr 1; omega
      rw [Nat.add_assoc, this]

theorem num_num (n : Nat) (lo hi : Int) (r : List UInt8) (hn : n < 268435456) (h1 : lo ≤ n) (h2 : (n : Int) ≤ hi) : numF (some (numB n ++ r)) lo hi = (n, some r) := by
  have e : smallG 4 0 0 (some (numB n ++ r)) = (n, some r) := by
    have := small_num 3 0 n 0 r (by simpa using hn) (.inl rfl)
    simpa [numB] using this
  unfold numF
  rw [e]
  rw [if_neg (by simp; omega)]

def lstAt (xs : List Nat) (k : Nat) : Nat := if k = 0 then 0 else xs.getD (k - 1) 0 + 1

theorem rise_rise (most : Int) (xs : List Nat) (r : List UInt8) (hr : Rs 0 xs) (hm : ∀ x ∈ xs, (x : Int) ≤ most) (hb : ∀ x ∈ xs, x < 268435456) :
    ∀ k, k ≤ xs.length → riseN most (some (riseB 0 xs ++ r)) k = (xs.take k, lstAt xs k, some (riseB (lstAt xs k) (xs.drop k) ++ r))
  | 0, _ => by simp [riseN, lstAt]
  | k + 1, hk => by
    have ih := rise_rise most xs r hr hm hb k (by omega)
    have hk' : k < xs.length := by omega
    have hat : lstAt xs k ≤ xs[k] := rs_at xs 0 k hk' hr
    have hx1 := hm xs[k] (List.getElem_mem hk')
    have hx2 := hb xs[k] (List.getElem_mem hk')
    have e3 : lstAt xs (k + 1) = xs[k] + 1 := by
      unfold lstAt; simp [hk']
    have e2 : riseB (lstAt xs k) (xs.drop k) = numB (xs[k] - lstAt xs k) ++ riseB (xs[k] + 1) (xs.drop (k + 1)) := by
      rw [List.drop_eq_getElem_cons hk']; rfl
    rw [riseN, ih]
    simp only [e2, List.append_assoc]
    rw [num_num _ _ _ _ (by omega) (by omega) (by omega)]
    simp only [e3]
    rw [show lstAt xs k + (xs[k] - lstAt xs k) = xs[k] by omega, take_snocL _ _ hk']

def putAll (f : Nat → Nat → Option Nat) (doc : Nat) (ps : List Nat) (tix : Nat) : Nat → Nat → Option Nat := fun d' p' => if d' = doc ∧ p' ∈ ps then some tix else f d' p'

theorem pl_fold (tix doc : Nat) : ∀ (ps : List Nat) (c : Nat) (f : Nat → Nat → Option Nat) (st : Option (List UInt8)), ps.Nodup → (∀ p ∈ ps, f doc p = none) →
    ps.foldl (plStep tix doc) (c, f, st) = (c + ps.length, putAll f doc ps tix, st)
  | [], c, f, st, _, _ => by
    simp only [List.foldl_nil, List.length_nil, Nat.add_zero]
    congr 2
    funext d p; simp [putAll]
  | p :: r, c, f, st, hn, hf => by
    have h0 : f doc p = none := hf p (by simp)
    have hnr := List.nodup_cons.1 hn
    have e : plStep tix doc (c, f, st) p = (c + 1, putAt f doc p tix, st) := by simp [plStep, h0]
    rw [List.foldl_cons, e, pl_fold tix doc r (c + 1) (putAt f doc p tix) st hnr.2 (by
      intro q hq
      have : q ≠ p := fun e => hnr.1 (e ▸ hq)
      simp [putAt, this]
      exact hf q (by simp [hq]))]
    have e2 : putAll (putAt f doc p tix) doc r tix = putAll f doc (p :: r) tix := by
      funext d' p'
      unfold putAll putAt
      by_cases h1 : d' = doc
      · subst h1
        by_cases h2 : p' = p
        · subst h2; simp
        · simp [h2]
      · simp [h1]
    rw [e2, List.length_cons, Nat.add_assoc, Nat.add_comm 1]

theorem rs_ge : ∀ (xs : List Nat) (least : Nat), Rs least xs → ∀ x ∈ xs, least ≤ x
  | [], _, _, x, hx => by simp at hx
  | y :: r, least, h, x, hx => by
    rcases List.mem_cons.1 hx with rfl | hx
    · exact h.1
    · have := rs_ge r (y + 1) h.2 x hx
      have := h.1; omega

theorem rs_nodup : ∀ (xs : List Nat) (least : Nat), Rs least xs → xs.Nodup
  | [], _, _ => List.nodup_nil
  | y :: r, least, h => List.nodup_cons.2 ⟨fun hm => by have := rs_ge r (y + 1) h.2 y hm; omega, rs_nodup r (y + 1) h.2⟩

theorem places_places (tix doc c : Nat) (f : Nat → Nat → Option Nat) (ps : List Nat) (r : List UInt8) (h1 : 1 ≤ ps.length) (h2 : ps.length ≤ 60) (hr : Rs 0 ps) (hb : ∀ p ∈ ps, p ≤ 59) (hf : ∀ p ∈ ps, f doc p = none) :
    placesF tix doc c f (some (numB ps.length ++ (riseB 0 ps ++ r))) = (c + ps.length, putAll f doc ps tix, some r) := by
  unfold placesF
  rw [num_num _ _ _ _ (by omega) (by omega) (by omega)]
  simp only
  rw [rise_rise 59 ps r hr (fun x hx => by have := hb x hx; omega) (fun x hx => by have := hb x hx; omega) ps.length (Nat.le_refl _)]
  simp only [List.take_length, List.drop_length]
  rw [show riseB (lstAt ps ps.length) [] ++ r = r from rfl]
  exact pl_fold tix doc ps c f (some r) (rs_nodup ps 0 hr) hf

def entB : Nat → List Po → List UInt8
  | _, [] => []
  | least, x :: r => numB (x.1 - least) ++ (numB x.2.length ++ (riseB 0 x.2 ++ entB (x.1 + 1) r))
def cntP : List Po → Nat
  | [] => 0
  | x :: r => x.2.length + cntP r
def putP (tix : Nat) : List Po → (Nat → Nat → Option Nat) → Nat → Nat → Option Nat
  | [], f => f
  | x :: r, f => putP tix r (putAll f x.1 x.2 tix)
def OkP (N : Nat) : Nat → List Po → Prop
  | _, [] => True
  | least, x :: r => least ≤ x.1 ∧ x.1 < N ∧ 1 ≤ x.2.length ∧ x.2.length ≤ 60 ∧ Rs 0 x.2 ∧ (∀ p ∈ x.2, p ≤ 59) ∧ OkP N (x.1 + 1) r

theorem docN_shift (tix N : Nat) (s : Nat × PS) : ∀ k, docN tix N s (k + 1) = docN tix N (docStep tix N s) k
  | 0 => rfl
  | k + 1 => by rw [docN, docN_shift tix N s k, docN]

theorem okP_ge (N : Nat) : ∀ (P : List Po) (least : Nat), OkP N least P → ∀ x ∈ P, least ≤ x.1 ∧ x.1 < N
  | [], _, _, x, hx => by simp at hx
  | y :: r, least, h, x, hx => by
    rcases List.mem_cons.1 hx with rfl | hx
    · exact ⟨h.1, h.2.1⟩
    · have := okP_ge N r (y.1 + 1) h.2.2.2.2.2.2 x hx
      have := h.1; omega
theorem okP_len (N : Nat) : ∀ (P : List Po) (least : Nat), OkP N least P → P.length ≤ N - least
  | [], _, _ => by simp
  | y :: r, least, h => by
    have := okP_len N r (y.1 + 1) h.2.2.2.2.2.2
    have := h.1
    have := h.2.1
    simp; omega

theorem doc_docs (tix N : Nat) (hN : N ≤ 60) : ∀ (P : List Po) (least c : Nat) (f : Nat → Nat → Option Nat) (r : List UInt8), OkP N least P → (∀ x ∈ P, ∀ p ∈ x.2, f x.1 p = none) →
    (docN tix N (least, c, f, some (entB least P ++ r)) P.length).2 = (c + cntP P, putP tix P f, some r)
  | [], least, c, f, r, _, _ => by simp [docN, cntP, putP, entB]
  | x :: P, least, c, f, r, h, hf => by
    obtain ⟨h1, h2, h3, h4, h5, h6, h7⟩ := h
    rw [List.length_cons, docN_shift]
    have e : docStep tix N (least, c, f, some (entB least (x :: P) ++ r)) = (x.1 + 1, c + x.2.length, putAll f x.1 x.2 tix, some (entB (x.1 + 1) P ++ r)) := by
      unfold docStep
      simp only [entB, List.append_assoc]
      rw [num_num _ _ _ _ (by omega) (by omega) (by omega)]
      simp only
      rw [show least + (x.1 - least) = x.1 by omega]
      rw [places_places tix x.1 c f x.2 (entB (x.1 + 1) P ++ r) h3 h4 h5 h6 (hf x (by simp))]
    rw [e, doc_docs tix N hN P (x.1 + 1) (c + x.2.length) (putAll f x.1 x.2 tix) r h7 (by
      intro y hy p hp
      have hge := (okP_ge N P (x.1 + 1) h7 y hy).1
      unfold putAll
      rw [if_neg (by omega)]
      exact hf y (by simp [hy]) p hp)]
    simp [cntP, putP, Nat.add_assoc]

def termB (t : List UInt8) (P : List Po) : List UInt8 := numB t.length ++ (t ++ (numB P.length ++ entB 0 P))

theorem term_term (N : Nat) (hN : N ≤ 60) (ts : List (List UInt8)) (c : Nat) (f : Nat → Nat → Option Nat) (t : List UInt8) (P : List Po) (r : List UInt8) (hw : isWord t = true) (hx : isNextF ts t = true) (hP : OkP N 0 P) (h1 : 1 ≤ P.length) (hf : ∀ x ∈ P, ∀ p ∈ x.2, f x.1 p = none) :
    termF N (ts, c, f, some (termB t P ++ r)) = (ts ++ [t], c + cntP P, putP ts.length P f, some r) := by
  have hw' : 1 ≤ t.length ∧ t.length ≤ 8 := by
    unfold isWord at hw; simp at hw; exact hw.1
  have hl := okP_len N P 0 hP
  have e1 : numF (some (termB t P ++ r)) 1 8 = (t.length, some (t ++ (numB P.length ++ (entB 0 P ++ r)))) := by
    unfold termB
    simp only [List.append_assoc]
    rw [num_num _ _ _ _ (by omega) (by omega) (by omega)]
  have e2 : textF (some (t ++ (numB P.length ++ (entB 0 P ++ r)))) t.length = (t, some (numB P.length ++ (entB 0 P ++ r))) := by
    unfold textF
    simp only
    rw [if_neg (by simp)]
    simp
  have e3 : stTerm ts (some (termB t P ++ r)) = some (numB P.length ++ (entB 0 P ++ r)) := by
    unfold stTerm
    rw [e1]
    simp only [e2, hw, hx]
    simp
  unfold termF
  simp only [e1, e2, e3]
  rw [num_num _ _ _ _ (by omega) (by omega) (by omega)]
  simp only
  rw [doc_docs ts.length N hN P 0 c f r hP hf]

theorem termN_shift (N : Nat) (s : TS) : ∀ k, termN N s (k + 1) = termN N (termF N s) k
  | 0 => rfl
  | k + 1 => by rw [termN, termN_shift N s k, termN]

def termsB (P : Nat → List Po) : Nat → List (List UInt8) → List UInt8
  | _, [] => []
  | k, x :: r => termB x (P k) ++ termsB P (k + 1) r
def cntK (P : Nat → List Po) : Nat → Nat → Nat
  | _, 0 => 0
  | k, n + 1 => cntP (P k) + cntK P (k + 1) n
end Go.Proofs.Ytpdoacfiiledcaa.Pak
