import Derived.Test.YtbkepgmgebmceaaGreatDoorU30

set_option linter.unusedVariables false
set_option maxRecDepth 4000
namespace Go.Proofs.YtbkepgmgebmceaaGreatDoor.Pak
open Go.RowKit Go.Proofs.YtbkepgmgebmceaaGreatDoor Go.Proofs.YtbkepgmgebmceaaGreatDoor.Spl SiftM

def memP (P : List Po) (d p : Nat) : Bool := P.any fun x => decide (x.1 = d) && decide (p ∈ x.2)
theorem memP_iff (P : List Po) (d p : Nat) : memP P d p = true ↔ ∃ y ∈ P, y.1 = d ∧ p ∈ y.2 := by
  unfold memP
  rw [List.any_eq_true]
  constructor
  · rintro ⟨y, hy, h⟩
    simp at h
    exact ⟨y, hy, h.1, h.2⟩
  · rintro ⟨y, hy, h1, h2⟩
    exact ⟨y, hy, by simp [h1, h2]⟩
theorem putP_mem (tix : Nat) (P : List Po) (f : Nat → Nat → Option Nat) (d p : Nat) : putP tix P f d p = if memP P d p = true then some tix else f d p := putP_at tix P f d p

theorem putL_old (N : Nat) : ∀ (R : List Tp) (ts : List (List UInt8)) (f : Nat → Nat → Option Nat) (d p v : Nat), GoodR N ts f R → v < ts.length → (putL ts.length R f d p = some v ↔ f d p = some v)
  | [], ts, f, d, p, v, _, _ => Iff.rfl
  | x :: R, ts, f, d, p, v, h, hv => by
    obtain ⟨h1, h2, h3, h4, h5, h6⟩ := h
    have ih := putL_old N R (ts ++ [x.1]) (putP ts.length x.2 f) d p v h6 (by simp; omega)
    rw [List.length_append, List.length_singleton] at ih
    rw [putL, ih, putP_mem]
    by_cases hm : memP x.2 d p = true
    · rw [if_pos hm]
      obtain ⟨y, hy, rfl, hp⟩ := (memP_iff _ _ _).1 hm
      have hn := h5 y hy p hp
      constructor
      · intro e; have := Option.some.inj e; omega
      · intro e; rw [hn] at e; simp at e
    · rw [if_neg hm]

theorem putL_at (N : Nat) : ∀ (R : List Tp) (ts : List (List UInt8)) (f : Nat → Nat → Option Nat), GoodR N ts f R → (∀ d p v, f d p = some v → v < ts.length) → ∀ j (hj : j < R.length) d p, putL ts.length R f d p = some (ts.length + j) ↔ memP R[j].2 d p = true
  | [], ts, f, _, _, j, hj, d, p => by simp at hj
  | x :: R, ts, f, h, hb, j, hj, d, p => by
    obtain ⟨h1, h2, h3, h4, h5, h6⟩ := h
    cases j with
    | zero =>
      have ho := putL_old N R (ts ++ [x.1]) (putP ts.length x.2 f) d p ts.length h6 (by simp)
      rw [List.length_append, List.length_singleton] at ho
      show putL (ts.length + 1) R (putP ts.length x.2 f) d p = some ts.length ↔ memP x.2 d p = true
      rw [ho, putP_mem]
      by_cases hm : memP x.2 d p = true
      · rw [if_pos hm]; simp [hm]
      · rw [if_neg hm]
        constructor
        · intro e; have := hb d p _ e; omega
        · intro e; exact absurd e hm
    | succ j =>
      have ih := putL_at N R (ts ++ [x.1]) (putP ts.length x.2 f) h6 (by
        intro d p v e
        rw [putP_mem] at e
        rw [List.length_append, List.length_singleton]
        split at e
        · have := Option.some.inj e; omega
        · have := hb d p v e; omega) j (by simpa using hj) d p
      rw [List.length_append, List.length_singleton] at ih
      rw [putL, show ts.length + (j + 1) = ts.length + 1 + j by omega, ih]
      simp

def Bnd (N : Nat) (f : Nat → Nat → Option Nat) (k : Nat) : Prop := ∀ d p v, f d p = some v → v < k ∧ d < N ∧ p < 60
theorem okP_pl (N : Nat) : ∀ (P : List Po) (least : Nat), OkP N least P → ∀ y ∈ P, (∀ p ∈ y.2, p ≤ 59) ∧ 1 ≤ y.2.length ∧ Rs 0 y.2
  | [], _, _, y, hy => by simp at hy
  | x :: r, least, h, y, hy => by
    rcases List.mem_cons.1 hy with rfl | hy
    · exact ⟨h.2.2.2.2.2.1, h.2.2.1, h.2.2.2.2.1⟩
    · exact okP_pl N r (x.1 + 1) h.2.2.2.2.2.2 y hy
theorem putP_bnd (N k : Nat) (P : List Po) (f : Nat → Nat → Option Nat) (h : OkP N 0 P) (hb : Bnd N f k) : Bnd N (putP k P f) (k + 1) := by
  intro d p v e
  rw [putP_mem] at e
  split at e
  · rename_i hm
    obtain ⟨y, hy, rfl, hp⟩ := (memP_iff _ _ _).1 hm
    have h1 := (okP_ge N P 0 h y hy).2
    have h2 := (okP_pl N P 0 h y hy).1 p hp
    have := Option.some.inj e
    omega
  · have := hb d p v e; omega
theorem putL_bnd (N : Nat) : ∀ (R : List Tp) (ts : List (List UInt8)) (f : Nat → Nat → Option Nat), GoodR N ts f R → Bnd N f ts.length → Bnd N (putL ts.length R f) (ts.length + R.length)
  | [], ts, f, _, hb => hb
  | x :: R, ts, f, h, hb => by
    obtain ⟨h1, h2, h3, h4, h5, h6⟩ := h
    have ih := putL_bnd N R (ts ++ [x.1]) (putP ts.length x.2 f) h6 (by
      rw [List.length_append, List.length_singleton]; exact putP_bnd N _ _ _ h3 hb)
    rw [List.length_append, List.length_singleton] at ih
    rw [putL, List.length_cons, show ts.length + (R.length + 1) = ts.length + 1 + R.length by omega]
    exact ih

/- How many places are set. -/
def inner (f : Nat → Nat → Option Nat) (d : Nat) : Nat := sumK (fun p => if (f d p).isSome then 1 else 0) 0 60
def tot (f : Nat → Nat → Option Nat) (N : Nat) : Nat := sumK (inner f) 0 N
theorem inner_putAt (f : Nat → Nat → Option Nat) (doc p t d : Nat) (hp : p < 60) (hf : f doc p = none) : inner (putAt f doc p t) d = inner f d + if d = doc then 1 else 0 := by
  unfold inner
  by_cases e : d = doc
  · subst e
    have e2 : (fun p' => if (putAt f d p t d p').isSome then 1 else 0) = fun p' => (if (f d p').isSome then 1 else 0) + if p' = p then 1 else 0 := by
      funext p'
      by_cases h : p' = p
      · subst h; simp [putAt, hf]
      · simp [putAt, h]
    rw [e2, sumK_add, sumK_hit 60 0 p (by omega) (by omega), if_pos rfl]
  · have e2 : (fun p' => if (putAt f doc p t d p').isSome then 1 else 0) = fun p' => (if (f d p').isSome then 1 else 0) := by
      funext p'
      simp [putAt, e]
    rw [e2, if_neg e, Nat.add_zero]
theorem tot_putAt (f : Nat → Nat → Option Nat) (doc p t N : Nat) (hp : p < 60) (hd : doc < N) (hf : f doc p = none) : tot (putAt f doc p t) N = tot f N + 1 := by
  unfold tot
  have e : inner (putAt f doc p t) = fun d => inner f d + if d = doc then 1 else 0 := by
    funext d; exact inner_putAt f doc p t d hp hf
  rw [e, sumK_add, sumK_hit N 0 doc (by omega) (by omega)]
theorem putAll_cons (f : Nat → Nat → Option Nat) (doc p tix : Nat) (r : List Nat) : putAll f doc (p :: r) tix = putAll (putAt f doc p tix) doc r tix := by
  funext d' p'
  unfold putAll putAt
  by_cases h1 : d' = doc
  · subst h1
    by_cases h2 : p' = p
    · subst h2; simp
    · simp [h2]
  · simp [h1]
theorem tot_putAll (doc t N : Nat) (hd : doc < N) : ∀ (ps : List Nat) (f : Nat → Nat → Option Nat), ps.Nodup → (∀ p ∈ ps, p ≤ 59) → (∀ p ∈ ps, f doc p = none) → tot (putAll f doc ps t) N = tot f N + ps.length
  | [], f, _, _, _ => by
    have e : putAll f doc [] t = f := by funext d p; simp [putAll]
    rw [e]; rfl
  | p :: r, f, hn, hp, hf => by
    have hnr := List.nodup_cons.1 hn
    rw [putAll_cons, tot_putAll doc t N hd r (putAt f doc p t) hnr.2 (fun q hq => hp q (by simp [hq])) (fun q hq => by
      have hne : q ≠ p := fun e => hnr.1 (e ▸ hq)
      simp [putAt, hne]; exact hf q (by simp [hq])), tot_putAt f doc p t N (by have := hp p (by simp); omega) hd (hf p (by simp))]
    simp; omega
theorem tot_putP (t N : Nat) : ∀ (P : List Po) (least : Nat) (f : Nat → Nat → Option Nat), OkP N least P → (∀ x ∈ P, ∀ p ∈ x.2, f x.1 p = none) → tot (putP t P f) N = tot f N + cntP P
  | [], _, f, _, _ => rfl
  | x :: P, least, f, h, hf => by
    obtain ⟨h1, h2, h3, h4, h5, h6, h7⟩ := h
    rw [putP, tot_putP t N P (x.1 + 1) _ h7 (by
      intro y hy p hp
      have hge := (okP_ge N P (x.1 + 1) h7 y hy).1
      unfold putAll
      rw [if_neg (by omega)]
      exact hf y (by simp [hy]) p hp), tot_putAll x.1 t N h2 x.2 f (rs_nodup x.2 0 h5) h6 (hf x (by simp))]
    simp [cntP, Nat.add_assoc]
theorem tot_putL (N : Nat) : ∀ (R : List Tp) (ts : List (List UInt8)) (f : Nat → Nat → Option Nat), GoodR N ts f R → tot (putL ts.length R f) N = tot f N + cntL R
  | [], ts, f, _ => rfl
  | x :: R, ts, f, h => by
    obtain ⟨h1, h2, h3, h4, h5, h6⟩ := h
    have ih := tot_putL N R (ts ++ [x.1]) (putP ts.length x.2 f) h6
    rw [List.length_append, List.length_singleton] at ih
    rw [putL, ih, tot_putP ts.length N x.2 0 f h3 h5]
    simp [cntL, Nat.add_assoc]
theorem tot_no (N : Nat) : tot no N = 0 := by
  unfold tot
  exact sumK_zero 0 N _ (fun d _ _ => sumK_zero 0 60 _ (fun p _ _ => by simp [no]))
theorem sumK_le (g : Nat → Nat) (b : Nat) (h : ∀ t, g t ≤ b) : ∀ k n, sumK g k n ≤ b * n
  | k, 0 => by simp [sumK]
  | k, n + 1 => by
    have := sumK_le g b h (k + 1) n
    have h2 := h k
    simp only [sumK]; rw [Nat.mul_succ]; omega
theorem inner_le (f : Nat → Nat → Option Nat) (d : Nat) : inner f d ≤ 60 := by
  have := sumK_le (fun p => if (f d p).isSome then 1 else 0) 1 (fun t => by split <;> omega) 0 60
  unfold inner; omega
theorem tot_le (f : Nat → Nat → Option Nat) (N : Nat) : tot f N ≤ 60 * N := sumK_le _ 60 (inner_le f) 0 N

/- The rows. -/
def rowF (f : Nat → Nat → Option Nat) (d : Nat) : Nat → Nat → List Nat
  | 0, _ => []
  | fuel + 1, p => match f d p with
    | some v => v :: rowF f d fuel (p + 1)
    | none => []
theorem rowF_len (f : Nat → Nat → Option Nat) (d : Nat) : ∀ fuel p, (rowF f d fuel p).length ≤ fuel
  | 0, p => by simp [rowF]
  | fuel + 1, p => by
    unfold rowF
    split
    · have := rowF_len f d fuel (p + 1); simp; omega
    · simp
theorem rowF_get (f : Nat → Nat → Option Nat) (d : Nat) : ∀ fuel p i (hi : i < (rowF f d fuel p).length), f d (p + i) = some (rowF f d fuel p)[i]
  | 0, p, i, hi => by simp [rowF] at hi
  | fuel + 1, p, i, hi => by
    cases hf : f d p with
    | none =>
      have e : rowF f d (fuel + 1) p = [] := by simp [rowF, hf]
      simp [e] at hi
    | some v =>
      have e : rowF f d (fuel + 1) p = v :: rowF f d fuel (p + 1) := by simp [rowF, hf]
      simp only [e] at hi ⊢
      cases i with
      | zero => simpa using hf
      | succ i =>
        have := rowF_get f d fuel (p + 1) i (by simpa using hi)
        rw [show p + (i + 1) = p + 1 + i by omega, this]
        simp
theorem rowF_stop (f : Nat → Nat → Option Nat) (d : Nat) : ∀ fuel p, (rowF f d fuel p).length < fuel → f d (p + (rowF f d fuel p).length) = none
  | 0, p, h => by omega
  | fuel + 1, p, h => by
    cases hf : f d p with
    | none =>
      have e : rowF f d (fuel + 1) p = [] := by simp [rowF, hf]
      rw [e]; simpa using hf
    | some v =>
      have e : rowF f d (fuel + 1) p = v :: rowF f d fuel (p + 1) := by simp [rowF, hf]
      rw [e] at h ⊢
      have := rowF_stop f d fuel (p + 1) (by simpa using h)
      rw [List.length_cons, show p + ((rowF f d fuel (p + 1)).length + 1) = p + 1 + (rowF f d fuel (p + 1)).length by omega]
      exact this

def rowsF (f : Nat → Nat → Option Nat) (N : Nat) : List (List Nat) := (List.range N).map fun d => rowF f d 60 0
theorem rowsF_len (f : Nat → Nat → Option Nat) (N : Nat) : (rowsF f N).length = N := by simp [rowsF]
theorem rowsF_at (f : Nat → Nat → Option Nat) (N d : Nat) (h : d < (rowsF f N).length) : (rowsF f N)[d] = rowF f d 60 0 := by simp [rowsF]
theorem rowsF_getD (f : Nat → Nat → Option Nat) (N d : Nat) (h : d < N) : (rowsF f N).getD d [] = rowF f d 60 0 := by
  rw [getD_at _ _ (by rw [rowsF_len]; exact h), rowsF_at]

theorem rowsF_are (f : Nat → Nat → Option Nat) (N nt : Nat) (hb : Bnd N f nt) : RowsAre f (rowsF f N) nt where
  at' d hd i hi := by
    have := rowF_get f d 60 0 i (by rw [rowsF_at] at hi; exact hi)
    rw [Nat.zero_add] at this
    rw [this]
    simp only [rowsF_at]
  stop d hd := by
    rw [rowsF_at]
    have hl := rowF_len f d 60 0
    by_cases h : (rowF f d 60 0).length < 60
    · have := rowF_stop f d 60 0 h
      rwa [Nat.zero_add] at this
    · cases hf : f d (rowF f d 60 0).length with
      | none => rfl
      | some v => have := (hb _ _ _ hf).2.2; omega
  small d hd := by
    rw [rowsF_at]
    have hl := rowF_len f d 60 0
    omega
  lt d hd x hx := by
    rw [rowsF_at] at hx
    obtain ⟨i, hi, rfl⟩ := List.getElem_of_mem hx
    exact (hb _ _ _ (rowF_get f d 60 0 i hi)).1

theorem sumK_split (g : Nat → Nat) : ∀ (n k m : Nat), sumK g k (n + m) = sumK g k n + sumK g (k + n) m
  | 0, k, m => by simp [sumK]
  | n + 1, k, m => by
    rw [show n + 1 + m = (n + m) + 1 by omega, sumK, sumK_split g n (k + 1) m, sumK, show k + 1 + n = k + (n + 1) by omega, Nat.add_assoc]
theorem sumK_ones (g : Nat → Nat) : ∀ (n k : Nat), (∀ t, k ≤ t → t < k + n → g t = 1) → sumK g k n = n
  | 0, _, _ => rfl
  | n + 1, k, h => by
    rw [sumK, h k (Nat.le_refl _) (by omega), sumK_ones g n (k + 1) (fun t h1 h2 => h t (by omega) (by omega))]
    omega
theorem sumK_eq (a b : Nat → Nat) : ∀ (n k : Nat), (∀ t, k ≤ t → t < k + n → a t ≤ b t) → sumK b k n ≤ sumK a k n → ∀ t, k ≤ t → t < k + n → b t = a t
  | 0, k, _, _, t, h1, h2 => by omega
  | n + 1, k, h, he, t, h1, h2 => by
    have hk := h k (Nat.le_refl _) (by omega)
    have hmono : sumK a (k + 1) n ≤ sumK b (k + 1) n := by
      have := sumK_mono a b n (k + 1) (fun t h1 h2 => h t (by omega) (by omega))
      exact this
    simp only [sumK] at he
    by_cases e : t = k
    · subst e; omega
    · exact sumK_eq a b n (k + 1) (fun t h1 h2 => h t (by omega) (by omega)) (by omega) t (by omega) (by omega)
where
  sumK_mono (a b : Nat → Nat) : ∀ (n k : Nat), (∀ t, k ≤ t → t < k + n → a t ≤ b t) → sumK a k n ≤ sumK b k n
    | 0, k, _ => by simp [sumK]
    | n + 1, k, h => by
      have := sumK_mono a b n (k + 1) (fun t h1 h2 => h t (by omega) (by omega))
      have := h k (Nat.le_refl _) (by omega)
      simp only [sumK]; omega
theorem sumK_none (g : Nat → Nat) : ∀ (n k : Nat), sumK g k n = 0 → ∀ t, k ≤ t → t < k + n → g t = 0
  | 0, k, _, t, h1, h2 => by omega
  | n + 1, k, h, t, h1, h2 => by
    simp only [sumK] at h
    by_cases e : t = k
    · subst e; omega
    · exact sumK_none g n (k + 1) (by omega) t (by omega) (by omega)

theorem inner_row (f : Nat → Nat → Option Nat) (d : Nat) : inner f d = (rowF f d 60 0).length + sumK (fun p => if (f d p).isSome then 1 else 0) (rowF f d 60 0).length (60 - (rowF f d 60 0).length) := by
  have hl := rowF_len f d 60 0
  unfold inner
  have e : (60 : Nat) = (rowF f d 60 0).length + (60 - (rowF f d 60 0).length) := by omega
  conv => lhs; rw [e]
  rw [sumK_split, Nat.zero_add, sumK_ones]
  intro t _ h2
  have := rowF_get f d 60 0 t (by omega)
  rw [Nat.zero_add] at this
  simp [this]

/-- Where the rows hold all that there is, nothing stands beyond them. -/
theorem rows_all (f : Nat → Nat → Option Nat) (N nt : Nat) (hb : Bnd N f nt) (h : tot f N ≤ sumK (fun d => (rowF f d 60 0).length) 0 N) : ∀ d p v, f d p = some v ↔ d < N ∧ p < (rowF f d 60 0).length ∧ (rowF f d 60 0).getD p 0 = v := by
  have hle : ∀ d, (rowF f d 60 0).length ≤ inner f d := fun d => by rw [inner_row]; omega
  have heq := sumK_eq (fun d => (rowF f d 60 0).length) (inner f) N 0 (fun t _ _ => hle t) h
  intro d p v
  constructor
  · intro e
    obtain ⟨h1, h2, h3⟩ := hb d p v e
    have h4 := heq d (Nat.zero_le _) (by omega)
    rw [inner_row] at h4
    have h5 : sumK (fun p => if (f d p).isSome then 1 else 0) (rowF f d 60 0).length (60 - (rowF f d 60 0).length) = 0 := by omega
    have hp : p < (rowF f d 60 0).length := by
      rcases Nat.lt_or_ge p (rowF f d 60 0).length with h6 | h6
      · exact h6
      · have := sumK_none _ _ _ h5 p h6 (by omega)
        simp [e] at this
    refine ⟨h2, hp, ?_⟩
    have := rowF_get f d 60 0 p hp
    rw [Nat.zero_add, e] at this
    rw [getD_at _ _ hp]
    exact (Option.some.inj this).symm
  · rintro ⟨h1, h2, h3⟩
    have := rowF_get f d 60 0 p h2
    rw [Nat.zero_add] at this
    rw [this, ← h3, getD_at _ _ h2]

/- Lists in order are told by what they hold. -/
theorem rs_ext : ∀ (xs ys : List Nat) (a : Nat), Rs a xs → Rs a ys → (∀ x, x ∈ xs ↔ x ∈ ys) → xs = ys
  | [], [], _, _, _, _ => rfl
  | [], y :: ys, _, _, _, h => by have := (h y).2 (by simp); simp at this
  | x :: xs, [], _, _, _, h => by have := (h x).1 (by simp); simp at this
  | x :: xs, y :: ys, a, hx, hy, h => by
    have h1 : y ≤ x := by
      rcases List.mem_cons.1 ((h x).1 (by simp)) with e | e
      · omega
      · have := rs_ge ys (y + 1) hy.2 x e; omega
    have h2 : x ≤ y := by
      rcases List.mem_cons.1 ((h y).2 (by simp)) with e | e
      · omega
      · have := rs_ge xs (x + 1) hx.2 y e; omega
    have e : x = y := by omega
    subst e
    rw [rs_ext xs ys (x + 1) hx.2 hy.2 (fun z => ?_)]
    constructor
    · intro hz
      have hge := rs_ge xs (x + 1) hx.2 z hz
      rcases List.mem_cons.1 ((h z).1 (by simp [hz])) with e | e
      · omega
      · exact e
    · intro hz
      have hge := rs_ge ys (x + 1) hy.2 z hz
      rcases List.mem_cons.1 ((h z).2 (by simp [hz])) with e | e
      · omega
      · exact e

theorem okP_ext (N : Nat) : ∀ (P Q : List Po) (a : Nat), OkP N a P → OkP N a Q → (∀ d p, memP P d p = true ↔ memP Q d p = true) → P = Q
  | [], [], _, _, _, _ => rfl
  | [], y :: Q, a, _, hQ, h => by
    obtain ⟨p, hp⟩ : ∃ p, p ∈ y.2 := List.exists_mem_of_length_pos (by have := hQ.2.2.1; omega)
    have := (h y.1 p).2 ((memP_iff _ _ _).2 ⟨y, by simp, rfl, hp⟩)
    simp [memP] at this
  | x :: P, [], a, hP, _, h => by
    obtain ⟨p, hp⟩ : ∃ p, p ∈ x.2 := List.exists_mem_of_length_pos (by have := hP.2.2.1; omega)
    have := (h x.1 p).1 ((memP_iff _ _ _).2 ⟨x, by simp, rfl, hp⟩)
    simp [memP] at this
  | x :: P, y :: Q, a, hP, hQ, h => by
    have gP := okP_ge N P (x.1 + 1) hP.2.2.2.2.2.2
    have gQ := okP_ge N Q (y.1 + 1) hQ.2.2.2.2.2.2
    have h1 : y.1 ≤ x.1 := by
      obtain ⟨p, hp⟩ : ∃ p, p ∈ x.2 := List.exists_mem_of_length_pos (by have := hP.2.2.1; omega)
      obtain ⟨z, hz, hz1, hz2⟩ := (memP_iff _ _ _).1 ((h x.1 p).1 ((memP_iff _ _ _).2 ⟨x, by simp, rfl, hp⟩))
      rcases List.mem_cons.1 hz with rfl | hz
      · omega
      · have := (gQ z hz).1; omega
    have h2 : x.1 ≤ y.1 := by
      obtain ⟨p, hp⟩ : ∃ p, p ∈ y.2 := List.exists_mem_of_length_pos (by have := hQ.2.2.1; omega)
      obtain ⟨z, hz, hz1, hz2⟩ := (memP_iff _ _ _).1 ((h y.1 p).2 ((memP_iff _ _ _).2 ⟨y, by simp, rfl, hp⟩))
      rcases List.mem_cons.1 hz with rfl | hz
      · omega
      · have := (gP z hz).1; omega
    have e1 : x.1 = y.1 := by omega
    have inP : ∀ p, memP (x :: P) x.1 p = true ↔ p ∈ x.2 := by
      intro p
      rw [memP_iff]
      constructor
      · rintro ⟨z, hz, hz1, hz2⟩
        rcases List.mem_cons.1 hz with rfl | hz
        · exact hz2
        · have := (gP z hz).1; omega
      · intro hp; exact ⟨x, by simp, rfl, hp⟩
    have inQ : ∀ p, memP (y :: Q) y.1 p = true ↔ p ∈ y.2 := by
      intro p
      rw [memP_iff]
      constructor
      · rintro ⟨z, hz, hz1, hz2⟩
        rcases List.mem_cons.1 hz with rfl | hz
        · exact hz2
        · have := (gQ z hz).1; omega
      · intro hp; exact ⟨y, by simp, rfl, hp⟩
    have e2 : x.2 = y.2 := rs_ext x.2 y.2 0 hP.2.2.2.2.1 hQ.2.2.2.2.1 (fun p => by rw [← inP, h, e1, inQ])
    have e : x = y := Prod.ext e1 e2
    subst e
    rw [okP_ext N P Q (x.1 + 1) hP.2.2.2.2.2.2 hQ.2.2.2.2.2.2 (fun d p => ?_)]
    by_cases hd : d = x.1
    · subst hd
      constructor
      · intro hm
        obtain ⟨z, hz, hz1, _⟩ := (memP_iff _ _ _).1 hm
        have := (gP z hz).1; omega
      · intro hm
        obtain ⟨z, hz, hz1, _⟩ := (memP_iff _ _ _).1 hm
        have := (gQ z hz).1; omega
    · have a1 : memP (x :: P) d p = memP P d p := by
        unfold memP; rw [List.any_cons]; simp [Ne.symm hd]
      have a2 : memP (x :: Q) d p = memP Q d p := by
        unfold memP; rw [List.any_cons]; simp [Ne.symm hd]
      rw [← a1, ← a2]; exact h d p

theorem memP_post (rows : List (List Nat)) (k N d p : Nat) : memP (postD rows k N) d p = true ↔ d < N ∧ p < (rows.getD d []).length ∧ (rows.getD d []).getD p 0 = k := by
  rw [memP_iff]
  constructor
  · rintro ⟨y, hy, rfl, hp⟩
    obtain ⟨h1, h2⟩ := postD_mem rows k N y hy
    rw [h2] at hp
    have := (plc_mem _ _ _ p).1 hp
    exact ⟨h1, this.1, this.2.symm⟩
  · rintro ⟨h1, h2, h3⟩
    have hm : p ∈ plc (rows.getD d []) k (rows.getD d []).length := (plc_mem _ _ _ p).2 ⟨h2, h3.symm⟩
    exact ⟨_, postD_has rows k N d h1 (List.ne_nil_of_mem hm), rfl, hm⟩

theorem terms_eq (PF : Nat → List Po) : ∀ (R : List Tp) (k : Nat), (∀ j (hj : j < R.length), R[j].2 = PF (k + j)) → termsL R = termsB PF k (R.map Prod.fst)
  | [], k, _ => rfl
  | x :: R, k, h => by
    have h0 := h 0 (by simp)
    simp only [List.getElem_cons_zero, Nat.add_zero] at h0
    rw [termsL, List.map_cons, termsB, h0, terms_eq PF R (k + 1) (fun j hj => by
      have := h (j + 1) (by simpa using hj)
      rw [List.getElem_cons_succ] at this
      rw [this]; congr 1; omega)]

theorem good_pw (N : Nat) : ∀ (R : List Tp) (ts : List (List UInt8)) (f : Nat → Nat → Option Nat), GoodR N ts f R → ts.Pairwise (· < ·) → (ts ++ R.map Prod.fst).Pairwise (· < ·)
  | [], ts, f, _, hp => by simpa using hp
  | x :: R, ts, f, h, hp => by
    obtain ⟨h1, h2, h3, h4, h5, h6⟩ := h
    have ih := good_pw N R (ts ++ [x.1]) _ h6 (by
      refine List.pairwise_append.2 ⟨hp, List.pairwise_singleton _ _, ?_⟩
      intro a ha b hb
      rw [List.mem_singleton] at hb
      subst hb
      have hl : 0 < ts.length := List.length_pos_of_mem ha
      unfold isNextF at h2
      simp only [Bool.or_eq_true, decide_eq_true_eq] at h2
      rcases h2 with h2 | h2
      · omega
      · rw [getD_at _ _ (by omega)] at h2
        obtain ⟨i, hi, rfl⟩ := List.getElem_of_mem ha
        by_cases e : i = ts.length - 1
        · subst e; exact h2
        · exact List.lt_trans (List.pairwise_iff_getElem.1 hp i (ts.length - 1) hi (by omega) (by omega)) h2)
    simpa using ih
theorem good_word (N : Nat) : ∀ (R : List Tp) (ts : List (List UInt8)) (f : Nat → Nat → Option Nat), GoodR N ts f R → ∀ x ∈ R, isWord x.1 = true ∧ OkP N 0 x.2 ∧ 1 ≤ x.2.length
  | [], _, _, _, x, hx => by simp at hx
  | y :: R, ts, f, h, x, hx => by
    rcases List.mem_cons.1 hx with rfl | hx
    · exact ⟨h.1, h.2.2.1, h.2.2.2.1⟩
    · exact good_word N R _ _ h.2.2.2.2.2 x hx

theorem pw_ext (xs ys : List (List UInt8)) (hx : xs.Pairwise (· < ·)) (hy : ys.Pairwise (· < ·)) (h : ∀ z, z ∈ xs ↔ z ∈ ys) : xs = ys := by
  have ne : ∀ {a b : List UInt8}, a < b → a ≠ b := fun {a b} h e => by subst e; exact List.lt_irrefl _ h
  have nx : xs.Nodup := List.Pairwise.imp ne hx
  have ny : ys.Nodup := List.Pairwise.imp ne hy
  have hp : xs.Perm ys := (List.perm_ext_iff_of_nodup nx ny).2 h
  exact List.Perm.eq_of_pairwise (le := fun a b : List UInt8 => a < b) (fun a b _ _ h1 h2 => absurd h2 (List.lt_asymm h1)) hx hy hp

theorem may_inv : ∀ (T : List Tx) (c : Int), mayB T c = true → (∀ t ∈ T, lenF t.2 ≤ 120) ∧ c = (sumW T : Nat)
  | [], c, h => by simp [mayB] at h; simp [sumW, h]
  | t :: r, c, h => by
    rw [mayB] at h
    split at h
    · simp at h
    · rename_i hl
      obtain ⟨h1, h2⟩ := may_inv r _ h
      refine ⟨fun x hx => ?_, by rw [sumW]; omega⟩
      rcases List.mem_cons.1 hx with rfl | hx
      · omega
      · exact h1 x hx
end Go.Proofs.YtbkepgmgebmceaaGreatDoor.Pak

set_option linter.unusedVariables false
set_option maxRecDepth 4000
namespace Go.Proofs.YtbkepgmgebmceaaGreatDoor.Pak
open Go.RowKit Go.Proofs.YtbkepgmgebmceaaGreatDoor Go.Proofs.YtbkepgmgebmceaaGreatDoor.Spl SiftM

theorem size9 (w : World) : (sizeOf 9).run Tryz.prog w = .ok 1 w := by kernel_rfl

theorem strV_take (L : List (List UInt8)) (p : Nat) : strV (L.take p) = (strV L).take p := by simp [strV, List.map_take]
theorem strV_drop (L : List (List UInt8)) (p : Nat) : strV (L.drop p) = (strV L).drop p := by simp [strV, List.map_drop]
theorem strV_ins (L : List (List UInt8)) (p : Nat) (x : List UInt8) : strV (ins L p x) = ((strV L).take p ++ [Value.string ⟨x.toArray⟩]) ++ (strV L).drop p := by
  simp [ins, strV, List.map_take, List.map_drop]

theorem pw_ins (L : List (List UInt8)) (p : Nat) (x : List UInt8) (hp : p ≤ L.length) (h : L.Pairwise (· < ·)) (h1 : ∀ j (hj : j < L.length), j < p → L[j] < x) (h2 : ∀ (hj : p < L.length), x < L[p]) : (ins L p x).Pairwise (· < ·) := by
  have hpw := List.pairwise_iff_getElem.1 h
  have h2' : ∀ j (hj : j < L.length), p ≤ j → x < L[j] := by
    intro j hj hpj
    have h3 := h2 (by omega)
    by_cases e : j = p
    · subst e; exact h3
    · exact List.lt_trans h3 (hpw p j (by omega) hj (by omega))
  rw [List.pairwise_iff_getElem]
  intro i j hi hj hij
  have hj' : j < L.length + 1 := by rw [ins_len _ _ _ hp] at hj; exact hj
  by_cases j3 : j < p
  · rw [ins_lo L p x hp j hj j3, ins_lo L p x hp i hi (by omega)]
    exact hpw i j (by omega) (by omega) hij
  · by_cases j4 : j = p
    · subst j4
      rw [ins_at L j x hp hj, ins_lo L j x hp i hi hij]
      exact h1 i (by omega) hij
    · rw [ins_hi L p x hp j hj (by omega)]
      by_cases i3 : i < p
      · rw [ins_lo L p x hp i hi i3]
        exact hpw i (j - 1) (by omega) (by omega) (by omega)
      · by_cases i4 : i = p
        · subst i4
          rw [ins_at L i x hp hi]
          exact h2' (j - 1) (by omega) (by omega)
        · rw [ins_hi L p x hp i hi (by omega)]
          exact hpw (i - 1) (j - 1) (by omega) (by omega) (by omega)
theorem mem_ins {α : Type} (L : List α) (p : Nat) (x y : α) : y ∈ ins L p x ↔ y = x ∨ y ∈ L := by
  unfold ins
  have h := (List.take_append_drop p L)
  constructor
  · intro hy
    rcases List.mem_append.1 hy with hy | hy
    · exact .inr (List.mem_of_mem_take hy)
    · rcases List.mem_cons.1 hy with hy | hy
      · exact .inl hy
      · exact .inr (List.mem_of_mem_drop hy)
  · rintro (rfl | hy)
    · simp
    · rw [← h] at hy
      rcases List.mem_append.1 hy with hy | hy
      · simp [hy]
      · simp [hy]

theorem allW_take (T : List Tx) (i : Nat) (h : i < T.length) (x : List UInt8) : x ∈ allW (T.take (i + 1)) ↔ x ∈ allW (T.take i) ∨ x ∈ T[i].2 := by
  rw [take_snocL T i h, allW_snoc]; simp

set_option maxHeartbeats 1000000 in
set_option maxRecDepth 100000 in
theorem rterms_any (B N : Nat) (u : Value) (T : List Tx) (vs : List Value) (w : World) (hu : DocsIs w B u T vs) (hT : T.length = N) (hN : N ≤ 60) (hws : ∀ x ∈ T, x.2.length ≤ 60) :
    Calls Tryz.prog 171 #[u] w fun e w' => ∃ (a : Option Addr) (c m : Nat), (termsOf T).length = m ∧ e = .returned (.slice a m c) ∧ w'.ownsRow w.heap.size 9 1 (.slice a m c) m (strV (termsOf T)) ∧ Kp [] w w' := by
  obtain ⟨i9, hi9, hz0, hz1, hz2⟩ := info_parts Tryz.info9
  obtain ⟨au, cu, rfl, hau⟩ := owns_forms hu.row
  rw [hT] at hu hau
  rw [hT]
  have HU := hide hu
  have HT := hide hT
  have HWS := hide hws
  clear hu hT hws
  go_enter Tryz.func171, Tryz.ntmps171
  go_wp2_with fail
  go_loopw [3, 4] (fun lv iv wr => ∃ (i : Nat) (L : List (List UInt8)) (al : Option Addr) (cl m : Nat), i ≤ N ∧ iv = .int .i64 i ∧ lv = .slice al m cl ∧ L.length = m ∧ m ≤ 60 * i ∧ wr.ownsRow w.heap.size 9 1 (.slice al m cl) m (strV L) ∧ L.Pairwise (· < ·) ∧ (∀ x, x ∈ L ↔ x ∈ allW (T.take i)) ∧ Kp [] w wr) (fun _ iv _ => N - (intOf iv).toNat)
  case atStart => exact ⟨0, [], none, 0, 0, by omega, rfl, rfl, rfl, by omega, World.ownsRow_nil _ _ _ _, List.Pairwise.nil, by simp [allW], Kp.refl _ _⟩
  case round =>
    obtain ⟨i, L, al, cl, m, hi, rfl, rfl, hm, hm60, ho, hpw, hmem, hkp⟩ := hrel
    by_cases hlt : i < N
    · obtain ⟨g, rfl⟩ := hau (by omega)
      have hiT : i < T.length := by rw [HT.out]; exact hlt
      have hwl := HWS.out T[i] (List.getElem_mem hiT)
      have hst := fun x => allW_take T i hiT x
      obtain ⟨ws, hwsE⟩ : ∃ ws, T[i].2 = ws := ⟨_, rfl⟩
      simp only [hwsE] at hwl hst
      have HST := hide hst
      have HWE := hide hwsE
      have HO := hide ho
      have HPW := hide hpw
      have HME := hide hmem
      have Hm := hide hm
      clear hst hwsE ho hpw hmem hm
      go_wp2_with fail
      go_loopw [3, 5] (fun lv kv wr => ∃ (k : Nat) (L : List (List UInt8)) (al : Option Addr) (cl m : Nat), k ≤ ws.length ∧ kv = .int .i64 k ∧ lv = .slice al m cl ∧ L.length = m ∧ m ≤ 60 * i + k ∧ wr.ownsRow w.heap.size 9 1 (.slice al m cl) m (strV L) ∧ L.Pairwise (· < ·) ∧ (∀ x, x ∈ L ↔ x ∈ allW (T.take i) ∨ x ∈ ws.take k) ∧ Kp [] w wr) (fun _ kv _ => ws.length - (intOf kv).toNat)
      case atStart => exact ⟨0, L, al, cl, m, by omega, rfl, rfl, Hm.out, by omega, HO.out, HPW.out, by simpa using HME.out, hkp⟩
      case round =>
        clear HO HPW HME Hm hm60
        obtain ⟨k, L, al, cl, m, hk, rfl, rfl, hm, hmk, ho, hpw, hmem, hkp'⟩ := hrel
        have hur := HU.out.kp0 hkp'
        have hiv : i < vs.length := by rw [hur.len]; exact hiT
        obtain ⟨q0, q1, q2⟩ := hur.cells i hiT hiv
        have hw := hur.each i hiT hiv
        obtain ⟨aw, cw, ew, haw⟩ := owns_forms hw
        rw [ew] at q1 hw
        rw [HWE.out] at q1 hw haw
        have hgl := (hur.row.lt g rfl).2
        clear hur q0 q2 ew
        by_cases hlt2 : k < ws.length
        · obtain ⟨gw, rfl⟩ := haw (by omega)
          have hcw := strs_cells hw rfl k hlt2
          have hgwl := (hw.lt gw rfl).2
          have htk := take_snocL ws k hlt2
          obtain ⟨x, hx⟩ : ∃ x, ws[k] = x := ⟨_, rfl⟩
          rw [hx] at hcw htk
          obtain ⟨hf1, hf2, hf3, hf4⟩ := halves ho
          have HO := hide ho
          have HPW := hide hpw
          have HME := hide hmem
          have Hm := hide hm
          have HTK := hide htk
          have HF1 := hide hf1
          have HF2 := hide hf2
          have HF4 := hide hf4
          clear ho hpw hmem hm htk hx hw hf1 hf2 hf4
          go_wp2_with fail
          go_loopw [7] (fun av w2 => ∃ p : Nat, p ≤ m ∧ av = .int .i64 p ∧ (∀ j (hj : j < L.length), j < p → L[j] < x) ∧ w2 = wr) (fun av _ => m - (intOf av).toNat)
          case atStart => exact ⟨0, by omega, rfl, fun j _ hj => absurd hj (by omega), rfl⟩
          case round =>
            obtain ⟨p, hpm, rfl, hlow, rfl⟩ := hrel
            have hmL : L.length = m := Hm.out
            by_cases hc : ∃ h : p < L.length, L[p] < x
            · obtain ⟨hpl, hlt5⟩ := hc
              obtain ⟨gl, hgl'⟩ : ∃ gl, al = some ⟨gl, 0, none⟩ := by
                cases hal : al with
                | none => have := (HF2.out hal).1; omega
                | some y => obtain ⟨gl, rfl⟩ := HF1.out y hal; exact ⟨gl, rfl⟩
              have hcl := HF4.out gl hgl' p (.string ⟨L[p].toArray⟩) (by simp [strV, hpl])
              have hbl : Op.bytesLess L[p] x = true := by rw [bytesLess_eq]; exact decide_eq_true hlt5
              have hgll := (HO.out.lt gl (by rw [hgl']; rfl)).2
              have hnx : ∀ j (hj : j < L.length), j < p + 1 → L[j] < x := by
                intro j hj hjp
                by_cases e : j = p
                · subst e; exact hlt5
                · exact hlow j hj (by omega)
              have hpm2 : p < m := by omega
              have hcap := hf3
              subst hgl'
              obtain ⟨y, hy⟩ : ∃ y, L[p] = y := ⟨_, rfl⟩
              rw [hy] at hcl hbl
              have HNX := hide hnx
              clear hlow hy hnx hlt5
              go_wp2_with fail
              go_roundw
              case rel => exact ⟨p + 1, by omega, by go_num, HNX.out, trivial⟩
              case measure => simp [intOf]; omega
            · by_cases heq : ∃ h : p < L.length, L[p] = x
              · obtain ⟨hpl, hex⟩ := heq
                obtain ⟨gl, hgl'⟩ : ∃ gl, al = some ⟨gl, 0, none⟩ := by
                  cases hal : al with
                  | none => have := (HF2.out hal).1; omega
                  | some y => obtain ⟨gl, rfl⟩ := HF1.out y hal; exact ⟨gl, rfl⟩
                have hcl := HF4.out gl hgl' p (.string ⟨L[p].toArray⟩) (by simp [strV, hpl])
                rw [hex] at hcl
                have hbl : Op.bytesLess x x = false := by rw [bytesLess_eq]; exact decide_eq_false (List.lt_irrefl _)
                have hgll := (HO.out.lt gl (by rw [hgl']; rfl)).2
                have hin : x ∈ L := by rw [← hex]; exact List.getElem_mem hpl
                have hpm2 : p < m := by omega
                have hme2 : ∀ z, z ∈ L ↔ z ∈ allW (T.take i) ∨ z ∈ ws.take (k + 1) := by
                  intro z
                  rw [HTK.out]
                  simp only [List.mem_append, List.mem_singleton]
                  constructor
                  · intro hz
                    rcases (HME.out z).1 hz with h | h
                    · exact .inl h
                    · exact .inr (.inl h)
                  · rintro (h | h | h)
                    · exact (HME.out z).2 (.inl h)
                    · exact (HME.out z).2 (.inr h)
                    · rw [h]; exact hin
                subst hgl'
                have HM2 := hide hme2
                clear hlow hme2 hc hex hin
                go_wp2_with fail
                go_roundw
                case rel => exact ⟨k + 1, L, some ⟨gl, 0, none⟩, cl, m, by omega, by go_num, rfl, Hm.out, by omega, HO.out, HPW.out, HM2.out, hkp'⟩
                case measure => simp [intOf]; omega
              · have hge : ∀ h : p < L.length, x < L[p] := by
                  intro h
                  have h1 : ¬ L[p] < x := fun h' => hc ⟨h, h'⟩
                  have h2 : L[p] ≠ x := fun h' => heq ⟨h, h'⟩
                  exact lt_of _ _ (List.not_lt.1 h1) (fun e => h2 e.symm)
                have hns := pw_ins L p x (by omega) HPW.out hlow hge
                have hlo := fun w' => slice_loG 67 9 1 Tryz.underlying67 size9 al m cl p w' hpm hf3 HF1.out
                obtain ⟨ad, hhi, hadn, hads⟩ := slice_hiG 67 9 1 Tryz.underlying67 size9 al m cl p hpm hf3 HF2.out HF1.out
                have hzl : (strV L).length = m := by rw [strV_length]; exact hmL
                have hd1 : al = none → p = 0 ∧ cl = 0 := fun e => by obtain ⟨e1, e2⟩ := HF2.out e; exact ⟨by omega, e2⟩
                have hd2 : ((strV L).take p).length = p * 1 := by rw [List.length_take, hzl]; omega
                have hd2b : ((strV L).drop p).length = (m - p) * 1 := by rw [List.length_drop, hzl]; omega
                have hd3 : ∀ adr, al = some adr → ∀ j u, ((strV L).take p)[j]? = some u → wr.cell? (adr.add j) = some u := by
                  intro adr hadr j u hu
                  obtain ⟨g', rfl⟩ := HF1.out adr hadr
                  rw [add_zero']
                  refine HF4.out g' hadr j u ?_
                  rw [List.getElem?_take] at hu
                  split at hu
                  · exact hu
                  · simp at hu
                have hd3b : ∀ adr, ad = some adr → ∀ j u, ((strV L).drop p)[j]? = some u → wr.cell? (adr.add j) = some u := by
                  intro adr hadr j u hu
                  have hj : j < ((strV L).drop p).length := by
                    rcases Nat.lt_or_ge j ((strV L).drop p).length with h | h
                    · exact h
                    · rw [List.getElem?_eq_none h] at hu; simp at hu
                  obtain ⟨g', hg', rfl⟩ := hads adr hadr (by omega)
                  have ea : (⟨g', p * 1, none⟩ : Addr).add j = ⟨g', p + j, none⟩ := by unfold Addr.add; split <;> simp_all
                  rw [ea]
                  refine HF4.out g' hg' _ u ?_
                  rw [List.getElem?_drop] at hu
                  exact hu
                have hd4 : ∀ u ∈ (strV L).take p, u.oneCell' = true := fun u hu => words_oneCell L u (List.mem_of_mem_take hu)
                have hd4b : ∀ u ∈ (strV L).drop p, u.oneCell' = true := fun u hu => words_oneCell L u (List.mem_of_mem_drop hu)
                have hcase : ∀ (gl : Nat), al = some ⟨gl, 0, none⟩ → p < m → ∃ y, wr.cell? ⟨gl, p, none⟩ = some (.string ⟨y.toArray⟩) ∧ Op.bytesLess y x = false ∧ (y == x) = false ∧ gl < wr.heap.size := by
                  intro gl hgl' hpm2
                  have hpl : p < L.length := by omega
                  refine ⟨L[p], HF4.out gl hgl' p (.string ⟨L[p].toArray⟩) (by simp [strV, hpl]), ?_, ?_, (HO.out.lt gl (by rw [hgl']; rfl)).2⟩
                  · rw [bytesLess_eq]; exact decide_eq_false (fun h' => hc ⟨hpl, h'⟩)
                  · have := fun h' => heq ⟨hpl, h'⟩
                    simpa using this
                have HNS := hide hns
                have HADN := hide hadn
                have HD1 := hide hd1
                have HD2 := hide hd2
                have HD2b := hide hd2b
                have HD3 := hide hd3
                have HD3b := hide hd3b
                have HD4 := hide hd4
                have HD4b := hide hd4b
                have hm3600 : m ≤ 3660 := by omega
                clear hns hadn hd1 hd2 hd2b hd3 hd3b hd4 hd4b hzl hlow hge hads hc heq hmL
                by_cases hlt6 : p < m
                · obtain ⟨gl, hga⟩ : ∃ gl, al = some ⟨gl, 0, none⟩ := by
                    cases hal : al with
                    | none => have := (HF2.out hal).1; omega
                    | some y => obtain ⟨gl, rfl⟩ := HF1.out y hal; exact ⟨gl, rfl⟩
                  obtain ⟨y, q3, q4, q5, q6⟩ := hcase gl hga hlt6
                  subst hga
                  clear hcase
                  go_wp2_with (first
                    | (at_builtin; refine wpList_append_opt _ rfl _ _ 67 rfl wr.heap.size 9 i9 (.string ⟨#[]⟩) 1 16 Tryz.underlying67 hi9 hz0 hz1 hz2 rfl (by decide) _ 0 [] rfl (World.ownsRow_nil _ _ _ _) (some ⟨gl, 0, none⟩) p cl ((strV L).take p) rfl HD1.out HD2.out HD3.out HD4.out ?d5 ?d6 ?d7 ?_)
                    | fail)
                  case d5 => unfold maxLen; omega
                  case d6 => omega
                  case d7 => exact Nat.le_refl _
                  intro v5 w5 hown5 hg5 hb5
                  obtain ⟨a5, c5, rfl, _⟩ := owns_forms hown5
                  have k5 : Kp [] wr w5 := (Kp.refl _ _).grown hg5 (fun k hk => by simp [Value.ownBlock] at hk)
                  have hz5 := k5.size
                  have HO5 := hide hown5
                  clear hown5 hg5 hb5
                  go_wp2_with (first
                    | (at_builtin; refine wpList_append_own_at _ rfl _ _ 67 rfl wr.heap.size 9 i9 (.string ⟨#[]⟩) 1 16 Tryz.underlying67 hi9 hz0 hz1 hz2 rfl (by decide) _ _ _ rfl (HO5.out.alloc _) ⟨w5.heap.size, 0, none⟩ 1 1 [.string ⟨x.toArray⟩] rfl rfl (one_new _ _ _) ?c2 ?c3 ?c4 ?c5 ?_)
                    | fail)
                  case c2 => intro u hu; simp at hu; subst hu; rfl
                  case c3 => unfold maxLen; omega
                  case c4 => omega
                  case c5 => simp; omega
                  intro v6 w6 hown6 hg6 _ _
                  obtain ⟨a6, c6, rfl, _⟩ := owns_forms hown6
                  have k6 : Kp (Value.slice a5 p c5).ownBlock.toList w5 w6 := ((Kp.refl _ _).alloc _).grown hg6 (fun j hj => .inl (by simp [hj]))
                  have k6' : Kp [] wr w6 := k5.trans k6 (fun x hx => .inr (HO5.out.lt x (by simpa using hx)).1)
                  have hz6 := k6'.size
                  have HO6 := hide hown6
                  have HD5 := hide (fun adr h1 j u h2 => k6'.cellv (HD3b.out adr h1 j u h2) (by simp))
                  clear hown6 hg6 k6 k5 HO5
                  go_wp2_with (first
                    | (at_builtin; refine wpList_append_opt _ rfl _ _ 67 rfl wr.heap.size 9 i9 (.string ⟨#[]⟩) 1 16 Tryz.underlying67 hi9 hz0 hz1 hz2 rfl (by decide) _ _ _ rfl HO6.out ad (m - p) (cl - p) ((strV L).drop p) rfl HADN.out HD2b.out HD5.out HD4b.out ?d5 ?d6 ?d7 ?_)
                    | fail)
                  case d5 => unfold maxLen; omega
                  case d6 => omega
                  case d7 => omega
                  intro v7 w7 hown7 hg7 hb7
                  rw [show p + 1 + (m - p) = m + 1 by omega] at hown7
                  obtain ⟨a7, c7, rfl, _⟩ := owns_forms hown7
                  have k7 : Kp (Value.slice a6 (p + 1) c6).ownBlock.toList w6 w7 := (Kp.refl _ _).grown hg7 (fun j hj => .inl (by simp [hj]))
                  have k7' : Kp [] wr w7 := k6'.trans k7 (fun x hx => .inr (HO6.out.lt x (by simpa using hx)).1)
                  have hins : w7.ownsRow w.heap.size 9 1 (.slice a7 (m + 1) c7) (m + 1) (strV (ins L p x)) := by
                    rw [strV_ins, List.append_assoc]
                    exact owns_low hown7 hkp'.size
                  have HINS := hide hins
                  have kf := hkp'.next k7'
                  clear hown7 hg7 hb7 k7 k6' k7' hins HO6 HD5
                  go_wp2_with fail
                  go_roundw
                  case rel =>
                    refine ⟨k + 1, ins L p x, a7, c7, m + 1, by omega, by go_num, rfl, ?_, by omega, HINS.out, HNS.out, ?_, kf⟩
                    · rw [ins_len L p x (by rw [Hm.out]; exact hpm), Hm.out]
                    · intro z
                      rw [mem_ins, HME.out, HTK.out]
                      simp only [List.mem_append, List.mem_singleton]
                      constructor
                      · rintro (h | h | h)
                        · exact .inr (.inr h)
                        · exact .inl h
                        · exact .inr (.inl h)
                      · rintro (h | h | h)
                        · exact .inr (.inl h)
                        · exact .inr (.inr h)
                        · exact .inl h
                  case measure => simp [intOf]; omega
                · clear hcase
                  go_wp2_with (first
                    | (at_builtin; refine wpList_append_opt _ rfl _ _ 67 rfl wr.heap.size 9 i9 (.string ⟨#[]⟩) 1 16 Tryz.underlying67 hi9 hz0 hz1 hz2 rfl (by decide) _ 0 [] rfl (World.ownsRow_nil _ _ _ _) al p cl ((strV L).take p) rfl HD1.out HD2.out HD3.out HD4.out ?d5 ?d6 ?d7 ?_)
                    | fail)
                  case d5 => unfold maxLen; omega
                  case d6 => omega
                  case d7 => exact Nat.le_refl _
                  intro v5 w5 hown5 hg5 hb5
                  obtain ⟨a5, c5, rfl, _⟩ := owns_forms hown5
                  have k5 : Kp [] wr w5 := (Kp.refl _ _).grown hg5 (fun k hk => by simp [Value.ownBlock] at hk)
                  have hz5 := k5.size
                  have HO5 := hide hown5
                  clear hown5 hg5 hb5
                  go_wp2_with (first
                    | (at_builtin; refine wpList_append_own_at _ rfl _ _ 67 rfl wr.heap.size 9 i9 (.string ⟨#[]⟩) 1 16 Tryz.underlying67 hi9 hz0 hz1 hz2 rfl (by decide) _ _ _ rfl (HO5.out.alloc _) ⟨w5.heap.size, 0, none⟩ 1 1 [.string ⟨x.toArray⟩] rfl rfl (one_new _ _ _) ?c2 ?c3 ?c4 ?c5 ?_)
                    | fail)
                  case c2 => intro u hu; simp at hu; subst hu; rfl
                  case c3 => unfold maxLen; omega
                  case c4 => omega
                  case c5 => simp; omega
                  intro v6 w6 hown6 hg6 _ _
                  obtain ⟨a6, c6, rfl, _⟩ := owns_forms hown6
                  have k6 : Kp (Value.slice a5 p c5).ownBlock.toList w5 w6 := ((Kp.refl _ _).alloc _).grown hg6 (fun j hj => .inl (by simp [hj]))
                  have k6' : Kp [] wr w6 := k5.trans k6 (fun x hx => .inr (HO5.out.lt x (by simpa using hx)).1)
                  have hz6 := k6'.size
                  have HO6 := hide hown6
                  have HD5 := hide (fun adr h1 j u h2 => k6'.cellv (HD3b.out adr h1 j u h2) (by simp))
                  clear hown6 hg6 k6 k5 HO5
                  go_wp2_with (first
                    | (at_builtin; refine wpList_append_opt _ rfl _ _ 67 rfl wr.heap.size 9 i9 (.string ⟨#[]⟩) 1 16 Tryz.underlying67 hi9 hz0 hz1 hz2 rfl (by decide) _ _ _ rfl HO6.out ad (m - p) (cl - p) ((strV L).drop p) rfl HADN.out HD2b.out HD5.out HD4b.out ?d5 ?d6 ?d7 ?_)
                    | fail)
                  case d5 => unfold maxLen; omega
                  case d6 => omega
                  case d7 => omega
                  intro v7 w7 hown7 hg7 hb7
                  rw [show p + 1 + (m - p) = m + 1 by omega] at hown7
                  obtain ⟨a7, c7, rfl, _⟩ := owns_forms hown7
                  have k7 : Kp (Value.slice a6 (p + 1) c6).ownBlock.toList w6 w7 := (Kp.refl _ _).grown hg7 (fun j hj => .inl (by simp [hj]))
                  have k7' : Kp [] wr w7 := k6'.trans k7 (fun x hx => .inr (HO6.out.lt x (by simpa using hx)).1)
                  have hins : w7.ownsRow w.heap.size 9 1 (.slice a7 (m + 1) c7) (m + 1) (strV (ins L p x)) := by
                    rw [strV_ins, List.append_assoc]
                    exact owns_low hown7 hkp'.size
                  have HINS := hide hins
                  have kf := hkp'.next k7'
                  clear hown7 hg7 hb7 k7 k6' k7' hins HO6 HD5
                  go_wp2_with fail
                  go_roundw
                  case rel =>
                    refine ⟨k + 1, ins L p x, a7, c7, m + 1, by omega, by go_num, rfl, ?_, by omega, HINS.out, HNS.out, ?_, kf⟩
                    · rw [ins_len L p x (by rw [Hm.out]; exact hpm), Hm.out]
                    · intro z
                      rw [mem_ins, HME.out, HTK.out]
                      simp only [List.mem_append, List.mem_singleton]
                      constructor
                      · rintro (h | h | h)
                        · exact .inr (.inr h)
                        · exact .inl h
                        · exact .inr (.inl h)
                      · rintro (h | h | h)
                        · exact .inr (.inl h)
                        · exact .inr (.inr h)
                        · exact .inl h
                  case measure => simp [intOf]; omega
        · have ek : ws.length = k := by omega
          have HO := hide ho
          have hme2 : ∀ x, x ∈ L ↔ x ∈ allW (T.take (i + 1)) := by
            intro x
            rw [hmem, HST.out, ← ek, List.take_length]
          have HPW := hide hpw
          have HME := hide hme2
          have Hm := hide hm
          clear ho hpw hmem hm hw hme2
          go_wp2_with fail
          go_roundw
          case rel => exact ⟨i + 1, L, al, cl, m, by omega, by go_num, rfl, Hm.out, by omega, HO.out, HPW.out, HME.out, hkp'⟩
          case measure => simp [intOf]; omega
    · have ei : N = i := by omega
      subst ei
      have he : L = termsOf T := by
        refine pw_ext L (termsOf T) hpw (terms_pw T) (fun z => ?_)
        rw [hmem, terms_mem, show T.take N = T by rw [← HT.out, List.take_length]]
      have Hm := hide hm
      have HO := hide ho
      have HE := hide he
      clear hm ho hpw hmem he
      go_wp2_with fail
      go_ret
      exact ⟨al, cl, m, by rw [← HE.out]; exact Hm.out, rfl, by rw [← HE.out]; exact HO.out, hkp⟩
end Go.Proofs.YtbkepgmgebmceaaGreatDoor.Pak

set_option linter.unusedVariables false
set_option maxRecDepth 4000
namespace Go.Proofs.YtbkepgmgebmceaaGreatDoor.Pak
open Go.RowKit Go.Proofs.YtbkepgmgebmceaaGreatDoor Go.Proofs.YtbkepgmgebmceaaGreatDoor.Spl SiftM

theorem plW_plc (T : List Tx) (ws : List (List UInt8)) (hw : ∀ x ∈ ws, x ∈ termsOf T) (k : Nat) (hk : k < (termsOf T).length) : ∀ n, n ≤ ws.length → plW ws (termsOf T)[k] n = plc (ws.map (bsIx (termsOf T))) k n
  | 0, _ => rfl
  | n + 1, hn => by
    have hn' : n < ws.length := by omega
    have ih := plW_plc T ws hw k hk n (by omega)
    rw [plW, plc, ih, getD_at _ _ hn', getD_at _ _ (by simpa using hn'), List.getElem_map]
    congr 1
    have hx := hw ws[n] (List.getElem_mem hn')
    by_cases e : ws[n] = (termsOf T)[k]
    · rw [if_pos e, if_pos (by rw [e, bs_at _ (terms_pw T) k hk])]
    · rw [if_neg e, if_neg]
      intro e2
      apply e
      have := (bs_mem _ (terms_pw T) _ hx).2
      rw [← e2, getD_at _ _ hk] at this
      exact this.symm

theorem postW_postD (T : List Tx) (k : Nat) (hk : k < (termsOf T).length) : ∀ d, d ≤ T.length → postW T (termsOf T)[k] d = postD (rowsOf T) k d
  | 0, _ => rfl
  | d + 1, hd => by
    have hd' : d < T.length := by omega
    have er : (rowsOf T).getD d [] = T[d].2.map (bsIx (termsOf T)) := by rw [getD_at _ _ (by rw [rows_len]; exact hd')]; exact rows_at T d hd'
    rw [postW_step T _ d hd', postD, postW_postD T k hk d (by omega), er, List.length_map]
    congr 2
    exact plW_plc T T[d].2 (fun x hx => (terms_mem T x).2 ((allW_iff T x).2 ⟨T[d], List.getElem_mem hd', hx⟩)) k hk _ (Nat.le_refl _)

set_option maxHeartbeats 1000000 in
set_option maxRecDepth 100000 in
theorem rfile_any (B : Nat) (u : Value) (T : List Tx) (vs : List Value) (w : World) (hu : DocsIs w B u T vs) (hf : Fine T) :
    Calls Tryz.prog 152 #[u] w fun e w' => ∃ (a : Option Addr) (c n : Nat), (fileT T).length = n ∧ e = .returned (.slice a n c) ∧ w'.ownsRow w.heap.size 5 1 (.slice a n c) n (byV (fileT T)) ∧ Kp [] w w' := by
  obtain ⟨i0, hi, hz0, hz1, hz2⟩ := info_parts info3
  have hte := fun (w' : World) (h' : Kp [] w w') => rterms_any B T.length u T vs w' (hu.kp0 h') rfl hf.len hf.few
  have hne := fun (w' : World) (vv : Value) (n : Nat) => True
  have hlen := hf.len
  have hfew := hf.few
  have hids : ∀ x ∈ T.map Prod.fst, x < 268435456 := by
    intro x hx
    obtain ⟨t, ht, rfl⟩ := List.mem_map.1 hx
    have := hf.ids t ht; omega
  have hrs := hf.rise
  have hnt := allW_le T hf.few
  have hpart := postT_part T hf
  have hok := postT_ok T hf
  have hwd := fine_word T hf
  have hpW : ∀ k x, (termsOf T)[k]? = some x → postW T x T.length = postT T k := by
    intro k x hx
    have hk : k < (termsOf T).length := by
      rcases Nat.lt_or_ge k (termsOf T).length with h | h
      · exact h
      · rw [List.getElem?_eq_none h] at hx; simp at hx
    rw [List.getElem?_eq_getElem hk] at hx
    rw [← Option.some.inj hx, postW_postD T k hk T.length (Nat.le_refl _)]
    unfold postT; rw [rows_len]
  have hbe := body_eq T
  obtain ⟨N, hN⟩ : ∃ N, T.length = N := ⟨_, rfl⟩
  obtain ⟨terms, hterms⟩ : ∃ terms, termsOf T = terms := ⟨_, rfl⟩
  obtain ⟨PT, hPT⟩ : ∃ PT, postT T = PT := ⟨_, rfl⟩
  obtain ⟨au, cu, rfl, hau⟩ := owns_forms hu.row
  rw [hN] at hu hau hlen hbe hnt
  simp only [hN, hterms] at hte hpW
  simp only [hPT] at hpW
  rw [hterms] at hnt hwd hbe
  simp only [hterms, hPT] at hpart
  simp only [hPT, hN] at hok
  rw [hPT] at hbe
  have hfile : fileT T = bodyT T ++ sumB (bodyT T) := rfl
  obtain ⟨body, hbody⟩ : ∃ body, bodyT T = body := ⟨_, rfl⟩
  rw [hbody] at hbe hfile
  rw [hfile, hN]
  have HU := hide hu
  have HTE := hide hte
  have HF := hide hfew
  have HI := hide hids
  have HRS := hide hrs
  have HPt := hide hpart
  have HOK := hide hok
  have HWd := hide hwd
  have HPW := hide hpW
  have HBE := hide hbe
  have HN := hide hN
  clear hu hte hne hfew hids hrs hpart hok hwd hpW hbe hN hterms hPT hbody hfile hf
  go_enter Tryz.func152, Tryz.ntmps152
  go_wp2_with fail
  go_loopw [3, 4] (fun lv iv wr => ∃ (k : Nat) (a : Option Addr) (c : Nat), k ≤ N ∧ iv = .int .i64 k ∧ lv = .slice a k c ∧ wr.ownsRow w.heap.size 3 1 (.slice a k c) k (intV ((T.map Prod.fst).take k)) ∧ Kp [] w wr) (fun _ iv _ => N - (intOf iv).toNat)
  case atStart => exact ⟨0, none, 0, by omega, rfl, rfl, World.ownsRow_nil _ _ _ _, Kp.refl _ _⟩
  case round =>
    obtain ⟨k, a, c, hk, rfl, rfl, ho, hkp⟩ := hrel
    by_cases hlt : k < N
    · obtain ⟨g, rfl⟩ := hau (by omega)
      have hkT : k < T.length := by rw [HN.out]; exact hlt
      have hur := HU.out.kp0 hkp
      have hkv : k < vs.length := by rw [hur.len]; exact hkT
      obtain ⟨q0, q1, q2⟩ := hur.cells k hkT hkv
      have htk := take_snocL (T.map Prod.fst) k (by simpa using hkT)
      have hgl := (hur.row.lt g rfl).2
      obtain ⟨id, hid⟩ : ∃ id, T[k].1 = id := ⟨_, rfl⟩
      have hst : intV ((T.map Prod.fst).take (k + 1)) = intV ((T.map Prod.fst).take k) ++ [.int .i64 (id : Int)] := by
        rw [htk, ← hid]; simp [intV]
      rw [hid] at q0
      have HST := hide hst
      have HO := hide ho
      have hzk := hkp.size
      clear hur htk hid hst ho q1 q2
      go_wp2_with (first
        | (at_builtin; refine wpList_append_own_at _ rfl _ _ 24 rfl w.heap.size 3 i0 (.int .i64 0) 1 8 Tryz.underlying24 hi hz0 hz1 hz2 rfl (by decide) _ _ _ rfl (HO.out.alloc _) ⟨wr.heap.size, 0, none⟩ 1 1 [.int .i64 (id : Int)] rfl rfl (one_new _ _ _) (one_cell _ _) ?c1 ?c2 ?c3 ?_)
        | fail)
      case c1 => unfold maxLen; omega
      case c2 => omega
      case c3 => simp; omega
      intro v2 w2 ho2 hgrow _ _
      obtain ⟨a2, c2, rfl, _⟩ := owns_forms ho2
      have k2 : Kp (Value.slice a k c).ownBlock.toList wr w2 := ((Kp.refl _ _).alloc _).grown hgrow (fun j hj => .inl (by simp [hj]))
      have kf : Kp [] w w2 := hkp.trans k2 (fun y hy => .inr (HO.out.lt y (by simpa using hy)).1)
      have HO2 := hide ho2
      clear ho2 hgrow k2 HO
      go_wp2_with fail
      go_roundw
      case rel => exact ⟨k + 1, a2, c2, by omega, by go_num, rfl, by rw [HST.out]; exact HO2.out, kf⟩
      case measure => simp [intOf]; omega
    · have ek : N = k := by omega
      subst ek
      rw [show (T.map Prod.fst).take N = T.map Prod.fst by rw [List.take_of_length_le]; rw [List.length_map, HN.out]; exact Nat.le_refl _] at ho
      have HIDS := hide ho
      have HTT := hide (HTE.out wr hkp)
      clear ho HTE
      go_wp2_with fail
      refine HTT.out.mono ?_
      rintro e w1 ⟨at', ct, nt, hnt', rfl, ht1, k1⟩
      have kw1 := hkp.next k1
      have HID1 := hide (k1.owns HIDS.out (by simp))
      have HU1 := hide (HU.out.kp0 kw1)
      have hz1' := kw1.size
      have hzz := k1.size
      obtain ⟨W2, hW2⟩ : ∃ W2, w1.alloc (.cells #[.int .u8 83] 5) = W2 := ⟨_, rfl⟩
      have k2 : Kp [] w1 W2 := by rw [← hW2]; exact (Kp.refl _ _).alloc _
      have ho2 : W2.ownsRow w.heap.size 5 1 (.slice (some ⟨w1.heap.size, 0, none⟩) 1 1) 1 (byV [83]) := by
        refine ⟨rfl, .inr ⟨w1.heap.size, 1, #[.int .u8 83], rfl, hz1', ?_, Nat.le_refl _, by unfold maxLen; omega, rfl, rfl⟩⟩
        rw [← hW2]; exact heap_alloc_new w1 _
      have HT2 := hide (k2.owns ht1 (by simp))
      have HID2 := hide (k2.owns HID1.out (by simp))
      have HU2 := hide (HU1.out.kp0 k2)
      have hz2' := k2.size
      have kb2 : Kb 5 [] w.heap.size w W2 := Kb.of_kp (S := []) (kw1.next k2) (by simp)
      have HPU := hide (rput_n w.heap.size _ 1 1 [83] N W2 ho2 rfl (by omega) (by omega) (by omega))
      have Hnt := hide hnt'
      rw [hnt'] at hnt
      clear ht1 ho2 hnt' HID1 HU1 k2 HIDS HTT HU k1
      go_wp2_with fail
      refine HPU.out.mono ?_
      rintro e w3 ⟨a3, c3, n3, hn3, rfl, ho3, k3⟩
      have hz3' := k3.size
      have hl3 : n3 ≤ 5 := by rw [← hn3, List.length_append]; have := numB_len N; simp; omega
      have HT3 := hide (k3.owns HT2.out (by decide) (by simp))
      have HID3 := hide (k3.owns HID2.out (by decide) (by simp))
      have HU3 := hide (HU2.out.kb5 k3)
      have kb3 := kb2.next k3
      have HRI := hide (rrising_n w.heap.size w.heap.size a3 a c3 n3 c N _ (T.map Prod.fst) w3 ho3 hn3 HID3.out (by rw [List.length_map]; exact HN.out) (by omega) (by omega) (by omega) HRS.out HI.out)
      have Hn3 := hide hn3
      clear ho3 k3 hn3 HT2 HID2 HU2 kb2 HPU HID3
      go_wp2_with fail
      refine HRI.out.mono ?_
      rintro e w4 ⟨a4, c4, n4, hn4, rfl, ho4, k4⟩
      have hz4' := k4.size
      have hl4 : n4 ≤ 245 := by
        have h1 := riseB_len (T.map Prod.fst) 0
        rw [List.length_map, HN.out] at h1
        rw [← hn4, List.length_append, Hn3.out]; omega
      have HT4 := hide (k4.owns HT3.out (by decide) (by simp))
      have HU4 := hide (HU3.out.kb5 k4)
      have kb4 := kb3.next k4
      have HPU := hide (rput_n w.heap.size a4 c4 n4 _ nt w4 ho4 hn4 (by omega) (by omega) (by omega))
      have Hn4 := hide hn4
      clear ho4 k4 hn4 HT3 HU3 kb3 HRI
      go_wp2_with fail
      refine HPU.out.mono ?_
      rintro e w5 ⟨a5, c5, n5, hn5, rfl, ho5, k5⟩
      have hz5' := k5.size
      have hl5 : n5 ≤ 249 := by rw [← hn5, List.length_append, Hn4.out]; have := numB_len nt; omega
      obtain ⟨pre, hpre⟩ : ∃ pre, (([83] ++ numB N) ++ riseB 0 (T.map Prod.fst)) ++ numB nt = pre := ⟨_, rfl⟩
      have hfin : Hid (body = pre ++ termsB PT 0 terms) := by
        show _ = _
        rw [HBE.out, ← hpre, Hnt.out]; simp
      rw [hpre] at ho5 hn5
      have HO5 := hide ho5
      have Hn5 := hide hn5
      have HT5 := hide (k5.owns HT4.out (by decide) (by simp))
      have HU5 := hide (HU4.out.kb5 k5)
      have kb5 := kb4.next k5
      clear ho5 k5 hn5 HT4 HU4 kb4 HPU hpre
      have hb5 : w.heap.size ≤ w5.heap.size := kb5.size
      obtain ⟨H1, hH1⟩ : ∃ H1, wr.heap.size = H1 := ⟨_, rfl⟩
      rw [hH1] at HT5
      clear hH1
      have hat : 0 < nt → ∃ g, at' = some ⟨g, 0, none⟩ := by
        obtain ⟨x1, x2, x3, x4⟩ := owns_forms HT5.out
        cases x3; exact x4
      go_wp2_with fail
      go_loopw [6, 7] (fun ov iv wr => ∃ (k : Nat) (ao : Option Addr) (co n' : Nat), k ≤ nt ∧ iv = .int .i64 k ∧ ov = .slice ao n' co ∧ (pre ++ termsB PT 0 (terms.take k)).length = n' ∧ wr.ownsRow w.heap.size 5 1 (.slice ao n' co) n' (byV (pre ++ termsB PT 0 (terms.take k))) ∧ wr.ownsRow H1 9 1 (.slice at' nt ct) nt (strV terms) ∧ DocsIs wr B (.slice au N cu) T vs ∧ w.heap.size ≤ wr.heap.size ∧ Kb 5 [] w.heap.size w wr) (fun _ iv _ => nt - (intOf iv).toNat)
      case atStart => exact ⟨0, a5, c5, n5, by omega, rfl, rfl, by simpa [termsB] using Hn5.out, by simpa [termsB] using HO5.out, HT5.out, HU5.out, hb5, kb5⟩
      case round =>
        clear HO5 HT5 HU5 kb5 hb5
        obtain ⟨k, ao, co, n', hk, rfl, rfl, hn', ho', ht', hd', hbase, hkb⟩ := hrel
        have hn'l : n' ≤ 101100 := by
          have h1 := HPt.out k
          rw [← hn', List.length_append, Hn5.out]; omega
        by_cases hlt2 : k < nt
        · obtain ⟨gt, rfl⟩ := hat (by omega)
          have hkt : k < terms.length := by rw [Hnt.out]; exact hlt2
          have hc := strs_cells ht' Hnt.out k hkt
          have hgt := (ht'.lt gt rfl).2
          have hsp := terms_split PT terms 0 k hkt
          rw [Nat.zero_add] at hsp
          have hwl := HWd.out terms[k] (List.getElem_mem hkt)
          have hpw := HPW.out k terms[k] (List.getElem?_eq_getElem hkt)
          have hok := HOK.out k
          have hcn := cntP_ok N (PT k) 0 hok
          have hol := okP_len N (PT k) 0 hok
          obtain ⟨tm, htm⟩ : ∃ tm, terms[k] = tm := ⟨_, rfl⟩
          rw [htm] at hc hsp hwl hpw
          have hTE := rterm_any w.heap.size B N ao co n' (.slice au N cu) (pre ++ termsB PT 0 (terms.take k)) tm T vs wr ho' hn' hd' hbase HN.out (by omega) (by rw [hpw]; exact hok) hwl HF.out (by rw [hpw]; omega)
          rw [hpw] at hTE
          have HTE := hide hTE
          have HSP := hide hsp
          have HTK := hide ht'
          have HDK := hide hd'
          clear hTE hsp ht' hd' hn' ho' hpw hok htm
          go_wp2_with fail
          refine HTE.out.mono ?_
          rintro e w6 ⟨a6, c6, n6, hn6, rfl, ho6, k6⟩
          have hz6' := k6.size
          have HT6 := hide (k6.owns HTK.out (by decide) (by simp))
          have HD6 := hide (HDK.out.kb5 k6)
          have kb6 := hkb.next k6
          have Hn6 := hide hn6
          have HO6 := hide ho6
          clear hn6 ho6 k6 HTK HDK HTE hc
          go_wp2_with fail
          go_roundw
          case rel => exact ⟨k + 1, a6, c6, n6, by omega, by go_num, rfl, by rw [HSP.out, ← List.append_assoc]; exact Hn6.out, by rw [HSP.out, ← List.append_assoc]; exact HO6.out, HT6.out, HD6.out, by omega, kb6⟩
          case measure => simp [intOf]; omega
        · have ek : nt = k := by omega
          subst ek
          rw [show terms.take nt = terms by rw [← Hnt.out, List.take_length], ← hfin.out] at hn' ho'
          have HSE := hide (rsealed_any w.heap.size ao co n' body wr ho' hn' hbase (by omega))
          clear hn' ho' ht' hd'
          go_wp2_with fail
          refine HSE.out.mono ?_
          rintro e w9 ⟨a9, c9, n9, hn9, rfl, ho9, k9⟩
          have Hn9 := hide hn9
          have HO9 := hide ho9
          have kf : Kp [] w w9 := Kp.of_below [] ((hkb.next k9).below (Nat.le_refl _) (by simp) (Nat.le_refl _))
          clear hn9 ho9 k9 HSE
          go_wp2_with fail
          go_ret
          exact ⟨a9, c9, n9, Hn9.out, rfl, HO9.out, kf⟩
end Go.Proofs.YtbkepgmgebmceaaGreatDoor.Pak
