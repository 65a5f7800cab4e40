import Derived.Test.YtbkepgmgebmceaaGreatDoorU33

set_option linter.unusedVariables false
set_option maxRecDepth 4000
namespace Go.Proofs.YtbkepgmgebmceaaGreatDoor.Pak
open Go.RowKit Go.Proofs.YtbkepgmgebmceaaGreatDoor Go.Proofs.YtbkepgmgebmceaaGreatDoor.Spl SiftM

theorem unseal_inv (l b : List UInt8) (h : unsealF l = some b) : l = b ++ sumB b := by
  unfold unsealF at h
  split at h
  · simp at h
  · split at h
    · rename_i h1 h2
      have e := Option.some.inj h
      subst e
      rw [h2, List.take_append_drop]
    · simp at h

theorem sum_range (g : Nat → Nat) : ∀ N, ((List.range N).map g).sum = sumK g 0 N
  | 0 => rfl
  | N + 1 => by
    rw [List.range_succ, List.map_append, List.sum_append, sum_range g N, sumK_split g N 0 1]
    simp [sumK]
theorem sumW_zip (g : List Nat → List (List UInt8)) (hg : ∀ r, (g r).length = r.length) : ∀ (ids : List Nat) (rows : List (List Nat)), rows.length = ids.length → sumW (ids.zip (rows.map g)) = (rows.map List.length).sum
  | [], [], _ => rfl
  | [], r :: rows, h => by simp at h
  | i :: ids, [], h => by simp at h
  | i :: ids, r :: rows, h => by
    have ih := sumW_zip g hg ids rows (by simpa using h)
    simp only [List.map_cons, List.zip_cons_cons, sumW, List.sum_cons]
    rw [ih, hg]
theorem sumL_le : ∀ (l : List (List UInt8)), (∀ x ∈ l, x.length ≤ 8) → sumL l ≤ 8 * l.length
  | [], _ => by simp [sumL]
  | x :: r, h => by
    have := sumL_le r (fun y hy => h y (by simp [hy]))
    have := h x (by simp)
    simp [sumL]; omega
theorem zip_fst {β : Type} : ∀ (ids : List Nat) (ys : List β), ys.length = ids.length → (ids.zip ys).map Prod.fst = ids
  | [], [], _ => rfl
  | [], y :: ys, h => by simp at h
  | i :: ids, [], h => by simp at h
  | i :: ids, y :: ys, h => by simp [zip_fst ids ys (by simpa using h)]
theorem zip_snd {β : Type} : ∀ (ids : List Nat) (ys : List β), ys.length = ids.length → (ids.zip ys).map Prod.snd = ys
  | [], [], _ => rfl
  | [], y :: ys, h => by simp at h
  | i :: ids, [], h => by simp at h
  | i :: ids, y :: ys, h => by simp [zip_snd ids ys (by simpa using h)]

/-- A table that is read whole: its rows; and if all the rest is right, the bytes are the file of what is read. -/
theorem accept_inv (l : List UInt8) (h : (tableF (unsealF l)).2.2.2.2 = some []) :
    ∃ ids terms c f rows, tableF (unsealF l) = (ids, terms, c, f, some []) ∧ RowsAre f rows terms.length ∧ rows.length = ids.length ∧ ids.length ≤ 60 ∧ terms.length ≤ 3600 ∧ c ≤ 3600 ∧ (∀ r ∈ rows, (wordsOf terms r).length ≤ 60 ∧ sumL (wordsOf terms r) ≤ 480) ∧
      (mayB (ids.zip (rows.map (wordsOf terms))) c = true → Fine (ids.zip (rows.map (wordsOf terms))) ∧ l = fileT (ids.zip (rows.map (wordsOf terms)))) := by
  obtain ⟨ids, R, h1, h2, h3, h4, h5, h6, h7⟩ := table_inv _ h
  have hl := unseal_inv l _ h1
  have hb : Bnd ids.length (putL 0 R no) R.length := by
    have := putL_bnd ids.length R [] no h6 (by intro d p v e; simp [no] at e)
    simpa using this
  have ht : cntL R = tot (putL 0 R no) ids.length := by
    have := tot_putL ids.length R [] no h6
    rw [tot_no, Nat.zero_add] at this
    exact this.symm
  have hat : ∀ j (hj : j < R.length) d p, putL 0 R no d p = some j ↔ memP R[j].2 d p = true := by
    intro j hj d p
    have := putL_at ids.length R [] no h6 (by intro d p v e; simp [no] at e) j hj d p
    simpa using this
  have hpw : (R.map Prod.fst).Pairwise (· < ·) := by
    have := good_pw ids.length R [] no h6 List.Pairwise.nil
    simpa using this
  have hgw := good_word ids.length R [] no h6
  obtain ⟨f, hf⟩ : ∃ f, putL 0 R no = f := ⟨_, rfl⟩
  rw [hf] at hb ht hat h7
  have hrl := rowsF_len f ids.length
  have hra := rowsF_are f ids.length R.length hb
  have htl : (R.map Prod.fst).length = R.length := by simp
  have htw : ∀ x ∈ R.map Prod.fst, isWord x = true := by
    intro x hx
    obtain ⟨y, hy, rfl⟩ := List.mem_map.1 hx
    exact (hgw y hy).1
  have hwl : ∀ r, (wordsOf (R.map Prod.fst) r).length = r.length := by intro r; simp [wordsOf]
  have hrs : ∀ r ∈ rowsF f ids.length, r.length ≤ 60 := by
    intro r hr
    obtain ⟨d, _, rfl⟩ := List.mem_map.1 hr
    exact rowF_len f d 60 0
  have hww : ∀ r ∈ rowsF f ids.length, ∀ x ∈ wordsOf (R.map Prod.fst) r, x ∈ R.map Prod.fst := by
    intro r hr x hx
    obtain ⟨i, hi, rfl⟩ := List.mem_map.1 hx
    obtain ⟨d, hd, rfl⟩ := List.getElem_of_mem hr
    have := hra.lt d hd i hi
    rw [getD_at _ _ (by rw [htl]; exact this)]
    exact List.getElem_mem _
  refine ⟨ids, R.map Prod.fst, cntL R, f, rowsF f ids.length, h7, by rw [htl]; exact hra, hrl, h2, by rw [htl]; exact h3, ?_, ?_, ?_⟩
  · have := tot_le f ids.length
    omega
  · intro r hr
    have a1 := hrs r hr
    have a2 := hwl r
    have a3 := sumL_le (wordsOf (R.map Prod.fst) r) (fun x hx => word_len x (htw x (hww r hr x hx)))
    omega
  · intro hm
    obtain ⟨m1, m2⟩ := may_inv _ _ hm
    have m3 : cntL R = sumW (ids.zip ((rowsF f ids.length).map (wordsOf (R.map Prod.fst)))) := by omega
    rw [sumW_zip _ hwl ids _ hrl] at m3
    have m4 : ((rowsF f ids.length).map List.length).sum = sumK (fun d => (rowF f d 60 0).length) 0 ids.length := by
      unfold rowsF
      rw [List.map_map, ← sum_range]
      rfl
    rw [m4, ht] at m3
    have hall := rows_all f ids.length R.length hb (by omega)
    have hpost : ∀ j (hj : j < R.length), R[j].2 = postD (rowsF f ids.length) (0 + j) (rowsF f ids.length).length := by
      intro j hj
      rw [hrl, Nat.zero_add]
      refine okP_ext ids.length _ _ 0 (hgw _ (List.getElem_mem hj)).2.1 (postD_ok (rowsF f ids.length) j ids.length hrs ids.length (Nat.le_refl _)) ?_
      intro d p
      rw [← hat j hj, hall, memP_post]
      constructor
      · rintro ⟨a1, a2, a3⟩
        rw [rowsF_getD f ids.length d a1]
        exact ⟨a1, a2, a3⟩
      · rintro ⟨a1, a2, a3⟩
        rw [rowsF_getD f ids.length d a1] at a2 a3
        exact ⟨a1, a2, a3⟩
    have hte := terms_eq (fun t => postD (rowsF f ids.length) t (rowsF f ids.length).length) R 0 hpost
    obtain ⟨T, hT⟩ : ∃ T, ids.zip ((rowsF f ids.length).map (wordsOf (R.map Prod.fst))) = T := ⟨_, rfl⟩
    have hTf : T.map Prod.fst = ids := by rw [← hT]; exact zip_fst ids _ (by simp [hrl])
    have hTs : T.map Prod.snd = (rowsF f ids.length).map (wordsOf (R.map Prod.fst)) := by rw [← hT]; exact zip_snd ids _ (by simp [hrl])
    have hTm : ∀ t ∈ T, ∃ r ∈ rowsF f ids.length, t.2 = wordsOf (R.map Prod.fst) r := by
      intro t ht'
      have : t.2 ∈ T.map Prod.snd := List.mem_map.2 ⟨t, ht', rfl⟩
      rw [hTs] at this
      obtain ⟨r, hr, e⟩ := List.mem_map.1 this
      exact ⟨r, hr, e.symm⟩
    have hterms : termsOf T = R.map Prod.fst := by
      refine pw_ext _ _ (terms_pw T) hpw (fun z => ?_)
      rw [terms_mem, allW_iff]
      constructor
      · rintro ⟨t, ht', hz⟩
        obtain ⟨r, hr, e⟩ := hTm t ht'
        rw [e] at hz
        exact hww r hr z hz
      · intro hz
        obtain ⟨j, hj, rfl⟩ := List.getElem_of_mem hz
        have hj' : j < R.length := by simpa using hj
        obtain ⟨x, hx⟩ : ∃ x, x ∈ R[j].2 := List.exists_mem_of_length_pos (hgw _ (List.getElem_mem hj')).2.2
        obtain ⟨p, hp⟩ : ∃ p, p ∈ x.2 := List.exists_mem_of_length_pos (okP_pl ids.length _ 0 (hgw _ (List.getElem_mem hj')).2.1 x hx).2.1
        have hm' : memP R[j].2 x.1 p = true := (memP_iff _ _ _).2 ⟨x, hx, rfl, hp⟩
        have hfv := (hat j hj' x.1 p).2 hm'
        obtain ⟨b1, b2, b3⟩ := (hall x.1 p j).1 hfv
        have hd : x.1 < (rowsF f ids.length).length := by rw [hrl]; exact b1
        have hdz : x.1 < (T.map Prod.snd).length := by rw [hTs]; simp [hrl]; exact b1
        have hmem : (T.map Prod.snd)[x.1] ∈ T.map Prod.snd := List.getElem_mem hdz
        obtain ⟨t, ht', e⟩ := List.mem_map.1 hmem
        refine ⟨t, ht', ?_⟩
        rw [e]
        have e2 : (T.map Prod.snd)[x.1] = wordsOf (R.map Prod.fst) (rowF f x.1 60 0) := by
          simp only [hTs, List.getElem_map, rowsF_at]
        rw [e2]
        unfold wordsOf
        refine List.mem_map.2 ⟨j, ?_, ?_⟩
        · rw [getD_at _ _ b2] at b3
          rw [← b3]; exact List.getElem_mem _
        · exact getD_at _ _ hj _
    have hrows : rowsOf T = rowsF f ids.length := by
      have e : rowsOf T = (T.map Prod.snd).map (fun ws => ws.map (bsIx (termsOf T))) := by
        unfold rowsOf; rw [List.map_map]; rfl
      rw [e, hTs, List.map_map]
      conv => rhs; rw [← List.map_id (rowsF f ids.length)]
      apply List.map_congr_left
      intro r hr
      simp only [Function.comp]
      unfold wordsOf
      rw [List.map_map]
      conv => rhs; rw [show id r = r from rfl, ← List.map_id r]
      apply List.map_congr_left
      intro i hi
      obtain ⟨d, hd, rfl⟩ := List.getElem_of_mem hr
      have hi' : i < (R.map Prod.fst).length := by rw [htl]; exact hra.lt d hd i hi
      simp only [Function.comp, id]
      rw [hterms, getD_at _ _ hi', bs_at _ hpw i hi']
    have hbody : bodyT T = 83 :: (numB ids.length ++ (riseB 0 ids ++ (numB R.length ++ termsL R))) := by
      unfold bodyT bodyB
      rw [hTf, hterms, hrows, hte, htl]
    rw [hT] at hm m1 ⊢
    refine ⟨⟨?_, by rw [hTf]; exact h4, ?_, ?_, ?_, ?_⟩, ?_⟩
    · have := congrArg List.length hTf
      rw [List.length_map] at this
      omega
    · intro t ht'
      exact h5 t.1 (by rw [← hTf]; exact List.mem_map.2 ⟨t, ht', rfl⟩)
    · intro t ht'
      obtain ⟨r, hr, e⟩ := hTm t ht'
      rw [e, hwl]; exact hrs r hr
    · intro t ht'
      have a1 := m1 t ht'
      refine ⟨a1, ?_⟩
      unfold lenF at a1; omega
    · intro t ht' x hx
      obtain ⟨r, hr, e⟩ := hTm t ht'
      rw [e] at hx
      exact htw x (hww r hr x hx)
    · unfold fileT
      rw [hbody]; exact hl
end Go.Proofs.YtbkepgmgebmceaaGreatDoor.Pak

set_option linter.unusedVariables false
set_option maxRecDepth 4000
namespace Go.Proofs.YtbkepgmgebmceaaGreatDoor.Pak
open Go.RowKit Go.Proofs.YtbkepgmgebmceaaGreatDoor Go.Proofs.YtbkepgmgebmceaaGreatDoor.Spl SiftM

/- The careless reader: what is left, and whether it has gone wrong. -/
def rnumG : Nat → Nat → Nat → List UInt8 → Bool → Nat × List UInt8 × Bool
  | 0, _, _, l, _ => (0, l, true)
  | _ + 1, _, _, [], _ => (0, [], true)
  | f + 1, i, n, c :: r, b => if c.toNat < 128 then (n + c.toNat % 128 * 128 ^ i, r, b) else rnumG f (i + 1) (n + c.toNat % 128 * 128 ^ i) r b
def rnum (l : List UInt8) (b : Bool) : Nat × List UInt8 × Bool := rnumG 4 0 0 l b
def rtext (n : Nat) (l : List UInt8) (b : Bool) : List UInt8 × List UInt8 × Bool := if l.length < n then ([], l, true) else (l.take n, l.drop n, b)
abbrev Sl := Nat × Nat × List UInt8
abbrev SS := List Sl × List UInt8 × Bool
def rpl (doc : Nat) (w : List UInt8) : Nat → Nat → List Sl → List UInt8 → Bool → SS
  | 0, _, L, l, b => (L, l, b)
  | k + 1, np, L, l, b => if b = true then (L, l, b) else rpl doc w k (np + (rnum l b).1 + 1) (L ++ [(doc, np + (rnum l b).1, w)]) (rnum l b).2.1 (rnum l b).2.2
def rdoc (w : List UInt8) (nd : Nat) (L : List Sl) (l : List UInt8) (b : Bool) : SS :=
  rpl (nd + (rnum l b).1) w (rnum (rnum l b).2.1 (rnum l b).2.2).1 0 L (rnum (rnum l b).2.1 (rnum l b).2.2).2.1 (rnum (rnum l b).2.1 (rnum l b).2.2).2.2
def rdocs (w : List UInt8) : Nat → Nat → List Sl → List UInt8 → Bool → SS
  | 0, _, L, l, b => (L, l, b)
  | k + 1, nd, L, l, b => if b = true then (L, l, b) else rdocs w k (nd + (rnum l b).1 + 1) (rdoc w nd L l b).1 (rdoc w nd L l b).2.1 ((rdoc w nd L l b).2.2 || decide (10000 < (rdoc w nd L l b).1.length))
def rslots (L : List Sl) (l : List UInt8) (b : Bool) : SS :=
  rdocs (rtext (rnum l b).1 (rnum l b).2.1 (rnum l b).2.2).1
    (rnum (rtext (rnum l b).1 (rnum l b).2.1 (rnum l b).2.2).2.1 (rtext (rnum l b).1 (rnum l b).2.1 (rnum l b).2.2).2.2).1 0 L
    (rnum (rtext (rnum l b).1 (rnum l b).2.1 (rnum l b).2.2).2.1 (rtext (rnum l b).1 (rnum l b).2.1 (rnum l b).2.2).2.2).2.1
    (rnum (rtext (rnum l b).1 (rnum l b).2.1 (rnum l b).2.2).2.1 (rtext (rnum l b).1 (rnum l b).2.1 (rnum l b).2.2).2.2).2.2
def rmany : Nat → SS → SS
  | 0, s => s
  | k + 1, s => if s.2.2 = true then s else rmany k (rslots s.1 s.2.1 s.2.2)
def rids : Nat → Nat → List Nat → List UInt8 → Bool → List Nat × List UInt8 × Bool
  | 0, _, ids, l, b => (ids, l, b)
  | k + 1, nx, ids, l, b => if b = true then (ids, l, b) else rids k (nx + (rnum l b).1 + 1) (ids ++ [nx + (rnum l b).1]) (rnum l b).2.1 (rnum l b).2.2
def rwords (L : List Sl) (d : Nat) : Nat → Nat → List (List UInt8)
  | 0, _ => []
  | f + 1, p => match L.find? fun s => decide (s.1 = d) && decide (s.2.1 = p) with
    | some s => s.2.2 :: rwords L d f (p + 1)
    | none => []
/-- The docs of which a file might be. -/
def rguess (f : List UInt8) : Option (List Tx) :=
  let n := rnum (f.drop 1) false
  if 60 < n.1 then none else
  let i := rids n.1 0 [] n.2.1 n.2.2
  let m := rnum i.2.1 i.2.2
  let s := rmany m.1 ([], m.2.1, m.2.2)
  if s.2.2 = true then none else some ((List.range i.1.length).map fun d => (i.1.getD d 0, rwords s.1 d (s.1.length + 1) 0))

theorem rnumG_num : ∀ (f i n m : Nat) (r : List UInt8) (b : Bool), n < 128 ^ (f + 1) → rnumG (f + 1) i m (numG f n ++ r) b = (m + n * 128 ^ i, r, b)
  | 0, i, n, m, r, b, hn => by
    have hn' : n < 128 := by simpa using hn
    have e : (UInt8.ofNat n).toNat = n := by rw [UInt8.toNat_ofNat']; omega
    show (if (UInt8.ofNat n).toNat < 128 then (m + (UInt8.ofNat n).toNat % 128 * 128 ^ i, r, b) else _) = _
    rw [e, if_pos hn', Nat.mod_eq_of_lt hn']
  | f + 1, i, n, m, r, b, hn => by
    by_cases h : n < 128
    · have e : (UInt8.ofNat n).toNat = n := by rw [UInt8.toNat_ofNat']; omega
      rw [numG, if_pos h]
      show (if (UInt8.ofNat n).toNat < 128 then (m + (UInt8.ofNat n).toNat % 128 * 128 ^ i, r, b) else _) = _
      rw [e, if_pos h, Nat.mod_eq_of_lt h]
    · have e : (UInt8.ofNat (n % 128 + 128)).toNat = n % 128 + 128 := by rw [UInt8.toNat_ofNat']; omega
      have hd : n / 128 < 128 ^ (f + 1) := by
        rw [Nat.div_lt_iff_lt_mul (by omega)]
        rw [Nat.pow_succ] at hn; exact hn
      have ih := rnumG_num f (i + 1) (n / 128) (m + n % 128 * 128 ^ i) r b hd
      rw [numG, if_neg h, List.cons_append]
      show (if (UInt8.ofNat (n % 128 + 128)).toNat < 128 then _ else rnumG (f + 1) (i + 1) (m + (UInt8.ofNat (n % 128 + 128)).toNat % 128 * 128 ^ i) (numG f (n / 128) ++ r) b) = _
      rw [e, if_neg (by omega), show (n % 128 + 128) % 128 = n % 128 by omega, ih]
      have : n % 128 * 128 ^ i + n / 128 * 128 ^ (i + 1) = n * 128 ^ i := by
        rw [Nat.pow_succ, Nat.mul_comm (128 ^ i) 128, ← Nat.mul_assoc, ← Nat.add_mul]
        congr 1; omega
      rw [Nat.add_assoc, this]
theorem rnum_num (n : Nat) (r : List UInt8) (b : Bool) (hn : n < 268435456) : rnum (numB n ++ r) b = (n, r, b) := by
  have := rnumG_num 3 0 n 0 r b (by simpa using hn)
  simpa [rnum, numB] using this

theorem rpl_rise (doc : Nat) (w : List UInt8) : ∀ (ps : List Nat) (np : Nat) (L : List Sl) (r : List UInt8), Rs np ps → (∀ p ∈ ps, p < 268435456) →
    rpl doc w ps.length np L (riseB np ps ++ r) false = (L ++ ps.map (fun p => (doc, p, w)), r, false)
  | [], np, L, r, _, _ => by simp [rpl, riseB]
  | p :: ps, np, L, r, h, hb => by
    have h1 := h.1
    have h2 := hb p (by simp)
    have e : rnum (riseB np (p :: ps) ++ r) false = (p - np, riseB (p + 1) ps ++ r, false) := by
      simp only [riseB, List.append_assoc]
      exact rnum_num _ _ _ (by omega)
    rw [List.length_cons, rpl]
    simp only [e]
    rw [if_neg (by simp), show np + (p - np) = p by omega, rpl_rise doc w ps (p + 1) _ r h.2 (fun q hq => hb q (by simp [hq]))]
    simp

def slP (w : List UInt8) : List Po → List Sl
  | [] => []
  | x :: P => x.2.map (fun p => (x.1, p, w)) ++ slP w P
theorem slP_len (w : List UInt8) : ∀ P, (slP w P).length = cntP P
  | [] => rfl
  | x :: P => by simp [slP, cntP, slP_len w P]

theorem rdocs_ent (w : List UInt8) (N : Nat) (hN : N ≤ 60) : ∀ (P : List Po) (least : Nat) (L : List Sl) (r : List UInt8), OkP N least P → L.length + cntP P ≤ 10000 →
    rdocs w P.length least L (entB least P ++ r) false = (L ++ slP w P, r, false)
  | [], least, L, r, _, _ => by simp [rdocs, entB, slP]
  | x :: P, least, L, r, h, hc => by
    obtain ⟨h1, h2, h3, h4, h5, h6, h7⟩ := h
    have e1 : rnum (entB least (x :: P) ++ r) false = (x.1 - least, numB x.2.length ++ (riseB 0 x.2 ++ (entB (x.1 + 1) P ++ r)), false) := by
      simp only [entB, List.append_assoc]
      exact rnum_num _ _ _ (by omega)
    have e2 : rnum (numB x.2.length ++ (riseB 0 x.2 ++ (entB (x.1 + 1) P ++ r))) false = (x.2.length, riseB 0 x.2 ++ (entB (x.1 + 1) P ++ r), false) := rnum_num _ _ _ (by omega)
    have e3 : rdoc w least L (entB least (x :: P) ++ r) false = (L ++ x.2.map (fun p => (x.1, p, w)), entB (x.1 + 1) P ++ r, false) := by
      unfold rdoc
      simp only [e1, e2]
      rw [show least + (x.1 - least) = x.1 by omega, rpl_rise x.1 w x.2 0 L _ h5 (fun p hp => by have := h6 p hp; omega)]
    rw [List.length_cons, rdocs]
    simp only [e1, e3]
    simp only [cntP] at hc
    rw [if_neg (by simp), show least + (x.1 - least) + 1 = x.1 + 1 by omega]
    have hl : decide (10000 < (L ++ x.2.map (fun p => (x.1, p, w))).length) = false := by
      apply decide_eq_false; simp; omega
    rw [hl, Bool.or_false, rdocs_ent w N hN P (x.1 + 1) _ r h7 (by simp; omega)]
    simp [slP]

theorem rslots_term (t : List UInt8) (P : List Po) (N : Nat) (hN : N ≤ 60) (L : List Sl) (r : List UInt8) (ht : t.length ≤ 8) (hP : OkP N 0 P) (hc : L.length + cntP P ≤ 10000) :
    rslots L (termB t P ++ r) false = (L ++ slP t P, r, false) := by
  have hl := okP_len N P 0 hP
  have e1 : rnum (termB t P ++ r) false = (t.length, t ++ (numB P.length ++ (entB 0 P ++ r)), false) := by
    unfold termB
    simp only [List.append_assoc]
    exact rnum_num _ _ _ (by omega)
  have e2 : rtext t.length (t ++ (numB P.length ++ (entB 0 P ++ r))) false = (t, numB P.length ++ (entB 0 P ++ r), false) := by
    unfold rtext
    rw [if_neg (by simp)]
    simp
  have e3 : rnum (numB P.length ++ (entB 0 P ++ r)) false = (P.length, entB 0 P ++ r, false) := rnum_num _ _ _ (by omega)
  unfold rslots
  simp only [e1, e2, e3]
  exact rdocs_ent t N hN P 0 L r hP hc

def slT (PF : Nat → List Po) : Nat → List (List UInt8) → List Sl
  | _, [] => []
  | k, x :: r => slP x (PF k) ++ slT PF (k + 1) r
theorem rmany_terms (PF : Nat → List Po) (N : Nat) (hN : N ≤ 60) (hP : ∀ k, OkP N 0 (PF k)) (r : List UInt8) : ∀ (ts : List (List UInt8)) (k : Nat) (L : List Sl), (∀ x ∈ ts, x.length ≤ 8) → L.length + cntK PF k ts.length ≤ 10000 →
    rmany ts.length (L, termsB PF k ts ++ r, false) = (L ++ slT PF k ts, r, false)
  | [], k, L, _, _ => by simp [rmany, termsB, slT]
  | x :: ts, k, L, hw, hc => by
    simp only [List.length_cons, cntK] at hc
    rw [List.length_cons, rmany]
    simp only [termsB, List.append_assoc]
    rw [if_neg (by simp), rslots_term x (PF k) N hN L _ (hw x (by simp)) (hP k) (by omega)]
    rw [rmany_terms PF N hN hP r ts (k + 1) _ (fun y hy => hw y (by simp [hy])) (by rw [List.length_append, slP_len]; omega)]
    simp [slT]

theorem rids_rise : ∀ (xs : List Nat) (nx : Nat) (acc : List Nat) (r : List UInt8), Rs nx xs → (∀ x ∈ xs, x < 268435456) → rids xs.length nx acc (riseB nx xs ++ r) false = (acc ++ xs, r, false)
  | [], nx, acc, r, _, _ => by simp [rids, riseB]
  | x :: xs, nx, acc, r, h, hb => by
    have h1 := h.1
    have h2 := hb x (by simp)
    have e : rnum (riseB nx (x :: xs) ++ r) false = (x - nx, riseB (x + 1) xs ++ r, false) := by
      simp only [riseB, List.append_assoc]
      exact rnum_num _ _ _ (by omega)
    rw [List.length_cons, rids]
    simp only [e]
    rw [if_neg (by simp), show nx + (x - nx) = x by omega, rids_rise xs (x + 1) _ r h.2 (fun q hq => hb q (by simp [hq]))]
    simp

theorem slP_mem (w : List UInt8) : ∀ (P : List Po) (s : Sl), s ∈ slP w P ↔ memP P s.1 s.2.1 = true ∧ s.2.2 = w
  | [], s => by simp [slP, memP]
  | x :: P, s => by
    simp only [slP, List.mem_append, slP_mem w P, List.mem_map]
    have e : memP (x :: P) s.1 s.2.1 = (decide (x.1 = s.1) && decide (s.2.1 ∈ x.2) || memP P s.1 s.2.1) := by unfold memP; rw [List.any_cons]
    rw [e]
    simp only [Bool.or_eq_true, Bool.and_eq_true, decide_eq_true_eq]
    constructor
    · rintro (⟨p, hp, rfl⟩ | ⟨h1, h2⟩)
      · exact ⟨.inl ⟨rfl, hp⟩, rfl⟩
      · exact ⟨.inr h1, h2⟩
    · rintro ⟨(⟨h1, h2⟩ | h1), h3⟩
      · left
        refine ⟨s.2.1, h2, ?_⟩
        obtain ⟨a, b, c⟩ := s
        simp only at h1 h3
        rw [h1, h3]
      · exact .inr ⟨h1, h3⟩
theorem slT_mem (PF : Nat → List Po) : ∀ (ts : List (List UInt8)) (k : Nat) (s : Sl), s ∈ slT PF k ts ↔ ∃ j, ∃ h : j < ts.length, memP (PF (k + j)) s.1 s.2.1 = true ∧ s.2.2 = ts[j]
  | [], k, s => by simp [slT]
  | x :: ts, k, s => by
    simp only [slT, List.mem_append, slP_mem, slT_mem PF ts]
    constructor
    · rintro (⟨h1, h2⟩ | ⟨j, hj, h1, h2⟩)
      · exact ⟨0, by simp, h1, h2⟩
      · exact ⟨j + 1, by simpa using hj, by rw [show k + (j + 1) = k + 1 + j by omega]; exact h1, by simpa using h2⟩
    · rintro ⟨j, hj, h1, h2⟩
      cases j with
      | zero => exact .inl ⟨h1, by simpa using h2⟩
      | succ j => exact .inr ⟨j, by simpa using hj, by rw [show k + 1 + j = k + (j + 1) by omega]; exact h1, by simpa using h2⟩

theorem rwords_of (L : List Sl) (d : Nat) (ws : List (List UInt8)) (h : ∀ p w, (d, p, w) ∈ L ↔ ws[p]? = some w) : ∀ (f p : Nat), p ≤ ws.length → ws.length - p < f → rwords L d f p = ws.drop p
  | 0, p, _, hf => by omega
  | f + 1, p, hp, hf => by
    unfold rwords
    by_cases hlt : p < ws.length
    · cases hg : L.find? fun s => decide (s.1 = d) && decide (s.2.1 = p) with
      | none =>
        have hm : (d, p, ws[p]) ∈ L := (h p ws[p]).2 (List.getElem?_eq_getElem hlt)
        have := List.find?_eq_none.1 hg _ hm
        simp at this
      | some s =>
        have hm := List.mem_of_find?_eq_some hg
        have hs := List.find?_some hg
        simp only [Bool.and_eq_true, decide_eq_true_eq] at hs
        obtain ⟨a, b, c⟩ := s
        obtain ⟨rfl, rfl⟩ := hs
        have hw := (h b c).1 hm
        rw [List.getElem?_eq_getElem hlt] at hw
        simp only
        have hlt' : b < ws.length := hlt
        have hf' : ws.length - b < f + 1 := hf
        rw [rwords_of L a ws h f (b + 1) (by omega) (by omega), List.drop_eq_getElem_cons hlt]
        congr 1
        exact (Option.some.inj hw).symm
    · have hnone : (L.find? fun s => decide (s.1 = d) && decide (s.2.1 = p)) = none := by
        rw [List.find?_eq_none]
        intro s hs hc
        simp only [Bool.and_eq_true, decide_eq_true_eq] at hc
        obtain ⟨a, b, c⟩ := s
        obtain ⟨rfl, rfl⟩ := hc
        have := (h b c).1 hs
        rw [List.getElem?_eq_none (by simp only at hlt; omega)] at this
        simp at this
      rw [hnone, List.drop_eq_nil_of_le (by omega)]

/-- Of the file of texts the careless reader has the texts. -/
theorem guess_file (T : List Tx) (hf : Fine T) : rguess (fileT T) = some T := by
  have hn := hf.len
  have hw := fine_word T hf
  have hids : ∀ x ∈ T.map Prod.fst, x < 268435456 := by
    intro x hx
    obtain ⟨t, ht, rfl⟩ := List.mem_map.1 hx
    have := hf.ids t ht; omega
  have htl := allW_le T hf.few
  have hcnt := postT_cnt T hf (termsOf T).length (Nat.le_refl _)
  have e0 : (fileT T).drop 1 = numB T.length ++ (riseB 0 (T.map Prod.fst) ++ (numB (termsOf T).length ++ (termsB (postT T) 0 (termsOf T) ++ sumB (bodyT T)))) := by
    unfold fileT
    conv => lhs; rw [body_eq]
    simp [body_eq]
  have e1 : rnum ((fileT T).drop 1) false = (T.length, riseB 0 (T.map Prod.fst) ++ (numB (termsOf T).length ++ (termsB (postT T) 0 (termsOf T) ++ sumB (bodyT T))), false) := by
    rw [e0]; exact rnum_num _ _ _ (by omega)
  have e2 := rids_rise (T.map Prod.fst) 0 [] (numB (termsOf T).length ++ (termsB (postT T) 0 (termsOf T) ++ sumB (bodyT T))) hf.rise hids
  rw [List.length_map, List.nil_append] at e2
  have e3 : rnum (numB (termsOf T).length ++ (termsB (postT T) 0 (termsOf T) ++ sumB (bodyT T))) false = ((termsOf T).length, termsB (postT T) 0 (termsOf T) ++ sumB (bodyT T), false) := rnum_num _ _ _ (by omega)
  have e4 := rmany_terms (postT T) T.length hn (postT_ok T hf) (sumB (bodyT T)) (termsOf T) 0 [] hw (by simp; omega)
  rw [List.nil_append] at e4
  unfold rguess
  simp only [e1, e2, e3, e4]
  rw [if_neg (by omega), if_neg (by simp)]
  congr 1
  have hmem : ∀ d (hd : d < T.length) p w, (d, p, w) ∈ slT (postT T) 0 (termsOf T) ↔ T[d].2[p]? = some w := by
    intro d hd p w
    have hd' : d < (rowsOf T).length := by rw [rows_len]; exact hd
    have er : (rowsOf T).getD d [] = T[d].2.map (bsIx (termsOf T)) := by rw [getD_at _ _ hd']; exact rows_at T d hd
    rw [slT_mem]
    constructor
    · rintro ⟨j, hj, h1, h2⟩
      rw [Nat.zero_add] at h1
      obtain ⟨a1, a2, a3⟩ := (memP_post _ _ _ _ _).1 h1
      simp only at a1 a2 a3 h2
      rw [er] at a2 a3
      have hp : p < T[d].2.length := by simpa using a2
      rw [getD_at _ _ a2, List.getElem_map] at a3
      have hx : T[d].2[p] ∈ termsOf T := (terms_mem T _).2 ((allW_iff T _).2 ⟨T[d], List.getElem_mem hd, List.getElem_mem hp⟩)
      have := (bs_mem _ (terms_pw T) _ hx).2
      rw [a3, getD_at _ _ hj] at this
      rw [List.getElem?_eq_getElem hp, h2, this]
    · intro h
      have hp : p < T[d].2.length := by
        rcases Nat.lt_or_ge p T[d].2.length with h' | h'
        · exact h'
        · rw [List.getElem?_eq_none h'] at h; simp at h
      rw [List.getElem?_eq_getElem hp] at h
      have hx : T[d].2[p] ∈ termsOf T := (terms_mem T _).2 ((allW_iff T _).2 ⟨T[d], List.getElem_mem hd, List.getElem_mem hp⟩)
      obtain ⟨b1, b2⟩ := bs_mem _ (terms_pw T) _ hx
      refine ⟨bsIx (termsOf T) T[d].2[p], b1, ?_, ?_⟩
      · rw [Nat.zero_add]
        refine (memP_post _ _ _ _ _).2 ⟨hd', ?_, ?_⟩
        · simp only; rw [er]; simpa using hp
        · simp only
          rw [er, getD_at _ _ (by simpa using hp), List.getElem_map]
      · simp only
        rw [← Option.some.inj h]
        rw [getD_at _ _ b1] at b2
        exact b2.symm
  have hlen : (slT (postT T) 0 (termsOf T)).length = cntK (postT T) 0 (termsOf T).length := by
    have : ∀ (ts : List (List UInt8)) (k : Nat), (slT (postT T) k ts).length = cntK (postT T) k ts.length := by
      intro ts
      induction ts with
      | nil => intro k; rfl
      | cons x r ih => intro k; simp [slT, cntK, slP_len, ih]
    exact this _ _
  apply List.ext_getElem
  · simp
  · intro d h1 h2
    simp only [List.getElem_map, List.getElem_range]
    have hr := rwords_of (slT (postT T) 0 (termsOf T)) d T[d].2 (hmem d h2) ((slT (postT T) 0 (termsOf T)).length + 1) 0 (Nat.zero_le _) (by
      have hsum := post_sum (rowsOf T) (termsOf T).length (rowsOf T).length (Nat.le_refl _) (rows_lt T)
      have hc := cnt_rows (bsIx (termsOf T)) T
      have e : cntK (postT T) 0 (termsOf T).length = cntTo (rowsOf T) (rowsOf T).length := hsum
      have e3 : cntTo (rowsOf T) T.length = sumW T := hc
      rw [hlen, e, rows_len, e3]
      have : ∀ (T : List Tx) (d : Nat) (h : d < T.length), T[d].2.length ≤ sumW T := by
        intro T
        induction T with
        | nil => intro d h; simp at h
        | cons t r ih =>
          intro d h
          cases d with
          | zero => simp [sumW]
          | succ d => have := ih d (by simpa using h); simp [sumW]; omega
      have := this T d h2
      omega)
    rw [List.drop_zero] at hr
    rw [hr]
    have e : (T.map Prod.fst).getD d 0 = T[d].1 := by
      rw [getD_at _ _ (by simpa using h2)]; simp
    rw [e]
end Go.Proofs.YtbkepgmgebmceaaGreatDoor.Pak

set_option linter.unusedVariables false
set_option maxRecDepth 4000
namespace Go.Proofs.YtbkepgmgebmceaaGreatDoor.Pak
open Go.RowKit Go.Proofs.YtbkepgmgebmceaaGreatDoor Go.Proofs.YtbkepgmgebmceaaGreatDoor.Spl SiftM

/-- The careless reader in block C. -/
structure Cu (w : World) (C B : Nat) (a : Option Addr) (n cap : Nat) (F : List UInt8) (p : Nat) (b : Bool) : Prop where
  blk : w.heap[C]? = some (.cells #[.slice a n cap, .int .i64 (p : Int), .bool b] 356 (0, 0))
  vw : Vw w B a F
  le : B ≤ C
theorem Cu.kp {w w' : World} {C B n cap p : Nat} {a : Option Addr} {F : List UInt8} {b : Bool} {S : List Nat} (h : Cu w C B a n cap F p b) (k : Kp S w w') (hC : C ∉ S) (hS : ∀ x ∈ S, B ≤ x) : Cu w' C B a n cap F p b :=
  ⟨k.heap h.blk hC, vw_kp h.vw k hS, h.le⟩
theorem Cu.drew {w : World} {C B n cap p : Nat} {a : Option Addr} {F : List UInt8} {b : Bool} (h : Cu w C B a n cap F p b) : Cu w.drew C B a n cap F p b := h.kp ((Kp.refl [] w).drewN 1) (by simp) (by simp)
theorem Cu.cells {w : World} {C B n cap p : Nat} {a : Option Addr} {F : List UInt8} {b : Bool} (h : Cu w C B a n cap F p b) :
    w.cell? ⟨C, 0, none⟩ = some (.slice a n cap) ∧ w.cell? ⟨C, 1, none⟩ = some (.int .i64 (p : Int)) ∧ w.cell? ⟨C, 2, none⟩ = some (.bool b) ∧ w.frozen? ⟨C, 1, none⟩ = false ∧ w.frozen? ⟨C, 2, none⟩ = false := by
  obtain ⟨h0, h1, h2, _, f1, f2⟩ := tb_cells h.blk
  exact ⟨h0, h1, h2, f1, f2⟩
theorem Cu.move {w : World} {C B n cap p : Nat} {a : Option Addr} {F : List UInt8} {b : Bool} (h : Cu w C B a n cap F p b) (q : Nat) : Cu (w.setCell ⟨C, 1, none⟩ (.int .i64 (q : Int))) C B a n cap F q b := by
  refine ⟨?_, vw_kp h.vw ((Kp.refl [C] w).setCell (p := ⟨C, 1, none⟩) (.inl (by simp)) _) (by simpa using h.le), h.le⟩
  have e := heap_setCell_same w C 1 _ 356 (.int .i64 (q : Int)) h.blk
  rw [e]; rfl
theorem Cu.turn {w : World} {C B n cap p : Nat} {a : Option Addr} {F : List UInt8} {b : Bool} (h : Cu w C B a n cap F p b) : Cu (w.setCell ⟨C, 2, none⟩ (.bool true)) C B a n cap F p true := by
  refine ⟨?_, vw_kp h.vw ((Kp.refl [C] w).setCell (p := ⟨C, 2, none⟩) (.inl (by simp)) _) (by simpa using h.le), h.le⟩
  have e := heap_setCell_same w C 2 _ 356 (.bool true) h.blk
  rw [e]; rfl

theorem drop_step (F : List UInt8) (p : Nat) (h : p < F.length) : F.drop p = F[p] :: F.drop (p + 1) := List.drop_eq_getElem_cons h

theorem wrap_two (m z : Nat) (h1 : m ≤ 1000000000) (h2 : z ≤ 34091302912) : wrap64 ((m : Int) + (z : Int)) = ((m + z : Nat) : Int) := by
  rw [IntWalk.wrap64_in _ ⟨by omega, by omega⟩]; simp
theorem wrap_mul (y M z : Nat) (h : y % 128 * M = z) (hz : z ≤ 34091302912) : wrap64 ((y : Int) % 128 * (M : Int)) = (z : Int) := by
  have e : (y : Int) % 128 * (M : Int) = (z : Int) := by rw [← h]; simp
  rw [e]; exact IntWalk.wrap64_in _ ⟨by omega, by omega⟩
/-- What a call of number leaves. -/
def NumPost (C B n cap : Nat) (a : Option Addr) (F : List UInt8) (p : Nat) (b : Bool) (w : World) (e : Ending) (w' : World) : Prop :=
  ∃ p' : Nat, e = .returned (.int .i64 ((rnum (F.drop p) b).1 : Nat)) ∧ Cu w' C B a n cap F p' (rnum (F.drop p) b).2.2 ∧ F.drop p' = (rnum (F.drop p) b).2.1 ∧ p ≤ p' ∧ (p' ≤ F.length ∨ p' = p) ∧ (p < p' ∨ (rnum (F.drop p) b).2.2 = true) ∧ Kp [C] w w'

set_option maxHeartbeats 1000000 in
set_option maxRecDepth 100000 in
theorem rnumber_any (C B n cap : Nat) (a : Option Addr) (F : List UInt8) (p0 : Nat) (b : Bool) (w : World) (h : Cu w C B a n cap F p0 b) (hn : F.length = n) (hn2 : n ≤ 4000000) (hp0 : p0 ≤ n + 1) :
    Calls Tryz.prog 253 #[.pointer (some ⟨C, 0, none⟩)] w (NumPost C B n cap a F p0 b w) := by
  have HC := hide h
  have Hn := hide hn
  clear h hn
  go_enter Tryz.func253, Tryz.ntmps253
  go_wp2_with fail
  go_loopw [3, 4, 5] (fun nv mv iv wr => ∃ (i m p : Nat), i ≤ 4 ∧ iv = .int .i64 i ∧ nv = .int .i64 m ∧ mv = .int .i64 ((128 ^ i : Nat) : Int) ∧ m < 128 ^ i ∧ rnumG (4 - i) i m (F.drop p) b = rnum (F.drop p0) b ∧ p0 ≤ p ∧ (p ≤ n ∨ p = p0) ∧ p ≤ n + 1 ∧ Cu wr C B a n cap F p b ∧ (0 < i → p0 < p) ∧ Kp [C] w wr) (fun _ _ iv _ => 4 - (intOf iv).toNat)
  case atStart => exact ⟨0, 0, p0, by omega, rfl, rfl, rfl, by simp, rfl, Nat.le_refl _, .inr rfl, hp0, HC.out, fun h => absurd h (by omega), Kp.refl _ _⟩
  case round =>
    clear HC
    obtain ⟨i, m, p, hi, rfl, rfl, rfl, hm, hr, hp1, hp2, hp3, hcu, hadv, hkp⟩ := hrel
    have hpw : 128 ^ i ≤ 268435456 := by
      have : 128 ^ i ≤ 128 ^ 4 := Nat.pow_le_pow_right (by omega) hi
      omega
    by_cases hlt : i < 4
    · obtain ⟨c0, c1, c2, f1, f2⟩ := hcu.cells
      obtain ⟨fu, hfu⟩ : ∃ fu, 4 - i = fu + 1 := ⟨4 - i - 1, by omega⟩
      rw [hfu] at hr
      by_cases hend : p < n
      · have hpF : p < F.length := by rw [Hn.out]; exact hend
        obtain ⟨g, off, rfl, hg, hc⟩ : ∃ g off, a = some ⟨g, off, none⟩ ∧ g < B ∧ ∀ j (h : j < F.length), wr.cell? ⟨g, off + j, none⟩ = some (.int .u8 (F[j].toNat : Int)) := by
          rcases hcu.vw with ⟨e, _⟩ | e
          · rw [e] at hpF; simp at hpF
          · exact e
        have hck := hc p hpF
        have hst := drop_step F p hpF
        have c256 : F[p].toNat < 256 := F[p].toNat_lt
        obtain ⟨x, hx⟩ : ∃ x, F[p] = x := ⟨_, rfl⟩
        rw [hx] at hck hst c256
        rw [hst] at hr
        obtain ⟨y, hy⟩ : ∃ y, x.toNat = y := ⟨_, rfl⟩
        have hun : rnumG (fu + 1) i m (x :: F.drop (p + 1)) b = if y < 128 then (m + y % 128 * 128 ^ i, F.drop (p + 1), b) else rnumG fu (i + 1) (m + y % 128 * 128 ^ i) (F.drop (p + 1)) b := by
          rw [← hy]; rfl
        rw [hun] at hr
        rw [hy] at hck c256
        have hcl := heap_lt hcu.blk
        have hBC := hcu.le
        have hgl : g < wr.heap.size := by omega
        have HCU := hide hcu
        have HR := hide hr
        obtain ⟨M, hM⟩ : ∃ M, 128 ^ i = M := ⟨_, rfl⟩
        rw [hM] at hpw hm
        have HM := hide hM
        have hMpos : 0 < M := by rw [← hM]; exact Nat.pow_pos (by omega)
        rw [hM]
        clear hc hst hx hy hun hcu hr hM
        obtain ⟨z, hz⟩ : ∃ z, y % 128 * M = z := ⟨_, rfl⟩
        have hzl : z ≤ 127 * M := by rw [← hz]; exact Nat.mul_le_mul_right M (by omega)
        have hzb : z ≤ 34091302912 := by omega
        have hm9 : m ≤ 1000000000 := by omega
        have hw1 := hide (wrap_mul y M z hz hzb)
        have hw2 := hide (wrap_two m z hm9 hzb)
        rw [HM.out, hz] at HR
        have Hz := hide hz
        clear hz
        have hsum : m + z < 128 * M := by omega
        have hpowS : Hid (128 ^ (i + 1) = 128 * M) := by
          show _ = _
          rw [Nat.pow_succ, HM.out, Nat.mul_comm]
        have hcuN : Hid (Cu (wr.setCell ⟨C, 1, none⟩ (.int .i64 ((p + 1 : Nat) : Int))) C B (some ⟨g, off, none⟩) n cap F (p + 1) b) := HCU.out.move (p + 1)
        by_cases hlow : y < 128
        · have hres : Hid (rnum (F.drop p0) b = (m + z, F.drop (p + 1), b)) := by
            show _ = _
            rw [← HR.out, if_pos hlow]
          go_wp2_with fail
          go_region
          go_wp2_with fail
          go_region
          go_wp2_with fail
          go_ret
          refine ⟨p + 1, ?_, ?_, ?_, by omega, .inl (by rw [Hn.out]; omega), .inl (by omega), ?_⟩
          · rw [hres.out]
            exact ret_int (by rw [hw1.out, hw2.out])
          · rw [hres.out]
            have := hcuN.out.drew.drew
            rw [show ((p + 1 : Nat) : Int) = (p : Int) + 1 by omega] at this
            exact this
          · rw [hres.out]
          · exact ((hkp.setCell (p := ⟨C, 1, none⟩) (.inl (by simp)) _).drewN 1).drewN 1
        · have hres : Hid (rnumG fu (i + 1) (m + z) (F.drop (p + 1)) b = rnum (F.drop p0) b) := by
            show _ = _
            rw [← HR.out, if_neg hlow]
          have hfu2 : 4 - (i + 1) = fu := by omega
          go_wp2_with fail
          go_region
          go_wp2_with fail
          go_region
          go_wp2_with fail
          go_roundw
          case rel =>
            refine ⟨i + 1, m + z, p + 1, by omega, by go_num, by rw [hw1.out, hw2.out], ?_, ?_, by rw [hfu2]; exact hres.out, by omega, .inl (by omega), by omega, ?_, fun _ => by omega, ?_⟩
            · rw [hpowS.out]; exact congrArg _ (by omega)
            · rw [hpowS.out]; exact hsum
            · have := hcuN.out.drew.drew
              rw [show ((p + 1 : Nat) : Int) = (p : Int) + 1 by omega] at this
              exact this
            · exact ((hkp.setCell (p := ⟨C, 1, none⟩) (.inl (by simp)) _).drewN 1).drewN 1
          case measure => simp [intOf]; omega
      · have hdr : F.drop p = [] := List.drop_eq_nil_of_le (by rw [Hn.out]; omega)
        have hres : rnum (F.drop p0) b = (0, [], true) := by
          rw [← hr, hdr]; rfl
        have hnp : (n : Int) ≤ (p : Int) := by omega
        have hcl := heap_lt hcu.blk
        have HRES := hide hres
        have HDR := hide hdr
        have HCU := hide hcu
        clear hr hres hdr hcu
        go_wp2_with fail
        go_region
        go_wp2_with fail
        go_ret
        refine ⟨p, ?_, ?_, ?_, hp1, by rw [Hn.out]; exact hp2, .inr (by rw [HRES.out]), ?_⟩
        · rw [HRES.out]; rfl
        · rw [HRES.out]; exact HCU.out.drew.turn
        · rw [HRES.out]; exact HDR.out
        · exact (hkp.drewN 1).setCell (p := ⟨C, 2, none⟩) (.inl (by simp)) _
    · have ei : i = 4 := by omega
      subst ei
      have hres : rnum (F.drop p0) b = (0, F.drop p, true) := by
        rw [← hr]; rfl
      obtain ⟨c0, c1, c2, f1, f2⟩ := hcu.cells
      have hcl := heap_lt hcu.blk
      have HRES := hide hres
      have HCU := hide hcu
      clear hr hres hcu
      go_wp2_with fail
      go_ret
      refine ⟨p, ?_, ?_, ?_, hp1, by rw [Hn.out]; exact hp2, .inr (by rw [HRES.out]), ?_⟩
      · rw [HRES.out]; rfl
      · rw [HRES.out]; exact HCU.out.turn
      · rw [HRES.out]
      · exact hkp.setCell (p := ⟨C, 2, none⟩) (.inl (by simp)) _
end Go.Proofs.YtbkepgmgebmceaaGreatDoor.Pak
