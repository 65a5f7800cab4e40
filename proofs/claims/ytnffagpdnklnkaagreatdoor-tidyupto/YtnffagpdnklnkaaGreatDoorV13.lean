import Derived.Test.YtnffagpdnklnkaaGreatDoorV12
import Derived.Test.YtnffagpdnklnkaaGreatDoorV03
set_option linter.unusedVariables false
set_option linter.unusedSimpArgs false
set_option maxRecDepth 8000
namespace Go.Proofs.YtnffagpdnklnkaaGreatDoor.St
/-- How many words at the beginning have the sign of the first one. -/
def same (D : List Wd) : Nat := (D.takeWhile fun x => hd x == hd (D.headD [])).length
/-- All groups of words, one sign each. -/
def grp (beh : List Wd → List Ex → Nat × List Ex) : Nat → List Wd → List Nat → List Ex → List Nat × List Ex
  | 0, _, to, kn => (to, kn)
  | g + 1, D, to, kn => if D = [] then (to, kn) else
      let r := beh ((D.take (same D)).map List.tail) kn
      grp beh g (D.drop (same D)) (to.set (hd (D.headD [])) r.1) r.2
/-- The state behind which these words are. -/
def beh : Nat → List Wd → List Ex → Nat × List Ex
  | 0, _, kn => (0, kn)
  | f + 1, D, kn =>
    let ends := (D.headD [0]).isEmpty
    let D' := bif ends then D.tail else D
    let r := grp (beh f) D'.length D' (List.replicate 36 0) kn
    stOf r.2 ⟨ends, r.1⟩

/-- What a run of the builder gives. -/
def Beh (D : List Wd) (kn : List Ex) (ls : List (List Wd)) (r : Nat × List Ex) : Prop :=
  ∃ ls', G r.2 ls' ∧ ls <+: ls' ∧ kn <+: r.2 ∧ 1 ≤ r.1 ∧ r.1 ≤ ls'.length ∧ lsAt ls' r.1 = D ∧ ∀ R, R ∈ ls' ↔ R ∈ ls ∨ ∃ p d, d ∈ D ∧ p <+: d ∧ R = res D p

theorem tw_take {α : Type} (p : α → Bool) : ∀ l : List α, l.take (l.takeWhile p).length = l.takeWhile p
  | [] => rfl
  | a :: r => by
    rw [List.takeWhile_cons]
    split
    · rw [List.length_cons, List.take_succ_cons, tw_take p r]
    · rfl
theorem tw_drop {α : Type} (p : α → Bool) : ∀ l : List α, l.drop (l.takeWhile p).length = l.dropWhile p
  | [] => rfl
  | a :: r => by
    rw [List.takeWhile_cons, List.dropWhile_cons]
    split
    · rw [List.length_cons, List.drop_succ_cons, tw_drop p r]
    · rfl
theorem take_same (D : List Wd) : D.take (same D) = D.takeWhile fun x => hd x == hd (D.headD []) := by
  unfold same
  exact tw_take _ _
theorem drop_same (D : List Wd) : D.drop (same D) = D.dropWhile fun x => hd x == hd (D.headD []) := by
  unfold same
  exact tw_drop _ _

theorem group_tails {j : Nat} : ∀ (l : List Wd), (∀ x ∈ l, x ≠ []) → (∀ x ∈ l, hd x = j) → l.map List.tail = after j l
  | [], _, _ => rfl
  | x :: r, hne, hj => by
    cases x with
    | nil => exact absurd rfl (hne _ (by simp))
    | cons c t =>
      have hc : c = j := by simpa [hd] using hj (c :: t) (by simp)
      subst hc
      rw [after_cons_eq, List.map_cons, group_tails r (fun x hx => hne x (by simp [hx])) (fun x hx => hj x (by simp [hx]))]
      rfl
theorem after_none {j : Nat} : ∀ (l : List Wd), (∀ x ∈ l, hd x ≠ j) → after j l = []
  | [], _ => rfl
  | x :: r, h => by
    have hx := h x (by simp)
    rw [after_cons_ne _ (fun t e => hx (by rw [e]; rfl))]
    exact after_none r fun y hy => h y (by simp [hy])
theorem srt_after {j : Nat} : ∀ (D : List Wd), Srt D → Srt (after j D)
  | [], _ => List.Pairwise.nil
  | d :: D, h => by
    have hp := List.pairwise_cons.1 h
    by_cases hd' : ∃ t, d = j :: t
    · obtain ⟨t, rfl⟩ := hd'
      rw [after_cons_eq]
      refine List.pairwise_cons.2 ⟨fun x hx => ?_, srt_after D hp.2⟩
      have := hp.1 (j :: x) (mem_after.1 hx)
      rcases this with h | ⟨_, h⟩
      · omega
      · exact h
    · rw [after_cons_ne D fun t e => hd' ⟨t, e⟩]
      exact srt_after D hp.2

/-- The groups. -/
structure Grp (ls0 ls : List (List Wd)) (kn0 kn : List Ex) (to : List Nat) (done : List Wd) : Prop where
  g : G kn ls
  pre : ls0 <+: ls
  prk : kn0 <+: kn
  len : to.length = 36
  le : ∀ j, to.getD j 0 ≤ ls.length
  at' : ∀ j, j < 36 → lsAt ls (to.getD j 0) = after j done
  mem : ∀ R, R ∈ ls ↔ R ∈ ls0 ∨ ∃ j q t, j :: t ∈ done ∧ q <+: t ∧ R = res (after j done) q

theorem getD_set (l : List Nat) (i j v : Nat) (hi : i < l.length) : (l.set i v).getD j 0 = if j = i then v else l.getD j 0 := by
  simp only [List.getD_eq_getElem?_getD, List.getElem?_set]
  by_cases h : i = j
  · subst h; simp [hi]
  · rw [if_neg h, if_neg (fun e => h e.symm)]

theorem grp_spec (bh : List Wd → List Ex → Nat × List Ex) (A : List Wd) (ls0 : List (List Wd)) (kn0 : List Ex) (hA : Srt A) (hne : ∀ x ∈ A, x ≠ []) (h36 : ∀ x ∈ A, hd x < 36)
    (hbh : ∀ j, j < 36 → after j A ≠ [] → ∀ kn ls, G kn ls → Beh (after j A) kn ls (bh (after j A) kn)) :
    ∀ (g : Nat) (done D : List Wd) (to : List Nat) (kn : List Ex) (ls : List (List Wd)), A = done ++ D → D.length ≤ g → (∀ x ∈ done, ∀ y ∈ D, hd x < hd y) → Grp ls0 ls kn0 kn to done →
      ∃ ls', Grp ls0 ls' kn0 (grp bh g D to kn).2 (grp bh g D to kn).1 A
  | 0, done, D, to, kn, ls, e, hg, _, h => by
    have : D = [] := List.length_eq_zero_iff.1 (by omega)
    subst this
    rw [List.append_nil] at e
    subst e
    exact ⟨ls, h⟩
  | g + 1, done, D, to, kn, ls, e, hg, hsep, h => by
    unfold grp
    by_cases hD : D = []
    · rw [if_pos hD]
      subst hD
      rw [List.append_nil] at e
      subst e
      exact ⟨ls, h⟩
    · rw [if_neg hD]
      obtain ⟨d, D1, rfl⟩ : ∃ d D1, D = d :: D1 := by
        cases D with
        | nil => exact absurd rfl hD
        | cons d D1 => exact ⟨d, D1, rfl⟩
      simp only [List.headD_cons]
      have hdA : d ∈ A := by rw [e]; simp
      obtain ⟨j, hj⟩ : ∃ j, hd d = j := ⟨_, rfl⟩
      have hj36 : j < 36 := by rw [← hj]; exact h36 d hdA
      rw [take_same, drop_same]
      simp only [List.headD_cons, hj]
      have hsrtD : Srt (d :: D1) := by rw [e] at hA; exact (List.pairwise_append.1 hA).2.1
      have hle : ∀ x ∈ D1, j ≤ hd x := fun x hx => by
        rw [← hj]; exact srt_heads (hne d hdA) ((List.pairwise_cons.1 hsrtD).1 x hx)
      generalize hG1 : (d :: D1).takeWhile (fun x => hd x == j) = G1
      generalize hG2 : (d :: D1).dropWhile (fun x => hd x == j) = G2
      have hspl : d :: D1 = G1 ++ G2 := by rw [← hG1, ← hG2, List.takeWhile_append_dropWhile]
      have hd1 : d ∈ G1 := by
        rw [← hG1, List.takeWhile_cons_of_pos (by simp [hj])]; simp
      have h1 : ∀ x ∈ G1, hd x = j := fun x hx => by
        rw [← hG1] at hx
        simpa using List.all_eq_true.1 (List.all_takeWhile (p := fun x => hd x == j) (l := d :: D1)) x hx
      have hpG : ∀ x ∈ G1, x ∈ A := fun x hx => by rw [e, hspl]; simp [hx]
      have h2 : ∀ x ∈ G2, j < hd x := by
        intro x hx
        have hG2n : G2 ≠ [] := fun e' => by rw [e'] at hx; simp at hx
        obtain ⟨y, r, hyr⟩ : ∃ y r, G2 = y :: r := by
          cases hG : G2 with
          | nil => exact absurd hG hG2n
          | cons y r => exact ⟨y, r, rfl⟩
        have hy : hd y ≠ j := by
          have := List.head?_dropWhile_not (fun x => hd x == j) (d :: D1)
          rw [hG2, hyr] at this
          simpa using this
        have hmem : ∀ z ∈ G2, z ∈ d :: D1 := fun z hz => by rw [hspl]; simp [hz]
        have hyD : y ∈ d :: D1 := hmem y (by rw [hyr]; simp)
        have hyj : j ≤ hd y := by
          rcases List.mem_cons.1 hyD with rfl | h'
          · omega
          · exact hle y h'
        have hs2 : Srt G2 := by rw [hspl] at hsrtD; exact (List.pairwise_append.1 hsrtD).2.1
        rw [hyr] at hx hs2
        rcases List.mem_cons.1 hx with rfl | hx
        · omega
        · have := srt_heads (hne y (by rw [e]; exact List.mem_append.2 (.inr hyD))) ((List.pairwise_cons.1 hs2).1 x hx)
          omega
      have hdj : after j done = [] := after_none done fun x hx e' => by
        have := hsep x hx d (by simp)
        omega
      have hgt : G1.map List.tail = after j G1 := group_tails G1 (fun x hx => hne x (hpG x hx)) h1
      have hg2 : after j G2 = [] := after_none G2 fun x hx e' => by have := h2 x hx; omega
      have hAj : after j A = after j G1 := by rw [e, hspl, after_append, after_append, hdj, hg2]; simp
      have hAne : after j A ≠ [] := by
        rw [hAj]
        cases d with
        | nil => exact absurd rfl (hne _ hdA)
        | cons c t =>
          have hc : c = j := by simpa [hd] using hj
          subst hc
          exact List.ne_nil_of_mem (mem_after.2 hd1)
      obtain ⟨ls', q1, q2, qk, q3, q4, q5, q6⟩ := hbh j hj36 hAne kn ls h.g
      rw [hgt, ← hAj]
      have hother : ∀ i, i ≠ j → after i (done ++ G1) = after i done := fun i hi => by
        rw [after_append, after_none G1 fun x hx e' => hi (by rw [← e', h1 x hx]), List.append_nil]
      have hthis : after j (done ++ G1) = after j A := by rw [after_append, hdj, hAj]; rfl
      have hll : ls.length ≤ ls'.length := q2.length_le
      refine grp_spec bh A ls0 kn0 hA hne h36 hbh g (done ++ G1) G2 _ _ ls' (by rw [e, hspl, List.append_assoc]) ?_ ?_ ⟨q1, h.pre.trans q2, h.prk.trans qk, by rw [List.length_set]; exact h.len, ?_, ?_, ?_⟩
      · have : (d :: D1).length = G1.length + G2.length := by rw [hspl, List.length_append]
        have h3 : 0 < G1.length := List.length_pos_of_mem hd1
        omega
      · intro x hx y hy
        rcases List.mem_append.1 hx with hx | hx
        · exact hsep x hx y (by rw [hspl]; simp [hy])
        · rw [h1 x hx]; exact h2 y hy
      · intro i
        rw [getD_set _ _ _ _ (by rw [h.len]; exact hj36)]
        split
        · exact q4
        · have := h.le i; omega
      · intro i hi
        rw [getD_set _ _ _ _ (by rw [h.len]; exact hj36)]
        by_cases hij : i = j
        · rw [if_pos hij, hij, q5, hthis]
        · rw [if_neg hij, lsAt_pre q2 _ (h.le i), h.at' i hi, hother i hij]
      · intro R
        rw [q6, h.mem]
        constructor
        · rintro ((h0 | ⟨i, q, t, h3, h4, h5⟩) | ⟨p, x, h3, h4, h5⟩)
          · exact .inl h0
          · refine .inr ⟨i, q, t, List.mem_append.2 (.inl h3), h4, ?_⟩
            have hij : i ≠ j := fun e' => by
              subst e'
              have := mem_after.2 h3
              rw [hdj] at this; simp at this
            rw [hother i hij]; exact h5
          · refine .inr ⟨j, p, x, List.mem_append.2 (.inr ?_), h4, by rw [hthis]; exact h5⟩
            rw [hAj] at h3
            exact mem_after.1 h3
        · rintro (h0 | ⟨i, q, t, h3, h4, h5⟩)
          · exact .inl (.inl h0)
          · by_cases hij : i = j
            · subst hij
              refine .inr ⟨q, t, ?_, h4, by rw [← hthis]; exact h5⟩
              rw [← hthis]; exact mem_after.2 h3
            · refine .inl (.inr ⟨i, q, t, ?_, h4, by rw [← hother i hij]; exact h5⟩)
              rcases List.mem_append.1 h3 with h3 | h3
              · exact h3
              · exact absurd (by simpa [hd] using h1 _ h3) hij

/-- THE BUILDER: one state for each list of endings. -/
theorem beh_spec : ∀ (f : Nat) (D : List Wd), D ≠ [] → Srt D → (∀ d ∈ D, d.length < f) → (∀ d ∈ D, ∀ c ∈ d, c < 36) → ∀ kn ls, G kn ls → Beh D kn ls (beh f D kn)
  | 0, D, hne, _, hl, _, _, _, _ => by
    cases D with
    | nil => exact absurd rfl hne
    | cons d r => exact absurd (hl d (by simp)) (by omega)
  | f + 1, D, hne, hs, hl, hc, kn, ls, hG => by
    obtain ⟨d, D1, rfl⟩ : ∃ d D1, D = d :: D1 := by
      cases D with
      | nil => exact absurd rfl hne
      | cons d D1 => exact ⟨d, D1, rfl⟩
    have hp := List.pairwise_cons.1 hs
    unfold beh
    simp only [List.headD_cons, List.tail_cons]
    generalize hends : d.isEmpty = ends
    generalize hD' : (bif ends then D1 else d :: D1) = D'
    have hsub : List.Sublist D' (d :: D1) := by
      rw [← hD']; cases ends
      · exact List.Sublist.refl _
      · exact List.sublist_cons_self d D1
    have hs' : Srt D' := List.Pairwise.sublist hsub hs
    have hne' : ∀ x ∈ D', x ≠ [] := by
      intro x hx
      rw [← hD'] at hx
      cases he : ends with
      | true =>
        rw [he] at hx
        have hd0 : d = [] := by rw [he] at hends; simpa using hends
        have := hp.1 x (by simpa using hx)
        rw [hd0] at this
        intro e; rw [e] at this; exact this
      | false =>
        rw [he] at hx
        simp only [cond_false] at hx
        have hd0 : d ≠ [] := by intro e; rw [he, e] at hends; simp at hends
        rcases List.mem_cons.1 hx with rfl | hx
        · exact hd0
        · intro e
          have := hp.1 x hx
          rw [e] at this
          cases d with
          | nil => exact hd0 rfl
          | cons a b => exact this
    have h36 : ∀ x ∈ D', hd x < 36 := by
      intro x hx
      have hx0 := hne' x hx
      cases x with
      | nil => exact absurd rfl hx0
      | cons a b => exact hc (a :: b) (hsub.subset hx) a (by simp)
    have haft : ∀ j, after j D' = after j (d :: D1) := by
      intro j
      rw [← hD']
      cases he : ends with
      | true =>
        have hd0 : d = [] := by rw [he] at hends; simpa using hends
        rw [hd0]; rfl
      | false => rfl
    obtain ⟨ls1, q⟩ := grp_spec (beh f) D' ls kn hs' hne' h36 (fun j hj hn kn ls hg => by
        refine beh_spec f (after j D') hn (srt_after D' hs') (fun x hx => ?_) (fun x hx c hcx => ?_) kn ls hg
        · have := hl (j :: x) (hsub.subset (mem_after.1 hx))
          simp at this; omega
        · exact hc (j :: x) (hsub.subset (mem_after.1 hx)) c (by simp [hcx]))
      D'.length [] D' (List.replicate 36 0) kn ls rfl (Nat.le_refl _) (by simp)
      ⟨hG, List.prefix_refl _, List.prefix_refl _, by simp, fun j => by rw [List.getD_eq_getElem?_getD, List.getElem?_replicate]; split <;> simp, fun j hj => by
        rw [List.getD_eq_getElem?_getD, List.getElem?_replicate, if_pos hj]; rfl, fun R => by simp⟩
    generalize hr : grp (beh f) D'.length D' (List.replicate 36 0) kn = r at q
    have hlang : lang ls1 ⟨ends, r.1⟩ = d :: D1 := by
      unfold lang
      have hfl : (List.range 36).flatMap (fun j => (lsAt ls1 (r.1.getD j 0)).map (j :: ·)) = (List.range 36).flatMap (fun j => (after j D').map (j :: ·)) := by
        rw [List.flatMap_def, List.flatMap_def]
        congr 1
        exact List.map_congr_left fun j hj => by rw [q.at' j (List.mem_range.1 hj)]
      show (if ends = true then [[]] else []) ++ _ = _
      rw [hfl, flat_sorted 36 D' (hs'.imp_of_mem fun ha _ h => srt_heads (hne' _ ha) h) hne' h36, ← hD']
      cases he : ends with
      | true =>
        have hd0 : d = [] := by rw [he] at hends; simpa using hends
        simp [hd0]
      | false => simp
    obtain ⟨ls', p1, p2, pk, p3, p4, p5, p6⟩ := stOf_spec q.g ⟨ends, r.1⟩ q.len q.le (by rw [hlang]; simp)
    rw [hlang] at p5 p6
    refine ⟨ls', p1, q.pre.trans p2, q.prk.trans pk, p3, p4, p5, fun R => ?_⟩
    rw [p6, q.mem]
    constructor
    · rintro ((h0 | ⟨j, k, t, h1, h2, h3⟩) | h0)
      · exact .inl h0
      · refine .inr ⟨j :: k, j :: t, hsub.subset h1, ?_, by rw [res_cons, ← haft]; exact h3⟩
        obtain ⟨m, rfl⟩ := h2
        exact ⟨m, rfl⟩
      · exact .inr ⟨[], d, by simp, List.nil_prefix, by rw [res_nil]; exact h0⟩
    · rintro (h0 | ⟨p, x, h1, h2, h3⟩)
      · exact .inl (.inl h0)
      · cases p with
        | nil => rw [res_nil] at h3; exact .inr h3
        | cons j k =>
          obtain ⟨m, rfl⟩ := h2
          rw [res_cons, ← haft] at h3
          refine .inl (.inr ⟨j, k, k ++ m, ?_, ⟨m, rfl⟩, h3⟩)
          have : k ++ m ∈ after j D' := by rw [haft]; exact mem_after.2 h1
          exact mem_after.1 this
def Sm (c : UInt8) : Prop := 48 ≤ c.toNat ∧ c.toNat ≤ 57 ∨ 97 ≤ c.toNat ∧ c.toNat ≤ 122
def slot (c : UInt8) : Nat := if c.toNat ≤ 57 then c.toNat - 48 else c.toNat - 87
def sign (j : Nat) : UInt8 := if j < 10 then UInt8.ofNat (48 + j) else UInt8.ofNat (87 + j)
theorem slot_lt {c : UInt8} (h : Sm c) : slot c < 36 := by
  unfold slot; unfold Sm at h; split <;> omega
theorem u8_eq {a b : UInt8} (h : a.toNat = b.toNat) : a = b := UInt8.toNat_inj.1 h
theorem sign_slot {c : UInt8} (h : Sm c) : sign (slot c) = c := by
  have h0 := slot_lt h
  unfold Sm at h
  apply u8_eq
  unfold sign slot
  split <;> split <;> simp [UInt8.toNat_ofNat'] <;> omega
theorem slot_inj {a b : UInt8} (ha : Sm a) (hb : Sm b) (h : slot a = slot b) : a = b := by rw [← sign_slot ha, ← sign_slot hb, h]
theorem sign_ne {j : Nat} (h : j < 36) : sign j ≠ 124 := by
  intro e
  have : (sign j).toNat = 124 := by rw [e]; rfl
  unfold sign at this
  split at this <;> simp [UInt8.toNat_ofNat'] at this <;> omega

abbrev Bt := List UInt8
def sw (t : Bt) : Wd := t.map slot
def Small (t : Bt) : Prop := ∀ c ∈ t, Sm c
/-- What makes a term when p is put ahead, joined. -/
def endings (L : List Bt) (p : Bt) : Bt := (L.filter (fun t => p.isPrefixOf t)).flatMap (fun t => t.drop p.length ++ [124])
def phi (R : List Wd) : Bt := R.flatMap (fun w => w.map sign ++ [124])

theorem sw_pre {p t : Bt} (hp : Small p) (ht : Small t) : (sw p).isPrefixOf (sw t) = p.isPrefixOf t := by
  induction p generalizing t with
  | nil => simp [sw]
  | cons a p ih =>
    cases t with
    | nil => rfl
    | cons b t =>
      have ha := hp a (by simp)
      have hb := ht b (by simp)
      have := ih (t := t) (fun c hc => hp c (by simp [hc])) (fun c hc => ht c (by simp [hc]))
      simp only [sw, List.map_cons, List.isPrefixOf] at this ⊢
      have hab : (slot a == slot b) = (a == b) := by
        rw [Bool.eq_iff_iff, beq_iff_eq, beq_iff_eq]
        exact ⟨slot_inj ha hb, fun e => by rw [e]⟩
      rw [this, hab]
theorem back {t : Bt} (h : Small t) : (sw t).map sign = t := by
  induction t with
  | nil => rfl
  | cons a t ih =>
    simp only [sw, List.map_cons] at ih ⊢
    rw [sign_slot (h a (by simp)), ih fun c hc => h c (by simp [hc])]
theorem phi_res {L : List Bt} (hL : ∀ t ∈ L, Small t) {p : Bt} (hp : Small p) : phi (res (L.map sw) (sw p)) = endings L p := by
  induction L with
  | nil => rfl
  | cons t L ih =>
    have ht := hL t (by simp)
    have ih := ih fun t h => hL t (by simp [h])
    unfold res endings phi at ih ⊢
    rw [List.map_cons, List.filter_cons, List.filter_cons, sw_pre hp ht]
    by_cases h : p.isPrefixOf t = true
    · rw [if_pos h, if_pos h, List.map_cons, List.flatMap_cons, List.flatMap_cons, ih]
      congr 2
      have hl : (sw p).length = p.length := by simp [sw]
      rw [hl]
      have : (sw t).drop p.length = sw (t.drop p.length) := by simp [sw, List.map_drop]
      rw [this, back fun c hc => ht c (List.mem_of_mem_drop hc)]
    · rw [if_neg h, if_neg h]; exact ih

theorem split_at {x y a b : Bt} (hx : ∀ c ∈ x, c ≠ 124) (hy : ∀ c ∈ y, c ≠ 124) (h : x ++ 124 :: a = y ++ 124 :: b) : x = y ∧ a = b := by
  induction x generalizing y with
  | nil =>
    cases y with
    | nil => simp at h; exact ⟨rfl, h⟩
    | cons c y => simp at h; exact absurd h.1.symm (hy c (by simp))
  | cons c x ih =>
    cases y with
    | nil => simp at h; exact absurd h.1 (hx c (by simp))
    | cons d y =>
      simp at h
      obtain ⟨rfl, h⟩ := h
      obtain ⟨rfl, rfl⟩ := ih (fun c hc => hx c (by simp [hc])) (fun c hc => hy c (by simp [hc])) h
      exact ⟨rfl, rfl⟩
theorem sign_inj {a b : Nat} (ha : a < 36) (hb : b < 36) (h : sign a = sign b) : a = b := by
  have h1 : (sign a).toNat = (sign b).toNat := by rw [h]
  unfold sign at h1
  split at h1 <;> split at h1 <;> simp [UInt8.toNat_ofNat'] at h1 <;> omega
theorem map_sign_inj {x y : Wd} (hx : ∀ c ∈ x, c < 36) (hy : ∀ c ∈ y, c < 36) (h : x.map sign = y.map sign) : x = y := by
  induction x generalizing y with
  | nil => cases y with
    | nil => rfl
    | cons c y => simp at h
  | cons c x ih =>
    cases y with
    | nil => simp at h
    | cons d y =>
      simp at h
      rw [sign_inj (hx c (by simp)) (hy d (by simp)) h.1, ih (fun c hc => hx c (by simp [hc])) (fun c hc => hy c (by simp [hc])) h.2]
theorem phi_inj {R S : List Wd} (hR : ∀ w ∈ R, ∀ c ∈ w, c < 36) (hS : ∀ w ∈ S, ∀ c ∈ w, c < 36) (h : phi R = phi S) : R = S := by
  induction R generalizing S with
  | nil =>
    cases S with
    | nil => rfl
    | cons w S => simp [phi] at h
  | cons w R ih =>
    cases S with
    | nil => simp [phi] at h
    | cons v S =>
      simp only [phi, List.flatMap_cons, List.append_assoc, List.cons_append, List.nil_append] at h
      have hw : ∀ c ∈ w.map sign, c ≠ 124 := fun c hc => by
        obtain ⟨j, hj, rfl⟩ := List.mem_map.1 hc; exact sign_ne (hR w (by simp) j hj)
      have hv : ∀ c ∈ v.map sign, c ≠ 124 := fun c hc => by
        obtain ⟨j, hj, rfl⟩ := List.mem_map.1 hc; exact sign_ne (hS v (by simp) j hj)
      obtain ⟨h1, h2⟩ := split_at hw hv h
      rw [map_sign_inj (hR w (by simp)) (hS v (by simp)) h1, ih (fun w hw => hR w (by simp [hw])) (fun w hw => hS w (by simp [hw])) h2]

/-- One more, if it is not known. -/
def more {α : Type} [DecidableEq α] (l : List α) (e : α) : List α := if e ∈ l then l else l ++ [e]
theorem more_nodup {α : Type} [DecidableEq α] {l : List α} (h : l.Nodup) (e : α) : (more l e).Nodup := by
  unfold more
  split
  · exact h
  · rename_i hn
    show (l ++ [e]).Pairwise (· ≠ ·)
    rw [List.pairwise_append]
    exact ⟨h, by simp, fun a ha b hb => by simp at hb; subst hb; exact fun e' => hn (e' ▸ ha)⟩
theorem mem_more {α : Type} [DecidableEq α] {l : List α} {e x : α} : x ∈ more l e ↔ x ∈ l ∨ x = e := by
  unfold more
  split
  · rename_i h
    exact ⟨.inl, fun h' => h'.elim id fun e' => e' ▸ h⟩
  · simp
def mores {α : Type} [DecidableEq α] (l : List α) (es : List α) : List α := es.foldl more l
theorem mores_nodup {α : Type} [DecidableEq α] {es l : List α} (h : l.Nodup) : (mores l es).Nodup := by
  induction es generalizing l with
  | nil => exact h
  | cons e es ih => exact ih (more_nodup h e)
theorem mem_mores {α : Type} [DecidableEq α] {es l : List α} {x : α} : x ∈ mores l es ↔ x ∈ l ∨ x ∈ es := by
  induction es generalizing l with
  | nil => simp [mores]
  | cons e es ih =>
    have : x ∈ mores (more l e) es ↔ x ∈ more l e ∨ x ∈ es := ih
    rw [show mores l (e :: es) = mores (more l e) es from rfl, this, mem_more, List.mem_cons, or_assoc]

theorem sub_len {α : Type} : ∀ (a b : List α), a.Nodup → (∀ x ∈ a, x ∈ b) → a.length ≤ b.length
  | [], b, _, _ => Nat.zero_le _
  | x :: a, b, hn, h => by
    have hn' := List.pairwise_cons.1 (show (x :: a).Pairwise (· ≠ ·) from hn)
    obtain ⟨b1, b2, rfl⟩ := List.append_of_mem (h x (by simp))
    have := sub_len a (b1 ++ b2) hn'.2 fun y hy => by
      have h1 := h y (by simp [hy])
      have h2 := hn'.1 y hy
      simp only [List.mem_append, List.mem_cons] at h1 ⊢
      rcases h1 with h1 | h1 | h1
      · exact .inl h1
      · exact absurd h1.symm h2
      · exact .inr h1
    simp only [List.length_append, List.length_cons] at this ⊢
    omega

/-- The sets that the document counts. -/
def refSets (L : List Bt) : List Bt := mores [] (L.flatMap fun t => (List.range (t.length + 1)).map fun n => endings L (t.take n))
theorem res_codes {D : List Wd} {q : Wd} (h : ∀ d ∈ D, ∀ c ∈ d, c < 36) : ∀ w ∈ res D q, ∀ c ∈ w, c < 36 := by
  intro w hw c hc
  unfold res at hw
  obtain ⟨d, hd, rfl⟩ := List.mem_map.1 hw
  exact h d (List.mem_filter.1 hd).1 c (List.mem_of_mem_drop hc)
theorem map_nodup {α β : Type} (f : α → β) : ∀ (l : List α), l.Nodup → (∀ x ∈ l, ∀ y ∈ l, f x = f y → x = y) → (l.map f).Nodup
  | [], _, _ => List.Pairwise.nil
  | x :: l, hn, h => by
    have hn' := List.pairwise_cons.1 (show (x :: l).Pairwise (· ≠ ·) from hn)
    refine List.pairwise_cons.2 ⟨fun z hz e => ?_, map_nodup f l hn'.2 fun a ha b hb => h a (by simp [ha]) b (by simp [hb])⟩
    obtain ⟨y, hy, rfl⟩ := List.mem_map.1 hz
    exact hn'.1 y hy (h x (by simp) y (by simp [hy]) e)

/-- AS MANY STATES AS SETS OF ENDINGS. -/
theorem states_eq {L : List Bt} (hne : L ≠ []) (hs : Srt (L.map sw)) (hS : ∀ t ∈ L, Small t) {f : Nat} (hf : ∀ t ∈ L, t.length < f) : (beh f (L.map sw) []).2.length = (refSets L).length := by
  have hc : ∀ d ∈ L.map sw, ∀ c ∈ d, c < 36 := fun d hd c hc => by
    obtain ⟨t, ht, rfl⟩ := List.mem_map.1 hd
    obtain ⟨b, hb, rfl⟩ := List.mem_map.1 hc
    exact slot_lt (hS t ht b hb)
  obtain ⟨ls, hG, _, _, _, _, _, hm⟩ := beh_spec f (L.map sw) (by simpa using hne) hs (fun d hd => by
    obtain ⟨t, ht, rfl⟩ := List.mem_map.1 hd
    simpa [sw] using hf t ht) hc [] [] ⟨rfl, List.Pairwise.nil, fun i h => by simp at h, fun i h => by simp at h, fun i h => by simp at h, fun i h => by simp at h⟩
  have hcodes : ∀ R ∈ ls, ∀ w ∈ R, ∀ c ∈ w, c < 36 := fun R hR => by
    rcases (hm R).1 hR with h | ⟨p, d, _, _, rfl⟩
    · simp at h
    · exact res_codes hc
  have hn1 : (ls.map phi).Nodup := map_nodup phi ls hG.nodup fun a ha b hb => phi_inj (hcodes a ha) (hcodes b hb)
  have hn2 : (refSets L).Nodup := mores_nodup List.Pairwise.nil
  have hpre : ∀ (t : Bt) (n : Nat), Small t → Small (t.take n) := fun t n h c hc => h c (List.mem_of_mem_take hc)
  have hmem : ∀ e, e ∈ ls.map phi ↔ e ∈ refSets L := by
    intro e
    unfold refSets
    rw [mem_mores, List.mem_map, List.mem_flatMap]
    constructor
    · rintro ⟨R, hR, rfl⟩
      rcases (hm R).1 hR with h | ⟨p, d, hd, hp, rfl⟩
      · simp at h
      · obtain ⟨t, ht, rfl⟩ := List.mem_map.1 hd
        have hpe : p = sw (t.take p.length) := by
          have := List.prefix_iff_eq_take.1 hp
          rw [this]; simp [sw, List.map_take]
        have hpl : p.length ≤ t.length := by simpa [sw] using hp.length_le
        refine .inr ⟨t, ht, List.mem_map.2 ⟨p.length, List.mem_range.2 (by omega), ?_⟩⟩
        rw [← phi_res hS (hpre t _ (hS t ht)), ← hpe]
    · rintro (h | ⟨t, ht, h⟩)
      · simp at h
      · obtain ⟨n, hn, rfl⟩ := List.mem_map.1 h
        refine ⟨res (L.map sw) (sw (t.take n)), (hm _).2 (.inr ⟨sw (t.take n), sw t, List.mem_map.2 ⟨t, ht, rfl⟩, ?_, rfl⟩), phi_res hS (hpre t n (hS t ht))⟩
        simp only [sw, List.map_take]
        exact List.take_prefix _ _
  have h1 := sub_len _ _ hn1 fun x hx => (hmem x).1 hx
  have h2 := sub_len _ _ hn2 fun x hx => (hmem x).2 hx
  rw [List.length_map] at h1 h2
  rw [hG.len]
  omega
end Go.Proofs.YtnffagpdnklnkaaGreatDoor.St
namespace Go.Proofs.YtnffagpdnklnkaaGreatDoor.Pak
open Go.RowKit Go.Proofs.YtnffagpdnklnkaaGreatDoor Go.Proofs.YtnffagpdnklnkaaGreatDoor.Spl SiftM Go.Maps
theorem row429 : (267 : TypeId) < Tryz.prog.types.size := of_decide_eq_true (by kernel_rfl)
theorem deep429 : Tryz.prog.keyTypeAt 3 267 = true := by kernel_rfl
theorem wide429 : (match Tryz.prog.underlying 267 with | some (.array _ _) | some (.struct _) => true | _ => false) = true := by kernel_rfl
set_option maxRecDepth 100000 in
theorem exK : Keyed Tryz.prog 267 := Keyed.of_law (deep_law_laid laidOut (m := 3) (by omega) row429 deep429 wide429)
theorem keyT429 : Tryz.prog.keyType 267 = true := by kernel_rfl
theorem cells429 : Tryz.prog.cellsOf 267 = 37 := by kernel_rfl
theorem cells427 : Tryz.prog.cellsOf 265 = 36 := by kernel_rfl
theorem cells294 : Tryz.prog.cellsOf 108 = 1 := by kernel_rfl
theorem cells4 : Tryz.prog.cellsOf 4 = 1 := by kernel_rfl

def exC (e : St.Ex) : List Value := .bool e.ends :: e.to.map fun n : Nat => .int .i64 (n : Int)
def exL (e : St.Ex) : List Lit := .bool e.ends :: e.to.map fun n : Nat => .int .i64 (n : Int)
def OkE (e : St.Ex) : Prop := e.to.length = 36 ∧ ∀ n ∈ e.to, n ≤ 1099511627776
def keyE (e : St.Ex) : Lit := .string (keyBytes (exL e))

theorem mapM_of {α β : Type} {f : α → Option β} {g : α → β} : ∀ (l : List α), (∀ x ∈ l, f x = some (g x)) → l.mapM f = some (l.map g)
  | [], _ => rfl
  | a :: l, h => by
    rw [List.mapM_cons, h a (by simp), mapM_of l fun x hx => h x (by simp [hx])]
    rfl
theorem lits_arr (m : Nat) (l : List Nat) (hl : l.length = 36) (h : ∀ n ∈ l, n ≤ 1099511627776) : Tryz.prog.keyLits (m + 2) 265 (l.map fun n : Nat => Value.int .i64 (n : Int)) = some (l.map fun n : Nat => Lit.int .i64 (n : Int)) := by
  unfold Program.keyLits
  simp only [Tryz.underlying265]
  rw [if_pos (by rw [cells427, List.length_map, hl])]
  rw [mapM_of (g := fun i => [Lit.int .i64 ((l.getD i 0 : Nat) : Int)]) (List.range 36) ?_]
  · simp only [Option.map_some, Option.some.injEq]
    rw [← List.flatMap_def, ← List.map_eq_flatMap]
    apply List.ext_getElem
    · simp [hl]
    · intro i h1 h2
      have h3 : i < l.length := by simpa using h2
      simp [h3]
  · intro i hi
    have hi' : i < l.length := by rw [hl]; exact List.mem_range.1 hi
    rw [cells294, Nat.mul_one]
    have h5 : ((l.map fun n : Nat => Value.int .i64 (n : Int)).drop i).take 1 = [.int .i64 ((l.getD i 0 : Nat) : Int)] := by
      rw [List.drop_eq_getElem_cons (by simpa using hi')]
      simp [List.getD_eq_getElem?_getD, List.getElem?_eq_getElem hi']
    rw [h5]
    unfold Program.keyLits
    simp only [Tryz.underlying108]
    rw [if_pos ⟨trivial, wf64 _ (by
      rw [List.getD_eq_getElem?_getD, List.getElem?_eq_getElem hi']
      exact h _ (List.getElem_mem hi'))⟩]
theorem lits_ex (m : Nat) (e : St.Ex) (he : OkE e) : Tryz.prog.keyLits (m + 3) 267 (exC e) = some (exL e) := by
  unfold Program.keyLits
  simp only [Tryz.underlying267]
  rw [if_pos ⟨by rw [cells429]; simp [exC, he.1], by simp⟩]
  have h1 := lits_arr m e.to he.1 he.2
  have h2 : ((exC e).drop 1).take 36 = e.to.map fun n : Nat => Value.int .i64 (n : Int) := by
    rw [exC, List.drop_succ_cons, List.drop_zero, List.take_of_length_le (by simp [he.1])]
  have h3 : ((exC e).drop 0).take 1 = [.bool e.ends] := rfl
  have h4 : Tryz.prog.keyLits (m + 2) 4 [.bool e.ends] = some [.bool e.ends] := by
    unfold Program.keyLits; simp only [Tryz.underlying4]
  simp only [List.mapM_cons, List.mapM_nil, cells4, cells427]
  rw [h2, h3, h4, h1]
  simp [exL]
theorem types_size3 : ∃ m, Tryz.prog.types.size + 1 = m + 3 := ⟨Tryz.prog.types.size - 2, by have h : 267 < Tryz.prog.types.size := row429; omega⟩
theorem keyOf_ex (e : St.Ex) (he : OkE e) : keyOf Tryz.prog 267 (.agg (exC e).toArray) = some (keyE e) := by
  obtain ⟨m, hm⟩ := types_size3
  unfold keyOf
  simp only [Tryz.underlying267]
  rw [if_pos (by simp [keyT429, Value.formed, Tryz.underlying267, cells429, exC, he.1]), hm]
  simp only [Value.cells, List.toList_toArray]
  rw [lits_ex m e he]
  rfl
theorem exL_inj {a b : St.Ex} (h : exL a = exL b) : a = b := by
  cases a with
  | mk e t =>
    cases b with
    | mk e' t' =>
      simp only [exL, List.cons.injEq, Lit.bool.injEq] at h
      obtain ⟨h1, h2⟩ := h
      subst h1
      congr 1
      have hl : t.length = t'.length := by simpa using congrArg List.length h2
      apply List.ext_getElem hl
      intro i h3 h4
      have : (t.map fun n : Nat => Lit.int .i64 (n : Int))[i]? = (t'.map fun n : Nat => Lit.int .i64 (n : Int))[i]? := by rw [h2]
      simp [h3, h4] at this
      omega
theorem keyE_inj {a b : St.Ex} (ha : OkE a) (hb : OkE b) (h : keyE a = keyE b) : a = b := by
  have e : keyBytes (exL a) = keyBytes (exL b) := by unfold keyE at h; simpa using h
  exact exL_inj (keyLits_inj (lits_ex 0 a ha) (lits_ex 0 b hb) e)

/-- What the map answers. -/
def lookX (kn : List St.Ex) (e : St.Ex) : Int := if e ∈ kn then ((kn.idxOf e + 1 : Nat) : Int) else 0
/-- Block M is a map that says of these exits which states they are. -/
def KnIs (w : World) (M : Nat) (kn : List St.Ex) : Prop :=
  ∃ D : DataW Unit, w.ownsMap Tryz.prog 267 (plainElem Tryz.prog 108) M kn.length D ∧ Maps.size D = kn.length ∧
    (∀ e, OkE e → Maps.has D (keyE e) = decide (e ∈ kn)) ∧
    ∀ e, OkE e → D.atKey (keyE e) (.lit (.int .i64 0)) = .lit (.int .i64 (lookX kn e))
theorem KnIs.block {w : World} {M : Nat} {kn : List St.Ex} (h : KnIs w M kn) : ∃ es clock, w.heap[M]? = some (.map es clock) := by
  obtain ⟨D, ⟨es, clock, h1, _⟩, _⟩ := h; exact ⟨es, clock, h1⟩
theorem KnIs.kp {S : List Nat} {w w' : World} {M : Nat} {kn : List St.Ex} (h : KnIs w M kn) (k : Kp S w w') (hM : M ∉ S) : KnIs w' M kn := by
  obtain ⟨D, ⟨es, clock, h1, h2⟩, h3⟩ := h
  exact ⟨D, ⟨es, clock, k.heap h1 hM, h2⟩, h3⟩
theorem knIs_made (w : World) : KnIs (w.alloc (.map #[] 0)) w.heap.size [] := by
  refine ⟨.map [], World.ownsMap_made _ _ _ _, rfl, fun e _ => rfl, fun e _ => rfl⟩
theorem keylitE (e : St.Ex) : WideAt.IsKeyLit (keyE e) := trivial
theorem zero294 (w : World) : (zeroValue 108).run Tryz.prog w = .ok (.int .i64 0) w := by kernel_rfl
theorem owns_sizeG {kt et : TypeId} {w : World} {M n : Nat} {D : DataW Unit} (h : w.ownsMap Tryz.prog kt (plainElem Tryz.prog et) M n D) : w.ownsMap Tryz.prog kt (plainElem Tryz.prog et) M (Maps.size D) D := by
  obtain ⟨es, clock, h1, h2, h3, rfl⟩ := h
  exact ⟨es, clock, h1, h2, by simp [Maps.size, length_sorted], rfl⟩

theorem KnIs.look {w : World} {M : Nat} {kn : List St.Ex} (h : KnIs w M kn) (e : St.Ex) (he : OkE e) :
    (Instr.lookup 235 (.map (some M)) (.agg (exC e).toArray) true).run Tryz.prog w = .ok (.tuple #[.int .i64 (lookX kn e), .bool (decide (e ∈ kn))]) w := by
  obtain ⟨D, hown, hsz, hhas, hat⟩ := h
  obtain ⟨v, ps, hrun, hv⟩ := hown.look_ok exK Tryz.underlying235 (zero294 w) (plainElem_int Tryz.underlying108 (by decide)) (keyOf_ex e he)
  obtain ⟨x, rfl, hx, _⟩ := plainElem_int_inv Tryz.underlying108 hv
  rw [hhas e he] at hrun
  have h2 := hat e he
  simp only [Prod.mk.injEq] at hx
  rw [h2] at hx
  have hx2 : lookX kn e = x := by simpa using hx.1
  rw [hx2]; exact hrun
theorem KnIs.store {w : World} {M : Nat} {kn : List St.Ex} (h : KnIs w M kn) (hc : kn.length ≤ 1000000000) (e : St.Ex) (he : OkE e) (hn : e ∉ kn) (hok : ∀ x ∈ kn, OkE x) :
    ∃ w', (Instr.mapUpdate 235 (.map (some M)) (.agg (exC e).toArray) (.int .i64 ((kn.length + 1 : Nat) : Int))).run Tryz.prog w = .ok () w' ∧ KnIs w' M (kn ++ [e]) ∧ Kp [M] w w' := by
  obtain ⟨D, hown, hsz, hhas, hat⟩ := h
  obtain ⟨w', hrun, h1, h2⟩ := hown.update exK Tryz.underlying235 (by unfold maxLen; omega) (keyOf_ex e he) (plainElem_int Tryz.underlying108 (wf64 (kn.length + 1) (by omega)))
  have hidx : (kn ++ [e]).idxOf e = kn.length := by simp [List.idxOf_append, hn]
  refine ⟨w', hrun, ⟨D.put (keyE e) (.lit (.int .i64 ((kn.length + 1 : Nat) : Int))), ?_, ?_, ?_, ?_⟩, (Kp.refl [M] w).grown h2 (fun k hk => by simp at hk; left; simp [hk])⟩
  · have := owns_sizeG h1
    rw [Maps.size_put (hown.tidy exK), hhas e he, hsz] at this
    simpa [hn] using this
  · rw [Maps.size_put (hown.tidy exK), hhas e he, hsz]
    simp [hn]
  · intro x hx
    by_cases e' : x = e
    · subst e'
      rw [Maps.has_put_same hown.isMap (keylitE _)]
      simp
    · rw [Maps.has_put_other (fun h => e' (keyE_inj hx he h)), hhas x hx]
      simp [e']
  · intro x hx
    by_cases e' : x = e
    · subst e'
      have : lookX (kn ++ [x]) x = ((kn.length + 1 : Nat) : Int) := by unfold lookX; rw [if_pos (by simp), hidx]
      rw [this]
      exact Maps.atKey_put_same hown.isMap (keylitE _) _ _
    · have : lookX (kn ++ [e]) x = lookX kn x := by
        unfold lookX
        by_cases hxk : x ∈ kn
        · rw [if_pos hxk, if_pos (by simp [hxk]), List.idxOf_append, if_pos hxk]
        · rw [if_neg hxk, if_neg (by simp [hxk, e'])]
      rw [this, Maps.atKey_put_other (fun h => e' (keyE_inj hx he h)), hat x hx]
end Go.Proofs.YtnffagpdnklnkaaGreatDoor.Pak
