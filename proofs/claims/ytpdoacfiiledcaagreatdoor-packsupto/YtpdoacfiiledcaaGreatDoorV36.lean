import Derived.Test.YtpdoacfiiledcaaGreatDoorV35

set_option linter.unusedVariables false
set_option maxRecDepth 4000
namespace Go.Proofs.YtpdoacfiiledcaaGreatDoor.Pak
open Go.RowKit Go.Proofs.YtpdoacfiiledcaaGreatDoor Go.Proofs.YtpdoacfiiledcaaGreatDoor.Spl SiftM

theorem low_sm (c : UInt8) (h : isSm c = true) : low c = c := by
  unfold low
  rw [if_neg]
  unfold isSm at h
  simp at h
  omega
theorem isW_sm (c : UInt8) (h : isSm c = true) : isW c = true := by unfold isW; rw [low_sm c h]; exact h
theorem word_parts (x : List UInt8) (h : isWord x = true) : 1 ≤ x.length ∧ x.length ≤ 8 ∧ ∀ c ∈ x, isSm c = true := by
  unfold isWord at h
  simp only [Bool.and_eq_true, decide_eq_true_eq, List.all_eq_true] at h
  exact ⟨h.1.1, h.1.2, h.2⟩
theorem wordL_self (x : List UInt8) (h : isWord x = true) : wordL x = x := by
  obtain ⟨h1, h2, h3⟩ := word_parts x h
  unfold wordL
  rw [List.take_of_length_le (by omega)]
  have : x.map low = x.map id := List.map_congr_left (fun c hc => low_sm c (h3 c hc))
  rw [this]; simp
theorem sp_tail : ∀ (r : List (List UInt8)) (f : Nat), (∀ x ∈ r, isWord x = true) → (r.map fun y => (32 : UInt8) :: y).flatten.length ≤ f → sp f ((r.map fun y => (32 : UInt8) :: y).flatten) = r
  | [], f, _, _ => by simp [sp_nil]
  | y :: r, f, h, hf => by
    obtain ⟨h1, h2, h3⟩ := word_parts y (h y (by simp))
    simp only [List.map_cons, List.flatten_cons, List.cons_append, List.length_cons, List.length_append] at hf ⊢
    obtain ⟨g, rfl⟩ : ∃ g, f = g + 1 := ⟨f - 1, by omega⟩
    rw [sp_sep g 32 _ (by decide)]
    have ih := sp_tail r g (fun x hx => h x (by simp [hx])) (by omega)
    rw [sp_run g y _ (fun c hc => isW_sm c (h3 c hc)) (by intro e; rw [e] at h1; simp at h1) ?_ (by omega), ih, wordL_self y (h y (by simp))]
    cases r with
    | nil => exact .inl (by simp)
    | cons z t => exact .inr ⟨32, z ++ (t.map fun y => (32 : UInt8) :: y).flatten, by simp, by decide⟩
/-- The words of words that are joined are the words. -/
theorem sp_joinW (ws : List (List UInt8)) (f : Nat) (h : ∀ x ∈ ws, isWord x = true) (hf : (joinW ws).length ≤ f) : sp f (joinW ws) = ws := by
  cases ws with
  | nil => simp [joinW, sp_nil]
  | cons x r =>
    obtain ⟨h1, h2, h3⟩ := word_parts x (h x (by simp))
    simp only [joinW, List.length_append] at hf ⊢
    have ih := sp_tail r f (fun x hx => h x (by simp [hx])) (by omega)
    rw [sp_run f x _ (fun c hc => isW_sm c (h3 c hc)) (by intro e; rw [e] at h1; simp at h1) ?_ (by omega), ih, wordL_self x (h x (by simp))]
    cases r with
    | nil => exact .inl (by simp)
    | cons z t => exact .inr ⟨32, z ++ (t.map fun y => (32 : UInt8) :: y).flatten, by simp, by decide⟩
theorem join_tail_len : ∀ r : List (List UInt8), ((r.map fun y => (32 : UInt8) :: y).flatten).length = r.length + sumL r
  | [] => by simp [sumL]
  | y :: r => by simp only [List.map_cons, List.flatten_cons, List.cons_append, List.length_cons, List.length_append, join_tail_len r, sumL]; omega
theorem joinW_lenF (ws : List (List UInt8)) : (joinW ws).length = lenF ws := by
  cases ws with
  | nil => simp [joinW, lenF, sumL]
  | cons x r => simp only [joinW, List.length_append, join_tail_len, lenF, sumL, List.length_cons]; omega
/-- The docs that are packed again. -/
def backN (T : List Tx) : List Nd := T.map fun t => (t.1, ⟨(joinW t.2).toArray⟩)
theorem backN_txs (T : List Tx) (h : ∀ t ∈ T, ∀ x ∈ t.2, isWord x = true) : txs (backN T) = T := by
  unfold txs backN
  rw [List.map_map]
  conv => rhs; rw [← List.map_id T]
  apply List.map_congr_left
  intro t ht
  simp only [Function.comp, id]
  have : wordsB ⟨(joinW t.2).toArray⟩ = t.2 := by
    unfold wordsB
    exact sp_joinW t.2 _ (h t ht) (by simp [ByteArray.size])
  rw [this]
end Go.Proofs.YtpdoacfiiledcaaGreatDoor.Pak

set_option linter.unusedVariables false
set_option maxRecDepth 4000
namespace Go.Proofs.YtpdoacfiiledcaaGreatDoor.Pak
open Go.RowKit Go.Proofs.YtpdoacfiiledcaaGreatDoor Go.Proofs.YtpdoacfiiledcaaGreatDoor.Spl SiftM

theorem pw_of_rs : ∀ (xs : List Nat) (least : Nat), Rs least xs → xs.Pairwise (· < ·)
  | [], _, _ => List.Pairwise.nil
  | x :: r, least, h => List.Pairwise.cons (fun y hy => by have := rs_ge r (x + 1) h.2 y hy; omega) (pw_of_rs r (x + 1) h.2)
theorem fine_sorted (T : List Tx) (hf : Fine T) : Sorted (backN T) := by
  have := pw_of_rs _ _ hf.rise
  rw [List.pairwise_map] at this
  unfold Sorted backN
  rw [List.pairwise_map]
  exact this
theorem back_len (T : List Tx) : (dcs (backN T)).length = T.length := by simp [dcs, backN]
theorem back_at (T : List Tx) (i : Nat) (h : i < (dcs (backN T)).length) (h' : i < T.length) : (dcs (backN T))[i].1 = (T[i].1 : Int) := by simp [dcs, backN]
theorem fine_ids (T : List Tx) (hf : Fine T) : IdsOk (dcs (backN T)) := by
  intro i h
  have h' : i < T.length := by rw [← back_len]; exact h
  rw [back_at T i h h']
  have h9 := hf.ids _ (List.getElem_mem h')
  refine ⟨by omega, by omega, ?_⟩
  intro k hk
  have hk' : k < T.length := by omega
  rw [back_at T k (by omega) hk']
  have hpw := fine_sorted T hf
  unfold Sorted backN at hpw
  rw [List.pairwise_map] at hpw
  have := List.pairwise_iff_getElem.1 hpw k i hk' h' hk
  simp only at this
  omega
theorem fine_size (T : List Tx) (hf : Fine T) : ∀ d ∈ dcs (backN T), d.2.size ≤ 120 := by
  intro d hd
  unfold dcs backN at hd
  rw [List.map_map] at hd
  obtain ⟨t, ht, rfl⟩ := List.mem_map.1 hd
  have := (hf.short t ht).1
  simp only [Function.comp, ByteArray.size, List.size_toArray, joinW_lenF]
  exact this
theorem sorted_some (N : List Nd) (h : IdsOk (dcs N)) : ∃ N' : List Nd, N'.Perm N ∧ Sorted N' := by
  let le : Nd → Nd → Bool := fun x y => decide (x.1 ≤ y.1)
  refine ⟨N.mergeSort le, List.mergeSort_perm N le, ?_⟩
  have hs : (N.mergeSort le).Pairwise fun x y => le x y = true := List.pairwise_mergeSort (by intro a b c h1 h2; simp [le] at *; omega) (by intro a b; simp [le]; omega) N
  have hne : N.Pairwise fun x y => x.1 ≠ y.1 := by
    rw [List.pairwise_iff_getElem]
    intro i j hi hj hij
    have := (h j (by simpa [dcs] using hj)).2.2 i hij
    simp [dcs] at this
    intro e
    exact this (by rw [e])
  have hne' : (N.mergeSort le).Pairwise fun x y => x.1 ≠ y.1 := (List.mergeSort_perm N le).symm.pairwise hne (fun h => Ne.symm h)
  unfold Sorted
  refine (hs.and hne').imp ?_
  rintro a b ⟨h1, h2⟩
  simp [le] at h1
  omega
/-- The order in which the docs are packed again. -/
theorem back_order (T : List Tx) : ∃ N' : List Nd, (Fine T → N' = backN T) ∧ (IdsOk (dcs (backN T)) → dcs (backN T) = dcs (backN T) ∧ N'.Perm (backN T) ∧ Sorted N') := by
  by_cases hf : Fine T
  · exact ⟨backN T, fun _ => rfl, fun _ => ⟨rfl, List.Perm.refl _, fine_sorted T hf⟩⟩
  · by_cases hi : IdsOk (dcs (backN T))
    · obtain ⟨N', h1, h2⟩ := sorted_some _ hi
      exact ⟨N', fun h => absurd h hf, fun _ => ⟨rfl, h1, h2⟩⟩
    · exact ⟨[], fun h => absurd h hf, fun h => absurd h hi⟩
/-- The document's Read takes just the files. -/
theorem read_iff (F : List UInt8) (T : List Tx) (N' : List Nd) (hg : rguess F = some T) (hch : Fine T → N' = backN T) (hs : Sorted N') (hp : N'.Perm (backN T)) (hid : IdsOk (dcs (backN T))) (hsz : ∀ d ∈ dcs (backN T), d.2.size ≤ 120) : fileT (txs N') = F ↔ Fine T ∧ F = fileT T := by
  constructor
  · intro e
    have hT := (guess_bnd F T hg).len
    have hf : Fine (txs N') := by
      refine fine_txs N' hs ?_ ?_ ?_
      · rw [hp.length_eq]; simpa [backN] using hT
      · intro x hx
        obtain ⟨i, hi, e⟩ := List.getElem_of_mem (hp.mem_iff.1 hx)
        have := (hid i (by simpa [dcs] using hi)).2.1
        simp only [dcs, List.getElem_map, e] at this
        omega
      · intro x hx
        exact hsz ((x.1 : Int), x.2) (List.mem_map.2 ⟨x, hp.mem_iff.1 hx, rfl⟩)
    have h1 := guess_file _ hf
    rw [e, hg] at h1
    simp at h1
    rw [h1]
    exact ⟨hf, e.symm⟩
  · rintro ⟨hf, e⟩
    rw [hch hf, backN_txs T hf.word]
    exact e.symm
theorem read_only (F : List UInt8) (T T' : List Tx) (hg : rguess F = some T) (hf : Fine T') (e : F = fileT T') : T = T' := by
  have := guess_file T' hf
  rw [← e, hg] at this
  simpa using this
end Go.Proofs.YtpdoacfiiledcaaGreatDoor.Pak

set_option linter.unusedVariables false
set_option maxRecDepth 4000
namespace Go.Proofs.YtpdoacfiiledcaaGreatDoor.Pak
open Go.RowKit Go.Proofs.YtpdoacfiiledcaaGreatDoor Go.Proofs.YtpdoacfiiledcaaGreatDoor.Spl SiftM

/-- What the document's Read answers. -/
def RReadPost (F : List UInt8) (w : World) (e : Ending) (w' : World) : Prop :=
  Kp [] w w' ∧ ((∃ (T : List Tx) (a : Option Addr) (c N : Nat) (vs : List Value), Fine T ∧ F = fileT T ∧ T.length = N ∧ vs.length = N ∧ e = .returned (.tuple #[.slice a N c, .int .i64 0]) ∧ w'.ownsRow w.heap.size 226 2 (.slice a N c) N (tx2 ((T.map Prod.fst).zip vs)) ∧ ∀ i (h : i < T.length) (h2 : i < vs.length), w'.ownsRow w.heap.size 9 1 vs[i] T[i].2.length (strV T[i].2)) ∨
    (∀ T, Fine T → F ≠ fileT T) ∧ e = .returned (.tuple #[.slice none 0 0, .int .i64 12]))
theorem docV_snoc (D : List Dc) (x : Dc) : docV (D ++ [x]) = docV D ++ [.int .i64 x.1, .string x.2] := by simp [docV, encDoc]
theorem back_take (T : List Tx) (i : Nat) (h : i < T.length) : dcs (backN (T.take (i + 1))) = dcs (backN (T.take i)) ++ [((T[i].1 : Int), ⟨(joinW T[i].2).toArray⟩)] := by
  rw [take_snocL T i h]; unfold dcs backN; rw [List.map_append, List.map_append]; rfl

theorem file_lenR (T : List Tx) : (fileT T).length = (bodyT T).length + 4 := by unfold fileT; rw [List.length_append, sumB_len]
theorem body_lenR (T : List Tx) (hf : Fine T) : (bodyT T).length ≤ 101100 := by
  have h3 := numB_len T.length
  have h4 := numB_len (termsOf T).length
  have h5 := riseB_len (T.map Prod.fst) 0
  have h6 := postT_part T hf (termsOf T).length
  have h7 := hf.len
  rw [List.take_length] at h6
  rw [List.length_map] at h5
  rw [body_eq]
  simp only [List.length_cons, List.length_append]
  unfold numB at *
  omega
theorem back_fine (T : List Tx) (N' : List Nd) (hT : T.length ≤ 60) (hs : Sorted N') (hp : N'.Perm (backN T)) (hid : IdsOk (dcs (backN T))) (hsz : ∀ d ∈ dcs (backN T), d.2.size ≤ 120) : Fine (txs N') := by
  refine fine_txs N' hs ?_ ?_ ?_
  · rw [hp.length_eq]; simpa [backN] using hT
  · intro x hx
    obtain ⟨i, hi, e⟩ := List.getElem_of_mem (hp.mem_iff.1 hx)
    have := (hid i (by simpa [dcs] using hi)).2.1
    simp only [dcs, List.getElem_map, e] at this
    omega
  · intro x hx
    exact hsz ((x.1 : Int), x.2) (List.mem_map.2 ⟨x, hp.mem_iff.1 hx, rfl⟩)
theorem zip_take (T : List Tx) (vs : List Value) (j : Nat) (h : j < T.length) (h2 : j < vs.length) : ((T.map Prod.fst).zip vs).take (j + 1) = ((T.map Prod.fst).zip vs).take j ++ [(T[j].1, vs[j])] := by
  rw [take_snocL _ j (by simp; omega)]
  simp
theorem docsAt_of {w : World} {base n cl : Nat} {al : Option Addr} {D : List Dc} (h : w.ownsRow base 261 2 (.slice al n cl) n (docV D)) (hn : D.length = n) : DocsAt w al D := by
  cases D with
  | nil => exact .inl rfl
  | cons x r =>
    obtain ⟨a5, c5, e5, h5⟩ := owns_forms h
    obtain ⟨g, hg⟩ := h5 (by rw [← hn]; simp)
    simp at e5
    have ea : al = some ⟨g, 0, none⟩ := by rw [e5.1, hg]
    subst ea
    refine .inr ⟨g, 0, rfl, (h.lt g rfl).2, ?_⟩
    intro i hi
    obtain ⟨d0, d1⟩ := docV_get (x :: r) i hi
    rw [Nat.zero_add]
    exact ⟨(owns_at h d0).1, (owns_at h d1).1⟩
theorem vw_up {w : World} {B B' : Nat} {a : Option Addr} {l : List UInt8} (h : Vw w B a l) (hB : B ≤ B') : Vw w B' a l := by
  rcases h with h | ⟨g, off, e, hg, hc⟩
  · exact .inl h
  · exact .inr ⟨g, off, e, by omega, hc⟩
theorem DocsIs.far {w w' : World} {base b m sz : Nat} {v u : Value} {T : List Tx} {vs xs : List Value} {e : TypeId} (h : DocsIs w base v T vs) (k : Kp u.ownBlock.toList w w') (hu : w.ownsRow b e sz u m xs) (h1 : e ≠ 266) (h2 : e ≠ 9) : DocsIs w' base v T vs :=
  ⟨h.len, k.owns h.row (fun g hg hx => owns_disj hu h.row h1 g (by simpa using hx) hg), fun i hi hi2 => k.owns (h.each i hi hi2) (fun g hg hx => owns_disj hu (h.each i hi hi2) h2 g (by simpa using hx) hg)⟩

set_option maxHeartbeats 1000000 in
set_option maxRecDepth 100000 in
theorem rread_any (n cap : Nat) (a : Option Addr) (F : List UInt8) (w : World) (hv : Vw w w.heap.size a F) (hn : F.length = n) (hn2 : n ≤ 4000000) (hc : n ≤ cap) :
    Calls Tryz.prog 85 #[.slice a n cap] w (RReadPost F w) := by
  obtain ⟨i0, hi0, hz0, hz1, hz2⟩ := info_parts info43
  obtain ⟨i1, hi1, hy0, hy1, hy2⟩ := info_parts info52
  have HV := hide hv
  have Hn := hide hn
  have HG := hide (rguess_any n cap a F w hv hn hn2 hc)
  clear hv hn
  go_enter Tryz.func85, Tryz.ntmps85
  go_wp2_with fail
  refine HG.out.mono ?_
  rintro e w1 ⟨k1, h1⟩
  rcases h1 with ⟨hg, rfl⟩ | ⟨T, ad, cd, N, vs, hg, hT, rfl, hdi⟩
  · have hno : ∀ T, Fine T → F ≠ fileT T := by
      intro T hf e
      have := guess_file T hf
      rw [← e, hg] at this
      simp at this
    have HNO := hide hno
    clear hno hg HG
    go_wp2_with fail
    go_ret2
    exact ⟨k1, .inr ⟨HNO.out, rfl⟩⟩
  have hbnd := guess_bnd F T hg
  have hN60 : N ≤ 60 := by rw [← hT]; exact hbnd.len
  have HB := hide hbnd
  have HGG := hide hg
  have HT := hide hT
  have HD := hide hdi
  have hvs := hdi.len
  have HVS := hide hvs
  clear hbnd hg hT hdi HG hvs
  go_wp2_with fail
  go_loopw [6, 7] (fun lv iv wr => ∃ (i : Nat) (al : Option Addr) (cl : Nat), i ≤ N ∧ iv = .int .i64 i ∧ lv = .slice al i cl ∧ wr.ownsRow w.heap.size 261 2 (.slice al i cl) i (docV (dcs (backN (T.take i)))) ∧ DocsIs wr w.heap.size (.slice ad N cd) T vs ∧ Kp [] w wr) (fun _ iv _ => N - (intOf iv).toNat)
  case atStart => exact ⟨0, none, 0, by omega, rfl, rfl, World.ownsRow_nil _ _ _ _, HD.out, k1⟩
  case round =>
    clear HD k1
    obtain ⟨i, al, cl, hi, rfl, rfl, ho, hdi, hkp⟩ := hrel
    by_cases hlt : i < N
    · have hiT : i < T.length := by rw [HT.out]; exact hlt
      have hiv : i < vs.length := by rw [HVS.out]; exact hiT
      obtain ⟨g, rfl⟩ : ∃ g, ad = some ⟨g, 0, none⟩ := by
        obtain ⟨a5, c5, e5, h5⟩ := owns_forms hdi.row
        obtain ⟨g, hg⟩ := h5 (by omega)
        simp at e5
        exact ⟨g, by rw [e5.1, hg]⟩
      obtain ⟨q0, q1, _⟩ := hdi.cells i hiT hiv
      have hgl := (hdi.row.lt g rfl).2
      have hea := hdi.each i hiT hiv
      have hfew := HB.out.few _ (List.getElem_mem hiT)
      have hsh := HB.out.short _ (List.getElem_mem hiT)
      rw [Hn.out] at hsh
      have hbt := back_take T i hiT
      obtain ⟨aw, cw, ew, _⟩ := owns_forms hea
      rw [ew] at q1 hea
      obtain ⟨t, ht⟩ : ∃ t, T[i] = t := ⟨_, rfl⟩
      rw [ht] at q0 q1 hea hfew hsh hbt
      obtain ⟨id, ws⟩ := t
      simp only at q0 q1 hea hfew hsh hbt
      have HBY := hide (fun (W : World) (hW : W.ownsRow w.heap.size 9 1 (.slice aw ws.length cw) ws.length (strV ws)) => rbody_any w.heap.size (.slice aw ws.length cw) ws W hW (by omega) (fun x hx => by have := hsh x hx; omega))
      have HO := hide ho
      have HDI := hide hdi
      have HBT := hide hbt
      have HEA := hide hea
      have EW := hide ew
      have HTI := hide ht
      have hzk := hkp.size
      clear ho hdi hbt hea hfew hsh ew ht
      have j1 : (0 : Int) ≤ (i : Int) := by omega
      have j2 : (i : Int) < (N : Int) := by omega
      go_wp2_with fail
      go_region_held3 (fun w' => w'.cell? ⟨g, i * 3, none⟩ = some (.int .i64 (id : Int)) ∧ w'.cell? ⟨g, i * 3 + 1, none⟩ = some (.slice aw ws.length cw)) (first | go_keep | exact ⟨hs0, hs1⟩)
        (first
          | (go_at_call 183; refine (HBY.out _ (by first | exact HEA.out | exact HEA.out.drew)).mono ?_; rintro e w9 ⟨rfl, hw9⟩; subst hw9)
          | (refine step_append_lies _ (by rfl) _ _ _ (by rfl) w.heap.size 261 i0 _ 2 24 Tryz.underlying66 hi0 hz0 hz1 hz2 rfl (by omega) (.slice al i cl) i (docV (dcs (backN (T.take i)))) (by rfl) (by first | exact HO.out.alloc _ | exact (HO.out.alloc _).drew)
                ⟨wr.heap.size, 0, none⟩ 1 1 [.int .i64 (id : Int), .string ⟨(joinW ws).toArray⟩] (by rfl) (by rfl) (World.news_of_block (cs := #[.int .i64 (id : Int), .string ⟨(joinW ws).toArray⟩]) (t := 261) (fr := (0, 0)) (heap_alloc_new wr _)) (by simp [Value.oneCell'])
                (by omega) (by unfold maxLen; omega) (by omega) (by simp; omega) (wr.heap.size + 1) (by simp) ?_; intro gg cap' w3 hown3 hgrow hat3 hlt3; have k3 : Kp (Value.slice al i cl).ownBlock.toList wr w3 := (by first | exact ((Kp.refl _ wr).alloc _).grown hgrow (fun j hj => .inl (by simp [hj])) | exact (((Kp.refl _ wr).alloc _).drewN 1).grown hgrow (fun j hj => .inl (by simp [hj]))); have hd3 := HDI.out.far k3 HO.out (by decide) (by decide); have hs0 := (hd3.cells i hiT hiv).1; have hs1 := (hd3.cells i hiT hiv).2.1; rw [EW.out] at hs1; simp only [HTI.out] at hs0 hs1))
      have kk3 : Kp [] w w3 := hkp.trans k3 (fun y hy => .inr (HO.out.lt y (by simpa using hy)).1)
      have ho3 : w3.ownsRow w.heap.size 261 2 (.slice (some ⟨gg, 0, none⟩) (i + 1) cap') (i + 1) (docV (dcs (backN (T.take (i + 1))))) := by
        rw [HBT.out, docV_snoc]; exact hown3
      have HO3 := hide ho3
      have HD3 := hide hd3
      clear ho3 hd3 hown3 hgrow hat3 hs0 hs1 q0 q1 HDI HO k3
      go_wp2_with fail
      go_roundw
      case rel => exact ⟨i + 1, _, _, by omega, by go_num, rfl, HO3.out, HD3.out, kk3⟩
      case measure => simp [intOf]; omega
    · obtain rfl : i = N := by omega
      have htk : T.take i = T := List.take_of_length_le (by rw [HT.out]; omega)
      rw [htk] at ho
      obtain ⟨N', hch, hord⟩ := back_order T
      have hDl : (dcs (backN T)).length = i := by rw [back_len]; exact HT.out
      have HP := hide (rpack_any al cl i (dcs (backN T)) (backN T) N' wr (docsAt_of ho hDl) hDl (by omega) hord)
      have HDI := hide hdi
      have HCH := hide hch
      have HORD := hide hord
      have HDL := hide hDl
      clear ho hdi hch hord hDl htk
      go_wp2_with fail
      refine HP.out.mono ?_
      rintro e w2 ⟨k2, h2⟩
      have kk2 : Kp [] w w2 := hkp.trans k2 (by simp)
      have HV2 := hide (vw_up (vw_kp HV.out kk2 (by simp)) kk2.size)
      have HD2 := hide (HDI.out.kp0 k2)
      clear HP HDI k2 hkp HV
      rcases h2 with ⟨h60, _⟩ | ⟨_, hbad, rfl⟩ | ⟨_, hid, hlong, rfl⟩ | ⟨_, hid, hsz, ap, cp, np, hnp, rfl, hop⟩
      · rw [HDL.out] at h60; omega
      · have HNO : Hid (∀ T, Fine T → F ≠ fileT T) := by
          intro T' hf e
          have := read_only F T T' HGG.out hf e
          subst this
          exact hbad (fine_ids T hf)
        have HS := hide (rsame_any none a 0 0 cap n [] F w2 (.inl ⟨rfl, rfl⟩) HV2.out rfl Hn.out (by omega))
        clear hbad
        go_wp2_with fail
        refine HS.out.mono ?_
        rintro e w3 ⟨rfl, k3⟩
        go_wp2_with fail
        go_ret2
        exact ⟨kk2.trans k3 (by simp), .inr ⟨HNO.out, rfl⟩⟩
      · have HNO : Hid (∀ T, Fine T → F ≠ fileT T) := by
          intro T' hf e
          have := read_only F T T' HGG.out hf e
          subst this
          obtain ⟨d, hd, h⟩ := hlong
          have := fine_size T hf d hd
          omega
        have HS := hide (rsame_any none a 0 0 cap n [] F w2 (.inl ⟨rfl, rfl⟩) HV2.out rfl Hn.out (by omega))
        clear hlong hid
        go_wp2_with fail
        refine HS.out.mono ?_
        rintro e w3 ⟨rfl, k3⟩
        go_wp2_with fail
        go_ret2
        exact ⟨kk2.trans k3 (by simp), .inr ⟨HNO.out, rfl⟩⟩
      · obtain ⟨_, hp, hs⟩ := HORD.out hid
        have hiff := read_iff F T N' HGG.out HCH.out hs hp hid hsz
        have hfin := back_fine T N' (by rw [HT.out]; exact hN60) hs hp hid hsz
        have hlenp : np ≤ 4000000 := by
          rw [← hnp, file_lenR]
          have := body_lenR _ hfin
          omega
        have hS := rsame_any ap a cp np cap n (fileT (txs N')) F w2 (vw_of_owns hop hnp) HV2.out hnp Hn.out hlenp
        by_cases heq : fileT (txs N') = F
        · obtain ⟨hf, eF⟩ := hiff.1 heq
          rw [decide_eq_true heq] at hS
          have HS := hide hS
          have HF := hide hf
          have HEF := hide eF
          clear hS hf eF heq hiff hfin hp hs hid hsz hop hnp HORD HCH HGG
          go_wp2_with fail
          refine HS.out.mono ?_
          rintro e w3 ⟨rfl, k3⟩
          have kk3 : Kp [] w w3 := kk2.trans k3 (by simp)
          have HD3 := hide (HD2.out.kp0 k3)
          clear HD2 k3 kk2 HS HV2
          go_wp2_with fail
          go_loopw [11, 12] (fun lv iv wr => ∃ (j : Nat) (ao : Option Addr) (co : Nat), j ≤ i ∧ iv = .int .i64 j ∧ lv = .slice ao j co ∧ wr.ownsRow w.heap.size 226 2 (.slice ao j co) j (tx2 (((T.map Prod.fst).zip vs).take j)) ∧ DocsIs wr w.heap.size (.slice ad i cd) T vs ∧ Kp [] w wr) (fun _ iv _ => i - (intOf iv).toNat)
          case atStart => exact ⟨0, none, 0, by omega, rfl, rfl, World.ownsRow_nil _ _ _ _, HD3.out, kk3⟩
          case round =>
            clear HD3 kk3
            obtain ⟨j, ao, co, hj, rfl, rfl, ho, hdi, hkp⟩ := hrel
            have hzk := hkp.size
            by_cases hlt2 : j < i
            · have hiT : j < T.length := by rw [HT.out]; exact hlt2
              have hiv : j < vs.length := by rw [HVS.out]; exact hiT
              obtain ⟨g, rfl⟩ : ∃ g, ad = some ⟨g, 0, none⟩ := by
                obtain ⟨a5, c5, e5, h5⟩ := owns_forms hdi.row
                obtain ⟨g, hg⟩ := h5 (by omega)
                simp at e5
                exact ⟨g, by rw [e5.1, hg]⟩
              obtain ⟨q0, q1, _⟩ := hdi.cells j hiT hiv
              have hgl := (hdi.row.lt g rfl).2
              have hea := hdi.each j hiT hiv
              have hzt := zip_take T vs j hiT hiv
              obtain ⟨aw, cw, ew, _⟩ := owns_forms hea
              rw [ew] at q1 hzt
              obtain ⟨t, ht⟩ : ∃ t, T[j] = t := ⟨_, rfl⟩
              rw [ht] at q0 q1 hzt
              obtain ⟨id, ws⟩ := t
              simp only at q0 q1 hzt
              have HO := hide ho
              have HDI := hide hdi
              have HZT := hide hzt
              have EW := hide ew
              have HTI := hide ht
              clear ho hdi hzt hea ew ht
              have j1 : (0 : Int) ≤ (j : Int) := by omega
              have j2 : (j : Int) < (i : Int) := by omega
              go_wp2_with fail
              go_region_held3 (fun w' => w'.cell? ⟨g, j * 3, none⟩ = some (.int .i64 (id : Int)) ∧ w'.cell? ⟨g, j * 3 + 1, none⟩ = some (.slice aw ws.length cw)) (first | go_keep | exact ⟨hs0, hs1⟩)
                ((refine step_append_lies _ (by rfl) _ _ _ (by rfl) w.heap.size 226 i1 _ 2 32 Tryz.underlying78 hi1 hy0 hy1 hy2 rfl (by omega) (.slice ao j co) j (tx2 (((T.map Prod.fst).zip vs).take j)) (by rfl) (by first | exact HO.out.alloc _ | exact (HO.out.alloc _).drew)
                    ⟨wr.heap.size, 0, none⟩ 1 1 [.int .i64 (id : Int), .slice aw ws.length cw] (by rfl) (by rfl) (World.news_of_block (cs := #[.int .i64 (id : Int), .slice aw ws.length cw]) (t := 226) (fr := (0, 0)) (heap_alloc_new wr _)) (by simp [Value.oneCell'])
                    (by omega) (by unfold maxLen; omega) (by omega) (by simp; omega) (wr.heap.size + 1) (by simp) ?_; intro gg cap' w3 hown3 hgrow hat3 hlt3; have k3 : Kp (Value.slice ao j co).ownBlock.toList wr w3 := (by first | exact ((Kp.refl _ wr).alloc _).grown hgrow (fun j hj => .inl (by simp [hj])) | exact (((Kp.refl _ wr).alloc _).drewN 1).grown hgrow (fun j hj => .inl (by simp [hj]))); have hd3 := HDI.out.far k3 HO.out (by decide) (by decide); have hs0 := (hd3.cells j hiT hiv).1; have hs1 := (hd3.cells j hiT hiv).2.1; rw [EW.out] at hs1; simp only [HTI.out] at hs0 hs1))
              have kk3 : Kp [] w w3 := hkp.trans k3 (fun y hy => .inr (HO.out.lt y (by simpa using hy)).1)
              have ho3 : w3.ownsRow w.heap.size 226 2 (.slice (some ⟨gg, 0, none⟩) (j + 1) cap') (j + 1) (tx2 (((T.map Prod.fst).zip vs).take (j + 1))) := by
                rw [HZT.out, tx2_snoc]; exact hown3
              have HO3 := hide ho3
              have HD3 := hide hd3
              clear ho3 hd3 hown3 hgrow hat3 hs0 hs1 q0 q1 HDI HO k3
              go_wp2_with fail
              go_roundw
              case rel => exact ⟨j + 1, _, _, by omega, by go_num, rfl, HO3.out, HD3.out, kk3⟩
              case measure => simp [intOf]; omega
            · obtain rfl : j = i := by omega
              have htk : ((T.map Prod.fst).zip vs).take j = (T.map Prod.fst).zip vs := List.take_of_length_le (by simp; rw [HT.out]; omega)
              rw [htk] at ho
              have HO := hide ho
              have HDI := hide hdi
              clear ho hdi htk
              go_wp2_with fail
              go_ret2
              exact ⟨hkp, .inl ⟨T, ao, co, j, vs, HF.out, HEF.out, HT.out, by rw [HVS.out, HT.out], rfl, HO.out, HDI.out.each⟩⟩
        · have HNO : Hid (∀ T, Fine T → F ≠ fileT T) := by
            intro T' hf e
            have := read_only F T T' HGG.out hf e
            subst this
            exact heq (hiff.2 ⟨hf, e⟩)
          rw [decide_eq_false heq] at hS
          have HS := hide hS
          clear hS heq hiff hfin hp hs hid hsz hop hnp HORD HCH HGG
          go_wp2_with fail
          refine HS.out.mono ?_
          rintro e w3 ⟨rfl, k3⟩
          go_wp2_with fail
          go_ret2
          exact ⟨kk2.trans k3 (by simp), .inr ⟨HNO.out, rfl⟩⟩
end Go.Proofs.YtpdoacfiiledcaaGreatDoor.Pak

set_option linter.unusedVariables false
set_option maxRecDepth 4000
namespace Go.Proofs.YtpdoacfiiledcaaGreatDoor.Pak
open Go.RowKit Go.Proofs.YtpdoacfiiledcaaGreatDoor Go.Proofs.YtpdoacfiiledcaaGreatDoor.Spl SiftM

theorem read_file (T : List Tx) (hf : Fine T) (a : Option Addr) (cap : Nat) (w : World) (hv : Vw w w.heap.size a (fileT T)) (hc : (fileT T).length ≤ cap) (hc2 : cap ≤ 9223372036854775807) :
    Calls Tryz.prog 83 #[.slice a (fileT T).length cap] w fun e w' => ∃ v vs, e = .returned (.tuple #[v, .int .i64 0]) ∧ TextsIs w' w.heap.size v T vs ∧ Kp [] w w' := by
  have hl := file_lenR T
  have hb := body_lenR T hf
  have ht := allW_le T hf.few
  have hn := hf.len
  have htab : tableF (unsealF (fileT T)) = (T.map Prod.fst, termsOf T, sumW T, belowF (rowsOf T) (termsOf T).length, some []) := by
    unfold fileT; rw [unseal_file]; exact table_back T hf
  have hsw := sumW_le T hf.few
  have htb := texts_back T
  have hr := read_good a cap (fileT T) _ _ _ _ (rowsOf T) w hv (by omega) hc hc2 htab (below_rows (rowsOf T) (termsOf T).length (rows_small T hf.few) (rows_lt T)) (by rw [rows_len]; simp) (by simpa using hn) (by omega) (by omega) (by
    intro r hr
    unfold rowsOf at hr
    obtain ⟨t, htm, rfl⟩ := List.mem_map.1 hr
    rw [words_back T t htm]
    have h1 := hf.few t htm
    have h2 := (hf.short t htm).2
    omega) (by rw [htb]; exact may_sum T (fun t ht => (hf.short t ht).1))
  rw [htb] at hr
  exact hr


set_option maxHeartbeats 800000 in
set_option maxRecDepth 100000 in
theorem read_may (a : Option Addr) (cap : Nat) (l : List UInt8) (ids : List Nat) (terms : List (List UInt8)) (c : Nat) (f : Nat → Nat → Option Nat) (rows : List (List Nat)) (w : World) (hv : Vw w w.heap.size a l) (hl : l.length ≤ 2000000) (hc : l.length ≤ cap) (hc2 : cap ≤ 9223372036854775807)
    (htab : tableF (unsealF l) = (ids, terms, c, f, some [])) (hr : RowsAre f rows terms.length) (hlen : rows.length = ids.length) (hn : ids.length ≤ 60) (hnt : terms.length ≤ 100000) (hcc : c ≤ 1000000000) (hsm : ∀ r ∈ rows, (wordsOf terms r).length ≤ 1000 ∧ sumL (wordsOf terms r) ≤ 2000000) (hmb : mayB (ids.zip (rows.map (wordsOf terms))) c = false) :
    Calls Tryz.prog 83 #[.slice a l.length cap] w fun e w' => e = .returned (.tuple #[.slice none 0 0, .int .i64 12]) ∧ Kp [] w w' := by
  have hP := hide (pread_good a cap l ids terms c f rows w hv hl hc hc2 htab hr hlen hn hnt hcc hsm)
  rw [hmb] at hP
  generalize ids.zip (rows.map (wordsOf terms)) = TT at *
  clear htab hr hsm hv hmb
  go_enter Tryz.func83, Tryz.ntmps83
  go_wp2_with fail
  refine hP.out.mono ?_
  rintro e w1 ⟨⟨_, rfl⟩ | ⟨h, _⟩, hk1⟩
  · go_wp2_with fail
    go_ret2
    exact ⟨rfl, hk1⟩
  · simp at h

/-- What the program's Read answers, of all bytes. -/
theorem sread_any (a : Option Addr) (cap : Nat) (l : List UInt8) (w : World) (hv : Vw w w.heap.size a l) (hl : l.length ≤ 2000000) (hc : l.length ≤ cap) (hc2 : cap ≤ 9223372036854775807) :
    Calls Tryz.prog 83 #[.slice a l.length cap] w fun e w' => Kp [] w w' ∧ ((∃ T v vs, Fine T ∧ l = fileT T ∧ e = .returned (.tuple #[v, .int .i64 0]) ∧ TextsIs w' w.heap.size v T vs) ∨ (∀ T, Fine T → l ≠ fileT T) ∧ e = .returned (.tuple #[.slice none 0 0, .int .i64 12])) := by
  by_cases hex : ∃ T, Fine T ∧ l = fileT T
  · obtain ⟨T, hf, rfl⟩ := hex
    refine (read_file T hf a cap w hv hc hc2).mono ?_
    rintro e w' ⟨v, vs, rfl, ht, k⟩
    exact ⟨k, .inl ⟨T, v, vs, hf, rfl, rfl, ht⟩⟩
  · have hno : ∀ T, Fine T → l ≠ fileT T := fun T hf e => hex ⟨T, hf, e⟩
    by_cases hb : (tableF (unsealF l)).2.2.2.2 = some []
    · obtain ⟨ids, terms, c, f, rows, htab, hr, hlen, hn, hnt, hcc, hsm, hmay⟩ := accept_inv l hb
      have hmb : mayB (ids.zip (rows.map (wordsOf terms))) c = false := by
        cases e : mayB (ids.zip (rows.map (wordsOf terms))) c with
        | false => rfl
        | true => exact absurd (hmay e).2 (hno _ (hmay e).1)
      refine (read_may a cap l ids terms c f rows w hv hl hc hc2 htab hr hlen hn (by omega) (by omega) (fun r hr => by have := hsm r hr; omega) hmb).mono ?_
      rintro e w' ⟨rfl, k⟩
      exact ⟨k, .inr ⟨hno, rfl⟩⟩
    · refine (read_bad a cap l w hv hl hc hc2 hb).mono ?_
      rintro e w' ⟨rfl, k⟩
      exact ⟨k, .inr ⟨hno, rfl⟩⟩
end Go.Proofs.YtpdoacfiiledcaaGreatDoor.Pak
