import Derived.Test.YtpdoacfiiledcaaPaN
set_option linter.unusedVariables false
set_option maxRecDepth 4000
namespace Go.Proofs.Ytpdoacfiiledcaa.Pak
open Go.RowKit Go.Proofs.Ytpdoacfiiledcaa SiftM

theorem rs_of_pw : ∀ (xs : List Nat) (least : Nat), xs.Pairwise (· < ·) → (∀ x ∈ xs, least ≤ x) → Rs least xs
  | [], _, _, _ => trivial
  | x :: r, least, h, hl => ⟨hl x (by simp), rs_of_pw r (x + 1) (List.pairwise_cons.1 h).2 (fun y hy => (List.pairwise_cons.1 h).1 y hy)⟩

theorem ids_good : ∀ (D : List Dc) (p : Option Int), (∀ x ∈ D, 0 ≤ x.1 ∧ x.1 ≤ 99999) → D.Pairwise (fun x y => x.1 < y.1) → (∀ x ∈ D, p ≠ some x.1) → idsB p D = true
  | [], p, _, _, _ => rfl
  | x :: r, p, h, hp, hne => by
    have h1 := h x (by simp)
    have h2 := hne x (by simp)
    rw [idsB, if_neg (by
      rintro (h' | h' | h')
      · omega
      · omega
      · exact h2 h')]
    refine ids_good r (some x.1) (fun y hy => h y (by simp [hy])) (List.pairwise_cons.1 hp).2 ?_
    intro y hy e
    have := (List.pairwise_cons.1 hp).1 y hy
    have := Option.some.inj e
    omega

def Sorted (N : List Nd) : Prop := N.Pairwise fun x y => x.1 < y.1

theorem pw_inj {α : Type} (f : α → Int) (l : List α) (h : l.Pairwise fun x y => f x < f y) : ∀ a ∈ l, ∀ b ∈ l, f a = f b → a = b := by
  intro a ha b hb e
  obtain ⟨i, hi, rfl⟩ := List.getElem_of_mem ha
  obtain ⟨j, hj, rfl⟩ := List.getElem_of_mem hb
  have hp := List.pairwise_iff_getElem.1 h
  by_cases h1 : i < j
  · have := hp i j hi hj h1; omega
  · by_cases h2 : j < i
    · have := hp j i hj hi h2; omega
    · have : i = j := by omega
      subst this; rfl

theorem dcs_sorted (N : List Nd) (h : Sorted N) : (dcs N).Pairwise fun x y => x.1 < y.1 := by
  unfold dcs
  rw [List.pairwise_map]
  exact h.imp (fun hh => by simpa using hh)

theorem sort_unique (N N' : List Nd) (D' : List Dc) (hs : SortOf (dcs N) D') (hp : N'.Perm N) (hsort : Sorted N') : D' = dcs N' := by
  have hpd : D'.Perm (dcs N') := hs.1.trans (by unfold dcs; exact (hp.map _).symm)
  have hlt := dcs_sorted N' hsort
  refine List.Perm.eq_of_pairwise (le := fun x y : Dc => x.1 ≤ y.1) ?_ hs.2 (hlt.imp (fun hh => by omega)) hpd
  intro a b ha hb h1 h2
  exact pw_inj (fun x : Dc => x.1) (dcs N') hlt a (hpd.mem_iff.1 ha) b hb (by omega)

theorem txs_fst (N : List Nd) : (txs N).map Prod.fst = N.map Prod.fst := by simp [txs]

theorem fine_txs (N : List Nd) (hsort : Sorted N) (hn : N.length ≤ 60) (hid : ∀ x ∈ N, x.1 ≤ 99999) (hsz : ∀ x ∈ N, x.2.size ≤ 120) : Fine (txs N) where
  len := by simpa [txs] using hn
  rise := by
    rw [txs_fst]
    refine rs_of_pw _ 0 ?_ (fun _ _ => Nat.zero_le _)
    rw [List.pairwise_map]
    exact hsort
  ids := by
    intro t ht
    obtain ⟨x, hx, rfl⟩ := List.mem_map.1 ht
    exact hid x hx
  few := by
    intro t ht
    obtain ⟨x, hx, rfl⟩ := List.mem_map.1 ht
    exact (sp_few x.2 (hsz x hx)).1
  short := by
    intro t ht
    obtain ⟨x, hx, rfl⟩ := List.mem_map.1 ht
    exact ⟨(sp_few x.2 (hsz x hx)).2.1, (sp_few x.2 (hsz x hx)).2.2.1⟩
  word := by
    intro t ht
    obtain ⟨x, hx, rfl⟩ := List.mem_map.1 ht
    exact (sp_few x.2 (hsz x hx)).2.2.2

theorem dcs_len (N : List Nd) : (dcs N).length = N.length := by simp [dcs]

set_option maxHeartbeats 400000 in
theorem pack_any (B : Nat) (v : Value) (N N' : List Nd) (w : World) (h : w.ownsRow B 43 2 v (dcs N).length (docV (dcs N))) (hn : N.length ≤ 60) (hp : N'.Perm N) (hsort : Sorted N') (hid : ∀ x ∈ N, x.1 ≤ 99999) (hsz : ∀ x ∈ N, x.2.size ≤ 120) :
    Calls Try.prog 9 #[v] w fun e w' => ∃ v', e = .returned (.tuple #[v', .int .i64 0]) ∧ w'.ownsRow w.heap.size 5 1 v' ((bodyT (txs N')).length + 4) (byV (fileT (txs N'))) ∧ Kp [] w w' := by
  have hl := dcs_len N
  have hl' := hp.length_eq
  have hby := byId_any B v (dcs N) w h (by omega)
  rw [hl] at h hby
  obtain ⟨av, cv, rfl, hav⟩ := owns_forms h
  have hid' : ∀ x ∈ N', x.1 ≤ 99999 := fun x hx => hid x (hp.mem_iff.1 hx)
  have hsz' : ∀ x ∈ N', x.2.size ≤ 120 := fun x hx => hsz x (hp.mem_iff.1 hx)
  have hfine := fine_txs N' hsort (by omega) hid' hsz'
  have hgood : idsB none (dcs N') = true := ids_good (dcs N') none (by
    intro x hx
    obtain ⟨y, hy, rfl⟩ := List.mem_map.1 hx
    have := hid' y hy
    simp; omega) (dcs_sorted N' hsort) (by simp)
  have hlong : longB N' = false := by
    unfold longB
    rw [List.any_eq_false]
    intro x hx
    have := hsz' x hx
    simp; omega
  have huni := fun D' hs => sort_unique N N' D' hs hp hsort
  obtain ⟨n, hnE⟩ : ∃ n, N.length = n := ⟨_, rfl⟩
  rw [hnE] at hby hn hl' hav
  rw [hnE]
  have HBY := hide hby
  have HF := hide hfine
  have HG := hide hgood
  have HLo := hide hlong
  have HU := hide huni
  have HI := hide hid'
  have Hl' := hide hl'
  clear h hby hfine hgood hlong huni hid hsz hid' hsz' hl hl' hp hsort hnE
  go_enter Try.func9, Try.ntmps9
  go_wp2_with fail
  refine HBY.out.mono ?_
  rintro e w1 ⟨v1, D', rfl, ho1, hso, k1⟩
  have eD := HU.out D' hso
  subst eD
  obtain ⟨a1, c1, rfl, _⟩ := owns_forms ho1
  have hids := ids_any w.heap.size (.slice a1 n c1) (dcs N') w1 (by rw [dcs_len, Hl'.out]; exact ho1) (by rw [dcs_len, Hl'.out]; omega)
  rw [HG.out] at hids
  have HO1 := hide ho1
  have HID := hide hids
  have hz1 := k1.size
  clear ho1 hso hids HBY HU
  go_wp2_with fail
  refine HID.out.mono ?_
  rintro e w2 ⟨rfl, k2⟩
  have hz2 := k2.size
  have ho2 := k2.owns HO1.out (by simp)
  have htx := textsOf_any w.heap.size (.slice a1 n c1) N' w2 (by rw [dcs_len, Hl'.out]; exact ho2) (by rw [Hl'.out]; omega) HI.out
  rw [HLo.out] at htx
  have HTX := hide htx
  clear ho2 htx HID HO1
  go_wp2_with fail
  refine HTX.out.mono ?_
  rintro e w3 ⟨h3, k3⟩
  have hz3 := k3.size
  rcases h3 with ⟨hb, _⟩ | ⟨_, v3, vs, rfl, ht3⟩
  · simp at hb
  obtain ⟨a3, c3, rfl, _⟩ := owns_forms ht3.row
  have hwr := write_any w2.heap.size _ (txs N') vs w3 ht3 HF.out
  have HWR := hide hwr
  clear ht3 hwr HTX
  go_wp2_with fail
  refine HWR.out.mono ?_
  rintro e w4 ⟨v4, rfl, ho4, k4⟩
  obtain ⟨a4, c4, rfl, _⟩ := owns_forms ho4
  have HO4 := hide (owns_low ho4 (show w.heap.size ≤ w3.heap.size by omega))
  have k04 : Kp [] w w4 := ((k1.next k2).next k3).next k4
  clear ho4 HWR k1 k2 k3 k4
  go_wp2_with fail
  go_ret2
  exact ⟨_, rfl, HO4.out, k04⟩
end Go.Proofs.Ytpdoacfiiledcaa.Pak
