import Derived.Test.YtbkepgmgebmceaaGreatDoorU32

namespace Go.Proofs.YtbkepgmgebmceaaGreatDoor.Own
open Go.RowKit Go.Proofs.YtbkepgmgebmceaaGreatDoor
open Go.Proofs.YtbkepgmgebmceaaGreatDoor.Spl
set_option linter.unusedVariables false

abbrev farC : List Value := [.int .i64 (-1000), .string ⟨#[]⟩]
theorem over_at (ws : List Value) (i f : Nat) (hf : f < 2) : (repG farC i ++ ws.drop (i * 2))[i * 2 + f]? = ws[i * 2 + f]? := by
  have hl : (repG farC i).length = i * 2 := by rw [repG_len]; rfl
  rw [List.getElem?_append_right (by omega), hl, List.getElem?_drop, show i * 2 + (i * 2 + f - i * 2) = i * 2 + f by omega]

set_option maxHeartbeats 2000000 in
set_option maxRecDepth 100000 in
theorem stillDocs_any (base g c cap n : Nat) (a : Option Addr) (D : List Pak.Dc) (w : World) (hD : Pak.DocsAt w a D) (hDb : 0 < n → ∀ b off, a = some ⟨b, off, none⟩ → b ≠ g) (hn : D.length = n) (hb : n ≤ 2000000000) (hc : n + 1 ≤ c)
    (hown : w.ownsRow base 246 2 (.slice (some ⟨g, 0, none⟩) (n + 1) c) (n + 1) (Pak.docV D ++ farC)) :
    Calls Tryz.prog 74 #[.slice (some ⟨g, 0, none⟩) n c, .slice a n cap] w fun e w' => e = .returned (.bool true) ∧ Kp [g] w w' := by
  have hl : (Pak.docV D ++ farC).length = (n + 1) * 2 := by rw [List.length_append, Pak.docV_len, hn]; simp; omega
  have hlast0 : w.cell? ⟨g, n * 2, none⟩ = some (.int .i64 (-1000)) := by
    rw [hown.cellAt (n * 2) (by omega), List.getElem?_append_right (by rw [Pak.docV_len, hn]; omega), Pak.docV_len, hn, Nat.sub_self]; rfl
  have hlast1 : w.cell? ⟨g, n * 2 + 1, none⟩ = some (.string ⟨#[]⟩) := by
    rw [hown.cellAt (n * 2 + 1) (by omega), List.getElem?_append_right (by rw [Pak.docV_len, hn]; omega), Pak.docV_len, hn, show n * 2 + 1 - n * 2 = 1 by omega]; rfl
  have HD := hide hD
  have HDb := hide hDb
  have HN := hide hn
  have HL := hide hl
  have HO : Hid (w.ownsRow base 246 2 (.slice (some ⟨g, 0, none⟩) (n + 1) c) (n + 1) (repG farC 0 ++ (Pak.docV D ++ farC).drop (0 * 2))) := by show World.ownsRow _ _ _ _ _ _ _; simpa [repG] using hown
  have hcI : (n : Int) + 1 ≤ (c : Int) := by omega
  clear hD hDb hn hl hown
  go_enter Tryz.func74, Tryz.ntmps74
  go_wp2_with fail
  clear hlast0 hlast1
  go_loopw [6, 7] (fun ov iv wr => ∃ i : Nat, i ≤ n ∧ iv = .int .i64 i ∧ ov = .bool true ∧ Hid (wr.ownsRow base 246 2 (.slice (some ⟨g, 0, none⟩) (n + 1) c) (n + 1) (repG farC i ++ (Pak.docV D ++ farC).drop (i * 2))) ∧ Hid (Kp [g] w wr)) (fun _ iv _ => n - (intOf iv).toNat)
  case atStart => exact ⟨0, by omega, rfl, rfl, HO, Pak.Kp.refl _ _⟩
  case round =>
    obtain ⟨i, hin, rfl, rfl, hown, hk⟩ := hrel
    by_cases hlt : i < n
    · have hiD : i < D.length := by rw [HN.out]; exact hlt
      obtain ⟨b, off, rfl, hbl, hcd⟩ : ∃ b off, a = some ⟨b, off, none⟩ ∧ b < w.heap.size ∧ ∀ i (h : i < D.length), w.cell? ⟨b, off + i * 2, none⟩ = some (.int .i64 D[i].1) ∧ w.cell? ⟨b, off + i * 2 + 1, none⟩ = some (.string D[i].2) := by
        rcases HD.out with h0 | ⟨b, off, e, h1, h2⟩
        · rw [h0] at hiD; simp at hiD
        · exact ⟨b, off, e, h1, h2⟩
      have hbg := HDb.out (by omega) b off rfl
      have l0 : wr.cell? ⟨b, off + i * 2, none⟩ = some (.int .i64 D[i].1) := hk.out.cellv (hcd i hiD).1 (by simpa using hbg)
      have l1 : wr.cell? ⟨b, off + i * 2 + 1, none⟩ = some (.string D[i].2) := hk.out.cellv (hcd i hiD).2 (by simpa using hbg)
      have hg0 := Pak.docV_get D i hiD
      have hdl : (Pak.docV D).length = n * 2 := by rw [Pak.docV_len, HN.out]
      have f0 : wr.cell? ⟨g, i * 2, none⟩ = some (.int .i64 D[i].1) := by
        rw [hown.out.cellAt (i * 2) (by omega)]
        have := over_at (Pak.docV D ++ farC) i 0 (by omega)
        rw [Nat.add_zero] at this
        rw [this, List.getElem?_append_left (by omega), hg0.1]
      have f1 : wr.cell? ⟨g, i * 2 + 1, none⟩ = some (.string D[i].2) := by
        rw [hown.out.cellAt (i * 2 + 1) (by omega), over_at (Pak.docV D ++ farC) i 1 (by omega), List.getElem?_append_left (by omega), hg0.2]
      have z0 : wr.frozen? ⟨g, i * 2, none⟩ = false := hown.out.frozenAt (i * 2)
      have z1 : wr.frozen? ⟨g, i * 2 + 1, none⟩ = false := hown.out.frozenAt (i * 2 + 1)
      have hst := hide (((hown.out.stored (i * 2) (.int .i64 (-1000))).1).stored (i * 2 + 1) (.string ⟨#[]⟩)).1
      have hmk := hide (mark2 (.int .i64 (-1000)) (.string ⟨#[]⟩) (n + 1) i (Pak.docV D ++ farC) HL.out (by omega))
      generalize D[i].1 = id at l0 f0
      generalize D[i].2 = bd at l1 f1
      have h1 : (i : Int) < (n : Int) := by omega
      have h1' : (i : Int) < (n : Int) + 1 := by omega
      have h0 : (0 : Int) ≤ (i : Int) := by omega
      clear hcd hg0 hdl
      go_wp2_with fail
      go_quiet (fail)
      go_wp2_with fail
      refine ⟨⟨i + 1, by omega, by go_num, rfl, ?_, ?_⟩, by simp [intOf]; omega⟩
      · show World.ownsRow _ _ _ _ _ _ _
        have := hst.out
        rw [hmk.out] at this
        exact this
      · exact ((hk.out.drewN _).setCell (p := ⟨g, i * 2, none⟩) (.inl (by simp)) _).setCell (p := ⟨g, i * 2 + 1, none⟩) (.inl (by simp)) _
    · go_wp2_with fail
      go_ret
      exact ⟨rfl, hk.out⟩
end Go.Proofs.YtbkepgmgebmceaaGreatDoor.Own

set_option linter.unusedVariables false
set_option maxRecDepth 4000
namespace Go.Proofs.YtbkepgmgebmceaaGreatDoor.Pak
open Go.RowKit Go.Proofs.YtbkepgmgebmceaaGreatDoor Go.Proofs.YtbkepgmgebmceaaGreatDoor.Spl SiftM

theorem idsOk_iff (D : List Dc) : IdsOk D ↔ (∀ x ∈ D, 0 ≤ x.1 ∧ x.1 ≤ 99999) ∧ D.Pairwise (fun x y => x.1 ≠ y.1) := by
  constructor
  · intro h
    refine ⟨fun x hx => ?_, List.pairwise_iff_getElem.2 fun i j hi hj hij => (h j hj).2.2 i hij⟩
    obtain ⟨i, hi, rfl⟩ := List.getElem_of_mem hx
    exact ⟨(h i hi).1, (h i hi).2.1⟩
  · intro h i hi
    refine ⟨(h.1 _ (List.getElem_mem hi)).1, (h.1 _ (List.getElem_mem hi)).2, fun k hk => ?_⟩
    exact List.pairwise_iff_getElem.1 h.2 k i (by omega) hi hk

theorem idsB_iff : ∀ (l : List Dc) (p : Option Int), l.Pairwise (fun x y => x.1 ≤ y.1) → (∀ q, p = some q → ∀ x ∈ l, q ≤ x.1) →
    (idsB p l = true ↔ (∀ x ∈ l, 0 ≤ x.1 ∧ x.1 ≤ 99999) ∧ l.Pairwise (fun x y => x.1 ≠ y.1) ∧ ∀ q, p = some q → ∀ x ∈ l, q ≠ x.1)
  | [], p, _, _ => by simp [idsB]
  | x :: r, p, hs, hp => by
    have hs2 := List.pairwise_cons.1 hs
    have ih := idsB_iff r (some x.1) hs2.2 (fun q hq y hy => by injection hq with hq; subst hq; exact hs2.1 y hy)
    rw [idsB]
    by_cases hb : x.1 < 0 ∨ 99999 < x.1 ∨ p = some x.1
    · rw [if_pos hb]
      constructor
      · intro h; simp at h
      · rintro ⟨h1, _, h3⟩
        exfalso
        have h0 := h1 x (by simp)
        rcases hb with hb | hb | hb
        · omega
        · omega
        · exact h3 x.1 hb x (by simp) rfl
    · rw [if_neg hb, ih]
      constructor
      · rintro ⟨h1, h2, h3⟩
        refine ⟨?_, List.pairwise_cons.2 ⟨fun y hy => h3 x.1 rfl y hy, h2⟩, ?_⟩
        · intro y hy
          rcases List.mem_cons.1 hy with rfl | hy
          · exact ⟨by omega, by omega⟩
          · exact h1 y hy
        · intro q hq y hy
          rcases List.mem_cons.1 hy with rfl | hy
          · intro e; exact hb (.inr (.inr (by rw [hq, e])))
          · have a1 := hp q hq x (by simp)
            have a2 := hs2.1 y hy
            have a3 : q ≠ x.1 := fun e => hb (.inr (.inr (by rw [hq, e])))
            omega
      · rintro ⟨h1, h2, h3⟩
        have h2' := List.pairwise_cons.1 h2
        exact ⟨fun y hy => h1 y (by simp [hy]), h2'.2, fun q hq y hy => by injection hq with hq; subst hq; exact h2'.1 y hy⟩

theorem sort_ids {D D' : List Dc} (h : SortOf D D') : idsB none D' = true ↔ IdsOk D := by
  rw [idsB_iff D' none h.2 (fun q hq => by cases hq), idsOk_iff]
  have hp : D'.Pairwise (fun x y => x.1 ≠ y.1) ↔ D.Pairwise (fun x y => x.1 ≠ y.1) := List.Perm.pairwise_iff (fun {x y} hxy => hxy.symm) h.1
  rw [hp]
  constructor
  · rintro ⟨h1, h2, _⟩
    exact ⟨fun x hx => h1 x (h.1.mem_iff.2 hx), h2⟩
  · rintro ⟨h1, h2⟩
    exact ⟨fun x hx => h1 x (h.1.mem_iff.1 hx), h2, fun q hq => by cases hq⟩

set_option maxHeartbeats 1000000 in
set_option maxRecDepth 100000 in
theorem spack_any (B : Nat) (v : Value) (D : List Dc) (N N' : List Nd) (w : World) (h : w.ownsRow B 246 2 v D.length (docV D)) (hn2 : D.length ≤ 4000000000000) (hN : IdsOk D → D = dcs N ∧ N'.Perm N ∧ Sorted N') :
    Calls Tryz.prog 73 #[v] w (PackPost D N' w) := by
  by_cases h60 : 60 < D.length
  · obtain ⟨av, cv, rfl, hav⟩ := owns_forms h
    have H60 := hide h60
    obtain ⟨n, hn⟩ : ∃ n, D.length = n := ⟨_, rfl⟩
    rw [hn] at h60 hn2 ⊢
    clear h hav hn hN
    go_enter Tryz.func73, Tryz.ntmps73
    go_wp2_with fail
    go_ret2
    exact ⟨Kp.refl _ _, .inl ⟨H60.out, rfl⟩⟩
  · have h60' : D.length ≤ 60 := by omega
    by_cases hI : IdsOk D
    · obtain ⟨rfl, hp, hs⟩ := hN hI
      have hl := dcs_len N
      have hidN : ∀ x ∈ N, x.1 ≤ 99999 := fun x hx => by
        have := ((idsOk_iff _).1 hI).1 _ (List.mem_map.2 ⟨x, hx, rfl⟩)
        simp at this; omega
      by_cases hL : ∃ d ∈ dcs N, 120 < d.2.size
      · have hby := byId_any B v (dcs N) w h (by omega)
        have hl' := hp.length_eq
        rw [hl] at h hby
        obtain ⟨av, cv, rfl, hav⟩ := owns_forms h
        have hid' : ∀ x ∈ N', x.1 ≤ 99999 := fun x hx => hidN x (hp.mem_iff.1 hx)
        have hlong : longB N' = true := by
          unfold longB
          rw [List.any_eq_true]
          obtain ⟨d, hd, hsz⟩ := hL
          obtain ⟨y, hy, rfl⟩ := List.mem_map.1 hd
          exact ⟨y, hp.mem_iff.2 hy, by simpa using hsz⟩
        have huni := fun D' hh => sort_unique N N' D' hh hp hs
        obtain ⟨n, hnE⟩ : ∃ n, N.length = n := ⟨_, rfl⟩
        rw [hl, hnE] at h60'
        rw [hnE] at hby hl' hav
        rw [hnE]
        have hgood : ∀ D', SortOf (dcs N) D' → idsB none D' = true := fun D' hh => (sort_ids hh).2 hI
        have HPost : Hid (∀ w' : World, Kp [] w w' → PackPost (dcs N) N' w (.returned (.tuple #[.slice none 0 0, .int .i64 4])) w') := fun w' hk => ⟨hk, .inr (.inr (.inl ⟨by rw [hl, hnE]; exact h60', hI, hL, rfl⟩))⟩
        have HBY := hide hby
        have HG := hide hgood
        have HLo := hide hlong
        have HU := hide huni
        have HI := hide hid'
        have Hl' := hide hl'
        clear h hby hgood hlong huni hid' hl hl' hp hs hnE hI hL hidN hN h60 hn2 hav
        go_enter Tryz.func73, Tryz.ntmps73
        go_wp2_with fail
        refine HBY.out.mono ?_
        rintro e w1 ⟨v1, D', rfl, ho1, hso, k1⟩
        have hg1 := HG.out D' hso
        have eD := HU.out D' hso
        subst eD
        obtain ⟨a1, c1, rfl, _⟩ := owns_forms ho1
        have hids := ids_any w.heap.size (.slice a1 n c1) (dcs N') w1 (by rw [dcs_len, Hl'.out]; exact ho1) (by rw [dcs_len, Hl'.out]; omega)
        rw [hg1] at hids
        have HO1 := hide ho1
        have HID := hide hids
        have hz1 := k1.size
        clear ho1 hso hids HBY HU HG hg1
        go_wp2_with fail
        refine HID.out.mono ?_
        rintro e w2 ⟨rfl, k2⟩
        have hz2 := k2.size
        have ho2 := k2.owns HO1.out (by simp)
        have htx := textsOf_any w.heap.size (.slice a1 n c1) N' w2 (by rw [dcs_len, Hl'.out]; exact ho2) (by rw [Hl'.out]; omega) HI.out
        rw [HLo.out] at htx
        have HTX := hide htx
        clear ho2 htx HID HO1
        go_wp2_with fail
        refine HTX.out.mono ?_
        rintro e w3 ⟨h3, k3⟩
        rcases h3 with ⟨_, rfl⟩ | ⟨hb, _⟩
        · have K := hide ((k1.next k2).next k3)
          clear k1 k2 k3 HTX
          go_wp2_with fail
          go_ret2
          exact HPost.out _ K.out
        · simp at hb
      · have hsz : ∀ d ∈ dcs N, d.2.size ≤ 120 := fun d hd => by
          apply Nat.le_of_not_lt
          intro hh; exact hL ⟨d, hd, hh⟩
        refine (pack_any B v N N' w h (by omega) hp hs hidN (fun x hx => hsz _ (List.mem_map.2 ⟨x, hx, rfl⟩))).mono ?_
        rintro e w' ⟨v', rfl, ho, hk⟩
        have hlen : (fileT (txs N')).length = (bodyT (txs N')).length + 4 := by unfold fileT; rw [List.length_append, sumB_len]
        obtain ⟨a', c', rfl, _⟩ := owns_forms ho
        exact ⟨hk, .inr (.inr (.inr ⟨h60', hI, hsz, a', c', _, hlen, rfl, ho⟩))⟩
    · have hby := byId_any B v D w h (by omega)
      obtain ⟨av, cv, rfl, hav⟩ := owns_forms h
      have hbad : ∀ D', SortOf D D' → idsB none D' = false := fun D' hh => by
        rw [← Bool.not_eq_true]; exact fun e => hI ((sort_ids hh).1 e)
      have hlenD : ∀ D', SortOf D D' → D'.length = D.length := fun D' hh => hh.1.length_eq
      have HPost : Hid (∀ w' : World, Kp [] w w' → PackPost D N' w (.returned (.tuple #[.slice none 0 0, .int .i64 3])) w') := fun w' hk => ⟨hk, .inr (.inl ⟨h60', hI, rfl⟩)⟩
      obtain ⟨n, hn⟩ : ∃ n, D.length = n := ⟨_, rfl⟩
      rw [hn] at h60' hby hlenD
      rw [hn]
      have HBY := hide hby
      have HBAD := hide hbad
      have HLD := hide hlenD
      clear h hby hbad hlenD hav hn hN hI h60 hn2
      go_enter Tryz.func73, Tryz.ntmps73
      go_wp2_with fail
      refine HBY.out.mono ?_
      rintro e w1 ⟨v1, D', rfl, ho1, hso, k1⟩
      have hb1 := HBAD.out D' hso
      have hl1 := HLD.out D' hso
      obtain ⟨a1, c1, rfl, _⟩ := owns_forms ho1
      have hids := ids_any w.heap.size (.slice a1 n c1) D' w1 (by rw [hl1]; exact ho1) (by rw [hl1]; omega)
      rw [hb1] at hids
      have HID := hide hids
      have K1 := hide k1
      clear ho1 hso hids HBY HBAD HLD hb1 hl1 k1
      go_wp2_with fail
      refine HID.out.mono ?_
      rintro e w2 ⟨rfl, k2⟩
      have K2 := hide (K1.out.next k2)
      clear k2 HID K1
      go_wp2_with fail
      go_ret2
      exact HPost.out _ K2.out
end Go.Proofs.YtbkepgmgebmceaaGreatDoor.Pak

set_option linter.unusedVariables false
namespace Go.Proofs.YtbkepgmgebmceaaGreatDoor.Own
open Go.RowKit Go.Proofs.YtbkepgmgebmceaaGreatDoor
open Go.Proofs.YtbkepgmgebmceaaGreatDoor.Spl Go.Proofs.YtbkepgmgebmceaaGreatDoor.Pak

/-- Docs with good ids, in the rising order of these. -/
theorem docs_sorted (D : List Dc) : ∃ N N' : List Nd, IdsOk D → D = dcs N ∧ N'.Perm N ∧ Pak.Sorted N' := by
  refine ⟨D.map fun x => (x.1.toNat, x.2), (D.map fun x => (x.1.toNat, x.2)).mergeSort (fun x y => decide (x.1 ≤ y.1)), fun h => ?_⟩
  have hi := (idsOk_iff D).1 h
  refine ⟨?_, List.mergeSort_perm _ _, ?_⟩
  · unfold dcs
    rw [List.map_map]
    conv => lhs; rw [← List.map_id D]
    apply List.map_congr_left
    intro x hx
    have := (hi.1 x hx).1
    obtain ⟨i, b⟩ := x
    simp at this ⊢
    omega
  · have hle := List.pairwise_mergeSort (le := fun x y : Nd => decide (x.1 ≤ y.1)) (fun a b c h1 h2 => by simp at *; omega) (fun a b => by simp; omega) (D.map fun x => (x.1.toNat, x.2))
    have hne : ((D.map fun x => ((x.1.toNat, x.2) : Nd)).mergeSort (fun x y => decide (x.1 ≤ y.1))).Pairwise (fun x y => x.1 ≠ y.1) := by
      refine (List.Perm.pairwise_iff (fun {x y} hxy => hxy.symm) (List.mergeSort_perm _ _)).2 ?_
      rw [List.pairwise_map]
      refine hi.2.imp_of_mem ?_
      intro x y hx hy hxy e
      have h1 := (hi.1 x hx).1
      have h2 := (hi.1 y hy).1
      simp at e
      omega
    unfold Pak.Sorted
    exact (hle.and hne).imp (fun hh => by have h1 := hh.1; have h2 := hh.2; simp at h1; omega)

/-- Two answers of Pack to the same docs are the same. -/
theorem pack_same {D : List Dc} {N' : List Nd} {w1 w2 w3 w4 : World} {e1 e2 : Ending} (h1 : PackPost D N' w1 e1 w2) (h2 : PackPost D N' w3 e2 w4) :
    (∃ er : Int, er ≠ 0 ∧ e1 = .returned (.tuple #[.slice none 0 0, .int .i64 er]) ∧ e2 = .returned (.tuple #[.slice none 0 0, .int .i64 er])) ∨
    ∃ (F : List UInt8) (a1 a2 : Option Addr) (c1 c2 : Nat), e1 = .returned (.tuple #[.slice a1 F.length c1, .int .i64 0]) ∧ e2 = .returned (.tuple #[.slice a2 F.length c2, .int .i64 0]) ∧ w2.ownsRow w1.heap.size 5 1 (.slice a1 F.length c1) F.length (byV F) ∧ w4.ownsRow w3.heap.size 5 1 (.slice a2 F.length c2) F.length (byV F) := by
  rcases h1.2 with ⟨p, rfl⟩ | ⟨p, q, rfl⟩ | ⟨p, q, r, rfl⟩ | ⟨p, q, r, a1, c1, n1, l1, rfl, o1⟩
  · rcases h2.2 with ⟨p', rfl⟩ | ⟨p', q', rfl⟩ | ⟨p', q', r', rfl⟩ | ⟨p', q', r', a2, c2, n2, l2, rfl, o2⟩
    · exact .inl ⟨5, by omega, rfl, rfl⟩
    · omega
    · omega
    · omega
  · rcases h2.2 with ⟨p', rfl⟩ | ⟨p', q', rfl⟩ | ⟨p', q', r', rfl⟩ | ⟨p', q', r', a2, c2, n2, l2, rfl, o2⟩
    · omega
    · exact .inl ⟨3, by omega, rfl, rfl⟩
    · exact absurd q' q
    · exact absurd q' q
  · rcases h2.2 with ⟨p', rfl⟩ | ⟨p', q', rfl⟩ | ⟨p', q', r', rfl⟩ | ⟨p', q', r', a2, c2, n2, l2, rfl, o2⟩
    · omega
    · exact absurd q q'
    · exact .inl ⟨4, by omega, rfl, rfl⟩
    · obtain ⟨d, hd, hs⟩ := r
      have := r' d hd; omega
  · rcases h2.2 with ⟨p', rfl⟩ | ⟨p', q', rfl⟩ | ⟨p', q', r', rfl⟩ | ⟨p', q', r', a2, c2, n2, l2, rfl, o2⟩
    · omega
    · exact absurd q q'
    · obtain ⟨d, hd, hs⟩ := r'
      have := r d hd; omega
    · subst l1 l2
      exact .inr ⟨_, a1, a2, c1, c2, rfl, rfl, o1, o2⟩
end Go.Proofs.YtbkepgmgebmceaaGreatDoor.Own
