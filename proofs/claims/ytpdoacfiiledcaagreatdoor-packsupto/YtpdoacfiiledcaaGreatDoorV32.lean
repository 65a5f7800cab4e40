import Derived.Test.YtpdoacfiiledcaaGreatDoorV31
import Derived.Test.YtpdoacfiiledcaaGreatDoorV06
import Derived.Test.YtpdoacfiiledcaaGreatDoorV28

set_option linter.unusedVariables false
set_option maxRecDepth 4000
namespace Go.Proofs.YtpdoacfiiledcaaGreatDoor.Pak
open Go.RowKit Go.Proofs.YtpdoacfiiledcaaGreatDoor Go.Proofs.YtpdoacfiiledcaaGreatDoor.Spl SiftM

/-- Docs that lie somewhere. -/
def DocsAt (w : World) (a : Option Addr) (D : List Dc) : Prop := D = [] ∨ ∃ b off, a = some ⟨b, off, none⟩ ∧ b < w.heap.size ∧ ∀ i (h : i < D.length), w.cell? ⟨b, off + i * 2, none⟩ = some (.int .i64 D[i].1) ∧ w.cell? ⟨b, off + i * 2 + 1, none⟩ = some (.string D[i].2)
theorem DocsAt.kp {w w' : World} {a : Option Addr} {D : List Dc} (h : DocsAt w a D) (k : Kp [] w w') : DocsAt w' a D := by
  rcases h with h | ⟨b, off, e, h0, h1⟩
  · exact .inl h
  · exact .inr ⟨b, off, e, Nat.lt_of_lt_of_le h0 k.size, fun i hi => ⟨k.cellv (h1 i hi).1 (by simp), k.cellv (h1 i hi).2 (by simp)⟩⟩
def IdOk (D : List Dc) (i : Nat) : Prop := ∀ h : i < D.length, 0 ≤ D[i].1 ∧ D[i].1 ≤ 99999 ∧ ∀ k (hk : k < i), D[k].1 ≠ D[i].1
def IdsOk (D : List Dc) : Prop := ∀ i, IdOk D i
/-- What the document's Pack answers. -/
def PackPost (D : List Dc) (N' : List Nd) (w : World) (e : Ending) (w' : World) : Prop :=
  Kp [] w w' ∧ (60 < D.length ∧ e = .returned (.tuple #[.slice none 0 0, .int .i64 5]) ∨
    D.length ≤ 60 ∧ ¬ IdsOk D ∧ e = .returned (.tuple #[.slice none 0 0, .int .i64 3]) ∨
    D.length ≤ 60 ∧ IdsOk D ∧ (∃ d ∈ D, 120 < d.2.size) ∧ e = .returned (.tuple #[.slice none 0 0, .int .i64 4]) ∨
    D.length ≤ 60 ∧ IdsOk D ∧ (∀ d ∈ D, d.2.size ≤ 120) ∧ ∃ (a : Option Addr) (c n : Nat), (fileT (txs N')).length = n ∧ e = .returned (.tuple #[.slice a n c, .int .i64 0]) ∧ w'.ownsRow w.heap.size 5 1 (.slice a n c) n (byV (fileT (txs N'))))

theorem DocsIs.snoc {w w' : World} {base id : Nat} {v v' lv : Value} {T : List Tx} {vs : List Value} {ws : List (List UInt8)} (h : DocsIs w base v T vs) (hl : w.ownsRow base 9 1 lv ws.length (strV ws))
    (hrow : w'.ownsRow base 266 3 v' (T.length + 1) (tx3 ((T.map Prod.fst).zip vs) ++ [.int .i64 (id : Int), lv, .bool false])) (k : Kp v.ownBlock.toList w w') : DocsIs w' base v' (T ++ [(id, ws)]) (vs ++ [lv]) := by
  have hne : ∀ {n : Nat} {u : Value} {xs : List Value}, w.ownsRow base 9 1 u n xs → ∀ g, u.ownBlock = some g → g ∉ v.ownBlock.toList := by
    intro n u xs ho g hg hx
    exact owns_disj h.row ho (by decide) g (by simpa using hx) hg
  refine ⟨by simp [h.len], ?_, ?_⟩
  · have e1 : (T ++ [(id, ws)]).length = T.length + 1 := by simp
    have e2 : ((T ++ [(id, ws)]).map Prod.fst).zip (vs ++ [lv]) = (T.map Prod.fst).zip vs ++ [(id, lv)] := by
      rw [List.map_append, List.zip_append (by simp [h.len])]; rfl
    rw [e1, e2, tx3_append]
    have e3 : tx3 [(id, lv)] = [.int .i64 (id : Int), lv, .bool false] := by simp [tx3]
    rw [e3]; exact hrow
  · intro i hi h2
    by_cases e : i < T.length
    · have hiv : i < vs.length := by rw [h.len]; exact e
      rw [List.getElem_append_left hiv]
      have ho := h.each i e hiv
      simp only [List.getElem_append_left e]
      exact k.owns ho (hne ho)
    · have ei : i = T.length := by simp at hi; omega
      subst ei
      have e2 : (vs ++ [lv])[T.length] = lv := by rw [List.getElem_append_right (by rw [h.len]; omega)]; simp [h.len]
      rw [e2]
      simp only [List.getElem_append_right (Nat.le_refl _), Nat.sub_self, List.getElem_cons_zero]
      exact k.owns hl (hne hl)

set_option maxHeartbeats 1000000 in
set_option maxRecDepth 100000 in
theorem rpack_any (a : Option Addr) (cap n : Nat) (D : List Dc) (N N' : List Nd) (w : World) (h : DocsAt w a D) (hn : D.length = n) (hn2 : n ≤ 4000000000000) (hN : IdsOk D → D = dcs N ∧ N'.Perm N ∧ Sorted N') :
    Calls Tryz.prog 80 #[.slice a n cap] w (PackPost D N' w) := by
  obtain ⟨i0, hi0, hz0, hz1, hz2⟩ := info_parts info148
  have HD := hide h
  have Hn := hide hn
  have HN := hide hN
  clear h hn hN
  go_enter Tryz.func80, Tryz.ntmps80
  by_cases h60 : 60 < n
  · go_wp2_with fail
    go_ret2
    exact ⟨Kp.refl _ _, .inl ⟨by rw [Hn.out]; exact h60, rfl⟩⟩
  have h60I : ¬ ((n : Int) > 60) := by omega
  go_wp2_with fail
  go_loopw [4] (fun iv wr => ∃ i : Nat, i ≤ n ∧ iv = .int .i64 i ∧ (∀ j, j < i → IdOk D j) ∧ Kp [] w wr) (fun iv _ => n - (intOf iv).toNat)
  case atStart => exact ⟨0, by omega, rfl, fun j hj => absurd hj (by omega), Kp.refl _ _⟩
  case round =>
    obtain ⟨i, hi, rfl, hok, hkp⟩ := hrel
    have HOK := hide hok
    clear hok
    by_cases hlt : i < n
    · have hiD : i < D.length := by rw [Hn.out]; exact hlt
      obtain ⟨b, off, rfl, hb, hc⟩ : ∃ b off, a = some ⟨b, off, none⟩ ∧ b < wr.heap.size ∧ ∀ i (h : i < D.length), wr.cell? ⟨b, off + i * 2, none⟩ = some (.int .i64 D[i].1) ∧ wr.cell? ⟨b, off + i * 2 + 1, none⟩ = some (.string D[i].2) := by
        rcases HD.out.kp hkp with e | e
        · rw [e] at hiD; simp at hiD
        · exact e
      have q0 := (hc i hiD).1
      by_cases hbad : D[i].1 < 0 ∨ 99999 < D[i].1
      · have hno : ¬ IdsOk D := by
          intro hk
          have := hk i hiD
          omega
        obtain ⟨x, hx⟩ : ∃ x, D[i].1 = x := ⟨_, rfl⟩
        rw [hx] at q0 hbad
        have HNO := hide hno
        clear hc hno hx
        by_cases hx0 : x < 0
        · go_wp2_with fail
          go_ret2
          exact ⟨hkp, .inr (.inl ⟨by rw [Hn.out]; omega, HNO.out, rfl⟩)⟩
        · have hx9 : 99999 < x := by omega
          go_wp2_with fail
          go_ret2
          exact ⟨hkp, .inr (.inl ⟨by rw [Hn.out]; omega, HNO.out, rfl⟩)⟩
      · have hx0 : ¬ D[i].1 < 0 := fun h => hbad (.inl h)
        have hx9 : ¬ 99999 < D[i].1 := fun h => hbad (.inr h)
        obtain ⟨x, hx⟩ : ∃ x, D[i].1 = x := ⟨_, rfl⟩
        rw [hx] at q0 hx0 hx9
        have HC := hide hc
        have Hx := hide hx
        clear hc hx hbad
        go_wp2_with fail
        go_loopw [5] (fun kv w2 => ∃ k : Nat, k ≤ i ∧ kv = .int .i64 k ∧ (∀ j (hj : j < D.length), j < k → D[j].1 ≠ x) ∧ Kp [] w w2) (fun kv _ => i - (intOf kv).toNat)
        case atStart => exact ⟨0, by omega, rfl, fun j _ hj => absurd hj (by omega), hkp⟩
        case round =>
          obtain ⟨k, hk, rfl, hne, hkp2⟩ := hrel
          have HNE := hide hne
          clear hne
          by_cases hlt2 : k < i
          · have hkD : k < D.length := by omega
            obtain ⟨hb2, hc2⟩ : b < wr.heap.size ∧ ∀ i (h : i < D.length), wr.cell? ⟨b, off + i * 2, none⟩ = some (.int .i64 D[i].1) ∧ wr.cell? ⟨b, off + i * 2 + 1, none⟩ = some (.string D[i].2) := by
              rcases HD.out.kp hkp2 with e | ⟨b', off', e, e1, e2⟩
              · rw [e] at hiD; simp at hiD
              · simp at e
                obtain ⟨rfl, rfl⟩ := e
                exact ⟨e1, e2⟩
            have r0 := (hc2 i hiD).1
            have r1 := (hc2 k hkD).1
            rw [Hx.out] at r0
            have hnx := HNE.out
            by_cases hyx : D[k].1 = x
            · have hno : ¬ IdsOk D := by
                intro hk'
                have := (hk' i hiD).2.2 k hlt2
                rw [Hx.out] at this
                exact this hyx
              rw [hyx] at r1
              have HNO := hide hno
              clear hno hc2 hnx
              go_wp2_with fail
              go_region
              go_wp2_with fail
              go_ret2
              exact ⟨hkp2.drewN 1, .inr (.inl ⟨by rw [Hn.out]; omega, HNO.out, rfl⟩)⟩
            · have hnx2 : ∀ j (hj : j < D.length), j < k + 1 → D[j].1 ≠ x := by
                intro j hj hjk
                by_cases e : j = k
                · subst e; exact hyx
                · exact hnx j hj (by omega)
              obtain ⟨y, hy⟩ : ∃ y, D[k].1 = y := ⟨_, rfl⟩
              rw [hy] at r1 hyx
              have hyb : (y == x) = false := by simpa using hyx
              have HNX := hide hnx2
              clear hnx hnx2 hc2 hy
              go_wp2_with fail
              go_region
              go_wp2_with fail
              go_roundw
              case rel => exact ⟨k + 1, by omega, by go_num, HNX.out, hkp2.drewN 1⟩
              case measure => simp [intOf]; omega
          · have ek : i = k := by omega
            subst ek
            have hid : ∀ j, j < i + 1 → IdOk D j := by
              intro j hj
              by_cases e : j = i
              · subst e
                intro hjD
                rw [Hx.out]
                refine ⟨by omega, by omega, fun k' hk' => ?_⟩
                exact HNE.out k' (by omega) hk'
              · exact HOK.out j (by omega)
            have HID := hide hid
            clear hid q0
            go_wp2_with fail
            go_roundw
            case rel => exact ⟨i + 1, by omega, by go_num, HID.out, hkp2⟩
            case measure => simp [intOf]; omega
    · have ei : n = i := by omega
      subst ei
      have hall : IdsOk D := by
        intro j hj
        exact HOK.out j (by rw [← Hn.out]; exact hj) hj
      obtain ⟨hDN, hpe, hso⟩ := HN.out hall
      have HAL := hide hall
      have HPE := hide hpe
      have HSO := hide hso
      have HDN := hide hDN
      clear hall hpe hso hDN HN HOK
      go_wp2_with fail
      have hNl : N.length = n := by have := congrArg List.length HDN.out; rw [dcs_len] at this; rw [← this]; exact Hn.out
      have HNL := hide hNl
      clear hNl
      go_loopw [6, 7] (fun lv iv wr => ∃ (k : Nat) (al : Option Addr) (cl : Nat) (ls : List Value), k ≤ n ∧ iv = .int .i64 k ∧ lv = .slice al k cl ∧ DocsIs wr w.heap.size (.slice al k cl) (txs (N.take k)) ls ∧ (∀ x ∈ N.take k, x.2.size ≤ 120) ∧ Kp [] w wr) (fun _ iv _ => n - (intOf iv).toNat)
      case atStart => exact ⟨0, none, 0, [], by omega, rfl, rfl, DocsIs.nil _ _, by simp, hkp⟩
      case round =>
        obtain ⟨k, al, cl, ls, hk, rfl, rfl, hl, hsz, hkp2⟩ := hrel
        have hlen2 : (txs (N.take k)).length = k := by have := HNL.out; simp [txs]; omega
        by_cases hlt2 : k < n
        · have hkN : k < N.length := by rw [HNL.out]; exact hlt2
          have hkD : k < D.length := by rw [Hn.out]; exact hlt2
          obtain ⟨b, off, rfl, hb, hc⟩ : ∃ b off, a = some ⟨b, off, none⟩ ∧ b < wr.heap.size ∧ ∀ i (h : i < D.length), wr.cell? ⟨b, off + i * 2, none⟩ = some (.int .i64 D[i].1) ∧ wr.cell? ⟨b, off + i * 2 + 1, none⟩ = some (.string D[i].2) := by
            rcases HD.out.kp hkp2 with e | e
            · rw [e] at hkD; simp at hkD
            · exact e
          obtain ⟨q0, q1⟩ := hc k hkD
          have hgd : D[k] = ((N[k].1 : Int), N[k].2) := by
            have := HDN.out
            subst this
            simp [dcs]
          rw [hgd] at q0 q1
          simp only at q0 q1
          have hsn := take_snocL N k hkN
          have hmemD : ((N[k].1 : Int), N[k].2) ∈ D := by rw [← hgd]; exact List.getElem_mem hkD
          obtain ⟨x, hx⟩ : ∃ x, N[k] = x := ⟨_, rfl⟩
          rw [hx] at q0 q1 hsn hmemD
          obtain ⟨id, bd⟩ := x
          simp only at q0 q1 hmemD
          have HSN := hide hsn
          have HMD := hide hmemD
          have HL := hide hl
          have HSZ := hide hsz
          have Hl2 := hide hlen2
          clear hsn hmemD hl hsz hlen2 hc hgd hx
          by_cases hlong : 120 < bd.size
          · go_wp2_with fail
            go_ret2
            exact ⟨hkp2, .inr (.inr (.inl ⟨by rw [Hn.out]; omega, HAL.out, ⟨_, HMD.out, hlong⟩, rfl⟩))⟩
          · have hspl := refSplit_any bd wr (by omega)
            have HSP := hide hspl
            have hlongI : ¬ ((bd.size : Int) > 120) := by omega
            clear hspl
            go_wp2_with fail
            refine HSP.out.mono ?_
            rintro e w3 ⟨lv, rfl, hlo, hbel⟩
            obtain ⟨aw, cw, rfl, _⟩ := owns_forms hlo
            have k3 : Kp [] wr w3 := Kp.of_below [] hbel
            have hz3 := k3.size
            have hz2' := hkp2.size
            have r0 := k3.cellv q0 (by simp)
            have HL3 := hide (HL.out.kp0 k3)
            have HLO := hide (owns_low hlo hz2')
            have kp3 := hkp2.next k3
            have hro := HL3.out.row
            rw [Hl2.out] at hro
            have HRO := hide hro
            have hb3 : b < w3.heap.size := by omega
            obtain ⟨wl, hwl⟩ : ∃ wl, (sp bd.size bd.data.toList).length = wl := ⟨_, rfl⟩
            rw [hwl] at HLO
            rw [hwl]
            have Hwl := hide hwl
            clear hlo hro HL hbel k3 HSP q0 q1 hwl
            go_wp2_with (first
              | (at_builtin; refine wpList_append_own_at _ rfl _ _ 180 rfl w.heap.size 266 i0 (.agg #[.int .i64 0, .slice none 0 0, .bool false]) 3 40 Tryz.underlying180 hi0 hz0 hz1 hz2 rfl (by decide) _ _ _ rfl (HRO.out.alloc _) ⟨w3.heap.size, 0, none⟩ 1 1 [.int .i64 (id : Int), .slice aw wl cw, .bool false] rfl rfl (World.news_of_block (cs := #[.int .i64 (id : Int), .slice aw wl cw, .bool false]) (t := 266) (fr := (0, 0)) (heap_alloc_new _ _)) ?c2 ?c3 ?c4 ?c5 ?_)
              | fail)
            case c2 => intro u hu; simp at hu; rcases hu with rfl | rfl | rfl <;> rfl
            case c3 => unfold maxLen; omega
            case c4 => omega
            case c5 => simp; omega
            intro v4 w4 hown4 hgrow _ _
            obtain ⟨a4, c4, rfl, _⟩ := owns_forms hown4
            have k4 : Kp (Value.slice al k cl).ownBlock.toList w3 w4 := ((Kp.refl _ _).alloc _).grown hgrow (fun j hj => .inl (by simp [hj]))
            have kf : Kp [] w w4 := kp3.trans k4 (fun y hy => .inr (HRO.out.lt y (by simpa using hy)).1)
            have hlo2 : w3.ownsRow w.heap.size 9 1 (.slice aw wl cw) (wordsB bd).length (strV (wordsB bd)) := by
              have e : (wordsB bd).length = wl := Hwl.out
              rw [e]; exact HLO.out
            have hsn4 := HL3.out.snoc (id := id) (v' := .slice a4 (k + 1) c4) hlo2 (by rw [Hl2.out]; exact hown4) k4
            have HS4 := hide hsn4
            clear hown4 hgrow k4 hsn4 hlo2 HL3 HLO HRO r0
            go_wp2_with fail
            go_roundw
            case rel =>
              refine ⟨k + 1, a4, c4, ls ++ [.slice aw wl cw], by omega, by go_num, rfl, ?_, ?_, kf⟩
              · rw [HSN.out]
                have e : txs (N.take k ++ [(id, bd)]) = txs (N.take k) ++ [(id, wordsB bd)] := by simp [txs]
                rw [e]; exact HS4.out
              · rw [HSN.out]
                intro x hx
                rcases List.mem_append.1 hx with hx | hx
                · exact HSZ.out x hx
                · simp at hx; subst hx; simp only; omega
            case measure => simp [intOf]; omega
        · have ek : n = k := by omega
          subst ek
          rw [show N.take n = N by rw [← HNL.out, List.take_length]] at hl hsz hlen2
          have hid : ∀ x ∈ N, x.1 ≤ 99999 := by
            intro x hx
            obtain ⟨j, hj, rfl⟩ := List.getElem_of_mem hx
            have hjD : j < D.length := by rw [Hn.out, ← HNL.out]; exact hj
            have h1 := (HAL.out j hjD).2.1
            have hgd : D[j] = ((N[j].1 : Int), N[j].2) := by
              have := HDN.out
              subst this
              simp [dcs]
            rw [hgd] at h1
            simp only at h1
            omega
          have hfine := fine_txs N' HSO.out (by rw [HPE.out.length_eq, HNL.out]; omega) (fun x hx => hid x (HPE.out.mem_iff.1 hx)) (fun x hx => hsz x (HPE.out.mem_iff.1 hx))
          have hsT : SortT (txs N') := by
            unfold SortT txs
            rw [List.pairwise_map]
            exact HSO.out
          have hpT : (txs N').Perm (txs N) := by unfold txs; exact HPE.out.map _
          have HSR := hide (rsorted_any w.heap.size n _ (txs N) (txs N') ls wr hl hlen2 (by omega) hkp2.size hpT hsT)
          have hsD : ∀ d ∈ D, d.2.size ≤ 120 := by
            intro d hd
            rw [HDN.out] at hd
            obtain ⟨x, hx, rfl⟩ := List.mem_map.1 hd
            exact hsz x hx
          have HSD := hide hsD
          have HFI := hide hfine
          clear hl hsz hlen2 hid hfine hsT hpT hsD
          go_wp2_with fail
          refine HSR.out.mono ?_
          rintro e w3 ⟨v3, vs3, rfl, hd3, k3⟩
          have hz3 := k3.size
          have hz2' := hkp2.size
          obtain ⟨a3, c3, rfl, _⟩ := owns_forms hd3.row
          have HFL := hide (rfile_any w.heap.size _ (txs N') vs3 w3 hd3 HFI.out)
          clear hd3 HSR
          go_wp2_with fail
          refine HFL.out.mono ?_
          rintro e w4 ⟨a4, c4, n4, hn4, rfl, ho4, k4⟩
          have HO4 := hide (owns_low ho4 (show w.heap.size ≤ w3.heap.size by omega))
          have Hn4 := hide hn4
          have kf : Kp [] w w4 := (hkp2.next k3).next k4
          clear hn4 ho4 HFL k3 k4
          go_wp2_with fail
          go_ret2
          exact ⟨kf, .inr (.inr (.inr ⟨by rw [Hn.out]; omega, HAL.out, HSD.out, a4, c4, n4, Hn4.out, rfl, HO4.out⟩))⟩
end Go.Proofs.YtpdoacfiiledcaaGreatDoor.Pak

set_option linter.unusedVariables false
set_option maxRecDepth 4000
namespace Go.Proofs.YtpdoacfiiledcaaGreatDoor.Pak
open Go.RowKit Go.Proofs.YtpdoacfiiledcaaGreatDoor Go.Proofs.YtpdoacfiiledcaaGreatDoor.Spl SiftM

theorem idsOk_iff (D : List Dc) : IdsOk D ↔ (∀ x ∈ D, 0 ≤ x.1 ∧ x.1 ≤ 99999) ∧ D.Pairwise (fun x y => x.1 ≠ y.1) := by
  constructor
  · intro h
    refine ⟨fun x hx => ?_, List.pairwise_iff_getElem.2 fun i j hi hj hij => (h j hj).2.2 i hij⟩
    obtain ⟨i, hi, rfl⟩ := List.getElem_of_mem hx
    exact ⟨(h i hi).1, (h i hi).2.1⟩
  · intro h i hi
    refine ⟨(h.1 _ (List.getElem_mem hi)).1, (h.1 _ (List.getElem_mem hi)).2, fun k hk => ?_⟩
    exact List.pairwise_iff_getElem.1 h.2 k i (by omega) hi hk

theorem idsB_iff : ∀ (l : List Dc) (p : Option Int), l.Pairwise (fun x y => x.1 ≤ y.1) → (∀ q, p = some q → ∀ x ∈ l, q ≤ x.1) →
    (idsB p l = true ↔ (∀ x ∈ l, 0 ≤ x.1 ∧ x.1 ≤ 99999) ∧ l.Pairwise (fun x y => x.1 ≠ y.1) ∧ ∀ q, p = some q → ∀ x ∈ l, q ≠ x.1)
  | [], p, _, _ => by simp [idsB]
  | x :: r, p, hs, hp => by
    have hs2 := List.pairwise_cons.1 hs
    have ih := idsB_iff r (some x.1) hs2.2 (fun q hq y hy => by injection hq with hq; subst hq; exact hs2.1 y hy)
    rw [idsB]
    by_cases hb : x.1 < 0 ∨ 99999 < x.1 ∨ p = some x.1
    · rw [if_pos hb]
      constructor
      · intro h; simp at h
      · rintro ⟨h1, _, h3⟩
        exfalso
        have h0 := h1 x (by simp)
        rcases hb with hb | hb | hb
        · omega
        · omega
        · exact h3 x.1 hb x (by simp) rfl
    · rw [if_neg hb, ih]
      constructor
      · rintro ⟨h1, h2, h3⟩
        refine ⟨?_, List.pairwise_cons.2 ⟨fun y hy => h3 x.1 rfl y hy, h2⟩, ?_⟩
        · intro y hy
          rcases List.mem_cons.1 hy with rfl | hy
          · exact ⟨by omega, by omega⟩
          · exact h1 y hy
        · intro q hq y hy
          rcases List.mem_cons.1 hy with rfl | hy
          · intro e; exact hb (.inr (.inr (by rw [hq, e])))
          · have a1 := hp q hq x (by simp)
            have a2 := hs2.1 y hy
            have a3 : q ≠ x.1 := fun e => hb (.inr (.inr (by rw [hq, e])))
            omega
      · rintro ⟨h1, h2, h3⟩
        have h2' := List.pairwise_cons.1 h2
        exact ⟨fun y hy => h1 y (by simp [hy]), h2'.2, fun q hq y hy => by injection hq with hq; subst hq; exact h2'.1 y hy⟩

theorem sort_ids {D D' : List Dc} (h : SortOf D D') : idsB none D' = true ↔ IdsOk D := by
  rw [idsB_iff D' none h.2 (fun q hq => by cases hq), idsOk_iff]
  have hp : D'.Pairwise (fun x y => x.1 ≠ y.1) ↔ D.Pairwise (fun x y => x.1 ≠ y.1) := List.Perm.pairwise_iff (fun {x y} hxy => hxy.symm) h.1
  rw [hp]
  constructor
  · rintro ⟨h1, h2, _⟩
    exact ⟨fun x hx => h1 x (h.1.mem_iff.2 hx), h2⟩
  · rintro ⟨h1, h2⟩
    exact ⟨fun x hx => h1 x (h.1.mem_iff.1 hx), h2, fun q hq => by cases hq⟩

set_option maxHeartbeats 1000000 in
set_option maxRecDepth 100000 in
theorem spack_any (B : Nat) (v : Value) (D : List Dc) (N N' : List Nd) (w : World) (h : w.ownsRow B 261 2 v D.length (docV D)) (hn2 : D.length ≤ 4000000000000) (hN : IdsOk D → D = dcs N ∧ N'.Perm N ∧ Sorted N') :
    Calls Tryz.prog 78 #[v] w (PackPost D N' w) := by
  by_cases h60 : 60 < D.length
  · obtain ⟨av, cv, rfl, hav⟩ := owns_forms h
    have H60 := hide h60
    obtain ⟨n, hn⟩ : ∃ n, D.length = n := ⟨_, rfl⟩
    rw [hn] at h60 hn2 ⊢
    clear h hav hn hN
    go_enter Tryz.func78, Tryz.ntmps78
    go_wp2_with fail
    go_ret2
    exact ⟨Kp.refl _ _, .inl ⟨H60.out, rfl⟩⟩
  · have h60' : D.length ≤ 60 := by omega
    by_cases hI : IdsOk D
    · obtain ⟨rfl, hp, hs⟩ := hN hI
      have hl := dcs_len N
      have hidN : ∀ x ∈ N, x.1 ≤ 99999 := fun x hx => by
        have := ((idsOk_iff _).1 hI).1 _ (List.mem_map.2 ⟨x, hx, rfl⟩)
        simp at this; omega
      by_cases hL : ∃ d ∈ dcs N, 120 < d.2.size
      · have hby := byId_any B v (dcs N) w h (by omega)
        have hl' := hp.length_eq
        rw [hl] at h hby
        obtain ⟨av, cv, rfl, hav⟩ := owns_forms h
        have hid' : ∀ x ∈ N', x.1 ≤ 99999 := fun x hx => hidN x (hp.mem_iff.1 hx)
        have hlong : longB N' = true := by
          unfold longB
          rw [List.any_eq_true]
          obtain ⟨d, hd, hsz⟩ := hL
          obtain ⟨y, hy, rfl⟩ := List.mem_map.1 hd
          exact ⟨y, hp.mem_iff.2 hy, by simpa using hsz⟩
        have huni := fun D' hh => sort_unique N N' D' hh hp hs
        obtain ⟨n, hnE⟩ : ∃ n, N.length = n := ⟨_, rfl⟩
        rw [hl, hnE] at h60'
        rw [hnE] at hby hl' hav
        rw [hnE]
        have hgood : ∀ D', SortOf (dcs N) D' → idsB none D' = true := fun D' hh => (sort_ids hh).2 hI
        have HPost : Hid (∀ w' : World, Kp [] w w' → PackPost (dcs N) N' w (.returned (.tuple #[.slice none 0 0, .int .i64 4])) w') := fun w' hk => ⟨hk, .inr (.inr (.inl ⟨by rw [hl, hnE]; exact h60', hI, hL, rfl⟩))⟩
        have HBY := hide hby
        have HG := hide hgood
        have HLo := hide hlong
        have HU := hide huni
        have HI := hide hid'
        have Hl' := hide hl'
        clear h hby hgood hlong huni hid' hl hl' hp hs hnE hI hL hidN hN h60 hn2 hav
        go_enter Tryz.func78, Tryz.ntmps78
        go_wp2_with fail
        refine HBY.out.mono ?_
        rintro e w1 ⟨v1, D', rfl, ho1, hso, k1⟩
        have hg1 := HG.out D' hso
        have eD := HU.out D' hso
        subst eD
        obtain ⟨a1, c1, rfl, _⟩ := owns_forms ho1
        have hids := ids_any w.heap.size (.slice a1 n c1) (dcs N') w1 (by rw [dcs_len, Hl'.out]; exact ho1) (by rw [dcs_len, Hl'.out]; omega)
        rw [hg1] at hids
        have HO1 := hide ho1
        have HID := hide hids
        have hz1 := k1.size
        clear ho1 hso hids HBY HU HG hg1
        go_wp2_with fail
        refine HID.out.mono ?_
        rintro e w2 ⟨rfl, k2⟩
        have hz2 := k2.size
        have ho2 := k2.owns HO1.out (by simp)
        have htx := textsOf_any w.heap.size (.slice a1 n c1) N' w2 (by rw [dcs_len, Hl'.out]; exact ho2) (by rw [Hl'.out]; omega) HI.out
        rw [HLo.out] at htx
        have HTX := hide htx
        clear ho2 htx HID HO1
        go_wp2_with fail
        refine HTX.out.mono ?_
        rintro e w3 ⟨h3, k3⟩
        rcases h3 with ⟨_, rfl⟩ | ⟨hb, _⟩
        · have K := hide ((k1.next k2).next k3)
          clear k1 k2 k3 HTX
          go_wp2_with fail
          go_ret2
          exact HPost.out _ K.out
        · simp at hb
      · have hsz : ∀ d ∈ dcs N, d.2.size ≤ 120 := fun d hd => by
          apply Nat.le_of_not_lt
          intro hh; exact hL ⟨d, hd, hh⟩
        refine (pack_any B v N N' w h (by omega) hp hs hidN (fun x hx => hsz _ (List.mem_map.2 ⟨x, hx, rfl⟩))).mono ?_
        rintro e w' ⟨v', rfl, ho, hk⟩
        have hlen : (fileT (txs N')).length = (bodyT (txs N')).length + 4 := by unfold fileT; rw [List.length_append, sumB_len]
        obtain ⟨a', c', rfl, _⟩ := owns_forms ho
        exact ⟨hk, .inr (.inr (.inr ⟨h60', hI, hsz, a', c', _, hlen, rfl, ho⟩))⟩
    · have hby := byId_any B v D w h (by omega)
      obtain ⟨av, cv, rfl, hav⟩ := owns_forms h
      have hbad : ∀ D', SortOf D D' → idsB none D' = false := fun D' hh => by
        rw [← Bool.not_eq_true]; exact fun e => hI ((sort_ids hh).1 e)
      have hlenD : ∀ D', SortOf D D' → D'.length = D.length := fun D' hh => hh.1.length_eq
      have HPost : Hid (∀ w' : World, Kp [] w w' → PackPost D N' w (.returned (.tuple #[.slice none 0 0, .int .i64 3])) w') := fun w' hk => ⟨hk, .inr (.inl ⟨h60', hI, rfl⟩)⟩
      obtain ⟨n, hn⟩ : ∃ n, D.length = n := ⟨_, rfl⟩
      rw [hn] at h60' hby hlenD
      rw [hn]
      have HBY := hide hby
      have HBAD := hide hbad
      have HLD := hide hlenD
      clear h hby hbad hlenD hav hn hN hI h60 hn2
      go_enter Tryz.func78, Tryz.ntmps78
      go_wp2_with fail
      refine HBY.out.mono ?_
      rintro e w1 ⟨v1, D', rfl, ho1, hso, k1⟩
      have hb1 := HBAD.out D' hso
      have hl1 := HLD.out D' hso
      obtain ⟨a1, c1, rfl, _⟩ := owns_forms ho1
      have hids := ids_any w.heap.size (.slice a1 n c1) D' w1 (by rw [hl1]; exact ho1) (by rw [hl1]; omega)
      rw [hb1] at hids
      have HID := hide hids
      have K1 := hide k1
      clear ho1 hso hids HBY HBAD HLD hb1 hl1 k1
      go_wp2_with fail
      refine HID.out.mono ?_
      rintro e w2 ⟨rfl, k2⟩
      have K2 := hide (K1.out.next k2)
      clear k2 HID K1
      go_wp2_with fail
      go_ret2
      exact HPost.out _ K2.out
end Go.Proofs.YtpdoacfiiledcaaGreatDoor.Pak
