import Derived.Test.YtpdoacfiiledcaaGreatDoorV17
import Derived.Test.YtpdoacfiiledcaaGreatDoorV10
set_option linter.unusedVariables false
set_option maxRecDepth 4000
namespace Go.Proofs.YtpdoacfiiledcaaGreatDoor.Pak
open Go.RowKit Go.Proofs.YtpdoacfiiledcaaGreatDoor Go.Proofs.YtpdoacfiiledcaaGreatDoor.Spl SiftM

set_option maxHeartbeats 1000000 in
set_option maxRecDepth 100000 in
theorem xterms_any (B N : Nat) (u : Value) (T : List Tx) (vs : List Value) (w : World) (hu : DocsX w B u T vs) (hT : T.length = N) (hN : N ≤ 60) (hws : ∀ x ∈ T, x.2.length ≤ 60) :
    Calls Tryz.prog 199 #[u] w fun e w' => ∃ (a : Option Addr) (c m : Nat), (termsOf T).length = m ∧ e = .returned (.slice a m c) ∧ w'.ownsRow w.heap.size 9 1 (.slice a m c) m (strV (termsOf T)) ∧ Kp [] w w' := by
  obtain ⟨i9, hi9, hz0, hz1, hz2⟩ := info_parts Tryz.info9
  obtain ⟨au, cu, rfl, hau⟩ := hu.forms
  rw [hT] at hu hau
  rw [hT]
  have HU := hide hu
  have HT := hide hT
  have HWS := hide hws
  clear hu hT hws
  go_enter Tryz.func199, Tryz.ntmps199
  go_wp2_with fail
  go_loopw [3, 4] (fun lv iv wr => ∃ (i : Nat) (L : List (List UInt8)) (al : Option Addr) (cl m : Nat), i ≤ N ∧ iv = .int .i64 i ∧ lv = .slice al m cl ∧ L.length = m ∧ m ≤ 60 * i ∧ wr.ownsRow w.heap.size 9 1 (.slice al m cl) m (strV L) ∧ L.Pairwise (· < ·) ∧ (∀ x, x ∈ L ↔ x ∈ allW (T.take i)) ∧ Kp [] w wr) (fun _ iv _ => N - (intOf iv).toNat)
  case atStart => exact ⟨0, [], none, 0, 0, by omega, rfl, rfl, rfl, by omega, World.ownsRow_nil _ _ _ _, List.Pairwise.nil, by simp [allW], Kp.refl _ _⟩
  case round =>
    obtain ⟨i, L, al, cl, m, hi, rfl, rfl, hm, hm60, ho, hpw, hmem, hkp⟩ := hrel
    by_cases hlt : i < N
    · obtain ⟨g, rfl⟩ := hau (by omega)
      have hiT : i < T.length := by rw [HT.out]; exact hlt
      have hwl := HWS.out T[i] (List.getElem_mem hiT)
      have hst := fun x => allW_take T i hiT x
      obtain ⟨ws, hwsE⟩ : ∃ ws, T[i].2 = ws := ⟨_, rfl⟩
      simp only [hwsE] at hwl hst
      have HST := hide hst
      have HWE := hide hwsE
      have HO := hide ho
      have HPW := hide hpw
      have HME := hide hmem
      have Hm := hide hm
      clear hst hwsE ho hpw hmem hm
      go_wp2_with fail
      go_loopw [3, 5] (fun lv kv wr => ∃ (k : Nat) (L : List (List UInt8)) (al : Option Addr) (cl m : Nat), k ≤ ws.length ∧ kv = .int .i64 k ∧ lv = .slice al m cl ∧ L.length = m ∧ m ≤ 60 * i + k ∧ wr.ownsRow w.heap.size 9 1 (.slice al m cl) m (strV L) ∧ L.Pairwise (· < ·) ∧ (∀ x, x ∈ L ↔ x ∈ allW (T.take i) ∨ x ∈ ws.take k) ∧ Kp [] w wr) (fun _ kv _ => ws.length - (intOf kv).toNat)
      case atStart => exact ⟨0, L, al, cl, m, by omega, rfl, rfl, Hm.out, by omega, HO.out, HPW.out, by simpa using HME.out, hkp⟩
      case round =>
        clear HO HPW HME Hm hm60
        obtain ⟨k, L, al, cl, m, hk, rfl, rfl, hm, hmk, ho, hpw, hmem, hkp'⟩ := hrel
        have hur := HU.out.kp0 hkp'
        have hiv : i < vs.length := by rw [hur.len]; exact hiT
        obtain ⟨q0, q1, bq, q2⟩ := hur.cells i hiT hiv
        have hw := hur.each i hiT hiv
        obtain ⟨aw, cw, ew, haw⟩ := owns_forms hw
        rw [ew] at q1 hw
        rw [HWE.out] at q1 hw haw
        have hgl := (hur.lt g rfl).2
        clear hur q0 q2 ew
        by_cases hlt2 : k < ws.length
        · obtain ⟨gw, rfl⟩ := haw (by omega)
          have hcw := strs_cells hw rfl k hlt2
          have hgwl := (hw.lt gw rfl).2
          have htk := take_snocL ws k hlt2
          obtain ⟨x, hx⟩ : ∃ x, ws[k] = x := ⟨_, rfl⟩
          rw [hx] at hcw htk
          obtain ⟨hf1, hf2, hf3, hf4⟩ := halves ho
          have HO := hide ho
          have HPW := hide hpw
          have HME := hide hmem
          have Hm := hide hm
          have HTK := hide htk
          have HF1 := hide hf1
          have HF2 := hide hf2
          have HF4 := hide hf4
          clear ho hpw hmem hm htk hx hw hf1 hf2 hf4
          go_wp2_with fail
          go_loopw [7] (fun av w2 => ∃ p : Nat, p ≤ m ∧ av = .int .i64 p ∧ (∀ j (hj : j < L.length), j < p → L[j] < x) ∧ w2 = wr) (fun av _ => m - (intOf av).toNat)
          case atStart => exact ⟨0, by omega, rfl, fun j _ hj => absurd hj (by omega), rfl⟩
          case round =>
            obtain ⟨p, hpm, rfl, hlow, rfl⟩ := hrel
            have hmL : L.length = m := Hm.out
            by_cases hc : ∃ h : p < L.length, L[p] < x
            · obtain ⟨hpl, hlt5⟩ := hc
              obtain ⟨gl, hgl'⟩ : ∃ gl, al = some ⟨gl, 0, none⟩ := by
                cases hal : al with
                | none => have := (HF2.out hal).1; omega
                | some y => obtain ⟨gl, rfl⟩ := HF1.out y hal; exact ⟨gl, rfl⟩
              have hcl := HF4.out gl hgl' p (.string ⟨L[p].toArray⟩) (by simp [strV, hpl])
              have hbl : Op.bytesLess L[p] x = true := by rw [bytesLess_eq]; exact decide_eq_true hlt5
              have hgll := (HO.out.lt gl (by rw [hgl']; rfl)).2
              have hnx : ∀ j (hj : j < L.length), j < p + 1 → L[j] < x := by
                intro j hj hjp
                by_cases e : j = p
                · subst e; exact hlt5
                · exact hlow j hj (by omega)
              have hpm2 : p < m := by omega
              have hcap := hf3
              subst hgl'
              obtain ⟨y, hy⟩ : ∃ y, L[p] = y := ⟨_, rfl⟩
              rw [hy] at hcl hbl
              have HNX := hide hnx
              clear hlow hy hnx hlt5
              go_wp2_with fail
              go_roundw
              case rel => exact ⟨p + 1, by omega, by go_num, HNX.out, trivial⟩
              case measure => simp [intOf]; omega
            · by_cases heq : ∃ h : p < L.length, L[p] = x
              · obtain ⟨hpl, hex⟩ := heq
                obtain ⟨gl, hgl'⟩ : ∃ gl, al = some ⟨gl, 0, none⟩ := by
                  cases hal : al with
                  | none => have := (HF2.out hal).1; omega
                  | some y => obtain ⟨gl, rfl⟩ := HF1.out y hal; exact ⟨gl, rfl⟩
                have hcl := HF4.out gl hgl' p (.string ⟨L[p].toArray⟩) (by simp [strV, hpl])
                rw [hex] at hcl
                have hbl : Op.bytesLess x x = false := by rw [bytesLess_eq]; exact decide_eq_false (List.lt_irrefl _)
                have hgll := (HO.out.lt gl (by rw [hgl']; rfl)).2
                have hin : x ∈ L := by rw [← hex]; exact List.getElem_mem hpl
                have hpm2 : p < m := by omega
                have hme2 : ∀ z, z ∈ L ↔ z ∈ allW (T.take i) ∨ z ∈ ws.take (k + 1) := by
                  intro z
                  rw [HTK.out]
                  simp only [List.mem_append, List.mem_singleton]
                  constructor
                  · intro hz
                    rcases (HME.out z).1 hz with h | h
                    · exact .inl h
                    · exact .inr (.inl h)
                  · rintro (h | h | h)
                    · exact (HME.out z).2 (.inl h)
                    · exact (HME.out z).2 (.inr h)
                    · rw [h]; exact hin
                subst hgl'
                have HM2 := hide hme2
                clear hlow hme2 hc hex hin
                go_wp2_with fail
                go_roundw
                case rel => exact ⟨k + 1, L, some ⟨gl, 0, none⟩, cl, m, by omega, by go_num, rfl, Hm.out, by omega, HO.out, HPW.out, HM2.out, hkp'⟩
                case measure => simp [intOf]; omega
              · have hge : ∀ h : p < L.length, x < L[p] := by
                  intro h
                  have h1 : ¬ L[p] < x := fun h' => hc ⟨h, h'⟩
                  have h2 : L[p] ≠ x := fun h' => heq ⟨h, h'⟩
                  exact lt_of _ _ (List.not_lt.1 h1) (fun e => h2 e.symm)
                have hns := pw_ins L p x (by omega) HPW.out hlow hge
                have hlo := fun w' => slice_loG 67 9 1 Tryz.underlying67 size9 al m cl p w' hpm hf3 HF1.out
                obtain ⟨ad, hhi, hadn, hads⟩ := slice_hiG 67 9 1 Tryz.underlying67 size9 al m cl p hpm hf3 HF2.out HF1.out
                have hzl : (strV L).length = m := by rw [strV_length]; exact hmL
                have hd1 : al = none → p = 0 ∧ cl = 0 := fun e => by obtain ⟨e1, e2⟩ := HF2.out e; exact ⟨by omega, e2⟩
                have hd2 : ((strV L).take p).length = p * 1 := by rw [List.length_take, hzl]; omega
                have hd2b : ((strV L).drop p).length = (m - p) * 1 := by rw [List.length_drop, hzl]; omega
                have hd3 : ∀ adr, al = some adr → ∀ j u, ((strV L).take p)[j]? = some u → wr.cell? (adr.add j) = some u := by
                  intro adr hadr j u hu
                  obtain ⟨g', rfl⟩ := HF1.out adr hadr
                  rw [add_zero']
                  refine HF4.out g' hadr j u ?_
                  rw [List.getElem?_take] at hu
                  split at hu
                  · exact hu
                  · simp at hu
                have hd3b : ∀ adr, ad = some adr → ∀ j u, ((strV L).drop p)[j]? = some u → wr.cell? (adr.add j) = some u := by
                  intro adr hadr j u hu
                  have hj : j < ((strV L).drop p).length := by
                    rcases Nat.lt_or_ge j ((strV L).drop p).length with h | h
                    · exact h
                    · rw [List.getElem?_eq_none h] at hu; simp at hu
                  obtain ⟨g', hg', rfl⟩ := hads adr hadr (by omega)
                  have ea : (⟨g', p * 1, none⟩ : Addr).add j = ⟨g', p + j, none⟩ := by unfold Addr.add; split <;> simp_all
                  rw [ea]
                  refine HF4.out g' hg' _ u ?_
                  rw [List.getElem?_drop] at hu
                  exact hu
                have hd4 : ∀ u ∈ (strV L).take p, u.oneCell' = true := fun u hu => words_oneCell L u (List.mem_of_mem_take hu)
                have hd4b : ∀ u ∈ (strV L).drop p, u.oneCell' = true := fun u hu => words_oneCell L u (List.mem_of_mem_drop hu)
                have hcase : ∀ (gl : Nat), al = some ⟨gl, 0, none⟩ → p < m → ∃ y, wr.cell? ⟨gl, p, none⟩ = some (.string ⟨y.toArray⟩) ∧ Op.bytesLess y x = false ∧ (y == x) = false ∧ gl < wr.heap.size := by
                  intro gl hgl' hpm2
                  have hpl : p < L.length := by omega
                  refine ⟨L[p], HF4.out gl hgl' p (.string ⟨L[p].toArray⟩) (by simp [strV, hpl]), ?_, ?_, (HO.out.lt gl (by rw [hgl']; rfl)).2⟩
                  · rw [bytesLess_eq]; exact decide_eq_false (fun h' => hc ⟨hpl, h'⟩)
                  · have := fun h' => heq ⟨hpl, h'⟩
                    simpa using this
                have HNS := hide hns
                have HADN := hide hadn
                have HD1 := hide hd1
                have HD2 := hide hd2
                have HD2b := hide hd2b
                have HD3 := hide hd3
                have HD3b := hide hd3b
                have HD4 := hide hd4
                have HD4b := hide hd4b
                have hm3600 : m ≤ 3660 := by omega
                clear hns hadn hd1 hd2 hd2b hd3 hd3b hd4 hd4b hzl hlow hge hads hc heq hmL
                by_cases hlt6 : p < m
                · obtain ⟨gl, hga⟩ : ∃ gl, al = some ⟨gl, 0, none⟩ := by
                    cases hal : al with
                    | none => have := (HF2.out hal).1; omega
                    | some y => obtain ⟨gl, rfl⟩ := HF1.out y hal; exact ⟨gl, rfl⟩
                  obtain ⟨y, q3, q4, q5, q6⟩ := hcase gl hga hlt6
                  subst hga
                  clear hcase
                  go_wp2_with (first
                    | (at_builtin; refine wpList_append_opt _ rfl _ _ 67 rfl wr.heap.size 9 i9 (.string ⟨#[]⟩) 1 16 Tryz.underlying67 hi9 hz0 hz1 hz2 rfl (by decide) _ 0 [] rfl (World.ownsRow_nil _ _ _ _) (some ⟨gl, 0, none⟩) p cl ((strV L).take p) rfl HD1.out HD2.out HD3.out HD4.out ?d5 ?d6 ?d7 ?_)
                    | fail)
                  case d5 => unfold maxLen; omega
                  case d6 => omega
                  case d7 => exact Nat.le_refl _
                  intro v5 w5 hown5 hg5 hb5
                  obtain ⟨a5, c5, rfl, _⟩ := owns_forms hown5
                  have k5 : Kp [] wr w5 := (Kp.refl _ _).grown hg5 (fun k hk => by simp [Value.ownBlock] at hk)
                  have hz5 := k5.size
                  have HO5 := hide hown5
                  clear hown5 hg5 hb5
                  go_wp2_with (first
                    | (at_builtin; refine wpList_append_own_at _ rfl _ _ 67 rfl wr.heap.size 9 i9 (.string ⟨#[]⟩) 1 16 Tryz.underlying67 hi9 hz0 hz1 hz2 rfl (by decide) _ _ _ rfl (HO5.out.alloc _) ⟨w5.heap.size, 0, none⟩ 1 1 [.string ⟨x.toArray⟩] rfl rfl (one_new _ _ _) ?c2 ?c3 ?c4 ?c5 ?_)
                    | fail)
                  case c2 => intro u hu; simp at hu; subst hu; rfl
                  case c3 => unfold maxLen; omega
                  case c4 => omega
                  case c5 => simp; omega
                  intro v6 w6 hown6 hg6 _ _
                  obtain ⟨a6, c6, rfl, _⟩ := owns_forms hown6
                  have k6 : Kp (Value.slice a5 p c5).ownBlock.toList w5 w6 := ((Kp.refl _ _).alloc _).grown hg6 (fun j hj => .inl (by simp [hj]))
                  have k6' : Kp [] wr w6 := k5.trans k6 (fun x hx => .inr (HO5.out.lt x (by simpa using hx)).1)
                  have hz6 := k6'.size
                  have HO6 := hide hown6
                  have HD5 := hide (fun adr h1 j u h2 => k6'.cellv (HD3b.out adr h1 j u h2) (by simp))
                  clear hown6 hg6 k6 k5 HO5
                  go_wp2_with (first
                    | (at_builtin; refine wpList_append_opt _ rfl _ _ 67 rfl wr.heap.size 9 i9 (.string ⟨#[]⟩) 1 16 Tryz.underlying67 hi9 hz0 hz1 hz2 rfl (by decide) _ _ _ rfl HO6.out ad (m - p) (cl - p) ((strV L).drop p) rfl HADN.out HD2b.out HD5.out HD4b.out ?d5 ?d6 ?d7 ?_)
                    | fail)
                  case d5 => unfold maxLen; omega
                  case d6 => omega
                  case d7 => omega
                  intro v7 w7 hown7 hg7 hb7
                  rw [show p + 1 + (m - p) = m + 1 by omega] at hown7
                  obtain ⟨a7, c7, rfl, _⟩ := owns_forms hown7
                  have k7 : Kp (Value.slice a6 (p + 1) c6).ownBlock.toList w6 w7 := (Kp.refl _ _).grown hg7 (fun j hj => .inl (by simp [hj]))
                  have k7' : Kp [] wr w7 := k6'.trans k7 (fun x hx => .inr (HO6.out.lt x (by simpa using hx)).1)
                  have hins : w7.ownsRow w.heap.size 9 1 (.slice a7 (m + 1) c7) (m + 1) (strV (ins L p x)) := by
                    rw [strV_ins, List.append_assoc]
                    exact owns_low hown7 hkp'.size
                  have HINS := hide hins
                  have kf := hkp'.next k7'
                  clear hown7 hg7 hb7 k7 k6' k7' hins HO6 HD5
                  go_wp2_with fail
                  go_roundw
                  case rel =>
                    refine ⟨k + 1, ins L p x, a7, c7, m + 1, by omega, by go_num, rfl, ?_, by omega, HINS.out, HNS.out, ?_, kf⟩
                    · rw [ins_len L p x (by rw [Hm.out]; exact hpm), Hm.out]
                    · intro z
                      rw [mem_ins, HME.out, HTK.out]
                      simp only [List.mem_append, List.mem_singleton]
                      constructor
                      · rintro (h | h | h)
                        · exact .inr (.inr h)
                        · exact .inl h
                        · exact .inr (.inl h)
                      · rintro (h | h | h)
                        · exact .inr (.inl h)
                        · exact .inr (.inr h)
                        · exact .inl h
                  case measure => simp [intOf]; omega
                · clear hcase
                  go_wp2_with (first
                    | (at_builtin; refine wpList_append_opt _ rfl _ _ 67 rfl wr.heap.size 9 i9 (.string ⟨#[]⟩) 1 16 Tryz.underlying67 hi9 hz0 hz1 hz2 rfl (by decide) _ 0 [] rfl (World.ownsRow_nil _ _ _ _) al p cl ((strV L).take p) rfl HD1.out HD2.out HD3.out HD4.out ?d5 ?d6 ?d7 ?_)
                    | fail)
                  case d5 => unfold maxLen; omega
                  case d6 => omega
                  case d7 => exact Nat.le_refl _
                  intro v5 w5 hown5 hg5 hb5
                  obtain ⟨a5, c5, rfl, _⟩ := owns_forms hown5
                  have k5 : Kp [] wr w5 := (Kp.refl _ _).grown hg5 (fun k hk => by simp [Value.ownBlock] at hk)
                  have hz5 := k5.size
                  have HO5 := hide hown5
                  clear hown5 hg5 hb5
                  go_wp2_with (first
                    | (at_builtin; refine wpList_append_own_at _ rfl _ _ 67 rfl wr.heap.size 9 i9 (.string ⟨#[]⟩) 1 16 Tryz.underlying67 hi9 hz0 hz1 hz2 rfl (by decide) _ _ _ rfl (HO5.out.alloc _) ⟨w5.heap.size, 0, none⟩ 1 1 [.string ⟨x.toArray⟩] rfl rfl (one_new _ _ _) ?c2 ?c3 ?c4 ?c5 ?_)
                    | fail)
                  case c2 => intro u hu; simp at hu; subst hu; rfl
                  case c3 => unfold maxLen; omega
                  case c4 => omega
                  case c5 => simp; omega
                  intro v6 w6 hown6 hg6 _ _
                  obtain ⟨a6, c6, rfl, _⟩ := owns_forms hown6
                  have k6 : Kp (Value.slice a5 p c5).ownBlock.toList w5 w6 := ((Kp.refl _ _).alloc _).grown hg6 (fun j hj => .inl (by simp [hj]))
                  have k6' : Kp [] wr w6 := k5.trans k6 (fun x hx => .inr (HO5.out.lt x (by simpa using hx)).1)
                  have hz6 := k6'.size
                  have HO6 := hide hown6
                  have HD5 := hide (fun adr h1 j u h2 => k6'.cellv (HD3b.out adr h1 j u h2) (by simp))
                  clear hown6 hg6 k6 k5 HO5
                  go_wp2_with (first
                    | (at_builtin; refine wpList_append_opt _ rfl _ _ 67 rfl wr.heap.size 9 i9 (.string ⟨#[]⟩) 1 16 Tryz.underlying67 hi9 hz0 hz1 hz2 rfl (by decide) _ _ _ rfl HO6.out ad (m - p) (cl - p) ((strV L).drop p) rfl HADN.out HD2b.out HD5.out HD4b.out ?d5 ?d6 ?d7 ?_)
                    | fail)
                  case d5 => unfold maxLen; omega
                  case d6 => omega
                  case d7 => omega
                  intro v7 w7 hown7 hg7 hb7
                  rw [show p + 1 + (m - p) = m + 1 by omega] at hown7
                  obtain ⟨a7, c7, rfl, _⟩ := owns_forms hown7
                  have k7 : Kp (Value.slice a6 (p + 1) c6).ownBlock.toList w6 w7 := (Kp.refl _ _).grown hg7 (fun j hj => .inl (by simp [hj]))
                  have k7' : Kp [] wr w7 := k6'.trans k7 (fun x hx => .inr (HO6.out.lt x (by simpa using hx)).1)
                  have hins : w7.ownsRow w.heap.size 9 1 (.slice a7 (m + 1) c7) (m + 1) (strV (ins L p x)) := by
                    rw [strV_ins, List.append_assoc]
                    exact owns_low hown7 hkp'.size
                  have HINS := hide hins
                  have kf := hkp'.next k7'
                  clear hown7 hg7 hb7 k7 k6' k7' hins HO6 HD5
                  go_wp2_with fail
                  go_roundw
                  case rel =>
                    refine ⟨k + 1, ins L p x, a7, c7, m + 1, by omega, by go_num, rfl, ?_, by omega, HINS.out, HNS.out, ?_, kf⟩
                    · rw [ins_len L p x (by rw [Hm.out]; exact hpm), Hm.out]
                    · intro z
                      rw [mem_ins, HME.out, HTK.out]
                      simp only [List.mem_append, List.mem_singleton]
                      constructor
                      · rintro (h | h | h)
                        · exact .inr (.inr h)
                        · exact .inl h
                        · exact .inr (.inl h)
                      · rintro (h | h | h)
                        · exact .inr (.inl h)
                        · exact .inr (.inr h)
                        · exact .inl h
                  case measure => simp [intOf]; omega
        · have ek : ws.length = k := by omega
          have HO := hide ho
          have hme2 : ∀ x, x ∈ L ↔ x ∈ allW (T.take (i + 1)) := by
            intro x
            rw [hmem, HST.out, ← ek, List.take_length]
          have HPW := hide hpw
          have HME := hide hme2
          have Hm := hide hm
          clear ho hpw hmem hm hw hme2
          go_wp2_with fail
          go_roundw
          case rel => exact ⟨i + 1, L, al, cl, m, by omega, by go_num, rfl, Hm.out, by omega, HO.out, HPW.out, HME.out, hkp'⟩
          case measure => simp [intOf]; omega
    · have ei : N = i := by omega
      subst ei
      have he : L = termsOf T := by
        refine pw_ext L (termsOf T) hpw (terms_pw T) (fun z => ?_)
        rw [hmem, terms_mem, show T.take N = T by rw [← HT.out, List.take_length]]
      have Hm := hide hm
      have HO := hide ho
      have HE := hide he
      clear hm ho hpw hmem he
      go_wp2_with fail
      go_ret
      exact ⟨al, cl, m, by rw [← HE.out]; exact Hm.out, rfl, by rw [← HE.out]; exact HO.out, hkp⟩
end Go.Proofs.YtpdoacfiiledcaaGreatDoor.Pak

