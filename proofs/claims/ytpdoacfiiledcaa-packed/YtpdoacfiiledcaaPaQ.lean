import Derived.Test.YtpdoacfiiledcaaPaP
set_option linter.unusedVariables false
set_option maxRecDepth 4000
namespace Go.Proofs.Ytpdoacfiiledcaa.Pak
open Go.RowKit Go.Proofs.Ytpdoacfiiledcaa SiftM

theorem Row.kp {w w' : World} {a : Option Addr} {len cap : Nat} {zs : List Int} (h : Row w a len cap zs) (k : Kp [] w w') : Row w' a len cap zs := by
  rcases h with h | ⟨x, e, h1, h2, h3, h4, h5⟩
  · exact .inl h
  · exact .inr ⟨x, e, h1, h2, h3, fun i hi => k.cellv (h4 i hi) (by simp), h5⟩

/-- The items that came in. -/
def ItemsAt (w : World) (a : Option Addr) (len : Nat) (I : Nat → Int) (A : Nat → Option Addr) (L C : Nat → Nat) (Z : Nat → List Int) : Prop :=
  len = 0 ∨ ∃ b off, a = some ⟨b, off, none⟩ ∧ b < w.heap.size ∧ ∀ i, i < len → w.cell? ⟨b, off + i * 2, none⟩ = some (.int .i64 (I i)) ∧ w.cell? ⟨b, off + i * 2 + 1, none⟩ = some (.slice (A i) (L i) (C i)) ∧ -9223372036854775808 ≤ I i ∧ I i ≤ 9223372036854775807 ∧ Row w (A i) (L i) (C i) (Z i)

theorem ItemsAt.kp {w w' : World} {a : Option Addr} {len : Nat} {I : Nat → Int} {A : Nat → Option Addr} {L C : Nat → Nat} {Z : Nat → List Int} (h : ItemsAt w a len I A L C Z) (k : Kp [] w w') : ItemsAt w' a len I A L C Z := by
  rcases h with h | ⟨b, off, e, h0, h1⟩
  · exact .inl h
  · exact .inr ⟨b, off, e, Nat.lt_of_lt_of_le h0 k.size, fun i hi => ⟨k.cellv (h1 i hi).1 (by simp), k.cellv (h1 i hi).2.1 (by simp), (h1 i hi).2.2.1, (h1 i hi).2.2.2.1, Row.kp (h1 i hi).2.2.2.2 k⟩⟩

def hasId (N : List Nd) (id : Nat) : Bool := N.any fun x => decide (x.1 = id)
theorem hasId_take (N : List Nd) (id k : Nat) (hk : k < N.length) : hasId (N.take (k + 1)) id = (hasId (N.take k) id || decide (N[k].1 = id)) := by
  unfold hasId
  rw [take_snocL N k hk, List.any_append]
  simp

set_option maxHeartbeats 1000000 in
set_option maxRecDepth 100000 in
theorem docs_any (a : Option Addr) (len cap : Nat) (I : Nat → Int) (A : Nat → Option Addr) (L C : Nat → Nat) (Z : Nat → List Int) (w : World) (h : ItemsAt w a len I A L C Z) (hlen : len ≤ 9223372036854775807) :
    Calls Try.prog 8 #[.slice a len cap] w fun e w' => ∃ vl vt N N' vs, e = .returned (.tuple #[vl, vt]) ∧ w'.ownsRow w.heap.size 43 2 vl (dcs N).length (docV (dcs N)) ∧ TextsIs w' w.heap.size vt (txs N') vs ∧ N'.Perm N ∧ Sorted N' ∧ N.length ≤ 12 ∧ (∀ x ∈ N, x.1 ≤ 99999) ∧ (∀ x ∈ N, x.2.size ≤ 104) ∧ Kp [] w w' := by
  obtain ⟨i0, hi0, hz0, hz1, hz2⟩ := info_parts info52
  obtain ⟨j0, hj0, hy0, hy1, hy2⟩ := info_parts info43
  have HI := hide h
  clear h
  go_enter Try.func8, Try.ntmps8
  go_wp2_with fail
  go_loopw [4, 5, 6] (fun lv tv iv wr => ∃ (i : Nat) (N N' : List Nd) (al at' : Option Addr) (cl ct : Nat) (vs : List Value), i ≤ len ∧ iv = .int .i64 i ∧ lv = .slice al N.length cl ∧ tv = .slice at' N.length ct ∧ wr.ownsRow w.heap.size 43 2 (.slice al N.length cl) N.length (docV (dcs N)) ∧ TextsIs wr w.heap.size (.slice at' N.length ct) (txs N') vs ∧ N'.Perm N ∧ Sorted N' ∧ N.length ≤ 12 ∧ (∀ x ∈ N, x.1 ≤ 99999) ∧ (∀ x ∈ N, x.2.size ≤ 104) ∧ Kp [] w wr) (fun _ _ iv _ => len - (intOf iv).toNat)
  case atStart => exact ⟨0, [], [], none, none, 0, 0, [], by omega, rfl, rfl, rfl, World.ownsRow_nil _ _ _ _, TextsIs.nil _ _, List.Perm.refl _, List.Pairwise.nil, by simp, by simp, by simp, Kp.refl _ _⟩
  case round =>
    obtain ⟨i, N, N', al, at', cl, ct, vs, hi, rfl, rfl, rfl, hl, ht, hp, hso, h12, hid, hsz, hkp⟩ := hrel
    have HL := hide hl
    have HT := hide ht
    have HP := hide hp
    have HSO := hide hso
    have HID := hide hid
    have HSZ := hide hsz
    obtain ⟨n, hn⟩ : ∃ n, N.length = n := ⟨_, rfl⟩
    rw [hn] at HL HT h12
    rw [hn]
    have Hn := hide hn
    have hal : 0 < n → ∃ g, al = some ⟨g, 0, none⟩ := by
      obtain ⟨a', c', e, h'⟩ := owns_forms HL.out
      cases e; exact h'
    have HNl : Hid ((txs N').length = n) := by
      show _ = _
      have := HP.out.length_eq
      simp [txs]; omega
    have hat : 0 < n → ∃ g, at' = some ⟨g, 0, none⟩ := by
      have h0 := HT.out.row
      rw [HNl.out] at h0
      obtain ⟨a', c', e, h'⟩ := owns_forms h0
      cases e; exact h'
    clear hl ht hp hso hid hsz hn
    by_cases hlt : i < len
    · by_cases hlt2 : n < 12
      · rcases HI.out.kp hkp with h0 | ⟨b, off, rfl, hb, hx⟩
        · omega
        obtain ⟨c0, c1, e1, e2, hrow⟩ := hx i hlt
        have hpk : Calls Try.prog 12 #[.int .i64 (I i), .int .i64 100000] wr fun e w' => (∃ m : Nat, m < 100000 ∧ e = .returned (.int .i64 (m : Int))) ∧ w' = wr := pick_gen (I i) 100000 wr e1 e2 (by omega) (by omega)
        have HPK := hide hpk
        have HX := hide hx
        have HR := hide hrow
        clear hpk hx hrow e1 e2
        go_wp2_with fail
        refine HPK.out.mono ?_
        rintro e w1 ⟨⟨m, hm, rfl⟩, hw1⟩
        subst hw1
        have Hm := hide hm
        clear HPK
        go_wp2_with fail
        go_loopw [8, 9] (fun tv kv w2 => ∃ k : Nat, k ≤ n ∧ kv = .int .i64 k ∧ tv = .bool (hasId (N.take k) m) ∧ w2 = w1) (fun _ kv _ => n - (intOf kv).toNat)
        case atStart => exact ⟨0, by omega, rfl, rfl, rfl⟩
        case round =>
          obtain ⟨k, hk, rfl, rfl, rfl⟩ := hrel
          by_cases hlt3 : k < n
          · have hkN : k < N.length := by rw [Hn.out]; exact hlt3
            have hts := hide (hasId_take N m k hkN)
            obtain ⟨g, rfl⟩ := hal (by omega)
            have hkd : k < (dcs N).length := by rw [dcs_len]; exact hkN
            obtain ⟨q0, q1⟩ := docs_cells HL.out k hkd
            have hgd : (dcs N)[k] = ((N[k].1 : Int), N[k].2) := by simp [dcs]
            rw [hgd] at q0 q1
            simp only at q0 q1
            obtain ⟨x, hx⟩ : ∃ x, N[k] = x := ⟨_, rfl⟩
            rw [hx] at q0 q1 hts
            obtain ⟨id, bd⟩ := x
            simp only at q0 q1 hts
            clear hx hgd q1
            by_cases hh : hasId (N.take k) m = true
            · rw [hh]
              go_wp2_with fail
              go_roundw
              case rel => exact ⟨k + 1, by omega, by go_num, by rw [hts.out, hh]; rfl, trivial⟩
              case measure => simp [intOf]; omega
            · have hh' : hasId (N.take k) m = false := by simpa using hh
              rw [hh']
              go_wp2_with fail
              go_roundw
              case rel =>
                refine ⟨k + 1, by omega, by go_num, ?_, trivial⟩
                rw [hts.out, hh']
                have e5 : ((id : Int) == (m : Int)) = decide (id = m) := by
                  by_cases e : id = m
                  · subst e; simp
                  · rw [decide_eq_false e]; simp; omega
                simp [e5]
              case measure => simp [intOf]; omega
          · have ek : n = k := by omega
            subst ek
            rw [show N.take n = N by rw [← Hn.out, List.take_length]]
            by_cases hh : hasId N m = true
            · rw [hh]
              go_wp2_with fail
              go_roundw
              case rel => exact ⟨i + 1, N, N', al, at', cl, ct, vs, by omega, by go_num, by rw [Hn.out], by rw [Hn.out], by rw [Hn.out]; exact HL.out, by rw [Hn.out]; exact HT.out, HP.out, HSO.out, by rw [Hn.out]; omega, HID.out, HSZ.out, hkp⟩
              case measure => simp [intOf]; omega
            · have hh' : hasId N m = false := by simpa using hh
              rw [hh']
              have hMR := made_row (A i) (L i) (C i) (Z i) _ HR.out
              have HMR := hide hMR
              have Hh := hide hh'
              clear hMR hh hh'
              go_wp2_with fail
              refine HMR.out.mono ?_
              rintro e w3 ⟨wv, bs, ws, rfl, hsp, hbs, hws, how, hbel⟩
              obtain ⟨aw, cw, rfl, haw⟩ := owns_forms how
              have k3 : Kp [] wr w3 := Kp.of_below [] hbel
              have hz3 := k3.size
              have hzw := hkp.size
              have hl3 := k3.owns HL.out (by simp)
              have ht3 := HT.out.kp0 k3
              have hap : ∀ i (hi : i < vs.length), ∀ g, vs[i].ownBlock = some g → (Value.slice aw ws.length cw).ownBlock ≠ some g := by
                intro j hj g hg hg2
                have h1 := (how.lt g hg2).1
                have h2 := (HT.out.each j (by rw [← HT.out.len]; exact hj) hj).lt g hg
                omega
              have how0 := owns_low how hzw
              have HL3 := hide hl3
              have HT3 := hide ht3
              have HOW := hide how0
              have HAP := hide hap
              have HWS := hide hws
              have HBS := hide hbs
              have hk3 := hkp.next k3
              clear hl3 ht3 how how0 hap hws hbs hbel c0 c1 HMR HL HT
              go_wp2_with (first
                | (at_builtin; refine wpList_append_own_at _ rfl _ _ 32 rfl w.heap.size 43 j0 (.agg #[.int .i64 0, .string ⟨#[]⟩]) 2 24 Try.underlying32 hj0 hy0 hy1 hy2 rfl (by decide) _ _ _ rfl (HL3.out.alloc _) ⟨w3.heap.size, 0, none⟩ 1 1 [.int .i64 (m : Int), .string bs] rfl rfl (World.news_of_block (cs := #[.int .i64 (m : Int), .string bs]) (t := 43) (fr := (0, 0)) (heap_alloc_new _ _)) ?c2 ?c3 ?c4 ?c5 ?_)
                | fail)
              case c2 => intro u hu; simp at hu; rcases hu with rfl | rfl <;> rfl
              case c3 => unfold maxLen; omega
              case c4 => omega
              case c5 => simp; omega
              intro v4 w4 hown4 hgrow _ _
              obtain ⟨a4, c4, rfl, _⟩ := owns_forms hown4
              have k4 : Kp (Value.slice al n cl).ownBlock.toList w3 w4 := ((Kp.refl _ _).alloc _).grown hgrow (fun j hj => .inl (by simp [hj]))
              have k4' : Kp [] w w4 := hk3.trans k4 (fun x hx => .inr (HL3.out.lt x (by simpa using hx)).1)
              have hne4 : ∀ x ∈ (Value.slice al n cl).ownBlock.toList, (Value.slice al n cl).ownBlock = some x := fun x hx => by simpa using hx
              have ht4 := HT3.out.kp k4 (fun x hx hv => owns_disj HL3.out HT3.out.row (by decide) x (hne4 x hx) hv) (fun i hi x hx hv => owns_disj HL3.out (HT3.out.each i (by rw [← HT3.out.len]; exact hi) hi) (by decide) x (hne4 x hx) hv)
              have how4 := k4.owns HOW.out (fun g hg hx => owns_disj HL3.out HOW.out (by decide) g (hne4 g hx) hg)
              have hz4 := k4.size
              have HL4 := hide hown4
              have HT4 := hide ht4
              have HOW4 := hide how4
              clear hown4 ht4 how4 hgrow k4 HL3 HT3 HOW hk3
              go_wp2_with fail
              have hnat : ∀ x, at' = some x → ∃ g, x = ⟨g, 0, none⟩ := by
                intro x hx
                rcases HT4.out.row.2 with ⟨e1, _⟩ | ⟨g, cp, cur, e1, _⟩
                · cases e1; simp at hx
                · cases e1; exact ⟨g, (Option.some.inj hx).symm⟩
              have hnone : at' = none → n = 0 ∧ ct = 0 := by
                intro hx
                rcases HT4.out.row.2 with ⟨e1, _⟩ | ⟨g, cp, cur, e1, _⟩
                · cases e1; exact ⟨by omega, rfl⟩
                · cases e1; simp at hx
              have hcap : n ≤ ct := by
                rcases HT4.out.row.2 with ⟨e1, e2⟩ | ⟨g, cp, cur, e1, e2⟩
                · cases e1; omega
                · cases e1; exact e2.2.2.1
              have HNA := hide hnat
              have HNO := hide hnone
              clear hnat hnone
              go_loopw [12] (fun av w2 => ∃ p : Nat, p ≤ n ∧ av = .int .i64 p ∧ (∀ j (hj : j < N'.length), j < p → N'[j].1 < m) ∧ w2 = w4) (fun av _ => n - (intOf av).toNat)
              case atStart => exact ⟨0, by omega, rfl, fun j _ hj => absurd hj (by omega), rfl⟩
              case round =>
                obtain ⟨p, hpn, rfl, hlow, rfl⟩ := hrel
                have HLow := hide hlow
                have hnl : N'.length = n := by rw [HP.out.length_eq, Hn.out]
                by_cases hc : ∃ h : p < N'.length, N'[p].1 < m
                · obtain ⟨hpl, hlt5⟩ := hc
                  obtain ⟨g, rfl⟩ := hat (by omega)
                  have hpv : p < vs.length := by rw [HT4.out.len, HNl.out]; omega
                  have hpt : p < (txs N').length := by rw [HNl.out]; omega
                  obtain ⟨q0, _⟩ := HT4.out.cells p hpt hpv
                  have ex : (txs N')[p].1 = N'[p].1 := by simp [txs]
                  rw [ex] at q0
                  have hpn2 : p < n := by omega
                  have hnx : ∀ j (hj : j < N'.length), j < p + 1 → N'[j].1 < m := by
                    intro j hj hjp
                    by_cases e : j = p
                    · subst e; exact hlt5
                    · exact hlow j hj (by omega)
                  obtain ⟨y, hy⟩ : ∃ y, N'[p].1 = y := ⟨_, rfl⟩
                  rw [hy] at q0 hlt5
                  have HNX := hide hnx
                  clear hlow hy ex hnx
                  go_wp2_with fail
                  go_roundw
                  case rel => exact ⟨p + 1, by omega, by go_num, HNX.out, trivial⟩
                  case measure => simp [intOf]; omega
                · have hge : ∀ h : p < N'.length, m < N'[p].1 := by
                    intro h
                    have h1 : ¬ N'[p].1 < m := fun h' => hc ⟨h, h'⟩
                    have h2 : N'[p].1 ≠ m := by
                      intro e
                      have hmem : N'[p] ∈ N := HP.out.mem_iff.1 (List.getElem_mem h)
                      have h3 := Hh.out
                      unfold hasId at h3
                      rw [List.any_eq_false] at h3
                      have := h3 _ hmem
                      simp [e] at this
                    omega
                  have hns := sorted_ins N' p (m, bs) (by omega) HSO.out hlow hge
                  have hlo := fun w' => slice_lo at' n ct p w' hpn hcap HNA.out
                  obtain ⟨ad, hhi, hadn, hads⟩ := slice_hi at' n ct p hpn hcap HNO.out HNA.out
                  obtain ⟨zz, hzz⟩ : ∃ zz, ((txs N').map Prod.fst).zip vs = zz := ⟨_, rfl⟩
                  have hrow := HT4.out.row
                  have hone := HT4.out.one
                  rw [hzz] at hrow hone
                  have hzl : (tx2 zz).length = n * 2 := by have := hrow.1; rw [HNl.out] at this; exact this
                  have hcells : ∀ g, at' = some ⟨g, 0, none⟩ → ∀ j u, (tx2 zz)[j]? = some u → wr.cell? ⟨g, j, none⟩ = some u := by
                    intro g hg j u hu
                    have := hrow.cells (g := g) (by rw [hg]; rfl) j u hu
                    rwa [add_zero'] at this
                  have hd1 : at' = none → p = 0 ∧ ct = 0 := fun e => by obtain ⟨e1, e2⟩ := HNO.out e; exact ⟨by omega, e2⟩
                  have hd2 : ((tx2 zz).take (p * 2)).length = p * 2 := by rw [List.length_take, hzl]; omega
                  have hd2b : ((tx2 zz).drop (p * 2)).length = (n - p) * 2 := by rw [List.length_drop, hzl]; omega
                  have hd3 : ∀ adr, at' = some adr → ∀ j u, ((tx2 zz).take (p * 2))[j]? = some u → wr.cell? (adr.add j) = some u := by
                    intro adr hadr j u hu
                    obtain ⟨g, rfl⟩ := HNA.out adr hadr
                    rw [add_zero']
                    refine hcells g hadr j u ?_
                    rw [List.getElem?_take] at hu
                    split at hu
                    · exact hu
                    · simp at hu
                  have hd3b : ∀ adr, ad = some adr → ∀ j u, ((tx2 zz).drop (p * 2))[j]? = some u → wr.cell? (adr.add j) = some u := by
                    intro adr hadr j u hu
                    have hj : j < ((tx2 zz).drop (p * 2)).length := by
                      rcases Nat.lt_or_ge j ((tx2 zz).drop (p * 2)).length with h | h
                      · exact h
                      · rw [List.getElem?_eq_none h] at hu; simp at hu
                    obtain ⟨g, hg, rfl⟩ := hads adr hadr (by omega)
                    have ea : (⟨g, p * 2, none⟩ : Addr).add j = ⟨g, p * 2 + j, none⟩ := by unfold Addr.add; split <;> simp_all
                    rw [ea]
                    refine hcells g hg _ u ?_
                    rw [List.getElem?_drop] at hu
                    exact hu
                  have hd4 : ∀ u ∈ (tx2 zz).take (p * 2), u.oneCell' = true := fun u hu => hone u (List.mem_of_mem_take hu)
                  have hd4b : ∀ u ∈ (tx2 zz).drop (p * 2), u.oneCell' = true := fun u hu => hone u (List.mem_of_mem_drop hu)
                  have HNS := hide hns
                  have HADN := hide hadn
                  have Hzz := hide hzz
                  have HD1 := hide hd1
                  have HD2 := hide hd2
                  have HD2b := hide hd2b
                  have HD3 := hide hd3
                  have HD3b := hide hd3b
                  have HD4 := hide hd4
                  have HD4b := hide hd4b
                  have hge' : ∀ (g : Nat), at' = some ⟨g, 0, none⟩ → p < n → ∃ y : Nat, wr.cell? ⟨g, p * 2, none⟩ = some (.int .i64 (y : Int)) ∧ ¬ y < m := by
                    rintro g rfl hlt6
                    have hpv : p < vs.length := by rw [HT4.out.len, HNl.out]; omega
                    have hpt : p < (txs N').length := by rw [HNl.out]; omega
                    obtain ⟨q0, _⟩ := HT4.out.cells p hpt hpv
                    have ex : (txs N')[p].1 = N'[p].1 := by simp [txs]
                    rw [ex] at q0
                    have h1 := hge (by omega)
                    exact ⟨_, q0, by omega⟩
                  clear hns hadn hzz hd1 hd2 hd2b hd3 hd3b hd4 hd4b hrow hone hzl hcells hlow hge hads hc
                  by_cases hlt6 : p < n
                  · obtain ⟨g, hga⟩ := hat (by omega)
                    obtain ⟨y, q0, hy⟩ := hge' g hga hlt6
                    subst hga
                    clear hge' hat
                    go_wp2_with (first
                      | (at_builtin; refine wpList_append_opt _ rfl _ _ 33 rfl wr.heap.size 52 i0 (.agg #[.int .i64 0, .slice none 0 0]) 2 32 Try.underlying33 hi0 hz0 hz1 hz2 rfl (by decide) _ 0 [] rfl (World.ownsRow_nil _ _ _ _) (some ⟨g, 0, none⟩) p ct ((tx2 zz).take (p * 2)) rfl HD1.out HD2.out HD3.out HD4.out ?d5 ?d6 ?d7 ?_)
                      | fail)
                    case d5 => unfold maxLen; omega
                    case d6 => omega
                    case d7 => exact Nat.le_refl _
                    intro v5 w5 hown5 hg5 hb5
                    obtain ⟨a5, c5, rfl, _⟩ := owns_forms hown5
                    have k5 : Kp [] wr w5 := (Kp.refl _ _).grown hg5 (fun k hk => by simp [Value.ownBlock] at hk)
                    have hz5 := k5.size
                    have HO5 := hide hown5
                    clear hown5 hg5 hb5
                    go_wp2_with (first
                      | (at_builtin; refine wpList_append_own_at _ rfl _ _ 33 rfl wr.heap.size 52 i0 (.agg #[.int .i64 0, .slice none 0 0]) 2 32 Try.underlying33 hi0 hz0 hz1 hz2 rfl (by decide) _ _ _ rfl (HO5.out.alloc _) ⟨w5.heap.size, 0, none⟩ 1 1 [.int .i64 (m : Int), .slice aw ws.length cw] rfl rfl (World.news_of_block (cs := #[.int .i64 (m : Int), .slice aw ws.length cw]) (t := 52) (fr := (0, 0)) (heap_alloc_new _ _)) ?c2 ?c3 ?c4 ?c5 ?_)
                      | fail)
                    case c2 => intro u hu; simp at hu; rcases hu with rfl | rfl <;> rfl
                    case c3 => unfold maxLen; omega
                    case c4 => omega
                    case c5 => simp; omega
                    intro v6 w6 hown6 hg6 _ _
                    obtain ⟨a6, c6, rfl, _⟩ := owns_forms hown6
                    have k6 : Kp (Value.slice a5 p c5).ownBlock.toList w5 w6 := ((Kp.refl _ _).alloc _).grown hg6 (fun j hj => .inl (by simp [hj]))
                    have k6' : Kp [] wr w6 := k5.trans k6 (fun x hx => .inr (HO5.out.lt x (by simpa using hx)).1)
                    have hz6 := k6'.size
                    have HO6 := hide hown6
                    have HD5 := hide (fun adr h1 j u h2 => k6'.cellv (HD3b.out adr h1 j u h2) (by simp))
                    clear hown6 hg6 k6 k5 HO5
                    go_wp2_with (first
                      | (at_builtin; refine wpList_append_opt _ rfl _ _ 33 rfl wr.heap.size 52 i0 (.agg #[.int .i64 0, .slice none 0 0]) 2 32 Try.underlying33 hi0 hz0 hz1 hz2 rfl (by decide) _ _ _ rfl HO6.out ad (n - p) (ct - p) ((tx2 zz).drop (p * 2)) rfl HADN.out HD2b.out HD5.out HD4b.out ?d5 ?d6 ?d7 ?_)
                      | fail)
                    case d5 => unfold maxLen; omega
                    case d6 => omega
                    case d7 => omega
                    intro v7 w7 hown7 hg7 hb7
                    rw [show p + 1 + (n - p) = n + 1 by omega] at hown7
                    obtain ⟨a7, c7, rfl, _⟩ := owns_forms hown7
                    have k7 : Kp (Value.slice a6 (p + 1) c6).ownBlock.toList w6 w7 := (Kp.refl _ _).grown hg7 (fun j hj => .inl (by simp [hj]))
                    have k7' : Kp [] wr w7 := k6'.trans k7 (fun x hx => .inr (HO6.out.lt x (by simpa using hx)).1)
                    have hins := HT4.out.ins HOW4.out HAP.out (show p ≤ (txs N').length by rw [HNl.out]; exact hpn) (id := m) (v' := .slice a7 (n + 1) c7) (by rw [HNl.out, Hzz.out, List.append_assoc]; exact owns_low hown7 k4'.size) k7'
                    have hl7 := k7'.owns HL4.out (by simp)
                    have HINS := hide hins
                    have HL7 := hide hl7
                    have kf := k4'.next k7'
                    clear hown7 hg7 hb7 k7 k6' k7' hins hl7 HO6 HD5
                    go_wp2_with fail
                    go_roundw
                    case rel =>
                      refine ⟨i + 1, N ++ [(m, bs)], ins N' p (m, bs), a4, a7, c4, c7, ins vs p (.slice aw ws.length cw), by omega, by go_num, by simp [Hn.out], by simp [Hn.out], ?_, ?_, perm_ins N N' p (m, bs) HP.out, HNS.out, ?_, ?_, ?_, kf⟩
                      · rw [docV_snoc, List.length_append, List.length_singleton, Hn.out]; exact HL7.out
                      · rw [txs_ins, List.length_append, List.length_singleton, Hn.out]
                        have e : wordsB bs = ws := hsp.out
                        simp only [e]
                        exact HINS.out
                      · rw [List.length_append, List.length_singleton, Hn.out]; omega
                      · intro x hx
                        rcases List.mem_append.1 hx with hx | hx
                        · exact HID.out x hx
                        · simp at hx; subst hx; have := Hm.out; simp; omega
                      · intro x hx
                        rcases List.mem_append.1 hx with hx | hx
                        · exact HSZ.out x hx
                        · simp at hx; subst hx; exact HBS.out
                    case measure => simp [intOf]; omega
                  · clear hge' hat
                    go_wp2_with (first
                      | (at_builtin; refine wpList_append_opt _ rfl _ _ 33 rfl wr.heap.size 52 i0 (.agg #[.int .i64 0, .slice none 0 0]) 2 32 Try.underlying33 hi0 hz0 hz1 hz2 rfl (by decide) _ 0 [] rfl (World.ownsRow_nil _ _ _ _) at' p ct ((tx2 zz).take (p * 2)) rfl HD1.out HD2.out HD3.out HD4.out ?d5 ?d6 ?d7 ?_)
                      | fail)
                    case d5 => unfold maxLen; omega
                    case d6 => omega
                    case d7 => exact Nat.le_refl _
                    intro v5 w5 hown5 hg5 hb5
                    obtain ⟨a5, c5, rfl, _⟩ := owns_forms hown5
                    have k5 : Kp [] wr w5 := (Kp.refl _ _).grown hg5 (fun k hk => by simp [Value.ownBlock] at hk)
                    have hz5 := k5.size
                    have HO5 := hide hown5
                    clear hown5 hg5 hb5
                    go_wp2_with (first
                      | (at_builtin; refine wpList_append_own_at _ rfl _ _ 33 rfl wr.heap.size 52 i0 (.agg #[.int .i64 0, .slice none 0 0]) 2 32 Try.underlying33 hi0 hz0 hz1 hz2 rfl (by decide) _ _ _ rfl (HO5.out.alloc _) ⟨w5.heap.size, 0, none⟩ 1 1 [.int .i64 (m : Int), .slice aw ws.length cw] rfl rfl (World.news_of_block (cs := #[.int .i64 (m : Int), .slice aw ws.length cw]) (t := 52) (fr := (0, 0)) (heap_alloc_new _ _)) ?c2 ?c3 ?c4 ?c5 ?_)
                      | fail)
                    case c2 => intro u hu; simp at hu; rcases hu with rfl | rfl <;> rfl
                    case c3 => unfold maxLen; omega
                    case c4 => omega
                    case c5 => simp; omega
                    intro v6 w6 hown6 hg6 _ _
                    obtain ⟨a6, c6, rfl, _⟩ := owns_forms hown6
                    have k6 : Kp (Value.slice a5 p c5).ownBlock.toList w5 w6 := ((Kp.refl _ _).alloc _).grown hg6 (fun j hj => .inl (by simp [hj]))
                    have k6' : Kp [] wr w6 := k5.trans k6 (fun x hx => .inr (HO5.out.lt x (by simpa using hx)).1)
                    have hz6 := k6'.size
                    have HO6 := hide hown6
                    have HD5 := hide (fun adr h1 j u h2 => k6'.cellv (HD3b.out adr h1 j u h2) (by simp))
                    clear hown6 hg6 k6 k5 HO5
                    go_wp2_with (first
                      | (at_builtin; refine wpList_append_opt _ rfl _ _ 33 rfl wr.heap.size 52 i0 (.agg #[.int .i64 0, .slice none 0 0]) 2 32 Try.underlying33 hi0 hz0 hz1 hz2 rfl (by decide) _ _ _ rfl HO6.out ad (n - p) (ct - p) ((tx2 zz).drop (p * 2)) rfl HADN.out HD2b.out HD5.out HD4b.out ?d5 ?d6 ?d7 ?_)
                      | fail)
                    case d5 => unfold maxLen; omega
                    case d6 => omega
                    case d7 => omega
                    intro v7 w7 hown7 hg7 hb7
                    rw [show p + 1 + (n - p) = n + 1 by omega] at hown7
                    obtain ⟨a7, c7, rfl, _⟩ := owns_forms hown7
                    have k7 : Kp (Value.slice a6 (p + 1) c6).ownBlock.toList w6 w7 := (Kp.refl _ _).grown hg7 (fun j hj => .inl (by simp [hj]))
                    have k7' : Kp [] wr w7 := k6'.trans k7 (fun x hx => .inr (HO6.out.lt x (by simpa using hx)).1)
                    have hins := HT4.out.ins HOW4.out HAP.out (show p ≤ (txs N').length by rw [HNl.out]; exact hpn) (id := m) (v' := .slice a7 (n + 1) c7) (by rw [HNl.out, Hzz.out, List.append_assoc]; exact owns_low hown7 k4'.size) k7'
                    have hl7 := k7'.owns HL4.out (by simp)
                    have HINS := hide hins
                    have HL7 := hide hl7
                    have kf := k4'.next k7'
                    clear hown7 hg7 hb7 k7 k6' k7' hins hl7 HO6 HD5
                    go_wp2_with fail
                    go_roundw
                    case rel =>
                      refine ⟨i + 1, N ++ [(m, bs)], ins N' p (m, bs), a4, a7, c4, c7, ins vs p (.slice aw ws.length cw), by omega, by go_num, by simp [Hn.out], by simp [Hn.out], ?_, ?_, perm_ins N N' p (m, bs) HP.out, HNS.out, ?_, ?_, ?_, kf⟩
                      · rw [docV_snoc, List.length_append, List.length_singleton, Hn.out]; exact HL7.out
                      · rw [txs_ins, List.length_append, List.length_singleton, Hn.out]
                        have e : wordsB bs = ws := hsp.out
                        simp only [e]
                        exact HINS.out
                      · rw [List.length_append, List.length_singleton, Hn.out]; omega
                      · intro x hx
                        rcases List.mem_append.1 hx with hx | hx
                        · exact HID.out x hx
                        · simp at hx; subst hx; have := Hm.out; simp; omega
                      · intro x hx
                        rcases List.mem_append.1 hx with hx | hx
                        · exact HSZ.out x hx
                        · simp at hx; subst hx; exact HBS.out
                    case measure => simp [intOf]; omega
      · go_wp2_with fail
        go_ret2
        exact ⟨_, _, N, N', vs, rfl, by rw [dcs_len, Hn.out]; exact HL.out, HT.out, HP.out, HSO.out, by rw [Hn.out]; exact h12, HID.out, HSZ.out, hkp⟩
    · go_wp2_with fail
      go_ret2
      exact ⟨_, _, N, N', vs, rfl, by rw [dcs_len, Hn.out]; exact HL.out, HT.out, HP.out, HSO.out, by rw [Hn.out]; exact h12, HID.out, HSZ.out, hkp⟩
end Go.Proofs.Ytpdoacfiiledcaa.Pak
