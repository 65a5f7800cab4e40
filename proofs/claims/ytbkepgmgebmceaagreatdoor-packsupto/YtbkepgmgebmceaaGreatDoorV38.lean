import Derived.Test.YtbkepgmgebmceaaGreatDoorV37

set_option linter.unusedVariables false
set_option maxRecDepth 4000
namespace Go.Proofs.YtbkepgmgebmceaaGreatDoor.Pak
open Go.RowKit Go.Proofs.YtbkepgmgebmceaaGreatDoor Go.Proofs.YtbkepgmgebmceaaGreatDoor.Spl SiftM

theorem kp_of_kb {t : TypeId} {a w w' : World} {C : Nat} (h : Kp [] a w) (k : Kb t [C] a.heap.size w w') (hC : a.heap.size ≤ C) : Kp [] a w' :=
  ⟨k.os.trans h.os, k.tape.trans h.tape, k.output.trans h.output, Nat.le_trans h.size k.size, fun i hi hx => by
    have h1 := h.block i hi hx
    have hlt : i < w.heap.size := Nat.lt_of_lt_of_le hi h.size
    have h2 := k.block i _ (by simp; omega) (Array.getElem?_eq_getElem hlt) (.inl hi)
    rw [h2, ← h1, Array.getElem?_eq_getElem hlt]⟩
theorem rowD_snoc (ids : List Nat) (k x : Nat) (h : ids.length = k) : rowD (ids ++ [x]) emptyV (k + 1) = rowD ids emptyV k ++ [.int .i64 (x : Int), .slice none 0 0, .bool false] := by
  rw [rowD, rowD_congr (ids ++ [x]) ids emptyV emptyV k (fun d hd => ⟨by simp [List.getD, List.getElem?_append_left (show d < ids.length by omega)], rfl⟩)]
  congr 2
  subst h
  simp [List.getD]
theorem DocsF.kb {w w' : World} {base N C : Nat} {v : Value} {ids : List Nat} {wF : Nat → List (List UInt8)} {vF : Nat → Value} {cs : Array Value} {fr : Nat × Nat} (h : DocsF w base v ids N wF vF) (k : Kb 423 [C] base w w') (hC : w.heap[C]? = some (.cells cs 356 fr)) : DocsF w' base v ids N wF vF :=
  ⟨k.owns h.row (by decide) (fun x hx => by simp at hx; subst hx; exact owns_ne h.row hC (by decide)), fun d hd => k.owns (h.each d hd) (by decide) (fun x hx => by simp at hx; subst hx; exact owns_ne (h.each d hd) hC (by decide))⟩

def wFi (L : List Sl) (m i : Nat) : Nat → List (List UInt8) := fun d => if d < i then rwords L d (m + 1) 0 else []
theorem wFi_upd (L : List Sl) (m i : Nat) : upd (wFi L m i) i (rwords L i (m + 1) 0) = wFi L m (i + 1) := by
  funext d
  unfold upd wFi
  by_cases e : d = i
  · subst e; simp
  · rw [if_neg e]
    by_cases h : d < i
    · rw [if_pos h, if_pos (by omega)]
    · rw [if_neg h, if_neg (by omega)]

/-- What a call of guess leaves. -/
def GuessPost (F : List UInt8) (w : World) (e : Ending) (w' : World) : Prop :=
  Kp [] w w' ∧ (rguess F = none ∧ e = .returned (.tuple #[.slice none 0 0, .bool false]) ∨
    ∃ (T : List Tx) (a : Option Addr) (c N : Nat) (vs : List Value), rguess F = some T ∧ T.length = N ∧ e = .returned (.tuple #[.slice a N c, .bool true]) ∧ DocsIs w' w.heap.size (.slice a N c) T vs)

theorem rids_len : ∀ (k nx : Nat) (ids : List Nat) (l : List UInt8) (b : Bool), (rids k nx ids l b).1.length ≤ ids.length + k
  | 0, nx, ids, l, b => by simp [rids]
  | k + 1, nx, ids, l, b => by
    rw [rids]
    split
    · simp
    · have := rids_len k (nx + (rnum l b).1 + 1) (ids ++ [nx + (rnum l b).1]) (rnum l b).2.1 (rnum l b).2.2
      simp at this; omega

theorem num_bnd {n p p' : Nat} {b : Bool} (hp : p ≤ n + 1) (hq : p' ≤ n ∨ p' = p) (ha : p < p' ∨ b = true) : p' ≤ n + 1 ∧ (b = false → p' ≤ n) := by
  refine ⟨by omega, fun h => ?_⟩
  subst h
  simp at ha
  omega

set_option maxHeartbeats 1000000 in
set_option maxRecDepth 100000 in
theorem rguess_any (n cap : Nat) (a : Option Addr) (F : List UInt8) (w : World) (hv : Vw w w.heap.size a F) (hn : F.length = n) (hn2 : n ≤ 4000000) (hc : n ≤ cap) :
    Calls Tryz.prog 156 #[.slice a n cap] w (GuessPost F w) := by
  obtain ⟨i0, hi0, hz0, hz1, hz2⟩ := info_parts info148
  obtain ⟨C, hC⟩ : ∃ C, w.heap.size = C := ⟨_, rfl⟩
  have HV := hide hv
  have Hn := hide hn
  have HC := hide hC
  clear hv hn
  go_enter Tryz.func156, Tryz.ntmps156
  go_wp2_with fail
  have h0 : Cu (w.alloc (Obj.cells #[.slice a n cap, .int .i64 1, .bool false] 356)) C C a n cap F 1 false := ⟨by rw [← HC.out]; exact heap_alloc_new _ _, vw_kp (by have := HV.out; rw [HC.out] at this; exact this) ((Kp.refl [] w).alloc _) (by simp), Nat.le_refl _⟩
  have k0 : Kp [] w (w.alloc (Obj.cells #[.slice a n cap, .int .i64 1, .bool false] 356)) := (Kp.refl [] w).alloc _
  refine (rnumber_any C C n cap a F 1 false _ h0 Hn.out hn2 (by omega)).mono ?_
  rintro e w1 ⟨p1, rfl, hc1, hd1, hp1, hq1, ha1, k1⟩
  have hl1 := rnum_lt (F.drop 1) false
  have kk1 : Kp [] w w1 := k0.trans k1 (fun x hx => .inr (by simp at hx; omega))
  obtain ⟨N1, hN1⟩ : ∃ N1, rnum (F.drop 1) false = N1 := ⟨_, rfl⟩
  rw [hN1] at hc1 hd1 ha1 hl1
  rw [hN1]
  rw [Hn.out] at hq1
  obtain ⟨hb1, hb1'⟩ := num_bnd (by omega) hq1 ha1
  obtain ⟨K, hK⟩ : ∃ K, N1.1 = K := ⟨_, rfl⟩
  obtain ⟨b1, hbb⟩ : ∃ b1, N1.2.2 = b1 := ⟨_, rfl⟩
  obtain ⟨RI, hRI⟩ : ∃ RI, rids K 0 [] (F.drop p1) b1 = RI := ⟨_, rfl⟩
  have HG : Hid (rguess F = if 60 < K then none else
      if (rmany (rnum RI.2.1 RI.2.2).1 ([], (rnum RI.2.1 RI.2.2).2.1, (rnum RI.2.1 RI.2.2).2.2)).2.2 = true then none else some ((List.range RI.1.length).map fun d => (RI.1.getD d 0, rwords (rmany (rnum RI.2.1 RI.2.2).1 ([], (rnum RI.2.1 RI.2.2).2.1, (rnum RI.2.1 RI.2.2).2.2)).1 d ((rmany (rnum RI.2.1 RI.2.2).1 ([], (rnum RI.2.1 RI.2.2).2.1, (rnum RI.2.1 RI.2.2).2.2)).1.length + 1) 0))) := by
    show _ = _
    unfold rguess
    simp only [hN1, hK, hbb, ← hd1, hRI]
  rw [hbb] at hc1 hb1'
  rw [hK] at hl1
  rw [hK]
  have HRI := hide hRI
  have HC1 := hide hc1
  have HB1 := hide hb1'
  clear hc1 hd1 hN1 hRI hK hbb h0 k0 k1 ha1 hq1 hb1' HV hp1
  by_cases hbig : 60 < K
  · have hg := HG.out
    rw [if_pos hbig] at hg
    have HGG := hide hg
    clear hg
    go_wp2_with fail
    go_ret2
    exact ⟨kk1, .inl ⟨HGG.out, rfl⟩⟩
  have hg := HG.out
  rw [if_neg hbig] at hg
  have HGG := hide hg
  have hK60 : K ≤ 60 := by omega
  clear hg HG
  go_wp2_with fail
  go_loopw [6, 7, 8] (fun dv xv iv wr => ∃ (i nx : Nat) (ids : List Nat) (al : Option Addr) (cl p : Nat) (b : Bool), i ≤ K ∧ iv = .int .i64 i ∧ xv = .int .i64 ((nx : Int) - 1) ∧ dv = .slice al i cl ∧ ids.length = i ∧ nx ≤ i * 268435456 ∧ rids (K - i) nx ids (F.drop p) b = RI ∧ p ≤ n + 1 ∧ (b = false → p ≤ n) ∧ Cu wr C C a n cap F p b ∧ wr.ownsRow C 251 3 (.slice al i cl) i (rowD ids emptyV i) ∧ Kp [] w wr) (fun _ _ iv _ => K - (intOf iv).toNat)
  case atStart => exact ⟨0, 0, [], none, 0, p1, b1, by omega, rfl, rfl, rfl, rfl, by omega, HRI.out, hb1, HB1.out, HC1.out, World.ownsRow_nil _ _ _ _, kk1⟩
  case round =>
    clear HC1 HB1 HRI kk1 hb1
    obtain ⟨i, nx, ids, al, cl, p, b, hi, rfl, rfl, rfl, hids, hnx, hr, hpn, hpb, hcu, ho, hkp⟩ := hrel
    obtain ⟨c0, c1, c2, f1, f2⟩ := hcu.cells
    have hcl := heap_lt hcu.blk
    by_cases hgo : i < K ∧ b = false
    · obtain ⟨hlt, rfl⟩ := hgo
      obtain ⟨j, hj⟩ : ∃ j, K - i = j + 1 := ⟨K - i - 1, by omega⟩
      rw [hj, rids, if_neg (by simp)] at hr
      have HNU := hide (rnumber_any C C n cap a F p false wr hcu Hn.out hn2 hpn)
      have hl2 := rnum_lt (F.drop p) false
      have HR := hide hr
      have HCU := hide hcu
      have HO := hide ho
      have HID := hide hids
      clear hr hcu ho hids hpb
      go_wp2_with fail
      refine HNU.out.mono ?_
      rintro e w2 ⟨p2, rfl, hc2, hd2, hp2, hq2, ha2, k2⟩
      obtain ⟨N2, hN2⟩ : ∃ N2, rnum (F.drop p) false = N2 := ⟨_, rfl⟩
      rw [hN2] at hc2 hd2 ha2 hl2
      rw [hN2]
      rw [Hn.out] at hq2
      obtain ⟨hb2, hb2'⟩ := num_bnd hpn hq2 ha2
      have HR2 : Hid (rids j (nx + N2.1 + 1) (ids ++ [nx + N2.1]) (F.drop p2) N2.2.2 = RI) := by
        show _ = _
        rw [← HR.out, hN2, hd2]
      obtain ⟨q, hq⟩ : ∃ q, N2.1 = q := ⟨_, rfl⟩
      obtain ⟨b2, hbb2⟩ : ∃ b2, N2.2.2 = b2 := ⟨_, rfl⟩
      rw [hq, hbb2] at HR2
      rw [hq] at hl2
      rw [hbb2] at hc2 hb2'
      rw [hq]
      have hz2' := k2.size
      have HO2 := hide (k2.owns HO.out (fun g hg hx => by simp at hx; subst hx; exact owns_ne HO.out HCU.out.blk (by decide) hg))
      have kk2 : Kp [] w w2 := hkp.trans k2 (fun x hx => .inr (by simp at hx; omega))
      have HC2 := hide hc2
      have HB2 := hide hb2'
      have hbd : nx + q ≤ 72057594037927936 := by omega
      have hzc : C < w2.heap.size := by omega
      clear hc2 hd2 k2 hN2 hq hbb2 HNU HCU HO HR c0 c1 c2 f1 f2 ha2 hq2 hb2' hkp hp2
      go_wp2_with (first
        | (at_builtin; refine wpList_append_own_at _ rfl _ _ 175 rfl C 251 i0 (.agg #[.int .i64 0, .slice none 0 0, .bool false]) 3 40 Tryz.underlying175 hi0 hz0 hz1 hz2 rfl (by decide) _ _ _ rfl (HO2.out.alloc _) ⟨w2.heap.size, 0, none⟩ 1 1 [.int .i64 ((nx : Int) + (q : Int)), .slice none 0 0, .bool false] rfl rfl (World.news_of_block (cs := #[.int .i64 ((nx : Int) + (q : Int)), .slice none 0 0, .bool false]) (t := 251) (fr := (0, 0)) (heap_alloc_new _ _)) ?c2 ?c3 ?c4 ?c5 ?_)
        | fail)
      case c2 => intro u hu; simp at hu; rcases hu with rfl | rfl | rfl <;> rfl
      case c3 => unfold maxLen; omega
      case c4 => omega
      case c5 => simp; omega
      intro v3 w3 ho3 hgrow _ _
      obtain ⟨a3, c3, rfl, _⟩ := owns_forms ho3
      have k3 : Kp (Value.slice al i cl).ownBlock.toList w2 w3 := ((Kp.refl _ _).alloc _).grown hgrow (fun j hj => .inl (by simp [hj]))
      have hge3 : ∀ x ∈ (Value.slice al i cl).ownBlock.toList, C ≤ x := fun x hx => (HO2.out.lt x (by simpa using hx)).1
      have HC3 := hide (HC2.out.kp k3 (fun hx => owns_ne HO2.out HC2.out.blk (by decide) (by simpa using hx)) hge3)
      have kk3 : Kp [] w w3 := kk2.trans k3 (fun x hx => .inr (by have := hge3 x hx; omega))
      have ho3' : w3.ownsRow C 251 3 (.slice a3 (i + 1) c3) (i + 1) (rowD (ids ++ [nx + q]) emptyV (i + 1)) := by
        rw [rowD_snoc ids i (nx + q) HID.out]
        have e1 : (((nx + q : Nat)) : Int) = (nx : Int) + (q : Int) := by omega
        simp only [e1]
        exact ho3
      have HO3 := hide ho3'
      have hj' : K - (i + 1) = j := by omega
      clear ho3 ho3' hgrow k3 HO2 HC2 kk2 hge3
      go_wp2_with fail
      go_roundw
      case rel => exact ⟨i + 1, nx + q + 1, ids ++ [nx + q], a3, c3, p2, b2, by omega, by go_num, by go_num, rfl, by rw [List.length_append, HID.out]; rfl, by omega, by rw [hj']; exact HR2.out, hb2, HB2.out, HC3.out, HO3.out, kk3⟩
      case measure => simp [intOf]; omega
    · have hfin : RI = (ids, F.drop p, b) := by
        rw [← hr]
        by_cases hb : b = true
        · subst hb
          cases K - i with
          | zero => rfl
          | succ j => rw [rids, if_pos rfl]
        · have : K - i = 0 := by
            have hb' : b = false := by simpa using hb
            have hnl : ¬ i < K := fun h => hgo ⟨h, hb'⟩
            omega
          rw [this]; rfl
      have hg := HGG.out
      rw [hfin] at hg
      simp only at hg
      rw [hids] at hg
      have HG2 := hide hg
      have HNU := hide (rnumber_any C C n cap a F p b wr hcu Hn.out hn2 hpn)
      have HCU := hide hcu
      have HO := hide ho
      have HID := hide hids
      have hex : (i < K ∧ b = true) ∨ ¬ i < K := by
        by_cases h : i < K
        · left
          refine ⟨h, ?_⟩
          by_cases hb : b = true
          · exact hb
          · exact absurd ⟨h, by simpa using hb⟩ hgo
        · exact .inr h
      clear hfin hg hcu ho hids hr hgo hpb HGG
      rcases hex with ⟨hlt, rfl⟩ | hlt
      · skip
        go_wp2_with fail
        refine HNU.out.mono ?_
        rintro e w2 ⟨p2, rfl, hc2, hd2, hp2, hq2, ha2, k2⟩
        have hl2 := rnum_lt (F.drop p) true
        obtain ⟨N2, hN2⟩ : ∃ N2, rnum (F.drop p) true = N2 := ⟨_, rfl⟩
        have hg2 := HG2.out
        rw [hN2] at hc2 hd2 ha2 hg2
        rw [hN2]
        rw [Hn.out] at hq2
        obtain ⟨hb2, hb2'⟩ := num_bnd hpn hq2 ha2
        replace hl2 : N2.1 < 268435456 := by rw [← hN2]; exact hl2
        have hz2' := k2.size
        have ho2 := k2.owns HO.out (fun g hg hx => by simp at hx; subst hx; exact owns_ne HO.out HCU.out.blk (by decide) hg)
        have kk2 : Kp [] w w2 := hkp.trans k2 (fun x hx => .inr (by simp at hx; omega))
        have hdf : DocsF w2 C (.slice al i cl) ids i (fun _ => []) emptyV := ⟨ho2, fun d hd => World.ownsRow_nil _ _ _ _⟩
        obtain ⟨M, hM⟩ : ∃ M, N2.1 = M := ⟨_, rfl⟩
        obtain ⟨b2, hbb2⟩ : ∃ b2, N2.2.2 = b2 := ⟨_, rfl⟩
        rw [hM, ← hd2, hbb2] at hg2
        rw [hM] at hl2
        rw [hbb2] at hc2 hb2'
        rw [hM]
        obtain ⟨RM, hRM⟩ : ∃ RM, rmany M ([], F.drop p2, b2) = RM := ⟨_, rfl⟩
        rw [hRM] at hg2
        have HG3 := hide hg2
        have HRM := hide hRM
        have HC2 := hide hc2
        have HB2 := hide hb2'
        have HDF := hide hdf
        clear hc2 hd2 ha2 hq2 hb2' hN2 hM hbb2 hRM hg2 hdf ho2 k2 hkp HNU HCU HO c0 c1 c2 f1 f2 hp2 HG2 hz2' hcl
        go_wp2_with fail
        go_loopw [11, 12] (fun lv iv wr => ∃ (t : Nat) (L : List Sl) (al2 : Option Addr) (cl2 m p : Nat) (b : Bool), t ≤ M ∧ iv = .int .i64 t ∧ lv = .slice al2 m cl2 ∧ L.length = m ∧ rmany (M - t) (L, F.drop p, b) = RM ∧ p ≤ n + 1 ∧ (b = false → p ≤ n ∧ m ≤ p) ∧ m ≤ n + 2 ∧ Cu wr C C a n cap F p b ∧ wr.ownsRow C 423 3 (.slice al2 m cl2) m (sl3 L) ∧ DocsF wr C (.slice al i cl) ids i (fun _ => []) emptyV ∧ Kp [] w wr) (fun _ iv _ => M - (intOf iv).toNat)
        case atStart => exact ⟨0, [], none, 0, 0, p2, b2, by omega, rfl, rfl, rfl, HRM.out, hb2, fun h => ⟨HB2.out h, by omega⟩, by omega, HC2.out, World.ownsRow_nil _ _ _ _, HDF.out, kk2⟩
        case round =>
          clear HC2 HB2 HRM HDF kk2 hb2
          obtain ⟨t, L, al2, cl2, m, p, b, ht, rfl, rfl, hm, hr, hpn, hpb, hmn, hcu, ho, hdf, hkp⟩ := hrel
          obtain ⟨c0, c1, c2, f1, f2⟩ := hcu.cells
          have hcl := heap_lt hcu.blk
          have hzk := hkp.size
          by_cases hgo : t < M ∧ b = false
          · obtain ⟨hlt3, rfl⟩ := hgo
            obtain ⟨j, hj⟩ : ∃ j, M - t = j + 1 := ⟨M - t - 1, by omega⟩
            rw [hj, rmany, if_neg (by simp)] at hr
            have HS := hide (rslots_any C C n cap a F p false C al2 cl2 m L wr hcu Hn.out hn2 hc (hpb rfl).1 rfl ho hm (hpb rfl).2 (by omega) (Nat.le_refl _))
            have HR := hide hr
            have HCU := hide hcu
            have HDF := hide hdf
            clear hr hcu ho hm hpb hdf
            go_wp2_with fail
            refine HS.out.mono ?_
            rintro e w3 ⟨al3, cl3, m3, p3, rfl, hm3, ho3, hc3, hd3, hp3, hq3, hmp3, hmb3, k3⟩
            have hr3 := HR.out
            obtain ⟨S, hS⟩ : ∃ S, rslots L (F.drop p) false = S := ⟨_, rfl⟩
            rw [hS] at hm3 ho3 hc3 hd3 hq3 hmb3 hr3
            have HR3 : Hid (rmany j (S.1, F.drop p3, S.2.2) = RM) := by
              show _ = _
              rw [hd3]; exact hr3
            have hp3n : p3 ≤ n + 1 := by rcases hq3 with h | ⟨_, h⟩ <;> omega
            have hpb3 : S.2.2 = false → p3 ≤ n ∧ m3 ≤ p3 := by
              intro h
              refine ⟨?_, hmb3 h⟩
              rcases hq3 with h' | ⟨h', _⟩
              · exact h'
              · rw [h] at h'; simp at h'
            have kk3 : Kp [] w w3 := kp_of_kb hkp (by rw [HC.out]; exact k3) (by omega)
            have HM3 := hide hm3
            have HO3 := hide ho3
            have HC3 := hide hc3
            have HPB3 := hide hpb3
            have HDF3 := hide (HDF.out.kb k3 HCU.out.blk)
            have hj' : M - (t + 1) = j := by omega
            have hm3n : m3 ≤ n + 2 := by omega
            clear hm3 ho3 hc3 hpb3 hr3 hd3 hq3 hmb3 hS HR HCU HDF HS k3 c0 c1 c2 f1 f2 hkp
            go_wp2_with fail
            go_roundw
            case rel => exact ⟨t + 1, S.1, al3, cl3, m3, p3, S.2.2, by omega, by go_num, rfl, HM3.out, by rw [hj']; exact HR3.out, hp3n, HPB3.out, hm3n, HC3.out, HO3.out, HDF3.out, kk3⟩
            case measure => simp [intOf]; omega
          · have hfin : RM = (L, F.drop p, b) := by
              rw [← hr]
              by_cases hb : b = true
              · subst hb
                cases M - t with
                | zero => rfl
                | succ j => rw [rmany, if_pos rfl]
              · have : M - t = 0 := by
                  have hb' : b = false := by simpa using hb
                  have hnl : ¬ t < M := fun h => hgo ⟨h, hb'⟩
                  omega
                rw [this]; rfl
            have hg3 := HG3.out
            rw [hfin] at hg3
            simp only at hg3
            rw [hm] at hg3
            cases b with
            | true =>
              rw [if_pos rfl] at hg3
              have HG4 := hide hg3
              clear hg3 hfin hr hgo hcu ho hdf hm hpb HG3
              by_cases hlt3 : t < M
              · go_wp2_with fail
                go_ret2
                exact ⟨hkp, .inl ⟨HG4.out, rfl⟩⟩
              · go_wp2_with fail
                go_ret2
                exact ⟨hkp, .inl ⟨HG4.out, rfl⟩⟩
            | false =>
              have hlt3 : ¬ t < M := fun h => hgo ⟨h, rfl⟩
              rw [if_neg (by simp)] at hg3
              have HG4 := hide hg3
              have HO := hide ho
              have HDF := hide hdf
              have Hm := hide hm
              clear hg3 hfin hr hgo hcu ho hdf hm hpb HG3
              go_wp2_with fail
              go_loopw [13] (fun iv wr => ∃ (d : Nat) (vF : Nat → Value), d ≤ i ∧ iv = .int .i64 d ∧ DocsF wr C (.slice al i cl) ids i (wFi L m d) vF ∧ wr.ownsRow C 423 3 (.slice al2 m cl2) m (sl3 L) ∧ Kp [] w wr) (fun iv _ => i - (intOf iv).toNat)
              case atStart => exact ⟨0, emptyV, by omega, rfl, by have e : wFi L m 0 = fun _ => [] := by { funext d; unfold wFi; rw [if_neg (by omega)] }
                                                                  rw [e]; exact HDF.out, HO.out, hkp⟩
              case round =>
                clear HDF HO hkp c0 c1 c2 f1 f2
                obtain ⟨d, vF, hd, rfl, hdf, ho, hkp⟩ := hrel
                have hzk2 := hkp.size
                by_cases hlt4 : d < i
                · obtain ⟨g, rfl⟩ : ∃ g, al = some ⟨g, 0, none⟩ := by
                    obtain ⟨a5, c5, e5, h5⟩ := owns_forms hdf.row
                    obtain ⟨g, hg⟩ := h5 (by omega)
                    simp at e5
                    exact ⟨g, by rw [e5.1, hg]⟩
                  have HW := hide (rwordsOf_any C al2 cl2 m L d wr ho Hm.out (by omega))
                  have HO := hide ho
                  have HDF := hide hdf
                  clear ho hdf
                  go_wp2_with fail
                  refine HW.out.mono ?_
                  rintro e w5 ⟨a5, c5, n5, hn5, rfl, ho5, k5⟩
                  have hz5 := k5.size
                  have kk5 : Kp [] w w5 := hkp.trans k5 (by simp)
                  have hdf5 := HDF.out.kp k5 (by simp) (by simp)
                  have hol5 := k5.owns HO.out (by simp)
                  obtain ⟨g1, g2⟩ := owns_at hdf5.row (rowD_get ids vF i d hlt4).2
                  obtain ⟨hgC, hgl⟩ := hdf5.row.lt g rfl
                  have ho5' := owns_low ho5 (show C ≤ wr.heap.size by omega)
                  have hput := hdf5.put (w' := w5) hlt4 (ws := rwords L d (m + 1) 0) (lv := .slice a5 n5 c5) (by rw [hn5]; exact ho5')
                  rw [wFi_upd] at hput
                  have kg : Kp [g] w5 (w5.setCell ⟨g, d * 3 + 1, none⟩ (.slice a5 n5 c5)) := (Kp.refl [g] w5).setCell (p := ⟨g, d * 3 + 1, none⟩) (.inl (by simp)) _
                  have HL6 := hide (kg.owns hol5 (fun y hy hx => by simp at hx; subst hx; exact owns_disj hdf5.row hol5 (by decide) y rfl hy))
                  have kk6 := hide (kk5.trans kg (fun x hx => .inr (by simp at hx; omega)))
                  have HP6 := hide hput
                  clear hput ho5 ho5' hol5 hdf5 kg k5 HDF HO HW kk5 hkp hn5
                  go_wp2_with fail
                  go_roundw
                  case rel => exact ⟨d + 1, _, by omega, by go_num, HP6.out, HL6.out, kk6.out⟩
                  case measure => simp [intOf]; omega
                · have hdi : d = i := by omega
                  have hdocs := hdf.docs
                  have e6 : ((List.range i).map fun d' => (ids.getD d' 0, wFi L m d d')) = ((List.range i).map fun d' => (ids.getD d' 0, rwords L d' (m + 1) 0)) := by
                    apply List.map_congr_left
                    intro x hx
                    have := List.mem_range.1 hx
                    unfold wFi
                    rw [if_pos (by omega)]
                  rw [e6] at hdocs
                  have HDD := hide hdocs
                  clear hdocs hdf ho e6
                  go_wp2_with fail
                  go_ret2
                  exact ⟨hkp, .inr ⟨_, al, cl, i, _, HG4.out, by simp, rfl, by rw [HC.out]; exact HDD.out⟩⟩
      · skip
        go_wp2_with fail
        refine HNU.out.mono ?_
        rintro e w2 ⟨p2, rfl, hc2, hd2, hp2, hq2, ha2, k2⟩
        have hl2 := rnum_lt (F.drop p) b
        obtain ⟨N2, hN2⟩ : ∃ N2, rnum (F.drop p) b = N2 := ⟨_, rfl⟩
        have hg2 := HG2.out
        rw [hN2] at hc2 hd2 ha2 hg2
        rw [hN2]
        rw [Hn.out] at hq2
        obtain ⟨hb2, hb2'⟩ := num_bnd hpn hq2 ha2
        replace hl2 : N2.1 < 268435456 := by rw [← hN2]; exact hl2
        have hz2' := k2.size
        have ho2 := k2.owns HO.out (fun g hg hx => by simp at hx; subst hx; exact owns_ne HO.out HCU.out.blk (by decide) hg)
        have kk2 : Kp [] w w2 := hkp.trans k2 (fun x hx => .inr (by simp at hx; omega))
        have hdf : DocsF w2 C (.slice al i cl) ids i (fun _ => []) emptyV := ⟨ho2, fun d hd => World.ownsRow_nil _ _ _ _⟩
        obtain ⟨M, hM⟩ : ∃ M, N2.1 = M := ⟨_, rfl⟩
        obtain ⟨b2, hbb2⟩ : ∃ b2, N2.2.2 = b2 := ⟨_, rfl⟩
        rw [hM, ← hd2, hbb2] at hg2
        rw [hM] at hl2
        rw [hbb2] at hc2 hb2'
        rw [hM]
        obtain ⟨RM, hRM⟩ : ∃ RM, rmany M ([], F.drop p2, b2) = RM := ⟨_, rfl⟩
        rw [hRM] at hg2
        have HG3 := hide hg2
        have HRM := hide hRM
        have HC2 := hide hc2
        have HB2 := hide hb2'
        have HDF := hide hdf
        clear hc2 hd2 ha2 hq2 hb2' hN2 hM hbb2 hRM hg2 hdf ho2 k2 hkp HNU HCU HO c0 c1 c2 f1 f2 hp2 HG2 hz2' hcl
        go_wp2_with fail
        go_loopw [11, 12] (fun lv iv wr => ∃ (t : Nat) (L : List Sl) (al2 : Option Addr) (cl2 m p : Nat) (b : Bool), t ≤ M ∧ iv = .int .i64 t ∧ lv = .slice al2 m cl2 ∧ L.length = m ∧ rmany (M - t) (L, F.drop p, b) = RM ∧ p ≤ n + 1 ∧ (b = false → p ≤ n ∧ m ≤ p) ∧ m ≤ n + 2 ∧ Cu wr C C a n cap F p b ∧ wr.ownsRow C 423 3 (.slice al2 m cl2) m (sl3 L) ∧ DocsF wr C (.slice al i cl) ids i (fun _ => []) emptyV ∧ Kp [] w wr) (fun _ iv _ => M - (intOf iv).toNat)
        case atStart => exact ⟨0, [], none, 0, 0, p2, b2, by omega, rfl, rfl, rfl, HRM.out, hb2, fun h => ⟨HB2.out h, by omega⟩, by omega, HC2.out, World.ownsRow_nil _ _ _ _, HDF.out, kk2⟩
        case round =>
          clear HC2 HB2 HRM HDF kk2 hb2
          obtain ⟨t, L, al2, cl2, m, p, b, ht, rfl, rfl, hm, hr, hpn, hpb, hmn, hcu, ho, hdf, hkp⟩ := hrel
          obtain ⟨c0, c1, c2, f1, f2⟩ := hcu.cells
          have hcl := heap_lt hcu.blk
          have hzk := hkp.size
          by_cases hgo : t < M ∧ b = false
          · obtain ⟨hlt3, rfl⟩ := hgo
            obtain ⟨j, hj⟩ : ∃ j, M - t = j + 1 := ⟨M - t - 1, by omega⟩
            rw [hj, rmany, if_neg (by simp)] at hr
            have HS := hide (rslots_any C C n cap a F p false C al2 cl2 m L wr hcu Hn.out hn2 hc (hpb rfl).1 rfl ho hm (hpb rfl).2 (by omega) (Nat.le_refl _))
            have HR := hide hr
            have HCU := hide hcu
            have HDF := hide hdf
            clear hr hcu ho hm hpb hdf
            go_wp2_with fail
            refine HS.out.mono ?_
            rintro e w3 ⟨al3, cl3, m3, p3, rfl, hm3, ho3, hc3, hd3, hp3, hq3, hmp3, hmb3, k3⟩
            have hr3 := HR.out
            obtain ⟨S, hS⟩ : ∃ S, rslots L (F.drop p) false = S := ⟨_, rfl⟩
            rw [hS] at hm3 ho3 hc3 hd3 hq3 hmb3 hr3
            have HR3 : Hid (rmany j (S.1, F.drop p3, S.2.2) = RM) := by
              show _ = _
              rw [hd3]; exact hr3
            have hp3n : p3 ≤ n + 1 := by rcases hq3 with h | ⟨_, h⟩ <;> omega
            have hpb3 : S.2.2 = false → p3 ≤ n ∧ m3 ≤ p3 := by
              intro h
              refine ⟨?_, hmb3 h⟩
              rcases hq3 with h' | ⟨h', _⟩
              · exact h'
              · rw [h] at h'; simp at h'
            have kk3 : Kp [] w w3 := kp_of_kb hkp (by rw [HC.out]; exact k3) (by omega)
            have HM3 := hide hm3
            have HO3 := hide ho3
            have HC3 := hide hc3
            have HPB3 := hide hpb3
            have HDF3 := hide (HDF.out.kb k3 HCU.out.blk)
            have hj' : M - (t + 1) = j := by omega
            have hm3n : m3 ≤ n + 2 := by omega
            clear hm3 ho3 hc3 hpb3 hr3 hd3 hq3 hmb3 hS HR HCU HDF HS k3 c0 c1 c2 f1 f2 hkp
            go_wp2_with fail
            go_roundw
            case rel => exact ⟨t + 1, S.1, al3, cl3, m3, p3, S.2.2, by omega, by go_num, rfl, HM3.out, by rw [hj']; exact HR3.out, hp3n, HPB3.out, hm3n, HC3.out, HO3.out, HDF3.out, kk3⟩
            case measure => simp [intOf]; omega
          · have hfin : RM = (L, F.drop p, b) := by
              rw [← hr]
              by_cases hb : b = true
              · subst hb
                cases M - t with
                | zero => rfl
                | succ j => rw [rmany, if_pos rfl]
              · have : M - t = 0 := by
                  have hb' : b = false := by simpa using hb
                  have hnl : ¬ t < M := fun h => hgo ⟨h, hb'⟩
                  omega
                rw [this]; rfl
            have hg3 := HG3.out
            rw [hfin] at hg3
            simp only at hg3
            rw [hm] at hg3
            cases b with
            | true =>
              rw [if_pos rfl] at hg3
              have HG4 := hide hg3
              clear hg3 hfin hr hgo hcu ho hdf hm hpb HG3
              by_cases hlt3 : t < M
              · go_wp2_with fail
                go_ret2
                exact ⟨hkp, .inl ⟨HG4.out, rfl⟩⟩
              · go_wp2_with fail
                go_ret2
                exact ⟨hkp, .inl ⟨HG4.out, rfl⟩⟩
            | false =>
              have hlt3 : ¬ t < M := fun h => hgo ⟨h, rfl⟩
              rw [if_neg (by simp)] at hg3
              have HG4 := hide hg3
              have HO := hide ho
              have HDF := hide hdf
              have Hm := hide hm
              clear hg3 hfin hr hgo hcu ho hdf hm hpb HG3
              go_wp2_with fail
              go_loopw [13] (fun iv wr => ∃ (d : Nat) (vF : Nat → Value), d ≤ i ∧ iv = .int .i64 d ∧ DocsF wr C (.slice al i cl) ids i (wFi L m d) vF ∧ wr.ownsRow C 423 3 (.slice al2 m cl2) m (sl3 L) ∧ Kp [] w wr) (fun iv _ => i - (intOf iv).toNat)
              case atStart => exact ⟨0, emptyV, by omega, rfl, by have e : wFi L m 0 = fun _ => [] := by { funext d; unfold wFi; rw [if_neg (by omega)] }
                                                                  rw [e]; exact HDF.out, HO.out, hkp⟩
              case round =>
                clear HDF HO hkp c0 c1 c2 f1 f2
                obtain ⟨d, vF, hd, rfl, hdf, ho, hkp⟩ := hrel
                have hzk2 := hkp.size
                by_cases hlt4 : d < i
                · obtain ⟨g, rfl⟩ : ∃ g, al = some ⟨g, 0, none⟩ := by
                    obtain ⟨a5, c5, e5, h5⟩ := owns_forms hdf.row
                    obtain ⟨g, hg⟩ := h5 (by omega)
                    simp at e5
                    exact ⟨g, by rw [e5.1, hg]⟩
                  have HW := hide (rwordsOf_any C al2 cl2 m L d wr ho Hm.out (by omega))
                  have HO := hide ho
                  have HDF := hide hdf
                  clear ho hdf
                  go_wp2_with fail
                  refine HW.out.mono ?_
                  rintro e w5 ⟨a5, c5, n5, hn5, rfl, ho5, k5⟩
                  have hz5 := k5.size
                  have kk5 : Kp [] w w5 := hkp.trans k5 (by simp)
                  have hdf5 := HDF.out.kp k5 (by simp) (by simp)
                  have hol5 := k5.owns HO.out (by simp)
                  obtain ⟨g1, g2⟩ := owns_at hdf5.row (rowD_get ids vF i d hlt4).2
                  obtain ⟨hgC, hgl⟩ := hdf5.row.lt g rfl
                  have ho5' := owns_low ho5 (show C ≤ wr.heap.size by omega)
                  have hput := hdf5.put (w' := w5) hlt4 (ws := rwords L d (m + 1) 0) (lv := .slice a5 n5 c5) (by rw [hn5]; exact ho5')
                  rw [wFi_upd] at hput
                  have kg : Kp [g] w5 (w5.setCell ⟨g, d * 3 + 1, none⟩ (.slice a5 n5 c5)) := (Kp.refl [g] w5).setCell (p := ⟨g, d * 3 + 1, none⟩) (.inl (by simp)) _
                  have HL6 := hide (kg.owns hol5 (fun y hy hx => by simp at hx; subst hx; exact owns_disj hdf5.row hol5 (by decide) y rfl hy))
                  have kk6 := hide (kk5.trans kg (fun x hx => .inr (by simp at hx; omega)))
                  have HP6 := hide hput
                  clear hput ho5 ho5' hol5 hdf5 kg k5 HDF HO HW kk5 hkp hn5
                  go_wp2_with fail
                  go_roundw
                  case rel => exact ⟨d + 1, _, by omega, by go_num, HP6.out, HL6.out, kk6.out⟩
                  case measure => simp [intOf]; omega
                · have hdi : d = i := by omega
                  have hdocs := hdf.docs
                  have e6 : ((List.range i).map fun d' => (ids.getD d' 0, wFi L m d d')) = ((List.range i).map fun d' => (ids.getD d' 0, rwords L d' (m + 1) 0)) := by
                    apply List.map_congr_left
                    intro x hx
                    have := List.mem_range.1 hx
                    unfold wFi
                    rw [if_pos (by omega)]
                  rw [e6] at hdocs
                  have HDD := hide hdocs
                  clear hdocs hdf ho e6
                  go_wp2_with fail
                  go_ret2
                  exact ⟨hkp, .inr ⟨_, al, cl, i, _, HG4.out, by simp, rfl, by rw [HC.out]; exact HDD.out⟩⟩
end Go.Proofs.YtbkepgmgebmceaaGreatDoor.Pak

set_option linter.unusedVariables false
set_option maxRecDepth 4000
namespace Go.Proofs.YtbkepgmgebmceaaGreatDoor.Pak
open Go.RowKit Go.Proofs.YtbkepgmgebmceaaGreatDoor Go.Proofs.YtbkepgmgebmceaaGreatDoor.Spl SiftM

/-- Bounds of what was guessed. -/
theorem rnumG_suf : ∀ (f i m : Nat) (l : List UInt8) (b : Bool), (rnumG f i m l b).2.1.length ≤ l.length
  | 0, i, m, l, b => by simp [rnumG]
  | f + 1, i, m, [], b => by simp [rnumG]
  | f + 1, i, m, c :: r, b => by
    show (if c.toNat < 128 then (m + c.toNat % 128 * 128 ^ i, r, b) else rnumG f (i + 1) (m + c.toNat % 128 * 128 ^ i) r b).2.1.length ≤ _
    split
    · simp
    · have := rnumG_suf f (i + 1) (m + c.toNat % 128 * 128 ^ i) r b
      simp; omega
theorem rnum_suf (l : List UInt8) (b : Bool) : (rnum l b).2.1.length ≤ l.length := rnumG_suf 4 0 0 l b
theorem rtext_suf (n : Nat) (l : List UInt8) (b : Bool) : (rtext n l b).2.1.length ≤ l.length ∧ (rtext n l b).1.length ≤ l.length := by
  unfold rtext; split
  · simp
  · simp; omega
/-- Slots whose words have at most k bytes. -/
def ShS (k : Nat) (L : List Sl) : Prop := ∀ s ∈ L, s.2.2.length ≤ k
theorem rpl_ok (k doc : Nat) (w : List UInt8) (hw : w.length ≤ k) : ∀ (c np : Nat) (L : List Sl) (l : List UInt8) (b : Bool), ShS k L → l.length ≤ k → ShS k (rpl doc w c np L l b).1 ∧ (rpl doc w c np L l b).2.1.length ≤ k
  | 0, np, L, l, b, h, hl => ⟨h, hl⟩
  | c + 1, np, L, l, b, h, hl => by
    rw [rpl]
    split
    · exact ⟨h, hl⟩
    · refine rpl_ok k doc w hw c _ _ _ _ ?_ (Nat.le_trans (rnum_suf l b) hl)
      intro s hs
      rcases List.mem_append.1 hs with hs | hs
      · exact h s hs
      · simp at hs; subst hs; exact hw
theorem rdoc_ok (k : Nat) (w : List UInt8) (hw : w.length ≤ k) (nd : Nat) (L : List Sl) (l : List UInt8) (b : Bool) (h : ShS k L) (hl : l.length ≤ k) : ShS k (rdoc w nd L l b).1 ∧ (rdoc w nd L l b).2.1.length ≤ k := by
  unfold rdoc
  exact rpl_ok k _ w hw _ _ _ _ _ h (Nat.le_trans (rnum_suf _ _) (Nat.le_trans (rnum_suf _ _) hl))
/-- What a turn of the reader keeps: short words, few slots as long as it is not bad. -/
def OkS (k : Nat) (s : SS) : Prop := ShS k s.1 ∧ s.2.1.length ≤ k ∧ (s.2.2 = false → s.1.length ≤ 10000)
theorem rdocs_ok (k : Nat) (w : List UInt8) (hw : w.length ≤ k) : ∀ (c nd : Nat) (L : List Sl) (l : List UInt8) (b : Bool), OkS k (L, l, b) → OkS k (rdocs w c nd L l b)
  | 0, nd, L, l, b, h => h
  | c + 1, nd, L, l, b, h => by
    rw [rdocs]
    split
    · exact h
    · obtain ⟨h1, h2⟩ := rdoc_ok k w hw nd L l b h.1 h.2.1
      refine rdocs_ok k w hw c _ _ _ _ ⟨h1, h2, ?_⟩
      intro e
      simp at e
      exact e.2
theorem rslots_ok (k : Nat) (L : List Sl) (l : List UInt8) (b : Bool) (h : OkS k (L, l, b)) (hb : b = false) : OkS k (rslots L l b) := by
  unfold rslots
  have h1 := rnum_suf l b
  obtain ⟨h2, h3⟩ := rtext_suf (rnum l b).1 (rnum l b).2.1 (rnum l b).2.2
  have h4 := rnum_suf (rtext (rnum l b).1 (rnum l b).2.1 (rnum l b).2.2).2.1 (rtext (rnum l b).1 (rnum l b).2.1 (rnum l b).2.2).2.2
  have hl := h.2.1
  simp only at hl
  exact rdocs_ok k _ (by omega) _ _ _ _ _ ⟨h.1, by simp only; omega, fun _ => h.2.2 hb⟩
theorem rmany_ok (k : Nat) : ∀ (c : Nat) (s : SS), OkS k s → OkS k (rmany c s)
  | 0, s, h => h
  | c + 1, s, h => by
    rw [rmany]
    split
    · exact h
    · rename_i hb
      exact rmany_ok k c _ (rslots_ok k s.1 s.2.1 s.2.2 h (by simpa using hb))
theorem rwords_ok (k : Nat) (L : List Sl) (h : ShS k L) (d : Nat) : ∀ (f p : Nat), (rwords L d f p).length ≤ f ∧ ∀ x ∈ rwords L d f p, x.length ≤ k
  | 0, p => by simp [rwords]
  | f + 1, p => by
    rw [rwords_step]
    obtain ⟨h1, h2⟩ := rwords_ok k L h d f (p + 1)
    cases e : L.find? (hitS d p) with
    | none => simp
    | some s =>
      have hm := List.mem_of_find?_eq_some e
      refine ⟨by simp; omega, ?_⟩
      intro x hx
      rcases List.mem_cons.1 hx with rfl | hx
      · exact h s hm
      · exact h2 x hx
theorem rids_suf : ∀ (c nx : Nat) (ids : List Nat) (l : List UInt8) (b : Bool), (rids c nx ids l b).2.1.length ≤ l.length
  | 0, nx, ids, l, b => by simp [rids]
  | c + 1, nx, ids, l, b => by
    rw [rids]
    split
    · simp
    · exact Nat.le_trans (rids_suf c _ _ _ _) (rnum_suf l b)
theorem rids_bnd (Q : Nat) (hQ : ∀ l b, (rnum l b).1 < Q) : ∀ (c nx k : Nat) (ids : List Nat) (l : List UInt8) (b : Bool), (∀ x ∈ ids, x ≤ k * Q) → nx ≤ k * Q → ∀ x ∈ (rids c nx ids l b).1, x ≤ (k + c) * Q
  | 0, nx, k, ids, l, b, h, hn => by simpa [rids] using h
  | c + 1, nx, k, ids, l, b, h, hn => by
    rw [rids]
    split
    · intro x hx
      exact Nat.le_trans (h x hx) (Nat.mul_le_mul_right _ (by omega))
    · have hl := hQ l b
      have e1 : (k + 1) * Q = k * Q + Q := Nat.succ_mul k Q
      have := rids_bnd Q hQ c (nx + (rnum l b).1 + 1) (k + 1) (ids ++ [nx + (rnum l b).1]) (rnum l b).2.1 (rnum l b).2.2 (by
        intro x hx
        rcases List.mem_append.1 hx with hx | hx
        · have := h x hx; omega
        · simp at hx; subst hx; omega) (by omega)
      rw [show k + (c + 1) = k + 1 + c by omega]
      exact this
/-- What was guessed is not great. -/
structure Guessed (k : Nat) (T : List Tx) : Prop where
  len : T.length ≤ 60
  ids : ∀ t ∈ T, t.1 ≤ 60 * 268435456
  few : ∀ t ∈ T, t.2.length ≤ 10001
  short : ∀ t ∈ T, ∀ x ∈ t.2, x.length ≤ k
theorem guess_bnd (F : List UInt8) (T : List Tx) (h : rguess F = some T) : Guessed F.length T := by
  unfold rguess at h
  simp only at h
  have hd : (F.drop 1).length ≤ F.length := by simp
  have hs1 := rnum_suf (F.drop 1) false
  generalize rnum (F.drop 1) false = N1 at *
  split at h
  · simp at h
  rename_i h60
  have hi1 := rids_len N1.1 0 [] N1.2.1 N1.2.2
  have hi2 := rids_bnd 268435456 rnum_lt N1.1 0 0 [] N1.2.1 N1.2.2 (by simp) (Nat.zero_le _)
  have hi3 := rids_suf N1.1 0 [] N1.2.1 N1.2.2
  generalize rids N1.1 0 [] N1.2.1 N1.2.2 = RI at *
  have hs2 := rnum_suf RI.2.1 RI.2.2
  generalize rnum RI.2.1 RI.2.2 = N2 at *
  have hok := rmany_ok F.length N2.1 ([], N2.2.1, N2.2.2) ⟨by intro s hs; simp at hs, by simp only; omega, fun _ => by simp⟩
  generalize rmany N2.1 ([], N2.2.1, N2.2.2) = S at *
  split at h
  · simp at h
  rename_i hb
  simp at h hi1
  have hfew := hok.2.2 (by simpa using hb)
  subst h
  refine ⟨by simp; omega, ?_, ?_, ?_⟩
  · intro t ht
    obtain ⟨d, hd', rfl⟩ := List.mem_map.1 ht
    simp only
    have hdl := List.mem_range.1 hd'
    rw [List.getElem?_eq_getElem hdl]
    have := hi2 _ (List.getElem_mem hdl)
    simp only [Option.getD_some]
    have h6 : N1.1 ≤ 60 := by omega
    exact Nat.le_trans this (Nat.mul_le_mul_right _ (by omega))
  · intro t ht
    obtain ⟨d, hd', rfl⟩ := List.mem_map.1 ht
    have := (rwords_ok F.length S.1 hok.1 d (S.1.length + 1) 0).1
    simp only; omega
  · intro t ht
    obtain ⟨d, hd', rfl⟩ := List.mem_map.1 ht
    exact (rwords_ok F.length S.1 hok.1 d (S.1.length + 1) 0).2
end Go.Proofs.YtbkepgmgebmceaaGreatDoor.Pak

set_option linter.unusedVariables false
set_option maxRecDepth 4000
namespace Go.Proofs.YtbkepgmgebmceaaGreatDoor.Pak
open Go.RowKit Go.Proofs.YtbkepgmgebmceaaGreatDoor Go.Proofs.YtbkepgmgebmceaaGreatDoor.Spl SiftM

theorem low_sm (c : UInt8) (h : isSm c = true) : low c = c := by
  unfold low
  rw [if_neg]
  unfold isSm at h
  simp at h
  omega
theorem isW_sm (c : UInt8) (h : isSm c = true) : isW c = true := by unfold isW; rw [low_sm c h]; exact h
theorem word_parts (x : List UInt8) (h : isWord x = true) : 1 ≤ x.length ∧ x.length ≤ 8 ∧ ∀ c ∈ x, isSm c = true := by
  unfold isWord at h
  simp only [Bool.and_eq_true, decide_eq_true_eq, List.all_eq_true] at h
  exact ⟨h.1.1, h.1.2, h.2⟩
theorem wordL_self (x : List UInt8) (h : isWord x = true) : wordL x = x := by
  obtain ⟨h1, h2, h3⟩ := word_parts x h
  unfold wordL
  rw [List.take_of_length_le (by omega)]
  have : x.map low = x.map id := List.map_congr_left (fun c hc => low_sm c (h3 c hc))
  rw [this]; simp
theorem sp_tail : ∀ (r : List (List UInt8)) (f : Nat), (∀ x ∈ r, isWord x = true) → (r.map fun y => (32 : UInt8) :: y).flatten.length ≤ f → sp f ((r.map fun y => (32 : UInt8) :: y).flatten) = r
  | [], f, _, _ => by simp [sp_nil]
  | y :: r, f, h, hf => by
    obtain ⟨h1, h2, h3⟩ := word_parts y (h y (by simp))
    simp only [List.map_cons, List.flatten_cons, List.cons_append, List.length_cons, List.length_append] at hf ⊢
    obtain ⟨g, rfl⟩ : ∃ g, f = g + 1 := ⟨f - 1, by omega⟩
    rw [sp_sep g 32 _ (by decide)]
    have ih := sp_tail r g (fun x hx => h x (by simp [hx])) (by omega)
    rw [sp_run g y _ (fun c hc => isW_sm c (h3 c hc)) (by intro e; rw [e] at h1; simp at h1) ?_ (by omega), ih, wordL_self y (h y (by simp))]
    cases r with
    | nil => exact .inl (by simp)
    | cons z t => exact .inr ⟨32, z ++ (t.map fun y => (32 : UInt8) :: y).flatten, by simp, by decide⟩
/-- The words of words that are joined are the words. -/
theorem sp_joinW (ws : List (List UInt8)) (f : Nat) (h : ∀ x ∈ ws, isWord x = true) (hf : (joinW ws).length ≤ f) : sp f (joinW ws) = ws := by
  cases ws with
  | nil => simp [joinW, sp_nil]
  | cons x r =>
    obtain ⟨h1, h2, h3⟩ := word_parts x (h x (by simp))
    simp only [joinW, List.length_append] at hf ⊢
    have ih := sp_tail r f (fun x hx => h x (by simp [hx])) (by omega)
    rw [sp_run f x _ (fun c hc => isW_sm c (h3 c hc)) (by intro e; rw [e] at h1; simp at h1) ?_ (by omega), ih, wordL_self x (h x (by simp))]
    cases r with
    | nil => exact .inl (by simp)
    | cons z t => exact .inr ⟨32, z ++ (t.map fun y => (32 : UInt8) :: y).flatten, by simp, by decide⟩
theorem join_tail_len : ∀ r : List (List UInt8), ((r.map fun y => (32 : UInt8) :: y).flatten).length = r.length + sumL r
  | [] => by simp [sumL]
  | y :: r => by simp only [List.map_cons, List.flatten_cons, List.cons_append, List.length_cons, List.length_append, join_tail_len r, sumL]; omega
theorem joinW_lenF (ws : List (List UInt8)) : (joinW ws).length = lenF ws := by
  cases ws with
  | nil => simp [joinW, lenF, sumL]
  | cons x r => simp only [joinW, List.length_append, join_tail_len, lenF, sumL, List.length_cons]; omega
/-- The docs that are packed again. -/
def backN (T : List Tx) : List Nd := T.map fun t => (t.1, ⟨(joinW t.2).toArray⟩)
theorem backN_txs (T : List Tx) (h : ∀ t ∈ T, ∀ x ∈ t.2, isWord x = true) : txs (backN T) = T := by
  unfold txs backN
  rw [List.map_map]
  conv => rhs; rw [← List.map_id T]
  apply List.map_congr_left
  intro t ht
  simp only [Function.comp, id]
  have : wordsB ⟨(joinW t.2).toArray⟩ = t.2 := by
    unfold wordsB
    exact sp_joinW t.2 _ (h t ht) (by simp [ByteArray.size])
  rw [this]
end Go.Proofs.YtbkepgmgebmceaaGreatDoor.Pak

set_option linter.unusedVariables false
set_option maxRecDepth 4000
namespace Go.Proofs.YtbkepgmgebmceaaGreatDoor.Pak
open Go.RowKit Go.Proofs.YtbkepgmgebmceaaGreatDoor Go.Proofs.YtbkepgmgebmceaaGreatDoor.Spl SiftM

theorem pw_of_rs : ∀ (xs : List Nat) (least : Nat), Rs least xs → xs.Pairwise (· < ·)
  | [], _, _ => List.Pairwise.nil
  | x :: r, least, h => List.Pairwise.cons (fun y hy => by have := rs_ge r (x + 1) h.2 y hy; omega) (pw_of_rs r (x + 1) h.2)
theorem fine_sorted (T : List Tx) (hf : Fine T) : Sorted (backN T) := by
  have := pw_of_rs _ _ hf.rise
  rw [List.pairwise_map] at this
  unfold Sorted backN
  rw [List.pairwise_map]
  exact this
theorem back_len (T : List Tx) : (dcs (backN T)).length = T.length := by simp [dcs, backN]
theorem back_at (T : List Tx) (i : Nat) (h : i < (dcs (backN T)).length) (h' : i < T.length) : (dcs (backN T))[i].1 = (T[i].1 : Int) := by simp [dcs, backN]
theorem fine_ids (T : List Tx) (hf : Fine T) : IdsOk (dcs (backN T)) := by
  intro i h
  have h' : i < T.length := by rw [← back_len]; exact h
  rw [back_at T i h h']
  have h9 := hf.ids _ (List.getElem_mem h')
  refine ⟨by omega, by omega, ?_⟩
  intro k hk
  have hk' : k < T.length := by omega
  rw [back_at T k (by omega) hk']
  have hpw := fine_sorted T hf
  unfold Sorted backN at hpw
  rw [List.pairwise_map] at hpw
  have := List.pairwise_iff_getElem.1 hpw k i hk' h' hk
  simp only at this
  omega
theorem fine_size (T : List Tx) (hf : Fine T) : ∀ d ∈ dcs (backN T), d.2.size ≤ 120 := by
  intro d hd
  unfold dcs backN at hd
  rw [List.map_map] at hd
  obtain ⟨t, ht, rfl⟩ := List.mem_map.1 hd
  have := (hf.short t ht).1
  simp only [Function.comp, ByteArray.size, List.size_toArray, joinW_lenF]
  exact this
theorem sorted_some (N : List Nd) (h : IdsOk (dcs N)) : ∃ N' : List Nd, N'.Perm N ∧ Sorted N' := by
  let le : Nd → Nd → Bool := fun x y => decide (x.1 ≤ y.1)
  refine ⟨N.mergeSort le, List.mergeSort_perm N le, ?_⟩
  have hs : (N.mergeSort le).Pairwise fun x y => le x y = true := List.pairwise_mergeSort (by intro a b c h1 h2; simp [le] at *; omega) (by intro a b; simp [le]; omega) N
  have hne : N.Pairwise fun x y => x.1 ≠ y.1 := by
    rw [List.pairwise_iff_getElem]
    intro i j hi hj hij
    have := (h j (by simpa [dcs] using hj)).2.2 i hij
    simp [dcs] at this
    intro e
    exact this (by rw [e])
  have hne' : (N.mergeSort le).Pairwise fun x y => x.1 ≠ y.1 := (List.mergeSort_perm N le).symm.pairwise hne (fun h => Ne.symm h)
  unfold Sorted
  refine (hs.and hne').imp ?_
  rintro a b ⟨h1, h2⟩
  simp [le] at h1
  omega
/-- The order in which the docs are packed again. -/
theorem back_order (T : List Tx) : ∃ N' : List Nd, (Fine T → N' = backN T) ∧ (IdsOk (dcs (backN T)) → dcs (backN T) = dcs (backN T) ∧ N'.Perm (backN T) ∧ Sorted N') := by
  by_cases hf : Fine T
  · exact ⟨backN T, fun _ => rfl, fun _ => ⟨rfl, List.Perm.refl _, fine_sorted T hf⟩⟩
  · by_cases hi : IdsOk (dcs (backN T))
    · obtain ⟨N', h1, h2⟩ := sorted_some _ hi
      exact ⟨N', fun h => absurd h hf, fun _ => ⟨rfl, h1, h2⟩⟩
    · exact ⟨[], fun h => absurd h hf, fun h => absurd h hi⟩
/-- The document's Read takes just the files. -/
theorem read_iff (F : List UInt8) (T : List Tx) (N' : List Nd) (hg : rguess F = some T) (hch : Fine T → N' = backN T) (hs : Sorted N') (hp : N'.Perm (backN T)) (hid : IdsOk (dcs (backN T))) (hsz : ∀ d ∈ dcs (backN T), d.2.size ≤ 120) : fileT (txs N') = F ↔ Fine T ∧ F = fileT T := by
  constructor
  · intro e
    have hT := (guess_bnd F T hg).len
    have hf : Fine (txs N') := by
      refine fine_txs N' hs ?_ ?_ ?_
      · rw [hp.length_eq]; simpa [backN] using hT
      · intro x hx
        obtain ⟨i, hi, e⟩ := List.getElem_of_mem (hp.mem_iff.1 hx)
        have := (hid i (by simpa [dcs] using hi)).2.1
        simp only [dcs, List.getElem_map, e] at this
        omega
      · intro x hx
        exact hsz ((x.1 : Int), x.2) (List.mem_map.2 ⟨x, hp.mem_iff.1 hx, rfl⟩)
    have h1 := guess_file _ hf
    rw [e, hg] at h1
    simp at h1
    rw [h1]
    exact ⟨hf, e.symm⟩
  · rintro ⟨hf, e⟩
    rw [hch hf, backN_txs T hf.word]
    exact e.symm
theorem read_only (F : List UInt8) (T T' : List Tx) (hg : rguess F = some T) (hf : Fine T') (e : F = fileT T') : T = T' := by
  have := guess_file T' hf
  rw [← e, hg] at this
  simpa using this
end Go.Proofs.YtbkepgmgebmceaaGreatDoor.Pak

set_option linter.unusedVariables false
set_option maxRecDepth 4000
namespace Go.Proofs.YtbkepgmgebmceaaGreatDoor.Pak
open Go.RowKit Go.Proofs.YtbkepgmgebmceaaGreatDoor Go.Proofs.YtbkepgmgebmceaaGreatDoor.Spl SiftM

/-- What the document's Read answers. -/
def RReadPost (F : List UInt8) (w : World) (e : Ending) (w' : World) : Prop :=
  Kp [] w w' ∧ ((∃ (T : List Tx) (a : Option Addr) (c N : Nat) (vs : List Value), Fine T ∧ F = fileT T ∧ T.length = N ∧ vs.length = N ∧ e = .returned (.tuple #[.slice a N c, .int .i64 0]) ∧ w'.ownsRow w.heap.size 204 2 (.slice a N c) N (tx2 ((T.map Prod.fst).zip vs)) ∧ ∀ i (h : i < T.length) (h2 : i < vs.length), w'.ownsRow w.heap.size 9 1 vs[i] T[i].2.length (strV T[i].2)) ∨
    (∀ T, Fine T → F ≠ fileT T) ∧ e = .returned (.tuple #[.slice none 0 0, .int .i64 12]))
theorem docV_snoc (D : List Dc) (x : Dc) : docV (D ++ [x]) = docV D ++ [.int .i64 x.1, .string x.2] := by simp [docV, encDoc]
theorem back_take (T : List Tx) (i : Nat) (h : i < T.length) : dcs (backN (T.take (i + 1))) = dcs (backN (T.take i)) ++ [((T[i].1 : Int), ⟨(joinW T[i].2).toArray⟩)] := by
  rw [take_snocL T i h]; unfold dcs backN; rw [List.map_append, List.map_append]; rfl

theorem file_lenR (T : List Tx) : (fileT T).length = (bodyT T).length + 4 := by unfold fileT; rw [List.length_append, sumB_len]
theorem body_lenR (T : List Tx) (hf : Fine T) : (bodyT T).length ≤ 101100 := by
  have h3 := numB_len T.length
  have h4 := numB_len (termsOf T).length
  have h5 := riseB_len (T.map Prod.fst) 0
  have h6 := postT_part T hf (termsOf T).length
  have h7 := hf.len
  rw [List.take_length] at h6
  rw [List.length_map] at h5
  rw [body_eq]
  simp only [List.length_cons, List.length_append]
  unfold numB at *
  omega
theorem back_fine (T : List Tx) (N' : List Nd) (hT : T.length ≤ 60) (hs : Sorted N') (hp : N'.Perm (backN T)) (hid : IdsOk (dcs (backN T))) (hsz : ∀ d ∈ dcs (backN T), d.2.size ≤ 120) : Fine (txs N') := by
  refine fine_txs N' hs ?_ ?_ ?_
  · rw [hp.length_eq]; simpa [backN] using hT
  · intro x hx
    obtain ⟨i, hi, e⟩ := List.getElem_of_mem (hp.mem_iff.1 hx)
    have := (hid i (by simpa [dcs] using hi)).2.1
    simp only [dcs, List.getElem_map, e] at this
    omega
  · intro x hx
    exact hsz ((x.1 : Int), x.2) (List.mem_map.2 ⟨x, hp.mem_iff.1 hx, rfl⟩)
theorem zip_take (T : List Tx) (vs : List Value) (j : Nat) (h : j < T.length) (h2 : j < vs.length) : ((T.map Prod.fst).zip vs).take (j + 1) = ((T.map Prod.fst).zip vs).take j ++ [(T[j].1, vs[j])] := by
  rw [take_snocL _ j (by simp; omega)]
  simp
theorem docsAt_of {w : World} {base n cl : Nat} {al : Option Addr} {D : List Dc} (h : w.ownsRow base 246 2 (.slice al n cl) n (docV D)) (hn : D.length = n) : DocsAt w al D := by
  cases D with
  | nil => exact .inl rfl
  | cons x r =>
    obtain ⟨a5, c5, e5, h5⟩ := owns_forms h
    obtain ⟨g, hg⟩ := h5 (by rw [← hn]; simp)
    simp at e5
    have ea : al = some ⟨g, 0, none⟩ := by rw [e5.1, hg]
    subst ea
    refine .inr ⟨g, 0, rfl, (h.lt g rfl).2, ?_⟩
    intro i hi
    obtain ⟨d0, d1⟩ := docV_get (x :: r) i hi
    rw [Nat.zero_add]
    exact ⟨(owns_at h d0).1, (owns_at h d1).1⟩
theorem vw_up {w : World} {B B' : Nat} {a : Option Addr} {l : List UInt8} (h : Vw w B a l) (hB : B ≤ B') : Vw w B' a l := by
  rcases h with h | ⟨g, off, e, hg, hc⟩
  · exact .inl h
  · exact .inr ⟨g, off, e, by omega, hc⟩
theorem DocsIs.far {w w' : World} {base b m sz : Nat} {v u : Value} {T : List Tx} {vs xs : List Value} {e : TypeId} (h : DocsIs w base v T vs) (k : Kp u.ownBlock.toList w w') (hu : w.ownsRow b e sz u m xs) (h1 : e ≠ 251) (h2 : e ≠ 9) : DocsIs w' base v T vs :=
  ⟨h.len, k.owns h.row (fun g hg hx => owns_disj hu h.row h1 g (by simpa using hx) hg), fun i hi hi2 => k.owns (h.each i hi hi2) (fun g hg hx => owns_disj hu (h.each i hi hi2) h2 g (by simpa using hx) hg)⟩

set_option maxHeartbeats 1000000 in
set_option maxRecDepth 100000 in
theorem rread_any (n cap : Nat) (a : Option Addr) (F : List UInt8) (w : World) (hv : Vw w w.heap.size a F) (hn : F.length = n) (hn2 : n ≤ 4000000) (hc : n ≤ cap) :
    Calls Tryz.prog 80 #[.slice a n cap] w (RReadPost F w) := by
  obtain ⟨i0, hi0, hz0, hz1, hz2⟩ := info_parts info43
  obtain ⟨i1, hi1, hy0, hy1, hy2⟩ := info_parts info52
  have HV := hide hv
  have Hn := hide hn
  have HG := hide (rguess_any n cap a F w hv hn hn2 hc)
  clear hv hn
  go_enter Tryz.func80, Tryz.ntmps80
  go_wp2_with fail
  refine HG.out.mono ?_
  rintro e w1 ⟨k1, h1⟩
  rcases h1 with ⟨hg, rfl⟩ | ⟨T, ad, cd, N, vs, hg, hT, rfl, hdi⟩
  · have hno : ∀ T, Fine T → F ≠ fileT T := by
      intro T hf e
      have := guess_file T hf
      rw [← e, hg] at this
      simp at this
    have HNO := hide hno
    clear hno hg HG
    go_wp2_with fail
    go_ret2
    exact ⟨k1, .inr ⟨HNO.out, rfl⟩⟩
  have hbnd := guess_bnd F T hg
  have hN60 : N ≤ 60 := by rw [← hT]; exact hbnd.len
  have HB := hide hbnd
  have HGG := hide hg
  have HT := hide hT
  have HD := hide hdi
  have hvs := hdi.len
  have HVS := hide hvs
  clear hbnd hg hT hdi HG hvs
  go_wp2_with fail
  go_loopw [6, 7] (fun lv iv wr => ∃ (i : Nat) (al : Option Addr) (cl : Nat), i ≤ N ∧ iv = .int .i64 i ∧ lv = .slice al i cl ∧ wr.ownsRow w.heap.size 246 2 (.slice al i cl) i (docV (dcs (backN (T.take i)))) ∧ DocsIs wr w.heap.size (.slice ad N cd) T vs ∧ Kp [] w wr) (fun _ iv _ => N - (intOf iv).toNat)
  case atStart => exact ⟨0, none, 0, by omega, rfl, rfl, World.ownsRow_nil _ _ _ _, HD.out, k1⟩
  case round =>
    clear HD k1
    obtain ⟨i, al, cl, hi, rfl, rfl, ho, hdi, hkp⟩ := hrel
    by_cases hlt : i < N
    · have hiT : i < T.length := by rw [HT.out]; exact hlt
      have hiv : i < vs.length := by rw [HVS.out]; exact hiT
      obtain ⟨g, rfl⟩ : ∃ g, ad = some ⟨g, 0, none⟩ := by
        obtain ⟨a5, c5, e5, h5⟩ := owns_forms hdi.row
        obtain ⟨g, hg⟩ := h5 (by omega)
        simp at e5
        exact ⟨g, by rw [e5.1, hg]⟩
      obtain ⟨q0, q1, _⟩ := hdi.cells i hiT hiv
      have hgl := (hdi.row.lt g rfl).2
      have hea := hdi.each i hiT hiv
      have hfew := HB.out.few _ (List.getElem_mem hiT)
      have hsh := HB.out.short _ (List.getElem_mem hiT)
      rw [Hn.out] at hsh
      have hbt := back_take T i hiT
      obtain ⟨aw, cw, ew, _⟩ := owns_forms hea
      rw [ew] at q1 hea
      obtain ⟨t, ht⟩ : ∃ t, T[i] = t := ⟨_, rfl⟩
      rw [ht] at q0 q1 hea hfew hsh hbt
      obtain ⟨id, ws⟩ := t
      simp only at q0 q1 hea hfew hsh hbt
      have HBY := hide (fun (W : World) (hW : W.ownsRow w.heap.size 9 1 (.slice aw ws.length cw) ws.length (strV ws)) => rbody_any w.heap.size (.slice aw ws.length cw) ws W hW (by omega) (fun x hx => by have := hsh x hx; omega))
      have HO := hide ho
      have HDI := hide hdi
      have HBT := hide hbt
      have HEA := hide hea
      have EW := hide ew
      have HTI := hide ht
      have hzk := hkp.size
      clear ho hdi hbt hea hfew hsh ew ht
      have j1 : (0 : Int) ≤ (i : Int) := by omega
      have j2 : (i : Int) < (N : Int) := by omega
      go_wp2_with fail
      go_region_held3 (fun w' => w'.cell? ⟨g, i * 3, none⟩ = some (.int .i64 (id : Int)) ∧ w'.cell? ⟨g, i * 3 + 1, none⟩ = some (.slice aw ws.length cw)) (first | go_keep | exact ⟨hs0, hs1⟩)
        (first
          | (go_at_call 157; refine (HBY.out _ (by first | exact HEA.out | exact HEA.out.drew)).mono ?_; rintro e w9 ⟨rfl, hw9⟩; subst hw9)
          | (refine step_append_lies _ (by rfl) _ _ _ (by rfl) w.heap.size 246 i0 _ 2 24 Tryz.underlying66 hi0 hz0 hz1 hz2 rfl (by omega) (.slice al i cl) i (docV (dcs (backN (T.take i)))) (by rfl) (by first | exact HO.out.alloc _ | exact (HO.out.alloc _).drew)
                ⟨wr.heap.size, 0, none⟩ 1 1 [.int .i64 (id : Int), .string ⟨(joinW ws).toArray⟩] (by rfl) (by rfl) (World.news_of_block (cs := #[.int .i64 (id : Int), .string ⟨(joinW ws).toArray⟩]) (t := 246) (fr := (0, 0)) (heap_alloc_new wr _)) (by simp [Value.oneCell'])
                (by omega) (by unfold maxLen; omega) (by omega) (by simp; omega) (wr.heap.size + 1) (by simp) ?_; intro gg cap' w3 hown3 hgrow hat3 hlt3; have k3 : Kp (Value.slice al i cl).ownBlock.toList wr w3 := (by first | exact ((Kp.refl _ wr).alloc _).grown hgrow (fun j hj => .inl (by simp [hj])) | exact (((Kp.refl _ wr).alloc _).drewN 1).grown hgrow (fun j hj => .inl (by simp [hj]))); have hd3 := HDI.out.far k3 HO.out (by decide) (by decide); have hs0 := (hd3.cells i hiT hiv).1; have hs1 := (hd3.cells i hiT hiv).2.1; rw [EW.out] at hs1; simp only [HTI.out] at hs0 hs1))
      have kk3 : Kp [] w w3 := hkp.trans k3 (fun y hy => .inr (HO.out.lt y (by simpa using hy)).1)
      have ho3 : w3.ownsRow w.heap.size 246 2 (.slice (some ⟨gg, 0, none⟩) (i + 1) cap') (i + 1) (docV (dcs (backN (T.take (i + 1))))) := by
        rw [HBT.out, docV_snoc]; exact hown3
      have HO3 := hide ho3
      have HD3 := hide hd3
      clear ho3 hd3 hown3 hgrow hat3 hs0 hs1 q0 q1 HDI HO k3
      go_wp2_with fail
      go_roundw
      case rel => exact ⟨i + 1, _, _, by omega, by go_num, rfl, HO3.out, HD3.out, kk3⟩
      case measure => simp [intOf]; omega
    · obtain rfl : i = N := by omega
      have htk : T.take i = T := List.take_of_length_le (by rw [HT.out]; omega)
      rw [htk] at ho
      obtain ⟨N', hch, hord⟩ := back_order T
      have hDl : (dcs (backN T)).length = i := by rw [back_len]; exact HT.out
      have HP := hide (rpack_any al cl i (dcs (backN T)) (backN T) N' wr (docsAt_of ho hDl) hDl (by omega) hord)
      have HDI := hide hdi
      have HCH := hide hch
      have HORD := hide hord
      have HDL := hide hDl
      clear ho hdi hch hord hDl htk
      go_wp2_with fail
      refine HP.out.mono ?_
      rintro e w2 ⟨k2, h2⟩
      have kk2 : Kp [] w w2 := hkp.trans k2 (by simp)
      have HV2 := hide (vw_up (vw_kp HV.out kk2 (by simp)) kk2.size)
      have HD2 := hide (HDI.out.kp0 k2)
      clear HP HDI k2 hkp HV
      rcases h2 with ⟨h60, _⟩ | ⟨_, hbad, rfl⟩ | ⟨_, hid, hlong, rfl⟩ | ⟨_, hid, hsz, ap, cp, np, hnp, rfl, hop⟩
      · rw [HDL.out] at h60; omega
      · have HNO : Hid (∀ T, Fine T → F ≠ fileT T) := by
          intro T' hf e
          have := read_only F T T' HGG.out hf e
          subst this
          exact hbad (fine_ids T hf)
        have HS := hide (rsame_any none a 0 0 cap n [] F w2 (.inl ⟨rfl, rfl⟩) HV2.out rfl Hn.out (by omega))
        clear hbad
        go_wp2_with fail
        refine HS.out.mono ?_
        rintro e w3 ⟨rfl, k3⟩
        go_wp2_with fail
        go_ret2
        exact ⟨kk2.trans k3 (by simp), .inr ⟨HNO.out, rfl⟩⟩
      · have HNO : Hid (∀ T, Fine T → F ≠ fileT T) := by
          intro T' hf e
          have := read_only F T T' HGG.out hf e
          subst this
          obtain ⟨d, hd, h⟩ := hlong
          have := fine_size T hf d hd
          omega
        have HS := hide (rsame_any none a 0 0 cap n [] F w2 (.inl ⟨rfl, rfl⟩) HV2.out rfl Hn.out (by omega))
        clear hlong hid
        go_wp2_with fail
        refine HS.out.mono ?_
        rintro e w3 ⟨rfl, k3⟩
        go_wp2_with fail
        go_ret2
        exact ⟨kk2.trans k3 (by simp), .inr ⟨HNO.out, rfl⟩⟩
      · obtain ⟨_, hp, hs⟩ := HORD.out hid
        have hiff := read_iff F T N' HGG.out HCH.out hs hp hid hsz
        have hfin := back_fine T N' (by rw [HT.out]; exact hN60) hs hp hid hsz
        have hlenp : np ≤ 4000000 := by
          rw [← hnp, file_lenR]
          have := body_lenR _ hfin
          omega
        have hS := rsame_any ap a cp np cap n (fileT (txs N')) F w2 (vw_of_owns hop hnp) HV2.out hnp Hn.out hlenp
        by_cases heq : fileT (txs N') = F
        · obtain ⟨hf, eF⟩ := hiff.1 heq
          rw [decide_eq_true heq] at hS
          have HS := hide hS
          have HF := hide hf
          have HEF := hide eF
          clear hS hf eF heq hiff hfin hp hs hid hsz hop hnp HORD HCH HGG
          go_wp2_with fail
          refine HS.out.mono ?_
          rintro e w3 ⟨rfl, k3⟩
          have kk3 : Kp [] w w3 := kk2.trans k3 (by simp)
          have HD3 := hide (HD2.out.kp0 k3)
          clear HD2 k3 kk2 HS HV2
          go_wp2_with fail
          go_loopw [11, 12] (fun lv iv wr => ∃ (j : Nat) (ao : Option Addr) (co : Nat), j ≤ i ∧ iv = .int .i64 j ∧ lv = .slice ao j co ∧ wr.ownsRow w.heap.size 204 2 (.slice ao j co) j (tx2 (((T.map Prod.fst).zip vs).take j)) ∧ DocsIs wr w.heap.size (.slice ad i cd) T vs ∧ Kp [] w wr) (fun _ iv _ => i - (intOf iv).toNat)
          case atStart => exact ⟨0, none, 0, by omega, rfl, rfl, World.ownsRow_nil _ _ _ _, HD3.out, kk3⟩
          case round =>
            clear HD3 kk3
            obtain ⟨j, ao, co, hj, rfl, rfl, ho, hdi, hkp⟩ := hrel
            have hzk := hkp.size
            by_cases hlt2 : j < i
            · have hiT : j < T.length := by rw [HT.out]; exact hlt2
              have hiv : j < vs.length := by rw [HVS.out]; exact hiT
              obtain ⟨g, rfl⟩ : ∃ g, ad = some ⟨g, 0, none⟩ := by
                obtain ⟨a5, c5, e5, h5⟩ := owns_forms hdi.row
                obtain ⟨g, hg⟩ := h5 (by omega)
                simp at e5
                exact ⟨g, by rw [e5.1, hg]⟩
              obtain ⟨q0, q1, _⟩ := hdi.cells j hiT hiv
              have hgl := (hdi.row.lt g rfl).2
              have hea := hdi.each j hiT hiv
              have hzt := zip_take T vs j hiT hiv
              obtain ⟨aw, cw, ew, _⟩ := owns_forms hea
              rw [ew] at q1 hzt
              obtain ⟨t, ht⟩ : ∃ t, T[j] = t := ⟨_, rfl⟩
              rw [ht] at q0 q1 hzt
              obtain ⟨id, ws⟩ := t
              simp only at q0 q1 hzt
              have HO := hide ho
              have HDI := hide hdi
              have HZT := hide hzt
              have EW := hide ew
              have HTI := hide ht
              clear ho hdi hzt hea ew ht
              have j1 : (0 : Int) ≤ (j : Int) := by omega
              have j2 : (j : Int) < (i : Int) := by omega
              go_wp2_with fail
              go_region_held3 (fun w' => w'.cell? ⟨g, j * 3, none⟩ = some (.int .i64 (id : Int)) ∧ w'.cell? ⟨g, j * 3 + 1, none⟩ = some (.slice aw ws.length cw)) (first | go_keep | exact ⟨hs0, hs1⟩)
                ((refine step_append_lies _ (by rfl) _ _ _ (by rfl) w.heap.size 204 i1 _ 2 32 Tryz.underlying79 hi1 hy0 hy1 hy2 rfl (by omega) (.slice ao j co) j (tx2 (((T.map Prod.fst).zip vs).take j)) (by rfl) (by first | exact HO.out.alloc _ | exact (HO.out.alloc _).drew)
                    ⟨wr.heap.size, 0, none⟩ 1 1 [.int .i64 (id : Int), .slice aw ws.length cw] (by rfl) (by rfl) (World.news_of_block (cs := #[.int .i64 (id : Int), .slice aw ws.length cw]) (t := 204) (fr := (0, 0)) (heap_alloc_new wr _)) (by simp [Value.oneCell'])
                    (by omega) (by unfold maxLen; omega) (by omega) (by simp; omega) (wr.heap.size + 1) (by simp) ?_; intro gg cap' w3 hown3 hgrow hat3 hlt3; have k3 : Kp (Value.slice ao j co).ownBlock.toList wr w3 := (by first | exact ((Kp.refl _ wr).alloc _).grown hgrow (fun j hj => .inl (by simp [hj])) | exact (((Kp.refl _ wr).alloc _).drewN 1).grown hgrow (fun j hj => .inl (by simp [hj]))); have hd3 := HDI.out.far k3 HO.out (by decide) (by decide); have hs0 := (hd3.cells j hiT hiv).1; have hs1 := (hd3.cells j hiT hiv).2.1; rw [EW.out] at hs1; simp only [HTI.out] at hs0 hs1))
              have kk3 : Kp [] w w3 := hkp.trans k3 (fun y hy => .inr (HO.out.lt y (by simpa using hy)).1)
              have ho3 : w3.ownsRow w.heap.size 204 2 (.slice (some ⟨gg, 0, none⟩) (j + 1) cap') (j + 1) (tx2 (((T.map Prod.fst).zip vs).take (j + 1))) := by
                rw [HZT.out, tx2_snoc]; exact hown3
              have HO3 := hide ho3
              have HD3 := hide hd3
              clear ho3 hd3 hown3 hgrow hat3 hs0 hs1 q0 q1 HDI HO k3
              go_wp2_with fail
              go_roundw
              case rel => exact ⟨j + 1, _, _, by omega, by go_num, rfl, HO3.out, HD3.out, kk3⟩
              case measure => simp [intOf]; omega
            · obtain rfl : j = i := by omega
              have htk : ((T.map Prod.fst).zip vs).take j = (T.map Prod.fst).zip vs := List.take_of_length_le (by simp; rw [HT.out]; omega)
              rw [htk] at ho
              have HO := hide ho
              have HDI := hide hdi
              clear ho hdi htk
              go_wp2_with fail
              go_ret2
              exact ⟨hkp, .inl ⟨T, ao, co, j, vs, HF.out, HEF.out, HT.out, by rw [HVS.out, HT.out], rfl, HO.out, HDI.out.each⟩⟩
        · have HNO : Hid (∀ T, Fine T → F ≠ fileT T) := by
            intro T' hf e
            have := read_only F T T' HGG.out hf e
            subst this
            exact heq (hiff.2 ⟨hf, e⟩)
          rw [decide_eq_false heq] at hS
          have HS := hide hS
          clear hS heq hiff hfin hp hs hid hsz hop hnp HORD HCH HGG
          go_wp2_with fail
          refine HS.out.mono ?_
          rintro e w3 ⟨rfl, k3⟩
          go_wp2_with fail
          go_ret2
          exact ⟨kk2.trans k3 (by simp), .inr ⟨HNO.out, rfl⟩⟩
end Go.Proofs.YtbkepgmgebmceaaGreatDoor.Pak

set_option linter.unusedVariables false
set_option maxRecDepth 4000
namespace Go.Proofs.YtbkepgmgebmceaaGreatDoor.Pak
open Go.RowKit Go.Proofs.YtbkepgmgebmceaaGreatDoor Go.Proofs.YtbkepgmgebmceaaGreatDoor.Spl SiftM

theorem read_file (T : List Tx) (hf : Fine T) (a : Option Addr) (cap : Nat) (w : World) (hv : Vw w w.heap.size a (fileT T)) (hc : (fileT T).length ≤ cap) (hc2 : cap ≤ 9223372036854775807) :
    Calls Tryz.prog 78 #[.slice a (fileT T).length cap] w fun e w' => ∃ v vs, e = .returned (.tuple #[v, .int .i64 0]) ∧ TextsIs w' w.heap.size v T vs ∧ Kp [] w w' := by
  have hl := file_lenR T
  have hb := body_lenR T hf
  have ht := allW_le T hf.few
  have hn := hf.len
  have htab : tableF (unsealF (fileT T)) = (T.map Prod.fst, termsOf T, sumW T, belowF (rowsOf T) (termsOf T).length, some []) := by
    unfold fileT; rw [unseal_file]; exact table_back T hf
  have hsw := sumW_le T hf.few
  have htb := texts_back T
  have hr := read_good a cap (fileT T) _ _ _ _ (rowsOf T) w hv (by omega) hc hc2 htab (below_rows (rowsOf T) (termsOf T).length (rows_small T hf.few) (rows_lt T)) (by rw [rows_len]; simp) (by simpa using hn) (by omega) (by omega) (by
    intro r hr
    unfold rowsOf at hr
    obtain ⟨t, htm, rfl⟩ := List.mem_map.1 hr
    rw [words_back T t htm]
    have h1 := hf.few t htm
    have h2 := (hf.short t htm).2
    omega) (by rw [htb]; exact may_sum T (fun t ht => (hf.short t ht).1))
  rw [htb] at hr
  exact hr


set_option maxHeartbeats 800000 in
set_option maxRecDepth 100000 in
theorem read_may (a : Option Addr) (cap : Nat) (l : List UInt8) (ids : List Nat) (terms : List (List UInt8)) (c : Nat) (f : Nat → Nat → Option Nat) (rows : List (List Nat)) (w : World) (hv : Vw w w.heap.size a l) (hl : l.length ≤ 2000000) (hc : l.length ≤ cap) (hc2 : cap ≤ 9223372036854775807)
    (htab : tableF (unsealF l) = (ids, terms, c, f, some [])) (hr : RowsAre f rows terms.length) (hlen : rows.length = ids.length) (hn : ids.length ≤ 60) (hnt : terms.length ≤ 100000) (hcc : c ≤ 1000000000) (hsm : ∀ r ∈ rows, (wordsOf terms r).length ≤ 1000 ∧ sumL (wordsOf terms r) ≤ 2000000) (hmb : mayB (ids.zip (rows.map (wordsOf terms))) c = false) :
    Calls Tryz.prog 78 #[.slice a l.length cap] w fun e w' => e = .returned (.tuple #[.slice none 0 0, .int .i64 12]) ∧ Kp [] w w' := by
  have hP := hide (pread_good a cap l ids terms c f rows w hv hl hc hc2 htab hr hlen hn hnt hcc hsm)
  rw [hmb] at hP
  generalize ids.zip (rows.map (wordsOf terms)) = TT at *
  clear htab hr hsm hv hmb
  go_enter Tryz.func78, Tryz.ntmps78
  go_wp2_with fail
  refine hP.out.mono ?_
  rintro e w1 ⟨⟨_, rfl⟩ | ⟨h, _⟩, hk1⟩
  · go_wp2_with fail
    go_ret2
    exact ⟨rfl, hk1⟩
  · simp at h

/-- What the program's Read answers, of all bytes. -/
theorem sread_any (a : Option Addr) (cap : Nat) (l : List UInt8) (w : World) (hv : Vw w w.heap.size a l) (hl : l.length ≤ 2000000) (hc : l.length ≤ cap) (hc2 : cap ≤ 9223372036854775807) :
    Calls Tryz.prog 78 #[.slice a l.length cap] w fun e w' => Kp [] w w' ∧ ((∃ T v vs, Fine T ∧ l = fileT T ∧ e = .returned (.tuple #[v, .int .i64 0]) ∧ TextsIs w' w.heap.size v T vs) ∨ (∀ T, Fine T → l ≠ fileT T) ∧ e = .returned (.tuple #[.slice none 0 0, .int .i64 12])) := by
  by_cases hex : ∃ T, Fine T ∧ l = fileT T
  · obtain ⟨T, hf, rfl⟩ := hex
    refine (read_file T hf a cap w hv hc hc2).mono ?_
    rintro e w' ⟨v, vs, rfl, ht, k⟩
    exact ⟨k, .inl ⟨T, v, vs, hf, rfl, rfl, ht⟩⟩
  · have hno : ∀ T, Fine T → l ≠ fileT T := fun T hf e => hex ⟨T, hf, e⟩
    by_cases hb : (tableF (unsealF l)).2.2.2.2 = some []
    · obtain ⟨ids, terms, c, f, rows, htab, hr, hlen, hn, hnt, hcc, hsm, hmay⟩ := accept_inv l hb
      have hmb : mayB (ids.zip (rows.map (wordsOf terms))) c = false := by
        cases e : mayB (ids.zip (rows.map (wordsOf terms))) c with
        | false => rfl
        | true => exact absurd (hmay e).2 (hno _ (hmay e).1)
      refine (read_may a cap l ids terms c f rows w hv hl hc hc2 htab hr hlen hn (by omega) (by omega) (fun r hr => by have := hsm r hr; omega) hmb).mono ?_
      rintro e w' ⟨rfl, k⟩
      exact ⟨k, .inr ⟨hno, rfl⟩⟩
    · refine (read_bad a cap l w hv hl hc hc2 hb).mono ?_
      rintro e w' ⟨rfl, k⟩
      exact ⟨k, .inr ⟨hno, rfl⟩⟩
end Go.Proofs.YtbkepgmgebmceaaGreatDoor.Pak
