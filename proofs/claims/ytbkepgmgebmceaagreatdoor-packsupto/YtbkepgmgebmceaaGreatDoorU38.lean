import Derived.Test.YtbkepgmgebmceaaGreatDoorU37
import Derived.Laws.Cover3

set_option linter.unusedVariables false
set_option maxRecDepth 4000
namespace Go.Proofs.YtbkepgmgebmceaaGreatDoor.Pak
open Go.RowKit Go.Proofs.YtbkepgmgebmceaaGreatDoor Go.Proofs.YtbkepgmgebmceaaGreatDoor.Spl SiftM

/-- What the document's Read answers. -/
def RReadPost (F : List UInt8) (w : World) (e : Ending) (w' : World) : Prop :=
  Kp [] w w' ∧ ((∃ (T : List Tx) (a : Option Addr) (c N : Nat) (vs : List Value), Fine T ∧ F = fileT T ∧ T.length = N ∧ vs.length = N ∧ e = .returned (.tuple #[.slice a N c, .int .i64 0]) ∧ w'.ownsRow w.heap.size 204 2 (.slice a N c) N (tx2 ((T.map Prod.fst).zip vs)) ∧ ∀ i (h : i < T.length) (h2 : i < vs.length), w'.ownsRow w.heap.size 9 1 vs[i] T[i].2.length (strV T[i].2)) ∨
    (∀ T, Fine T → F ≠ fileT T) ∧ e = .returned (.tuple #[.slice none 0 0, .int .i64 12]))
theorem docV_snoc (D : List Dc) (x : Dc) : docV (D ++ [x]) = docV D ++ [.int .i64 x.1, .string x.2] := by simp [docV, encDoc]
theorem back_take (T : List Tx) (i : Nat) (h : i < T.length) : dcs (backN (T.take (i + 1))) = dcs (backN (T.take i)) ++ [((T[i].1 : Int), ⟨(joinW T[i].2).toArray⟩)] := by
  rw [take_snocL T i h]; unfold dcs backN; rw [List.map_append, List.map_append]; rfl

theorem file_lenR (T : List Tx) : (fileT T).length = (bodyT T).length + 4 := by unfold fileT; rw [List.length_append, sumB_len]
theorem body_lenR (T : List Tx) (hf : Fine T) : (bodyT T).length ≤ 101100 := by
  have h3 := numB_len T.length
  have h4 := numB_len (termsOf T).length
  have h5 := riseB_len (T.map Prod.fst) 0
  have h6 := postT_part T hf (termsOf T).length
  have h7 := hf.len
  rw [List.take_length] at h6
  rw [List.length_map] at h5
  rw [body_eq]
  simp only [List.length_cons, List.length_append]
  unfold numB at *
  omega
theorem back_fine (T : List Tx) (N' : List Nd) (hT : T.length ≤ 60) (hs : Sorted N') (hp : N'.Perm (backN T)) (hid : IdsOk (dcs (backN T))) (hsz : ∀ d ∈ dcs (backN T), d.2.size ≤ 120) : Fine (txs N') := by
  refine fine_txs N' hs ?_ ?_ ?_
  · rw [hp.length_eq]; simpa [backN] using hT
  · intro x hx
    obtain ⟨i, hi, e⟩ := List.getElem_of_mem (hp.mem_iff.1 hx)
    have := (hid i (by simpa [dcs] using hi)).2.1
    simp only [dcs, List.getElem_map, e] at this
    omega
  · intro x hx
    exact hsz ((x.1 : Int), x.2) (List.mem_map.2 ⟨x, hp.mem_iff.1 hx, rfl⟩)
theorem zip_take (T : List Tx) (vs : List Value) (j : Nat) (h : j < T.length) (h2 : j < vs.length) : ((T.map Prod.fst).zip vs).take (j + 1) = ((T.map Prod.fst).zip vs).take j ++ [(T[j].1, vs[j])] := by
  rw [take_snocL _ j (by simp; omega)]
  simp
theorem docsAt_of {w : World} {base n cl : Nat} {al : Option Addr} {D : List Dc} (h : w.ownsRow base 246 2 (.slice al n cl) n (docV D)) (hn : D.length = n) : DocsAt w al D := by
  cases D with
  | nil => exact .inl rfl
  | cons x r =>
    obtain ⟨a5, c5, e5, h5⟩ := owns_forms h
    obtain ⟨g, hg⟩ := h5 (by rw [← hn]; simp)
    simp at e5
    have ea : al = some ⟨g, 0, none⟩ := by rw [e5.1, hg]
    subst ea
    refine .inr ⟨g, 0, rfl, (h.lt g rfl).2, ?_⟩
    intro i hi
    obtain ⟨d0, d1⟩ := docV_get (x :: r) i hi
    rw [Nat.zero_add]
    exact ⟨(owns_at h d0).1, (owns_at h d1).1⟩
theorem vw_up {w : World} {B B' : Nat} {a : Option Addr} {l : List UInt8} (h : Vw w B a l) (hB : B ≤ B') : Vw w B' a l := by
  rcases h with h | ⟨g, off, e, hg, hc⟩
  · exact .inl h
  · exact .inr ⟨g, off, e, by omega, hc⟩
theorem DocsIs.far {w w' : World} {base b m sz : Nat} {v u : Value} {T : List Tx} {vs xs : List Value} {e : TypeId} (h : DocsIs w base v T vs) (k : Kp u.ownBlock.toList w w') (hu : w.ownsRow b e sz u m xs) (h1 : e ≠ 251) (h2 : e ≠ 9) : DocsIs w' base v T vs :=
  ⟨h.len, k.owns h.row (fun g hg hx => owns_disj hu h.row h1 g (by simpa using hx) hg), fun i hi hi2 => k.owns (h.each i hi hi2) (fun g hg hx => owns_disj hu (h.each i hi hi2) h2 g (by simpa using hx) hg)⟩

set_option maxHeartbeats 1000000 in
set_option maxRecDepth 100000 in
theorem rread_any (n cap : Nat) (a : Option Addr) (F : List UInt8) (w : World) (hv : Vw w w.heap.size a F) (hn : F.length = n) (hn2 : n ≤ 4000000) (hc : n ≤ cap) :
    Calls Tryz.prog 80 #[.slice a n cap] w (RReadPost F w) := by
  obtain ⟨i0, hi0, hz0, hz1, hz2⟩ := info_parts info43
  obtain ⟨i1, hi1, hy0, hy1, hy2⟩ := info_parts info52
  have HV := hide hv
  have Hn := hide hn
  have HG := hide (rguess_any n cap a F w hv hn hn2 hc)
  clear hv hn
  go_enter Tryz.func80, Tryz.ntmps80
  go_wp2_with fail
  refine HG.out.mono ?_
  rintro e w1 ⟨k1, h1⟩
  rcases h1 with ⟨hg, rfl⟩ | ⟨T, ad, cd, N, vs, hg, hT, rfl, hdi⟩
  · have hno : ∀ T, Fine T → F ≠ fileT T := by
      intro T hf e
      have := guess_file T hf
      rw [← e, hg] at this
      simp at this
    have HNO := hide hno
    clear hno hg HG
    go_wp2_with fail
    go_ret2
    exact ⟨k1, .inr ⟨HNO.out, rfl⟩⟩
  have hbnd := guess_bnd F T hg
  have hN60 : N ≤ 60 := by rw [← hT]; exact hbnd.len
  have HB := hide hbnd
  have HGG := hide hg
  have HT := hide hT
  have HD := hide hdi
  have hvs := hdi.len
  have HVS := hide hvs
  clear hbnd hg hT hdi HG hvs
  go_wp2_with fail
  go_loopw [6, 7] (fun lv iv wr => ∃ (i : Nat) (al : Option Addr) (cl : Nat), i ≤ N ∧ iv = .int .i64 i ∧ lv = .slice al i cl ∧ wr.ownsRow w.heap.size 246 2 (.slice al i cl) i (docV (dcs (backN (T.take i)))) ∧ DocsIs wr w.heap.size (.slice ad N cd) T vs ∧ Kp [] w wr) (fun _ iv _ => N - (intOf iv).toNat)
  case atStart => exact ⟨0, none, 0, by omega, rfl, rfl, World.ownsRow_nil _ _ _ _, HD.out, k1⟩
  case round =>
    clear HD k1
    obtain ⟨i, al, cl, hi, rfl, rfl, ho, hdi, hkp⟩ := hrel
    by_cases hlt : i < N
    · have hiT : i < T.length := by rw [HT.out]; exact hlt
      have hiv : i < vs.length := by rw [HVS.out]; exact hiT
      obtain ⟨g, rfl⟩ : ∃ g, ad = some ⟨g, 0, none⟩ := by
        obtain ⟨a5, c5, e5, h5⟩ := owns_forms hdi.row
        obtain ⟨g, hg⟩ := h5 (by omega)
        simp at e5
        exact ⟨g, by rw [e5.1, hg]⟩
      obtain ⟨q0, q1, _⟩ := hdi.cells i hiT hiv
      have hgl := (hdi.row.lt g rfl).2
      have hea := hdi.each i hiT hiv
      have hfew := HB.out.few _ (List.getElem_mem hiT)
      have hsh := HB.out.short _ (List.getElem_mem hiT)
      rw [Hn.out] at hsh
      have hbt := back_take T i hiT
      obtain ⟨aw, cw, ew, _⟩ := owns_forms hea
      rw [ew] at q1 hea
      obtain ⟨t, ht⟩ : ∃ t, T[i] = t := ⟨_, rfl⟩
      rw [ht] at q0 q1 hea hfew hsh hbt
      obtain ⟨id, ws⟩ := t
      simp only at q0 q1 hea hfew hsh hbt
      have HBY := hide (fun (W : World) (hW : W.ownsRow w.heap.size 9 1 (.slice aw ws.length cw) ws.length (strV ws)) => rbody_any w.heap.size (.slice aw ws.length cw) ws W hW (by omega) (fun x hx => by have := hsh x hx; omega))
      have HO := hide ho
      have HDI := hide hdi
      have HBT := hide hbt
      have HEA := hide hea
      have EW := hide ew
      have HTI := hide ht
      have hzk := hkp.size
      clear ho hdi hbt hea hfew hsh ew ht
      have j1 : (0 : Int) ≤ (i : Int) := by omega
      have j2 : (i : Int) < (N : Int) := by omega
      go_wp2_with fail
      go_region_held3 (fun w' => w'.cell? ⟨g, i * 3, none⟩ = some (.int .i64 (id : Int)) ∧ w'.cell? ⟨g, i * 3 + 1, none⟩ = some (.slice aw ws.length cw)) (first | go_keep | exact ⟨hs0, hs1⟩)
        (first
          | (go_at_call 157; refine (HBY.out _ (by first | exact HEA.out | exact HEA.out.drew)).mono ?_; rintro e w9 ⟨rfl, hw9⟩; subst hw9)
          | (refine step_append_lies _ (by rfl) _ _ _ (by rfl) w.heap.size 246 i0 _ 2 24 Tryz.underlying66 hi0 hz0 hz1 hz2 rfl (by omega) (.slice al i cl) i (docV (dcs (backN (T.take i)))) (by rfl) (by first | exact HO.out.alloc _ | exact (HO.out.alloc _).drew)
                ⟨wr.heap.size, 0, none⟩ 1 1 [.int .i64 (id : Int), .string ⟨(joinW ws).toArray⟩] (by rfl) (by rfl) (World.news_of_block (cs := #[.int .i64 (id : Int), .string ⟨(joinW ws).toArray⟩]) (t := 246) (fr := (0, 0)) (heap_alloc_new wr _)) (by simp [Value.oneCell'])
                (by omega) (by unfold maxLen; omega) (by omega) (by simp; omega) (wr.heap.size + 1) (by simp) ?_; intro gg cap' w3 hown3 hgrow hat3 hlt3; have k3 : Kp (Value.slice al i cl).ownBlock.toList wr w3 := (by first | exact ((Kp.refl _ wr).alloc _).grown hgrow (fun j hj => .inl (by simp [hj])) | exact (((Kp.refl _ wr).alloc _).drewN 1).grown hgrow (fun j hj => .inl (by simp [hj]))); have hd3 := HDI.out.far k3 HO.out (by decide) (by decide); have hs0 := (hd3.cells i hiT hiv).1; have hs1 := (hd3.cells i hiT hiv).2.1; rw [EW.out] at hs1; simp only [HTI.out] at hs0 hs1))
      have kk3 : Kp [] w w3 := hkp.trans k3 (fun y hy => .inr (HO.out.lt y (by simpa using hy)).1)
      have ho3 : w3.ownsRow w.heap.size 246 2 (.slice (some ⟨gg, 0, none⟩) (i + 1) cap') (i + 1) (docV (dcs (backN (T.take (i + 1))))) := by
        rw [HBT.out, docV_snoc]; exact hown3
      have HO3 := hide ho3
      have HD3 := hide hd3
      clear ho3 hd3 hown3 hgrow hat3 hs0 hs1 q0 q1 HDI HO k3
      go_wp2_with fail
      go_roundw
      case rel => exact ⟨i + 1, _, _, by omega, by go_num, rfl, HO3.out, HD3.out, kk3⟩
      case measure => simp [intOf]; omega
    · obtain rfl : i = N := by omega
      have htk : T.take i = T := List.take_of_length_le (by rw [HT.out]; omega)
      rw [htk] at ho
      obtain ⟨N', hch, hord⟩ := back_order T
      have hDl : (dcs (backN T)).length = i := by rw [back_len]; exact HT.out
      have HP := hide (rpack_any al cl i (dcs (backN T)) (backN T) N' wr (docsAt_of ho hDl) hDl (by omega) hord)
      have HDI := hide hdi
      have HCH := hide hch
      have HORD := hide hord
      have HDL := hide hDl
      clear ho hdi hch hord hDl htk
      go_wp2_with fail
      refine HP.out.mono ?_
      rintro e w2 ⟨k2, h2⟩
      have kk2 : Kp [] w w2 := hkp.trans k2 (by simp)
      have HV2 := hide (vw_up (vw_kp HV.out kk2 (by simp)) kk2.size)
      have HD2 := hide (HDI.out.kp0 k2)
      clear HP HDI k2 hkp HV
      rcases h2 with ⟨h60, _⟩ | ⟨_, hbad, rfl⟩ | ⟨_, hid, hlong, rfl⟩ | ⟨_, hid, hsz, ap, cp, np, hnp, rfl, hop⟩
      · rw [HDL.out] at h60; omega
      · have HNO : Hid (∀ T, Fine T → F ≠ fileT T) := by
          intro T' hf e
          have := read_only F T T' HGG.out hf e
          subst this
          exact hbad (fine_ids T hf)
        have HS := hide (rsame_any none a 0 0 cap n [] F w2 (.inl ⟨rfl, rfl⟩) HV2.out rfl Hn.out (by omega))
        clear hbad
        go_wp2_with fail
        refine HS.out.mono ?_
        rintro e w3 ⟨rfl, k3⟩
        go_wp2_with fail
        go_ret2
        exact ⟨kk2.trans k3 (by simp), .inr ⟨HNO.out, rfl⟩⟩
      · have HNO : Hid (∀ T, Fine T → F ≠ fileT T) := by
          intro T' hf e
          have := read_only F T T' HGG.out hf e
          subst this
          obtain ⟨d, hd, h⟩ := hlong
          have := fine_size T hf d hd
          omega
        have HS := hide (rsame_any none a 0 0 cap n [] F w2 (.inl ⟨rfl, rfl⟩) HV2.out rfl Hn.out (by omega))
        clear hlong hid
        go_wp2_with fail
        refine HS.out.mono ?_
        rintro e w3 ⟨rfl, k3⟩
        go_wp2_with fail
        go_ret2
        exact ⟨kk2.trans k3 (by simp), .inr ⟨HNO.out, rfl⟩⟩
      · obtain ⟨_, hp, hs⟩ := HORD.out hid
        have hiff := read_iff F T N' HGG.out HCH.out hs hp hid hsz
        have hfin := back_fine T N' (by rw [HT.out]; exact hN60) hs hp hid hsz
        have hlenp : np ≤ 4000000 := by
          rw [← hnp, file_lenR]
          have := body_lenR _ hfin
          omega
        have hS := rsame_any ap a cp np cap n (fileT (txs N')) F w2 (vw_of_owns hop hnp) HV2.out hnp Hn.out hlenp
        by_cases heq : fileT (txs N') = F
        · obtain ⟨hf, eF⟩ := hiff.1 heq
          rw [decide_eq_true heq] at hS
          have HS := hide hS
          have HF := hide hf
          have HEF := hide eF
          clear hS hf eF heq hiff hfin hp hs hid hsz hop hnp HORD HCH HGG
          go_wp2_with fail
          refine HS.out.mono ?_
          rintro e w3 ⟨rfl, k3⟩
          have kk3 : Kp [] w w3 := kk2.trans k3 (by simp)
          have HD3 := hide (HD2.out.kp0 k3)
          clear HD2 k3 kk2 HS HV2
          go_wp2_with fail
          go_loopw [11, 12] (fun lv iv wr => ∃ (j : Nat) (ao : Option Addr) (co : Nat), j ≤ i ∧ iv = .int .i64 j ∧ lv = .slice ao j co ∧ wr.ownsRow w.heap.size 204 2 (.slice ao j co) j (tx2 (((T.map Prod.fst).zip vs).take j)) ∧ DocsIs wr w.heap.size (.slice ad i cd) T vs ∧ Kp [] w wr) (fun _ iv _ => i - (intOf iv).toNat)
          case atStart => exact ⟨0, none, 0, by omega, rfl, rfl, World.ownsRow_nil _ _ _ _, HD3.out, kk3⟩
          case round =>
            clear HD3 kk3
            obtain ⟨j, ao, co, hj, rfl, rfl, ho, hdi, hkp⟩ := hrel
            have hzk := hkp.size
            by_cases hlt2 : j < i
            · have hiT : j < T.length := by rw [HT.out]; exact hlt2
              have hiv : j < vs.length := by rw [HVS.out]; exact hiT
              obtain ⟨g, rfl⟩ : ∃ g, ad = some ⟨g, 0, none⟩ := by
                obtain ⟨a5, c5, e5, h5⟩ := owns_forms hdi.row
                obtain ⟨g, hg⟩ := h5 (by omega)
                simp at e5
                exact ⟨g, by rw [e5.1, hg]⟩
              obtain ⟨q0, q1, _⟩ := hdi.cells j hiT hiv
              have hgl := (hdi.row.lt g rfl).2
              have hea := hdi.each j hiT hiv
              have hzt := zip_take T vs j hiT hiv
              obtain ⟨aw, cw, ew, _⟩ := owns_forms hea
              rw [ew] at q1 hzt
              obtain ⟨t, ht⟩ : ∃ t, T[j] = t := ⟨_, rfl⟩
              rw [ht] at q0 q1 hzt
              obtain ⟨id, ws⟩ := t
              simp only at q0 q1 hzt
              have HO := hide ho
              have HDI := hide hdi
              have HZT := hide hzt
              have EW := hide ew
              have HTI := hide ht
              clear ho hdi hzt hea ew ht
              have j1 : (0 : Int) ≤ (j : Int) := by omega
              have j2 : (j : Int) < (i : Int) := by omega
              go_wp2_with fail
              go_region_held3 (fun w' => w'.cell? ⟨g, j * 3, none⟩ = some (.int .i64 (id : Int)) ∧ w'.cell? ⟨g, j * 3 + 1, none⟩ = some (.slice aw ws.length cw)) (first | go_keep | exact ⟨hs0, hs1⟩)
                ((refine step_append_lies _ (by rfl) _ _ _ (by rfl) w.heap.size 204 i1 _ 2 32 Tryz.underlying79 hi1 hy0 hy1 hy2 rfl (by omega) (.slice ao j co) j (tx2 (((T.map Prod.fst).zip vs).take j)) (by rfl) (by first | exact HO.out.alloc _ | exact (HO.out.alloc _).drew)
                    ⟨wr.heap.size, 0, none⟩ 1 1 [.int .i64 (id : Int), .slice aw ws.length cw] (by rfl) (by rfl) (World.news_of_block (cs := #[.int .i64 (id : Int), .slice aw ws.length cw]) (t := 204) (fr := (0, 0)) (heap_alloc_new wr _)) (by simp [Value.oneCell'])
                    (by omega) (by unfold maxLen; omega) (by omega) (by simp; omega) (wr.heap.size + 1) (by simp) ?_; intro gg cap' w3 hown3 hgrow hat3 hlt3; have k3 : Kp (Value.slice ao j co).ownBlock.toList wr w3 := (by first | exact ((Kp.refl _ wr).alloc _).grown hgrow (fun j hj => .inl (by simp [hj])) | exact (((Kp.refl _ wr).alloc _).drewN 1).grown hgrow (fun j hj => .inl (by simp [hj]))); have hd3 := HDI.out.far k3 HO.out (by decide) (by decide); have hs0 := (hd3.cells j hiT hiv).1; have hs1 := (hd3.cells j hiT hiv).2.1; rw [EW.out] at hs1; simp only [HTI.out] at hs0 hs1))
              have kk3 : Kp [] w w3 := hkp.trans k3 (fun y hy => .inr (HO.out.lt y (by simpa using hy)).1)
              have ho3 : w3.ownsRow w.heap.size 204 2 (.slice (some ⟨gg, 0, none⟩) (j + 1) cap') (j + 1) (tx2 (((T.map Prod.fst).zip vs).take (j + 1))) := by
                rw [HZT.out, tx2_snoc]; exact hown3
              have HO3 := hide ho3
              have HD3 := hide hd3
              clear ho3 hd3 hown3 hgrow hat3 hs0 hs1 q0 q1 HDI HO k3
              go_wp2_with fail
              go_roundw
              case rel => exact ⟨j + 1, _, _, by omega, by go_num, rfl, HO3.out, HD3.out, kk3⟩
              case measure => simp [intOf]; omega
            · obtain rfl : j = i := by omega
              have htk : ((T.map Prod.fst).zip vs).take j = (T.map Prod.fst).zip vs := List.take_of_length_le (by simp; rw [HT.out]; omega)
              rw [htk] at ho
              have HO := hide ho
              have HDI := hide hdi
              clear ho hdi htk
              go_wp2_with fail
              go_ret2
              exact ⟨hkp, .inl ⟨T, ao, co, j, vs, HF.out, HEF.out, HT.out, by rw [HVS.out, HT.out], rfl, HO.out, HDI.out.each⟩⟩
        · have HNO : Hid (∀ T, Fine T → F ≠ fileT T) := by
            intro T' hf e
            have := read_only F T T' HGG.out hf e
            subst this
            exact heq (hiff.2 ⟨hf, e⟩)
          rw [decide_eq_false heq] at hS
          have HS := hide hS
          clear hS heq hiff hfin hp hs hid hsz hop hnp HORD HCH HGG
          go_wp2_with fail
          refine HS.out.mono ?_
          rintro e w3 ⟨rfl, k3⟩
          go_wp2_with fail
          go_ret2
          exact ⟨kk2.trans k3 (by simp), .inr ⟨HNO.out, rfl⟩⟩
end Go.Proofs.YtbkepgmgebmceaaGreatDoor.Pak

set_option linter.unusedVariables false
namespace Go.Proofs.YtbkepgmgebmceaaGreatDoor.Own
open Go.RowKit Go.Proofs.YtbkepgmgebmceaaGreatDoor
open Go.Proofs.YtbkepgmgebmceaaGreatDoor.Spl Go.Proofs.YtbkepgmgebmceaaGreatDoor.Pak

theorem shrink_docs {w : World} {base g n c : Nat} {D : List Dc} (h : w.ownsRow base 246 2 (.slice (some ⟨g, 0, none⟩) (n + 1) c) (n + 1) (docV D ++ farC)) (hn : D.length = n) : w.ownsRow base 246 2 (.slice (some ⟨g, 0, none⟩) n c) n (docV D) := by
  have := owns_shrink h (n' := n) (by omega)
  rw [List.take_left' (by rw [docV_len, hn])] at this
  exact this

theorem docs_far {w w' : World} {S : List Nat} {a : Option Addr} {D : List Dc} (h : DocsAt w a D) (k : Kp S w w') (hS : ∀ x ∈ S, w.heap.size ≤ x) : DocsAt w' a D := by
  rcases h with h | ⟨b, off, e, h0, h1⟩
  · exact .inl h
  · have hb : b ∉ S := fun hx => by have := hS b hx; omega
    exact .inr ⟨b, off, e, Nat.lt_of_lt_of_le h0 k.size, fun i hi => ⟨k.cellv (h1 i hi).1 hb, k.cellv (h1 i hi).2 hb⟩⟩
theorem pack_form {D : List Dc} {N' : List Nd} {w1 w2 : World} {e : Ending} (h : PackPost D N' w1 e w2) : ∃ (a : Option Addr) (m c : Nat) (er : Int), e = .returned (.tuple #[.slice a m c, .int .i64 er]) := by
  rcases h.2 with ⟨_, rfl⟩ | ⟨_, _, rfl⟩ | ⟨_, _, _, rfl⟩ | ⟨_, _, _, a1, c1, n1, _, rfl, _⟩
  · exact ⟨_, _, _, _, rfl⟩
  · exact ⟨_, _, _, _, rfl⟩
  · exact ⟨_, _, _, _, rfl⟩
  · exact ⟨_, _, _, _, rfl⟩
theorem pack_bound {D : List Dc} {N N' : List Nd} {w1 w2 : World} {a : Option Addr} {m c : Nat} {er : Int} (hN : IdsOk D → D = dcs N ∧ N'.Perm N ∧ Sorted N') (h : PackPost D N' w1 (.returned (.tuple #[.slice a m c, .int .i64 er])) w2) : m ≤ 200000 := by
  rcases h.2 with ⟨_, e⟩ | ⟨_, _, e⟩ | ⟨_, _, _, e⟩ | ⟨h60, hi, hs, a1, c1, n1, hl, e, _⟩
  · simp at e; omega
  · simp at e; omega
  · simp at e; omega
  · simp at e
    obtain ⟨rfl, hp, hso⟩ := hN hi
    have hlN := dcs_len N
    have hf := fine_txs N' hso (by have := hp.length_eq; omega) (fun x hx => by
      have := ((idsOk_iff _).1 hi).1 _ (List.mem_map.2 ⟨x, hp.mem_iff.1 hx, rfl⟩)
      simp at this; omega) (fun x hx => hs _ (List.mem_map.2 ⟨x, hp.mem_iff.1 hx, rfl⟩))
    have h1 := file_lenR (txs N')
    have h2 := body_lenR (txs N') hf
    omega

set_option maxHeartbeats 2000000 in
set_option maxRecDepth 100000 in
theorem free3_any (P : Nat) (L : Ls) (a b c d : Int) (s : ByteArray) (al : Option Addr) (capl n : Nat) (nm fl : Value) (D : List Dc) (w : World) (hI : Inv w P L) (hD : DocsAt w al D) (hn : D.length = n) (hnone : al = none → n = 0 ∧ capl = 0) (hb : n ≤ 2000000)
    (hF : (L.F3.length + 1) * 104 ≤ 140737488355328) :
    Calls Tryz.prog 40 #[.pointer (some ⟨P, 0, none⟩), opA 3 a b c d s (.slice al n capl) nm fl] w fun e w' => e = .returned (.bool true) ∧ (∃ x v', Inv w' P { L with F3 := L.F3 ++ [x], v3 := v' }) ∧ Below P w w' := by
  unfold opA
  obtain ⟨N, N', hN⟩ := docs_sorted D
  have hPlt := lt_of_heap hI.hP
  obtain ⟨W, hW⟩ : ∃ W, w.alloc (.cells #[.int .i64 3, .int .i64 a, .int .i64 b, .int .i64 c, .int .i64 d, .string s, .slice al n capl, nm, fl] 69) = W := ⟨_, rfl⟩
  have hbx : W.heap[w.heap.size]? = some (.cells #[.int .i64 3, .int .i64 a, .int .i64 b, .int .i64 c, .int .i64 d, .string s, .slice al n capl, nm, fl] 69 (0, 0)) := by rw [← hW]; exact heap_alloc_new w _
  have kW : Kp [] w W := by rw [← hW]; exact (Pak.Kp.refl [] w).alloc _
  have HI := hide hI
  have HD := hide (hD.kp kW)
  have HN := hide hN
  have Hn := hide hn
  have HNO := hide hnone
  have HBX := hide hbx
  have HKW := hide kW
  have HW := hide hW
  have cell6 : ∀ {w' : World} {S : List Nat}, Kp S W w' → w.heap.size ∉ S → w'.cell? ⟨w.heap.size, 6, none⟩ = some (.slice al n capl) := fun {w' S} hk hS => hk.cellv (p := ⟨w.heap.size, 6, none⟩) (by rw [cell_of_row W w.heap.size 6 _ 69 (0, 0) hbx]; rfl) hS
  have HC6 := @cell6
  clear hI hD hN hn hnone hbx kW hW cell6
  go_enter Tryz.func40, Tryz.ntmps40
  go_wp2_with fail
  rw [HW.out]
  refine (wideDocs_any al capl n D W HD.out Hn.out HNO.out (by omega)).mono ?_
  rintro e w1 ⟨g, cg, rfl, hcg, ho1, k1⟩
  have hg1 := (ho1.lt g rfl).1
  have hg2 := (ho1.lt g rfl).2
  have k01 : Kp [] W w1 := k1
  have HP := hide (spack_any W.heap.size (.slice (some ⟨g, 0, none⟩) n cg) D N N' w1 (by rw [Hn.out]; exact shrink_docs ho1 Hn.out) (by rw [Hn.out]; omega) HN.out)
  have HO1 := hide ho1
  clear ho1 k1
  go_wp2_with fail
  refine HP.out.mono ?_
  rintro e w2 hp2
  obtain ⟨a1, m1, c1, er1, rfl⟩ := pack_form hp2
  have hm1 := pack_bound HN.out hp2
  have k2 := hp2.1
  have kW2 : Kp [] W w2 := k01.next k2
  have hz1 := k01.size
  have hz2 := k2.size
  have hzW := HKW.out.size
  have hbxW := lt_of_heap HBX.out
  have cc2 := HC6 kW2 (by simp)
  have ho2 := k2.owns HO1.out (by simp)
  have hD2 := HD.out.kp kW2
  have HST := hide (stillDocs_any W.heap.size g cg capl n al D w2 hD2 (fun hn0 b' off' e' => by
    rcases HD.out with h0 | ⟨bb, oo, ee, hlt', _⟩
    · have := Hn.out; rw [h0] at this; simp at this; omega
    · rw [ee] at e'; simp at e'; omega) Hn.out (by omega) hcg ho2)
  have HP2 := hide hp2
  have HK2 := hide k2
  clear hp2 k2 ho2 hD2 HP HO1
  go_wp2_with fail
  refine HST.out.mono ?_
  rintro e w3 ⟨rfl, k3⟩
  have hz3 := k3.size
  have hgw : w.heap.size ≠ g := by omega
  have kW3 : Kp [g] W w3 := (kW2.mono (by simp)).next k3
  have cc3 := HC6 kW3 (by simpa using hgw)
  have hD3 := docs_far HD.out kW3 (fun x hx => by simp at hx; subst hx; exact hg1)
  have HRP := hide (rpack_any al capl n D N N' w3 hD3 Hn.out (by omega) HN.out)
  have HK3 := hide k3
  clear k3 hD3 HST cc2
  go_wp2_with fail
  refine HRP.out.mono ?_
  rintro e w4 hp4
  obtain ⟨a2, m2, c2, er2, rfl⟩ := pack_form hp4
  have k4 := hp4.1
  have hz4 := k4.size
  have hall : Kp [] w w4 := ((((HKW.out.next k01).next HK2.out).trans HK3.out (fun x hx => by simp at hx; subst hx; exact .inr (by omega))).next k4)
  have hbel : Below w.heap.size w w4 := hall.below (Nat.le_refl _) (by simp)
  have hsame := pack_same HP2.out hp4
  have HE : ∃ (F : List UInt8) (er : Int), (er = 0 ∨ m1 = 0 ∧ a1 = none) ∧ er1 = er ∧ er2 = er ∧ m1 = F.length ∧ m2 = F.length ∧ w4.ownsRow w1.heap.size 5 1 (.slice a1 m1 c1) m1 (byV F) ∧ w4.ownsRow w3.heap.size 5 1 (.slice a2 m2 c2) m2 (byV F) ∧ (er ≠ 0 → c1 = 0) := by
    rcases hsame with ⟨er, h0, e1, e2⟩ | ⟨F, b1, b2, d1, d2, e1, e2, o1, o2⟩
    · simp at e1 e2
      obtain ⟨⟨rfl, rfl, rfl⟩, rfl⟩ := e1
      obtain ⟨⟨rfl, rfl, rfl⟩, rfl⟩ := e2
      exact ⟨[], _, .inr ⟨rfl, rfl⟩, rfl, rfl, rfl, rfl, World.ownsRow_nil _ _ _ _, World.ownsRow_nil _ _ _ _, fun _ => rfl⟩
    · simp at e1 e2
      obtain ⟨⟨rfl, rfl, rfl⟩, rfl⟩ := e1
      obtain ⟨⟨rfl, rfl, rfl⟩, rfl⟩ := e2
      refine ⟨F, 0, .inl rfl, rfl, rfl, rfl, rfl, k4.owns (HK3.out.owns o1 (fun y hy hm => by have := (o1.lt y hy).1; simp at hm; omega)) (by simp), o2, fun h => absurd rfl h⟩
  obtain ⟨F, er, her, rfl, rfl, rfl, hm2, o1, o2, hc0⟩ := HE
  subst hm2
  have hcv1 := conv_vw w4 w4.heap.size a1 F (vw_of_owns o1 rfl) c1
  have hcv2 := conv_vw w4 w4.heap.size a2 F (vw_of_owns o2 rfl) c2
  have HB := hide (byte_any P w1.heap.size F.length L (.slice a1 F.length c1) (byV F) w w4 HI.out hbel (by omega) (by omega) hF (by omega) o1)
  have HBEL := hide (hall.below (Nat.le_of_lt hPlt) (by simp))
  clear hall hbel hsame o1 o2 hp4 k4 HRP cc3
  go_wp2_with fail
  refine HB.out.mono ?_
  rintro e w5 ⟨rfl, hx, hb5⟩
  have HX := hide hx
  have H5 := hide (HBEL.out.trans hb5)
  clear hx hb5 HB hcv1 hcv2
  by_cases h0 : er2 = 0
  · subst h0
    clear her hc0
    go_wp2_with fail
    go_ret
    exact ⟨rfl, HX.out, H5.out⟩
  · obtain ⟨_, rfl⟩ : F.length = 0 ∧ a1 = none := by
      rcases her with h | h
      · exact absurd h h0
      · exact h
    have hq : (er2 == 0) = false := by simpa using h0
    have hnil : ∀ w', (binOp .eql 109 (.slice none 0 c1) (.slice none 0 0)).run Tryz.prog w' = .ok (.bool true) w' := fun w' => by simp [binOp, run_equal_slice_nil w' 109 5 none 0 c1 Tryz.underlying109]
    clear her hc0 h0
    go_wp2_with fail
    go_ret
    exact ⟨rfl, HX.out, H5.out⟩
end Go.Proofs.YtbkepgmgebmceaaGreatDoor.Own

set_option linter.unusedVariables false
set_option maxRecDepth 4000
namespace Go.Proofs.YtbkepgmgebmceaaGreatDoor.Pak
open Go.RowKit Go.Proofs.YtbkepgmgebmceaaGreatDoor Go.Proofs.YtbkepgmgebmceaaGreatDoor.Spl SiftM

theorem read_file (T : List Tx) (hf : Fine T) (a : Option Addr) (cap : Nat) (w : World) (hv : Vw w w.heap.size a (fileT T)) (hc : (fileT T).length ≤ cap) (hc2 : cap ≤ 9223372036854775807) :
    Calls Tryz.prog 78 #[.slice a (fileT T).length cap] w fun e w' => ∃ v vs, e = .returned (.tuple #[v, .int .i64 0]) ∧ TextsIs w' w.heap.size v T vs ∧ Kp [] w w' := by
  have hl := file_lenR T
  have hb := body_lenR T hf
  have ht := allW_le T hf.few
  have hn := hf.len
  have htab : tableF (unsealF (fileT T)) = (T.map Prod.fst, termsOf T, sumW T, belowF (rowsOf T) (termsOf T).length, some []) := by
    unfold fileT; rw [unseal_file]; exact table_back T hf
  have hsw := sumW_le T hf.few
  have htb := texts_back T
  have hr := read_good a cap (fileT T) _ _ _ _ (rowsOf T) w hv (by omega) hc hc2 htab (below_rows (rowsOf T) (termsOf T).length (rows_small T hf.few) (rows_lt T)) (by rw [rows_len]; simp) (by simpa using hn) (by omega) (by omega) (by
    intro r hr
    unfold rowsOf at hr
    obtain ⟨t, htm, rfl⟩ := List.mem_map.1 hr
    rw [words_back T t htm]
    have h1 := hf.few t htm
    have h2 := (hf.short t htm).2
    omega) (by rw [htb]; exact may_sum T (fun t ht => (hf.short t ht).1))
  rw [htb] at hr
  exact hr


set_option maxHeartbeats 800000 in
set_option maxRecDepth 100000 in
theorem read_may (a : Option Addr) (cap : Nat) (l : List UInt8) (ids : List Nat) (terms : List (List UInt8)) (c : Nat) (f : Nat → Nat → Option Nat) (rows : List (List Nat)) (w : World) (hv : Vw w w.heap.size a l) (hl : l.length ≤ 2000000) (hc : l.length ≤ cap) (hc2 : cap ≤ 9223372036854775807)
    (htab : tableF (unsealF l) = (ids, terms, c, f, some [])) (hr : RowsAre f rows terms.length) (hlen : rows.length = ids.length) (hn : ids.length ≤ 60) (hnt : terms.length ≤ 100000) (hcc : c ≤ 1000000000) (hsm : ∀ r ∈ rows, (wordsOf terms r).length ≤ 1000 ∧ sumL (wordsOf terms r) ≤ 2000000) (hmb : mayB (ids.zip (rows.map (wordsOf terms))) c = false) :
    Calls Tryz.prog 78 #[.slice a l.length cap] w fun e w' => e = .returned (.tuple #[.slice none 0 0, .int .i64 12]) ∧ Kp [] w w' := by
  have hP := hide (pread_good a cap l ids terms c f rows w hv hl hc hc2 htab hr hlen hn hnt hcc hsm)
  rw [hmb] at hP
  generalize ids.zip (rows.map (wordsOf terms)) = TT at *
  clear htab hr hsm hv hmb
  go_enter Tryz.func78, Tryz.ntmps78
  go_wp2_with fail
  refine hP.out.mono ?_
  rintro e w1 ⟨⟨_, rfl⟩ | ⟨h, _⟩, hk1⟩
  · go_wp2_with fail
    go_ret2
    exact ⟨rfl, hk1⟩
  · simp at h

/-- What the program's Read answers, of all bytes. -/
theorem sread_any (a : Option Addr) (cap : Nat) (l : List UInt8) (w : World) (hv : Vw w w.heap.size a l) (hl : l.length ≤ 2000000) (hc : l.length ≤ cap) (hc2 : cap ≤ 9223372036854775807) :
    Calls Tryz.prog 78 #[.slice a l.length cap] w fun e w' => Kp [] w w' ∧ ((∃ T v vs, Fine T ∧ l = fileT T ∧ e = .returned (.tuple #[v, .int .i64 0]) ∧ TextsIs w' w.heap.size v T vs) ∨ (∀ T, Fine T → l ≠ fileT T) ∧ e = .returned (.tuple #[.slice none 0 0, .int .i64 12])) := by
  by_cases hex : ∃ T, Fine T ∧ l = fileT T
  · obtain ⟨T, hf, rfl⟩ := hex
    refine (read_file T hf a cap w hv hc hc2).mono ?_
    rintro e w' ⟨v, vs, rfl, ht, k⟩
    exact ⟨k, .inl ⟨T, v, vs, hf, rfl, rfl, ht⟩⟩
  · have hno : ∀ T, Fine T → l ≠ fileT T := fun T hf e => hex ⟨T, hf, e⟩
    by_cases hb : (tableF (unsealF l)).2.2.2.2 = some []
    · obtain ⟨ids, terms, c, f, rows, htab, hr, hlen, hn, hnt, hcc, hsm, hmay⟩ := accept_inv l hb
      have hmb : mayB (ids.zip (rows.map (wordsOf terms))) c = false := by
        cases e : mayB (ids.zip (rows.map (wordsOf terms))) c with
        | false => rfl
        | true => exact absurd (hmay e).2 (hno _ (hmay e).1)
      refine (read_may a cap l ids terms c f rows w hv hl hc hc2 htab hr hlen hn (by omega) (by omega) (fun r hr => by have := hsm r hr; omega) hmb).mono ?_
      rintro e w' ⟨rfl, k⟩
      exact ⟨k, .inr ⟨hno, rfl⟩⟩
    · refine (read_bad a cap l w hv hl hc hc2 hb).mono ?_
      rintro e w' ⟨rfl, k⟩
      exact ⟨k, .inr ⟨hno, rfl⟩⟩
end Go.Proofs.YtbkepgmgebmceaaGreatDoor.Pak
