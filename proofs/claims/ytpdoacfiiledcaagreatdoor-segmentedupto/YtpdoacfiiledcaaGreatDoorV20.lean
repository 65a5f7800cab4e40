import Derived.Test.YtpdoacfiiledcaaGreatDoorV18
import Derived.Test.YtpdoacfiiledcaaGreatDoorV19
import Derived.Test.YtpdoacfiiledcaaGreatDoorV10
import Derived.Test.YtpdoacfiiledcaaGreatDoorV12
import Derived.Test.YtpdoacfiiledcaaGreatDoorV03
import Derived.Test.YtpdoacfiiledcaaGreatDoorV16
set_option linter.unusedVariables false
set_option maxRecDepth 4000
namespace Go.Proofs.YtpdoacfiiledcaaGreatDoor.Pak
open Go.RowKit Go.Proofs.YtpdoacfiiledcaaGreatDoor Go.Proofs.YtpdoacfiiledcaaGreatDoor.Spl SiftM

set_option maxHeartbeats 1000000 in
set_option maxRecDepth 100000 in
theorem xfile_any (B : Nat) (u : Value) (T : List Tx) (vs : List Value) (w : World) (hu : DocsX w B u T vs) (hf : Fine T) :
    Calls Tryz.prog 178 #[u] w fun e w' => ∃ (a : Option Addr) (c n : Nat), (fileT T).length = n ∧ e = .returned (.slice a n c) ∧ w'.ownsRow w.heap.size 5 1 (.slice a n c) n (byV (fileT T)) ∧ Kp [] w w' := by
  obtain ⟨i0, hi, hz0, hz1, hz2⟩ := info_parts info3
  have hte := fun (w' : World) (h' : Kp [] w w') => xterms_any B T.length u T vs w' (hu.kp0 h') rfl hf.len hf.few
  have hne := fun (w' : World) (vv : Value) (n : Nat) => True
  have hlen := hf.len
  have hfew := hf.few
  have hids : ∀ x ∈ T.map Prod.fst, x < 268435456 := by
    intro x hx
    obtain ⟨t, ht, rfl⟩ := List.mem_map.1 hx
    have := hf.ids t ht; omega
  have hrs := hf.rise
  have hnt := allW_le T hf.few
  have hpart := postT_part T hf
  have hok := postT_ok T hf
  have hwd := fine_word T hf
  have hpW : ∀ k x, (termsOf T)[k]? = some x → postW T x T.length = postT T k := by
    intro k x hx
    have hk : k < (termsOf T).length := by
      rcases Nat.lt_or_ge k (termsOf T).length with h | h
      · exact h
      · rw [List.getElem?_eq_none h] at hx; simp at hx
    rw [List.getElem?_eq_getElem hk] at hx
    rw [← Option.some.inj hx, postW_postD T k hk T.length (Nat.le_refl _)]
    unfold postT; rw [rows_len]
  have hbe := body_eq T
  obtain ⟨N, hN⟩ : ∃ N, T.length = N := ⟨_, rfl⟩
  obtain ⟨terms, hterms⟩ : ∃ terms, termsOf T = terms := ⟨_, rfl⟩
  obtain ⟨PT, hPT⟩ : ∃ PT, postT T = PT := ⟨_, rfl⟩
  obtain ⟨au, cu, rfl, hau⟩ := hu.forms
  rw [hN] at hu hau hlen hbe hnt
  simp only [hN, hterms] at hte hpW
  simp only [hPT] at hpW
  rw [hterms] at hnt hwd hbe
  simp only [hterms, hPT] at hpart
  simp only [hPT, hN] at hok
  rw [hPT] at hbe
  have hfile : fileT T = bodyT T ++ sumB (bodyT T) := rfl
  obtain ⟨body, hbody⟩ : ∃ body, bodyT T = body := ⟨_, rfl⟩
  rw [hbody] at hbe hfile
  rw [hfile, hN]
  have HU := hide hu
  have HTE := hide hte
  have HF := hide hfew
  have HI := hide hids
  have HRS := hide hrs
  have HPt := hide hpart
  have HOK := hide hok
  have HWd := hide hwd
  have HPW := hide hpW
  have HBE := hide hbe
  have HN := hide hN
  clear hu hte hne hfew hids hrs hpart hok hwd hpW hbe hN hterms hPT hbody hfile hf
  go_enter Tryz.func178, Tryz.ntmps178
  go_wp2_with fail
  go_loopw [3, 4] (fun lv iv wr => ∃ (k : Nat) (a : Option Addr) (c : Nat), k ≤ N ∧ iv = .int .i64 k ∧ lv = .slice a k c ∧ wr.ownsRow w.heap.size 3 1 (.slice a k c) k (intV ((T.map Prod.fst).take k)) ∧ Kp [] w wr) (fun _ iv _ => N - (intOf iv).toNat)
  case atStart => exact ⟨0, none, 0, by omega, rfl, rfl, World.ownsRow_nil _ _ _ _, Kp.refl _ _⟩
  case round =>
    obtain ⟨k, a, c, hk, rfl, rfl, ho, hkp⟩ := hrel
    by_cases hlt : k < N
    · obtain ⟨g, rfl⟩ := hau (by omega)
      have hkT : k < T.length := by rw [HN.out]; exact hlt
      have hur := HU.out.kp0 hkp
      have hkv : k < vs.length := by rw [hur.len]; exact hkT
      obtain ⟨q0, q1, bq, q2⟩ := hur.cells k hkT hkv
      have htk := take_snocL (T.map Prod.fst) k (by simpa using hkT)
      have hgl := (hur.lt g rfl).2
      obtain ⟨id, hid⟩ : ∃ id, T[k].1 = id := ⟨_, rfl⟩
      have hst : intV ((T.map Prod.fst).take (k + 1)) = intV ((T.map Prod.fst).take k) ++ [.int .i64 (id : Int)] := by
        rw [htk, ← hid]; simp [intV]
      rw [hid] at q0
      have HST := hide hst
      have HO := hide ho
      have hzk := hkp.size
      clear hur htk hid hst ho q1 q2
      go_wp2_with (first
        | (at_builtin; refine wpList_append_own_at _ rfl _ _ 24 rfl w.heap.size 3 i0 (.int .i64 0) 1 8 Tryz.underlying24 hi hz0 hz1 hz2 rfl (by decide) _ _ _ rfl (HO.out.alloc _) ⟨wr.heap.size, 0, none⟩ 1 1 [.int .i64 (id : Int)] rfl rfl (one_new _ _ _) (one_cell _ _) ?c1 ?c2 ?c3 ?_)
        | fail)
      case c1 => unfold maxLen; omega
      case c2 => omega
      case c3 => simp; omega
      intro v2 w2 ho2 hgrow _ _
      obtain ⟨a2, c2, rfl, _⟩ := owns_forms ho2
      have k2 : Kp (Value.slice a k c).ownBlock.toList wr w2 := ((Kp.refl _ _).alloc _).grown hgrow (fun j hj => .inl (by simp [hj]))
      have kf : Kp [] w w2 := hkp.trans k2 (fun y hy => .inr (HO.out.lt y (by simpa using hy)).1)
      have HO2 := hide ho2
      clear ho2 hgrow k2 HO
      go_wp2_with fail
      go_roundw
      case rel => exact ⟨k + 1, a2, c2, by omega, by go_num, rfl, by rw [HST.out]; exact HO2.out, kf⟩
      case measure => simp [intOf]; omega
    · have ek : N = k := by omega
      subst ek
      rw [show (T.map Prod.fst).take N = T.map Prod.fst by rw [List.take_of_length_le]; rw [List.length_map, HN.out]; exact Nat.le_refl _] at ho
      have HIDS := hide ho
      have HTT := hide (HTE.out wr hkp)
      clear ho HTE
      go_wp2_with fail
      refine HTT.out.mono ?_
      rintro e w1 ⟨at', ct, nt, hnt', rfl, ht1, k1⟩
      have kw1 := hkp.next k1
      have HID1 := hide (k1.owns HIDS.out (by simp))
      have HU1 := hide (HU.out.kp0 kw1)
      have hz1' := kw1.size
      have hzz := k1.size
      obtain ⟨W2, hW2⟩ : ∃ W2, w1.alloc (.cells #[.int .u8 83] 5) = W2 := ⟨_, rfl⟩
      have k2 : Kp [] w1 W2 := by rw [← hW2]; exact (Kp.refl _ _).alloc _
      have ho2 : W2.ownsRow w.heap.size 5 1 (.slice (some ⟨w1.heap.size, 0, none⟩) 1 1) 1 (byV [83]) := by
        refine ⟨rfl, .inr ⟨w1.heap.size, 1, #[.int .u8 83], rfl, hz1', ?_, Nat.le_refl _, by unfold maxLen; omega, rfl, rfl⟩⟩
        rw [← hW2]; exact heap_alloc_new w1 _
      have HT2 := hide (k2.owns ht1 (by simp))
      have HID2 := hide (k2.owns HID1.out (by simp))
      have HU2 := hide (HU1.out.kp0 k2)
      have hz2' := k2.size
      have kb2 : Kb 5 [] w.heap.size w W2 := Kb.of_kp (S := []) (kw1.next k2) (by simp)
      have HPU := hide (rput_n w.heap.size _ 1 1 [83] N W2 ho2 rfl (by omega) (by omega) (by omega))
      have Hnt := hide hnt'
      rw [hnt'] at hnt
      clear ht1 ho2 hnt' HID1 HU1 k2 HIDS HTT HU k1
      go_wp2_with fail
      refine HPU.out.mono ?_
      rintro e w3 ⟨a3, c3, n3, hn3, rfl, ho3, k3⟩
      have hz3' := k3.size
      have hl3 : n3 ≤ 5 := by rw [← hn3, List.length_append]; have := numB_len N; simp; omega
      have HT3 := hide (k3.owns HT2.out (by decide) (by simp))
      have HID3 := hide (k3.owns HID2.out (by decide) (by simp))
      have HU3 := hide (HU2.out.kb5 k3)
      have kb3 := kb2.next k3
      have HRI := hide (rrising_n w.heap.size w.heap.size a3 a c3 n3 c N _ (T.map Prod.fst) w3 ho3 hn3 HID3.out (by rw [List.length_map]; exact HN.out) (by omega) (by omega) (by omega) HRS.out HI.out)
      have Hn3 := hide hn3
      clear ho3 k3 hn3 HT2 HID2 HU2 kb2 HPU HID3
      go_wp2_with fail
      refine HRI.out.mono ?_
      rintro e w4 ⟨a4, c4, n4, hn4, rfl, ho4, k4⟩
      have hz4' := k4.size
      have hl4 : n4 ≤ 245 := by
        have h1 := riseB_len (T.map Prod.fst) 0
        rw [List.length_map, HN.out] at h1
        rw [← hn4, List.length_append, Hn3.out]; omega
      have HT4 := hide (k4.owns HT3.out (by decide) (by simp))
      have HU4 := hide (HU3.out.kb5 k4)
      have kb4 := kb3.next k4
      have HPU := hide (rput_n w.heap.size a4 c4 n4 _ nt w4 ho4 hn4 (by omega) (by omega) (by omega))
      have Hn4 := hide hn4
      clear ho4 k4 hn4 HT3 HU3 kb3 HRI
      go_wp2_with fail
      refine HPU.out.mono ?_
      rintro e w5 ⟨a5, c5, n5, hn5, rfl, ho5, k5⟩
      have hz5' := k5.size
      have hl5 : n5 ≤ 249 := by rw [← hn5, List.length_append, Hn4.out]; have := numB_len nt; omega
      obtain ⟨pre, hpre⟩ : ∃ pre, (([83] ++ numB N) ++ riseB 0 (T.map Prod.fst)) ++ numB nt = pre := ⟨_, rfl⟩
      have hfin : Hid (body = pre ++ termsB PT 0 terms) := by
        show _ = _
        rw [HBE.out, ← hpre, Hnt.out]; simp
      rw [hpre] at ho5 hn5
      have HO5 := hide ho5
      have Hn5 := hide hn5
      have HT5 := hide (k5.owns HT4.out (by decide) (by simp))
      have HU5 := hide (HU4.out.kb5 k5)
      have kb5 := kb4.next k5
      clear ho5 k5 hn5 HT4 HU4 kb4 HPU hpre
      have hb5 : w.heap.size ≤ w5.heap.size := kb5.size
      obtain ⟨H1, hH1⟩ : ∃ H1, wr.heap.size = H1 := ⟨_, rfl⟩
      rw [hH1] at HT5
      clear hH1
      have hat : 0 < nt → ∃ g, at' = some ⟨g, 0, none⟩ := by
        obtain ⟨x1, x2, x3, x4⟩ := owns_forms HT5.out
        cases x3; exact x4
      go_wp2_with fail
      go_loopw [6, 7] (fun ov iv wr => ∃ (k : Nat) (ao : Option Addr) (co n' : Nat), k ≤ nt ∧ iv = .int .i64 k ∧ ov = .slice ao n' co ∧ (pre ++ termsB PT 0 (terms.take k)).length = n' ∧ wr.ownsRow w.heap.size 5 1 (.slice ao n' co) n' (byV (pre ++ termsB PT 0 (terms.take k))) ∧ wr.ownsRow H1 9 1 (.slice at' nt ct) nt (strV terms) ∧ DocsX wr B (.slice au N cu) T vs ∧ w.heap.size ≤ wr.heap.size ∧ Kb 5 [] w.heap.size w wr) (fun _ iv _ => nt - (intOf iv).toNat)
      case atStart => exact ⟨0, a5, c5, n5, by omega, rfl, rfl, by simpa [termsB] using Hn5.out, by simpa [termsB] using HO5.out, HT5.out, HU5.out, hb5, kb5⟩
      case round =>
        clear HO5 HT5 HU5 kb5 hb5
        obtain ⟨k, ao, co, n', hk, rfl, rfl, hn', ho', ht', hd', hbase, hkb⟩ := hrel
        have hn'l : n' ≤ 101100 := by
          have h1 := HPt.out k
          rw [← hn', List.length_append, Hn5.out]; omega
        by_cases hlt2 : k < nt
        · obtain ⟨gt, rfl⟩ := hat (by omega)
          have hkt : k < terms.length := by rw [Hnt.out]; exact hlt2
          have hc := strs_cells ht' Hnt.out k hkt
          have hgt := (ht'.lt gt rfl).2
          have hsp := terms_split PT terms 0 k hkt
          rw [Nat.zero_add] at hsp
          have hwl := HWd.out terms[k] (List.getElem_mem hkt)
          have hpw := HPW.out k terms[k] (List.getElem?_eq_getElem hkt)
          have hok := HOK.out k
          have hcn := cntP_ok N (PT k) 0 hok
          have hol := okP_len N (PT k) 0 hok
          obtain ⟨tm, htm⟩ : ∃ tm, terms[k] = tm := ⟨_, rfl⟩
          rw [htm] at hc hsp hwl hpw
          have hTE := xterm_any w.heap.size B N ao co n' (.slice au N cu) (pre ++ termsB PT 0 (terms.take k)) tm T vs wr ho' hn' hd' hbase HN.out (by omega) (by rw [hpw]; exact hok) hwl HF.out (by rw [hpw]; omega)
          rw [hpw] at hTE
          have HTE := hide hTE
          have HSP := hide hsp
          have HTK := hide ht'
          have HDK := hide hd'
          clear hTE hsp ht' hd' hn' ho' hpw hok htm
          go_wp2_with fail
          refine HTE.out.mono ?_
          rintro e w6 ⟨a6, c6, n6, hn6, rfl, ho6, k6⟩
          have hz6' := k6.size
          have HT6 := hide (k6.owns HTK.out (by decide) (by simp))
          have HD6 := hide (HDK.out.kb5 k6)
          have kb6 := hkb.next k6
          have Hn6 := hide hn6
          have HO6 := hide ho6
          clear hn6 ho6 k6 HTK HDK HTE hc
          go_wp2_with fail
          go_roundw
          case rel => exact ⟨k + 1, a6, c6, n6, by omega, by go_num, rfl, by rw [HSP.out, ← List.append_assoc]; exact Hn6.out, by rw [HSP.out, ← List.append_assoc]; exact HO6.out, HT6.out, HD6.out, by omega, kb6⟩
          case measure => simp [intOf]; omega
        · have ek : nt = k := by omega
          subst ek
          rw [show terms.take nt = terms by rw [← Hnt.out, List.take_length], ← hfin.out] at hn' ho'
          have HSE := hide (rsealed_any w.heap.size ao co n' body wr ho' hn' hbase (by omega))
          clear hn' ho' ht' hd'
          go_wp2_with fail
          refine HSE.out.mono ?_
          rintro e w9 ⟨a9, c9, n9, hn9, rfl, ho9, k9⟩
          have Hn9 := hide hn9
          have HO9 := hide ho9
          have kf : Kp [] w w9 := Kp.of_below [] ((hkb.next k9).below (Nat.le_refl _) (by simp) (Nat.le_refl _))
          clear hn9 ho9 k9 HSE
          go_wp2_with fail
          go_ret
          exact ⟨a9, c9, n9, Hn9.out, rfl, HO9.out, kf⟩
end Go.Proofs.YtpdoacfiiledcaaGreatDoor.Pak

set_option linter.unusedVariables false
set_option maxRecDepth 8000
namespace Go.Proofs.YtpdoacfiiledcaaGreatDoor.Pak
open Go.RowKit Go.Proofs.YtpdoacfiiledcaaGreatDoor Go.Proofs.YtpdoacfiiledcaaGreatDoor.Spl SiftM

theorem mores_snoc {α : Type} [DecidableEq α] (l es : List α) (e : α) : St.mores l (es ++ [e]) = St.more (St.mores l es) e := by simp [St.mores, List.foldl_append]
theorem mores_app {α : Type} [DecidableEq α] (l es fs : List α) : St.mores l (es ++ fs) = St.mores (St.mores l es) fs := by simp [St.mores, List.foldl_append]
def endsOf (L : List (List UInt8)) (t : List UInt8) (n : Nat) : List (List UInt8) := (List.range n).map fun m => St.endings L (t.take m)
theorem endsOf_succ (L : List (List UInt8)) (t : List UInt8) (n : Nat) : endsOf L t (n + 1) = endsOf L t n ++ [St.endings L (t.take n)] := by simp [endsOf, List.range_succ]
def setsTo (L : List (List UInt8)) (i : Nat) : List (List UInt8) := St.mores [] ((L.take i).flatMap fun t => endsOf L t (t.length + 1))
theorem setsTo_succ (L : List (List UInt8)) (i : Nat) (h : i < L.length) : setsTo L (i + 1) = St.mores (setsTo L i) (endsOf L L[i] (L[i].length + 1)) := by
  unfold setsTo
  rw [take_snocL L i h, List.flatMap_append, mores_app]
  simp
set_option maxHeartbeats 2000000 in
theorem states_any (B n : Nat) (u : Value) (L : List (List UInt8)) (w : World) (hu : w.ownsRow B 9 1 u n (strV L)) (hn : L.length = n) (hb : n ≤ 10000) (hL : ∀ t ∈ L, t.length ≤ 1000) :
    Calls Tryz.prog 200 #[u] w fun e w' => e = .returned (.int .i64 ((St.refSets L).length : Int)) ∧ Kp [] w w' := by
  obtain ⟨i9, hi9, hz0, hz1, hz2⟩ := info_parts Tryz.info9
  obtain ⟨au, cu, rfl, hau⟩ := owns_forms hu
  have HU := hide hu
  have HN := hide hn
  have HL := hide hL
  clear hu hn hL
  go_enter Tryz.func200, Tryz.ntmps200
  go_wp2_with fail
  go_loopw [3, 4] (fun lv iv wr => ∃ (i : Nat) (S : List (List UInt8)) (al : Option Addr) (cl m : Nat), i ≤ n ∧ iv = .int .i64 i ∧ lv = .slice al m cl ∧ S.length = m ∧ m ≤ i * 1001 ∧ Hid (setsTo L i = S) ∧ wr.ownsRow w.heap.size 9 1 (.slice al m cl) m (strV S) ∧ Kp [] w wr) (fun _ iv _ => n - (intOf iv).toNat)
  case atStart => exact ⟨0, [], none, 0, 0, by omega, rfl, rfl, rfl, by omega, rfl, World.ownsRow_nil _ _ _ _, Kp.refl _ _⟩
  case round =>
    obtain ⟨i, S, al, cl, m, hi, rfl, rfl, hm, hm1, hS, ho, hkp⟩ := hrel
    by_cases hlt : i < n
    · obtain ⟨g, rfl⟩ := hau (by omega)
      have hiL : i < L.length := by rw [HN.out]; exact hlt
      have htl := HL.out L[i] (List.getElem_mem hiL)
      have hsu := setsTo_succ L i hiL
      obtain ⟨t, htE⟩ : ∃ t, L[i] = t := ⟨_, rfl⟩
      rw [htE] at htl hsu
      have HSU := hide hsu
      have HTE := hide htE
      have HO := hide ho
      have Hm := hide hm
      clear hsu htE ho hm
      go_wp2_with fail
      go_loopw [3, 5] (fun lv kv w2 => ∃ (k : Nat) (S2 : List (List UInt8)) (al : Option Addr) (cl m2 : Nat), k ≤ t.length + 1 ∧ kv = .int .i64 k ∧ lv = .slice al m2 cl ∧ S2.length = m2 ∧ m2 ≤ m + k ∧ Hid (St.mores S (endsOf L t k) = S2) ∧ w2.ownsRow w.heap.size 9 1 (.slice al m2 cl) m2 (strV S2) ∧ Kp [] w w2) (fun _ kv _ => t.length + 1 - (intOf kv).toNat)
      case atStart => exact ⟨0, S, al, cl, m, by omega, rfl, rfl, Hm.out, by omega, rfl, HO.out, hkp⟩
      case round =>
        clear HO Hm hkp
        obtain ⟨k, S2, al, cl, m2, hk, rfl, rfl, hm2, hmk, hS2, ho, hkp⟩ := hrel
        have hur := hkp.owns HU.out (by simp)
        have hc := strs_cells hur HN.out i hiL
        rw [HTE.out] at hc
        have hgl := (hur.lt g rfl).2
        by_cases hlt2 : k ≤ t.length
        · have h1 : (k : Int) ≤ (t.length : Int) := by omega
          have h0 : (0 : Int) ≤ (k : Int) := by omega
          have HO := hide ho
          have Hm := hide hm2
          have hen := endings_any B n (.slice (some ⟨g, 0, none⟩) n cu) L (t.take k) wr hur HN.out (by omega) HL.out (by rw [List.length_take]; omega)
          have HEN := hide hen
          have hext : (ByteArray.mk t.toArray).extract 0 k = ⟨(t.take k).toArray⟩ := by rw [ext_list]; simp
          have hsn : St.mores S (endsOf L t (k + 1)) = St.more S2 (St.endings L (t.take k)) := by rw [endsOf_succ, mores_snoc, hS2.out]
          obtain ⟨e, heE⟩ : ∃ e, St.endings L (t.take k) = e := ⟨_, rfl⟩
          rw [heE] at HEN hsn
          have HSN := hide hsn
          clear ho hm2 hur hen hsn heE
          go_wp2_with fail
          refine HEN.out.mono ?_
          rintro e0 w1 ⟨rfl, rfl⟩
          clear HEN hc
          obtain ⟨_, _, ef, hal⟩ := owns_forms HO.out
          cases ef
          go_wp2_with fail
          go_loopw [7, 8] (fun bv jv w3 => ∃ j : Nat, j ≤ m2 ∧ jv = .int .i64 j ∧ bv = .bool (decide (e ∈ S2.take j)) ∧ Kp [] w1 w3) (fun _ jv _ => m2 - (intOf jv).toNat)
          case atStart => exact ⟨0, by omega, rfl, by simp, Kp.refl _ _⟩
          case round =>
            obtain ⟨j, hj, rfl, rfl, hk3⟩ := hrel
            by_cases hlt3 : j < m2
            · obtain ⟨gl, rfl⟩ := hal (by omega)
              have hjS : j < S2.length := by rw [Hm.out]; exact hlt3
              have ho3 := hk3.owns HO.out (by simp)
              have hcl := strs_cells ho3 Hm.out j hjS
              have hgll := (ho3.lt gl rfl).2
              have htk := take_snocL S2 j hjS
              obtain ⟨y, hy⟩ : ∃ y, S2[j] = y := ⟨_, rfl⟩
              rw [hy] at hcl htk
              have HTK := hide htk
              clear ho3 htk hy
              by_cases hin : e ∈ S2.take j
              · have hd1 : decide (e ∈ S2.take j) = true := decide_eq_true hin
                have hd2 : decide (e ∈ S2.take (j + 1)) = true := decide_eq_true (by rw [HTK.out]; simp [hin])
                rw [hd1]
                have HD2 := hide hd2
                clear hd1 hd2 hin
                go_wp2_with fail
                exact ⟨⟨j + 1, by omega, by go_num, by rw [HD2.out], hk3⟩, by simp [intOf]; omega⟩
              · have hd1 : decide (e ∈ S2.take j) = false := decide_eq_false hin
                by_cases hye : y = e
                · subst hye
                  have hd2 : decide (y ∈ S2.take (j + 1)) = true := decide_eq_true (by rw [HTK.out]; simp)
                  rw [hd1]
                  have HD2 := hide hd2
                  clear hd1 hd2 hin
                  go_wp2_with fail
                  exact ⟨⟨j + 1, by omega, by go_num, by rw [HD2.out]; try simp, hk3⟩, by simp [intOf]; omega⟩
                · have hd2 : decide (e ∈ S2.take (j + 1)) = false := decide_eq_false (by rw [HTK.out]; simp only [List.mem_append, List.mem_singleton]; exact fun h => h.elim hin fun h => hye h.symm)
                  have hq : (y == e) = false := by rw [beq_eq_false_iff_ne]; exact hye
                  rw [hd1]
                  have HD2 := hide hd2
                  clear hd1 hd2 hin hye
                  go_wp2_with fail
                  exact ⟨⟨j + 1, by omega, by go_num, by rw [HD2.out]; try simp, hk3⟩, by simp [intOf]; omega⟩
            · have ej : j = m2 := by omega
              subst ej
              have htk : S2.take j = S2 := List.take_of_length_le (by rw [Hm.out]; omega)
              rw [htk]
              have ho3 := hk3.owns HO.out (by simp)
              have hkp3 : Kp [] w wr := hkp.trans hk3 (by simp)
              have hs3 := hkp3.size
              by_cases hin : e ∈ S2
              · have hd1 : decide (e ∈ S2) = true := decide_eq_true hin
                have hmo : St.mores S (endsOf L t (k + 1)) = S2 := by rw [HSN.out]; unfold St.more; rw [if_pos hin]
                rw [hd1]
                have HO3 := hide ho3
                have HMO := hide hmo
                clear hd1 ho3 hmo hin htk
                go_wp2_with fail
                go_roundw
                case rel => exact ⟨k + 1, S2, _, _, j, by omega, by go_num, rfl, Hm.out, by omega, HMO.out, HO3.out, hkp3⟩
                case measure => simp [intOf]; omega
              · have hd1 : decide (e ∈ S2) = false := decide_eq_false hin
                have hmo : St.mores S (endsOf L t (k + 1)) = S2 ++ [e] := by rw [HSN.out]; unfold St.more; rw [if_neg hin]
                rw [hd1]
                have HO3 := hide ho3
                have HMO := hide hmo
                clear hd1 ho3 hmo hin htk
                go_wp2_with (first
                  | (at_builtin; refine wpList_append_own_at _ rfl _ _ 67 rfl w.heap.size 9 i9 (.string ⟨#[]⟩) 1 16 Tryz.underlying67 hi9 hz0 hz1 hz2 rfl (by decide) _ _ _ rfl (HO3.out.alloc _) ⟨wr.heap.size, 0, none⟩ 1 1 [.string ⟨e.toArray⟩] rfl rfl (one_new _ _ _) ?c2 ?c3 ?c4 ?c5 ?_)
                  | fail)
                case c2 => intro x hx; simp at hx; subst hx; rfl
                case c3 => unfold maxLen; omega
                case c4 => omega
                case c5 => simp; omega
                intro v' w4 hown4 hgrow _ _
                obtain ⟨a', cap', rfl, _⟩ := owns_forms hown4
                have k4 : Kp (Value.slice al j cl).ownBlock.toList wr w4 := ((Kp.refl _ _).alloc _).grown hgrow (fun x hx => .inl (by simp [hx]))
                have kp4 : Kp [] w w4 := hkp3.trans k4 (fun x hx => .inr (HO3.out.lt x (by simpa using hx)).1)
                have hown5 : w4.ownsRow w.heap.size 9 1 (.slice a' (j + 1) cap') (j + 1) (strV (S2 ++ [e])) := by rw [strV_snoc]; exact hown4
                have HO5 := hide hown5
                clear hown4 hgrow hown5
                go_wp2_with fail
                go_roundw
                case rel => exact ⟨k + 1, S2 ++ [e], _, _, j + 1, by omega, by go_num, rfl, by simp [Hm.out], by omega, HMO.out, HO5.out, kp4⟩
                case measure => simp [intOf]; omega
        · have ek : k = t.length + 1 := by omega
          subst ek
          have HO := hide ho
          clear ho hur
          go_wp2_with fail
          go_roundw
          case rel => exact ⟨i + 1, S2, al, cl, m2, by omega, by go_num, rfl, hm2, by omega, by show _ = _; rw [HSU.out, hS.out, hS2.out], HO.out, hkp⟩
          case measure => simp [intOf]; omega
    · have ei : i = n := by omega
      subst ei
      go_wp2_with fail
      go_ret
      refine ⟨?_, hkp⟩
      have htk : L.take i = L := List.take_of_length_le (by rw [HN.out]; omega)
      have hr : St.refSets L = S := by
        rw [← hS.out]
        unfold St.refSets setsTo
        rw [htk]; rfl
      rw [hr, hm]
      rfl
end Go.Proofs.YtpdoacfiiledcaaGreatDoor.Pak

namespace Go.Proofs.YtpdoacfiiledcaaGreatDoor.Pak
open Go.RowKit Go.Proofs.YtpdoacfiiledcaaGreatDoor Go.Proofs.YtpdoacfiiledcaaGreatDoor.Spl SiftM Go.Maps
set_option linter.unusedVariables false

theorem pop_split : ∀ (k f a y : Nat), a < 2 ^ k → Lib.popAux (k + f) (a + 2 ^ k * y) = Lib.popAux k a + Lib.popAux f y
  | 0, f, a, y, h => by
    have : a = 0 := by simpa using h
    subst this
    simp [Lib.popAux]
  | k + 1, f, a, y, h => by
    have e1 : k + 1 + f = (k + f) + 1 := by omega
    rw [e1]
    simp only [Lib.popAux]
    have hp : 2 ^ (k + 1) * y = 2 * (2 ^ k * y) := by rw [Nat.pow_succ, Nat.mul_comm (2 ^ k) 2, Nat.mul_assoc]
    have e2 : (a + 2 ^ (k + 1) * y) % 2 = a % 2 := by rw [hp]; omega
    have e3 : (a + 2 ^ (k + 1) * y) / 2 = a / 2 + 2 ^ k * y := by rw [hp]; omega
    rw [e2, e3, pop_split k f (a / 2) y (by rw [Nat.pow_succ] at h; omega)]
    omega

/-- Shifted to the right by r bits, byte by byte. -/
def shr (r : Nat) : List Nat → List Nat
  | [] => []
  | a :: l => (a / 2 ^ r + 2 ^ (8 - r) * (l.headD 0 % 2 ^ r)) :: shr r l
theorem shr_len (r : Nat) : ∀ l, (shr r l).length = l.length
  | [] => rfl
  | a :: l => by simp [shr, shr_len r l]
theorem fld_head (r : Nat) (hr : r ≤ 8) (l : List Nat) : fld 8 l % 2 ^ r = l.headD 0 % 2 ^ r := by
  cases l with
  | nil => simp [fld]
  | cons a l =>
    simp only [fld, List.headD_cons]
    have : (2 : Nat) ^ 8 = 2 ^ r * 2 ^ (8 - r) := by rw [← Nat.pow_add]; congr 1; omega
    rw [this, Nat.mul_assoc, Nat.add_mul_mod_self_left]
theorem fld_shr (r : Nat) (hr : r ≤ 8) : ∀ l : List Nat, fld 8 l / 2 ^ r = fld 8 (shr r l)
  | [] => by simp [fld, shr]
  | a :: l => by
    have ih := fld_shr r hr l
    have hd := fld_head r hr l
    simp only [fld, shr]
    rw [← ih, ← hd]
    have h8 : (2 : Nat) ^ 8 = 2 ^ r * 2 ^ (8 - r) := by rw [← Nat.pow_add]; congr 1; omega
    have hp : 0 < 2 ^ r := Nat.two_pow_pos r
    rw [h8, Nat.mul_assoc, Nat.add_mul_div_left _ _ hp]
    have h1 := Nat.mod_add_div (fld 8 l) (2 ^ r)
    generalize fld 8 l % 2 ^ r = m at *
    generalize fld 8 l / 2 ^ r = q at *
    rw [← h1, Nat.mul_add]
    have : 2 ^ (8 - r) * (2 ^ r * q) = 2 ^ r * (2 ^ (8 - r) * q) := by rw [← Nat.mul_assoc, ← Nat.mul_assoc, Nat.mul_comm (2 ^ (8 - r))]
    rw [this, Nat.mul_assoc (2 ^ r) (2 ^ (8 - r)) q]
    omega
theorem shr_mem {r : Nat} (hr : r ≤ 8) : ∀ {l : List Nat}, (∀ x ∈ l, x < 2 ^ 8) → ∀ x ∈ shr r l, x < 2 ^ 8
  | [], _, x, hx => by simp [shr] at hx
  | a :: l, h, x, hx => by
    simp only [shr, List.mem_cons] at hx
    rcases hx with rfl | hx
    · have ha := h a (by simp)
      have h8 : (2 : Nat) ^ 8 = 2 ^ (8 - r) * 2 ^ r := by rw [← Nat.pow_add]; congr 1; omega
      have hp : 0 < 2 ^ r := Nat.two_pow_pos r
      have h1 : a / 2 ^ r < 2 ^ (8 - r) := Nat.div_lt_of_lt_mul (by rw [Nat.mul_comm, ← h8]; exact ha)
      have h2 : l.headD 0 % 2 ^ r + 1 ≤ 2 ^ r := Nat.mod_lt _ hp
      have h3 := Nat.mul_le_mul_left (2 ^ (8 - r)) h2
      rw [Nat.mul_add, Nat.mul_one, ← h8] at h3
      omega
    · exact shr_mem hr (fun y hy => h y (by simp [hy])) x hx

/-- One stage on a byte. -/
def st1 (b : Nat) : Nat := ((b / 2) &&& 85) + (b &&& 85)
def st2 (b : Nat) : Nat := ((b / 4) &&& 51) + (b &&& 51)
theorem m1 : ∀ b : Fin 256, ∀ c : Fin 2, ((b.val / 2 + 128 * c.val) &&& 85) = (b.val / 2) &&& 85 := by decide +kernel
theorem m2 : ∀ b : Fin 256, ∀ c : Fin 4, ((b.val / 4 + 64 * c.val) &&& 51) = (b.val / 4) &&& 51 := by decide +kernel
theorem m3 : ∀ b : Fin 256, ∀ c : Fin 5, st2 (st1 b.val) / 16 + 16 * c.val + st2 (st1 b.val) < 256 ∧ ((st2 (st1 b.val) / 16 + 16 * c.val + st2 (st1 b.val)) &&& 15) = Lib.popAux 8 b.val ∧ st2 (st1 b.val) % 16 ≤ 4 ∧ st1 b.val < 256 ∧ st2 (st1 b.val) < 256 ∧ Lib.popAux 8 b.val ≤ 8 := by decide +kernel

theorem stage1 (l : List Nat) (h : ∀ x ∈ l, x < 256) : List.zipWith (· + ·) (List.zipWith (· &&& ·) (shr 1 l) (List.replicate l.length 85)) (List.zipWith (· &&& ·) l (List.replicate l.length 85)) = l.map st1 := by
  induction l with
  | nil => rfl
  | cons a l ih =>
    simp only [shr, List.length_cons, List.replicate_succ, List.zipWith_cons_cons, List.map_cons]
    rw [ih fun x hx => h x (by simp [hx])]
    congr 1
    have := m1 ⟨a, h a (by simp)⟩ ⟨l.headD 0 % 2, Nat.mod_lt _ (by omega)⟩
    simp only [Nat.pow_one] at this ⊢
    rw [show (8 - 1 : Nat) = 7 from rfl, show (2 : Nat) ^ 7 = 128 from rfl, this]
    rfl
theorem stage2 (l : List Nat) (h : ∀ x ∈ l, x < 256) : List.zipWith (· + ·) (List.zipWith (· &&& ·) (shr 2 l) (List.replicate l.length 51)) (List.zipWith (· &&& ·) l (List.replicate l.length 51)) = l.map st2 := by
  induction l with
  | nil => rfl
  | cons a l ih =>
    simp only [shr, List.length_cons, List.replicate_succ, List.zipWith_cons_cons, List.map_cons]
    rw [ih fun x hx => h x (by simp [hx])]
    congr 1
    have := m2 ⟨a, h a (by simp)⟩ ⟨l.headD 0 % 4, Nat.mod_lt _ (by omega)⟩
    rw [show (8 - 2 : Nat) = 6 from rfl, show (2 : Nat) ^ 6 = 64 from rfl, show (2 : Nat) ^ 2 = 4 from rfl, this]
    rfl
theorem stage3 (l : List Nat) (h : ∀ x ∈ l, x < 256) :
    (∀ x ∈ List.zipWith (· + ·) (shr 4 (l.map fun b => st2 (st1 b))) (l.map fun b => st2 (st1 b)), x < 2 ^ 8) ∧
    List.zipWith (· &&& ·) (List.zipWith (· + ·) (shr 4 (l.map fun b => st2 (st1 b))) (l.map fun b => st2 (st1 b))) (List.replicate l.length 15) = l.map (Lib.popAux 8) := by
  induction l with
  | nil => exact ⟨fun x hx => by simp [shr] at hx, rfl⟩
  | cons a l ih =>
    obtain ⟨i1, i2⟩ := ih fun x hx => h x (by simp [hx])
    have hc : (l.map fun b => st2 (st1 b)).headD 0 % 2 ^ 4 < 5 := by
      cases l with
      | nil => decide
      | cons c l =>
        have := (m3 ⟨c, h c (by simp)⟩ ⟨0, by omega⟩).2.2.1
        simp only [List.map_cons, List.headD_cons]
        have e : (2 : Nat) ^ 4 = 16 := rfl
        rw [e]
        simp only at this
        omega
    have hm := m3 ⟨a, h a (by simp)⟩ ⟨_, hc⟩
    simp only at hm
    have e4 : (2 : Nat) ^ (8 - 4) = 16 := rfl
    have e16 : (2 : Nat) ^ 4 = 16 := rfl
    simp only [List.map_cons, shr, List.length_cons, List.replicate_succ, List.zipWith_cons_cons]
    rw [e4, e16] at *
    constructor
    · intro x hx
      rcases List.mem_cons.1 hx with rfl | hx
      · exact hm.1
      · exact i1 x hx
    · rw [i2, hm.2.1]
end Go.Proofs.YtpdoacfiiledcaaGreatDoor.Pak

