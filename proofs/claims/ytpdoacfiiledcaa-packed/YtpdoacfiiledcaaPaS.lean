import Derived.Test.YtpdoacfiiledcaaPaR
import Derived.Deep.RegionWith
set_option linter.unusedVariables false
set_option maxRecDepth 4000
namespace Go.Proofs.Ytpdoacfiiledcaa.Pak
open Go.RowKit Go.Proofs.Ytpdoacfiiledcaa SiftM

/- A file that was written is read. -/
theorem file_len (T : List Tx) : (fileT T).length = (bodyT T).length + 4 := by unfold fileT; rw [List.length_append, sumB_len]
theorem numG_pos : ∀ (f n : Nat), 1 ≤ (numG f n).length
  | 0, n => by simp [numG]
  | f + 1, n => by rw [numG]; split <;> simp
theorem body_len (T : List Tx) (hf : Fine T) : 3 ≤ (bodyT T).length ∧ (bodyT T).length ≤ 101100 := by
  have h1 := numG_pos 3 T.length
  have h2 := numG_pos 3 (termsOf T).length
  have h3 := numB_len T.length
  have h4 := numB_len (termsOf T).length
  have h5 := riseB_len (T.map Prod.fst) 0
  have h6 := postT_part T hf (termsOf T).length
  have h7 := hf.len
  rw [List.take_length] at h6
  rw [List.length_map] at h5
  rw [body_eq]
  simp only [List.length_cons, List.length_append]
  unfold numB at *
  omega

theorem read_file (T : List Tx) (hf : Fine T) (a : Option Addr) (cap : Nat) (w : World) (hv : Vw w w.heap.size a (fileT T)) (hc : (fileT T).length ≤ cap) (hc2 : cap ≤ 9223372036854775807) :
    Calls Try.prog 10 #[.slice a (fileT T).length cap] w fun e w' => ∃ v vs, e = .returned (.tuple #[v, .int .i64 0]) ∧ TextsIs w' w.heap.size v T vs ∧ Kp [] w w' := by
  have hl := file_len T
  have hb := body_len T hf
  have ht := allW_le T hf.few
  have hn := hf.len
  have htab : tableF (unsealF (fileT T)) = (T.map Prod.fst, termsOf T, sumW T, belowF (rowsOf T) (termsOf T).length, some []) := by
    unfold fileT; rw [unseal_file]; exact table_back T hf
  have hsw := sumW_le T hf.few
  have htb := texts_back T
  have hr := read_good a cap (fileT T) _ _ _ _ (rowsOf T) w hv (by omega) hc hc2 htab (below_rows (rowsOf T) (termsOf T).length (rows_small T hf.few) (rows_lt T)) (by rw [rows_len]; simp) (by simpa using hn) (by omega) (by omega) (by
    intro r hr
    unfold rowsOf at hr
    obtain ⟨t, htm, rfl⟩ := List.mem_map.1 hr
    rw [words_back T t htm]
    have h1 := hf.few t htm
    have h2 := (hf.short t htm).2
    omega) (by rw [htb]; exact may_sum T (fun t ht => (hf.short t ht).1))
  rw [htb] at hr
  exact hr

theorem read_turned (T : List Tx) (hf : Fine T) (i : Nat) (hi : i < (fileT T).length) (b : UInt8) (hb : ∀ c, (fileT T)[i]? = some c → b ≠ c) (a : Option Addr) (cap : Nat) (w : World) (hv : Vw w w.heap.size a ((fileT T).set i b)) (hc : (fileT T).length ≤ cap) (hc2 : cap ≤ 9223372036854775807) :
    Calls Try.prog 10 #[.slice a (fileT T).length cap] w fun e w' => e = .returned (.tuple #[.slice none 0 0, .int .i64 12]) ∧ Kp [] w w' := by
  have hl := file_len T
  have hb2 := body_len T hf
  have hu : unsealF ((fileT T).set i b) = none := turned_none (bodyT T) i hi b (hb _ (List.getElem?_eq_getElem hi))
  have := read_bad a cap ((fileT T).set i b) w hv (by rw [List.length_set]; omega) (by rw [List.length_set]; exact hc) hc2 (by rw [hu]; exact table_none)
  rw [List.length_set] at this
  exact this

theorem byV_set (l : List UInt8) (i : Nat) (b : UInt8) : (byV l).set i (.int .u8 (b.toNat : Int)) = byV (l.set i b) := by
  unfold byV; rw [List.map_set]

theorem xor_turn (c : UInt8) (m : Nat) (hm : m < 255) : ∃ b : UInt8, b ≠ c ∧ bits .xor .u8 (c.toNat : Int) ((1 + m : Nat) : Int) = ((b.toNat : Nat) : Int) := by
  have hc : c.toNat < 256 := c.toNat_lt
  have hx : c.toNat ^^^ (1 + m) < 2 ^ 8 := Nat.xor_lt_two_pow (by omega) (by omega)
  refine ⟨UInt8.ofNat (c.toNat ^^^ (1 + m)), ?_, ?_⟩
  · intro e
    have h1 := congrArg UInt8.toNat e
    rw [UInt8.toNat_ofNat', Nat.mod_eq_of_lt (by omega)] at h1
    have h2 : c.toNat ^^^ (c.toNat ^^^ (1 + m)) = c.toNat ^^^ c.toNat := by rw [h1]
    rw [← Nat.xor_assoc, Nat.xor_self, Nat.zero_xor] at h2
    omega
  · rw [u8_xor_nat _ _ hc (by omega), UInt8.toNat_ofNat', Nat.mod_eq_of_lt (by omega)]

theorem wrap_byte (m : Nat) (hm : m < 255) : IntKind.u8.wrap (IntKind.i64.wrap (1 + (m : Int))) = ((1 + m : Nat) : Int) := by
  have q : IntKind.i64.wrap (1 + (m : Int)) = 1 + (m : Int) := IntWalk.i64_in _ ⟨by omega, by omega⟩
  rw [q, IntKind.wrap_u8']
  omega

theorem owns_cap {w : World} {base size n cap : Nat} {a : Option Addr} {e : TypeId} {xs : List Value} (h : w.ownsRow base e size (.slice a n cap) n xs) : n ≤ cap ∧ cap ≤ 9223372036854775807 := by
  rcases h.2 with ⟨e1, e2⟩ | ⟨g, cp, cur, e1, _, _, h1, h2, _⟩
  · cases e1; omega
  · cases e1; unfold maxLen at h2; omega

theorem dcs_rev (N : List Nd) (k : Nat) (hk : k < N.length) : dcs (N.reverse.take (k + 1)) = dcs (N.reverse.take k) ++ [((N[N.length - 1 - k].1 : Int), N[N.length - 1 - k].2)] := by
  rw [take_snocL N.reverse k (by simpa using hk)]
  simp [dcs]

set_option maxHeartbeats 2000000 in
set_option maxRecDepth 100000 in
theorem packed_any (a : Option Addr) (len cap : Nat) (I : Nat → Int) (A : Nat → Option Addr) (L C : Nat → Nat) (Z : Nat → List Int) (x y : Int) (w : World) (h : ItemsAt w a len I A L C Z) (hlen : len ≤ 9223372036854775807)
    (hx1 : -9223372036854775808 ≤ x) (hx2 : x ≤ 9223372036854775807) (hy1 : -9223372036854775808 ≤ y) (hy2 : y ≤ 9223372036854775807) :
    Calls Try.prog 4 #[.slice a len cap, .int .i64 x, .int .i64 y] w fun e w' => e = .returned (.bool true) ∧ Kp [] w w' := by
  obtain ⟨j0, hj0, hz0, hz1, hz2⟩ := info_parts info43
  have hD := docs_any a len cap I A L C Z w h hlen
  have HD := hide hD
  clear h hD
  go_enter Try.func4, Try.ntmps4
  go_wp2_with fail
  refine HD.out.mono ?_
  rintro e w1 ⟨vl, vt, N, N', vs, rfl, hl, ht, hp, hso, h12, hid, hsz, k1⟩
  have hfine := fine_txs N' hso (by rw [hp.length_eq]; omega) (fun x hx => hid x (hp.mem_iff.1 hx)) (fun x hx => by have := hsz x (hp.mem_iff.1 hx); omega)
  have hpk := pack_any w.heap.size vl N N' w1 hl (by omega) hp hso hid (fun x hx => by have := hsz x hx; omega)
  have hpr := fun (w' : World) (v' : Value) (h' : w'.ownsRow w.heap.size 43 2 v' (dcs N.reverse).length (docV (dcs N.reverse))) => pack_any w.heap.size v' N.reverse N' w' h' (by rw [List.length_reverse]; omega) (hp.trans (List.reverse_perm N).symm) hso (fun x hx => hid x (by simpa using hx)) (fun x hx => by have := hsz x (by simpa using hx); omega)
  obtain ⟨T, hT⟩ : ∃ T, txs N' = T := ⟨_, rfl⟩
  rw [hT] at ht hfine hpk
  simp only [hT] at hpr
  rw [← file_len] at hpk
  simp only [← file_len] at hpr
  have hTl : T.length ≤ 1000 := by have := hfine.len; omega
  have hTw : ∀ t ∈ T, t.2.length ≤ 1000 := fun t ht => by have := hfine.few t ht; omega
  have hfl := file_len T
  have hbl := body_len T hfine
  have hread := fun a' c' w' => read_file T hfine a' c' w'
  have hturn := read_turned T hfine
  obtain ⟨F, hF⟩ : ∃ F, fileT T = F := ⟨_, rfl⟩
  rw [hF] at hpk hfl
  simp only [hF] at hpr hread hturn
  have hF7 : 7 ≤ F.length ∧ F.length ≤ 101104 := by omega
  obtain ⟨n, hn⟩ : ∃ n, N.length = n := ⟨_, rfl⟩
  rw [dcs_len, hn] at hl
  simp only [dcs_len, List.length_reverse, hn] at hpr
  rw [hn] at h12
  obtain ⟨al, cl, rfl, hal⟩ := owns_forms hl
  obtain ⟨bt, ct, rfl, _⟩ := owns_forms ht.row
  obtain ⟨nF, hnF⟩ : ∃ nF, F.length = nF := ⟨_, rfl⟩
  rw [hnF] at hpk hF7
  simp only [hnF] at hpr hread hturn
  have HL := hide hl
  have HT := hide ht
  have HPK := hide hpk
  have HPR := hide hpr
  have HRD := hide hread
  have HTU := hide hturn
  have HTl := hide hTl
  have HTw := hide hTw
  have HnF := hide hnF
  have Hn := hide hn
  have hz1w := k1.size
  clear hl ht hp hso hid hsz hfine hpk hpr hread hturn hTl hTw hfl hbl hT hF hn hnF HD
  go_wp2_with fail
  refine HPK.out.mono ?_
  rintro e w2 ⟨vp, rfl, hp2, k2⟩
  obtain ⟨ap, cp, rfl, hap⟩ := owns_forms hp2
  have hz2w := k2.size
  obtain ⟨hc1, hc2⟩ := owns_cap hp2
  have hvp := vw_of_owns hp2 HnF.out
  have hrd := HRD.out ap cp w2 hvp hc1 hc2
  have hl2 := k2.owns HL.out (by simp)
  have ht2 := HT.out.kp0 k2
  have HP2 := hide hp2
  have HL2 := hide hl2
  have HT2 := hide ht2
  have HR2 := hide hrd
  have k12 := k1.next k2
  clear hp2 hvp hrd hl2 ht2 HPK HL HT k1 k2 HRD
  go_wp2_with fail
  refine HR2.out.mono ?_
  rintro e w3 ⟨vm, vs3, rfl, hm3, k3⟩
  have hz3w := k3.size
  obtain ⟨am, cm, rfl, _⟩ := owns_forms hm3.row
  have hst := same_texts w2.heap.size w.heap.size _ _ T vs3 vs w3 hm3 (HT2.out.kp0 k3) HTl.out HTw.out
  have hp3 := k3.owns HP2.out (by simp)
  have hl3 := k3.owns HL2.out (by simp)
  have HST := hide hst
  have HP3 := hide hp3
  have HL3 := hide hl3
  have k13 := k12.next k3
  clear hst hp3 hl3 HR2 HP2 HL2 HT2 hm3 k3 k12
  go_wp2_with fail
  refine HST.out.mono ?_
  rintro e w4 ⟨rfl, k4⟩
  have hz4w := k4.size
  have hp4 := k4.owns HP3.out (by simp)
  have hl4 := k4.owns HL3.out (by simp)
  have k14 := k13.next k4
  have HP4 := hide hp4
  have HL4 := hide hl4
  have h7 : ¬ ((nF : Int) < 7) := by omega
  clear hp4 hl4 HST HP3 HL3 k4 k13
  go_wp2_with fail
  go_loopw [14, 15] (fun lv iv wr => ∃ (k : Nat) (a' : Option Addr) (c' : Nat), k ≤ n ∧ iv = .int .i64 ((n : Int) - 1 - k) ∧ lv = .slice a' k c' ∧ wr.ownsRow w.heap.size 43 2 (.slice a' k c') k (docV (dcs (N.reverse.take k))) ∧ wr.ownsRow w.heap.size 43 2 (.slice al n cl) n (docV (dcs N)) ∧ (∀ g, (Value.slice a' k c').ownBlock = some g → w4.heap.size ≤ g) ∧ Kp [] w4 wr) (fun _ iv _ => (intOf iv + 1).toNat)
  case atStart => exact ⟨0, none, 0, by omega, by simp, rfl, World.ownsRow_nil _ _ _ _, HL4.out, by simp [Value.ownBlock], Kp.refl _ _⟩
  case round =>
    obtain ⟨k, a', c', hk, rfl, rfl, ho, hl, hfar, hkp⟩ := hrel
    by_cases hlt : k < n
    · obtain ⟨g, rfl⟩ := hal (by omega)
      have hkN : k < N.length := by rw [Hn.out]; exact hlt
      have hki : n - 1 - k < N.length := by rw [Hn.out]; omega
      have hkd : n - 1 - k < (dcs N).length := by rw [dcs_len]; exact hki
      obtain ⟨q0, q1⟩ := docs_cells hl (n - 1 - k) hkd
      have hgd : (dcs N)[n - 1 - k] = ((N[n - 1 - k].1 : Int), N[n - 1 - k].2) := by simp [dcs]
      rw [hgd] at q0 q1
      simp only at q0 q1
      have hrv := dcs_rev N k hkN
      simp only [Hn.out] at hrv
      obtain ⟨z, hz⟩ : ∃ z, N[n - 1 - k] = z := ⟨_, rfl⟩
      rw [hz] at q0 q1 hrv
      obtain ⟨id, bd⟩ := z
      simp only at q0 q1 hrv
      have hix : ((n : Int) - 1 - k) = ((n - 1 - k : Nat) : Int) := by omega
      obtain ⟨j, hj⟩ : ∃ j, n - 1 - k = j := ⟨_, rfl⟩
      rw [hj] at q0 q1 hix
      have hjn : j < n := by omega
      have hjk : (j : Int) - 1 = (n : Int) - 1 - ((k + 1 : Nat) : Int) := by omega
      rw [hix]
      have HO := hide ho
      have HLr := hide hl
      have HFa := hide hfar
      have HRV := hide hrv
      have Hjk := hide hjk
      have hgl := (hl.lt g rfl).2
      have hzr := hkp.size
      clear ho hl hfar hrv hz hgd hix hj hjk
      go_wp2_with (first
        | (at_builtin; refine wpList_append_own_at _ rfl _ _ 32 rfl w.heap.size 43 j0 (.agg #[.int .i64 0, .string ⟨#[]⟩]) 2 24 Try.underlying32 hj0 hz0 hz1 hz2 rfl (by decide) _ _ _ rfl (HO.out.alloc _) ⟨wr.heap.size, 0, none⟩ 1 1 [.int .i64 (id : Int), .string bd] rfl rfl (World.news_of_block (cs := #[.int .i64 (id : Int), .string bd]) (t := 43) (fr := (0, 0)) (heap_alloc_new _ _)) ?c2 ?c3 ?c4 ?c5 ?_)
        | fail)
      case c2 => intro u hu; simp at hu; rcases hu with rfl | rfl <;> rfl
      case c3 => unfold maxLen; omega
      case c4 => omega
      case c5 => simp; omega
      intro v5 w5 hown5 hgrow _ hb5
      obtain ⟨a5, c5, rfl, _⟩ := owns_forms hown5
      have k5 : Kp (Value.slice a' k c').ownBlock.toList wr w5 := ((Kp.refl _ _).alloc _).grown hgrow (fun j hj => .inl (by simp [hj]))
      have k5' : Kp [] w4 w5 := hkp.trans k5 (fun x hx => .inr (HFa.out x (by simpa using hx)))
      have hl5 := k5.owns HLr.out (fun g' hg' hx => by
        have h1 := HFa.out g' (by simpa using hx)
        have h2 := (HL4.out.lt g' hg').2
        omega)
      have hfar5 : ∀ g, (Value.slice a5 (k + 1) c5).ownBlock = some g → w4.heap.size ≤ g := by
        intro g' hg'
        rcases hb5 with e | e
        · exact HFa.out g' (by rw [← e]; exact hg')
        · rw [e] at hg'
          have := Option.some.inj hg'
          omega
      have HO5 := hide hown5
      have HL5 := hide hl5
      have HFa5 := hide hfar5
      clear hown5 hgrow hb5 k5 hl5 hfar5 HO HLr HFa q0 q1
      go_wp2_with fail
      go_roundw
      case rel =>
        refine ⟨k + 1, a5, c5, by omega, ?_, rfl, ?_, HL5.out, HFa5.out, k5'⟩
        · rw [← Hjk.out]
        · rw [HRV.out]
          have e : docV (dcs (N.reverse.take k) ++ [((id : Int), bd)]) = docV (dcs (N.reverse.take k)) ++ [.int .i64 (id : Int), .string bd] := by simp [docV, encDoc]
          rw [e]; exact HO5.out
      case measure => simp [intOf]
    · have ek : n = k := by omega
      subst ek
      have htk : N.reverse.take n = N.reverse := by rw [List.take_of_length_le]; rw [List.length_reverse, Hn.out]; omega
      rw [htk] at ho
      have hq := HPR.out wr _ ho
      have HQ := hide hq
      have k1r := k14.next hkp
      have hp5 := hkp.owns HP4.out (by simp)
      have HP5 := hide hp5
      have hzr := hkp.size
      clear ho hl hfar hq htk hp5 hkp HPR HP4 HL4
      go_wp2_with fail
      refine HQ.out.mono ?_
      rintro e w6 ⟨vq, rfl, hq6, k6⟩
      obtain ⟨aq, cq, rfl, haq⟩ := owns_forms hq6
      obtain ⟨hc3, hc4⟩ := owns_cap hq6
      obtain ⟨gq, rfl⟩ := haq (by omega)
      have hz6w := k6.size
      have hp6 := k6.owns HP5.out (by simp)
      have hcq := conv_vw w6 _ _ F (vw_of_owns hq6 HnF.out) cq
      have hcp := conv_vw w6 _ _ F (vw_of_owns hp6 HnF.out) cp
      rw [HnF.out] at hcq hcp
      have hpi := pick_gen x nF w6 hx1 hx2 (by omega) (by omega)
      have HPI := hide hpi
      have HQ6 := hide hq6
      have k16 := k1r.next k6
      clear hq6 hp6 hpi HQ HP5 k1r k6
      go_wp2_with fail
      refine HPI.out.mono ?_
      rintro e w7 ⟨⟨i, hi, rfl⟩, hw7⟩
      subst hw7
      clear hcq hcp HPI
      have hiF : i < F.length := by rw [HnF.out]; exact hi
      have hbi : (byV F)[i]? = some (.int .u8 (F[i].toNat : Int)) := by
        unfold byV
        rw [List.getElem?_map, List.getElem?_eq_getElem hiF]; rfl
      obtain ⟨r0, r1⟩ := owns_at HQ6.out hbi
      have hpy : ∀ w' : World, Calls Try.prog 12 #[.int .i64 y, .int .i64 255] w' fun e w'' => (∃ m : Nat, m < 255 ∧ e = .returned (.int .i64 (m : Int))) ∧ w'' = w' := fun w' => pick_gen y 255 w' hy1 hy2 (by omega) (by omega)
      have HPY := hide hpy
      obtain ⟨c, hc⟩ : ∃ c, F[i] = c := ⟨_, rfl⟩
      rw [hc] at r0
      have Hc : Hid (F[i]? = some c) := by
        show _ = _
        rw [List.getElem?_eq_getElem hiF, hc]
      have hgq := (HQ6.out.lt gq rfl).2
      clear hpy hc hbi hiF
      go_wp2_with fail
      go_region_with ((go_at_call 12; refine (HPY.out _).mono ?_; rintro e w9 ⟨⟨m, hm, rfl⟩, hw9⟩; subst hw9))
      all_goals
        obtain ⟨b, hb, hxor⟩ := xor_turn c m hm
        have hw1 : IntKind.u8.wrap (IntKind.i64.wrap (1 + (m : Int))) = ((1 + m : Nat) : Int) := by
          rw [wrap_byte m hm]
        rw [hw1, hxor]
        obtain ⟨W8, hW8⟩ : ∃ W8, (w7.setCell ⟨gq, i, none⟩ (.int .u8 (b.toNat : Int))).drew = W8 := ⟨_, rfl⟩
        have ho8 : W8.ownsRow w.heap.size 5 1 (.slice (some ⟨gq, 0, none⟩) nF cq) nF (byV (F.set i b)) := by
          rw [← hW8, ← byV_set]
          exact owns_low ((owns_set HQ6.out (by omega) _).drew) (by omega)
        have k8 : Kp [] w W8 := by
          rw [← hW8]
          exact (k16.setCell (p := ⟨gq, i, none⟩) (.inr (by have := (HQ6.out.lt gq rfl).1; simp; omega)) _).drewN 1
        have htu := HTU.out i hi b (fun c' hc' => by
          have := Hc.out
          rw [hc'] at this
          rw [Option.some.inj this]; exact hb) (some ⟨gq, 0, none⟩) cq W8 (vw_of_owns ho8 (by rw [List.length_set]; exact HnF.out)) hc3 hc4
        rw [hW8]
        have HTR := hide htu
        clear htu ho8 hW8 r0 r1 hxor hw1 HTU
        go_wp2_with fail
        refine HTR.out.mono ?_
        rintro e w9 ⟨rfl, k9⟩
        have kf := k8.next k9
        go_wp2_with fail
        go_ret
        exact ⟨rfl, kf⟩
end Go.Proofs.Ytpdoacfiiledcaa.Pak
