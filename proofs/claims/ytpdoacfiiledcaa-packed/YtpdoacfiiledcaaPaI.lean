import Derived.Test.YtpdoacfiiledcaaPaH
namespace Go.Proofs.Ytpdoacfiiledcaa.Pak
open Go.RowKit Go.Proofs.Ytpdoacfiiledcaa SiftM
set_option linter.unusedVariables false

def BdP (F : Nat → List Po) (n : Nat) : Prop := ∀ t, (F t).length ≤ n ∧ ∀ l ∈ F t, l.2.length ≤ n
theorem wsF_bd (P : List Po) (d p n : Nat) (h1 : P.length ≤ n) (h2 : ∀ l ∈ P, l.2.length ≤ n) : (wsF P d p).length ≤ n + 1 ∧ ∀ l ∈ wsF P d p, l.2.length ≤ n + 1 := by
  unfold wsF
  cases hg : P.getLast? with
  | none => simp
  | some l =>
    simp only
    have hm : l ∈ P := List.mem_of_getLast? hg
    split
    · refine ⟨by simp; omega, fun x hx => ?_⟩
      simp at hx
      rcases hx with hx | rfl
      · have := h2 x (List.dropLast_subset _ hx); omega
      · have := h2 l hm; simp; omega
    · refine ⟨by simp; omega, fun x hx => ?_⟩
      simp at hx
      rcases hx with hx | rfl
      · have := h2 x hx; omega
      · simp
theorem PFr_bd (F : Nat → List Po) (d : Nat) (r : List Nat) (n : Nat) (h : BdP F n) : ∀ k, BdP (PFr F d r k) (n + k)
  | 0 => h
  | k + 1 => by
    intro t
    have ih := PFr_bd F d r n h k
    simp only [PFr, upd]
    split
    · have := wsF_bd (PFr F d r k (r.getD k 0)) d k (n + k) (ih _).1 (ih _).2
      exact this
    · exact ⟨by have := (ih t).1; omega, fun l hl => by have := (ih t).2 l hl; omega⟩
theorem PFd_bd (rows : List (List Nat)) (hs : ∀ r ∈ rows, r.length ≤ 60) : ∀ d, BdP (PFd rows d) (60 * d)
  | 0 => fun t => by simp [PFd]
  | d + 1 => by
    have ih := PFd_bd rows hs d
    have hl : (rows.getD d []).length ≤ 60 := by
      rw [List.getD_eq_getElem?_getD]
      cases hg : rows[d]? with
      | none => simp
      | some r => exact hs r (List.mem_of_getElem? hg)
    have := PFr_bd (PFd rows d) d (rows.getD d []) (60 * d) ih (rows.getD d []).length
    intro t
    exact ⟨by have := (this t).1; simp only [PFd]; omega, fun l hl' => by have := (this t).2 l hl'; omega⟩

theorem info74 : (Try.prog.info? 75).map (fun i => (i.zero, i.size, i.bytes)) = some (some (.slice none 0 0), 1, 24) := by kernel_rfl
theorem make_lists (c : Nat) (w : World) (hc : c ≤ 1000000) : (Instr.makeSlice 73 (.int .i64 c) (.int .i64 c)).run Try.prog w = .ok (.slice (some ⟨w.heap.size, 0, none⟩) c c) (w.alloc (.cells ((List.range c).map fun _ => Value.slice none 0 0).toArray 75)) := by
  obtain ⟨i0, hi, hz0, hz1, hz2⟩ := info_parts info74
  have := run_make (P := Try.prog) w 73 75 i0 (.slice none 0 0) Try.underlying73 hi hz0 .i64 .i64 c c (by omega) (by omega) (by rw [hz2]; omega) (by omega)
  rw [hz1, Nat.mul_one] at this
  simp only [Int.toNat_natCast] at this
  have e : Array.replicate c (Value.slice none 0 0) = ((List.range c).map fun _ => Value.slice none 0 0).toArray := by
    apply Array.ext
    · simp
    · intro i h1 h2; simp
  rw [this, show (Value.slice none 0 0).cells = #[.slice none 0 0] from rfl, made_one, e]

theorem lists_cell {w : World} {Lb nt t : Nat} {vF : Nat → Value} (h : w.heap[Lb]? = some (.cells ((List.range nt).map vF).toArray 75 (0, 0))) (ht : t < nt) : w.cell? ⟨Lb, t, none⟩ = some (vF t) ∧ w.frozen? ⟨Lb, t, none⟩ = false := by
  constructor
  · simp only [World.cell?, h]
    simp [ht]
  · simp [World.frozen?, h]

set_option maxHeartbeats 4000000 in
set_option maxRecDepth 100000 in
theorem postings_any (M c B : Nat) (f : Nat → Nat → Option Nat) (iv tv : Value) (ids : List Nat) (terms : List (List UInt8)) (rows : List (List Nat)) (w : World) (hm : MapIs w M c f) (hi : w.ownsRow B 3 1 iv ids.length (intV ids)) (ht : w.ownsRow B 9 1 tv terms.length (strV terms)) (hr : RowsAre f rows terms.length) (hs : ∀ r ∈ rows, r.length ≤ 60) (hlen : rows.length = ids.length) (hn : ids.length ≤ 60) (hnt : terms.length ≤ 100000) :
    Calls Try.prog 32 #[.agg #[iv, tv, .map (some M)]] w fun e w' => ∃ Lb vF pF, e = .returned (.slice (some ⟨Lb, 0, none⟩) terms.length terms.length) ∧ ListsIs w' w.heap.size Lb terms.length vF (PFd rows rows.length) pF ∧ w.heap.size ≤ Lb ∧ Kp [] w w' := by
  obtain ⟨ai, ci, rfl, hai⟩ := owns_forms hi
  obtain ⟨at', ct, rfl, hat⟩ := owns_forms ht
  obtain ⟨n, hnE⟩ : ∃ n, ids.length = n := ⟨_, rfl⟩
  obtain ⟨nt, hntE⟩ : ∃ nt, terms.length = nt := ⟨_, rfl⟩
  rw [hntE] at hnt hr ⊢
  rw [hnE] at hn hlen ⊢
  have hmk := fun w' => make_lists nt w' (by omega)
  have HM := hide hm
  have HR := hide hr
  have HS := hide hs
  have Hlen := hide hlen
  clear hm hi ht hr hlen hnE hntE hai hat hs
  go_enter Try.func32, Try.ntmps32
  go_wp2_with fail
  obtain ⟨W, hW⟩ : ∃ W, (w.alloc (.cells #[.slice ai n ci, .slice at' nt ct, .map (some M)] 66)).alloc (.cells ((List.range nt).map fun _ => Value.slice none 0 0).toArray 75) = W := ⟨_, rfl⟩
  have k0 : Kp [] w W := by rw [← hW]; exact ((Kp.refl _ _).alloc _).alloc _
  have hT0 : W.heap[w.heap.size]? = some (.cells #[.slice ai n ci, .slice at' nt ct, .map (some M)] 66 (0, 0)) := by
    rw [← hW, Below.heap_alloc _ _ _ (by simp)]; exact heap_alloc_new w _
  have hL0 : ListsIs W w.heap.size (w.heap.size + 1) nt (fun _ => .slice none 0 0) (PFd rows 0) (fun _ => []) := by
    refine ⟨?_, fun t _ => PostIs.nil _ _, fun t t' _ _ _ x hx => by simp [foot, Value.ownBlock] at hx⟩
    rw [← hW]
    have := heap_alloc_new (w.alloc (.cells #[.slice ai n ci, .slice at' nt ct, .map (some M)] 66)) (.cells ((List.range nt).map fun _ => Value.slice none 0 0).toArray 75)
    rw [World.size_alloc] at this
    exact this
  have hsz0 : W.heap.size = w.heap.size + 2 := by rw [← hW]; simp
  obtain ⟨Lb, hLb⟩ : ∃ Lb, w.heap.size + 1 = Lb := ⟨_, rfl⟩
  have hlb1 : w.heap.size < Lb := by omega
  have hlb2 : Lb < W.heap.size := by omega
  rw [hLb] at hL0
  rw [hW, hLb]
  have HT0 := hide hT0
  have HL0 := hide hL0
  clear hT0 hL0 hW hmk hsz0 hLb
  go_loopw [14] (fun dv wr => ∃ (d : Nat) (vF : Nat → Value) (pF : Nat → List Value), d ≤ n ∧ dv = .int .i64 d ∧ ListsIs wr w.heap.size Lb nt vF (PFd rows d) pF ∧ wr.heap[w.heap.size]? = some (.cells #[.slice ai n ci, .slice at' nt ct, .map (some M)] 66 (0, 0)) ∧ Lb < wr.heap.size ∧ Kp [] w wr) (fun dv _ => n - (intOf dv).toNat)
  case atStart => exact ⟨0, _, _, by omega, rfl, HL0.out, HT0.out, hlb2, k0⟩
  case round =>
    clear HT0 HL0 k0 hlb2
    obtain ⟨d, vF, pF, hd, rfl, hL, hT, hsz, hkp⟩ := hrel
    by_cases hlt : d < n
    · have hdr : d < rows.length := by rw [Hlen.out]; exact hlt
      obtain ⟨b0, b1, b2, _, _, _⟩ := tb_cells hT
      have hmr := HM.out.kp hkp (by simp)
      have hrow := row_any M c d f (.slice ai n ci) (.slice at' nt ct) rows[d] wr hmr (HR.out.at' d hdr) (HR.out.stop d hdr) (HR.out.small d hdr) (by omega) rfl rfl
      have hrl := HR.out.lt d hdr
      have hrs := HS.out rows[d] (List.getElem_mem hdr)
      have hbd := PFd_bd rows HS.out d
      have hstep : PFd rows (d + 1) = PFr (PFd rows d) d rows[d] rows[d].length := by
        show PFr (PFd rows d) d (rows.getD d []) (rows.getD d []).length = _
        rw [List.getD_eq_getElem?_getD, List.getElem?_eq_getElem hdr]; rfl
      obtain ⟨r, hrE⟩ : ∃ r, rows[d] = r := ⟨_, rfl⟩
      rw [hrE] at hrow hrl hrs hstep
      have HROW := hide hrow
      have HRL := hide hrl
      have HBD := hide hbd
      have HST := hide hstep
      have HL := hide hL
      have HT := hide hT
      clear hrow hrl hbd hstep hL hT hrE hmr
      go_wp2_with fail
      refine HROW.out.mono ?_
      rintro e wi ⟨rv, rfl, hrv, hki⟩
      obtain ⟨ar, cr, rfl, har⟩ := owns_forms hrv
      have hLi := HL.out.kp hki (by simp) (by simp)
      have hTi := hki.heap HT.out (by simp)
      have hszi := hki.size
      have hfo : ∀ t, t < nt → ∀ x ∈ foot (vF t) (pF t), x < wr.heap.size ∨ wi.heap.size ≤ x := fun t ht x hx => .inl ((HL.out.each t ht).foot_lt x hx).2
      obtain ⟨H0, hH0⟩ : ∃ H0, wr.heap.size = H0 := ⟨_, rfl⟩
      rw [hH0] at hrv hfo hszi
      have HH0 := hide hH0
      clear hH0
      have HLi := hide hLi
      have HTi := hide hTi
      have HRV := hide hrv
      have HFO := hide hfo
      clear hLi hTi hrv hfo b0 b1 b2
      go_wp2_with fail
      go_loopw [21] (fun kv w2 => ∃ (k : Nat) (vF' : Nat → Value) (pF' : Nat → List Value), k ≤ r.length ∧ kv = .int .i64 k ∧ ListsIs w2 w.heap.size Lb nt vF' (PFr (PFd rows d) d r k) pF' ∧ w2.heap[w.heap.size]? = some (.cells #[.slice ai n ci, .slice at' nt ct, .map (some M)] 66 (0, 0)) ∧ w2.ownsRow H0 3 1 (.slice ar r.length cr) r.length (intV r) ∧ (∀ t, t < nt → ∀ x ∈ foot (vF' t) (pF' t), x < H0 ∨ wi.heap.size ≤ x) ∧ wi.heap.size ≤ w2.heap.size ∧ Kp [] w w2) (fun kv _ => r.length - (intOf kv).toNat)
      case atStart => exact ⟨0, _, _, by omega, rfl, HLi.out, HTi.out, HRV.out, HFO.out, Nat.le_refl _, hkp.next hki⟩
      case round =>
        clear HLi HTi HFO
        obtain ⟨k, vF', pF', hk, rfl, hL2, hT2, hrv2, hfo2, hsz2, hk2⟩ := hrel
        by_cases hlt2 : k < r.length
        · obtain ⟨gr, rfl⟩ := har (by omega)
          have hcr := ints_cells hrv2 rfl k hlt2
          have hxt := HRL.out r[k] (List.getElem_mem hlt2)
          have hgd : r.getD k 0 = r[k] := by rw [List.getD_eq_getElem?_getD, List.getElem?_eq_getElem hlt2]; rfl
          have hPE : PFr (PFd rows d) d r (k + 1) = upd (PFr (PFd rows d) d r k) r[k] (wsF (PFr (PFd rows d) d r k r[k]) d k) := by
            show upd _ (r.getD k 0) _ = _
            rw [hgd]
          have hbk := PFr_bd (PFd rows d) d r (60 * d) HBD.out k r[k]
          obtain ⟨t, ht⟩ : ∃ t, r[k] = t := ⟨_, rfl⟩
          rw [ht] at hcr hxt hPE hbk
          have hpost := hL2.each t hxt
          obtain ⟨av, cv, ev, _⟩ := owns_forms hpost.row
          obtain ⟨hcl, hfl⟩ := lists_cell hL2.blk hxt
          have hgl := (HRV.out.lt gr rfl)
          have hSP := spot_any w.heap.size d k (vF' t) _ (pF' t) wr hpost (by have := hbk.1; omega) (fun l hl => by have := hbk.2 l hl; omega) hk2.size (by omega) (by omega)
          have hLf : Lb ∉ foot (vF' t) (pF' t) := foot_ne hpost hL2.blk (by decide) (by decide)
          have hTf : w.heap.size ∉ foot (vF' t) (pF' t) := foot_ne hpost hT2 (by decide) (by decide)
          have hflt := hpost.foot_lt
          have HF := hide hflt
          have HLf := hide hLf
          have HTf := hide hTf
          rw [ev] at hcl hSP
          have Hev := hide ev
          have HSP := hide hSP
          have HL2 := hide hL2
          have HT2 := hide hT2
          have HRV2 := hide hrv2
          have HFO2 := hide hfo2
          have HPE := hide hPE
          clear hSP hL2 hT2 hrv2 hfo2 hPE ht hpost ev hgd hbk hflt hLf hTf
          go_wp2_with fail
          refine HSP.out.mono ?_
          rintro e w3 ⟨v', pvs', rfl, hp3, hk3, hf3⟩
          rw [← Hev.out] at hk3 hf3
          have hLs := HL2.out.spot hxt hp3 hk3 hf3
          obtain ⟨a3, c3, e3, _⟩ := owns_forms hp3.row
          have hb3 := hk3.heap HL2.out.blk HLf.out
          obtain ⟨hc3, hfz3⟩ := lists_cell hb3 hxt
          have hT3 := hk3.heap HT2.out HTf.out
          have hrv3 := hk3.owns HRV2.out (fun g' hg' hx => by
            have e1 : gr = g' := by simpa [Value.ownBlock] using hg'
            subst e1
            rcases HFO2.out t hxt _ hx with h1 | h1 <;> omega)
          have hk3w : Kp [] w w3 := hk2.trans hk3 (fun x hx => .inr (HF.out x hx).1)
          have hsz3 := hk3.size
          subst e3
          have ks : Kp [Lb] w3 (w3.setCell ⟨Lb, t, none⟩ (.slice a3 (wsF (PFr (PFd rows d) d r k t) d k).length c3)) := (Kp.refl _ _).setCell (.inl (by simp)) _
          have hT4 := ks.heap hT3 (by simp; omega)
          have hrv4 := ks.owns hrv3 (fun g' hg' hx => by
            simp at hx; subst hx
            exact owns_ne hrv3 hb3 (by decide) hg')
          have hk4 : Kp [] w (w3.setCell ⟨Lb, t, none⟩ (.slice a3 (wsF (PFr (PFd rows d) d r k t) d k).length c3)) := hk3w.trans ks (by simp; omega)
          have hsz4 := ks.size
          have hfo4 : ∀ t', t' < nt → ∀ x ∈ foot (upd vF' t (.slice a3 (wsF (PFr (PFd rows d) d r k t) d k).length c3) t') (upd pF' t pvs' t'), x < H0 ∨ wi.heap.size ≤ x := by
            intro t' ht' x hx
            unfold upd at hx
            by_cases et : t' = t
            · simp only [et, if_true] at hx
              rcases hf3 x hx with h1 | h1
              · exact HFO2.out t hxt x h1
              · right; omega
            · simp only [et, if_false] at hx
              exact HFO2.out t' ht' x hx
          have HLS := hide hLs
          have HT4 := hide hT4
          have HRV4 := hide hrv4
          have HFO4 := hide hfo4
          clear hLs hT4 hrv4 hfo4 hT3 hrv3 hp3 hf3 hb3 hcr hcl hfl
          go_wp2_with fail
          go_roundw
          case rel =>
            refine ⟨k + 1, _, _, by omega, by go_num, ?_, HT4.out, HRV4.out, HFO4.out, by omega, hk4⟩
            rw [HPE.out]
            exact HLS.out
          case measure => simp [intOf]; omega
        · have ek : k = r.length := by omega
          subst ek
          have HL2 := hide hL2
          have HT2 := hide hT2
          clear hL2 hT2 hrv2 hfo2
          go_wp2_with fail
          go_roundw
          case rel =>
            refine ⟨d + 1, vF', pF', by omega, by go_num, ?_, HT2.out, heap_lt HL2.out.blk, hk2⟩
            rw [HST.out]; exact HL2.out
          case measure => simp [intOf]; omega
    · have ed : d = n := by omega
      subst ed
      have HL := hide hL
      clear hL hT
      go_wp2_with fail
      go_ret
      refine ⟨Lb, vF, pF, rfl, ?_, by omega, hkp⟩
      rw [Hlen.out]
      exact HL.out
end Go.Proofs.Ytpdoacfiiledcaa.Pak
