import Derived.Test.YtpdoacfiiledcaaGreatDoorV05
import Derived.Test.YtpdoacfiiledcaaGreatDoorV03
namespace Go.Proofs.YtpdoacfiiledcaaGreatDoor.Pak
open Go.RowKit Go.Proofs.YtpdoacfiiledcaaGreatDoor Go.Proofs.YtpdoacfiiledcaaGreatDoor.Spl SiftM
set_option linter.unusedVariables false

def BdP (F : Nat → List Po) (n : Nat) : Prop := ∀ t, (F t).length ≤ n ∧ ∀ l ∈ F t, l.2.length ≤ n
theorem wsF_bd (P : List Po) (d p n : Nat) (h1 : P.length ≤ n) (h2 : ∀ l ∈ P, l.2.length ≤ n) : (wsF P d p).length ≤ n + 1 ∧ ∀ l ∈ wsF P d p, l.2.length ≤ n + 1 := by
  unfold wsF
  cases hg : P.getLast? with
  | none => simp
  | some l =>
    simp only
    have hm : l ∈ P := List.mem_of_getLast? hg
    split
    · refine ⟨by simp; omega, fun x hx => ?_⟩
      simp at hx
      rcases hx with hx | rfl
      · have := h2 x (List.dropLast_subset _ hx); omega
      · have := h2 l hm; simp; omega
    · refine ⟨by simp; omega, fun x hx => ?_⟩
      simp at hx
      rcases hx with hx | rfl
      · have := h2 x hx; omega
      · simp
theorem PFr_bd (F : Nat → List Po) (d : Nat) (r : List Nat) (n : Nat) (h : BdP F n) : ∀ k, BdP (PFr F d r k) (n + k)
  | 0 => h
  | k + 1 => by
    intro t
    have ih := PFr_bd F d r n h k
    simp only [PFr, upd]
    split
    · have := wsF_bd (PFr F d r k (r.getD k 0)) d k (n + k) (ih _).1 (ih _).2
      exact this
    · exact ⟨by have := (ih t).1; omega, fun l hl => by have := (ih t).2 l hl; omega⟩
theorem PFd_bd (rows : List (List Nat)) (hs : ∀ r ∈ rows, r.length ≤ 60) : ∀ d, BdP (PFd rows d) (60 * d)
  | 0 => fun t => by simp [PFd]
  | d + 1 => by
    have ih := PFd_bd rows hs d
    have hl : (rows.getD d []).length ≤ 60 := by
      rw [List.getD_eq_getElem?_getD]
      cases hg : rows[d]? with
      | none => simp
      | some r => exact hs r (List.mem_of_getElem? hg)
    have := PFr_bd (PFd rows d) d (rows.getD d []) (60 * d) ih (rows.getD d []).length
    intro t
    exact ⟨by have := (this t).1; simp only [PFd]; omega, fun l hl' => by have := (this t).2 l hl'; omega⟩

theorem info74 : (Tryz.prog.info? 383).map (fun i => (i.zero, i.size, i.bytes)) = some (some (.slice none 0 0), 1, 24) := by kernel_rfl
theorem make_lists (c : Nat) (w : World) (hc : c ≤ 2000000) : (Instr.makeSlice 381 (.int .i64 c) (.int .i64 c)).run Tryz.prog w = .ok (.slice (some ⟨w.heap.size, 0, none⟩) c c) (w.alloc (.cells ((List.range c).map fun _ => Value.slice none 0 0).toArray 383)) := by
  obtain ⟨i0, hi, hz0, hz1, hz2⟩ := info_parts info74
  have := run_make (P := Tryz.prog) w 381 383 i0 (.slice none 0 0) Tryz.underlying381 hi hz0 .i64 .i64 c c (by omega) (by omega) (by rw [hz2]; omega) (by omega)
  rw [hz1, Nat.mul_one] at this
  simp only [Int.toNat_natCast] at this
  have e : Array.replicate c (Value.slice none 0 0) = ((List.range c).map fun _ => Value.slice none 0 0).toArray := by
    apply Array.ext
    · simp
    · intro i h1 h2; simp
  rw [this, show (Value.slice none 0 0).cells = #[.slice none 0 0] from rfl, made_one, e]

theorem lists_cell {w : World} {Lb nt t : Nat} {vF : Nat → Value} (h : w.heap[Lb]? = some (.cells ((List.range nt).map vF).toArray 383 (0, 0))) (ht : t < nt) : w.cell? ⟨Lb, t, none⟩ = some (vF t) ∧ w.frozen? ⟨Lb, t, none⟩ = false := by
  constructor
  · simp only [World.cell?, h]
    simp [ht]
  · simp [World.frozen?, h]

set_option maxHeartbeats 4000000 in
set_option maxRecDepth 100000 in
theorem postings_any (M c B : Nat) (f : Nat → Nat → Option Nat) (iv tv : Value) (ids : List Nat) (terms : List (List UInt8)) (rows : List (List Nat)) (w : World) (hm : MapIs w M c f) (hi : w.ownsRow B 3 1 iv ids.length (intV ids)) (ht : w.ownsRow B 9 1 tv terms.length (strV terms)) (hr : RowsAre f rows terms.length) (hs : ∀ r ∈ rows, r.length ≤ 60) (hlen : rows.length = ids.length) (hn : ids.length ≤ 60) (hnt : terms.length ≤ 100000) :
    Calls Tryz.prog 286 #[.agg #[iv, tv, .map (some M)]] w fun e w' => ∃ Lb vF pF, e = .returned (.slice (some ⟨Lb, 0, none⟩) terms.length terms.length) ∧ ListsIs w' w.heap.size Lb terms.length vF (PFd rows rows.length) pF ∧ w.heap.size ≤ Lb ∧ Kp [] w w' := by
  obtain ⟨ai, ci, rfl, hai⟩ := owns_forms hi
  obtain ⟨at', ct, rfl, hat⟩ := owns_forms ht
  obtain ⟨n, hnE⟩ : ∃ n, ids.length = n := ⟨_, rfl⟩
  obtain ⟨nt, hntE⟩ : ∃ nt, terms.length = nt := ⟨_, rfl⟩
  rw [hntE] at hnt hr ⊢
  rw [hnE] at hn hlen ⊢
  have hmk := fun w' => make_lists nt w' (by omega)
  have HM := hide hm
  have HR := hide hr
  have HS := hide hs
  have Hlen := hide hlen
  clear hm hi ht hr hlen hnE hntE hai hat hs
  go_enter Tryz.func286, Tryz.ntmps286
  go_wp2_with fail
  obtain ⟨W, hW⟩ : ∃ W, (w.alloc (.cells #[.slice ai n ci, .slice at' nt ct, .map (some M)] 316)).alloc (.cells ((List.range nt).map fun _ => Value.slice none 0 0).toArray 383) = W := ⟨_, rfl⟩
  have k0 : Kp [] w W := by rw [← hW]; exact ((Kp.refl _ _).alloc _).alloc _
  have hT0 : W.heap[w.heap.size]? = some (.cells #[.slice ai n ci, .slice at' nt ct, .map (some M)] 316 (0, 0)) := by
    rw [← hW, Below.heap_alloc _ _ _ (by simp)]; exact heap_alloc_new w _
  have hL0 : ListsIs W w.heap.size (w.heap.size + 1) nt (fun _ => .slice none 0 0) (PFd rows 0) (fun _ => []) := by
    refine ⟨?_, fun t _ => PostIs.nil _ _, fun t t' _ _ _ x hx => by simp [foot, Value.ownBlock] at hx⟩
    rw [← hW]
    have := heap_alloc_new (w.alloc (.cells #[.slice ai n ci, .slice at' nt ct, .map (some M)] 316)) (.cells ((List.range nt).map fun _ => Value.slice none 0 0).toArray 383)
    rw [World.size_alloc] at this
    exact this
  have hsz0 : W.heap.size = w.heap.size + 2 := by rw [← hW]; simp
  obtain ⟨Lb, hLb⟩ : ∃ Lb, w.heap.size + 1 = Lb := ⟨_, rfl⟩
  have hlb1 : w.heap.size < Lb := by omega
  have hlb2 : Lb < W.heap.size := by omega
  rw [hLb] at hL0
  rw [hW, hLb]
  have HT0 := hide hT0
  have HL0 := hide hL0
  clear hT0 hL0 hW hmk hsz0 hLb
  go_loopw [14] (fun dv wr => ∃ (d : Nat) (vF : Nat → Value) (pF : Nat → List Value), d ≤ n ∧ dv = .int .i64 d ∧ ListsIs wr w.heap.size Lb nt vF (PFd rows d) pF ∧ wr.heap[w.heap.size]? = some (.cells #[.slice ai n ci, .slice at' nt ct, .map (some M)] 316 (0, 0)) ∧ Lb < wr.heap.size ∧ Kp [] w wr) (fun dv _ => n - (intOf dv).toNat)
  case atStart => exact ⟨0, _, _, by omega, rfl, HL0.out, HT0.out, hlb2, k0⟩
  case round =>
    clear HT0 HL0 k0 hlb2
    obtain ⟨d, vF, pF, hd, rfl, hL, hT, hsz, hkp⟩ := hrel
    by_cases hlt : d < n
    · have hdr : d < rows.length := by rw [Hlen.out]; exact hlt
      obtain ⟨b0, b1, b2, _, _, _⟩ := tb_cells hT
      have hmr := HM.out.kp hkp (by simp)
      have hrow := row_any M c d f (.slice ai n ci) (.slice at' nt ct) rows[d] wr hmr (HR.out.at' d hdr) (HR.out.stop d hdr) (HR.out.small d hdr) (by omega) rfl rfl
      have hrl := HR.out.lt d hdr
      have hrs := HS.out rows[d] (List.getElem_mem hdr)
      have hbd := PFd_bd rows HS.out d
      have hstep : PFd rows (d + 1) = PFr (PFd rows d) d rows[d] rows[d].length := by
        show PFr (PFd rows d) d (rows.getD d []) (rows.getD d []).length = _
        rw [List.getD_eq_getElem?_getD, List.getElem?_eq_getElem hdr]; rfl
      obtain ⟨r, hrE⟩ : ∃ r, rows[d] = r := ⟨_, rfl⟩
      rw [hrE] at hrow hrl hrs hstep
      have HROW := hide hrow
      have HRL := hide hrl
      have HBD := hide hbd
      have HST := hide hstep
      have HL := hide hL
      have HT := hide hT
      clear hrow hrl hbd hstep hL hT hrE hmr
      go_wp2_with fail
      refine HROW.out.mono ?_
      rintro e wi ⟨rv, rfl, hrv, hki⟩
      obtain ⟨ar, cr, rfl, har⟩ := owns_forms hrv
      have hLi := HL.out.kp hki (by simp) (by simp)
      have hTi := hki.heap HT.out (by simp)
      have hszi := hki.size
      have hfo : ∀ t, t < nt → ∀ x ∈ foot (vF t) (pF t), x < wr.heap.size ∨ wi.heap.size ≤ x := fun t ht x hx => .inl ((HL.out.each t ht).foot_lt x hx).2
      obtain ⟨H0, hH0⟩ : ∃ H0, wr.heap.size = H0 := ⟨_, rfl⟩
      rw [hH0] at hrv hfo hszi
      have HH0 := hide hH0
      clear hH0
      have HLi := hide hLi
      have HTi := hide hTi
      have HRV := hide hrv
      have HFO := hide hfo
      clear hLi hTi hrv hfo b0 b1 b2
      go_wp2_with fail
      go_loopw [21] (fun kv w2 => ∃ (k : Nat) (vF' : Nat → Value) (pF' : Nat → List Value), k ≤ r.length ∧ kv = .int .i64 k ∧ ListsIs w2 w.heap.size Lb nt vF' (PFr (PFd rows d) d r k) pF' ∧ w2.heap[w.heap.size]? = some (.cells #[.slice ai n ci, .slice at' nt ct, .map (some M)] 316 (0, 0)) ∧ w2.ownsRow H0 3 1 (.slice ar r.length cr) r.length (intV r) ∧ (∀ t, t < nt → ∀ x ∈ foot (vF' t) (pF' t), x < H0 ∨ wi.heap.size ≤ x) ∧ wi.heap.size ≤ w2.heap.size ∧ Kp [] w w2) (fun kv _ => r.length - (intOf kv).toNat)
      case atStart => exact ⟨0, _, _, by omega, rfl, HLi.out, HTi.out, HRV.out, HFO.out, Nat.le_refl _, hkp.next hki⟩
      case round =>
        clear HLi HTi HFO
        obtain ⟨k, vF', pF', hk, rfl, hL2, hT2, hrv2, hfo2, hsz2, hk2⟩ := hrel
        by_cases hlt2 : k < r.length
        · obtain ⟨gr, rfl⟩ := har (by omega)
          have hcr := ints_cells hrv2 rfl k hlt2
          have hxt := HRL.out r[k] (List.getElem_mem hlt2)
          have hgd : r.getD k 0 = r[k] := by rw [List.getD_eq_getElem?_getD, List.getElem?_eq_getElem hlt2]; rfl
          have hPE : PFr (PFd rows d) d r (k + 1) = upd (PFr (PFd rows d) d r k) r[k] (wsF (PFr (PFd rows d) d r k r[k]) d k) := by
            show upd _ (r.getD k 0) _ = _
            rw [hgd]
          have hbk := PFr_bd (PFd rows d) d r (60 * d) HBD.out k r[k]
          obtain ⟨t, ht⟩ : ∃ t, r[k] = t := ⟨_, rfl⟩
          rw [ht] at hcr hxt hPE hbk
          have hpost := hL2.each t hxt
          obtain ⟨av, cv, ev, _⟩ := owns_forms hpost.row
          obtain ⟨hcl, hfl⟩ := lists_cell hL2.blk hxt
          have hgl := (HRV.out.lt gr rfl)
          have hSP := spot_any w.heap.size d k (vF' t) _ (pF' t) wr hpost (by have := hbk.1; omega) (fun l hl => by have := hbk.2 l hl; omega) hk2.size (by omega) (by omega)
          have hLf : Lb ∉ foot (vF' t) (pF' t) := foot_ne hpost hL2.blk (by decide) (by decide)
          have hTf : w.heap.size ∉ foot (vF' t) (pF' t) := foot_ne hpost hT2 (by decide) (by decide)
          have hflt := hpost.foot_lt
          have HF := hide hflt
          have HLf := hide hLf
          have HTf := hide hTf
          rw [ev] at hcl hSP
          have Hev := hide ev
          have HSP := hide hSP
          have HL2 := hide hL2
          have HT2 := hide hT2
          have HRV2 := hide hrv2
          have HFO2 := hide hfo2
          have HPE := hide hPE
          clear hSP hL2 hT2 hrv2 hfo2 hPE ht hpost ev hgd hbk hflt hLf hTf
          go_wp2_with fail
          refine HSP.out.mono ?_
          rintro e w3 ⟨v', pvs', rfl, hp3, hk3, hf3⟩
          rw [← Hev.out] at hk3 hf3
          have hLs := HL2.out.spot hxt hp3 hk3 hf3
          obtain ⟨a3, c3, e3, _⟩ := owns_forms hp3.row
          have hb3 := hk3.heap HL2.out.blk HLf.out
          obtain ⟨hc3, hfz3⟩ := lists_cell hb3 hxt
          have hT3 := hk3.heap HT2.out HTf.out
          have hrv3 := hk3.owns HRV2.out (fun g' hg' hx => by
            have e1 : gr = g' := by simpa [Value.ownBlock] using hg'
            subst e1
            rcases HFO2.out t hxt _ hx with h1 | h1 <;> omega)
          have hk3w : Kp [] w w3 := hk2.trans hk3 (fun x hx => .inr (HF.out x hx).1)
          have hsz3 := hk3.size
          subst e3
          have ks : Kp [Lb] w3 (w3.setCell ⟨Lb, t, none⟩ (.slice a3 (wsF (PFr (PFd rows d) d r k t) d k).length c3)) := (Kp.refl _ _).setCell (.inl (by simp)) _
          have hT4 := ks.heap hT3 (by simp; omega)
          have hrv4 := ks.owns hrv3 (fun g' hg' hx => by
            simp at hx; subst hx
            exact owns_ne hrv3 hb3 (by decide) hg')
          have hk4 : Kp [] w (w3.setCell ⟨Lb, t, none⟩ (.slice a3 (wsF (PFr (PFd rows d) d r k t) d k).length c3)) := hk3w.trans ks (by simp; omega)
          have hsz4 := ks.size
          have hfo4 : ∀ t', t' < nt → ∀ x ∈ foot (upd vF' t (.slice a3 (wsF (PFr (PFd rows d) d r k t) d k).length c3) t') (upd pF' t pvs' t'), x < H0 ∨ wi.heap.size ≤ x := by
            intro t' ht' x hx
            unfold upd at hx
            by_cases et : t' = t
            · simp only [et, if_true] at hx
              rcases hf3 x hx with h1 | h1
              · exact HFO2.out t hxt x h1
              · right; omega
            · simp only [et, if_false] at hx
              exact HFO2.out t' ht' x hx
          have HLS := hide hLs
          have HT4 := hide hT4
          have HRV4 := hide hrv4
          have HFO4 := hide hfo4
          clear hLs hT4 hrv4 hfo4 hT3 hrv3 hp3 hf3 hb3 hcr hcl hfl
          go_wp2_with fail
          go_roundw
          case rel =>
            refine ⟨k + 1, _, _, by omega, by go_num, ?_, HT4.out, HRV4.out, HFO4.out, by omega, hk4⟩
            rw [HPE.out]
            exact HLS.out
          case measure => simp [intOf]; omega
        · have ek : k = r.length := by omega
          subst ek
          have HL2 := hide hL2
          have HT2 := hide hT2
          clear hL2 hT2 hrv2 hfo2
          go_wp2_with fail
          go_roundw
          case rel =>
            refine ⟨d + 1, vF', pF', by omega, by go_num, ?_, HT2.out, heap_lt HL2.out.blk, hk2⟩
            rw [HST.out]; exact HL2.out
          case measure => simp [intOf]; omega
    · have ed : d = n := by omega
      subst ed
      have HL := hide hL
      clear hL hT
      go_wp2_with fail
      go_ret
      refine ⟨Lb, vF, pF, rfl, ?_, by omega, hkp⟩
      rw [Hlen.out]
      exact HL.out
end Go.Proofs.YtpdoacfiiledcaaGreatDoor.Pak

set_option linter.unusedVariables false
set_option maxRecDepth 4000
namespace Go.Proofs.YtpdoacfiiledcaaGreatDoor.Pak
open Go.RowKit Go.Proofs.YtpdoacfiiledcaaGreatDoor Go.Proofs.YtpdoacfiiledcaaGreatDoor.Spl SiftM

/- What is written is read: numbers. -/
theorem rs_ge : ∀ (xs : List Nat) (least : Nat), Rs least xs → ∀ x ∈ xs, least ≤ x
  | [], _, _, x, hx => by simp at hx
  | y :: r, least, h, x, hx => by
    rcases List.mem_cons.1 hx with rfl | hx
    · exact h.1
    · have := rs_ge r (y + 1) h.2 x hx
      have := h.1; omega

theorem rs_nodup : ∀ (xs : List Nat) (least : Nat), Rs least xs → xs.Nodup
  | [], _, _ => List.nodup_nil
  | y :: r, least, h => List.nodup_cons.2 ⟨fun hm => by have := rs_ge r (y + 1) h.2 y hm; omega, rs_nodup r (y + 1) h.2⟩

def entB : Nat → List Po → List UInt8
  | _, [] => []
  | least, x :: r => numB (x.1 - least) ++ (numB x.2.length ++ (riseB 0 x.2 ++ entB (x.1 + 1) r))
def cntP : List Po → Nat
  | [] => 0
  | x :: r => x.2.length + cntP r
def OkP (N : Nat) : Nat → List Po → Prop
  | _, [] => True
  | least, x :: r => least ≤ x.1 ∧ x.1 < N ∧ 1 ≤ x.2.length ∧ x.2.length ≤ 60 ∧ Rs 0 x.2 ∧ (∀ p ∈ x.2, p ≤ 59) ∧ OkP N (x.1 + 1) r

theorem okP_len (N : Nat) : ∀ (P : List Po) (least : Nat), OkP N least P → P.length ≤ N - least
  | [], _, _ => by simp
  | y :: r, least, h => by
    have := okP_len N r (y.1 + 1) h.2.2.2.2.2.2
    have := h.1
    have := h.2.1
    simp; omega

def termB (t : List UInt8) (P : List Po) : List UInt8 := numB t.length ++ (t ++ (numB P.length ++ entB 0 P))

def termsB (P : Nat → List Po) : Nat → List (List UInt8) → List UInt8
  | _, [] => []
  | k, x :: r => termB x (P k) ++ termsB P (k + 1) r
def cntK (P : Nat → List Po) : Nat → Nat → Nat
  | _, 0 => 0
  | k, n + 1 => cntP (P k) + cntK P (k + 1) n
end Go.Proofs.YtpdoacfiiledcaaGreatDoor.Pak

set_option linter.unusedVariables false
set_option maxRecDepth 4000
namespace Go.Proofs.YtpdoacfiiledcaaGreatDoor.Pak
open Go.RowKit Go.Proofs.YtpdoacfiiledcaaGreatDoor Go.Proofs.YtpdoacfiiledcaaGreatDoor.Spl SiftM

/- The postings, in closed form. -/
def plc (r : List Nat) (t : Nat) : Nat → List Nat
  | 0 => []
  | k + 1 => plc r t k ++ (if t = r.getD k 0 then [k] else [])
def one (d : Nat) (ps : List Nat) : List Po := if ps = [] then [] else [(d, ps)]
def postD (rows : List (List Nat)) (t : Nat) : Nat → List Po
  | 0 => []
  | d + 1 => postD rows t d ++ one d (plc (rows.getD d []) t (rows.getD d []).length)

theorem postD_lt (rows : List (List Nat)) (t : Nat) : ∀ d, ∀ x ∈ postD rows t d, x.1 < d
  | 0, x, hx => by simp [postD] at hx
  | d + 1, x, hx => by
    simp only [postD, List.mem_append] at hx
    rcases hx with hx | hx
    · have := postD_lt rows t d x hx; omega
    · unfold one at hx
      split at hx
      · simp at hx
      · simp at hx; simp [hx]

theorem ws_one (P : List Po) (d k : Nat) (ps : List Nat) (h : ∀ x ∈ P, x.1 < d) : wsF (P ++ one d ps) d k = P ++ one d (ps ++ [k]) := by
  have e2 : one d (ps ++ [k]) = [(d, ps ++ [k])] := by unfold one; rw [if_neg (by simp)]
  rw [e2]
  by_cases hp : ps = []
  · have e : one d ps = [] := by unfold one; rw [if_pos hp]
    rw [e, List.append_nil, hp, List.nil_append]
    unfold wsF
    cases hg : P.getLast? with
    | none =>
      have : P = [] := List.getLast?_eq_none_iff.1 hg
      rw [this]; rfl
    | some l =>
      have hm : l ∈ P := List.mem_of_getLast? hg
      have := h l hm
      simp only
      rw [if_neg (by omega)]
  · have e : one d ps = [(d, ps)] := by unfold one; rw [if_neg hp]
    rw [e]
    unfold wsF
    rw [List.getLast?_concat]
    simp

theorem PFr_closed (rows : List (List Nat)) (d : Nat) (r : List Nat) (F : Nat → List Po) (hF : ∀ t, F t = postD rows t d) : ∀ k t, PFr F d r k t = postD rows t d ++ one d (plc r t k)
  | 0, t => by simp [PFr, hF, plc, one]
  | k + 1, t => by
    have ih := PFr_closed rows d r F hF k
    simp only [PFr, upd]
    by_cases e : t = r.getD k 0
    · rw [if_pos e, ih, ← e, plc, if_pos e]
      exact ws_one _ d k _ (postD_lt rows t d)
    · rw [if_neg e, ih, plc, if_neg e, List.append_nil]

theorem PFd_closed (rows : List (List Nat)) : ∀ d t, PFd rows d t = postD rows t d
  | 0, t => rfl
  | d + 1, t => by
    simp only [PFd, postD]
    exact PFr_closed rows d _ _ (PFd_closed rows d) _ t

theorem plc_mem (r : List Nat) (t : Nat) : ∀ k p, p ∈ plc r t k ↔ p < k ∧ t = r.getD p 0
  | 0, p => by simp [plc]
  | k + 1, p => by
    have ih := plc_mem r t k p
    simp only [plc, List.mem_append, ih]
    by_cases e : t = r.getD k 0
    · rw [if_pos e]
      simp only [List.mem_singleton]
      constructor
      · rintro (⟨h1, h2⟩ | h)
        · exact ⟨by omega, h2⟩
        · subst h; exact ⟨by omega, e⟩
      · rintro ⟨h1, h2⟩
        by_cases h : p = k
        · exact .inr h
        · exact .inl ⟨by omega, h2⟩
    · rw [if_neg e]
      simp only [List.not_mem_nil, or_false]
      constructor
      · rintro ⟨h1, h2⟩; exact ⟨by omega, h2⟩
      · rintro ⟨h1, h2⟩
        refine ⟨?_, h2⟩
        by_cases h : p = k
        · subst h; exact absurd h2 e
        · omega

theorem plc_len (r : List Nat) (t : Nat) : ∀ k, (plc r t k).length ≤ k
  | 0 => by simp [plc]
  | k + 1 => by
    have ih := plc_len r t k
    simp only [plc, List.length_append]
    split <;> simp <;> omega

theorem rs_snoc : ∀ (xs : List Nat) (least y : Nat), Rs least xs → least ≤ y → (∀ x ∈ xs, x < y) → Rs least (xs ++ [y])
  | [], least, y, _, h, _ => ⟨h, trivial⟩
  | x :: r, least, y, h, hy, hx => ⟨h.1, rs_snoc r (x + 1) y h.2 (hx x (by simp)) (fun z hz => hx z (by simp [hz]))⟩

theorem plc_rs (r : List Nat) (t : Nat) : ∀ k, Rs 0 (plc r t k)
  | 0 => trivial
  | k + 1 => by
    simp only [plc]
    split
    · exact rs_snoc _ 0 k (plc_rs r t k) (Nat.zero_le _) (fun x hx => ((plc_mem r t k x).1 hx).1)
    · rw [List.append_nil]; exact plc_rs r t k

theorem okP_append (N : Nat) : ∀ (P Q : List Po) (least m : Nat), OkP N least P → OkP N m Q → (∀ x ∈ P, x.1 < m) → least ≤ m → OkP N least (P ++ Q)
  | [], Q, least, m, _, hQ, _, hm => by
    cases Q with
    | nil => exact trivial
    | cons y r => exact ⟨by have := hQ.1; omega, hQ.2⟩
  | x :: P, Q, least, m, hP, hQ, hx, hm => by
    refine ⟨hP.1, hP.2.1, hP.2.2.1, hP.2.2.2.1, hP.2.2.2.2.1, hP.2.2.2.2.2.1, ?_⟩
    exact okP_append N P Q (x.1 + 1) m hP.2.2.2.2.2.2 hQ (fun y hy => hx y (by simp [hy])) (hx x (by simp))

theorem postD_ok (rows : List (List Nat)) (t N : Nat) (hs : ∀ r ∈ rows, r.length ≤ 60) : ∀ d, d ≤ N → OkP N 0 (postD rows t d)
  | 0, _ => trivial
  | d + 1, hd => by
    have hl : (rows.getD d []).length ≤ 60 := by
      rw [List.getD_eq_getElem?_getD]
      cases hg : rows[d]? with
      | none => simp
      | some r => exact hs r (List.mem_of_getElem? hg)
    simp only [postD]
    refine okP_append N _ _ 0 d (postD_ok rows t N hs d (by omega)) ?_ (postD_lt rows t d) (Nat.zero_le _)
    unfold one
    split
    · exact trivial
    · rename_i hne
      have h1 := plc_len (rows.getD d []) t (rows.getD d []).length
      refine ⟨Nat.le_refl _, by omega, ?_, by simp only; omega, plc_rs _ _ _, ?_, trivial⟩
      · exact List.length_pos_iff.2 hne
      · intro p hp
        have := ((plc_mem _ _ _ p).1 hp).1
        omega

/-- What the rows say of the terms ahead of k. -/
def belowF (rows : List (List Nat)) (k : Nat) : Nat → Nat → Option Nat := fun d p =>
  if d < rows.length ∧ p < (rows.getD d []).length ∧ (rows.getD d []).getD p 0 < k then some ((rows.getD d []).getD p 0) else none

/- How many there are. -/
theorem cntP_append : ∀ (P Q : List Po), cntP (P ++ Q) = cntP P + cntP Q
  | [], Q => by simp [cntP]
  | x :: P, Q => by simp [cntP, cntP_append P Q, Nat.add_assoc]
theorem cntP_one (d : Nat) (ps : List Nat) : cntP (one d ps) = ps.length := by
  unfold one; split
  · rename_i h; simp [h, cntP]
  · simp [cntP]

def sumK (g : Nat → Nat) : Nat → Nat → Nat
  | _, 0 => 0
  | k, n + 1 => g k + sumK g (k + 1) n
theorem sumK_add (g h : Nat → Nat) : ∀ (k n : Nat), sumK (fun t => g t + h t) k n = sumK g k n + sumK h k n
  | _, 0 => rfl
  | k, n + 1 => by simp only [sumK]; rw [sumK_add g h (k + 1) n]; omega
theorem cntK_sum (P : Nat → List Po) : ∀ (k n : Nat), cntK P k n = sumK (fun t => cntP (P t)) k n
  | _, 0 => rfl
  | k, n + 1 => by simp only [cntK, sumK]; rw [cntK_sum P (k + 1) n]
theorem sumK_zero : ∀ (k n : Nat) (g : Nat → Nat), (∀ t, k ≤ t → t < k + n → g t = 0) → sumK g k n = 0
  | _, 0, _, _ => rfl
  | k, n + 1, g, h => by
    simp only [sumK]
    rw [h k (Nat.le_refl _) (by omega), sumK_zero (k + 1) n g (fun t h1 h2 => h t (by omega) (by omega))]
theorem sumK_hit : ∀ (n k m : Nat), k ≤ m → m < k + n → sumK (fun t => if t = m then 1 else 0) k n = 1
  | 0, k, m, h1, h2 => by omega
  | n + 1, k, m, h1, h2 => by
    simp only [sumK]
    by_cases e : k = m
    · subst e
      rw [if_pos rfl, sumK_zero _ _ _ (fun t h1 h2 => by rw [if_neg (by omega)])]
    · rw [if_neg e, sumK_hit n (k + 1) m (by omega) (by omega)]

theorem plc_sum (r : List Nat) (nt : Nat) : ∀ k, (∀ i, i < k → r.getD i 0 < nt) → sumK (fun t => (plc r t k).length) 0 nt = k
  | 0, _ => by
    exact sumK_zero 0 nt _ (fun t _ _ => by simp [plc])
  | k + 1, h => by
    have e : (fun t => (plc r t (k + 1)).length) = fun t => (plc r t k).length + (if t = r.getD k 0 then 1 else 0) := by
      funext t
      simp only [plc, List.length_append]
      split <;> simp
    rw [e, sumK_add, plc_sum r nt k (fun i hi => h i (by omega)), sumK_hit nt 0 _ (Nat.zero_le _) (by have := h k (by omega); omega)]

theorem post_sum (rows : List (List Nat)) (nt : Nat) : ∀ d, d ≤ rows.length → (∀ r ∈ rows, ∀ x ∈ r, x < nt) → cntK (fun t => postD rows t d) 0 nt = cntTo rows d
  | 0, _, _ => by
    rw [cntK_sum]
    exact sumK_zero 0 nt _ (fun t _ _ => by simp [postD, cntP])
  | d + 1, hd, h => by
    rw [cntK_sum]
    have e : (fun t => cntP (postD rows t (d + 1))) = fun t => cntP (postD rows t d) + (plc (rows.getD d []) t (rows.getD d []).length).length := by
      funext t
      simp only [postD]
      rw [cntP_append, cntP_one]
    rw [e, sumK_add, ← cntK_sum (fun t => postD rows t d), post_sum rows nt d (by omega) h]
    rw [plc_sum]
    · rfl
    · intro i hi
      have hd' : d < rows.length := by omega
      have e2 : rows.getD d [] = rows[d] := by rw [List.getD_eq_getElem?_getD, List.getElem?_eq_getElem hd']; rfl
      rw [e2] at hi ⊢
      rw [List.getD_eq_getElem?_getD, List.getElem?_eq_getElem hi]
      exact h _ (List.getElem_mem hd') _ (List.getElem_mem hi)

theorem below_rows (rows : List (List Nat)) (nt : Nat) (hs : ∀ r ∈ rows, r.length ≤ 60) (h : ∀ r ∈ rows, ∀ x ∈ r, x < nt) : RowsAre (belowF rows nt) rows nt where
  at' d hd i hi := by
    have e2 : rows.getD d [] = rows[d] := by rw [List.getD_eq_getElem?_getD, List.getElem?_eq_getElem hd]; rfl
    have e3 : rows[d].getD i 0 = rows[d][i] := by rw [List.getD_eq_getElem?_getD, List.getElem?_eq_getElem hi]; rfl
    unfold belowF
    rw [e2, e3, if_pos ⟨hd, hi, h _ (List.getElem_mem hd) _ (List.getElem_mem hi)⟩]
  stop d hd := by
    have e2 : rows.getD d [] = rows[d] := by rw [List.getD_eq_getElem?_getD, List.getElem?_eq_getElem hd]; rfl
    unfold belowF
    rw [e2, if_neg (by omega)]
  small d hd := by have := hs _ (List.getElem_mem hd); omega
  lt d hd x hx := h _ (List.getElem_mem hd) x hx

def bodyB (ids : List Nat) (terms : List (List UInt8)) (rows : List (List Nat)) : List UInt8 :=
  83 :: (numB ids.length ++ (riseB 0 ids ++ (numB terms.length ++ termsB (fun t => postD rows t rows.length) 0 terms)))

end Go.Proofs.YtpdoacfiiledcaaGreatDoor.Pak

