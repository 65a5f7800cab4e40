import Derived.Test.YtpdoacfiiledcaaGreatDoorV26
import Derived.Test.YtpdoacfiiledcaaGreatDoorV27

set_option linter.unusedVariables false
set_option maxRecDepth 4000
namespace Go.Proofs.YtpdoacfiiledcaaGreatDoor.Pak
open Go.RowKit Go.Proofs.YtpdoacfiiledcaaGreatDoor Go.Proofs.YtpdoacfiiledcaaGreatDoor.Spl SiftM

theorem upTo_below (rows : List (List Nat)) (nt : Nat) (h : ∀ r ∈ rows, ∀ x ∈ r, x < nt) : upTo rows rows.length 0 = belowF rows nt := by
  funext d p
  unfold upTo belowF
  by_cases hd : d < rows.length
  · rw [if_pos (.inl hd), getD_at _ _ hd, List.getElem?_eq_getElem hd]
    by_cases hp : p < rows[d].length
    · rw [getD_at _ _ hp, if_pos ⟨hd, hp, h _ (List.getElem_mem hd) _ (List.getElem_mem hp)⟩]
      simp [hp]
    · rw [if_neg (fun h' => hp h'.2.1)]
      simp at hp
      simp [hp]
  · rw [if_neg (by omega), if_neg (fun h' => hd h'.1)]

theorem terms_split (P : Nat → List Po) : ∀ (ts : List (List UInt8)) (k0 k : Nat) (hk : k < ts.length), termsB P k0 (ts.take (k + 1)) = termsB P k0 (ts.take k) ++ termB ts[k] (P (k0 + k))
  | x :: r, k0, 0, hk => by simp [termsB]
  | x :: r, k0, k + 1, hk => by
    have ih := terms_split P r (k0 + 1) k (by simpa using hk)
    simp only [List.take_succ_cons, termsB, List.append_assoc, List.getElem_cons_succ]
    rw [ih, show k0 + 1 + k = k0 + (k + 1) by omega]

theorem cntP_ok (N : Nat) : ∀ (P : List Po) (least : Nat), OkP N least P → cntP P ≤ 60 * P.length
  | [], _, _ => by simp [cntP]
  | x :: r, least, h => by
    have ih := cntP_ok N r (x.1 + 1) h.2.2.2.2.2.2
    have := h.2.2.2.1
    simp [cntP]; omega

theorem cntK_le (P : Nat → List Po) : ∀ (k n m : Nat), n ≤ m → cntK P k n ≤ cntK P k m
  | k, 0, m, h => by simp [cntK]
  | k, n + 1, 0, h => by omega
  | k, n + 1, m + 1, h => by
    have := cntK_le P (k + 1) n m (by omega)
    simp [cntK]; exact this

theorem terms_len (N : Nat) (P : Nat → List Po) (hP : ∀ k, OkP N 0 (P k)) : ∀ (ts : List (List UInt8)) (k : Nat), (∀ x ∈ ts, x.length ≤ 8) → (termsB P k ts).length ≤ 16 * ts.length + 12 * cntK P k ts.length
  | [], k, _ => by simp [termsB]
  | x :: r, k, h => by
    have ih := terms_len N P hP r (k + 1) (fun y hy => h y (by simp [hy]))
    have h1 := ent_len N (P k) 0 (hP k)
    have h2 := numB_len x.length
    have h3 := numB_len (P k).length
    have h4 := h x (by simp)
    simp only [termsB, termB, List.length_append, List.length_cons, cntK]
    omega

theorem sumW_le : ∀ (T : List Tx), (∀ t ∈ T, t.2.length ≤ 60) → sumW T ≤ 60 * T.length
  | [], _ => by simp [sumW]
  | t :: r, h => by
    have := sumW_le r (fun x hx => h x (by simp [hx]))
    have := h t (by simp)
    simp [sumW]; omega

theorem word_len (x : List UInt8) (h : isWord x = true) : x.length ≤ 8 := by unfold isWord at h; simp at h; exact h.1.2

theorem fine_word (T : List Tx) (hf : Fine T) : ∀ x ∈ termsOf T, x.length ≤ 8 := by
  intro x hx
  obtain ⟨t, ht, hx'⟩ := (allW_iff T x).1 ((terms_mem T x).1 hx)
  exact word_len x (hf.word t ht x hx')

def postT (T : List Tx) : Nat → List Po := fun t => postD (rowsOf T) t (rowsOf T).length
theorem postT_ok (T : List Tx) (hf : Fine T) (t : Nat) : OkP T.length 0 (postT T t) := by
  have := postD_ok (rowsOf T) t T.length (rows_small T hf.few) (rowsOf T).length (by rw [rows_len]; exact Nat.le_refl _)
  exact this
theorem postT_cnt (T : List Tx) (hf : Fine T) (k : Nat) (hk : k ≤ (termsOf T).length) : cntK (postT T) 0 k ≤ 3600 := by
  have h1 := cntK_le (postT T) 0 k (termsOf T).length hk
  have h2 := post_sum (rowsOf T) (termsOf T).length (rowsOf T).length (Nat.le_refl _) (rows_lt T)
  have h3 := cnt_rows (bsIx (termsOf T)) T
  have h4 := sumW_le T hf.few
  have h5 := hf.len
  have e : cntK (postT T) 0 (termsOf T).length = cntTo (rowsOf T) (rowsOf T).length := h2
  rw [e] at h1
  rw [rows_len] at h1
  have e3 : cntTo (rowsOf T) T.length = sumW T := h3
  omega
theorem postT_part (T : List Tx) (hf : Fine T) (k : Nat) : (termsB (postT T) 0 ((termsOf T).take k)).length ≤ 100800 := by
  have h1 := terms_len T.length (postT T) (postT_ok T hf) ((termsOf T).take k) 0 (fun x hx => fine_word T hf x (List.mem_of_mem_take hx))
  have h2 := allW_le T hf.few
  have h3 := hf.len
  have hl : ((termsOf T).take k).length ≤ (termsOf T).length := by rw [List.length_take]; omega
  have h4 := postT_cnt T hf _ hl
  omega
theorem body_eq (T : List Tx) : bodyT T = 83 :: (numB T.length ++ (riseB 0 (T.map Prod.fst) ++ (numB (termsOf T).length ++ termsB (postT T) 0 (termsOf T)))) := by
  unfold bodyT bodyB postT
  rw [List.length_map]

theorem owns_low {w : World} {base base' size n : Nat} {e : TypeId} {v : Value} {xs : List Value} (h : w.ownsRow base e size v n xs) (hb : base' ≤ base) : w.ownsRow base' e size v n xs := by
  refine ⟨h.1, ?_⟩
  rcases h.2 with hn | ⟨g, cap, cur, e1, h1, rest⟩
  · exact .inl hn
  · exact .inr ⟨g, cap, cur, e1, by omega, rest⟩

theorem ListsIs.wr {w w' : World} {base b2 Lb nt Wb : Nat} {vF : Nat → Value} {PF : Nat → List Po} {pF : Nat → List Value} {l : List UInt8} (h : ListsIs w b2 Lb nt vF PF pF) (k : Kb 5 [Wb] base w w') (hw : Wr w Wb base l) : ListsIs w' b2 Lb nt vF PF pF := by
  obtain ⟨v0, hW0, _⟩ := hw
  have h1 : Lb ∉ [Wb] := by
    intro hx
    simp at hx
    subst hx
    have := h.blk
    rw [hW0] at this; simp at this
  refine ⟨k.heap h1 h.blk (by decide), fun t ht => (h.each t ht).kb k (by decide) (by decide) ?_, h.disj⟩
  intro x hx
  simp at hx
  subst hx
  exact foot_ne (h.each t ht) hW0 (by decide) (by decide)

theorem Tabl.wr {w w' : World} {T B Wb base M c : Nat} {ids : List Nat} {terms : List (List UInt8)} {f : Nat → Nat → Option Nat} {iv tv : Value} {l : List UInt8} (h : Tabl w T B ids terms M c f iv tv) (k : Kb 5 [Wb] base w w') (hw : Wr w Wb base l) : Tabl w' T B ids terms M c f iv tv := by
  obtain ⟨v0, hW0, _⟩ := hw
  have h1 : T ∉ [Wb] := by
    intro hx
    simp at hx
    subst hx
    have := h.blk
    rw [hW0] at this; simp at this
  refine ⟨k.heap h1 h.blk (by decide), k.owns h.ids (by decide) ?_, k.owns h.terms (by decide) ?_, h.map.kb k ?_, h.leT, h.leM⟩
  · intro x hx; simp at hx; subst hx; exact owns_ne h.ids hW0 (by decide)
  · intro x hx; simp at hx; subst hx; exact owns_ne h.terms hW0 (by decide)
  · have := map_ne h.map hW0; simpa using this

set_option maxHeartbeats 2000000 in
theorem write_any (B : Nat) (v : Value) (T : List Tx) (vs : List Value) (w : World) (h : TextsIs w B v T vs) (hf : Fine T) :
    Calls Tryz.prog 177 #[v] w fun e w' => ∃ v', e = .returned v' ∧ w'.ownsRow w.heap.size 5 1 v' ((bodyT T).length + 4) (byV (fileT T)) ∧ Kp [] w w' := by
  obtain ⟨av, cv, rfl, hav⟩ := owns_forms h.row
  have htab := tableOf_any B _ T vs w h hf.len hf.few
  have hn := hf.len
  have hnt := allW_le T hf.few
  have hids : ∀ x ∈ T.map Prod.fst, x < 268435456 := by
    intro x hx
    obtain ⟨t, ht, rfl⟩ := List.mem_map.1 hx
    have := hf.ids t ht; omega
  have hrs := hf.rise
  have hil : (T.map Prod.fst).length = T.length := by simp
  have hpart := postT_part T hf
  have hok := postT_ok T hf
  have hwd := fine_word T hf
  have hup := upTo_below (rowsOf T) (termsOf T).length (rows_lt T)
  rw [rows_len] at hup
  have hra := below_rows (rowsOf T) (termsOf T).length (rows_small T hf.few) (rows_lt T)
  have hrsm := rows_small T hf.few
  have hbe := body_eq T
  have hcl := fun t => PFd_closed (rowsOf T) (rowsOf T).length t
  have hrl := rows_len T
  obtain ⟨terms, hterms⟩ : ∃ terms, termsOf T = terms := ⟨_, rfl⟩
  obtain ⟨rows, hrows⟩ : ∃ rows, rowsOf T = rows := ⟨_, rfl⟩
  obtain ⟨ids, hidsE⟩ : ∃ ids, T.map Prod.fst = ids := ⟨_, rfl⟩
  obtain ⟨PT, hPT⟩ : ∃ PT, postT T = PT := ⟨_, rfl⟩
  obtain ⟨n, hnE⟩ : ∃ n, T.length = n := ⟨_, rfl⟩
  obtain ⟨body, hbodyE⟩ : ∃ body, bodyT T = body := ⟨_, rfl⟩
  have hPF : ∀ t, PFd rows rows.length t = PT t := by
    intro t; rw [← hPT, ← hrows]; exact hcl t
  have hfile : fileT T = body ++ sumB body := by rw [← hbodyE]; rfl
  rw [hterms, hrows, hidsE, hnE] at htab
  rw [hterms, hnE] at hnt
  rw [hterms, hPT] at hpart
  rw [hPT, hnE] at hok
  rw [hterms] at hwd
  rw [hrows, hterms, hnE] at hup
  rw [hrows, hterms] at hra
  rw [hrows] at hrsm
  rw [hrows, hnE] at hrl
  rw [hbodyE, hnE, hidsE, hterms, hPT] at hbe
  rw [hidsE] at hids hrs hil
  rw [hnE] at hn hil hav
  rw [hup] at htab
  rw [hbodyE, hfile, hnE]
  have HT := hide htab
  have HI := hide hids
  have HRS := hide hrs
  have Hil := hide hil
  have HPt := hide hpart
  have HOK := hide hok
  have HWd := hide hwd
  have HRA := hide hra
  have HSM := hide hrsm
  have HBE := hide hbe
  have HPF := hide hPF
  have Hrl := hide hrl
  clear htab hids hrs hil hpart hok hwd hup hra hrsm hbe hcl hrl hPF hterms hrows hidsE hPT hnE hbodyE hfile hf h
  go_enter Tryz.func177, Tryz.ntmps177
  go_wp2_with fail
  refine HT.out.mono ?_
  rintro e w1 ⟨M, iv, tv, rfl, hiv, htv, hM, hMb, k1⟩
  obtain ⟨ai, ci, rfl, hai⟩ := owns_forms hiv
  obtain ⟨at', ct, rfl, hat⟩ := owns_forms htv
  have hz1 := k1.size
  have HIV := hide hiv
  have HTV := hide htv
  have HM := hide hM
  clear hiv htv hM HT
  go_wp2_with fail
  obtain ⟨W2, hW2⟩ : ∃ W2, (w1.alloc (.cells #[.slice ai n ci, .slice at' terms.length ct, .map (some M)] 316)).alloc (.cells #[.slice none 0 0] 365) = W2 := ⟨_, rfl⟩
  have k2 : Kp [] w1 W2 := by rw [← hW2]; exact ((Kp.refl _ _).alloc _).alloc _
  have hbT : W2.heap[w1.heap.size]? = some (.cells #[.slice ai n ci, .slice at' terms.length ct, .map (some M)] 316 (0, 0)) := by
    rw [← hW2, Below.heap_alloc _ _ _ (by simp)]; exact heap_alloc_new w1 _
  have hbW : W2.heap[w1.heap.size + 1]? = some (.cells #[.slice none 0 0] 365 (0, 0)) := by
    rw [← hW2]
    have := heap_alloc_new (w1.alloc (.cells #[.slice ai n ci, .slice at' terms.length ct, .map (some M)] 316)) (.cells #[.slice none 0 0] 365)
    rw [World.size_alloc] at this
    exact this
  obtain ⟨Tb, hTb⟩ : ∃ Tb, w1.heap.size = Tb := ⟨_, rfl⟩
  obtain ⟨Wb, hWb⟩ : ∃ Wb, w1.heap.size + 1 = Wb := ⟨_, rfl⟩
  rw [hTb] at hbT
  rw [hWb] at hbW
  rw [hW2, hWb, hTb]
  have hwr2 : Wr W2 Wb w.heap.size [] := ⟨_, hbW, World.ownsRow_nil _ _ _ _⟩
  have htb2 : Tabl W2 Tb w.heap.size ids terms M (cntTo rows n) (belowF rows terms.length) (.slice ai n ci) (.slice at' terms.length ct) := by
    refine ⟨hbT, ?_, k2.owns HTV.out (by simp), HM.out.kp k2 (by simp), by omega, hMb⟩
    have := k2.owns HIV.out (by simp)
    rw [Hil.out]; exact this
  have hTW : w.heap.size ≤ Tb ∧ w.heap.size ≤ Wb := by omega
  have hz2 := k2.size
  have kw2 : Kb 5 [Wb] w.heap.size w W2 := Kb.of_kp (k1.next k2) (by simp)
  have hWlt := heap_lt hbW
  have HW2 := hide hwr2
  have HT2 := hide htb2
  clear hwr2 htb2 hbT hbW hW2 hTb hWb HIV HTV HM
  refine (wtext_any Wb w.heap.size [] ⟨#[83]⟩ W2 HW2.out (by omega) (by decide)).mono ?_
  rintro e w3 ⟨rfl, hw3, k3⟩
  have hz3 := k3.size
  have ht3 := HT2.out.wr k3 HW2.out
  obtain ⟨b0, b1, b2, _, _, _⟩ := tb_cells ht3.blk
  have hTlt := heap_lt ht3.blk
  have kw3 := kw2.next k3
  have HW3 := hide hw3
  have HT3 := hide ht3
  clear hw3 ht3 HW2 HT2 k3 kw2
  go_wp2_with fail
  refine (wnum_any Wb w.heap.size _ n w3 HW3.out (by omega) (by simp) (by omega)).mono ?_
  rintro e w4 ⟨rfl, hw4, k4⟩
  have hz4 := k4.size
  have ht4 := HT3.out.wr k4 HW3.out
  clear b0 b1 b2 hTlt
  obtain ⟨b0, b1, b2, _, _, _⟩ := tb_cells ht4.blk
  have hTlt := heap_lt ht4.blk
  have kw4 := kw3.next k4
  have hn1 := numB_len n
  have HW4 := hide hw4
  have HT4 := hide ht4
  clear hw4 ht4 HW3 HT3 k4 kw3
  go_wp2_with fail
  have hi4 : Hid (w4.ownsRow w.heap.size 3 1 (.slice ai n ci) ids.length (intV ids)) := HT4.out.ids
  refine (wrising_any Wb w.heap.size w.heap.size _ _ ids w4 HW4.out hi4.out (by omega) (by rw [Hil.out]; simp; omega) (by rw [Hil.out]; omega) HRS.out HI.out).mono ?_
  rintro e w5 ⟨rfl, hw5, k5⟩
  have hz5 := k5.size
  have ht5 := HT4.out.wr k5 HW4.out
  clear b0 b1 b2 hTlt
  obtain ⟨b0, b1, b2, _, _, _⟩ := tb_cells ht5.blk
  have hTlt := heap_lt ht5.blk
  have kw5 := kw4.next k5
  have hn2 := riseB_len ids 0
  have HW5 := hide hw5
  have HT5 := hide ht5
  clear hw5 ht5 HW4 HT4 k5 kw4 hi4
  go_wp2_with fail
  refine (wnum_any Wb w.heap.size _ terms.length w5 HW5.out (by omega) (by rw [Hil.out] at hn2; simp; omega) (by omega)).mono ?_
  rintro e w6 ⟨rfl, hw6, k6⟩
  have hz6 := k6.size
  have ht6 := HT5.out.wr k6 HW5.out
  clear b0 b1 b2 hTlt
  obtain ⟨b0, b1, b2, _, _, _⟩ := tb_cells ht6.blk
  have hTlt := heap_lt ht6.blk
  have kw6 := kw5.next k6
  have hn3 := numB_len terms.length
  obtain ⟨pre, hpre⟩ : ∃ pre, [] ++ (ByteArray.mk #[83]).data.toList ++ numB n ++ riseB 0 ids ++ numB terms.length = pre := ⟨_, rfl⟩
  have hpl : pre.length ≤ 300 := by rw [← hpre]; rw [Hil.out] at hn2; simp; omega
  have hfin : Hid (body = pre ++ termsB PT 0 terms) := by
    show _ = _
    rw [HBE.out, ← hpre]; simp
  have hp0 : 0 < pre.length := by rw [← hpre]; simp
  rw [hpre] at hw6
  have HW6 := hide hw6
  have HT6 := hide ht6
  have HB6 := hide (show w6.cell? ⟨Tb, 0, none⟩ = _ ∧ w6.cell? ⟨Tb, 1, none⟩ = _ from ⟨b0, b1⟩)
  clear hw6 ht6 HW5 HT5 k6 kw5 hpre HBE
  go_wp2_with fail
  have hids6 := HT6.out.ids
  have hterms6 := HT6.out.terms
  have hPO := postings_any M _ w.heap.size _ _ _ ids terms rows w6 HT6.out.map hids6 hterms6 HRA.out HSM.out (by rw [Hrl.out, Hil.out]) (by rw [Hil.out]; exact hn) (by omega)
  clear hids6 hterms6
  refine hPO.mono ?_
  rintro e w7 ⟨Lb, vF, pF, rfl, hL7, hLb, k7⟩
  have hz7 := k7.size
  have hw7 := HW6.out.kp k7 (by simp) (by simp)
  have ht7 := HT6.out.kp k7 (HT6.out.map.kp k7 (by simp)) (by simp) (by simp) (by simp)
  have kw7 : Kb 5 [Wb] w.heap.size w w7 := kw6.next (Kb.of_kp k7 (by simp))
  have hb7 : w.heap.size ≤ w7.heap.size := kw7.size
  have HW7 := hide hw7
  have HT7 := hide ht7
  have HL7 := hide hL7
  clear hw7 ht7 hL7 hPO HW6 HT6 HB6 k7 kw6 b0 b1 b2 hTlt
  go_wp2_with fail
  obtain ⟨H6, hH6⟩ : ∃ H6, w6.heap.size = H6 := ⟨_, rfl⟩
  rw [hH6] at HL7
  clear hH6
  go_loopw [24] (fun iv wr => ∃ k : Nat, k ≤ terms.length ∧ iv = .int .i64 k ∧ Wr wr Wb w.heap.size (pre ++ termsB PT 0 (terms.take k)) ∧ Tabl wr Tb w.heap.size ids terms M (cntTo rows n) (belowF rows terms.length) (.slice ai n ci) (.slice at' terms.length ct) ∧ ListsIs wr H6 Lb terms.length vF (PFd rows rows.length) pF ∧ w.heap.size ≤ wr.heap.size ∧ Kb 5 [Wb] w.heap.size w wr) (fun iv _ => terms.length - (intOf iv).toNat)
  case atStart => exact ⟨0, by omega, rfl, by simpa [termsB] using HW7.out, HT7.out, HL7.out, hb7, kw7⟩
  case round =>
    clear HW7 HT7 HL7 kw7 hb7
    obtain ⟨k, hk, rfl, hwk, htk, hlk, hbk, hkb⟩ := hrel
    by_cases hlt : k < terms.length
    · obtain ⟨gt, rfl⟩ := hat (by omega)
      obtain ⟨c0, c1, c2, _, _, _⟩ := tb_cells htk.blk
      have hTlt := heap_lt htk.blk
      have hLlt := heap_lt hlk.blk
      have hct := strs_cells htk.terms rfl k hlt
      obtain ⟨hcl, _⟩ := lists_cell hlk.blk hlt
      have hpo := hlk.each k hlt
      rw [HPF.out k] at hpo
      obtain ⟨ap, cp, ev, _⟩ := owns_forms hpo.row
      rw [ev] at hpo hcl
      have hsp := hide (terms_split PT terms 0 k hlt)
      have hwl := HWd.out terms[k] (List.getElem_mem hlt)
      obtain ⟨tm, htm⟩ : ∃ tm, terms[k] = tm := ⟨_, rfl⟩
      rw [htm] at hct hsp hwl
      rw [Nat.zero_add] at hsp
      have hgt := (htk.terms.lt gt rfl).2
      have hpk := HPt.out k
      have hok := HOK.out k
      have hcn := cntP_ok n (PT k) 0 hok
      have hol := okP_len n (PT k) 0 hok
      obtain ⟨Pk, hPk⟩ : ∃ Pk, PT k = Pk := ⟨_, rfl⟩
      rw [hPk] at hpo hsp hok hcn hol hcl
      have hTE := wterm_any Wb w.heap.size H6 n (pre ++ termsB PT 0 (terms.take k)) tm (.slice ap Pk.length cp) Pk (pF k) wr hwk hpo hbk hok hn hwl (by rw [List.length_append]; omega)
      have HWk := hide hwk
      have HTk := hide htk
      have HLk := hide hlk
      have HTE := hide hTE
      clear hwk htk hlk hTE hpo hok ev htm hPk hpk
      go_wp2_with fail
      refine HTE.out.mono ?_
      rintro e w8 ⟨rfl, hw8, k8⟩
      have hz8 := k8.size
      have ht8 := HTk.out.wr k8 HWk.out
      have hl8 := HLk.out.wr k8 HWk.out
      have kw8 := hkb.next k8
      have HW8 := hide hw8
      have HT8 := hide ht8
      have HL8 := hide hl8
      clear hw8 ht8 hl8 HWk HTk HLk HTE c0 c1 c2 hct hcl k8 hkb
      go_wp2_with fail
      go_roundw
      case rel =>
        refine ⟨k + 1, by omega, by go_num, ?_, HT8.out, HL8.out, by omega, kw8⟩
        rw [hsp.out, ← List.append_assoc]; exact HW8.out
      case measure => simp [intOf]; omega
    · have e : k = terms.length := by omega
      subst e
      have hpk := HPt.out terms.length
      rw [List.take_length] at hwk hpk
      have hSE := sealed_any Wb w.heap.size _ wr hwk (by rw [List.length_append]; omega) (by rw [List.length_append]; omega)
      rw [← hfin.out] at hSE
      have HSE := hide hSE
      clear hwk htk hlk hSE hpk
      go_wp2_with fail
      refine HSE.out.mono ?_
      rintro e w9 ⟨v9, rfl, ho9, k9⟩
      obtain ⟨a9, c9, rfl, _⟩ := owns_forms ho9
      have hk9 : Kp [] w w9 := (Kp.of_below [] (hkb.below (Nat.le_refl _) (by simp; omega) (Nat.le_refl _))).next k9
      have HO9 := hide (owns_low ho9 hbk)
      clear ho9 k9 HSE hkb
      go_wp2_with fail
      go_ret
      exact ⟨_, rfl, HO9.out, hk9⟩
end Go.Proofs.YtpdoacfiiledcaaGreatDoor.Pak

set_option linter.unusedVariables false
set_option maxRecDepth 4000
namespace Go.Proofs.YtpdoacfiiledcaaGreatDoor.Pak
open Go.RowKit Go.Proofs.YtpdoacfiiledcaaGreatDoor Go.Proofs.YtpdoacfiiledcaaGreatDoor.Spl SiftM

theorem rs_of_pw : ∀ (xs : List Nat) (least : Nat), xs.Pairwise (· < ·) → (∀ x ∈ xs, least ≤ x) → Rs least xs
  | [], _, _, _ => trivial
  | x :: r, least, h, hl => ⟨hl x (by simp), rs_of_pw r (x + 1) (List.pairwise_cons.1 h).2 (fun y hy => (List.pairwise_cons.1 h).1 y hy)⟩

theorem ids_good : ∀ (D : List Dc) (p : Option Int), (∀ x ∈ D, 0 ≤ x.1 ∧ x.1 ≤ 99999) → D.Pairwise (fun x y => x.1 < y.1) → (∀ x ∈ D, p ≠ some x.1) → idsB p D = true
  | [], p, _, _, _ => rfl
  | x :: r, p, h, hp, hne => by
    have h1 := h x (by simp)
    have h2 := hne x (by simp)
    rw [idsB, if_neg (by
      rintro (h' | h' | h')
      · omega
      · omega
      · exact h2 h')]
    refine ids_good r (some x.1) (fun y hy => h y (by simp [hy])) (List.pairwise_cons.1 hp).2 ?_
    intro y hy e
    have := (List.pairwise_cons.1 hp).1 y hy
    have := Option.some.inj e
    omega

def Sorted (N : List Nd) : Prop := N.Pairwise fun x y => x.1 < y.1

theorem pw_inj {α : Type} (f : α → Int) (l : List α) (h : l.Pairwise fun x y => f x < f y) : ∀ a ∈ l, ∀ b ∈ l, f a = f b → a = b := by
  intro a ha b hb e
  obtain ⟨i, hi, rfl⟩ := List.getElem_of_mem ha
  obtain ⟨j, hj, rfl⟩ := List.getElem_of_mem hb
  have hp := List.pairwise_iff_getElem.1 h
  by_cases h1 : i < j
  · have := hp i j hi hj h1; omega
  · by_cases h2 : j < i
    · have := hp j i hj hi h2; omega
    · have : i = j := by omega
      subst this; rfl

theorem dcs_sorted (N : List Nd) (h : Sorted N) : (dcs N).Pairwise fun x y => x.1 < y.1 := by
  unfold dcs
  rw [List.pairwise_map]
  exact h.imp (fun hh => by simpa using hh)

theorem sort_unique (N N' : List Nd) (D' : List Dc) (hs : SortOf (dcs N) D') (hp : N'.Perm N) (hsort : Sorted N') : D' = dcs N' := by
  have hpd : D'.Perm (dcs N') := hs.1.trans (by unfold dcs; exact (hp.map _).symm)
  have hlt := dcs_sorted N' hsort
  refine List.Perm.eq_of_pairwise (le := fun x y : Dc => x.1 ≤ y.1) ?_ hs.2 (hlt.imp (fun hh => by omega)) hpd
  intro a b ha hb h1 h2
  exact pw_inj (fun x : Dc => x.1) (dcs N') hlt a (hpd.mem_iff.1 ha) b hb (by omega)

theorem txs_fst (N : List Nd) : (txs N).map Prod.fst = N.map Prod.fst := by simp [txs]

theorem fine_txs (N : List Nd) (hsort : Sorted N) (hn : N.length ≤ 60) (hid : ∀ x ∈ N, x.1 ≤ 99999) (hsz : ∀ x ∈ N, x.2.size ≤ 120) : Fine (txs N) where
  len := by simpa [txs] using hn
  rise := by
    rw [txs_fst]
    refine rs_of_pw _ 0 ?_ (fun _ _ => Nat.zero_le _)
    rw [List.pairwise_map]
    exact hsort
  ids := by
    intro t ht
    obtain ⟨x, hx, rfl⟩ := List.mem_map.1 ht
    exact hid x hx
  few := by
    intro t ht
    obtain ⟨x, hx, rfl⟩ := List.mem_map.1 ht
    exact (sp_few x.2 (hsz x hx)).1
  short := by
    intro t ht
    obtain ⟨x, hx, rfl⟩ := List.mem_map.1 ht
    exact ⟨(sp_few x.2 (hsz x hx)).2.1, (sp_few x.2 (hsz x hx)).2.2.1⟩
  word := by
    intro t ht
    obtain ⟨x, hx, rfl⟩ := List.mem_map.1 ht
    exact (sp_few x.2 (hsz x hx)).2.2.2

theorem dcs_len (N : List Nd) : (dcs N).length = N.length := by simp [dcs]

set_option maxHeartbeats 400000 in
theorem pack_any (B : Nat) (v : Value) (N N' : List Nd) (w : World) (h : w.ownsRow B 261 2 v (dcs N).length (docV (dcs N))) (hn : N.length ≤ 60) (hp : N'.Perm N) (hsort : Sorted N') (hid : ∀ x ∈ N, x.1 ≤ 99999) (hsz : ∀ x ∈ N, x.2.size ≤ 120) :
    Calls Tryz.prog 78 #[v] w fun e w' => ∃ v', e = .returned (.tuple #[v', .int .i64 0]) ∧ w'.ownsRow w.heap.size 5 1 v' ((bodyT (txs N')).length + 4) (byV (fileT (txs N'))) ∧ Kp [] w w' := by
  have hl := dcs_len N
  have hl' := hp.length_eq
  have hby := byId_any B v (dcs N) w h (by omega)
  rw [hl] at h hby
  obtain ⟨av, cv, rfl, hav⟩ := owns_forms h
  have hid' : ∀ x ∈ N', x.1 ≤ 99999 := fun x hx => hid x (hp.mem_iff.1 hx)
  have hsz' : ∀ x ∈ N', x.2.size ≤ 120 := fun x hx => hsz x (hp.mem_iff.1 hx)
  have hfine := fine_txs N' hsort (by omega) hid' hsz'
  have hgood : idsB none (dcs N') = true := ids_good (dcs N') none (by
    intro x hx
    obtain ⟨y, hy, rfl⟩ := List.mem_map.1 hx
    have := hid' y hy
    simp; omega) (dcs_sorted N' hsort) (by simp)
  have hlong : longB N' = false := by
    unfold longB
    rw [List.any_eq_false]
    intro x hx
    have := hsz' x hx
    simp; omega
  have huni := fun D' hs => sort_unique N N' D' hs hp hsort
  obtain ⟨n, hnE⟩ : ∃ n, N.length = n := ⟨_, rfl⟩
  rw [hnE] at hby hn hl' hav
  rw [hnE]
  have HBY := hide hby
  have HF := hide hfine
  have HG := hide hgood
  have HLo := hide hlong
  have HU := hide huni
  have HI := hide hid'
  have Hl' := hide hl'
  clear h hby hfine hgood hlong huni hid hsz hid' hsz' hl hl' hp hsort hnE
  go_enter Tryz.func78, Tryz.ntmps78
  go_wp2_with fail
  refine HBY.out.mono ?_
  rintro e w1 ⟨v1, D', rfl, ho1, hso, k1⟩
  have eD := HU.out D' hso
  subst eD
  obtain ⟨a1, c1, rfl, _⟩ := owns_forms ho1
  have hids := ids_any w.heap.size (.slice a1 n c1) (dcs N') w1 (by rw [dcs_len, Hl'.out]; exact ho1) (by rw [dcs_len, Hl'.out]; omega)
  rw [HG.out] at hids
  have HO1 := hide ho1
  have HID := hide hids
  have hz1 := k1.size
  clear ho1 hso hids HBY HU
  go_wp2_with fail
  refine HID.out.mono ?_
  rintro e w2 ⟨rfl, k2⟩
  have hz2 := k2.size
  have ho2 := k2.owns HO1.out (by simp)
  have htx := textsOf_any w.heap.size (.slice a1 n c1) N' w2 (by rw [dcs_len, Hl'.out]; exact ho2) (by rw [Hl'.out]; omega) HI.out
  rw [HLo.out] at htx
  have HTX := hide htx
  clear ho2 htx HID HO1
  go_wp2_with fail
  refine HTX.out.mono ?_
  rintro e w3 ⟨h3, k3⟩
  have hz3 := k3.size
  rcases h3 with ⟨hb, _⟩ | ⟨_, v3, vs, rfl, ht3⟩
  · simp at hb
  obtain ⟨a3, c3, rfl, _⟩ := owns_forms ht3.row
  have hwr := write_any w2.heap.size _ (txs N') vs w3 ht3 HF.out
  have HWR := hide hwr
  clear ht3 hwr HTX
  go_wp2_with fail
  refine HWR.out.mono ?_
  rintro e w4 ⟨v4, rfl, ho4, k4⟩
  obtain ⟨a4, c4, rfl, _⟩ := owns_forms ho4
  have HO4 := hide (owns_low ho4 (show w.heap.size ≤ w3.heap.size by omega))
  have k04 : Kp [] w w4 := ((k1.next k2).next k3).next k4
  clear ho4 HWR k1 k2 k3 k4
  go_wp2_with fail
  go_ret2
  exact ⟨_, rfl, HO4.out, k04⟩
end Go.Proofs.YtpdoacfiiledcaaGreatDoor.Pak

set_option linter.unusedVariables false
set_option maxRecDepth 4000
namespace Go.Proofs.YtpdoacfiiledcaaGreatDoor.Pak
open Go.RowKit Go.Proofs.YtpdoacfiiledcaaGreatDoor Go.Proofs.YtpdoacfiiledcaaGreatDoor.Spl SiftM

/- What is read was written so. -/
theorem small_nil (f i m : Nat) : smallG (f + 1) i m (some []) = (m + 0 * 128 ^ i, none) := by
  show (if (0 : UInt8).toNat < 128 then (m + (0 : UInt8).toNat * 128 ^ i, if (0 : UInt8) = 0 ∧ 0 < i then none else none) else _) = _
  rw [if_pos (by decide)]
  simp
theorem small_none (f i m : Nat) : smallG (f + 1) i m none = (m + 0 * 128 ^ i, none) := by
  show (if (0 : UInt8).toNat < 128 then (m + (0 : UInt8).toNat * 128 ^ i, if (0 : UInt8) = 0 ∧ 0 < i then none else none) else _) = _
  rw [if_pos (by decide)]
  simp
theorem small_zero (f i m : Nat) (r : List UInt8) (hi : 0 < i) : smallG (f + 1) i m (some (0 :: r)) = (m + 0 * 128 ^ i, none) := by
  show (if (0 : UInt8).toNat < 128 then (m + (0 : UInt8).toNat * 128 ^ i, if (0 : UInt8) = 0 ∧ 0 < i then none else some r) else _) = _
  rw [if_pos (by decide), if_pos ⟨rfl, hi⟩]
  simp

theorem small_inv : ∀ (f i m n : Nat) (l r : List UInt8), smallG (f + 1) i m (some l) = (n, some r) → ∃ k, n = m + k * 128 ^ i ∧ l = numG f k ++ r ∧ k < 128 ^ (f + 1) ∧ (i = 0 ∨ 0 < k)
  | f, i, m, n, [], r, h => by rw [small_nil] at h; simp at h
  | f, i, m, n, c :: t, r, h => by
    by_cases hc : c.toNat < 128
    · by_cases hz : c = 0 ∧ 0 < i
      · obtain ⟨rfl, hi⟩ := hz
        rw [small_zero _ _ _ _ hi] at h; simp at h
      · rw [small_low f i m c t hc hz] at h
        simp only [Prod.mk.injEq, Option.some.injEq] at h
        obtain ⟨h1, rfl⟩ := h
        refine ⟨c.toNat, h1.symm, ?_, ?_, ?_⟩
        · rw [numG_low _ _ hc]
          simp
        · exact Nat.lt_of_lt_of_le hc (by rw [Nat.pow_succ]; exact Nat.le_mul_of_pos_left _ (Nat.pow_pos (by omega)))
        · by_cases hi : i = 0
          · exact .inl hi
          · right
            have : c ≠ 0 := fun e => hz ⟨e, by omega⟩
            have h2 : c.toNat ≠ 0 := fun e => this (UInt8.toNat_inj.1 (by simpa using e))
            omega
    · rw [small_high f i m c t hc] at h
      cases f with
      | zero => simp [smallG] at h
      | succ f =>
        obtain ⟨k, h1, h2, h3, h4⟩ := small_inv f (i + 1) _ n t r h
        have hk : 0 < k := by omega
        have hcl : c.toNat < 256 := c.toNat_lt
        refine ⟨(c.toNat - 128) + 128 * k, ?_, ?_, ?_, .inr (by omega)⟩
        · rw [h1, Nat.add_assoc]
          congr 1
          rw [Nat.add_mul, Nat.pow_succ]
          congr 1
          rw [Nat.mul_comm 128 k, Nat.mul_assoc, Nat.mul_comm (128 ^ i) 128]
        · rw [numG, if_neg (by omega)]
          have e1 : ((c.toNat - 128) + 128 * k) % 128 + 128 = c.toNat := by omega
          have e2 : ((c.toNat - 128) + 128 * k) / 128 = k := by omega
          rw [e1, e2, List.cons_append, ← h2]
          simp
        · rw [Nat.pow_succ]; omega

theorem numF_none (lo hi : Int) : numF none lo hi = (0, none) := by
  unfold numF
  rw [small_none]
  rw [if_pos (.inl rfl)]

theorem num_inv (st : Option (List UInt8)) (lo hi : Int) (n : Nat) (r : List UInt8) (h : numF st lo hi = (n, some r)) : st = some (numB n ++ r) ∧ lo ≤ n ∧ (n : Int) ≤ hi ∧ n < 268435456 := by
  cases st with
  | none => rw [numF_none] at h; simp at h
  | some l =>
    unfold numF at h
    split at h
    · simp at h
    · rename_i hc
      rw [not_or, not_or] at hc
      rw [h] at hc
      obtain ⟨k, h1, h2, h3, _⟩ := small_inv 3 0 0 n l r h
      have e : n = k := by rw [h1]; simp
      subst e
      refine ⟨by rw [h2]; rfl, by have := hc.2.1; simp only at this; omega, by have := hc.2.2; simp only at this; omega, by simpa using h3⟩

theorem riseN_none (most : Int) : ∀ k, (riseN most none k).2.2 = none
  | 0 => rfl
  | k + 1 => by simp only [riseN]; rw [riseN_none most k, numF_none]

theorem rise_inv (most : Int) (l : List UInt8) : ∀ (k : Nat) (r : List UInt8), (riseN most (some l) k).2.2 = some r →
    l = riseB 0 (riseN most (some l) k).1 ++ r ∧ Rs 0 (riseN most (some l) k).1 ∧ (∀ x ∈ (riseN most (some l) k).1, (x : Int) ≤ most ∧ x < (riseN most (some l) k).2.1) ∧ (riseN most (some l) k).2.1 = lstAt (riseN most (some l) k).1 k
  | 0, r, h => by
    simp only [riseN] at h
    have := Option.some.inj h
    subst this
    simp [riseN, riseB, Rs, lstAt]
  | k + 1, r, h => by
    have hl := riseN_len most (some l) k
    simp only [riseN] at h ⊢
    generalize hs : riseN most (some l) k = s at *
    obtain ⟨xs, least, st⟩ := s
    simp only at h hl ⊢
    generalize hn : numF st 0 (most - least) = q at *
    obtain ⟨n, st'⟩ := q
    simp only at h ⊢
    subst h
    obtain ⟨e1, e2, e3, e4⟩ := num_inv _ _ _ _ _ hn
    subst e1
    have ih := rise_inv most l k (numB n ++ r) (by rw [hs])
    rw [hs] at ih
    simp only at ih
    obtain ⟨i1, i2, i3, i4⟩ := ih
    have hk : k < (xs ++ [least + n]).length := by simp; omega
    have hget : (xs ++ [least + n])[k] = least + n := by
      rw [List.getElem_append_right (by omega)]; simp
    have hsp := rise_split (xs ++ [least + n]) 0 k hk
    have ht1 : (xs ++ [least + n]).take (k + 1) = xs ++ [least + n] := List.take_of_length_le (by simp; omega)
    have ht2 : (xs ++ [least + n]).take k = xs := by rw [← hl]; simp
    have hlst : (if k = 0 then 0 else (xs ++ [least + n]).getD (k - 1) 0 + 1) = least := by
      rw [i4]; unfold lstAt
      by_cases h0 : k = 0
      · simp [h0]
      · rw [if_neg h0, if_neg h0]
        congr 1
        rw [List.getD_eq_getElem?_getD, List.getD_eq_getElem?_getD, List.getElem?_append_left (by omega)]
    rw [ht1, ht2, hget, hlst, Nat.add_sub_cancel_left] at hsp
    refine ⟨?_, ?_, ?_, ?_⟩
    · rw [hsp, List.append_assoc]; exact i1
    · exact rs_snoc xs 0 _ i2 (Nat.zero_le _) (fun x hx => by have := (i3 x hx).2; omega)
    · intro x hx
      rcases List.mem_append.1 hx with hx | hx
      · have := i3 x hx
        exact ⟨this.1, by omega⟩
      · simp at hx; subst hx
        exact ⟨by omega, by omega⟩
    · unfold lstAt
      rw [if_neg (by omega), Nat.add_sub_cancel, getD_at _ _ hk, hget]

theorem fold_none (tix doc : Nat) : ∀ (ps : List Nat) (c : Nat) (f : Nat → Nat → Option Nat), (ps.foldl (plStep tix doc) (c, f, none)).2.2 = none
  | [], c, f => rfl
  | p :: r, c, f => by
    rw [List.foldl_cons]
    have e : plStep tix doc (c, f, none) p = (if (f doc p).isSome then c else c + 1, putAt f doc p tix, none) := by simp [plStep]
    rw [e]; exact fold_none tix doc r _ _

theorem fold_inv (tix doc : Nat) : ∀ (ps : List Nat) (c : Nat) (f : Nat → Nat → Option Nat) (st : Option (List UInt8)) (r : List UInt8), ps.Nodup → (ps.foldl (plStep tix doc) (c, f, st)).2.2 = some r → st = some r ∧ ∀ p ∈ ps, f doc p = none
  | [], c, f, st, r, _, h => ⟨h, by simp⟩
  | p :: ps, c, f, st, r, hn, h => by
    rw [List.foldl_cons] at h
    have hnr := List.nodup_cons.1 hn
    by_cases hs : (f doc p).isSome = true
    · have e : plStep tix doc (c, f, st) p = (c, putAt f doc p tix, none) := by simp [plStep, hs]
      rw [e, fold_none] at h
      simp at h
    · have hf : f doc p = none := by simpa using hs
      have e : plStep tix doc (c, f, st) p = (c + 1, putAt f doc p tix, st) := by simp [plStep, hf]
      rw [e] at h
      obtain ⟨h1, h2⟩ := fold_inv tix doc ps _ _ _ _ hnr.2 h
      refine ⟨h1, fun q hq => ?_⟩
      rcases List.mem_cons.1 hq with rfl | hq
      · exact hf
      · have := h2 q hq
        have hne : q ≠ p := fun e => hnr.1 (e ▸ hq)
        simpa [putAt, hne] using this

theorem places_inv (tix doc c : Nat) (f : Nat → Nat → Option Nat) (st : Option (List UInt8)) (r : List UInt8) (h : (placesF tix doc c f st).2.2 = some r) :
    ∃ ps : List Nat, st = some (numB ps.length ++ (riseB 0 ps ++ r)) ∧ 1 ≤ ps.length ∧ ps.length ≤ 60 ∧ Rs 0 ps ∧ (∀ p ∈ ps, p ≤ 59) ∧ (∀ p ∈ ps, f doc p = none) ∧ placesF tix doc c f st = (c + ps.length, putAll f doc ps tix, some r) := by
  have h0 := h
  unfold placesF at h
  generalize hn : numF st 1 60 = q at *
  obtain ⟨n, st1⟩ := q
  simp only at h
  cases st1 with
  | none =>
    rw [riseN_none, fold_none] at h
    simp at h
  | some l =>
    obtain ⟨e1, e2, e3, e4⟩ := num_inv _ _ _ _ _ hn
    cases hr : (riseN 59 (some l) n).2.2 with
    | none => rw [hr, fold_none] at h; simp at h
    | some r' =>
      have hi := rise_inv 59 l n r' hr
      have hl := riseN_len 59 (some l) n
      generalize (riseN 59 (some l) n).1 = ps at *
      generalize (riseN 59 (some l) n).2.1 = least at *
      rw [hr] at h
      obtain ⟨i1, i2, i3, i4⟩ := hi
      obtain ⟨h1, h2⟩ := fold_inv tix doc ps c f (some r') r (rs_nodup ps 0 i2) h
      have e := Option.some.inj h1
      subst e
      have hst : st = some (numB ps.length ++ (riseB 0 ps ++ r')) := by rw [e1, i1, hl]
      refine ⟨ps, hst, by omega, by omega, i2, fun p hp => by have := (i3 p hp).1; omega, h2, ?_⟩
      rw [hst]
      exact places_places tix doc c f ps r' (by omega) (by omega) i2 (fun p hp => by have := (i3 p hp).1; omega) h2

theorem doc_inv (tix N : Nat) (hN : N ≤ 60) : ∀ (k least c : Nat) (f : Nat → Nat → Option Nat) (st : Option (List UInt8)) (r : List UInt8), (docN tix N (least, c, f, st) k).2.2.2 = some r →
    ∃ P : List Po, P.length = k ∧ st = some (entB least P ++ r) ∧ OkP N least P ∧ (∀ x ∈ P, ∀ p ∈ x.2, f x.1 p = none) ∧ (docN tix N (least, c, f, st) k).2 = (c + cntP P, putP tix P f, some r)
  | 0, least, c, f, st, r, h => by
    have h' : st = some r := h
    subst h'
    exact ⟨[], rfl, rfl, trivial, by simp, rfl⟩
  | k + 1, least, c, f, st, r, h => by
    rw [docN_shift] at h
    generalize hn : numF st 0 ((N : Int) - 1 - least) = q at *
    obtain ⟨n, st1⟩ := q
    have hstep : docStep tix N (least, c, f, st) = (least + n + 1, placesF tix (least + n) c f st1) := by
      unfold docStep
      simp only [hn]
    rw [hstep] at h
    generalize hp : placesF tix (least + n) c f st1 = s at *
    obtain ⟨c1, f1, st2⟩ := s
    obtain ⟨P, j1, j2, j3, j4, j5⟩ := doc_inv tix N hN k (least + n + 1) c1 f1 st2 r h
    obtain ⟨ps, k1, k2, k3, k4, k5, k6, k7⟩ := places_inv tix (least + n) c f st1 (entB (least + n + 1) P ++ r) (by rw [hp]; exact j2)
    rw [hp] at k7
    simp only [Prod.mk.injEq] at k7
    obtain ⟨rfl, rfl, _⟩ := k7
    subst k1
    obtain ⟨e1, e2, e3, e4⟩ := num_inv _ _ _ _ _ hn
    have hok : OkP N least ((least + n, ps) :: P) := ⟨by simp, by simp only; omega, k2, k3, k4, k5, j3⟩
    have hfr : ∀ x ∈ (least + n, ps) :: P, ∀ p ∈ x.2, f x.1 p = none := by
      intro x hx p hp'
      rcases List.mem_cons.1 hx with rfl | hx
      · exact k6 p hp'
      · have := j4 x hx p hp'
        have hge := (okP_ge N P _ j3 x hx).1
        unfold putAll at this
        rw [if_neg (by omega)] at this
        exact this
    have hst : st = some (entB least ((least + n, ps) :: P) ++ r) := by
      rw [e1]
      simp only [entB, List.append_assoc, Nat.add_sub_cancel_left]
    refine ⟨(least + n, ps) :: P, by simp [j1], hst, hok, hfr, ?_⟩
    have hd := doc_docs tix N hN ((least + n, ps) :: P) least c f r hok hfr
    rw [hst, ← hd]
    simp [j1]

theorem text_inv (st : Option (List UInt8)) (n : Nat) (r : List UInt8) (h : (textF st n).2 = some r) : st = some ((textF st n).1 ++ r) ∧ (textF st n).1.length = n := by
  cases st with
  | none => simp [textF] at h
  | some l =>
    unfold textF at h ⊢
    simp only at h ⊢
    by_cases hn : l.length < n
    · rw [if_pos hn] at h; simp at h
    · rw [if_neg hn] at h ⊢
      have e := Option.some.inj h
      subst e
      simp; omega

theorem term_inv (N : Nat) (hN : N ≤ 60) (ts : List (List UInt8)) (c : Nat) (f : Nat → Nat → Option Nat) (st : Option (List UInt8)) (r : List UInt8) (h : (termF N (ts, c, f, st)).2.2.2 = some r) :
    ∃ (t : List UInt8) (P : List Po), st = some (termB t P ++ r) ∧ isWord t = true ∧ isNextF ts t = true ∧ OkP N 0 P ∧ 1 ≤ P.length ∧ (∀ x ∈ P, ∀ p ∈ x.2, f x.1 p = none) ∧ termF N (ts, c, f, st) = (ts ++ [t], c + cntP P, putP ts.length P f, some r) := by
  have h0 := h
  unfold termF at h
  simp only at h
  generalize hq : numF (stTerm ts st) 1 N = q at *
  obtain ⟨m, st1⟩ := q
  simp only at h
  obtain ⟨P, j1, j2, j3, j4, j5⟩ := doc_inv ts.length N hN m 0 c f st1 r h
  subst j2
  obtain ⟨e1, e2, e3, e4⟩ := num_inv _ _ _ _ _ hq
  have hst := e1
  unfold stTerm at hst
  generalize hp : numF st 1 8 = p at *
  obtain ⟨n, st0⟩ := p
  simp only at hst
  split at hst
  · rename_i hc
    simp only [Bool.and_eq_true] at hc
    obtain ⟨t1, t2⟩ := text_inv _ _ _ hst
    generalize (textF st0 n).1 = t at *
    subst t1
    obtain ⟨a1, a2, a3, a4⟩ := num_inv _ _ _ _ _ hp
    have hfin : st = some (termB t P ++ r) := by
      rw [a1]; unfold termB; rw [← t2, ← j1]; simp
    refine ⟨t, P, hfin, hc.1, hc.2, j3, by omega, j4, ?_⟩
    rw [hfin]
    exact term_term N hN ts c f t P r hc.1 hc.2 j3 (by omega) j4
  · simp at hst

abbrev Tp := List UInt8 × List Po
def termsL : List Tp → List UInt8
  | [] => []
  | x :: R => termB x.1 x.2 ++ termsL R
def cntL : List Tp → Nat
  | [] => 0
  | x :: R => cntP x.2 + cntL R
def putL : Nat → List Tp → (Nat → Nat → Option Nat) → Nat → Nat → Option Nat
  | _, [], f => f
  | k, x :: R, f => putL (k + 1) R (putP k x.2 f)
def GoodR (N : Nat) : List (List UInt8) → (Nat → Nat → Option Nat) → List Tp → Prop
  | _, _, [] => True
  | ts, f, x :: R => isWord x.1 = true ∧ isNextF ts x.1 = true ∧ OkP N 0 x.2 ∧ 1 ≤ x.2.length ∧ (∀ y ∈ x.2, ∀ p ∈ y.2, f y.1 p = none) ∧ GoodR N (ts ++ [x.1]) (putP ts.length x.2 f) R

theorem terms_inv (N : Nat) (hN : N ≤ 60) : ∀ (k : Nat) (ts : List (List UInt8)) (c : Nat) (f : Nat → Nat → Option Nat) (st : Option (List UInt8)) (r : List UInt8), (termN N (ts, c, f, st) k).2.2.2 = some r →
    ∃ R : List Tp, R.length = k ∧ st = some (termsL R ++ r) ∧ GoodR N ts f R ∧ termN N (ts, c, f, st) k = (ts ++ R.map Prod.fst, c + cntL R, putL ts.length R f, some r)
  | 0, ts, c, f, st, r, h => by
    have h' : st = some r := h
    subst h'
    exact ⟨[], rfl, rfl, trivial, by simp [termN, cntL, putL]⟩
  | k + 1, ts, c, f, st, r, h => by
    rw [termN_shift] at h
    generalize hs : termF N (ts, c, f, st) = s at *
    obtain ⟨ts1, c1, f1, st1⟩ := s
    obtain ⟨R, j1, j2, j3, j4⟩ := terms_inv N hN k ts1 c1 f1 st1 r h
    obtain ⟨t, P, k1, k2, k3, k4, k5, k6, k7⟩ := term_inv N hN ts c f st (termsL R ++ r) (by rw [hs]; exact j2)
    rw [hs] at k7
    simp only [Prod.mk.injEq] at k7
    obtain ⟨rfl, rfl, rfl, _⟩ := k7
    refine ⟨(t, P) :: R, by simp [j1], by rw [k1]; simp [termsL], ⟨k2, k3, k4, k5, k6, j3⟩, ?_⟩
    rw [termN_shift, hs, j4]
    simp [cntL, putL, Nat.add_assoc]

theorem mark_inv (st : Option (List UInt8)) (r : List UInt8) (h : stMark st = some r) : st = some (83 :: r) := by
  unfold stMark at h
  split at h
  · rename_i hc
    obtain ⟨t1, t2⟩ := text_inv _ _ _ h
    rw [hc] at t1
    exact t1
  · simp at h

/-- A table that is read whole: what was written. -/
theorem table_inv (st : Option (List UInt8)) (h : (tableF st).2.2.2.2 = some []) :
    ∃ (ids : List Nat) (R : List Tp), st = some (83 :: (numB ids.length ++ (riseB 0 ids ++ (numB R.length ++ termsL R)))) ∧ ids.length ≤ 60 ∧ R.length ≤ 3600 ∧ Rs 0 ids ∧ (∀ x ∈ ids, x ≤ 99999) ∧ GoodR ids.length [] no R ∧ tableF st = (ids, R.map Prod.fst, cntL R, putL 0 R no, some []) := by
  have h0 := h
  unfold tableF at h
  simp only at h
  generalize hn : numF (stMark st) 0 60 = q at *
  obtain ⟨n, st1⟩ := q
  simp only at h
  generalize hm : numF (riseN 99999 st1 n).2.2 0 3600 = p at *
  obtain ⟨m, st2⟩ := p
  simp only at h
  have hlen := riseN_len 99999 st1 n
  have hn60 : n ≤ 60 := by
    have := numF_le (stMark st) 0 60
    have e : (numF (stMark st) 0 ((60 : Nat) : Int)) = (n, st1) := hn
    rw [e] at this
    exact this
  obtain ⟨R, j1, j2, j3, j4⟩ := terms_inv (riseN 99999 st1 n).1.length (by rw [hlen]; exact hn60) m [] 0 no st2 [] h
  subst j2
  obtain ⟨e1, e2, e3, e4⟩ := num_inv _ _ _ _ _ hm
  cases st1 with
  | none => rw [riseN_none] at e1; simp at e1
  | some l =>
    obtain ⟨i1, i2, i3, i4⟩ := rise_inv 99999 l n _ e1
    obtain ⟨a1, a2, a3, a4⟩ := num_inv _ _ _ _ _ hn
    have hmk := mark_inv _ _ a1
    refine ⟨(riseN 99999 (some l) n).1, R, ?_, by rw [hlen]; exact hn60, by omega, i2, fun x hx => by have := (i3 x hx).1; omega, j3, ?_⟩
    · rw [hmk, hlen, j1]
      congr 3
      have e := i1
      rw [List.append_nil] at e
      exact e
    · unfold tableF
      simp only [hn, hm]
      rw [j4]
      simp
end Go.Proofs.YtpdoacfiiledcaaGreatDoor.Pak

set_option linter.unusedVariables false
set_option maxRecDepth 4000
namespace Go.Proofs.YtpdoacfiiledcaaGreatDoor.Pak
open Go.RowKit Go.Proofs.YtpdoacfiiledcaaGreatDoor Go.Proofs.YtpdoacfiiledcaaGreatDoor.Spl SiftM

def memP (P : List Po) (d p : Nat) : Bool := P.any fun x => decide (x.1 = d) && decide (p ∈ x.2)
theorem memP_iff (P : List Po) (d p : Nat) : memP P d p = true ↔ ∃ y ∈ P, y.1 = d ∧ p ∈ y.2 := by
  unfold memP
  rw [List.any_eq_true]
  constructor
  · rintro ⟨y, hy, h⟩
    simp at h
    exact ⟨y, hy, h.1, h.2⟩
  · rintro ⟨y, hy, h1, h2⟩
    exact ⟨y, hy, by simp [h1, h2]⟩
theorem putP_mem (tix : Nat) (P : List Po) (f : Nat → Nat → Option Nat) (d p : Nat) : putP tix P f d p = if memP P d p = true then some tix else f d p := putP_at tix P f d p

theorem putL_old (N : Nat) : ∀ (R : List Tp) (ts : List (List UInt8)) (f : Nat → Nat → Option Nat) (d p v : Nat), GoodR N ts f R → v < ts.length → (putL ts.length R f d p = some v ↔ f d p = some v)
  | [], ts, f, d, p, v, _, _ => Iff.rfl
  | x :: R, ts, f, d, p, v, h, hv => by
    obtain ⟨h1, h2, h3, h4, h5, h6⟩ := h
    have ih := putL_old N R (ts ++ [x.1]) (putP ts.length x.2 f) d p v h6 (by simp; omega)
    rw [List.length_append, List.length_singleton] at ih
    rw [putL, ih, putP_mem]
    by_cases hm : memP x.2 d p = true
    · rw [if_pos hm]
      obtain ⟨y, hy, rfl, hp⟩ := (memP_iff _ _ _).1 hm
      have hn := h5 y hy p hp
      constructor
      · intro e; have := Option.some.inj e; omega
      · intro e; rw [hn] at e; simp at e
    · rw [if_neg hm]

theorem putL_at (N : Nat) : ∀ (R : List Tp) (ts : List (List UInt8)) (f : Nat → Nat → Option Nat), GoodR N ts f R → (∀ d p v, f d p = some v → v < ts.length) → ∀ j (hj : j < R.length) d p, putL ts.length R f d p = some (ts.length + j) ↔ memP R[j].2 d p = true
  | [], ts, f, _, _, j, hj, d, p => by simp at hj
  | x :: R, ts, f, h, hb, j, hj, d, p => by
    obtain ⟨h1, h2, h3, h4, h5, h6⟩ := h
    cases j with
    | zero =>
      have ho := putL_old N R (ts ++ [x.1]) (putP ts.length x.2 f) d p ts.length h6 (by simp)
      rw [List.length_append, List.length_singleton] at ho
      show putL (ts.length + 1) R (putP ts.length x.2 f) d p = some ts.length ↔ memP x.2 d p = true
      rw [ho, putP_mem]
      by_cases hm : memP x.2 d p = true
      · rw [if_pos hm]; simp [hm]
      · rw [if_neg hm]
        constructor
        · intro e; have := hb d p _ e; omega
        · intro e; exact absurd e hm
    | succ j =>
      have ih := putL_at N R (ts ++ [x.1]) (putP ts.length x.2 f) h6 (by
        intro d p v e
        rw [putP_mem] at e
        rw [List.length_append, List.length_singleton]
        split at e
        · have := Option.some.inj e; omega
        · have := hb d p v e; omega) j (by simpa using hj) d p
      rw [List.length_append, List.length_singleton] at ih
      rw [putL, show ts.length + (j + 1) = ts.length + 1 + j by omega, ih]
      simp

def Bnd (N : Nat) (f : Nat → Nat → Option Nat) (k : Nat) : Prop := ∀ d p v, f d p = some v → v < k ∧ d < N ∧ p < 60
theorem okP_pl (N : Nat) : ∀ (P : List Po) (least : Nat), OkP N least P → ∀ y ∈ P, (∀ p ∈ y.2, p ≤ 59) ∧ 1 ≤ y.2.length ∧ Rs 0 y.2
  | [], _, _, y, hy => by simp at hy
  | x :: r, least, h, y, hy => by
    rcases List.mem_cons.1 hy with rfl | hy
    · exact ⟨h.2.2.2.2.2.1, h.2.2.1, h.2.2.2.2.1⟩
    · exact okP_pl N r (x.1 + 1) h.2.2.2.2.2.2 y hy
theorem putP_bnd (N k : Nat) (P : List Po) (f : Nat → Nat → Option Nat) (h : OkP N 0 P) (hb : Bnd N f k) : Bnd N (putP k P f) (k + 1) := by
  intro d p v e
  rw [putP_mem] at e
  split at e
  · rename_i hm
    obtain ⟨y, hy, rfl, hp⟩ := (memP_iff _ _ _).1 hm
    have h1 := (okP_ge N P 0 h y hy).2
    have h2 := (okP_pl N P 0 h y hy).1 p hp
    have := Option.some.inj e
    omega
  · have := hb d p v e; omega
theorem putL_bnd (N : Nat) : ∀ (R : List Tp) (ts : List (List UInt8)) (f : Nat → Nat → Option Nat), GoodR N ts f R → Bnd N f ts.length → Bnd N (putL ts.length R f) (ts.length + R.length)
  | [], ts, f, _, hb => hb
  | x :: R, ts, f, h, hb => by
    obtain ⟨h1, h2, h3, h4, h5, h6⟩ := h
    have ih := putL_bnd N R (ts ++ [x.1]) (putP ts.length x.2 f) h6 (by
      rw [List.length_append, List.length_singleton]; exact putP_bnd N _ _ _ h3 hb)
    rw [List.length_append, List.length_singleton] at ih
    rw [putL, List.length_cons, show ts.length + (R.length + 1) = ts.length + 1 + R.length by omega]
    exact ih

/- How many places are set. -/
def inner (f : Nat → Nat → Option Nat) (d : Nat) : Nat := sumK (fun p => if (f d p).isSome then 1 else 0) 0 60
def tot (f : Nat → Nat → Option Nat) (N : Nat) : Nat := sumK (inner f) 0 N
theorem inner_putAt (f : Nat → Nat → Option Nat) (doc p t d : Nat) (hp : p < 60) (hf : f doc p = none) : inner (putAt f doc p t) d = inner f d + if d = doc then 1 else 0 := by
  unfold inner
  by_cases e : d = doc
  · subst e
    have e2 : (fun p' => if (putAt f d p t d p').isSome then 1 else 0) = fun p' => (if (f d p').isSome then 1 else 0) + if p' = p then 1 else 0 := by
      funext p'
      by_cases h : p' = p
      · subst h; simp [putAt, hf]
      · simp [putAt, h]
    rw [e2, sumK_add, sumK_hit 60 0 p (by omega) (by omega), if_pos rfl]
  · have e2 : (fun p' => if (putAt f doc p t d p').isSome then 1 else 0) = fun p' => (if (f d p').isSome then 1 else 0) := by
      funext p'
      simp [putAt, e]
    rw [e2, if_neg e, Nat.add_zero]
theorem tot_putAt (f : Nat → Nat → Option Nat) (doc p t N : Nat) (hp : p < 60) (hd : doc < N) (hf : f doc p = none) : tot (putAt f doc p t) N = tot f N + 1 := by
  unfold tot
  have e : inner (putAt f doc p t) = fun d => inner f d + if d = doc then 1 else 0 := by
    funext d; exact inner_putAt f doc p t d hp hf
  rw [e, sumK_add, sumK_hit N 0 doc (by omega) (by omega)]
theorem putAll_cons (f : Nat → Nat → Option Nat) (doc p tix : Nat) (r : List Nat) : putAll f doc (p :: r) tix = putAll (putAt f doc p tix) doc r tix := by
  funext d' p'
  unfold putAll putAt
  by_cases h1 : d' = doc
  · subst h1
    by_cases h2 : p' = p
    · subst h2; simp
    · simp [h2]
  · simp [h1]
theorem tot_putAll (doc t N : Nat) (hd : doc < N) : ∀ (ps : List Nat) (f : Nat → Nat → Option Nat), ps.Nodup → (∀ p ∈ ps, p ≤ 59) → (∀ p ∈ ps, f doc p = none) → tot (putAll f doc ps t) N = tot f N + ps.length
  | [], f, _, _, _ => by
    have e : putAll f doc [] t = f := by funext d p; simp [putAll]
    rw [e]; rfl
  | p :: r, f, hn, hp, hf => by
    have hnr := List.nodup_cons.1 hn
    rw [putAll_cons, tot_putAll doc t N hd r (putAt f doc p t) hnr.2 (fun q hq => hp q (by simp [hq])) (fun q hq => by
      have hne : q ≠ p := fun e => hnr.1 (e ▸ hq)
      simp [putAt, hne]; exact hf q (by simp [hq])), tot_putAt f doc p t N (by have := hp p (by simp); omega) hd (hf p (by simp))]
    simp; omega
theorem tot_putP (t N : Nat) : ∀ (P : List Po) (least : Nat) (f : Nat → Nat → Option Nat), OkP N least P → (∀ x ∈ P, ∀ p ∈ x.2, f x.1 p = none) → tot (putP t P f) N = tot f N + cntP P
  | [], _, f, _, _ => rfl
  | x :: P, least, f, h, hf => by
    obtain ⟨h1, h2, h3, h4, h5, h6, h7⟩ := h
    rw [putP, tot_putP t N P (x.1 + 1) _ h7 (by
      intro y hy p hp
      have hge := (okP_ge N P (x.1 + 1) h7 y hy).1
      unfold putAll
      rw [if_neg (by omega)]
      exact hf y (by simp [hy]) p hp), tot_putAll x.1 t N h2 x.2 f (rs_nodup x.2 0 h5) h6 (hf x (by simp))]
    simp [cntP, Nat.add_assoc]
theorem tot_putL (N : Nat) : ∀ (R : List Tp) (ts : List (List UInt8)) (f : Nat → Nat → Option Nat), GoodR N ts f R → tot (putL ts.length R f) N = tot f N + cntL R
  | [], ts, f, _ => rfl
  | x :: R, ts, f, h => by
    obtain ⟨h1, h2, h3, h4, h5, h6⟩ := h
    have ih := tot_putL N R (ts ++ [x.1]) (putP ts.length x.2 f) h6
    rw [List.length_append, List.length_singleton] at ih
    rw [putL, ih, tot_putP ts.length N x.2 0 f h3 h5]
    simp [cntL, Nat.add_assoc]
theorem tot_no (N : Nat) : tot no N = 0 := by
  unfold tot
  exact sumK_zero 0 N _ (fun d _ _ => sumK_zero 0 60 _ (fun p _ _ => by simp [no]))
theorem sumK_le (g : Nat → Nat) (b : Nat) (h : ∀ t, g t ≤ b) : ∀ k n, sumK g k n ≤ b * n
  | k, 0 => by simp [sumK]
  | k, n + 1 => by
    have := sumK_le g b h (k + 1) n
    have h2 := h k
    simp only [sumK]; rw [Nat.mul_succ]; omega
theorem inner_le (f : Nat → Nat → Option Nat) (d : Nat) : inner f d ≤ 60 := by
  have := sumK_le (fun p => if (f d p).isSome then 1 else 0) 1 (fun t => by split <;> omega) 0 60
  unfold inner; omega
theorem tot_le (f : Nat → Nat → Option Nat) (N : Nat) : tot f N ≤ 60 * N := sumK_le _ 60 (inner_le f) 0 N

/- The rows. -/
def rowF (f : Nat → Nat → Option Nat) (d : Nat) : Nat → Nat → List Nat
  | 0, _ => []
  | fuel + 1, p => match f d p with
    | some v => v :: rowF f d fuel (p + 1)
    | none => []
theorem rowF_len (f : Nat → Nat → Option Nat) (d : Nat) : ∀ fuel p, (rowF f d fuel p).length ≤ fuel
  | 0, p => by simp [rowF]
  | fuel + 1, p => by
    unfold rowF
    split
    · have := rowF_len f d fuel (p + 1); simp; omega
    · simp
theorem rowF_get (f : Nat → Nat → Option Nat) (d : Nat) : ∀ fuel p i (hi : i < (rowF f d fuel p).length), f d (p + i) = some (rowF f d fuel p)[i]
  | 0, p, i, hi => by simp [rowF] at hi
  | fuel + 1, p, i, hi => by
    cases hf : f d p with
    | none =>
      have e : rowF f d (fuel + 1) p = [] := by simp [rowF, hf]
      simp [e] at hi
    | some v =>
      have e : rowF f d (fuel + 1) p = v :: rowF f d fuel (p + 1) := by simp [rowF, hf]
      simp only [e] at hi ⊢
      cases i with
      | zero => simpa using hf
      | succ i =>
        have := rowF_get f d fuel (p + 1) i (by simpa using hi)
        rw [show p + (i + 1) = p + 1 + i by omega, this]
        simp
theorem rowF_stop (f : Nat → Nat → Option Nat) (d : Nat) : ∀ fuel p, (rowF f d fuel p).length < fuel → f d (p + (rowF f d fuel p).length) = none
  | 0, p, h => by omega
  | fuel + 1, p, h => by
    cases hf : f d p with
    | none =>
      have e : rowF f d (fuel + 1) p = [] := by simp [rowF, hf]
      rw [e]; simpa using hf
    | some v =>
      have e : rowF f d (fuel + 1) p = v :: rowF f d fuel (p + 1) := by simp [rowF, hf]
      rw [e] at h ⊢
      have := rowF_stop f d fuel (p + 1) (by simpa using h)
      rw [List.length_cons, show p + ((rowF f d fuel (p + 1)).length + 1) = p + 1 + (rowF f d fuel (p + 1)).length by omega]
      exact this

def rowsF (f : Nat → Nat → Option Nat) (N : Nat) : List (List Nat) := (List.range N).map fun d => rowF f d 60 0
theorem rowsF_len (f : Nat → Nat → Option Nat) (N : Nat) : (rowsF f N).length = N := by simp [rowsF]
theorem rowsF_at (f : Nat → Nat → Option Nat) (N d : Nat) (h : d < (rowsF f N).length) : (rowsF f N)[d] = rowF f d 60 0 := by simp [rowsF]
theorem rowsF_getD (f : Nat → Nat → Option Nat) (N d : Nat) (h : d < N) : (rowsF f N).getD d [] = rowF f d 60 0 := by
  rw [getD_at _ _ (by rw [rowsF_len]; exact h), rowsF_at]

theorem rowsF_are (f : Nat → Nat → Option Nat) (N nt : Nat) (hb : Bnd N f nt) : RowsAre f (rowsF f N) nt where
  at' d hd i hi := by
    have := rowF_get f d 60 0 i (by rw [rowsF_at] at hi; exact hi)
    rw [Nat.zero_add] at this
    rw [this]
    simp only [rowsF_at]
  stop d hd := by
    rw [rowsF_at]
    have hl := rowF_len f d 60 0
    by_cases h : (rowF f d 60 0).length < 60
    · have := rowF_stop f d 60 0 h
      rwa [Nat.zero_add] at this
    · cases hf : f d (rowF f d 60 0).length with
      | none => rfl
      | some v => have := (hb _ _ _ hf).2.2; omega
  small d hd := by
    rw [rowsF_at]
    have hl := rowF_len f d 60 0
    omega
  lt d hd x hx := by
    rw [rowsF_at] at hx
    obtain ⟨i, hi, rfl⟩ := List.getElem_of_mem hx
    exact (hb _ _ _ (rowF_get f d 60 0 i hi)).1

theorem sumK_split (g : Nat → Nat) : ∀ (n k m : Nat), sumK g k (n + m) = sumK g k n + sumK g (k + n) m
  | 0, k, m => by simp [sumK]
  | n + 1, k, m => by
    rw [show n + 1 + m = (n + m) + 1 by omega, sumK, sumK_split g n (k + 1) m, sumK, show k + 1 + n = k + (n + 1) by omega, Nat.add_assoc]
theorem sumK_ones (g : Nat → Nat) : ∀ (n k : Nat), (∀ t, k ≤ t → t < k + n → g t = 1) → sumK g k n = n
  | 0, _, _ => rfl
  | n + 1, k, h => by
    rw [sumK, h k (Nat.le_refl _) (by omega), sumK_ones g n (k + 1) (fun t h1 h2 => h t (by omega) (by omega))]
    omega
theorem sumK_eq (a b : Nat → Nat) : ∀ (n k : Nat), (∀ t, k ≤ t → t < k + n → a t ≤ b t) → sumK b k n ≤ sumK a k n → ∀ t, k ≤ t → t < k + n → b t = a t
  | 0, k, _, _, t, h1, h2 => by omega
  | n + 1, k, h, he, t, h1, h2 => by
    have hk := h k (Nat.le_refl _) (by omega)
    have hmono : sumK a (k + 1) n ≤ sumK b (k + 1) n := by
      have := sumK_mono a b n (k + 1) (fun t h1 h2 => h t (by omega) (by omega))
      exact this
    simp only [sumK] at he
    by_cases e : t = k
    · subst e; omega
    · exact sumK_eq a b n (k + 1) (fun t h1 h2 => h t (by omega) (by omega)) (by omega) t (by omega) (by omega)
where
  sumK_mono (a b : Nat → Nat) : ∀ (n k : Nat), (∀ t, k ≤ t → t < k + n → a t ≤ b t) → sumK a k n ≤ sumK b k n
    | 0, k, _ => by simp [sumK]
    | n + 1, k, h => by
      have := sumK_mono a b n (k + 1) (fun t h1 h2 => h t (by omega) (by omega))
      have := h k (Nat.le_refl _) (by omega)
      simp only [sumK]; omega
theorem sumK_none (g : Nat → Nat) : ∀ (n k : Nat), sumK g k n = 0 → ∀ t, k ≤ t → t < k + n → g t = 0
  | 0, k, _, t, h1, h2 => by omega
  | n + 1, k, h, t, h1, h2 => by
    simp only [sumK] at h
    by_cases e : t = k
    · subst e; omega
    · exact sumK_none g n (k + 1) (by omega) t (by omega) (by omega)

theorem inner_row (f : Nat → Nat → Option Nat) (d : Nat) : inner f d = (rowF f d 60 0).length + sumK (fun p => if (f d p).isSome then 1 else 0) (rowF f d 60 0).length (60 - (rowF f d 60 0).length) := by
  have hl := rowF_len f d 60 0
  unfold inner
  have e : (60 : Nat) = (rowF f d 60 0).length + (60 - (rowF f d 60 0).length) := by omega
  conv => lhs; rw [e]
  rw [sumK_split, Nat.zero_add, sumK_ones]
  intro t _ h2
  have := rowF_get f d 60 0 t (by omega)
  rw [Nat.zero_add] at this
  simp [this]

/-- Where the rows hold all that there is, nothing stands beyond them. -/
theorem rows_all (f : Nat → Nat → Option Nat) (N nt : Nat) (hb : Bnd N f nt) (h : tot f N ≤ sumK (fun d => (rowF f d 60 0).length) 0 N) : ∀ d p v, f d p = some v ↔ d < N ∧ p < (rowF f d 60 0).length ∧ (rowF f d 60 0).getD p 0 = v := by
  have hle : ∀ d, (rowF f d 60 0).length ≤ inner f d := fun d => by rw [inner_row]; omega
  have heq := sumK_eq (fun d => (rowF f d 60 0).length) (inner f) N 0 (fun t _ _ => hle t) h
  intro d p v
  constructor
  · intro e
    obtain ⟨h1, h2, h3⟩ := hb d p v e
    have h4 := heq d (Nat.zero_le _) (by omega)
    rw [inner_row] at h4
    have h5 : sumK (fun p => if (f d p).isSome then 1 else 0) (rowF f d 60 0).length (60 - (rowF f d 60 0).length) = 0 := by omega
    have hp : p < (rowF f d 60 0).length := by
      rcases Nat.lt_or_ge p (rowF f d 60 0).length with h6 | h6
      · exact h6
      · have := sumK_none _ _ _ h5 p h6 (by omega)
        simp [e] at this
    refine ⟨h2, hp, ?_⟩
    have := rowF_get f d 60 0 p hp
    rw [Nat.zero_add, e] at this
    rw [getD_at _ _ hp]
    exact (Option.some.inj this).symm
  · rintro ⟨h1, h2, h3⟩
    have := rowF_get f d 60 0 p h2
    rw [Nat.zero_add] at this
    rw [this, ← h3, getD_at _ _ h2]

/- Lists in order are told by what they hold. -/
theorem rs_ext : ∀ (xs ys : List Nat) (a : Nat), Rs a xs → Rs a ys → (∀ x, x ∈ xs ↔ x ∈ ys) → xs = ys
  | [], [], _, _, _, _ => rfl
  | [], y :: ys, _, _, _, h => by have := (h y).2 (by simp); simp at this
  | x :: xs, [], _, _, _, h => by have := (h x).1 (by simp); simp at this
  | x :: xs, y :: ys, a, hx, hy, h => by
    have h1 : y ≤ x := by
      rcases List.mem_cons.1 ((h x).1 (by simp)) with e | e
      · omega
      · have := rs_ge ys (y + 1) hy.2 x e; omega
    have h2 : x ≤ y := by
      rcases List.mem_cons.1 ((h y).2 (by simp)) with e | e
      · omega
      · have := rs_ge xs (x + 1) hx.2 y e; omega
    have e : x = y := by omega
    subst e
    rw [rs_ext xs ys (x + 1) hx.2 hy.2 (fun z => ?_)]
    constructor
    · intro hz
      have hge := rs_ge xs (x + 1) hx.2 z hz
      rcases List.mem_cons.1 ((h z).1 (by simp [hz])) with e | e
      · omega
      · exact e
    · intro hz
      have hge := rs_ge ys (x + 1) hy.2 z hz
      rcases List.mem_cons.1 ((h z).2 (by simp [hz])) with e | e
      · omega
      · exact e

theorem okP_ext (N : Nat) : ∀ (P Q : List Po) (a : Nat), OkP N a P → OkP N a Q → (∀ d p, memP P d p = true ↔ memP Q d p = true) → P = Q
  | [], [], _, _, _, _ => rfl
  | [], y :: Q, a, _, hQ, h => by
    obtain ⟨p, hp⟩ : ∃ p, p ∈ y.2 := List.exists_mem_of_length_pos (by have := hQ.2.2.1; omega)
    have := (h y.1 p).2 ((memP_iff _ _ _).2 ⟨y, by simp, rfl, hp⟩)
    simp [memP] at this
  | x :: P, [], a, hP, _, h => by
    obtain ⟨p, hp⟩ : ∃ p, p ∈ x.2 := List.exists_mem_of_length_pos (by have := hP.2.2.1; omega)
    have := (h x.1 p).1 ((memP_iff _ _ _).2 ⟨x, by simp, rfl, hp⟩)
    simp [memP] at this
  | x :: P, y :: Q, a, hP, hQ, h => by
    have gP := okP_ge N P (x.1 + 1) hP.2.2.2.2.2.2
    have gQ := okP_ge N Q (y.1 + 1) hQ.2.2.2.2.2.2
    have h1 : y.1 ≤ x.1 := by
      obtain ⟨p, hp⟩ : ∃ p, p ∈ x.2 := List.exists_mem_of_length_pos (by have := hP.2.2.1; omega)
      obtain ⟨z, hz, hz1, hz2⟩ := (memP_iff _ _ _).1 ((h x.1 p).1 ((memP_iff _ _ _).2 ⟨x, by simp, rfl, hp⟩))
      rcases List.mem_cons.1 hz with rfl | hz
      · omega
      · have := (gQ z hz).1; omega
    have h2 : x.1 ≤ y.1 := by
      obtain ⟨p, hp⟩ : ∃ p, p ∈ y.2 := List.exists_mem_of_length_pos (by have := hQ.2.2.1; omega)
      obtain ⟨z, hz, hz1, hz2⟩ := (memP_iff _ _ _).1 ((h y.1 p).2 ((memP_iff _ _ _).2 ⟨y, by simp, rfl, hp⟩))
      rcases List.mem_cons.1 hz with rfl | hz
      · omega
      · have := (gP z hz).1; omega
    have e1 : x.1 = y.1 := by omega
    have inP : ∀ p, memP (x :: P) x.1 p = true ↔ p ∈ x.2 := by
      intro p
      rw [memP_iff]
      constructor
      · rintro ⟨z, hz, hz1, hz2⟩
        rcases List.mem_cons.1 hz with rfl | hz
        · exact hz2
        · have := (gP z hz).1; omega
      · intro hp; exact ⟨x, by simp, rfl, hp⟩
    have inQ : ∀ p, memP (y :: Q) y.1 p = true ↔ p ∈ y.2 := by
      intro p
      rw [memP_iff]
      constructor
      · rintro ⟨z, hz, hz1, hz2⟩
        rcases List.mem_cons.1 hz with rfl | hz
        · exact hz2
        · have := (gQ z hz).1; omega
      · intro hp; exact ⟨y, by simp, rfl, hp⟩
    have e2 : x.2 = y.2 := rs_ext x.2 y.2 0 hP.2.2.2.2.1 hQ.2.2.2.2.1 (fun p => by rw [← inP, h, e1, inQ])
    have e : x = y := Prod.ext e1 e2
    subst e
    rw [okP_ext N P Q (x.1 + 1) hP.2.2.2.2.2.2 hQ.2.2.2.2.2.2 (fun d p => ?_)]
    by_cases hd : d = x.1
    · subst hd
      constructor
      · intro hm
        obtain ⟨z, hz, hz1, _⟩ := (memP_iff _ _ _).1 hm
        have := (gP z hz).1; omega
      · intro hm
        obtain ⟨z, hz, hz1, _⟩ := (memP_iff _ _ _).1 hm
        have := (gQ z hz).1; omega
    · have a1 : memP (x :: P) d p = memP P d p := by
        unfold memP; rw [List.any_cons]; simp [Ne.symm hd]
      have a2 : memP (x :: Q) d p = memP Q d p := by
        unfold memP; rw [List.any_cons]; simp [Ne.symm hd]
      rw [← a1, ← a2]; exact h d p

theorem memP_post (rows : List (List Nat)) (k N d p : Nat) : memP (postD rows k N) d p = true ↔ d < N ∧ p < (rows.getD d []).length ∧ (rows.getD d []).getD p 0 = k := by
  rw [memP_iff]
  constructor
  · rintro ⟨y, hy, rfl, hp⟩
    obtain ⟨h1, h2⟩ := postD_mem rows k N y hy
    rw [h2] at hp
    have := (plc_mem _ _ _ p).1 hp
    exact ⟨h1, this.1, this.2.symm⟩
  · rintro ⟨h1, h2, h3⟩
    have hm : p ∈ plc (rows.getD d []) k (rows.getD d []).length := (plc_mem _ _ _ p).2 ⟨h2, h3.symm⟩
    exact ⟨_, postD_has rows k N d h1 (List.ne_nil_of_mem hm), rfl, hm⟩

theorem terms_eq (PF : Nat → List Po) : ∀ (R : List Tp) (k : Nat), (∀ j (hj : j < R.length), R[j].2 = PF (k + j)) → termsL R = termsB PF k (R.map Prod.fst)
  | [], k, _ => rfl
  | x :: R, k, h => by
    have h0 := h 0 (by simp)
    simp only [List.getElem_cons_zero, Nat.add_zero] at h0
    rw [termsL, List.map_cons, termsB, h0, terms_eq PF R (k + 1) (fun j hj => by
      have := h (j + 1) (by simpa using hj)
      rw [List.getElem_cons_succ] at this
      rw [this]; congr 1; omega)]

theorem good_pw (N : Nat) : ∀ (R : List Tp) (ts : List (List UInt8)) (f : Nat → Nat → Option Nat), GoodR N ts f R → ts.Pairwise (· < ·) → (ts ++ R.map Prod.fst).Pairwise (· < ·)
  | [], ts, f, _, hp => by simpa using hp
  | x :: R, ts, f, h, hp => by
    obtain ⟨h1, h2, h3, h4, h5, h6⟩ := h
    have ih := good_pw N R (ts ++ [x.1]) _ h6 (by
      refine List.pairwise_append.2 ⟨hp, List.pairwise_singleton _ _, ?_⟩
      intro a ha b hb
      rw [List.mem_singleton] at hb
      subst hb
      have hl : 0 < ts.length := List.length_pos_of_mem ha
      unfold isNextF at h2
      simp only [Bool.or_eq_true, decide_eq_true_eq] at h2
      rcases h2 with h2 | h2
      · omega
      · rw [getD_at _ _ (by omega)] at h2
        obtain ⟨i, hi, rfl⟩ := List.getElem_of_mem ha
        by_cases e : i = ts.length - 1
        · subst e; exact h2
        · exact List.lt_trans (List.pairwise_iff_getElem.1 hp i (ts.length - 1) hi (by omega) (by omega)) h2)
    simpa using ih
theorem good_word (N : Nat) : ∀ (R : List Tp) (ts : List (List UInt8)) (f : Nat → Nat → Option Nat), GoodR N ts f R → ∀ x ∈ R, isWord x.1 = true ∧ OkP N 0 x.2 ∧ 1 ≤ x.2.length
  | [], _, _, _, x, hx => by simp at hx
  | y :: R, ts, f, h, x, hx => by
    rcases List.mem_cons.1 hx with rfl | hx
    · exact ⟨h.1, h.2.2.1, h.2.2.2.1⟩
    · exact good_word N R _ _ h.2.2.2.2.2 x hx

theorem pw_ext (xs ys : List (List UInt8)) (hx : xs.Pairwise (· < ·)) (hy : ys.Pairwise (· < ·)) (h : ∀ z, z ∈ xs ↔ z ∈ ys) : xs = ys := by
  have ne : ∀ {a b : List UInt8}, a < b → a ≠ b := fun {a b} h e => by subst e; exact List.lt_irrefl _ h
  have nx : xs.Nodup := List.Pairwise.imp ne hx
  have ny : ys.Nodup := List.Pairwise.imp ne hy
  have hp : xs.Perm ys := (List.perm_ext_iff_of_nodup nx ny).2 h
  exact List.Perm.eq_of_pairwise (le := fun a b : List UInt8 => a < b) (fun a b _ _ h1 h2 => absurd h2 (List.lt_asymm h1)) hx hy hp

theorem may_inv : ∀ (T : List Tx) (c : Int), mayB T c = true → (∀ t ∈ T, lenF t.2 ≤ 120) ∧ c = (sumW T : Nat)
  | [], c, h => by simp [mayB] at h; simp [sumW, h]
  | t :: r, c, h => by
    rw [mayB] at h
    split at h
    · simp at h
    · rename_i hl
      obtain ⟨h1, h2⟩ := may_inv r _ h
      refine ⟨fun x hx => ?_, by rw [sumW]; omega⟩
      rcases List.mem_cons.1 hx with rfl | hx
      · omega
      · exact h1 x hx
end Go.Proofs.YtpdoacfiiledcaaGreatDoor.Pak

set_option linter.unusedVariables false
set_option maxRecDepth 4000
namespace Go.Proofs.YtpdoacfiiledcaaGreatDoor.Pak
open Go.RowKit Go.Proofs.YtpdoacfiiledcaaGreatDoor Go.Proofs.YtpdoacfiiledcaaGreatDoor.Spl SiftM

theorem unseal_inv (l b : List UInt8) (h : unsealF l = some b) : l = b ++ sumB b := by
  unfold unsealF at h
  split at h
  · simp at h
  · split at h
    · rename_i h1 h2
      have e := Option.some.inj h
      subst e
      rw [h2, List.take_append_drop]
    · simp at h

theorem sum_range (g : Nat → Nat) : ∀ N, ((List.range N).map g).sum = sumK g 0 N
  | 0 => rfl
  | N + 1 => by
    rw [List.range_succ, List.map_append, List.sum_append, sum_range g N, sumK_split g N 0 1]
    simp [sumK]
theorem sumW_zip (g : List Nat → List (List UInt8)) (hg : ∀ r, (g r).length = r.length) : ∀ (ids : List Nat) (rows : List (List Nat)), rows.length = ids.length → sumW (ids.zip (rows.map g)) = (rows.map List.length).sum
  | [], [], _ => rfl
  | [], r :: rows, h => by simp at h
  | i :: ids, [], h => by simp at h
  | i :: ids, r :: rows, h => by
    have ih := sumW_zip g hg ids rows (by simpa using h)
    simp only [List.map_cons, List.zip_cons_cons, sumW, List.sum_cons]
    rw [ih, hg]
theorem sumL_le : ∀ (l : List (List UInt8)), (∀ x ∈ l, x.length ≤ 8) → sumL l ≤ 8 * l.length
  | [], _ => by simp [sumL]
  | x :: r, h => by
    have := sumL_le r (fun y hy => h y (by simp [hy]))
    have := h x (by simp)
    simp [sumL]; omega
theorem zip_fst {β : Type} : ∀ (ids : List Nat) (ys : List β), ys.length = ids.length → (ids.zip ys).map Prod.fst = ids
  | [], [], _ => rfl
  | [], y :: ys, h => by simp at h
  | i :: ids, [], h => by simp at h
  | i :: ids, y :: ys, h => by simp [zip_fst ids ys (by simpa using h)]
theorem zip_snd {β : Type} : ∀ (ids : List Nat) (ys : List β), ys.length = ids.length → (ids.zip ys).map Prod.snd = ys
  | [], [], _ => rfl
  | [], y :: ys, h => by simp at h
  | i :: ids, [], h => by simp at h
  | i :: ids, y :: ys, h => by simp [zip_snd ids ys (by simpa using h)]

/-- A table that is read whole: its rows; and if all the rest is right, the bytes are the file of what is read. -/
theorem accept_inv (l : List UInt8) (h : (tableF (unsealF l)).2.2.2.2 = some []) :
    ∃ ids terms c f rows, tableF (unsealF l) = (ids, terms, c, f, some []) ∧ RowsAre f rows terms.length ∧ rows.length = ids.length ∧ ids.length ≤ 60 ∧ terms.length ≤ 3600 ∧ c ≤ 3600 ∧ (∀ r ∈ rows, (wordsOf terms r).length ≤ 60 ∧ sumL (wordsOf terms r) ≤ 480) ∧
      (mayB (ids.zip (rows.map (wordsOf terms))) c = true → Fine (ids.zip (rows.map (wordsOf terms))) ∧ l = fileT (ids.zip (rows.map (wordsOf terms)))) := by
  obtain ⟨ids, R, h1, h2, h3, h4, h5, h6, h7⟩ := table_inv _ h
  have hl := unseal_inv l _ h1
  have hb : Bnd ids.length (putL 0 R no) R.length := by
    have := putL_bnd ids.length R [] no h6 (by intro d p v e; simp [no] at e)
    simpa using this
  have ht : cntL R = tot (putL 0 R no) ids.length := by
    have := tot_putL ids.length R [] no h6
    rw [tot_no, Nat.zero_add] at this
    exact this.symm
  have hat : ∀ j (hj : j < R.length) d p, putL 0 R no d p = some j ↔ memP R[j].2 d p = true := by
    intro j hj d p
    have := putL_at ids.length R [] no h6 (by intro d p v e; simp [no] at e) j hj d p
    simpa using this
  have hpw : (R.map Prod.fst).Pairwise (· < ·) := by
    have := good_pw ids.length R [] no h6 List.Pairwise.nil
    simpa using this
  have hgw := good_word ids.length R [] no h6
  obtain ⟨f, hf⟩ : ∃ f, putL 0 R no = f := ⟨_, rfl⟩
  rw [hf] at hb ht hat h7
  have hrl := rowsF_len f ids.length
  have hra := rowsF_are f ids.length R.length hb
  have htl : (R.map Prod.fst).length = R.length := by simp
  have htw : ∀ x ∈ R.map Prod.fst, isWord x = true := by
    intro x hx
    obtain ⟨y, hy, rfl⟩ := List.mem_map.1 hx
    exact (hgw y hy).1
  have hwl : ∀ r, (wordsOf (R.map Prod.fst) r).length = r.length := by intro r; simp [wordsOf]
  have hrs : ∀ r ∈ rowsF f ids.length, r.length ≤ 60 := by
    intro r hr
    obtain ⟨d, _, rfl⟩ := List.mem_map.1 hr
    exact rowF_len f d 60 0
  have hww : ∀ r ∈ rowsF f ids.length, ∀ x ∈ wordsOf (R.map Prod.fst) r, x ∈ R.map Prod.fst := by
    intro r hr x hx
    obtain ⟨i, hi, rfl⟩ := List.mem_map.1 hx
    obtain ⟨d, hd, rfl⟩ := List.getElem_of_mem hr
    have := hra.lt d hd i hi
    rw [getD_at _ _ (by rw [htl]; exact this)]
    exact List.getElem_mem _
  refine ⟨ids, R.map Prod.fst, cntL R, f, rowsF f ids.length, h7, by rw [htl]; exact hra, hrl, h2, by rw [htl]; exact h3, ?_, ?_, ?_⟩
  · have := tot_le f ids.length
    omega
  · intro r hr
    have a1 := hrs r hr
    have a2 := hwl r
    have a3 := sumL_le (wordsOf (R.map Prod.fst) r) (fun x hx => word_len x (htw x (hww r hr x hx)))
    omega
  · intro hm
    obtain ⟨m1, m2⟩ := may_inv _ _ hm
    have m3 : cntL R = sumW (ids.zip ((rowsF f ids.length).map (wordsOf (R.map Prod.fst)))) := by omega
    rw [sumW_zip _ hwl ids _ hrl] at m3
    have m4 : ((rowsF f ids.length).map List.length).sum = sumK (fun d => (rowF f d 60 0).length) 0 ids.length := by
      unfold rowsF
      rw [List.map_map, ← sum_range]
      rfl
    rw [m4, ht] at m3
    have hall := rows_all f ids.length R.length hb (by omega)
    have hpost : ∀ j (hj : j < R.length), R[j].2 = postD (rowsF f ids.length) (0 + j) (rowsF f ids.length).length := by
      intro j hj
      rw [hrl, Nat.zero_add]
      refine okP_ext ids.length _ _ 0 (hgw _ (List.getElem_mem hj)).2.1 (postD_ok (rowsF f ids.length) j ids.length hrs ids.length (Nat.le_refl _)) ?_
      intro d p
      rw [← hat j hj, hall, memP_post]
      constructor
      · rintro ⟨a1, a2, a3⟩
        rw [rowsF_getD f ids.length d a1]
        exact ⟨a1, a2, a3⟩
      · rintro ⟨a1, a2, a3⟩
        rw [rowsF_getD f ids.length d a1] at a2 a3
        exact ⟨a1, a2, a3⟩
    have hte := terms_eq (fun t => postD (rowsF f ids.length) t (rowsF f ids.length).length) R 0 hpost
    obtain ⟨T, hT⟩ : ∃ T, ids.zip ((rowsF f ids.length).map (wordsOf (R.map Prod.fst))) = T := ⟨_, rfl⟩
    have hTf : T.map Prod.fst = ids := by rw [← hT]; exact zip_fst ids _ (by simp [hrl])
    have hTs : T.map Prod.snd = (rowsF f ids.length).map (wordsOf (R.map Prod.fst)) := by rw [← hT]; exact zip_snd ids _ (by simp [hrl])
    have hTm : ∀ t ∈ T, ∃ r ∈ rowsF f ids.length, t.2 = wordsOf (R.map Prod.fst) r := by
      intro t ht'
      have : t.2 ∈ T.map Prod.snd := List.mem_map.2 ⟨t, ht', rfl⟩
      rw [hTs] at this
      obtain ⟨r, hr, e⟩ := List.mem_map.1 this
      exact ⟨r, hr, e.symm⟩
    have hterms : termsOf T = R.map Prod.fst := by
      refine pw_ext _ _ (terms_pw T) hpw (fun z => ?_)
      rw [terms_mem, allW_iff]
      constructor
      · rintro ⟨t, ht', hz⟩
        obtain ⟨r, hr, e⟩ := hTm t ht'
        rw [e] at hz
        exact hww r hr z hz
      · intro hz
        obtain ⟨j, hj, rfl⟩ := List.getElem_of_mem hz
        have hj' : j < R.length := by simpa using hj
        obtain ⟨x, hx⟩ : ∃ x, x ∈ R[j].2 := List.exists_mem_of_length_pos (hgw _ (List.getElem_mem hj')).2.2
        obtain ⟨p, hp⟩ : ∃ p, p ∈ x.2 := List.exists_mem_of_length_pos (okP_pl ids.length _ 0 (hgw _ (List.getElem_mem hj')).2.1 x hx).2.1
        have hm' : memP R[j].2 x.1 p = true := (memP_iff _ _ _).2 ⟨x, hx, rfl, hp⟩
        have hfv := (hat j hj' x.1 p).2 hm'
        obtain ⟨b1, b2, b3⟩ := (hall x.1 p j).1 hfv
        have hd : x.1 < (rowsF f ids.length).length := by rw [hrl]; exact b1
        have hdz : x.1 < (T.map Prod.snd).length := by rw [hTs]; simp [hrl]; exact b1
        have hmem : (T.map Prod.snd)[x.1] ∈ T.map Prod.snd := List.getElem_mem hdz
        obtain ⟨t, ht', e⟩ := List.mem_map.1 hmem
        refine ⟨t, ht', ?_⟩
        rw [e]
        have e2 : (T.map Prod.snd)[x.1] = wordsOf (R.map Prod.fst) (rowF f x.1 60 0) := by
          simp only [hTs, List.getElem_map, rowsF_at]
        rw [e2]
        unfold wordsOf
        refine List.mem_map.2 ⟨j, ?_, ?_⟩
        · rw [getD_at _ _ b2] at b3
          rw [← b3]; exact List.getElem_mem _
        · exact getD_at _ _ hj _
    have hrows : rowsOf T = rowsF f ids.length := by
      have e : rowsOf T = (T.map Prod.snd).map (fun ws => ws.map (bsIx (termsOf T))) := by
        unfold rowsOf; rw [List.map_map]; rfl
      rw [e, hTs, List.map_map]
      conv => rhs; rw [← List.map_id (rowsF f ids.length)]
      apply List.map_congr_left
      intro r hr
      simp only [Function.comp]
      unfold wordsOf
      rw [List.map_map]
      conv => rhs; rw [show id r = r from rfl, ← List.map_id r]
      apply List.map_congr_left
      intro i hi
      obtain ⟨d, hd, rfl⟩ := List.getElem_of_mem hr
      have hi' : i < (R.map Prod.fst).length := by rw [htl]; exact hra.lt d hd i hi
      simp only [Function.comp, id]
      rw [hterms, getD_at _ _ hi', bs_at _ hpw i hi']
    have hbody : bodyT T = 83 :: (numB ids.length ++ (riseB 0 ids ++ (numB R.length ++ termsL R))) := by
      unfold bodyT bodyB
      rw [hTf, hterms, hrows, hte, htl]
    rw [hT] at hm m1 ⊢
    refine ⟨⟨?_, by rw [hTf]; exact h4, ?_, ?_, ?_, ?_⟩, ?_⟩
    · have := congrArg List.length hTf
      rw [List.length_map] at this
      omega
    · intro t ht'
      exact h5 t.1 (by rw [← hTf]; exact List.mem_map.2 ⟨t, ht', rfl⟩)
    · intro t ht'
      obtain ⟨r, hr, e⟩ := hTm t ht'
      rw [e, hwl]; exact hrs r hr
    · intro t ht'
      have a1 := m1 t ht'
      refine ⟨a1, ?_⟩
      unfold lenF at a1; omega
    · intro t ht' x hx
      obtain ⟨r, hr, e⟩ := hTm t ht'
      rw [e] at hx
      exact htw x (hww r hr x hx)
    · unfold fileT
      rw [hbody]; exact hl
end Go.Proofs.YtpdoacfiiledcaaGreatDoor.Pak

set_option linter.unusedVariables false
set_option maxRecDepth 4000
namespace Go.Proofs.YtpdoacfiiledcaaGreatDoor.Pak
open Go.RowKit Go.Proofs.YtpdoacfiiledcaaGreatDoor Go.Proofs.YtpdoacfiiledcaaGreatDoor.Spl SiftM

/- The careless reader: what is left, and whether it has gone wrong. -/
def rnumG : Nat → Nat → Nat → List UInt8 → Bool → Nat × List UInt8 × Bool
  | 0, _, _, l, _ => (0, l, true)
  | _ + 1, _, _, [], _ => (0, [], true)
  | f + 1, i, n, c :: r, b => if c.toNat < 128 then (n + c.toNat % 128 * 128 ^ i, r, b) else rnumG f (i + 1) (n + c.toNat % 128 * 128 ^ i) r b
def rnum (l : List UInt8) (b : Bool) : Nat × List UInt8 × Bool := rnumG 4 0 0 l b
def rtext (n : Nat) (l : List UInt8) (b : Bool) : List UInt8 × List UInt8 × Bool := if l.length < n then ([], l, true) else (l.take n, l.drop n, b)
abbrev Sl := Nat × Nat × List UInt8
abbrev SS := List Sl × List UInt8 × Bool
def rpl (doc : Nat) (w : List UInt8) : Nat → Nat → List Sl → List UInt8 → Bool → SS
  | 0, _, L, l, b => (L, l, b)
  | k + 1, np, L, l, b => if b = true then (L, l, b) else rpl doc w k (np + (rnum l b).1 + 1) (L ++ [(doc, np + (rnum l b).1, w)]) (rnum l b).2.1 (rnum l b).2.2
def rdoc (w : List UInt8) (nd : Nat) (L : List Sl) (l : List UInt8) (b : Bool) : SS :=
  rpl (nd + (rnum l b).1) w (rnum (rnum l b).2.1 (rnum l b).2.2).1 0 L (rnum (rnum l b).2.1 (rnum l b).2.2).2.1 (rnum (rnum l b).2.1 (rnum l b).2.2).2.2
def rdocs (w : List UInt8) : Nat → Nat → List Sl → List UInt8 → Bool → SS
  | 0, _, L, l, b => (L, l, b)
  | k + 1, nd, L, l, b => if b = true then (L, l, b) else rdocs w k (nd + (rnum l b).1 + 1) (rdoc w nd L l b).1 (rdoc w nd L l b).2.1 ((rdoc w nd L l b).2.2 || decide (10000 < (rdoc w nd L l b).1.length))
def rslots (L : List Sl) (l : List UInt8) (b : Bool) : SS :=
  rdocs (rtext (rnum l b).1 (rnum l b).2.1 (rnum l b).2.2).1
    (rnum (rtext (rnum l b).1 (rnum l b).2.1 (rnum l b).2.2).2.1 (rtext (rnum l b).1 (rnum l b).2.1 (rnum l b).2.2).2.2).1 0 L
    (rnum (rtext (rnum l b).1 (rnum l b).2.1 (rnum l b).2.2).2.1 (rtext (rnum l b).1 (rnum l b).2.1 (rnum l b).2.2).2.2).2.1
    (rnum (rtext (rnum l b).1 (rnum l b).2.1 (rnum l b).2.2).2.1 (rtext (rnum l b).1 (rnum l b).2.1 (rnum l b).2.2).2.2).2.2
def rmany : Nat → SS → SS
  | 0, s => s
  | k + 1, s => if s.2.2 = true then s else rmany k (rslots s.1 s.2.1 s.2.2)
def rids : Nat → Nat → List Nat → List UInt8 → Bool → List Nat × List UInt8 × Bool
  | 0, _, ids, l, b => (ids, l, b)
  | k + 1, nx, ids, l, b => if b = true then (ids, l, b) else rids k (nx + (rnum l b).1 + 1) (ids ++ [nx + (rnum l b).1]) (rnum l b).2.1 (rnum l b).2.2
def rwords (L : List Sl) (d : Nat) : Nat → Nat → List (List UInt8)
  | 0, _ => []
  | f + 1, p => match L.find? fun s => decide (s.1 = d) && decide (s.2.1 = p) with
    | some s => s.2.2 :: rwords L d f (p + 1)
    | none => []
/-- The docs of which a file might be. -/
def rguess (f : List UInt8) : Option (List Tx) :=
  let n := rnum (f.drop 1) false
  if 60 < n.1 then none else
  let i := rids n.1 0 [] n.2.1 n.2.2
  let m := rnum i.2.1 i.2.2
  let s := rmany m.1 ([], m.2.1, m.2.2)
  if s.2.2 = true then none else some ((List.range i.1.length).map fun d => (i.1.getD d 0, rwords s.1 d (s.1.length + 1) 0))

theorem rnumG_num : ∀ (f i n m : Nat) (r : List UInt8) (b : Bool), n < 128 ^ (f + 1) → rnumG (f + 1) i m (numG f n ++ r) b = (m + n * 128 ^ i, r, b)
  | 0, i, n, m, r, b, hn => by
    have hn' : n < 128 := by simpa using hn
    have e : (UInt8.ofNat n).toNat = n := by rw [UInt8.toNat_ofNat']; omega
    show (if (UInt8.ofNat n).toNat < 128 then (m + (UInt8.ofNat n).toNat % 128 * 128 ^ i, r, b) else _) = _
    rw [e, if_pos hn', Nat.mod_eq_of_lt hn']
  | f + 1, i, n, m, r, b, hn => by
    by_cases h : n < 128
    · have e : (UInt8.ofNat n).toNat = n := by rw [UInt8.toNat_ofNat']; omega
      rw [numG, if_pos h]
      show (if (UInt8.ofNat n).toNat < 128 then (m + (UInt8.ofNat n).toNat % 128 * 128 ^ i, r, b) else _) = _
      rw [e, if_pos h, Nat.mod_eq_of_lt h]
    · have e : (UInt8.ofNat (n % 128 + 128)).toNat = n % 128 + 128 := by rw [UInt8.toNat_ofNat']; omega
      have hd : n / 128 < 128 ^ (f + 1) := by
        rw [Nat.div_lt_iff_lt_mul (by omega)]
        rw [Nat.pow_succ] at hn; exact hn
      have ih := rnumG_num f (i + 1) (n / 128) (m + n % 128 * 128 ^ i) r b hd
      rw [numG, if_neg h, List.cons_append]
      show (if (UInt8.ofNat (n % 128 + 128)).toNat < 128 then _ else rnumG (f + 1) (i + 1) (m + (UInt8.ofNat (n % 128 + 128)).toNat % 128 * 128 ^ i) (numG f (n / 128) ++ r) b) = _
      rw [e, if_neg (by omega), show (n % 128 + 128) % 128 = n % 128 by omega, ih]
      have : n % 128 * 128 ^ i + n / 128 * 128 ^ (i + 1) = n * 128 ^ i := by
        rw [Nat.pow_succ, Nat.mul_comm (128 ^ i) 128, ← Nat.mul_assoc, ← Nat.add_mul]
        congr 1; omega
      rw [Nat.add_assoc, this]
theorem rnum_num (n : Nat) (r : List UInt8) (b : Bool) (hn : n < 268435456) : rnum (numB n ++ r) b = (n, r, b) := by
  have := rnumG_num 3 0 n 0 r b (by simpa using hn)
  simpa [rnum, numB] using this

theorem rpl_rise (doc : Nat) (w : List UInt8) : ∀ (ps : List Nat) (np : Nat) (L : List Sl) (r : List UInt8), Rs np ps → (∀ p ∈ ps, p < 268435456) →
    rpl doc w ps.length np L (riseB np ps ++ r) false = (L ++ ps.map (fun p => (doc, p, w)), r, false)
  | [], np, L, r, _, _ => by simp [rpl, riseB]
  | p :: ps, np, L, r, h, hb => by
    have h1 := h.1
    have h2 := hb p (by simp)
    have e : rnum (riseB np (p :: ps) ++ r) false = (p - np, riseB (p + 1) ps ++ r, false) := by
      simp only [riseB, List.append_assoc]
      exact rnum_num _ _ _ (by omega)
    rw [List.length_cons, rpl]
    simp only [e]
    rw [if_neg (by simp), show np + (p - np) = p by omega, rpl_rise doc w ps (p + 1) _ r h.2 (fun q hq => hb q (by simp [hq]))]
    simp

def slP (w : List UInt8) : List Po → List Sl
  | [] => []
  | x :: P => x.2.map (fun p => (x.1, p, w)) ++ slP w P
theorem slP_len (w : List UInt8) : ∀ P, (slP w P).length = cntP P
  | [] => rfl
  | x :: P => by simp [slP, cntP, slP_len w P]

theorem rdocs_ent (w : List UInt8) (N : Nat) (hN : N ≤ 60) : ∀ (P : List Po) (least : Nat) (L : List Sl) (r : List UInt8), OkP N least P → L.length + cntP P ≤ 10000 →
    rdocs w P.length least L (entB least P ++ r) false = (L ++ slP w P, r, false)
  | [], least, L, r, _, _ => by simp [rdocs, entB, slP]
  | x :: P, least, L, r, h, hc => by
    obtain ⟨h1, h2, h3, h4, h5, h6, h7⟩ := h
    have e1 : rnum (entB least (x :: P) ++ r) false = (x.1 - least, numB x.2.length ++ (riseB 0 x.2 ++ (entB (x.1 + 1) P ++ r)), false) := by
      simp only [entB, List.append_assoc]
      exact rnum_num _ _ _ (by omega)
    have e2 : rnum (numB x.2.length ++ (riseB 0 x.2 ++ (entB (x.1 + 1) P ++ r))) false = (x.2.length, riseB 0 x.2 ++ (entB (x.1 + 1) P ++ r), false) := rnum_num _ _ _ (by omega)
    have e3 : rdoc w least L (entB least (x :: P) ++ r) false = (L ++ x.2.map (fun p => (x.1, p, w)), entB (x.1 + 1) P ++ r, false) := by
      unfold rdoc
      simp only [e1, e2]
      rw [show least + (x.1 - least) = x.1 by omega, rpl_rise x.1 w x.2 0 L _ h5 (fun p hp => by have := h6 p hp; omega)]
    rw [List.length_cons, rdocs]
    simp only [e1, e3]
    simp only [cntP] at hc
    rw [if_neg (by simp), show least + (x.1 - least) + 1 = x.1 + 1 by omega]
    have hl : decide (10000 < (L ++ x.2.map (fun p => (x.1, p, w))).length) = false := by
      apply decide_eq_false; simp; omega
    rw [hl, Bool.or_false, rdocs_ent w N hN P (x.1 + 1) _ r h7 (by simp; omega)]
    simp [slP]

theorem rslots_term (t : List UInt8) (P : List Po) (N : Nat) (hN : N ≤ 60) (L : List Sl) (r : List UInt8) (ht : t.length ≤ 8) (hP : OkP N 0 P) (hc : L.length + cntP P ≤ 10000) :
    rslots L (termB t P ++ r) false = (L ++ slP t P, r, false) := by
  have hl := okP_len N P 0 hP
  have e1 : rnum (termB t P ++ r) false = (t.length, t ++ (numB P.length ++ (entB 0 P ++ r)), false) := by
    unfold termB
    simp only [List.append_assoc]
    exact rnum_num _ _ _ (by omega)
  have e2 : rtext t.length (t ++ (numB P.length ++ (entB 0 P ++ r))) false = (t, numB P.length ++ (entB 0 P ++ r), false) := by
    unfold rtext
    rw [if_neg (by simp)]
    simp
  have e3 : rnum (numB P.length ++ (entB 0 P ++ r)) false = (P.length, entB 0 P ++ r, false) := rnum_num _ _ _ (by omega)
  unfold rslots
  simp only [e1, e2, e3]
  exact rdocs_ent t N hN P 0 L r hP hc

def slT (PF : Nat → List Po) : Nat → List (List UInt8) → List Sl
  | _, [] => []
  | k, x :: r => slP x (PF k) ++ slT PF (k + 1) r
theorem rmany_terms (PF : Nat → List Po) (N : Nat) (hN : N ≤ 60) (hP : ∀ k, OkP N 0 (PF k)) (r : List UInt8) : ∀ (ts : List (List UInt8)) (k : Nat) (L : List Sl), (∀ x ∈ ts, x.length ≤ 8) → L.length + cntK PF k ts.length ≤ 10000 →
    rmany ts.length (L, termsB PF k ts ++ r, false) = (L ++ slT PF k ts, r, false)
  | [], k, L, _, _ => by simp [rmany, termsB, slT]
  | x :: ts, k, L, hw, hc => by
    simp only [List.length_cons, cntK] at hc
    rw [List.length_cons, rmany]
    simp only [termsB, List.append_assoc]
    rw [if_neg (by simp), rslots_term x (PF k) N hN L _ (hw x (by simp)) (hP k) (by omega)]
    rw [rmany_terms PF N hN hP r ts (k + 1) _ (fun y hy => hw y (by simp [hy])) (by rw [List.length_append, slP_len]; omega)]
    simp [slT]

theorem rids_rise : ∀ (xs : List Nat) (nx : Nat) (acc : List Nat) (r : List UInt8), Rs nx xs → (∀ x ∈ xs, x < 268435456) → rids xs.length nx acc (riseB nx xs ++ r) false = (acc ++ xs, r, false)
  | [], nx, acc, r, _, _ => by simp [rids, riseB]
  | x :: xs, nx, acc, r, h, hb => by
    have h1 := h.1
    have h2 := hb x (by simp)
    have e : rnum (riseB nx (x :: xs) ++ r) false = (x - nx, riseB (x + 1) xs ++ r, false) := by
      simp only [riseB, List.append_assoc]
      exact rnum_num _ _ _ (by omega)
    rw [List.length_cons, rids]
    simp only [e]
    rw [if_neg (by simp), show nx + (x - nx) = x by omega, rids_rise xs (x + 1) _ r h.2 (fun q hq => hb q (by simp [hq]))]
    simp

theorem slP_mem (w : List UInt8) : ∀ (P : List Po) (s : Sl), s ∈ slP w P ↔ memP P s.1 s.2.1 = true ∧ s.2.2 = w
  | [], s => by simp [slP, memP]
  | x :: P, s => by
    simp only [slP, List.mem_append, slP_mem w P, List.mem_map]
    have e : memP (x :: P) s.1 s.2.1 = (decide (x.1 = s.1) && decide (s.2.1 ∈ x.2) || memP P s.1 s.2.1) := by unfold memP; rw [List.any_cons]
    rw [e]
    simp only [Bool.or_eq_true, Bool.and_eq_true, decide_eq_true_eq]
    constructor
    · rintro (⟨p, hp, rfl⟩ | ⟨h1, h2⟩)
      · exact ⟨.inl ⟨rfl, hp⟩, rfl⟩
      · exact ⟨.inr h1, h2⟩
    · rintro ⟨(⟨h1, h2⟩ | h1), h3⟩
      · left
        refine ⟨s.2.1, h2, ?_⟩
        obtain ⟨a, b, c⟩ := s
        simp only at h1 h3
        rw [h1, h3]
      · exact .inr ⟨h1, h3⟩
theorem slT_mem (PF : Nat → List Po) : ∀ (ts : List (List UInt8)) (k : Nat) (s : Sl), s ∈ slT PF k ts ↔ ∃ j, ∃ h : j < ts.length, memP (PF (k + j)) s.1 s.2.1 = true ∧ s.2.2 = ts[j]
  | [], k, s => by simp [slT]
  | x :: ts, k, s => by
    simp only [slT, List.mem_append, slP_mem, slT_mem PF ts]
    constructor
    · rintro (⟨h1, h2⟩ | ⟨j, hj, h1, h2⟩)
      · exact ⟨0, by simp, h1, h2⟩
      · exact ⟨j + 1, by simpa using hj, by rw [show k + (j + 1) = k + 1 + j by omega]; exact h1, by simpa using h2⟩
    · rintro ⟨j, hj, h1, h2⟩
      cases j with
      | zero => exact .inl ⟨h1, by simpa using h2⟩
      | succ j => exact .inr ⟨j, by simpa using hj, by rw [show k + 1 + j = k + (j + 1) by omega]; exact h1, by simpa using h2⟩

theorem rwords_of (L : List Sl) (d : Nat) (ws : List (List UInt8)) (h : ∀ p w, (d, p, w) ∈ L ↔ ws[p]? = some w) : ∀ (f p : Nat), p ≤ ws.length → ws.length - p < f → rwords L d f p = ws.drop p
  | 0, p, _, hf => by omega
  | f + 1, p, hp, hf => by
    unfold rwords
    by_cases hlt : p < ws.length
    · cases hg : L.find? fun s => decide (s.1 = d) && decide (s.2.1 = p) with
      | none =>
        have hm : (d, p, ws[p]) ∈ L := (h p ws[p]).2 (List.getElem?_eq_getElem hlt)
        have := List.find?_eq_none.1 hg _ hm
        simp at this
      | some s =>
        have hm := List.mem_of_find?_eq_some hg
        have hs := List.find?_some hg
        simp only [Bool.and_eq_true, decide_eq_true_eq] at hs
        obtain ⟨a, b, c⟩ := s
        obtain ⟨rfl, rfl⟩ := hs
        have hw := (h b c).1 hm
        rw [List.getElem?_eq_getElem hlt] at hw
        simp only
        have hlt' : b < ws.length := hlt
        have hf' : ws.length - b < f + 1 := hf
        rw [rwords_of L a ws h f (b + 1) (by omega) (by omega), List.drop_eq_getElem_cons hlt]
        congr 1
        exact (Option.some.inj hw).symm
    · have hnone : (L.find? fun s => decide (s.1 = d) && decide (s.2.1 = p)) = none := by
        rw [List.find?_eq_none]
        intro s hs hc
        simp only [Bool.and_eq_true, decide_eq_true_eq] at hc
        obtain ⟨a, b, c⟩ := s
        obtain ⟨rfl, rfl⟩ := hc
        have := (h b c).1 hs
        rw [List.getElem?_eq_none (by simp only at hlt; omega)] at this
        simp at this
      rw [hnone, List.drop_eq_nil_of_le (by omega)]

/-- Of the file of texts the careless reader has the texts. -/
theorem guess_file (T : List Tx) (hf : Fine T) : rguess (fileT T) = some T := by
  have hn := hf.len
  have hw := fine_word T hf
  have hids : ∀ x ∈ T.map Prod.fst, x < 268435456 := by
    intro x hx
    obtain ⟨t, ht, rfl⟩ := List.mem_map.1 hx
    have := hf.ids t ht; omega
  have htl := allW_le T hf.few
  have hcnt := postT_cnt T hf (termsOf T).length (Nat.le_refl _)
  have e0 : (fileT T).drop 1 = numB T.length ++ (riseB 0 (T.map Prod.fst) ++ (numB (termsOf T).length ++ (termsB (postT T) 0 (termsOf T) ++ sumB (bodyT T)))) := by
    unfold fileT
    conv => lhs; rw [body_eq]
    simp [body_eq]
  have e1 : rnum ((fileT T).drop 1) false = (T.length, riseB 0 (T.map Prod.fst) ++ (numB (termsOf T).length ++ (termsB (postT T) 0 (termsOf T) ++ sumB (bodyT T))), false) := by
    rw [e0]; exact rnum_num _ _ _ (by omega)
  have e2 := rids_rise (T.map Prod.fst) 0 [] (numB (termsOf T).length ++ (termsB (postT T) 0 (termsOf T) ++ sumB (bodyT T))) hf.rise hids
  rw [List.length_map, List.nil_append] at e2
  have e3 : rnum (numB (termsOf T).length ++ (termsB (postT T) 0 (termsOf T) ++ sumB (bodyT T))) false = ((termsOf T).length, termsB (postT T) 0 (termsOf T) ++ sumB (bodyT T), false) := rnum_num _ _ _ (by omega)
  have e4 := rmany_terms (postT T) T.length hn (postT_ok T hf) (sumB (bodyT T)) (termsOf T) 0 [] hw (by simp; omega)
  rw [List.nil_append] at e4
  unfold rguess
  simp only [e1, e2, e3, e4]
  rw [if_neg (by omega), if_neg (by simp)]
  congr 1
  have hmem : ∀ d (hd : d < T.length) p w, (d, p, w) ∈ slT (postT T) 0 (termsOf T) ↔ T[d].2[p]? = some w := by
    intro d hd p w
    have hd' : d < (rowsOf T).length := by rw [rows_len]; exact hd
    have er : (rowsOf T).getD d [] = T[d].2.map (bsIx (termsOf T)) := by rw [getD_at _ _ hd']; exact rows_at T d hd
    rw [slT_mem]
    constructor
    · rintro ⟨j, hj, h1, h2⟩
      rw [Nat.zero_add] at h1
      obtain ⟨a1, a2, a3⟩ := (memP_post _ _ _ _ _).1 h1
      simp only at a1 a2 a3 h2
      rw [er] at a2 a3
      have hp : p < T[d].2.length := by simpa using a2
      rw [getD_at _ _ a2, List.getElem_map] at a3
      have hx : T[d].2[p] ∈ termsOf T := (terms_mem T _).2 ((allW_iff T _).2 ⟨T[d], List.getElem_mem hd, List.getElem_mem hp⟩)
      have := (bs_mem _ (terms_pw T) _ hx).2
      rw [a3, getD_at _ _ hj] at this
      rw [List.getElem?_eq_getElem hp, h2, this]
    · intro h
      have hp : p < T[d].2.length := by
        rcases Nat.lt_or_ge p T[d].2.length with h' | h'
        · exact h'
        · rw [List.getElem?_eq_none h'] at h; simp at h
      rw [List.getElem?_eq_getElem hp] at h
      have hx : T[d].2[p] ∈ termsOf T := (terms_mem T _).2 ((allW_iff T _).2 ⟨T[d], List.getElem_mem hd, List.getElem_mem hp⟩)
      obtain ⟨b1, b2⟩ := bs_mem _ (terms_pw T) _ hx
      refine ⟨bsIx (termsOf T) T[d].2[p], b1, ?_, ?_⟩
      · rw [Nat.zero_add]
        refine (memP_post _ _ _ _ _).2 ⟨hd', ?_, ?_⟩
        · simp only; rw [er]; simpa using hp
        · simp only
          rw [er, getD_at _ _ (by simpa using hp), List.getElem_map]
      · simp only
        rw [← Option.some.inj h]
        rw [getD_at _ _ b1] at b2
        exact b2.symm
  have hlen : (slT (postT T) 0 (termsOf T)).length = cntK (postT T) 0 (termsOf T).length := by
    have : ∀ (ts : List (List UInt8)) (k : Nat), (slT (postT T) k ts).length = cntK (postT T) k ts.length := by
      intro ts
      induction ts with
      | nil => intro k; rfl
      | cons x r ih => intro k; simp [slT, cntK, slP_len, ih]
    exact this _ _
  apply List.ext_getElem
  · simp
  · intro d h1 h2
    simp only [List.getElem_map, List.getElem_range]
    have hr := rwords_of (slT (postT T) 0 (termsOf T)) d T[d].2 (hmem d h2) ((slT (postT T) 0 (termsOf T)).length + 1) 0 (Nat.zero_le _) (by
      have hsum := post_sum (rowsOf T) (termsOf T).length (rowsOf T).length (Nat.le_refl _) (rows_lt T)
      have hc := cnt_rows (bsIx (termsOf T)) T
      have e : cntK (postT T) 0 (termsOf T).length = cntTo (rowsOf T) (rowsOf T).length := hsum
      have e3 : cntTo (rowsOf T) T.length = sumW T := hc
      rw [hlen, e, rows_len, e3]
      have : ∀ (T : List Tx) (d : Nat) (h : d < T.length), T[d].2.length ≤ sumW T := by
        intro T
        induction T with
        | nil => intro d h; simp at h
        | cons t r ih =>
          intro d h
          cases d with
          | zero => simp [sumW]
          | succ d => have := ih d (by simpa using h); simp [sumW]; omega
      have := this T d h2
      omega)
    rw [List.drop_zero] at hr
    rw [hr]
    have e : (T.map Prod.fst).getD d 0 = T[d].1 := by
      rw [getD_at _ _ (by simpa using h2)]; simp
    rw [e]
end Go.Proofs.YtpdoacfiiledcaaGreatDoor.Pak
