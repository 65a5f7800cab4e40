import Derived.Test.YtpdoacfiiledcaaGreatDoorV08
import Derived.Test.YtpdoacfiiledcaaGreatDoorV03
import Derived.Laws.AppendOwnNone
set_option linter.unusedVariables false
set_option maxRecDepth 4000
namespace Go.Proofs.YtpdoacfiiledcaaGreatDoor.Pak
open Go.RowKit Go.Proofs.YtpdoacfiiledcaaGreatDoor Go.Proofs.YtpdoacfiiledcaaGreatDoor.Spl SiftM

theorem upTo_below (rows : List (List Nat)) (nt : Nat) (h : ∀ r ∈ rows, ∀ x ∈ r, x < nt) : upTo rows rows.length 0 = belowF rows nt := by
  funext d p
  unfold upTo belowF
  by_cases hd : d < rows.length
  · rw [if_pos (.inl hd), getD_at _ _ hd, List.getElem?_eq_getElem hd]
    by_cases hp : p < rows[d].length
    · rw [getD_at _ _ hp, if_pos ⟨hd, hp, h _ (List.getElem_mem hd) _ (List.getElem_mem hp)⟩]
      simp [hp]
    · rw [if_neg (fun h' => hp h'.2.1)]
      simp at hp
      simp [hp]
  · rw [if_neg (by omega), if_neg (fun h' => hd h'.1)]

theorem terms_split (P : Nat → List Po) : ∀ (ts : List (List UInt8)) (k0 k : Nat) (hk : k < ts.length), termsB P k0 (ts.take (k + 1)) = termsB P k0 (ts.take k) ++ termB ts[k] (P (k0 + k))
  | x :: r, k0, 0, hk => by simp [termsB]
  | x :: r, k0, k + 1, hk => by
    have ih := terms_split P r (k0 + 1) k (by simpa using hk)
    simp only [List.take_succ_cons, termsB, List.append_assoc, List.getElem_cons_succ]
    rw [ih, show k0 + 1 + k = k0 + (k + 1) by omega]

theorem cntP_ok (N : Nat) : ∀ (P : List Po) (least : Nat), OkP N least P → cntP P ≤ 60 * P.length
  | [], _, _ => by simp [cntP]
  | x :: r, least, h => by
    have ih := cntP_ok N r (x.1 + 1) h.2.2.2.2.2.2
    have := h.2.2.2.1
    simp [cntP]; omega

theorem cntK_le (P : Nat → List Po) : ∀ (k n m : Nat), n ≤ m → cntK P k n ≤ cntK P k m
  | k, 0, m, h => by simp [cntK]
  | k, n + 1, 0, h => by omega
  | k, n + 1, m + 1, h => by
    have := cntK_le P (k + 1) n m (by omega)
    simp [cntK]; exact this

theorem terms_len (N : Nat) (P : Nat → List Po) (hP : ∀ k, OkP N 0 (P k)) : ∀ (ts : List (List UInt8)) (k : Nat), (∀ x ∈ ts, x.length ≤ 8) → (termsB P k ts).length ≤ 16 * ts.length + 12 * cntK P k ts.length
  | [], k, _ => by simp [termsB]
  | x :: r, k, h => by
    have ih := terms_len N P hP r (k + 1) (fun y hy => h y (by simp [hy]))
    have h1 := ent_len N (P k) 0 (hP k)
    have h2 := numB_len x.length
    have h3 := numB_len (P k).length
    have h4 := h x (by simp)
    simp only [termsB, termB, List.length_append, List.length_cons, cntK]
    omega

theorem sumW_le : ∀ (T : List Tx), (∀ t ∈ T, t.2.length ≤ 60) → sumW T ≤ 60 * T.length
  | [], _ => by simp [sumW]
  | t :: r, h => by
    have := sumW_le r (fun x hx => h x (by simp [hx]))
    have := h t (by simp)
    simp [sumW]; omega

theorem word_len (x : List UInt8) (h : isWord x = true) : x.length ≤ 8 := by unfold isWord at h; simp at h; exact h.1.2

theorem fine_word (T : List Tx) (hf : Fine T) : ∀ x ∈ termsOf T, x.length ≤ 8 := by
  intro x hx
  obtain ⟨t, ht, hx'⟩ := (allW_iff T x).1 ((terms_mem T x).1 hx)
  exact word_len x (hf.word t ht x hx')

def postT (T : List Tx) : Nat → List Po := fun t => postD (rowsOf T) t (rowsOf T).length
theorem postT_ok (T : List Tx) (hf : Fine T) (t : Nat) : OkP T.length 0 (postT T t) := by
  have := postD_ok (rowsOf T) t T.length (rows_small T hf.few) (rowsOf T).length (by rw [rows_len]; exact Nat.le_refl _)
  exact this
theorem postT_cnt (T : List Tx) (hf : Fine T) (k : Nat) (hk : k ≤ (termsOf T).length) : cntK (postT T) 0 k ≤ 3600 := by
  have h1 := cntK_le (postT T) 0 k (termsOf T).length hk
  have h2 := post_sum (rowsOf T) (termsOf T).length (rowsOf T).length (Nat.le_refl _) (rows_lt T)
  have h3 := cnt_rows (bsIx (termsOf T)) T
  have h4 := sumW_le T hf.few
  have h5 := hf.len
  have e : cntK (postT T) 0 (termsOf T).length = cntTo (rowsOf T) (rowsOf T).length := h2
  rw [e] at h1
  rw [rows_len] at h1
  have e3 : cntTo (rowsOf T) T.length = sumW T := h3
  omega
theorem postT_part (T : List Tx) (hf : Fine T) (k : Nat) : (termsB (postT T) 0 ((termsOf T).take k)).length ≤ 100800 := by
  have h1 := terms_len T.length (postT T) (postT_ok T hf) ((termsOf T).take k) 0 (fun x hx => fine_word T hf x (List.mem_of_mem_take hx))
  have h2 := allW_le T hf.few
  have h3 := hf.len
  have hl : ((termsOf T).take k).length ≤ (termsOf T).length := by rw [List.length_take]; omega
  have h4 := postT_cnt T hf _ hl
  omega
theorem body_eq (T : List Tx) : bodyT T = 83 :: (numB T.length ++ (riseB 0 (T.map Prod.fst) ++ (numB (termsOf T).length ++ termsB (postT T) 0 (termsOf T)))) := by
  unfold bodyT bodyB postT
  rw [List.length_map]

theorem owns_low {w : World} {base base' size n : Nat} {e : TypeId} {v : Value} {xs : List Value} (h : w.ownsRow base e size v n xs) (hb : base' ≤ base) : w.ownsRow base' e size v n xs := by
  refine ⟨h.1, ?_⟩
  rcases h.2 with hn | ⟨g, cap, cur, e1, h1, rest⟩
  · exact .inl hn
  · exact .inr ⟨g, cap, cur, e1, by omega, rest⟩

theorem ListsIs.wr {w w' : World} {base b2 Lb nt Wb : Nat} {vF : Nat → Value} {PF : Nat → List Po} {pF : Nat → List Value} {l : List UInt8} (h : ListsIs w b2 Lb nt vF PF pF) (k : Kb 5 [Wb] base w w') (hw : Wr w Wb base l) : ListsIs w' b2 Lb nt vF PF pF := by
  obtain ⟨v0, hW0, _⟩ := hw
  have h1 : Lb ∉ [Wb] := by
    intro hx
    simp at hx
    subst hx
    have := h.blk
    rw [hW0] at this; simp at this
  refine ⟨k.heap h1 h.blk (by decide), fun t ht => (h.each t ht).kb k (by decide) (by decide) ?_, h.disj⟩
  intro x hx
  simp at hx
  subst hx
  exact foot_ne (h.each t ht) hW0 (by decide) (by decide)

theorem Tabl.wr {w w' : World} {T B Wb base M c : Nat} {ids : List Nat} {terms : List (List UInt8)} {f : Nat → Nat → Option Nat} {iv tv : Value} {l : List UInt8} (h : Tabl w T B ids terms M c f iv tv) (k : Kb 5 [Wb] base w w') (hw : Wr w Wb base l) : Tabl w' T B ids terms M c f iv tv := by
  obtain ⟨v0, hW0, _⟩ := hw
  have h1 : T ∉ [Wb] := by
    intro hx
    simp at hx
    subst hx
    have := h.blk
    rw [hW0] at this; simp at this
  refine ⟨k.heap h1 h.blk (by decide), k.owns h.ids (by decide) ?_, k.owns h.terms (by decide) ?_, h.map.kb k ?_, h.leT, h.leM⟩
  · intro x hx; simp at hx; subst hx; exact owns_ne h.ids hW0 (by decide)
  · intro x hx; simp at hx; subst hx; exact owns_ne h.terms hW0 (by decide)
  · have := map_ne h.map hW0; simpa using this

set_option maxHeartbeats 2000000 in
theorem write_any (B : Nat) (v : Value) (T : List Tx) (vs : List Value) (w : World) (h : TextsIs w B v T vs) (hf : Fine T) :
    Calls Tryz.prog 177 #[v] w fun e w' => ∃ v', e = .returned v' ∧ w'.ownsRow w.heap.size 5 1 v' ((bodyT T).length + 4) (byV (fileT T)) ∧ Kp [] w w' := by
  obtain ⟨av, cv, rfl, hav⟩ := owns_forms h.row
  have htab := tableOf_any B _ T vs w h hf.len hf.few
  have hn := hf.len
  have hnt := allW_le T hf.few
  have hids : ∀ x ∈ T.map Prod.fst, x < 268435456 := by
    intro x hx
    obtain ⟨t, ht, rfl⟩ := List.mem_map.1 hx
    have := hf.ids t ht; omega
  have hrs := hf.rise
  have hil : (T.map Prod.fst).length = T.length := by simp
  have hpart := postT_part T hf
  have hok := postT_ok T hf
  have hwd := fine_word T hf
  have hup := upTo_below (rowsOf T) (termsOf T).length (rows_lt T)
  rw [rows_len] at hup
  have hra := below_rows (rowsOf T) (termsOf T).length (rows_small T hf.few) (rows_lt T)
  have hrsm := rows_small T hf.few
  have hbe := body_eq T
  have hcl := fun t => PFd_closed (rowsOf T) (rowsOf T).length t
  have hrl := rows_len T
  obtain ⟨terms, hterms⟩ : ∃ terms, termsOf T = terms := ⟨_, rfl⟩
  obtain ⟨rows, hrows⟩ : ∃ rows, rowsOf T = rows := ⟨_, rfl⟩
  obtain ⟨ids, hidsE⟩ : ∃ ids, T.map Prod.fst = ids := ⟨_, rfl⟩
  obtain ⟨PT, hPT⟩ : ∃ PT, postT T = PT := ⟨_, rfl⟩
  obtain ⟨n, hnE⟩ : ∃ n, T.length = n := ⟨_, rfl⟩
  obtain ⟨body, hbodyE⟩ : ∃ body, bodyT T = body := ⟨_, rfl⟩
  have hPF : ∀ t, PFd rows rows.length t = PT t := by
    intro t; rw [← hPT, ← hrows]; exact hcl t
  have hfile : fileT T = body ++ sumB body := by rw [← hbodyE]; rfl
  rw [hterms, hrows, hidsE, hnE] at htab
  rw [hterms, hnE] at hnt
  rw [hterms, hPT] at hpart
  rw [hPT, hnE] at hok
  rw [hterms] at hwd
  rw [hrows, hterms, hnE] at hup
  rw [hrows, hterms] at hra
  rw [hrows] at hrsm
  rw [hrows, hnE] at hrl
  rw [hbodyE, hnE, hidsE, hterms, hPT] at hbe
  rw [hidsE] at hids hrs hil
  rw [hnE] at hn hil hav
  rw [hup] at htab
  rw [hbodyE, hfile, hnE]
  have HT := hide htab
  have HI := hide hids
  have HRS := hide hrs
  have Hil := hide hil
  have HPt := hide hpart
  have HOK := hide hok
  have HWd := hide hwd
  have HRA := hide hra
  have HSM := hide hrsm
  have HBE := hide hbe
  have HPF := hide hPF
  have Hrl := hide hrl
  clear htab hids hrs hil hpart hok hwd hup hra hrsm hbe hcl hrl hPF hterms hrows hidsE hPT hnE hbodyE hfile hf h
  go_enter Tryz.func177, Tryz.ntmps177
  go_wp2_with fail
  refine HT.out.mono ?_
  rintro e w1 ⟨M, iv, tv, rfl, hiv, htv, hM, hMb, k1⟩
  obtain ⟨ai, ci, rfl, hai⟩ := owns_forms hiv
  obtain ⟨at', ct, rfl, hat⟩ := owns_forms htv
  have hz1 := k1.size
  have HIV := hide hiv
  have HTV := hide htv
  have HM := hide hM
  clear hiv htv hM HT
  go_wp2_with fail
  obtain ⟨W2, hW2⟩ : ∃ W2, (w1.alloc (.cells #[.slice ai n ci, .slice at' terms.length ct, .map (some M)] 316)).alloc (.cells #[.slice none 0 0] 365) = W2 := ⟨_, rfl⟩
  have k2 : Kp [] w1 W2 := by rw [← hW2]; exact ((Kp.refl _ _).alloc _).alloc _
  have hbT : W2.heap[w1.heap.size]? = some (.cells #[.slice ai n ci, .slice at' terms.length ct, .map (some M)] 316 (0, 0)) := by
    rw [← hW2, Below.heap_alloc _ _ _ (by simp)]; exact heap_alloc_new w1 _
  have hbW : W2.heap[w1.heap.size + 1]? = some (.cells #[.slice none 0 0] 365 (0, 0)) := by
    rw [← hW2]
    have := heap_alloc_new (w1.alloc (.cells #[.slice ai n ci, .slice at' terms.length ct, .map (some M)] 316)) (.cells #[.slice none 0 0] 365)
    rw [World.size_alloc] at this
    exact this
  obtain ⟨Tb, hTb⟩ : ∃ Tb, w1.heap.size = Tb := ⟨_, rfl⟩
  obtain ⟨Wb, hWb⟩ : ∃ Wb, w1.heap.size + 1 = Wb := ⟨_, rfl⟩
  rw [hTb] at hbT
  rw [hWb] at hbW
  rw [hW2, hWb, hTb]
  have hwr2 : Wr W2 Wb w.heap.size [] := ⟨_, hbW, World.ownsRow_nil _ _ _ _⟩
  have htb2 : Tabl W2 Tb w.heap.size ids terms M (cntTo rows n) (belowF rows terms.length) (.slice ai n ci) (.slice at' terms.length ct) := by
    refine ⟨hbT, ?_, k2.owns HTV.out (by simp), HM.out.kp k2 (by simp), by omega, hMb⟩
    have := k2.owns HIV.out (by simp)
    rw [Hil.out]; exact this
  have hTW : w.heap.size ≤ Tb ∧ w.heap.size ≤ Wb := by omega
  have hz2 := k2.size
  have kw2 : Kb 5 [Wb] w.heap.size w W2 := Kb.of_kp (k1.next k2) (by simp)
  have hWlt := heap_lt hbW
  have HW2 := hide hwr2
  have HT2 := hide htb2
  clear hwr2 htb2 hbT hbW hW2 hTb hWb HIV HTV HM
  refine (wtext_any Wb w.heap.size [] ⟨#[83]⟩ W2 HW2.out (by omega) (by decide)).mono ?_
  rintro e w3 ⟨rfl, hw3, k3⟩
  have hz3 := k3.size
  have ht3 := HT2.out.wr k3 HW2.out
  obtain ⟨b0, b1, b2, _, _, _⟩ := tb_cells ht3.blk
  have hTlt := heap_lt ht3.blk
  have kw3 := kw2.next k3
  have HW3 := hide hw3
  have HT3 := hide ht3
  clear hw3 ht3 HW2 HT2 k3 kw2
  go_wp2_with fail
  refine (wnum_any Wb w.heap.size _ n w3 HW3.out (by omega) (by simp) (by omega)).mono ?_
  rintro e w4 ⟨rfl, hw4, k4⟩
  have hz4 := k4.size
  have ht4 := HT3.out.wr k4 HW3.out
  clear b0 b1 b2 hTlt
  obtain ⟨b0, b1, b2, _, _, _⟩ := tb_cells ht4.blk
  have hTlt := heap_lt ht4.blk
  have kw4 := kw3.next k4
  have hn1 := numB_len n
  have HW4 := hide hw4
  have HT4 := hide ht4
  clear hw4 ht4 HW3 HT3 k4 kw3
  go_wp2_with fail
  have hi4 : Hid (w4.ownsRow w.heap.size 3 1 (.slice ai n ci) ids.length (intV ids)) := HT4.out.ids
  refine (wrising_any Wb w.heap.size w.heap.size _ _ ids w4 HW4.out hi4.out (by omega) (by rw [Hil.out]; simp; omega) (by rw [Hil.out]; omega) HRS.out HI.out).mono ?_
  rintro e w5 ⟨rfl, hw5, k5⟩
  have hz5 := k5.size
  have ht5 := HT4.out.wr k5 HW4.out
  clear b0 b1 b2 hTlt
  obtain ⟨b0, b1, b2, _, _, _⟩ := tb_cells ht5.blk
  have hTlt := heap_lt ht5.blk
  have kw5 := kw4.next k5
  have hn2 := riseB_len ids 0
  have HW5 := hide hw5
  have HT5 := hide ht5
  clear hw5 ht5 HW4 HT4 k5 kw4 hi4
  go_wp2_with fail
  refine (wnum_any Wb w.heap.size _ terms.length w5 HW5.out (by omega) (by rw [Hil.out] at hn2; simp; omega) (by omega)).mono ?_
  rintro e w6 ⟨rfl, hw6, k6⟩
  have hz6 := k6.size
  have ht6 := HT5.out.wr k6 HW5.out
  clear b0 b1 b2 hTlt
  obtain ⟨b0, b1, b2, _, _, _⟩ := tb_cells ht6.blk
  have hTlt := heap_lt ht6.blk
  have kw6 := kw5.next k6
  have hn3 := numB_len terms.length
  obtain ⟨pre, hpre⟩ : ∃ pre, [] ++ (ByteArray.mk #[83]).data.toList ++ numB n ++ riseB 0 ids ++ numB terms.length = pre := ⟨_, rfl⟩
  have hpl : pre.length ≤ 300 := by rw [← hpre]; rw [Hil.out] at hn2; simp; omega
  have hfin : Hid (body = pre ++ termsB PT 0 terms) := by
    show _ = _
    rw [HBE.out, ← hpre]; simp
  have hp0 : 0 < pre.length := by rw [← hpre]; simp
  rw [hpre] at hw6
  have HW6 := hide hw6
  have HT6 := hide ht6
  have HB6 := hide (show w6.cell? ⟨Tb, 0, none⟩ = _ ∧ w6.cell? ⟨Tb, 1, none⟩ = _ from ⟨b0, b1⟩)
  clear hw6 ht6 HW5 HT5 k6 kw5 hpre HBE
  go_wp2_with fail
  have hids6 := HT6.out.ids
  have hterms6 := HT6.out.terms
  have hPO := postings_any M _ w.heap.size _ _ _ ids terms rows w6 HT6.out.map hids6 hterms6 HRA.out HSM.out (by rw [Hrl.out, Hil.out]) (by rw [Hil.out]; exact hn) (by omega)
  clear hids6 hterms6
  refine hPO.mono ?_
  rintro e w7 ⟨Lb, vF, pF, rfl, hL7, hLb, k7⟩
  have hz7 := k7.size
  have hw7 := HW6.out.kp k7 (by simp) (by simp)
  have ht7 := HT6.out.kp k7 (HT6.out.map.kp k7 (by simp)) (by simp) (by simp) (by simp)
  have kw7 : Kb 5 [Wb] w.heap.size w w7 := kw6.next (Kb.of_kp k7 (by simp))
  have hb7 : w.heap.size ≤ w7.heap.size := kw7.size
  have HW7 := hide hw7
  have HT7 := hide ht7
  have HL7 := hide hL7
  clear hw7 ht7 hL7 hPO HW6 HT6 HB6 k7 kw6 b0 b1 b2 hTlt
  go_wp2_with fail
  obtain ⟨H6, hH6⟩ : ∃ H6, w6.heap.size = H6 := ⟨_, rfl⟩
  rw [hH6] at HL7
  clear hH6
  go_loopw [24] (fun iv wr => ∃ k : Nat, k ≤ terms.length ∧ iv = .int .i64 k ∧ Wr wr Wb w.heap.size (pre ++ termsB PT 0 (terms.take k)) ∧ Tabl wr Tb w.heap.size ids terms M (cntTo rows n) (belowF rows terms.length) (.slice ai n ci) (.slice at' terms.length ct) ∧ ListsIs wr H6 Lb terms.length vF (PFd rows rows.length) pF ∧ w.heap.size ≤ wr.heap.size ∧ Kb 5 [Wb] w.heap.size w wr) (fun iv _ => terms.length - (intOf iv).toNat)
  case atStart => exact ⟨0, by omega, rfl, by simpa [termsB] using HW7.out, HT7.out, HL7.out, hb7, kw7⟩
  case round =>
    clear HW7 HT7 HL7 kw7 hb7
    obtain ⟨k, hk, rfl, hwk, htk, hlk, hbk, hkb⟩ := hrel
    by_cases hlt : k < terms.length
    · obtain ⟨gt, rfl⟩ := hat (by omega)
      obtain ⟨c0, c1, c2, _, _, _⟩ := tb_cells htk.blk
      have hTlt := heap_lt htk.blk
      have hLlt := heap_lt hlk.blk
      have hct := strs_cells htk.terms rfl k hlt
      obtain ⟨hcl, _⟩ := lists_cell hlk.blk hlt
      have hpo := hlk.each k hlt
      rw [HPF.out k] at hpo
      obtain ⟨ap, cp, ev, _⟩ := owns_forms hpo.row
      rw [ev] at hpo hcl
      have hsp := hide (terms_split PT terms 0 k hlt)
      have hwl := HWd.out terms[k] (List.getElem_mem hlt)
      obtain ⟨tm, htm⟩ : ∃ tm, terms[k] = tm := ⟨_, rfl⟩
      rw [htm] at hct hsp hwl
      rw [Nat.zero_add] at hsp
      have hgt := (htk.terms.lt gt rfl).2
      have hpk := HPt.out k
      have hok := HOK.out k
      have hcn := cntP_ok n (PT k) 0 hok
      have hol := okP_len n (PT k) 0 hok
      obtain ⟨Pk, hPk⟩ : ∃ Pk, PT k = Pk := ⟨_, rfl⟩
      rw [hPk] at hpo hsp hok hcn hol hcl
      have hTE := wterm_any Wb w.heap.size H6 n (pre ++ termsB PT 0 (terms.take k)) tm (.slice ap Pk.length cp) Pk (pF k) wr hwk hpo hbk hok hn hwl (by rw [List.length_append]; omega)
      have HWk := hide hwk
      have HTk := hide htk
      have HLk := hide hlk
      have HTE := hide hTE
      clear hwk htk hlk hTE hpo hok ev htm hPk hpk
      go_wp2_with fail
      refine HTE.out.mono ?_
      rintro e w8 ⟨rfl, hw8, k8⟩
      have hz8 := k8.size
      have ht8 := HTk.out.wr k8 HWk.out
      have hl8 := HLk.out.wr k8 HWk.out
      have kw8 := hkb.next k8
      have HW8 := hide hw8
      have HT8 := hide ht8
      have HL8 := hide hl8
      clear hw8 ht8 hl8 HWk HTk HLk HTE c0 c1 c2 hct hcl k8 hkb
      go_wp2_with fail
      go_roundw
      case rel =>
        refine ⟨k + 1, by omega, by go_num, ?_, HT8.out, HL8.out, by omega, kw8⟩
        rw [hsp.out, ← List.append_assoc]; exact HW8.out
      case measure => simp [intOf]; omega
    · have e : k = terms.length := by omega
      subst e
      have hpk := HPt.out terms.length
      rw [List.take_length] at hwk hpk
      have hSE := sealed_any Wb w.heap.size _ wr hwk (by rw [List.length_append]; omega) (by rw [List.length_append]; omega)
      rw [← hfin.out] at hSE
      have HSE := hide hSE
      clear hwk htk hlk hSE hpk
      go_wp2_with fail
      refine HSE.out.mono ?_
      rintro e w9 ⟨v9, rfl, ho9, k9⟩
      obtain ⟨a9, c9, rfl, _⟩ := owns_forms ho9
      have hk9 : Kp [] w w9 := (Kp.of_below [] (hkb.below (Nat.le_refl _) (by simp; omega) (Nat.le_refl _))).next k9
      have HO9 := hide (owns_low ho9 hbk)
      clear ho9 k9 HSE hkb
      go_wp2_with fail
      go_ret
      exact ⟨_, rfl, HO9.out, hk9⟩
end Go.Proofs.YtpdoacfiiledcaaGreatDoor.Pak

set_option linter.unusedVariables false
set_option maxRecDepth 4000
namespace Go.Proofs.YtpdoacfiiledcaaGreatDoor.Pak
open Go.RowKit Go.Proofs.YtpdoacfiiledcaaGreatDoor Go.Proofs.YtpdoacfiiledcaaGreatDoor.Spl SiftM

def tx3 (xs : List (Nat × Value)) : List Value := xs.flatMap fun x => [Value.int .i64 (x.1 : Int), x.2, .bool false]
theorem tx3_get : ∀ (xs : List (Nat × Value)) (i : Nat) (h : i < xs.length), (tx3 xs)[i * 3]? = some (.int .i64 (xs[i].1 : Int)) ∧ (tx3 xs)[i * 3 + 1]? = some xs[i].2 ∧ (tx3 xs)[i * 3 + 2]? = some (.bool false)
  | x :: r, 0, h => by simp [tx3]
  | x :: r, i + 1, h => by
    have ih := tx3_get r i (by simpa using h)
    have e : tx3 (x :: r) = .int .i64 (x.1 : Int) :: x.2 :: .bool false :: tx3 r := by simp [tx3]
    rw [e, show (i + 1) * 3 = i * 3 + 3 by omega, show i * 3 + 3 + 1 = i * 3 + 1 + 3 by omega, show i * 3 + 3 + 2 = i * 3 + 2 + 3 by omega]
    simpa using ih
/-- The document's docs. -/
structure DocsIs (w : World) (base : Nat) (v : Value) (T : List Tx) (vs : List Value) : Prop where
  len : vs.length = T.length
  row : w.ownsRow base 266 3 v T.length (tx3 ((T.map Prod.fst).zip vs))
  each : ∀ i (h : i < T.length) (h2 : i < vs.length), w.ownsRow base 9 1 vs[i] T[i].2.length (strV T[i].2)
theorem DocsIs.nil (w : World) (base : Nat) : DocsIs w base (.slice none 0 0) [] [] := ⟨rfl, World.ownsRow_nil _ _ _ _, fun i h => by simp at h⟩
theorem DocsIs.kp0 {w w' : World} {base : Nat} {v : Value} {T : List Tx} {vs : List Value} (h : DocsIs w base v T vs) (k : Kp [] w w') : DocsIs w' base v T vs :=
  ⟨h.len, k.owns h.row (by simp), fun i h1 h2 => k.owns (h.each i h1 h2) (by simp)⟩
theorem DocsIs.kb5 {w w' : World} {base b : Nat} {v : Value} {T : List Tx} {vs : List Value} (h : DocsIs w base v T vs) (k : Kb 5 [] b w w') : DocsIs w' base v T vs :=
  ⟨h.len, k.owns h.row (by decide) (by simp), fun i h1 h2 => k.owns (h.each i h1 h2) (by decide) (by simp)⟩
theorem DocsIs.drew {w : World} {base : Nat} {v : Value} {T : List Tx} {vs : List Value} (h : DocsIs w base v T vs) : DocsIs w.drew base v T vs := h.kp0 ((Kp.refl [] w).drewN 1)
theorem DocsIs.cells {w : World} {base g cap n : Nat} {T : List Tx} {vs : List Value} (h : DocsIs w base (.slice (some ⟨g, 0, none⟩) n cap) T vs) (i : Nat) (hi : i < T.length) (h2 : i < vs.length) :
    w.cell? ⟨g, i * 3, none⟩ = some (.int .i64 (T[i].1 : Int)) ∧ w.cell? ⟨g, i * 3 + 1, none⟩ = some vs[i] ∧ w.cell? ⟨g, i * 3 + 2, none⟩ = some (.bool false) := by
  have hz : i < ((T.map Prod.fst).zip vs).length := by simp; omega
  have hg := tx3_get ((T.map Prod.fst).zip vs) i hz
  have ea : ∀ j, (⟨g, 0, none⟩ : Addr).add j = ⟨g, j, none⟩ := by intro j; unfold Addr.add; split <;> simp_all
  have c0 := h.row.cells (g := g) rfl _ _ hg.1
  have c1 := h.row.cells (g := g) rfl _ _ hg.2.1
  have c2 := h.row.cells (g := g) rfl _ _ hg.2.2
  rw [ea] at c0 c1 c2
  simp at c0 c1
  exact ⟨c0, c1, c2⟩

/-- The postings of a word, of the first d docs. -/
def postW (T : List Tx) (t : List UInt8) : Nat → List Po
  | 0 => []
  | d + 1 => postW T t d ++ one d (plW (T.getD d (0, [])).2 t (T.getD d (0, [])).2.length)
theorem postW_step (T : List Tx) (t : List UInt8) (d : Nat) (h : d < T.length) : postW T t (d + 1) = postW T t d ++ one d (plW T[d].2 t T[d].2.length) := by
  rw [postW, getD_at _ _ h]
theorem postW_len (T : List Tx) (t : List UInt8) : ∀ d, (postW T t d).length ≤ d
  | 0 => by simp [postW]
  | d + 1 => by
    have := postW_len T t d
    simp only [postW, List.length_append, one]
    split <;> simp <;> omega
theorem postW_at (T : List Tx) (t : List UInt8) : ∀ d, d ≤ T.length → ∀ x ∈ postW T t d, ∃ h : x.1 < T.length, x.2 = plW T[x.1].2 t T[x.1].2.length
  | 0, _, x, hx => by simp [postW] at hx
  | d + 1, hd, x, hx => by
    rw [postW_step T t d (by omega)] at hx
    rcases List.mem_append.1 hx with hx | hx
    · exact postW_at T t d (by omega) x hx
    · unfold one at hx
      split at hx
      · simp at hx
      · simp at hx; subst hx
        exact ⟨by simp only; omega, rfl⟩

theorem rput_n (base : Nat) (a : Option Addr) (c n : Nat) (l : List UInt8) (k : Nat) (w : World) (h : w.ownsRow base 5 1 (.slice a n c) n (byV l)) (hn : l.length = n) (hb : base ≤ w.heap.size) (hl : n ≤ 2000000) (hk : k < 268435456) : Calls Tryz.prog 288 #[.slice a n c, .int .i64 k] w (Out w base (l ++ numB k)) := by
  subst hn; exact rput_any base _ l k w h hb hl hk
theorem rrising_n (base base' : Nat) (a au : Option Addr) (c n cu m : Nat) (l : List UInt8) (xs : List Nat) (w : World) (h : w.ownsRow base 5 1 (.slice a n c) n (byV l)) (hn : l.length = n) (hu : w.ownsRow base' 3 1 (.slice au m cu) m (intV xs)) (hm : xs.length = m) (hb : base ≤ w.heap.size) (hl : n + 4 * m ≤ 2000000) (hx : m ≤ 4000) (hr : Rs 0 xs) (hbd : ∀ x ∈ xs, x < 268435456) : Calls Tryz.prog 289 #[.slice a n c, .slice au m cu] w (Out w base (l ++ riseB 0 xs)) := by
  subst hn; subst hm; exact rrising_any base base' _ _ l xs w h hu hb hl hx hr hbd

end Go.Proofs.YtpdoacfiiledcaaGreatDoor.Pak

set_option linter.unusedVariables false
set_option maxRecDepth 4000
namespace Go.Proofs.YtpdoacfiiledcaaGreatDoor.Pak
open Go.RowKit Go.Proofs.YtpdoacfiiledcaaGreatDoor Go.Proofs.YtpdoacfiiledcaaGreatDoor.Spl SiftM

def ins {α : Type} (l : List α) (a : Nat) (x : α) : List α := l.take a ++ x :: l.drop a
theorem ins_len {α : Type} (l : List α) (a : Nat) (x : α) (h : a ≤ l.length) : (ins l a x).length = l.length + 1 := by
  unfold ins; simp; omega
theorem ins_get {α : Type} (l : List α) (a : Nat) (x : α) (h : a ≤ l.length) (i : Nat) : (ins l a x)[i]? = if i < a then l[i]? else if i = a then some x else l[i - 1]? := by
  unfold ins
  rw [List.getElem?_append]
  have hl : (l.take a).length = a := by simp; omega
  rw [hl]
  by_cases h1 : i < a
  · rw [if_pos h1, if_pos h1, List.getElem?_take, if_pos h1]
  · rw [if_neg h1, if_neg h1]
    by_cases h2 : i = a
    · subst h2; simp
    · rw [if_neg h2]
      obtain ⟨d, hd⟩ : ∃ d, i - a = d + 1 := ⟨i - a - 1, by omega⟩
      rw [hd, List.getElem?_cons_succ, List.getElem?_drop]
      congr 1; omega
theorem ins_lo {α : Type} (l : List α) (a : Nat) (x : α) (h : a ≤ l.length) (i : Nat) (hi : i < (ins l a x).length) (h1 : i < a) : (ins l a x)[i] = l[i]'(by omega) := by
  have := ins_get l a x h i
  rw [if_pos h1, List.getElem?_eq_getElem hi, List.getElem?_eq_getElem (by omega)] at this
  exact Option.some.inj this
theorem ins_at {α : Type} (l : List α) (a : Nat) (x : α) (h : a ≤ l.length) (hi : a < (ins l a x).length) : (ins l a x)[a] = x := by
  have := ins_get l a x h a
  rw [if_neg (by omega), if_pos rfl, List.getElem?_eq_getElem hi] at this
  exact Option.some.inj this
theorem ins_hi {α : Type} (l : List α) (a : Nat) (x : α) (h : a ≤ l.length) (i : Nat) (hi : i < (ins l a x).length) (h1 : a < i) : (ins l a x)[i] = l[i - 1]'(by rw [ins_len l a x h] at hi; omega) := by
  have := ins_get l a x h i
  rw [if_neg (by omega), if_neg (by omega), List.getElem?_eq_getElem hi, List.getElem?_eq_getElem (by rw [ins_len l a x h] at hi; omega)] at this
  exact Option.some.inj this
theorem ins_map {α β : Type} (f : α → β) (l : List α) (a : Nat) (x : α) : (ins l a x).map f = ins (l.map f) a (f x) := by
  simp [ins, List.map_take, List.map_drop]
theorem ins_zip {α β : Type} (l : List α) (m : List β) (a : Nat) (x : α) (y : β) (h : l.length = m.length) : (ins l a x).zip (ins m a y) = ins (l.zip m) a (x, y) := by
  unfold ins
  rw [List.zip_append (by simp; omega)]
  simp [List.zip, List.take_zipWith, List.drop_zipWith]
/-- append of all of another list, wherever it begins. -/
theorem wpList_append_opt {P : Program} (w : World) {ops : Array Oper} {rest : List Oper} {o : Oper} {a : Act} {Q : Exit → Act → World → Prop} (hgd : o.guard = none) (s x : Operand) (t : TypeId)
    (ho : o.op = .call { callee := .builtin .append, args := #[s, x], argTypes := #[t, t] })
    (base : Nat) (e : TypeId) (i : TypeInfo) (z : Value) (size bytes : Nat) (ht : P.underlying t = some (.slice e)) (hi : P.info? e = some i) (hz : i.zero = some z)
    (hsize : i.size = size) (hby : i.bytes = bytes) (hzs : z.cells.size = size) (hsz : 0 < size)
    (v : Value) (n : Nat) (xs : List Value) (hs : a.eval s = v) (hown : w.ownsRow base e size v n xs)
    (ad : Option Addr) (m c : Nat) (news : List Value) (hx : a.eval x = .slice ad m c) (hnone : ad = none → m = 0 ∧ c = 0) (hl : news.length = m * size)
    (hsrc : ∀ adr, ad = some adr → ∀ j u, news[j]? = some u → w.cell? (adr.add j) = some u) (h1 : ∀ u ∈ news, u.oneCell' = true)
    (h63 : n + m ≤ maxLen) (hbytes : (n + m) * bytes ≤ 140737488355328) (hbase : base ≤ w.heap.size)
    (h : ∀ v' w', w'.ownsRow base e size v' (n + m) (xs ++ news) → w.grownBy w' v.ownBlock → (v'.ownBlock = v.ownBlock ∨ v'.ownBlock = some w.heap.size) → wpList P ops Q rest (a.put o.dst v') w') :
    wpList P ops Q (o :: rest) a w := by
  cases ad with
  | none =>
    obtain ⟨rfl, rfl⟩ := hnone rfl
    have hn : news = [] := List.eq_nil_of_length_eq_zero (by simpa using hl)
    subst hn
    refine wpList_append_own_none hgd s x t ho base e i size ht hi v n xs hs hown hx ?_
    exact h v w (by simpa using hown) (World.grownBy.refl _ _) (.inl rfl)
  | some adr =>
    refine wpList_append_own_at w hgd s x t ho base e i z size bytes ht hi hz hsize hby hzs hsz v n xs hs hown adr m c news hx hl (hsrc adr rfl) h1 h63 hbytes hbase ?_
    intro v' w' h1 h2 _ h3
    exact h v' w' h1 h2 h3

theorem add_zero' (g k : Nat) : (⟨g, 0, none⟩ : Addr).add k = ⟨g, k, none⟩ := by unfold Addr.add; split <;> simp_all


theorem slice_loG (ty e s : Nat) (hu : Tryz.prog.underlying ty = some (.slice e)) (hs : ∀ w, (sizeOf e).run Tryz.prog w = .ok s w) (at' : Option Addr) (n ct k : Nat) (w : World) (h : k ≤ n) (hc : n ≤ ct) (hform : ∀ x, at' = some x → ∃ g, x = ⟨g, 0, none⟩) :
    (Instr.slice ty (.slice at' n ct) none (some (.int .i64 (k : Int))) none).run Tryz.prog w = .ok (.slice at' k ct) w := by
  have he : Tryz.prog.elem ty = e := by simp [Program.elem, hu]
  have ht' : Tryz.prog.underlying ty = some (.slice (Tryz.prog.elem ty)) := by rw [he]; exact hu
  rw [run_slice_h w ty _ _ _ ht' .i64 _ (by omega) (by omega), he, hs]
  simp only [Result.andThen, sliced, Nat.zero_mul, Int.toNat_natCast, Nat.sub_zero]
  cases at' with
  | none => simp
  | some x =>
    obtain ⟨g, rfl⟩ := hform x rfl
    simp [add_zero']

theorem slice_hiG (ty e s : Nat) (hu : Tryz.prog.underlying ty = some (.slice e)) (hs : ∀ w, (sizeOf e).run Tryz.prog w = .ok s w) (at' : Option Addr) (n ct k : Nat) (h : k ≤ n) (hc : n ≤ ct) (hnone : at' = none → n = 0 ∧ ct = 0) (hform : ∀ x, at' = some x → ∃ g, x = ⟨g, 0, none⟩) :
    ∃ ad, (∀ w, (Instr.slice ty (.slice at' n ct) (some (.int .i64 (k : Int))) none none).run Tryz.prog w = .ok (.slice ad (n - k) (ct - k)) w) ∧ (ad = none → n - k = 0 ∧ ct - k = 0) ∧ ∀ adr, ad = some adr → 0 < n - k → ∃ g, at' = some ⟨g, 0, none⟩ ∧ adr = ⟨g, k * s, none⟩ := by
  have he : Tryz.prog.elem ty = e := by simp [Program.elem, hu]
  have ht' : Tryz.prog.underlying ty = some (.slice (Tryz.prog.elem ty)) := by rw [he]; exact hu
  refine ⟨if ct = k then at' else at'.map (·.add (k * s)), ?_, ?_, ?_⟩
  · intro w
    rw [run_slice_l w ty _ _ _ ht' .i64 _ (by omega) (by omega), he, hs]
    simp only [Result.andThen, sliced, Int.toNat_natCast]
  · intro e
    cases at' with
    | none => obtain ⟨rfl, rfl⟩ := hnone rfl; omega
    | some x => split at e <;> simp at e
  · intro adr e hpos
    rw [if_neg (by omega)] at e
    cases at' with
    | none => simp at e
    | some x =>
      obtain ⟨g, rfl⟩ := hform x rfl
      simp only [Option.map_some, Option.some.injEq] at e
      exact ⟨g, rfl, by rw [← e, add_zero']⟩

/-- What the two halves of an own list are, at whatever place it is cut. -/
theorem halves {w : World} {base e size n ct : Nat} {at' : Option Addr} {xs : List Value} (h : w.ownsRow base e size (.slice at' n ct) n xs) :
    (∀ x, at' = some x → ∃ g, x = ⟨g, 0, none⟩) ∧ (at' = none → n = 0 ∧ ct = 0) ∧ n ≤ ct ∧ (∀ g, at' = some ⟨g, 0, none⟩ → ∀ j u, xs[j]? = some u → w.cell? ⟨g, j, none⟩ = some u) := by
  refine ⟨?_, ?_, ?_, ?_⟩
  · intro x hx
    rcases h.2 with ⟨e1, _⟩ | ⟨g, cp, cur, e1, _⟩
    · cases e1; simp at hx
    · cases e1; exact ⟨g, (Option.some.inj hx).symm⟩
  · intro hx
    rcases h.2 with ⟨e1, e2⟩ | ⟨g, cp, cur, e1, _⟩
    · cases e1; exact ⟨e2, rfl⟩
    · cases e1; simp at hx
  · rcases h.2 with ⟨e1, e2⟩ | ⟨g, cp, cur, e1, e2⟩
    · cases e1; omega
    · cases e1; exact e2.2.2.1
  · intro g hg j u hu
    have := h.cells (g := g) (by rw [hg]; rfl) j u hu
    rwa [add_zero'] at this
end Go.Proofs.YtpdoacfiiledcaaGreatDoor.Pak

set_option linter.unusedVariables false
set_option maxRecDepth 4000
namespace Go.Proofs.YtpdoacfiiledcaaGreatDoor.Pak
open Go.RowKit Go.Proofs.YtpdoacfiiledcaaGreatDoor Go.Proofs.YtpdoacfiiledcaaGreatDoor.Spl SiftM

/- How many places are set. -/
/- The rows. -/
def rowF (f : Nat → Nat → Option Nat) (d : Nat) : Nat → Nat → List Nat
  | 0, _ => []
  | fuel + 1, p => match f d p with
    | some v => v :: rowF f d fuel (p + 1)
    | none => []
theorem rowF_get (f : Nat → Nat → Option Nat) (d : Nat) : ∀ fuel p i (hi : i < (rowF f d fuel p).length), f d (p + i) = some (rowF f d fuel p)[i]
  | 0, p, i, hi => by simp [rowF] at hi
  | fuel + 1, p, i, hi => by
    cases hf : f d p with
    | none =>
      have e : rowF f d (fuel + 1) p = [] := by simp [rowF, hf]
      simp [e] at hi
    | some v =>
      have e : rowF f d (fuel + 1) p = v :: rowF f d fuel (p + 1) := by simp [rowF, hf]
      simp only [e] at hi ⊢
      cases i with
      | zero => simpa using hf
      | succ i =>
        have := rowF_get f d fuel (p + 1) i (by simpa using hi)
        rw [show p + (i + 1) = p + 1 + i by omega, this]
        simp
/- Lists in order are told by what they hold. -/
theorem pw_ext (xs ys : List (List UInt8)) (hx : xs.Pairwise (· < ·)) (hy : ys.Pairwise (· < ·)) (h : ∀ z, z ∈ xs ↔ z ∈ ys) : xs = ys := by
  have ne : ∀ {a b : List UInt8}, a < b → a ≠ b := fun {a b} h e => by subst e; exact List.lt_irrefl _ h
  have nx : xs.Nodup := List.Pairwise.imp ne hx
  have ny : ys.Nodup := List.Pairwise.imp ne hy
  have hp : xs.Perm ys := (List.perm_ext_iff_of_nodup nx ny).2 h
  exact List.Perm.eq_of_pairwise (le := fun a b : List UInt8 => a < b) (fun a b _ _ h1 h2 => absurd h2 (List.lt_asymm h1)) hx hy hp

end Go.Proofs.YtpdoacfiiledcaaGreatDoor.Pak

