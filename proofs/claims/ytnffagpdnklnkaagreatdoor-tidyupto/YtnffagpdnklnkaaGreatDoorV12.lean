import Derived.Test.YtnffagpdnklnkaaGreatDoorV11
import Derived.Test.YtnffagpdnklnkaaGreatDoorV02
import Derived.Test.YtnffagpdnklnkaaGreatDoorV04
import Derived.Test.YtnffagpdnklnkaaGreatDoorV00
import Derived.Laws.AppendOwnNone
set_option linter.unusedVariables false
set_option linter.unusedSimpArgs false
set_option maxRecDepth 8000
namespace Go.Proofs.YtnffagpdnklnkaaGreatDoor.Pak
open Go.RowKit Go.Proofs.YtnffagpdnklnkaaGreatDoor Go.Proofs.YtnffagpdnklnkaaGreatDoor.Spl SiftM
theorem upTo_below (rows : List (List Nat)) (nt : Nat) (h : ∀ r ∈ rows, ∀ x ∈ r, x < nt) : upTo rows rows.length 0 = belowF rows nt := by
  funext d p
  unfold upTo belowF
  by_cases hd : d < rows.length
  · rw [if_pos (.inl hd), getD_at _ _ hd, List.getElem?_eq_getElem hd]
    by_cases hp : p < rows[d].length
    · rw [getD_at _ _ hp, if_pos ⟨hd, hp, h _ (List.getElem_mem hd) _ (List.getElem_mem hp)⟩]
      simp [hp]
    · rw [if_neg (fun h' => hp h'.2.1)]
      simp at hp
      simp [hp]
  · rw [if_neg (by omega), if_neg (fun h' => hd h'.1)]

theorem terms_split (P : Nat → List Po) : ∀ (ts : List (List UInt8)) (k0 k : Nat) (hk : k < ts.length), termsB P k0 (ts.take (k + 1)) = termsB P k0 (ts.take k) ++ termB ts[k] (P (k0 + k))
  | x :: r, k0, 0, hk => by simp [termsB]
  | x :: r, k0, k + 1, hk => by
    have ih := terms_split P r (k0 + 1) k (by simpa using hk)
    simp only [List.take_succ_cons, termsB, List.append_assoc, List.getElem_cons_succ]
    rw [ih, show k0 + 1 + k = k0 + (k + 1) by omega]

theorem cntP_ok (N : Nat) : ∀ (P : List Po) (least : Nat), OkP N least P → cntP P ≤ 60 * P.length
  | [], _, _ => by simp [cntP]
  | x :: r, least, h => by
    have ih := cntP_ok N r (x.1 + 1) h.2.2.2.2.2.2
    have := h.2.2.2.1
    simp [cntP]; omega

theorem cntK_le (P : Nat → List Po) : ∀ (k n m : Nat), n ≤ m → cntK P k n ≤ cntK P k m
  | k, 0, m, h => by simp [cntK]
  | k, n + 1, 0, h => by omega
  | k, n + 1, m + 1, h => by
    have := cntK_le P (k + 1) n m (by omega)
    simp [cntK]; exact this

theorem terms_len (N : Nat) (P : Nat → List Po) (hP : ∀ k, OkP N 0 (P k)) : ∀ (ts : List (List UInt8)) (k : Nat), (∀ x ∈ ts, x.length ≤ 8) → (termsB P k ts).length ≤ 16 * ts.length + 12 * cntK P k ts.length
  | [], k, _ => by simp [termsB]
  | x :: r, k, h => by
    have ih := terms_len N P hP r (k + 1) (fun y hy => h y (by simp [hy]))
    have h1 := ent_len N (P k) 0 (hP k)
    have h2 := numB_len x.length
    have h3 := numB_len (P k).length
    have h4 := h x (by simp)
    simp only [termsB, termB, List.length_append, List.length_cons, cntK]
    omega

theorem sumW_le : ∀ (T : List Tx), (∀ t ∈ T, t.2.length ≤ 60) → sumW T ≤ 60 * T.length
  | [], _ => by simp [sumW]
  | t :: r, h => by
    have := sumW_le r (fun x hx => h x (by simp [hx]))
    have := h t (by simp)
    simp [sumW]; omega

theorem word_len (x : List UInt8) (h : isWord x = true) : x.length ≤ 8 := by unfold isWord at h; simp at h; exact h.1.2

theorem fine_word (T : List Tx) (hf : Fine T) : ∀ x ∈ termsOf T, x.length ≤ 8 := by
  intro x hx
  obtain ⟨t, ht, hx'⟩ := (allW_iff T x).1 ((terms_mem T x).1 hx)
  exact word_len x (hf.word t ht x hx')

def postT (T : List Tx) : Nat → List Po := fun t => postD (rowsOf T) t (rowsOf T).length
theorem postT_ok (T : List Tx) (hf : Fine T) (t : Nat) : OkP T.length 0 (postT T t) := by
  have := postD_ok (rowsOf T) t T.length (rows_small T hf.few) (rowsOf T).length (by rw [rows_len]; exact Nat.le_refl _)
  exact this
theorem postT_cnt (T : List Tx) (hf : Fine T) (k : Nat) (hk : k ≤ (termsOf T).length) : cntK (postT T) 0 k ≤ 3600 := by
  have h1 := cntK_le (postT T) 0 k (termsOf T).length hk
  have h2 := post_sum (rowsOf T) (termsOf T).length (rowsOf T).length (Nat.le_refl _) (rows_lt T)
  have h3 := cnt_rows (bsIx (termsOf T)) T
  have h4 := sumW_le T hf.few
  have h5 := hf.len
  have e : cntK (postT T) 0 (termsOf T).length = cntTo (rowsOf T) (rowsOf T).length := h2
  rw [e] at h1
  rw [rows_len] at h1
  have e3 : cntTo (rowsOf T) T.length = sumW T := h3
  omega
theorem postT_part (T : List Tx) (hf : Fine T) (k : Nat) : (termsB (postT T) 0 ((termsOf T).take k)).length ≤ 100800 := by
  have h1 := terms_len T.length (postT T) (postT_ok T hf) ((termsOf T).take k) 0 (fun x hx => fine_word T hf x (List.mem_of_mem_take hx))
  have h2 := allW_le T hf.few
  have h3 := hf.len
  have hl : ((termsOf T).take k).length ≤ (termsOf T).length := by rw [List.length_take]; omega
  have h4 := postT_cnt T hf _ hl
  omega
theorem body_eq (T : List Tx) : bodyT T = 83 :: (numB T.length ++ (riseB 0 (T.map Prod.fst) ++ (numB (termsOf T).length ++ termsB (postT T) 0 (termsOf T)))) := by
  unfold bodyT bodyB postT
  rw [List.length_map]

theorem owns_low {w : World} {base base' size n : Nat} {e : TypeId} {v : Value} {xs : List Value} (h : w.ownsRow base e size v n xs) (hb : base' ≤ base) : w.ownsRow base' e size v n xs := by
  refine ⟨h.1, ?_⟩
  rcases h.2 with hn | ⟨g, cap, cur, e1, h1, rest⟩
  · exact .inl hn
  · exact .inr ⟨g, cap, cur, e1, by omega, rest⟩

theorem ListsIs.wr {w w' : World} {base b2 Lb nt Wb : Nat} {vF : Nat → Value} {PF : Nat → List Po} {pF : Nat → List Value} {l : List UInt8} (h : ListsIs w b2 Lb nt vF PF pF) (k : Kb 5 [Wb] base w w') (hw : Wr w Wb base l) : ListsIs w' b2 Lb nt vF PF pF := by
  obtain ⟨v0, hW0, _⟩ := hw
  have h1 : Lb ∉ [Wb] := by
    intro hx
    simp at hx
    subst hx
    have := h.blk
    rw [hW0] at this; simp at this
  refine ⟨k.heap h1 h.blk (by decide), fun t ht => (h.each t ht).kb k (by decide) (by decide) ?_, h.disj⟩
  intro x hx
  simp at hx
  subst hx
  exact foot_ne (h.each t ht) hW0 (by decide) (by decide)

theorem Tabl.wr {w w' : World} {T B Wb base M c : Nat} {ids : List Nat} {terms : List (List UInt8)} {f : Nat → Nat → Option Nat} {iv tv : Value} {l : List UInt8} (h : Tabl w T B ids terms M c f iv tv) (k : Kb 5 [Wb] base w w') (hw : Wr w Wb base l) : Tabl w' T B ids terms M c f iv tv := by
  obtain ⟨v0, hW0, _⟩ := hw
  have h1 : T ∉ [Wb] := by
    intro hx
    simp at hx
    subst hx
    have := h.blk
    rw [hW0] at this; simp at this
  refine ⟨k.heap h1 h.blk (by decide), k.owns h.ids (by decide) ?_, k.owns h.terms (by decide) ?_, h.map.kb k ?_, h.leT, h.leM⟩
  · intro x hx; simp at hx; subst hx; exact owns_ne h.ids hW0 (by decide)
  · intro x hx; simp at hx; subst hx; exact owns_ne h.terms hW0 (by decide)
  · have := map_ne h.map hW0; simpa using this

set_option maxHeartbeats 2000000 in
theorem write_any (B : Nat) (v : Value) (T : List Tx) (vs : List Value) (w : World) (h : TextsIs w B v T vs) (hf : Fine T) :
    Calls Tryz.prog 76 #[v] w fun e w' => ∃ v', e = .returned v' ∧ w'.ownsRow w.heap.size 5 1 v' ((bodyT T).length + 4) (byV (fileT T)) ∧ Kp [] w w' := by
  obtain ⟨av, cv, rfl, hav⟩ := owns_forms h.row
  have htab := tableOf_any B _ T vs w h hf.len hf.few
  have hn := hf.len
  have hnt := allW_le T hf.few
  have hids : ∀ x ∈ T.map Prod.fst, x < 268435456 := by
    intro x hx
    obtain ⟨t, ht, rfl⟩ := List.mem_map.1 hx
    have := hf.ids t ht; omega
  have hrs := hf.rise
  have hil : (T.map Prod.fst).length = T.length := by simp
  have hpart := postT_part T hf
  have hok := postT_ok T hf
  have hwd := fine_word T hf
  have hup := upTo_below (rowsOf T) (termsOf T).length (rows_lt T)
  rw [rows_len] at hup
  have hra := below_rows (rowsOf T) (termsOf T).length (rows_small T hf.few) (rows_lt T)
  have hrsm := rows_small T hf.few
  have hbe := body_eq T
  have hcl := fun t => PFd_closed (rowsOf T) (rowsOf T).length t
  have hrl := rows_len T
  obtain ⟨terms, hterms⟩ : ∃ terms, termsOf T = terms := ⟨_, rfl⟩
  obtain ⟨rows, hrows⟩ : ∃ rows, rowsOf T = rows := ⟨_, rfl⟩
  obtain ⟨ids, hidsE⟩ : ∃ ids, T.map Prod.fst = ids := ⟨_, rfl⟩
  obtain ⟨PT, hPT⟩ : ∃ PT, postT T = PT := ⟨_, rfl⟩
  obtain ⟨n, hnE⟩ : ∃ n, T.length = n := ⟨_, rfl⟩
  obtain ⟨body, hbodyE⟩ : ∃ body, bodyT T = body := ⟨_, rfl⟩
  have hPF : ∀ t, PFd rows rows.length t = PT t := by
    intro t; rw [← hPT, ← hrows]; exact hcl t
  have hfile : fileT T = body ++ sumB body := by rw [← hbodyE]; rfl
  rw [hterms, hrows, hidsE, hnE] at htab
  rw [hterms, hnE] at hnt
  rw [hterms, hPT] at hpart
  rw [hPT, hnE] at hok
  rw [hterms] at hwd
  rw [hrows, hterms, hnE] at hup
  rw [hrows, hterms] at hra
  rw [hrows] at hrsm
  rw [hrows, hnE] at hrl
  rw [hbodyE, hnE, hidsE, hterms, hPT] at hbe
  rw [hidsE] at hids hrs hil
  rw [hnE] at hn hil hav
  rw [hup] at htab
  rw [hbodyE, hfile, hnE]
  have HT := hide htab
  have HI := hide hids
  have HRS := hide hrs
  have Hil := hide hil
  have HPt := hide hpart
  have HOK := hide hok
  have HWd := hide hwd
  have HRA := hide hra
  have HSM := hide hrsm
  have HBE := hide hbe
  have HPF := hide hPF
  have Hrl := hide hrl
  clear htab hids hrs hil hpart hok hwd hup hra hrsm hbe hcl hrl hPF hterms hrows hidsE hPT hnE hbodyE hfile hf h
  go_enter Tryz.func76, Tryz.ntmps76
  go_wp2_with fail
  refine HT.out.mono ?_
  rintro e w1 ⟨M, iv, tv, rfl, hiv, htv, hM, hMb, k1⟩
  obtain ⟨ai, ci, rfl, hai⟩ := owns_forms hiv
  obtain ⟨at', ct, rfl, hat⟩ := owns_forms htv
  have hz1 := k1.size
  have HIV := hide hiv
  have HTV := hide htv
  have HM := hide hM
  clear hiv htv hM HT
  go_wp2_with fail
  obtain ⟨W2, hW2⟩ : ∃ W2, (w1.alloc (.cells #[.slice ai n ci, .slice at' terms.length ct, .map (some M)] 105)).alloc (.cells #[.slice none 0 0] 146) = W2 := ⟨_, rfl⟩
  have k2 : Kp [] w1 W2 := by rw [← hW2]; exact ((Kp.refl _ _).alloc _).alloc _
  have hbT : W2.heap[w1.heap.size]? = some (.cells #[.slice ai n ci, .slice at' terms.length ct, .map (some M)] 105 (0, 0)) := by
    rw [← hW2, Below.heap_alloc _ _ _ (by simp)]; exact heap_alloc_new w1 _
  have hbW : W2.heap[w1.heap.size + 1]? = some (.cells #[.slice none 0 0] 146 (0, 0)) := by
    rw [← hW2]
    have := heap_alloc_new (w1.alloc (.cells #[.slice ai n ci, .slice at' terms.length ct, .map (some M)] 105)) (.cells #[.slice none 0 0] 146)
    rw [World.size_alloc] at this
    exact this
  obtain ⟨Tb, hTb⟩ : ∃ Tb, w1.heap.size = Tb := ⟨_, rfl⟩
  obtain ⟨Wb, hWb⟩ : ∃ Wb, w1.heap.size + 1 = Wb := ⟨_, rfl⟩
  rw [hTb] at hbT
  rw [hWb] at hbW
  rw [hW2, hWb, hTb]
  have hwr2 : Wr W2 Wb w.heap.size [] := ⟨_, hbW, World.ownsRow_nil _ _ _ _⟩
  have htb2 : Tabl W2 Tb w.heap.size ids terms M (cntTo rows n) (belowF rows terms.length) (.slice ai n ci) (.slice at' terms.length ct) := by
    refine ⟨hbT, ?_, k2.owns HTV.out (by simp), HM.out.kp k2 (by simp), by omega, hMb⟩
    have := k2.owns HIV.out (by simp)
    rw [Hil.out]; exact this
  have hTW : w.heap.size ≤ Tb ∧ w.heap.size ≤ Wb := by omega
  have hz2 := k2.size
  have kw2 : Kb 5 [Wb] w.heap.size w W2 := Kb.of_kp (k1.next k2) (by simp)
  have hWlt := heap_lt hbW
  have HW2 := hide hwr2
  have HT2 := hide htb2
  clear hwr2 htb2 hbT hbW hW2 hTb hWb HIV HTV HM
  refine (wtext_any Wb w.heap.size [] ⟨#[83]⟩ W2 HW2.out (by omega) (by decide)).mono ?_
  rintro e w3 ⟨rfl, hw3, k3⟩
  have hz3 := k3.size
  have ht3 := HT2.out.wr k3 HW2.out
  obtain ⟨b0, b1, b2, _, _, _⟩ := tb_cells ht3.blk
  have hTlt := heap_lt ht3.blk
  have kw3 := kw2.next k3
  have HW3 := hide hw3
  have HT3 := hide ht3
  clear hw3 ht3 HW2 HT2 k3 kw2
  go_wp2_with fail
  refine (wnum_any Wb w.heap.size _ n w3 HW3.out (by omega) (by simp) (by omega)).mono ?_
  rintro e w4 ⟨rfl, hw4, k4⟩
  have hz4 := k4.size
  have ht4 := HT3.out.wr k4 HW3.out
  clear b0 b1 b2 hTlt
  obtain ⟨b0, b1, b2, _, _, _⟩ := tb_cells ht4.blk
  have hTlt := heap_lt ht4.blk
  have kw4 := kw3.next k4
  have hn1 := numB_len n
  have HW4 := hide hw4
  have HT4 := hide ht4
  clear hw4 ht4 HW3 HT3 k4 kw3
  go_wp2_with fail
  have hi4 : Hid (w4.ownsRow w.heap.size 3 1 (.slice ai n ci) ids.length (intV ids)) := HT4.out.ids
  refine (wrising_any Wb w.heap.size w.heap.size _ _ ids w4 HW4.out hi4.out (by omega) (by rw [Hil.out]; simp; omega) (by rw [Hil.out]; omega) HRS.out HI.out).mono ?_
  rintro e w5 ⟨rfl, hw5, k5⟩
  have hz5 := k5.size
  have ht5 := HT4.out.wr k5 HW4.out
  clear b0 b1 b2 hTlt
  obtain ⟨b0, b1, b2, _, _, _⟩ := tb_cells ht5.blk
  have hTlt := heap_lt ht5.blk
  have kw5 := kw4.next k5
  have hn2 := riseB_len ids 0
  have HW5 := hide hw5
  have HT5 := hide ht5
  clear hw5 ht5 HW4 HT4 k5 kw4 hi4
  go_wp2_with fail
  refine (wnum_any Wb w.heap.size _ terms.length w5 HW5.out (by omega) (by rw [Hil.out] at hn2; simp; omega) (by omega)).mono ?_
  rintro e w6 ⟨rfl, hw6, k6⟩
  have hz6 := k6.size
  have ht6 := HT5.out.wr k6 HW5.out
  clear b0 b1 b2 hTlt
  obtain ⟨b0, b1, b2, _, _, _⟩ := tb_cells ht6.blk
  have hTlt := heap_lt ht6.blk
  have kw6 := kw5.next k6
  have hn3 := numB_len terms.length
  obtain ⟨pre, hpre⟩ : ∃ pre, [] ++ (ByteArray.mk #[83]).data.toList ++ numB n ++ riseB 0 ids ++ numB terms.length = pre := ⟨_, rfl⟩
  have hpl : pre.length ≤ 300 := by rw [← hpre]; rw [Hil.out] at hn2; simp; omega
  have hfin : Hid (body = pre ++ termsB PT 0 terms) := by
    show _ = _
    rw [HBE.out, ← hpre]; simp
  have hp0 : 0 < pre.length := by rw [← hpre]; simp
  rw [hpre] at hw6
  have HW6 := hide hw6
  have HT6 := hide ht6
  have HB6 := hide (show w6.cell? ⟨Tb, 0, none⟩ = _ ∧ w6.cell? ⟨Tb, 1, none⟩ = _ from ⟨b0, b1⟩)
  clear hw6 ht6 HW5 HT5 k6 kw5 hpre HBE
  go_wp2_with fail
  have hids6 := HT6.out.ids
  have hterms6 := HT6.out.terms
  have hPO := postings_any M _ w.heap.size _ _ _ ids terms rows w6 HT6.out.map hids6 hterms6 HRA.out HSM.out (by rw [Hrl.out, Hil.out]) (by rw [Hil.out]; exact hn) (by omega)
  clear hids6 hterms6
  refine hPO.mono ?_
  rintro e w7 ⟨Lb, vF, pF, rfl, hL7, hLb, k7⟩
  have hz7 := k7.size
  have hw7 := HW6.out.kp k7 (by simp) (by simp)
  have ht7 := HT6.out.kp k7 (HT6.out.map.kp k7 (by simp)) (by simp) (by simp) (by simp)
  have kw7 : Kb 5 [Wb] w.heap.size w w7 := kw6.next (Kb.of_kp k7 (by simp))
  have hb7 : w.heap.size ≤ w7.heap.size := kw7.size
  have HW7 := hide hw7
  have HT7 := hide ht7
  have HL7 := hide hL7
  clear hw7 ht7 hL7 hPO HW6 HT6 HB6 k7 kw6 b0 b1 b2 hTlt
  go_wp2_with fail
  obtain ⟨H6, hH6⟩ : ∃ H6, w6.heap.size = H6 := ⟨_, rfl⟩
  rw [hH6] at HL7
  clear hH6
  go_loopw [24] (fun iv wr => ∃ k : Nat, k ≤ terms.length ∧ iv = .int .i64 k ∧ Wr wr Wb w.heap.size (pre ++ termsB PT 0 (terms.take k)) ∧ Tabl wr Tb w.heap.size ids terms M (cntTo rows n) (belowF rows terms.length) (.slice ai n ci) (.slice at' terms.length ct) ∧ ListsIs wr H6 Lb terms.length vF (PFd rows rows.length) pF ∧ w.heap.size ≤ wr.heap.size ∧ Kb 5 [Wb] w.heap.size w wr) (fun iv _ => terms.length - (intOf iv).toNat)
  case atStart => exact ⟨0, by omega, rfl, by simpa [termsB] using HW7.out, HT7.out, HL7.out, hb7, kw7⟩
  case round =>
    clear HW7 HT7 HL7 kw7 hb7
    obtain ⟨k, hk, rfl, hwk, htk, hlk, hbk, hkb⟩ := hrel
    by_cases hlt : k < terms.length
    · obtain ⟨gt, rfl⟩ := hat (by omega)
      obtain ⟨c0, c1, c2, _, _, _⟩ := tb_cells htk.blk
      have hTlt := heap_lt htk.blk
      have hLlt := heap_lt hlk.blk
      have hct := strs_cells htk.terms rfl k hlt
      obtain ⟨hcl, _⟩ := lists_cell hlk.blk hlt
      have hpo := hlk.each k hlt
      rw [HPF.out k] at hpo
      obtain ⟨ap, cp, ev, _⟩ := owns_forms hpo.row
      rw [ev] at hpo hcl
      have hsp := hide (terms_split PT terms 0 k hlt)
      have hwl := HWd.out terms[k] (List.getElem_mem hlt)
      obtain ⟨tm, htm⟩ : ∃ tm, terms[k] = tm := ⟨_, rfl⟩
      rw [htm] at hct hsp hwl
      rw [Nat.zero_add] at hsp
      have hgt := (htk.terms.lt gt rfl).2
      have hpk := HPt.out k
      have hok := HOK.out k
      have hcn := cntP_ok n (PT k) 0 hok
      have hol := okP_len n (PT k) 0 hok
      obtain ⟨Pk, hPk⟩ : ∃ Pk, PT k = Pk := ⟨_, rfl⟩
      rw [hPk] at hpo hsp hok hcn hol hcl
      have hTE := wterm_any Wb w.heap.size H6 n (pre ++ termsB PT 0 (terms.take k)) tm (.slice ap Pk.length cp) Pk (pF k) wr hwk hpo hbk hok hn hwl (by rw [List.length_append]; omega)
      have HWk := hide hwk
      have HTk := hide htk
      have HLk := hide hlk
      have HTE := hide hTE
      clear hwk htk hlk hTE hpo hok ev htm hPk hpk
      go_wp2_with fail
      refine HTE.out.mono ?_
      rintro e w8 ⟨rfl, hw8, k8⟩
      have hz8 := k8.size
      have ht8 := HTk.out.wr k8 HWk.out
      have hl8 := HLk.out.wr k8 HWk.out
      have kw8 := hkb.next k8
      have HW8 := hide hw8
      have HT8 := hide ht8
      have HL8 := hide hl8
      clear hw8 ht8 hl8 HWk HTk HLk HTE c0 c1 c2 hct hcl k8 hkb
      go_wp2_with fail
      go_roundw
      case rel =>
        refine ⟨k + 1, by omega, by go_num, ?_, HT8.out, HL8.out, by omega, kw8⟩
        rw [hsp.out, ← List.append_assoc]; exact HW8.out
      case measure => simp [intOf]; omega
    · have e : k = terms.length := by omega
      subst e
      have hpk := HPt.out terms.length
      rw [List.take_length] at hwk hpk
      have hSE := sealed_any Wb w.heap.size _ wr hwk (by rw [List.length_append]; omega) (by rw [List.length_append]; omega)
      rw [← hfin.out] at hSE
      have HSE := hide hSE
      clear hwk htk hlk hSE hpk
      go_wp2_with fail
      refine HSE.out.mono ?_
      rintro e w9 ⟨v9, rfl, ho9, k9⟩
      obtain ⟨a9, c9, rfl, _⟩ := owns_forms ho9
      have hk9 : Kp [] w w9 := (Kp.of_below [] (hkb.below (Nat.le_refl _) (by simp; omega) (Nat.le_refl _))).next k9
      have HO9 := hide (owns_low ho9 hbk)
      clear ho9 k9 HSE hkb
      go_wp2_with fail
      go_ret
      exact ⟨_, rfl, HO9.out, hk9⟩
def tx3 (xs : List (Nat × Value)) : List Value := xs.flatMap fun x => [Value.int .i64 (x.1 : Int), x.2, .bool false]
/-- The document's docs. -/
structure DocsIs (w : World) (base : Nat) (v : Value) (T : List Tx) (vs : List Value) : Prop where
  len : vs.length = T.length
  row : w.ownsRow base 266 3 v T.length (tx3 ((T.map Prod.fst).zip vs))
  each : ∀ i (h : i < T.length) (h2 : i < vs.length), w.ownsRow base 9 1 vs[i] T[i].2.length (strV T[i].2)
def SortT (T : List Tx) : Prop := T.Pairwise fun x y => x.1 < y.1
end Go.Proofs.YtnffagpdnklnkaaGreatDoor.Pak
namespace Go.Proofs.YtnffagpdnklnkaaGreatDoor.St
/-- What leads out of a state. -/
structure Ex where
  ends : Bool
  to : List Nat
deriving DecidableEq

abbrev Wd := List Nat
def res (D : List Wd) (p : Wd) : List Wd := (D.filter (fun d => p.isPrefixOf d)).map (·.drop p.length)
def lsAt (ls : List (List Wd)) : Nat → List Wd
  | 0 => []
  | s + 1 => ls.getD s []
/-- The texts behind a state of these exits. -/
def lang (ls : List (List Wd)) (e : Ex) : List Wd := (if e.ends then [[]] else []) ++ (List.range 36).flatMap (fun j => (lsAt ls (e.to.getD j 0)).map (j :: ·))

/-- States that were made so far, and the texts behind each. -/
structure G (kn : List Ex) (ls : List (List Wd)) : Prop where
  len : kn.length = ls.length
  nd : kn.Nodup
  ne : ∀ i (h : i < ls.length), ls[i] ≠ []
  lg : ∀ i (h : i < ls.length) (h2 : i < kn.length), ls[i] = lang ls kn[i]
  lt : ∀ i (h2 : i < kn.length) j, (kn[i].to.getD j 0) ≤ i
  sz : ∀ i (h2 : i < kn.length), kn[i].to.length = 36

theorem nodup_inj {α : Type} {l : List α} (h : l.Nodup) {a b : Nat} (ha : a < l.length) (hb : b < l.length) (e : l[a] = l[b]) : a = b := by
  have hp : l.Pairwise (· ≠ ·) := h
  rw [List.pairwise_iff_getElem] at hp
  rcases Nat.lt_trichotomy a b with h1 | h1 | h1
  · exact absurd e (hp a b ha hb h1)
  · exact h1
  · exact absurd e.symm (hp b a hb ha h1)

/-- What stands behind a sign. -/
def after (j : Nat) (R : List Wd) : List Wd := R.filterMap fun d => match d with
  | [] => none
  | c :: t => if c = j then some t else none
theorem after_append (j : Nat) (A B : List Wd) : after j (A ++ B) = after j A ++ after j B := by simp [after, List.filterMap_append]
theorem after_map_same (j : Nat) (R : List Wd) : after j (R.map (j :: ·)) = R := by
  induction R with
  | nil => rfl
  | cons a r ih => simp only [after, List.map_cons, List.filterMap_cons, if_true] at ih ⊢; rw [ih]
theorem after_map_other {j k : Nat} (h : k ≠ j) (R : List Wd) : after j (R.map (k :: ·)) = [] := by
  induction R with
  | nil => rfl
  | cons a r ih => simp only [after, List.map_cons, List.filterMap_cons, h, if_false] at ih ⊢; exact ih
theorem after_flat (f : Nat → List Wd) (j : Nat) : ∀ n, after j ((List.range n).flatMap fun i => (f i).map (i :: ·)) = if j < n then f j else []
  | 0 => by simp [after]
  | n + 1 => by
    rw [List.range_succ, List.flatMap_append, after_append, after_flat f j n]
    simp only [List.flatMap_cons, List.flatMap_nil, List.append_nil]
    by_cases h : j < n
    · rw [if_pos h, if_pos (by omega), after_map_other (by omega), List.append_nil]
    · rw [if_neg h]
      by_cases h2 : j = n
      · subst h2; rw [after_map_same, if_pos (by omega)]; rfl
      · rw [after_map_other (by omega), if_neg (by omega)]; rfl
theorem after_lang {ls : List (List Wd)} {e : Ex} {j : Nat} (hj : j < 36) : after j (lang ls e) = lsAt ls (e.to.getD j 0) := by
  unfold lang
  rw [after_append, after_flat (fun i => lsAt ls (e.to.getD i 0)) j 36, if_pos hj]
  split <;> simp [after]
theorem nil_lang {ls : List (List Wd)} {e : Ex} : [] ∈ lang ls e ↔ e.ends = true := by
  unfold lang
  constructor
  · intro h
    rcases List.mem_append.1 h with h | h
    · split at h
      · assumption
      · simp at h
    · obtain ⟨k, hk, hw⟩ := List.mem_flatMap.1 h
      obtain ⟨x, hx, e⟩ := List.mem_map.1 hw
      cases e
  · intro h
    exact List.mem_append.2 (.inl (by simp [h]))

/-- States with the same texts behind them are one. -/
theorem G.inj {kn : List Ex} {ls : List (List Wd)} (h : G kn ls) : ∀ n a b (ha : a < ls.length) (hb : b < ls.length), a < n → ls[a] = ls[b] → a = b := by
  intro n
  induction n with
  | zero => intro a b _ _ h0; omega
  | succ n ih =>
    intro a b ha hb hn e
    have ha' : a < kn.length := by rw [h.len]; exact ha
    have hb' : b < kn.length := by rw [h.len]; exact hb
    have e1 : lang ls kn[a] = lang ls kn[b] := by rw [← h.lg a ha ha', ← h.lg b hb hb', e]
    have hE : kn[a].ends = kn[b].ends := by
      have h1 := @nil_lang ls kn[a]
      have h2 := @nil_lang ls kn[b]
      rw [e1] at h1
      have h3 := h1.symm.trans h2
      cases hx : kn[a].ends <;> cases hy : kn[b].ends <;> simp [hx, hy] at h3 ⊢
    have hT : ∀ j, j < 36 → kn[a].to.getD j 0 = kn[b].to.getD j 0 := by
      intro j hj
      have h1 : lsAt ls (kn[a].to.getD j 0) = lsAt ls (kn[b].to.getD j 0) := by rw [← after_lang hj, ← after_lang hj, e1]
      have la := h.lt a ha' j
      have lb := h.lt b hb' j
      generalize kn[a].to.getD j 0 = x at *
      generalize kn[b].to.getD j 0 = y at *
      cases x with
      | zero =>
        cases y with
        | zero => rfl
        | succ y =>
          have hy : y < ls.length := by omega
          simp only [lsAt, List.getD_eq_getElem?_getD, List.getElem?_eq_getElem hy, Option.getD_some] at h1
          exact absurd h1.symm (h.ne y hy)
      | succ x =>
        have hx : x < ls.length := by omega
        cases y with
        | zero =>
          simp only [lsAt, List.getD_eq_getElem?_getD, List.getElem?_eq_getElem hx, Option.getD_some] at h1
          exact absurd h1 (h.ne x hx)
        | succ y =>
          have hy : y < ls.length := by omega
          simp only [lsAt, List.getD_eq_getElem?_getD, List.getElem?_eq_getElem hx, List.getElem?_eq_getElem hy, Option.getD_some] at h1
          have := ih x y hx hy (by omega) h1
          omega
    have hK : kn[a] = kn[b] := by
      have s1 := h.sz a ha'
      have s2 := h.sz b hb'
      cases hA : kn[a] with
      | mk ea ta =>
        cases hB : kn[b] with
        | mk eb tb =>
          rw [hA, hB] at hE
          rw [hA] at s1
          rw [hB] at s2
          simp only [hA, hB] at hT
          simp only [Ex.mk.injEq]
          refine ⟨hE, List.ext_getElem (by rw [show ta.length = 36 from s1, show tb.length = 36 from s2]) fun j h1 h2 => ?_⟩
          have := hT j (by have : ta.length = 36 := s1; omega)
          simpa [List.getD_eq_getElem?_getD, List.getElem?_eq_getElem h1, List.getElem?_eq_getElem h2] using this
    exact nodup_inj h.nd ha' hb' hK
theorem G.nodup {kn : List Ex} {ls : List (List Wd)} (h : G kn ls) : ls.Nodup := by
  show ls.Pairwise (· ≠ ·)
  rw [List.pairwise_iff_getElem]
  intro i j hi hj hij e
  have := h.inj (i + 1) i j hi hj (by omega) e
  omega
theorem lsAt_pre {ls ls' : List (List Wd)} (h : ls <+: ls') : ∀ s, s ≤ ls.length → lsAt ls' s = lsAt ls s
  | 0, _ => rfl
  | s + 1, hs => by
    obtain ⟨m, rfl⟩ := h
    simp only [lsAt, List.getD_eq_getElem?_getD]
    rw [List.getElem?_append_left (by omega)]
theorem lang_pre {ls ls' : List (List Wd)} (h : ls <+: ls') {e : Ex} (he : ∀ j, e.to.getD j 0 ≤ ls.length) : lang ls' e = lang ls e := by
  unfold lang
  congr 1
  have : (fun j => (lsAt ls' (e.to.getD j 0)).map (j :: ·)) = (fun j => (lsAt ls (e.to.getD j 0)).map (j :: ·)) := by
    funext j; rw [lsAt_pre h _ (he j)]
  rw [this]

/-- The state of these exits. -/
def stOf (kn : List Ex) (e : Ex) : Nat × List Ex := if e ∈ kn then (kn.idxOf e + 1, kn) else (kn.length + 1, kn ++ [e])

theorem stOf_spec {kn : List Ex} {ls : List (List Wd)} (h : G kn ls) (e : Ex) (hs : e.to.length = 36) (hl : ∀ j, e.to.getD j 0 ≤ ls.length) (hne : lang ls e ≠ []) :
    ∃ ls', G (stOf kn e).2 ls' ∧ ls <+: ls' ∧ kn <+: (stOf kn e).2 ∧ 1 ≤ (stOf kn e).1 ∧ (stOf kn e).1 ≤ ls'.length ∧ lsAt ls' (stOf kn e).1 = lang ls e ∧ ∀ R, R ∈ ls' ↔ R ∈ ls ∨ R = lang ls e := by
  unfold stOf
  by_cases hm : e ∈ kn
  · rw [if_pos hm]
    have hi : kn.idxOf e < kn.length := List.idxOf_lt_length_of_mem hm
    have hi2 : kn.idxOf e < ls.length := by rw [← h.len]; exact hi
    have he : ls[kn.idxOf e] = lang ls e := by
      rw [h.lg _ hi2 hi]; congr 1; exact List.getElem_idxOf hi
    refine ⟨ls, h, List.prefix_refl _, List.prefix_refl _, by simp, hi2, ?_, fun R => ⟨.inl, fun hR => ?_⟩⟩
    · simp only [lsAt, List.getD_eq_getElem?_getD, List.getElem?_eq_getElem hi2, Option.getD_some]; exact he
    · rcases hR with hR | rfl
      · exact hR
      · rw [← he]; exact List.getElem_mem _
  · rw [if_neg hm]
    have hp : ls <+: ls ++ [lang ls e] := List.prefix_append _ _
    refine ⟨ls ++ [lang ls e], ⟨by simp [h.len], ?_, ?_, ?_, ?_, ?_⟩, hp, List.prefix_append _ _, by simp, by simp [h.len], ?_, fun R => by simp⟩
    · show (kn ++ [e]).Pairwise (· ≠ ·)
      rw [List.pairwise_append]
      exact ⟨h.nd, by simp, fun a ha b hb => by simp at hb; subst hb; exact fun e' => hm (e' ▸ ha)⟩
    · intro i hi
      by_cases hlt : i < ls.length
      · rw [List.getElem_append_left hlt]; exact h.ne i hlt
      · rw [List.getElem_append_right (by omega)]; simpa using hne
    · intro i hi hi2
      by_cases hlt : i < ls.length
      · rw [List.getElem_append_left hlt, List.getElem_append_left (by rw [h.len]; exact hlt)]
        have hk : i < kn.length := by rw [h.len]; exact hlt
        rw [lang_pre hp (fun j => by have := h.lt i hk j; omega)]
        exact h.lg i hlt hk
      · have hk : ¬ i < kn.length := by rw [h.len]; exact hlt
        have hii : i = ls.length := by simp at hi; omega
        rw [List.getElem_append_right (by omega), List.getElem_append_right (by omega)]
        simp only [hii, h.len, Nat.sub_self, List.getElem_singleton]
        exact (lang_pre hp hl).symm
    · intro i hi2 j
      by_cases hlt : i < kn.length
      · rw [List.getElem_append_left hlt]; exact h.lt i hlt j
      · rw [List.getElem_append_right (by omega)]
        have hii : i = kn.length := by simp at hi2; omega
        simp only [hii, Nat.sub_self, List.getElem_singleton]
        have := hl j
        rw [h.len]; exact this
    · intro i hi2
      by_cases hlt : i < kn.length
      · rw [List.getElem_append_left hlt]; exact h.sz i hlt
      · rw [List.getElem_append_right (by omega)]; simpa using hs
    · simp only [lsAt, List.getD_eq_getElem?_getD, h.len]
      rw [List.getElem?_append_right (by omega)]
      simp

/-- The order of words. -/
def wlt : Wd → Wd → Prop
  | [], [] => False
  | [], _ :: _ => True
  | _ :: _, [] => False
  | a :: x, b :: y => a < b ∨ a = b ∧ wlt x y
def Srt (D : List Wd) : Prop := D.Pairwise wlt
def hd (d : Wd) : Nat := d.headD 99

theorem after_cons_ne {j : Nat} {d : Wd} (D : List Wd) (h : ∀ t, d ≠ j :: t) : after j (d :: D) = after j D := by
  cases d with
  | nil => rfl
  | cons c t =>
    have : c ≠ j := fun e => h t (by rw [e])
    simp [after, this]
theorem after_cons_eq (j : Nat) (t : Wd) (D : List Wd) : after j ((j :: t) :: D) = t :: after j D := by simp [after]
theorem mem_after {j : Nat} {t : Wd} {D : List Wd} : t ∈ after j D ↔ j :: t ∈ D := by
  induction D with
  | nil => simp [after]
  | cons d D ih =>
    by_cases h : ∃ s, d = j :: s
    · obtain ⟨s, rfl⟩ := h
      rw [after_cons_eq]; simp [ih]
    · have h' : ∀ s, d ≠ j :: s := fun s e => h ⟨s, e⟩
      rw [after_cons_ne D h', ih]
      simp only [List.mem_cons]
      exact ⟨.inr, fun h => h.resolve_left fun e => h' t e.symm⟩
theorem res_nil (D : List Wd) : res D [] = D := by
  unfold res
  simp
theorem res_cons (D : List Wd) (j : Nat) (q : Wd) : res D (j :: q) = res (after j D) q := by
  induction D with
  | nil => rfl
  | cons d D ih =>
    by_cases h : ∃ s, d = j :: s
    · obtain ⟨s, rfl⟩ := h
      rw [after_cons_eq]
      unfold res at ih ⊢
      rw [List.filter_cons, List.filter_cons]
      by_cases hq : q.isPrefixOf s = true
      · have h1 : (j :: q).isPrefixOf (j :: s) = true := by simp [List.isPrefixOf, hq]
        rw [if_pos h1, if_pos hq, List.map_cons, List.map_cons, ih]; rfl
      · have h1 : ¬ (j :: q).isPrefixOf (j :: s) = true := by simpa [List.isPrefixOf] using hq
        rw [if_neg h1, if_neg hq]; exact ih
    · have h' : ∀ s, d ≠ j :: s := fun s e => h ⟨s, e⟩
      rw [after_cons_ne D h', ← ih]
      unfold res
      rw [List.filter_cons]
      have h1 : ¬ (j :: q).isPrefixOf d = true := by
        cases d with
        | nil => simp [List.isPrefixOf]
        | cons c t =>
          intro e
          simp [List.isPrefixOf] at e
          exact h' t (by rw [e.1])
      rw [if_neg h1]

/-- Words by their heads. -/
theorem srt_heads {a b : Wd} (ha : a ≠ []) (h : wlt a b) : hd a ≤ hd b := by
  cases a with
  | nil => exact absurd rfl ha
  | cons x t =>
    cases b with
    | nil => exact h.elim
    | cons y s => rcases h with h | ⟨h, _⟩ <;> simp [hd] <;> omega
theorem flat_sorted : ∀ n (A : List Wd), A.Pairwise (fun a b => hd a ≤ hd b) → (∀ a ∈ A, a ≠ []) → (∀ a ∈ A, hd a < n) → (List.range n).flatMap (fun j => (after j A).map (j :: ·)) = A
  | 0, A, _, _, h => by
    cases A with
    | nil => rfl
    | cons a r => exact absurd (h a (by simp)) (by omega)
  | n + 1, A, hp, hne, hlt => by
    have hspl : A = A.filter (fun a => decide (hd a < n)) ++ A.filter (fun a => !decide (hd a < n)) := by
      clear hlt hne
      induction A with
      | nil => rfl
      | cons a r ih =>
        have hp' := List.pairwise_cons.1 hp
        by_cases h : hd a < n
        · rw [List.filter_cons_of_pos (by simpa using h), List.filter_cons_of_neg (by simpa using h), List.cons_append]
          congr 1
          exact ih hp'.2
        · have hall : ∀ b ∈ r, ¬ hd b < n := fun b hb => by have := hp'.1 b hb; omega
          rw [List.filter_cons_of_neg (by simpa using h), List.filter_cons_of_pos (by simpa using h)]
          have h1 : r.filter (fun a => decide (hd a < n)) = [] := List.filter_eq_nil_iff.2 fun b hb => by simpa using hall b hb
          have h2 : r.filter (fun a => !decide (hd a < n)) = r := List.filter_eq_self.2 fun b hb => by simpa using hall b hb
          rw [h1, h2]; rfl
    generalize hA1 : A.filter (fun a => decide (hd a < n)) = A1 at hspl
    generalize hA2 : A.filter (fun a => !decide (hd a < n)) = A2 at hspl
    have h1 : ∀ a ∈ A1, a ∈ A ∧ hd a < n := fun a ha => by rw [← hA1, List.mem_filter] at ha; exact ⟨ha.1, by simpa using ha.2⟩
    have h2 : ∀ a ∈ A2, a ∈ A ∧ hd a = n := fun a ha => by
      rw [← hA2, List.mem_filter] at ha
      have hq : ¬ hd a < n := by simpa using ha.2
      have := hlt a ha.1
      exact ⟨ha.1, by omega⟩
    have ea2 : ∀ j, j < n → after j A2 = [] := by
      intro j hj
      clear hA2 hspl
      induction A2 with
      | nil => rfl
      | cons a r ih =>
        have ha := h2 a (by simp)
        rw [after_cons_ne _ (fun t e => by subst e; simp [hd] at ha; omega)]
        exact ih fun b hb => h2 b (by simp [hb])
    have ea1 : after n A1 = [] := by
      clear hA1 hspl
      induction A1 with
      | nil => rfl
      | cons a r ih =>
        have ha := h1 a (by simp)
        rw [after_cons_ne _ (fun t e => by subst e; simp [hd] at ha)]
        exact ih fun b hb => h1 b (by simp [hb])
    have e2 : (after n A2).map (n :: ·) = A2 := by
      clear hA2 hspl ea2
      induction A2 with
      | nil => rfl
      | cons a r ih =>
        have ha := h2 a (by simp)
        cases a with
        | nil => exact absurd rfl (hne _ ha.1)
        | cons c t =>
          have hc : c = n := by simpa [hd] using ha.2
          subst hc
          rw [after_cons_eq, List.map_cons, ih fun b hb => h2 b (by simp [hb])]
    have hp1 : A1.Pairwise (fun a b => hd a ≤ hd b) := by rw [hspl] at hp; exact (List.pairwise_append.1 hp).1
    have ih := flat_sorted n A1 hp1 (fun a ha => hne a (h1 a ha).1) (fun a ha => (h1 a ha).2)
    rw [List.range_succ, List.flatMap_append]
    have hf : (List.range n).flatMap (fun j => (after j A).map (j :: ·)) = (List.range n).flatMap (fun j => (after j A1).map (j :: ·)) := by
      rw [List.flatMap_def, List.flatMap_def]
      congr 1
      refine List.map_congr_left fun j hj => ?_
      rw [hspl, after_append, ea2 j (List.mem_range.1 hj), List.append_nil]
    rw [hf, ih]
    simp only [List.flatMap_cons, List.flatMap_nil, List.append_nil]
    rw [hspl, after_append, ea1, List.nil_append]
    have : A1 ++ A2 = A1 ++ (after n A2).map (n :: ·) := by rw [e2]
    exact this.symm
end Go.Proofs.YtnffagpdnklnkaaGreatDoor.St
