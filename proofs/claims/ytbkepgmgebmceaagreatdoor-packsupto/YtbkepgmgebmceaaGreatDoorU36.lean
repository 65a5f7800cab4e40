import Derived.Test.YtbkepgmgebmceaaGreatDoorU35

set_option linter.unusedVariables false
set_option maxRecDepth 4000
namespace Go.Proofs.YtbkepgmgebmceaaGreatDoor.Pak
open Go.RowKit Go.Proofs.YtbkepgmgebmceaaGreatDoor Go.Proofs.YtbkepgmgebmceaaGreatDoor.Spl SiftM

theorem filter_split {α : Type} (f : α → Nat) (k : Nat) : ∀ L : List α, (L.filter fun s => decide (f s < k + 1)).length = (L.filter fun s => decide (f s < k)).length + (L.filter fun s => decide (f s = k)).length
  | [] => rfl
  | s :: L => by
    have ih := filter_split f k L
    simp only [List.filter_cons]
    by_cases h1 : f s < k
    · rw [if_pos (by simp; omega), if_pos (by simp; omega), if_neg (by simp; omega)]
      simp; omega
    · by_cases h2 : f s = k
      · rw [if_pos (by simp; omega), if_neg (by simp; omega), if_pos (by simp; omega)]
        simp; omega
      · rw [if_neg (by simp; omega), if_neg (by simp; omega), if_neg (by simp; omega)]
        exact ih
theorem pigeon {α : Type} (f : α → Nat) (L : List α) : ∀ k, (∀ i, i < k → ∃ s ∈ L, f s = i) → k ≤ (L.filter fun s => decide (f s < k)).length
  | 0, _ => Nat.zero_le _
  | k + 1, h => by
    have ih := pigeon f L k (fun i hi => h i (by omega))
    obtain ⟨s, hs, e⟩ := h k (by omega)
    have hpos : 0 < (L.filter fun s => decide (f s = k)).length := List.length_pos_of_mem (List.mem_filter.2 ⟨hs, by simpa using e⟩)
    rw [filter_split]; omega
theorem pigeon_le {α : Type} (f : α → Nat) (L : List α) (k : Nat) (h : ∀ i, i < k → ∃ s ∈ L, f s = i) : k ≤ L.length := Nat.le_trans (pigeon f L k h) (List.length_filter_le _ _)

theorem sl3_get : ∀ (L : List Sl) (i : Nat) (h : i < L.length), (sl3 L)[i * 3]? = some (.int .i64 (L[i].1 : Int)) ∧ (sl3 L)[i * 3 + 1]? = some (.int .i64 (L[i].2.1 : Int)) ∧ (sl3 L)[i * 3 + 2]? = some (.string ⟨L[i].2.2.toArray⟩)
  | x :: r, 0, h => by simp [sl3]
  | x :: r, i + 1, h => by
    have ih := sl3_get r i (by simpa using h)
    have e : sl3 (x :: r) = .int .i64 (x.1 : Int) :: .int .i64 (x.2.1 : Int) :: .string ⟨x.2.2.toArray⟩ :: sl3 r := by simp [sl3]
    rw [e, show (i + 1) * 3 = i * 3 + 3 by omega, show i * 3 + 3 + 1 = i * 3 + 1 + 3 by omega, show i * 3 + 3 + 2 = i * 3 + 2 + 3 by omega]
    simpa using ih

def hitS (d p : Nat) (s : Sl) : Bool := decide (s.1 = d) && decide (s.2.1 = p)
theorem rwords_step (L : List Sl) (d f p : Nat) : rwords L d (f + 1) p = match L.find? (hitS d p) with | some s => s.2.2 :: rwords L d f (p + 1) | none => [] := rfl

def goV : Value → Nat
  | .bool true => 1
  | _ => 0
set_option maxHeartbeats 1000000 in
set_option maxRecDepth 100000 in
theorem rwordsOf_any (Bs : Nat) (al : Option Addr) (cl m : Nat) (L : List Sl) (d : Nat) (w : World) (hl : w.ownsRow Bs 423 3 (.slice al m cl) m (sl3 L)) (hm : L.length = m) (hm2 : m ≤ 5000000) :
    Calls Tryz.prog 255 #[.slice al m cl, .int .i64 d] w fun e w' => ∃ (a : Option Addr) (c n : Nat), (rwords L d (m + 1) 0).length = n ∧ e = .returned (.slice a n c) ∧ w'.ownsRow w.heap.size 9 1 (.slice a n c) n (strV (rwords L d (m + 1) 0)) ∧ Kp [] w w' := by
  obtain ⟨i9, hi9, hz0, hz1, hz2⟩ := info_parts Tryz.info9
  obtain ⟨hf1, hf2, hf3, hf4⟩ := halves hl
  have hlb : ∀ g, al = some ⟨g, 0, none⟩ → g < w.heap.size := fun g e => (hl.lt g (by rw [e]; rfl)).2
  have HF1 := hide hf1
  have HF2 := hide hf2
  have HF4 := hide hf4
  have HLB := hide hlb
  have Hm := hide hm
  obtain ⟨R, hR⟩ : ∃ R, rwords L d (m + 1) 0 = R := ⟨_, rfl⟩
  rw [hR]
  have HR := hide hR
  clear hl hf1 hf2 hf4 hm hlb hR hf3
  go_enter Tryz.func255, Tryz.ntmps255
  go_wp2_with fail
  go_loopw [5, 6] (fun wv gv wr => ∃ (k : Nat) (ws : List (List UInt8)) (a : Option Addr) (c : Nat) (go : Bool), wv = .slice a k c ∧ gv = .bool go ∧ ws.length = k ∧ k ≤ m ∧ (∀ i, i < k → ∃ s ∈ L, s.2.1 = i) ∧ (go = true → ws ++ rwords L d (m + 1 - k) k = R) ∧ (go = false → ws = R) ∧ wr.ownsRow w.heap.size 9 1 (.slice a k c) k (strV ws) ∧ Kp [] w wr) (fun wv gv _ => goV gv + 2 * (m + 1 - lenV wv))
  case atStart => exact ⟨0, [], none, 0, true, rfl, rfl, rfl, by omega, fun i hi => absurd hi (by omega), fun _ => HR.out, fun h => by simp at h, World.ownsRow_nil _ _ _ _, Kp.refl _ _⟩
  case round =>
    obtain ⟨k, ws, a, c, go, rfl, rfl, hws, hkm, hpg, hgo, hst, ho, hkp⟩ := hrel
    cases go with
    | false =>
      have he := hst rfl
      subst he
      have HO := hide ho
      have HW := hide hws
      clear hpg hgo hst ho hws
      go_wp2_with fail
      go_ret
      exact ⟨a, c, k, HW.out, rfl, HO.out, hkp⟩
    | true =>
      have hr := hgo rfl
      obtain ⟨fu, hfu⟩ : ∃ fu, m + 1 - k = fu + 1 := ⟨m - k, by omega⟩
      rw [hfu, rwords_step] at hr
      have HRR := hide hr
      have HO := hide ho
      have HW := hide hws
      have HPG := hide hpg
      clear hpg hgo hst ho hws hr
      go_wp2_with fail
      go_loopw [5, 6, 7] (fun wv gv iv w2 => ∃ i : Nat, wv = .slice a k c ∧ gv = .bool false ∧ i ≤ m ∧ iv = .int .i64 i ∧ (∀ s ∈ L.take i, hitS d k s = false) ∧ w2 = wr) (fun _ _ iv _ => m - (intOf iv).toNat)
      case atStart => exact ⟨0, rfl, rfl, by omega, rfl, by simp, rfl⟩
      case round =>
        obtain ⟨i, rfl, rfl, hi, rfl, hno, rfl⟩ := hrel
        by_cases hlt : i < m
        · have hiL : i < L.length := by rw [Hm.out]; exact hlt
          obtain ⟨g, rfl⟩ : ∃ g, al = some ⟨g, 0, none⟩ := by
            cases hal : al with
            | none => have := (HF2.out hal).1; omega
            | some y => obtain ⟨g, rfl⟩ := HF1.out y hal; exact ⟨g, rfl⟩
          obtain ⟨s0, s1, s2⟩ := sl3_get L i hiL
          have q0 := hkp.cellv (HF4.out g rfl _ _ s0) (by simp)
          have q1 := hkp.cellv (HF4.out g rfl _ _ s1) (by simp)
          have q2 := hkp.cellv (HF4.out g rfl _ _ s2) (by simp)
          have hgl : g < wr.heap.size := by have := HLB.out g rfl; have := hkp.size; omega
          have htk := take_snocL L i hiL
          have hmem : L[i] ∈ L := List.getElem_mem hiL
          have hfind : hitS d k L[i] = true → L.find? (hitS d k) = some L[i] := by
            intro h
            rw [List.find?_eq_some_iff_append]
            refine ⟨h, L.take i, L.drop (i + 1), ?_, ?_⟩
            · rw [← List.drop_eq_getElem_cons hiL, List.take_append_drop]
            · intro s hs
              simp [hno s hs]
          obtain ⟨s, hs⟩ : ∃ s, L[i] = s := ⟨_, rfl⟩
          rw [hs] at q0 q1 q2 htk hfind hmem
          obtain ⟨sd, sp', sw⟩ := s
          simp only at q0 q1 q2
          have HNO := hide hno
          have HTK := hide htk
          have HFI := hide hfind
          have HME := hide hmem
          clear hno htk hfind hs s0 s1 s2 hmem
          by_cases hhit : sd = d ∧ sp' = k
          · obtain ⟨rfl, rfl⟩ := hhit
            have hf := HFI.out (by simp [hitS])
            have hr2 := HRR.out
            rw [hf] at hr2
            simp only at hr2
            have hzk := hkp.size
            have hk1 : sp' + 1 ≤ m := by
              rw [← Hm.out]
              refine pigeon_le (fun s : Sl => s.2.1) L (sp' + 1) ?_
              intro j hj
              by_cases e : j = sp'
              · exact ⟨_, HME.out, e.symm⟩
              · exact HPG.out j (by omega)
            have hpg2 : ∀ j, j < sp' + 1 → ∃ s ∈ L, s.2.1 = j := by
              intro j hj
              by_cases e : j = sp'
              · exact ⟨_, HME.out, e.symm⟩
              · exact HPG.out j (by omega)
            have HP2 := hide hpg2
            have HR2 := hide hr2
            clear hf hr2 hpg2 HFI HNO
            go_wp2_with (first
              | (at_builtin; refine wpList_append_own_at _ rfl _ _ 67 rfl w.heap.size 9 i9 (.string ⟨#[]⟩) 1 16 Tryz.underlying67 hi9 hz0 hz1 hz2 rfl (by decide) _ _ _ rfl (HO.out.alloc _) ⟨wr.heap.size, 0, none⟩ 1 1 [.string ⟨sw.toArray⟩] rfl rfl (one_new _ _ _) ?c2 ?c3 ?c4 ?c5 ?_)
              | fail)
            case c2 => intro u hu; simp at hu; subst hu; rfl
            case c3 => unfold maxLen; omega
            case c4 => omega
            case c5 => simp; omega
            intro v2 w2 ho2 hgrow _ _
            obtain ⟨a2, c2, rfl, _⟩ := owns_forms ho2
            have k2 : Kp (Value.slice a sp' c).ownBlock.toList wr w2 := ((Kp.refl _ _).alloc _).grown hgrow (fun j hj => .inl (by simp [hj]))
            have kf : Kp [] w w2 := hkp.trans k2 (fun y hy => .inr (HO.out.lt y (by simpa using hy)).1)
            have ho2' : w2.ownsRow w.heap.size 9 1 (.slice a2 (sp' + 1) c2) (sp' + 1) (strV (ws ++ [sw])) := by
              rw [strV_snoc]; exact ho2
            have HO2 := hide ho2'
            have hfu2 : m + 1 - (sp' + 1) = fu := by omega
            clear ho2 ho2' hgrow k2 HO q0 q1 q2
            go_wp2_with fail
            go_roundw
            case rel => exact ⟨sp' + 1, ws ++ [sw], a2, c2, true, rfl, rfl, by rw [List.length_append, HW.out]; rfl, hk1, HP2.out, fun _ => by rw [hfu2, List.append_assoc]; exact HR2.out, fun h => by simp at h, HO2.out, kf⟩
            case measure => simp [lenV, goV]; omega
          · have hmiss : hitS d k (sd, sp', sw) = false := by
              unfold hitS
              simp only [Bool.and_eq_false_iff, decide_eq_false_iff_not]
              by_cases h1 : sd = d
              · exact .inr (fun h2 => hhit ⟨h1, h2⟩)
              · exact .inl h1
            have hno2 : ∀ s ∈ L.take (i + 1), hitS d k s = false := by
              rw [HTK.out]
              intro s hs
              rcases List.mem_append.1 hs with hs | hs
              · exact HNO.out s hs
              · simp at hs; rw [hs]; exact hmiss
            have HN2 := hide hno2
            clear hno2 hmiss HFI HNO q2
            by_cases h1 : sd = d
            · subst h1
              have h2 : ((sp' : Int) == (k : Int)) = false := by
                have : sp' ≠ k := fun e => hhit ⟨rfl, e⟩
                simp; omega
              clear hhit
              go_wp2_with fail
              go_roundw
              case rel => exact ⟨i + 1, rfl, rfl, by omega, by go_num, HN2.out, trivial⟩
              case measure => simp [intOf]; omega
            · have h2 : ((sd : Int) == (d : Int)) = false := by simp; omega
              clear hhit q1
              go_wp2_with fail
              go_roundw
              case rel => exact ⟨i + 1, rfl, rfl, by omega, by go_num, HN2.out, trivial⟩
              case measure => simp [intOf]; omega
        · have hall : L.find? (hitS d k) = none := by
            rw [List.find?_eq_none]
            intro s hs
            have := hno s (by rw [List.take_of_length_le (by rw [Hm.out]; omega)]; exact hs)
            simp [this]
          have hr2 := HRR.out
          rw [hall] at hr2
          simp only [List.append_nil] at hr2
          have HR2 := hide hr2
          clear hall hr2 hno
          go_wp2_with fail
          go_roundw
          case rel => exact ⟨k, ws, a, c, false, rfl, rfl, HW.out, hkm, HPG.out, fun h => by simp at h, fun _ => HR2.out, HO.out, hkp⟩
          case measure => simp [lenV, goV]
end Go.Proofs.YtbkepgmgebmceaaGreatDoor.Pak

set_option linter.unusedVariables false
set_option maxRecDepth 4000
namespace Go.Proofs.YtbkepgmgebmceaaGreatDoor.Pak
open Go.RowKit Go.Proofs.YtbkepgmgebmceaaGreatDoor Go.Proofs.YtbkepgmgebmceaaGreatDoor.Spl SiftM

def rowD (ids : List Nat) (vF : Nat → Value) : Nat → List Value
  | 0 => []
  | k + 1 => rowD ids vF k ++ [.int .i64 (ids.getD k 0 : Int), vF k, .bool false]
theorem rowD_len (ids : List Nat) (vF : Nat → Value) : ∀ k, (rowD ids vF k).length = k * 3
  | 0 => rfl
  | k + 1 => by simp [rowD, rowD_len ids vF k]; omega
theorem rowD_congr (ids ids' : List Nat) (vF vF' : Nat → Value) : ∀ k, (∀ d, d < k → ids.getD d 0 = ids'.getD d 0 ∧ vF d = vF' d) → rowD ids vF k = rowD ids' vF' k
  | 0, _ => rfl
  | k + 1, h => by
    rw [rowD, rowD, rowD_congr ids ids' vF vF' k (fun d hd => h d (by omega)), (h k (by omega)).1, (h k (by omega)).2]
theorem rowD_set (ids : List Nat) (vF : Nat → Value) (i : Nat) (u : Value) : ∀ k, i < k → (rowD ids vF k).set (i * 3 + 1) u = rowD ids (upd vF i u) k
  | 0, h => by omega
  | k + 1, h => by
    have hl := rowD_len ids vF k
    by_cases e : i = k
    · subst e
      rw [rowD, rowD, List.set_append_right _ _ (by omega), hl, show i * 3 + 1 - i * 3 = 1 by omega]
      rw [rowD_congr ids ids (upd vF i u) vF i (fun d hd => ⟨rfl, by unfold upd; rw [if_neg (by omega)]⟩)]
      simp [upd]
    · rw [rowD, rowD, List.set_append_left _ _ (by omega), rowD_set ids vF i u k (by omega)]
      congr 3
      unfold upd; rw [if_neg (by omega)]
theorem rowD_get (ids : List Nat) (vF : Nat → Value) : ∀ k i, i < k → (rowD ids vF k)[i * 3]? = some (.int .i64 (ids.getD i 0 : Int)) ∧ (rowD ids vF k)[i * 3 + 1]? = some (vF i)
  | 0, i, h => by omega
  | k + 1, i, h => by
    have hl := rowD_len ids vF k
    by_cases e : i = k
    · subst e
      rw [rowD, List.getElem?_append_right (by omega), List.getElem?_append_right (by omega), hl]
      simp
    · have ih := rowD_get ids vF k i (by omega)
      rw [rowD, List.getElem?_append_left (by omega), List.getElem?_append_left (by omega)]
      exact ih
theorem rowD_tx3 (ids : List Nat) (vF : Nat → Value) : ∀ k, rowD ids vF k = tx3 ((List.range k).map fun d => (ids.getD d 0, vF d))
  | 0 => rfl
  | k + 1 => by rw [rowD, rowD_tx3 ids vF k, List.range_succ, List.map_append, tx3_append]; simp [tx3]

def emptyV : Nat → Value := fun _ => .slice none 0 0
/-- The document's docs, by functions. -/
structure DocsF (w : World) (base : Nat) (v : Value) (ids : List Nat) (N : Nat) (wF : Nat → List (List UInt8)) (vF : Nat → Value) : Prop where
  row : w.ownsRow base 251 3 v N (rowD ids vF N)
  each : ∀ d, d < N → w.ownsRow base 9 1 (vF d) (wF d).length (strV (wF d))
theorem DocsF.docs {w : World} {base N : Nat} {v : Value} {ids : List Nat} {wF : Nat → List (List UInt8)} {vF : Nat → Value} (h : DocsF w base v ids N wF vF) : DocsIs w base v ((List.range N).map fun d => (ids.getD d 0, wF d)) ((List.range N).map vF) := by
  refine ⟨by simp, ?_, ?_⟩
  · have e : (((List.range N).map fun d => (ids.getD d 0, wF d)).map Prod.fst).zip ((List.range N).map vF) = (List.range N).map fun d => (ids.getD d 0, vF d) := by
      rw [List.map_map]
      apply List.ext_getElem
      · simp
      · intro i h1 h2; simp
    rw [e, ← rowD_tx3]
    simpa using h.row
  · intro i h1 h2
    have := h.each i (by simpa using h1)
    simpa using this
theorem DocsF.kp {w w' : World} {base N : Nat} {v : Value} {ids : List Nat} {wF : Nat → List (List UInt8)} {vF : Nat → Value} {S : List Nat} (h : DocsF w base v ids N wF vF) (k : Kp S w w') (hv : ∀ x ∈ S, v.ownBlock ≠ some x) (hvs : ∀ d, d < N → ∀ x ∈ S, (vF d).ownBlock ≠ some x) : DocsF w' base v ids N wF vF :=
  ⟨k.owns h.row (fun g hg hx => hv g hx hg), fun d hd => k.owns (h.each d hd) (fun g hg hx => hvs d hd g hx hg)⟩
/-- Where only blocks of other kinds are turned. -/
theorem DocsF.kc {w w' : World} {base N C : Nat} {v : Value} {ids : List Nat} {wF : Nat → List (List UInt8)} {vF : Nat → Value} {cs : Array Value} {t : TypeId} {fr : Nat × Nat} (h : DocsF w base v ids N wF vF) (k : Kp [C] w w') (hC : w.heap[C]? = some (.cells cs t fr)) (h1 : t ≠ 251) (h2 : t ≠ 9) : DocsF w' base v ids N wF vF :=
  h.kp k (by intro x hx; simp at hx; subst hx; exact owns_ne h.row hC h1) (by intro d hd x hx; simp at hx; subst hx; exact owns_ne (h.each d hd) hC h2)
theorem DocsF.put {w w' : World} {base N g cap i : Nat} {lv : Value} {ids : List Nat} {wF : Nat → List (List UInt8)} {vF : Nat → Value} {ws : List (List UInt8)} (h : DocsF w base (.slice (some ⟨g, 0, none⟩) N cap) ids N wF vF) (hi : i < N) (hl : w.ownsRow base 9 1 lv ws.length (strV ws)) :
    DocsF (w.setCell ⟨g, i * 3 + 1, none⟩ lv) base (.slice (some ⟨g, 0, none⟩) N cap) ids N (upd wF i ws) (upd vF i lv) := by
  have k : Kp [g] w (w.setCell ⟨g, i * 3 + 1, none⟩ lv) := (Kp.refl [g] w).setCell (p := ⟨g, i * 3 + 1, none⟩) (.inl (by simp)) _
  have hne : ∀ {n : Nat} {u : Value} {xs : List Value}, w.ownsRow base 9 1 u n xs → ∀ y, u.ownBlock = some y → y ∉ [g] := by
    intro n u xs ho y hy hx
    simp at hx; subst hx
    exact owns_disj h.row ho (by decide) y rfl hy
  refine ⟨?_, ?_⟩
  · have := owns_set h.row (j := i * 3 + 1) (by omega) lv
    rw [rowD_set ids vF i lv N hi] at this
    exact this
  · intro d hd
    unfold upd
    by_cases e : d = i
    · simp only [e, if_true]; exact k.owns hl (hne hl)
    · simp only [e, if_false]; exact k.owns (h.each d hd) (hne (h.each d hd))
end Go.Proofs.YtbkepgmgebmceaaGreatDoor.Pak

set_option linter.unusedVariables false
set_option maxRecDepth 4000
namespace Go.Proofs.YtbkepgmgebmceaaGreatDoor.Pak
open Go.RowKit Go.Proofs.YtbkepgmgebmceaaGreatDoor Go.Proofs.YtbkepgmgebmceaaGreatDoor.Spl SiftM

theorem kp_of_kb {t : TypeId} {a w w' : World} {C : Nat} (h : Kp [] a w) (k : Kb t [C] a.heap.size w w') (hC : a.heap.size ≤ C) : Kp [] a w' :=
  ⟨k.os.trans h.os, k.tape.trans h.tape, k.output.trans h.output, Nat.le_trans h.size k.size, fun i hi hx => by
    have h1 := h.block i hi hx
    have hlt : i < w.heap.size := Nat.lt_of_lt_of_le hi h.size
    have h2 := k.block i _ (by simp; omega) (Array.getElem?_eq_getElem hlt) (.inl hi)
    rw [h2, ← h1, Array.getElem?_eq_getElem hlt]⟩
theorem rowD_snoc (ids : List Nat) (k x : Nat) (h : ids.length = k) : rowD (ids ++ [x]) emptyV (k + 1) = rowD ids emptyV k ++ [.int .i64 (x : Int), .slice none 0 0, .bool false] := by
  rw [rowD, rowD_congr (ids ++ [x]) ids emptyV emptyV k (fun d hd => ⟨by simp [List.getD, List.getElem?_append_left (show d < ids.length by omega)], rfl⟩)]
  congr 2
  subst h
  simp [List.getD]
theorem DocsF.kb {w w' : World} {base N C : Nat} {v : Value} {ids : List Nat} {wF : Nat → List (List UInt8)} {vF : Nat → Value} {cs : Array Value} {fr : Nat × Nat} (h : DocsF w base v ids N wF vF) (k : Kb 423 [C] base w w') (hC : w.heap[C]? = some (.cells cs 356 fr)) : DocsF w' base v ids N wF vF :=
  ⟨k.owns h.row (by decide) (fun x hx => by simp at hx; subst hx; exact owns_ne h.row hC (by decide)), fun d hd => k.owns (h.each d hd) (by decide) (fun x hx => by simp at hx; subst hx; exact owns_ne (h.each d hd) hC (by decide))⟩

def wFi (L : List Sl) (m i : Nat) : Nat → List (List UInt8) := fun d => if d < i then rwords L d (m + 1) 0 else []
theorem wFi_upd (L : List Sl) (m i : Nat) : upd (wFi L m i) i (rwords L i (m + 1) 0) = wFi L m (i + 1) := by
  funext d
  unfold upd wFi
  by_cases e : d = i
  · subst e; simp
  · rw [if_neg e]
    by_cases h : d < i
    · rw [if_pos h, if_pos (by omega)]
    · rw [if_neg h, if_neg (by omega)]

/-- What a call of guess leaves. -/
def GuessPost (F : List UInt8) (w : World) (e : Ending) (w' : World) : Prop :=
  Kp [] w w' ∧ (rguess F = none ∧ e = .returned (.tuple #[.slice none 0 0, .bool false]) ∨
    ∃ (T : List Tx) (a : Option Addr) (c N : Nat) (vs : List Value), rguess F = some T ∧ T.length = N ∧ e = .returned (.tuple #[.slice a N c, .bool true]) ∧ DocsIs w' w.heap.size (.slice a N c) T vs)

theorem rids_len : ∀ (k nx : Nat) (ids : List Nat) (l : List UInt8) (b : Bool), (rids k nx ids l b).1.length ≤ ids.length + k
  | 0, nx, ids, l, b => by simp [rids]
  | k + 1, nx, ids, l, b => by
    rw [rids]
    split
    · simp
    · have := rids_len k (nx + (rnum l b).1 + 1) (ids ++ [nx + (rnum l b).1]) (rnum l b).2.1 (rnum l b).2.2
      simp at this; omega

theorem num_bnd {n p p' : Nat} {b : Bool} (hp : p ≤ n + 1) (hq : p' ≤ n ∨ p' = p) (ha : p < p' ∨ b = true) : p' ≤ n + 1 ∧ (b = false → p' ≤ n) := by
  refine ⟨by omega, fun h => ?_⟩
  subst h
  simp at ha
  omega

set_option maxHeartbeats 1000000 in
set_option maxRecDepth 100000 in
theorem rguess_any (n cap : Nat) (a : Option Addr) (F : List UInt8) (w : World) (hv : Vw w w.heap.size a F) (hn : F.length = n) (hn2 : n ≤ 4000000) (hc : n ≤ cap) :
    Calls Tryz.prog 156 #[.slice a n cap] w (GuessPost F w) := by
  obtain ⟨i0, hi0, hz0, hz1, hz2⟩ := info_parts info148
  obtain ⟨C, hC⟩ : ∃ C, w.heap.size = C := ⟨_, rfl⟩
  have HV := hide hv
  have Hn := hide hn
  have HC := hide hC
  clear hv hn
  go_enter Tryz.func156, Tryz.ntmps156
  go_wp2_with fail
  have h0 : Cu (w.alloc (Obj.cells #[.slice a n cap, .int .i64 1, .bool false] 356)) C C a n cap F 1 false := ⟨by rw [← HC.out]; exact heap_alloc_new _ _, vw_kp (by have := HV.out; rw [HC.out] at this; exact this) ((Kp.refl [] w).alloc _) (by simp), Nat.le_refl _⟩
  have k0 : Kp [] w (w.alloc (Obj.cells #[.slice a n cap, .int .i64 1, .bool false] 356)) := (Kp.refl [] w).alloc _
  refine (rnumber_any C C n cap a F 1 false _ h0 Hn.out hn2 (by omega)).mono ?_
  rintro e w1 ⟨p1, rfl, hc1, hd1, hp1, hq1, ha1, k1⟩
  have hl1 := rnum_lt (F.drop 1) false
  have kk1 : Kp [] w w1 := k0.trans k1 (fun x hx => .inr (by simp at hx; omega))
  obtain ⟨N1, hN1⟩ : ∃ N1, rnum (F.drop 1) false = N1 := ⟨_, rfl⟩
  rw [hN1] at hc1 hd1 ha1 hl1
  rw [hN1]
  rw [Hn.out] at hq1
  obtain ⟨hb1, hb1'⟩ := num_bnd (by omega) hq1 ha1
  obtain ⟨K, hK⟩ : ∃ K, N1.1 = K := ⟨_, rfl⟩
  obtain ⟨b1, hbb⟩ : ∃ b1, N1.2.2 = b1 := ⟨_, rfl⟩
  obtain ⟨RI, hRI⟩ : ∃ RI, rids K 0 [] (F.drop p1) b1 = RI := ⟨_, rfl⟩
  have HG : Hid (rguess F = if 60 < K then none else
      if (rmany (rnum RI.2.1 RI.2.2).1 ([], (rnum RI.2.1 RI.2.2).2.1, (rnum RI.2.1 RI.2.2).2.2)).2.2 = true then none else some ((List.range RI.1.length).map fun d => (RI.1.getD d 0, rwords (rmany (rnum RI.2.1 RI.2.2).1 ([], (rnum RI.2.1 RI.2.2).2.1, (rnum RI.2.1 RI.2.2).2.2)).1 d ((rmany (rnum RI.2.1 RI.2.2).1 ([], (rnum RI.2.1 RI.2.2).2.1, (rnum RI.2.1 RI.2.2).2.2)).1.length + 1) 0))) := by
    show _ = _
    unfold rguess
    simp only [hN1, hK, hbb, ← hd1, hRI]
  rw [hbb] at hc1 hb1'
  rw [hK] at hl1
  rw [hK]
  have HRI := hide hRI
  have HC1 := hide hc1
  have HB1 := hide hb1'
  clear hc1 hd1 hN1 hRI hK hbb h0 k0 k1 ha1 hq1 hb1' HV hp1
  by_cases hbig : 60 < K
  · have hg := HG.out
    rw [if_pos hbig] at hg
    have HGG := hide hg
    clear hg
    go_wp2_with fail
    go_ret2
    exact ⟨kk1, .inl ⟨HGG.out, rfl⟩⟩
  have hg := HG.out
  rw [if_neg hbig] at hg
  have HGG := hide hg
  have hK60 : K ≤ 60 := by omega
  clear hg HG
  go_wp2_with fail
  go_loopw [6, 7, 8] (fun dv xv iv wr => ∃ (i nx : Nat) (ids : List Nat) (al : Option Addr) (cl p : Nat) (b : Bool), i ≤ K ∧ iv = .int .i64 i ∧ xv = .int .i64 ((nx : Int) - 1) ∧ dv = .slice al i cl ∧ ids.length = i ∧ nx ≤ i * 268435456 ∧ rids (K - i) nx ids (F.drop p) b = RI ∧ p ≤ n + 1 ∧ (b = false → p ≤ n) ∧ Cu wr C C a n cap F p b ∧ wr.ownsRow C 251 3 (.slice al i cl) i (rowD ids emptyV i) ∧ Kp [] w wr) (fun _ _ iv _ => K - (intOf iv).toNat)
  case atStart => exact ⟨0, 0, [], none, 0, p1, b1, by omega, rfl, rfl, rfl, rfl, by omega, HRI.out, hb1, HB1.out, HC1.out, World.ownsRow_nil _ _ _ _, kk1⟩
  case round =>
    clear HC1 HB1 HRI kk1 hb1
    obtain ⟨i, nx, ids, al, cl, p, b, hi, rfl, rfl, rfl, hids, hnx, hr, hpn, hpb, hcu, ho, hkp⟩ := hrel
    obtain ⟨c0, c1, c2, f1, f2⟩ := hcu.cells
    have hcl := heap_lt hcu.blk
    by_cases hgo : i < K ∧ b = false
    · obtain ⟨hlt, rfl⟩ := hgo
      obtain ⟨j, hj⟩ : ∃ j, K - i = j + 1 := ⟨K - i - 1, by omega⟩
      rw [hj, rids, if_neg (by simp)] at hr
      have HNU := hide (rnumber_any C C n cap a F p false wr hcu Hn.out hn2 hpn)
      have hl2 := rnum_lt (F.drop p) false
      have HR := hide hr
      have HCU := hide hcu
      have HO := hide ho
      have HID := hide hids
      clear hr hcu ho hids hpb
      go_wp2_with fail
      refine HNU.out.mono ?_
      rintro e w2 ⟨p2, rfl, hc2, hd2, hp2, hq2, ha2, k2⟩
      obtain ⟨N2, hN2⟩ : ∃ N2, rnum (F.drop p) false = N2 := ⟨_, rfl⟩
      rw [hN2] at hc2 hd2 ha2 hl2
      rw [hN2]
      rw [Hn.out] at hq2
      obtain ⟨hb2, hb2'⟩ := num_bnd hpn hq2 ha2
      have HR2 : Hid (rids j (nx + N2.1 + 1) (ids ++ [nx + N2.1]) (F.drop p2) N2.2.2 = RI) := by
        show _ = _
        rw [← HR.out, hN2, hd2]
      obtain ⟨q, hq⟩ : ∃ q, N2.1 = q := ⟨_, rfl⟩
      obtain ⟨b2, hbb2⟩ : ∃ b2, N2.2.2 = b2 := ⟨_, rfl⟩
      rw [hq, hbb2] at HR2
      rw [hq] at hl2
      rw [hbb2] at hc2 hb2'
      rw [hq]
      have hz2' := k2.size
      have HO2 := hide (k2.owns HO.out (fun g hg hx => by simp at hx; subst hx; exact owns_ne HO.out HCU.out.blk (by decide) hg))
      have kk2 : Kp [] w w2 := hkp.trans k2 (fun x hx => .inr (by simp at hx; omega))
      have HC2 := hide hc2
      have HB2 := hide hb2'
      have hbd : nx + q ≤ 72057594037927936 := by omega
      have hzc : C < w2.heap.size := by omega
      clear hc2 hd2 k2 hN2 hq hbb2 HNU HCU HO HR c0 c1 c2 f1 f2 ha2 hq2 hb2' hkp hp2
      go_wp2_with (first
        | (at_builtin; refine wpList_append_own_at _ rfl _ _ 175 rfl C 251 i0 (.agg #[.int .i64 0, .slice none 0 0, .bool false]) 3 40 Tryz.underlying175 hi0 hz0 hz1 hz2 rfl (by decide) _ _ _ rfl (HO2.out.alloc _) ⟨w2.heap.size, 0, none⟩ 1 1 [.int .i64 ((nx : Int) + (q : Int)), .slice none 0 0, .bool false] rfl rfl (World.news_of_block (cs := #[.int .i64 ((nx : Int) + (q : Int)), .slice none 0 0, .bool false]) (t := 251) (fr := (0, 0)) (heap_alloc_new _ _)) ?c2 ?c3 ?c4 ?c5 ?_)
        | fail)
      case c2 => intro u hu; simp at hu; rcases hu with rfl | rfl | rfl <;> rfl
      case c3 => unfold maxLen; omega
      case c4 => omega
      case c5 => simp; omega
      intro v3 w3 ho3 hgrow _ _
      obtain ⟨a3, c3, rfl, _⟩ := owns_forms ho3
      have k3 : Kp (Value.slice al i cl).ownBlock.toList w2 w3 := ((Kp.refl _ _).alloc _).grown hgrow (fun j hj => .inl (by simp [hj]))
      have hge3 : ∀ x ∈ (Value.slice al i cl).ownBlock.toList, C ≤ x := fun x hx => (HO2.out.lt x (by simpa using hx)).1
      have HC3 := hide (HC2.out.kp k3 (fun hx => owns_ne HO2.out HC2.out.blk (by decide) (by simpa using hx)) hge3)
      have kk3 : Kp [] w w3 := kk2.trans k3 (fun x hx => .inr (by have := hge3 x hx; omega))
      have ho3' : w3.ownsRow C 251 3 (.slice a3 (i + 1) c3) (i + 1) (rowD (ids ++ [nx + q]) emptyV (i + 1)) := by
        rw [rowD_snoc ids i (nx + q) HID.out]
        have e1 : (((nx + q : Nat)) : Int) = (nx : Int) + (q : Int) := by omega
        simp only [e1]
        exact ho3
      have HO3 := hide ho3'
      have hj' : K - (i + 1) = j := by omega
      clear ho3 ho3' hgrow k3 HO2 HC2 kk2 hge3
      go_wp2_with fail
      go_roundw
      case rel => exact ⟨i + 1, nx + q + 1, ids ++ [nx + q], a3, c3, p2, b2, by omega, by go_num, by go_num, rfl, by rw [List.length_append, HID.out]; rfl, by omega, by rw [hj']; exact HR2.out, hb2, HB2.out, HC3.out, HO3.out, kk3⟩
      case measure => simp [intOf]; omega
    · have hfin : RI = (ids, F.drop p, b) := by
        rw [← hr]
        by_cases hb : b = true
        · subst hb
          cases K - i with
          | zero => rfl
          | succ j => rw [rids, if_pos rfl]
        · have : K - i = 0 := by
            have hb' : b = false := by simpa using hb
            have hnl : ¬ i < K := fun h => hgo ⟨h, hb'⟩
            omega
          rw [this]; rfl
      have hg := HGG.out
      rw [hfin] at hg
      simp only at hg
      rw [hids] at hg
      have HG2 := hide hg
      have HNU := hide (rnumber_any C C n cap a F p b wr hcu Hn.out hn2 hpn)
      have HCU := hide hcu
      have HO := hide ho
      have HID := hide hids
      have hex : (i < K ∧ b = true) ∨ ¬ i < K := by
        by_cases h : i < K
        · left
          refine ⟨h, ?_⟩
          by_cases hb : b = true
          · exact hb
          · exact absurd ⟨h, by simpa using hb⟩ hgo
        · exact .inr h
      clear hfin hg hcu ho hids hr hgo hpb HGG
      rcases hex with ⟨hlt, rfl⟩ | hlt
      · skip
        go_wp2_with fail
        refine HNU.out.mono ?_
        rintro e w2 ⟨p2, rfl, hc2, hd2, hp2, hq2, ha2, k2⟩
        have hl2 := rnum_lt (F.drop p) true
        obtain ⟨N2, hN2⟩ : ∃ N2, rnum (F.drop p) true = N2 := ⟨_, rfl⟩
        have hg2 := HG2.out
        rw [hN2] at hc2 hd2 ha2 hg2
        rw [hN2]
        rw [Hn.out] at hq2
        obtain ⟨hb2, hb2'⟩ := num_bnd hpn hq2 ha2
        replace hl2 : N2.1 < 268435456 := by rw [← hN2]; exact hl2
        have hz2' := k2.size
        have ho2 := k2.owns HO.out (fun g hg hx => by simp at hx; subst hx; exact owns_ne HO.out HCU.out.blk (by decide) hg)
        have kk2 : Kp [] w w2 := hkp.trans k2 (fun x hx => .inr (by simp at hx; omega))
        have hdf : DocsF w2 C (.slice al i cl) ids i (fun _ => []) emptyV := ⟨ho2, fun d hd => World.ownsRow_nil _ _ _ _⟩
        obtain ⟨M, hM⟩ : ∃ M, N2.1 = M := ⟨_, rfl⟩
        obtain ⟨b2, hbb2⟩ : ∃ b2, N2.2.2 = b2 := ⟨_, rfl⟩
        rw [hM, ← hd2, hbb2] at hg2
        rw [hM] at hl2
        rw [hbb2] at hc2 hb2'
        rw [hM]
        obtain ⟨RM, hRM⟩ : ∃ RM, rmany M ([], F.drop p2, b2) = RM := ⟨_, rfl⟩
        rw [hRM] at hg2
        have HG3 := hide hg2
        have HRM := hide hRM
        have HC2 := hide hc2
        have HB2 := hide hb2'
        have HDF := hide hdf
        clear hc2 hd2 ha2 hq2 hb2' hN2 hM hbb2 hRM hg2 hdf ho2 k2 hkp HNU HCU HO c0 c1 c2 f1 f2 hp2 HG2 hz2' hcl
        go_wp2_with fail
        go_loopw [11, 12] (fun lv iv wr => ∃ (t : Nat) (L : List Sl) (al2 : Option Addr) (cl2 m p : Nat) (b : Bool), t ≤ M ∧ iv = .int .i64 t ∧ lv = .slice al2 m cl2 ∧ L.length = m ∧ rmany (M - t) (L, F.drop p, b) = RM ∧ p ≤ n + 1 ∧ (b = false → p ≤ n ∧ m ≤ p) ∧ m ≤ n + 2 ∧ Cu wr C C a n cap F p b ∧ wr.ownsRow C 423 3 (.slice al2 m cl2) m (sl3 L) ∧ DocsF wr C (.slice al i cl) ids i (fun _ => []) emptyV ∧ Kp [] w wr) (fun _ iv _ => M - (intOf iv).toNat)
        case atStart => exact ⟨0, [], none, 0, 0, p2, b2, by omega, rfl, rfl, rfl, HRM.out, hb2, fun h => ⟨HB2.out h, by omega⟩, by omega, HC2.out, World.ownsRow_nil _ _ _ _, HDF.out, kk2⟩
        case round =>
          clear HC2 HB2 HRM HDF kk2 hb2
          obtain ⟨t, L, al2, cl2, m, p, b, ht, rfl, rfl, hm, hr, hpn, hpb, hmn, hcu, ho, hdf, hkp⟩ := hrel
          obtain ⟨c0, c1, c2, f1, f2⟩ := hcu.cells
          have hcl := heap_lt hcu.blk
          have hzk := hkp.size
          by_cases hgo : t < M ∧ b = false
          · obtain ⟨hlt3, rfl⟩ := hgo
            obtain ⟨j, hj⟩ : ∃ j, M - t = j + 1 := ⟨M - t - 1, by omega⟩
            rw [hj, rmany, if_neg (by simp)] at hr
            have HS := hide (rslots_any C C n cap a F p false C al2 cl2 m L wr hcu Hn.out hn2 hc (hpb rfl).1 rfl ho hm (hpb rfl).2 (by omega) (Nat.le_refl _))
            have HR := hide hr
            have HCU := hide hcu
            have HDF := hide hdf
            clear hr hcu ho hm hpb hdf
            go_wp2_with fail
            refine HS.out.mono ?_
            rintro e w3 ⟨al3, cl3, m3, p3, rfl, hm3, ho3, hc3, hd3, hp3, hq3, hmp3, hmb3, k3⟩
            have hr3 := HR.out
            obtain ⟨S, hS⟩ : ∃ S, rslots L (F.drop p) false = S := ⟨_, rfl⟩
            rw [hS] at hm3 ho3 hc3 hd3 hq3 hmb3 hr3
            have HR3 : Hid (rmany j (S.1, F.drop p3, S.2.2) = RM) := by
              show _ = _
              rw [hd3]; exact hr3
            have hp3n : p3 ≤ n + 1 := by rcases hq3 with h | ⟨_, h⟩ <;> omega
            have hpb3 : S.2.2 = false → p3 ≤ n ∧ m3 ≤ p3 := by
              intro h
              refine ⟨?_, hmb3 h⟩
              rcases hq3 with h' | ⟨h', _⟩
              · exact h'
              · rw [h] at h'; simp at h'
            have kk3 : Kp [] w w3 := kp_of_kb hkp (by rw [HC.out]; exact k3) (by omega)
            have HM3 := hide hm3
            have HO3 := hide ho3
            have HC3 := hide hc3
            have HPB3 := hide hpb3
            have HDF3 := hide (HDF.out.kb k3 HCU.out.blk)
            have hj' : M - (t + 1) = j := by omega
            have hm3n : m3 ≤ n + 2 := by omega
            clear hm3 ho3 hc3 hpb3 hr3 hd3 hq3 hmb3 hS HR HCU HDF HS k3 c0 c1 c2 f1 f2 hkp
            go_wp2_with fail
            go_roundw
            case rel => exact ⟨t + 1, S.1, al3, cl3, m3, p3, S.2.2, by omega, by go_num, rfl, HM3.out, by rw [hj']; exact HR3.out, hp3n, HPB3.out, hm3n, HC3.out, HO3.out, HDF3.out, kk3⟩
            case measure => simp [intOf]; omega
          · have hfin : RM = (L, F.drop p, b) := by
              rw [← hr]
              by_cases hb : b = true
              · subst hb
                cases M - t with
                | zero => rfl
                | succ j => rw [rmany, if_pos rfl]
              · have : M - t = 0 := by
                  have hb' : b = false := by simpa using hb
                  have hnl : ¬ t < M := fun h => hgo ⟨h, hb'⟩
                  omega
                rw [this]; rfl
            have hg3 := HG3.out
            rw [hfin] at hg3
            simp only at hg3
            rw [hm] at hg3
            cases b with
            | true =>
              rw [if_pos rfl] at hg3
              have HG4 := hide hg3
              clear hg3 hfin hr hgo hcu ho hdf hm hpb HG3
              by_cases hlt3 : t < M
              · go_wp2_with fail
                go_ret2
                exact ⟨hkp, .inl ⟨HG4.out, rfl⟩⟩
              · go_wp2_with fail
                go_ret2
                exact ⟨hkp, .inl ⟨HG4.out, rfl⟩⟩
            | false =>
              have hlt3 : ¬ t < M := fun h => hgo ⟨h, rfl⟩
              rw [if_neg (by simp)] at hg3
              have HG4 := hide hg3
              have HO := hide ho
              have HDF := hide hdf
              have Hm := hide hm
              clear hg3 hfin hr hgo hcu ho hdf hm hpb HG3
              go_wp2_with fail
              go_loopw [13] (fun iv wr => ∃ (d : Nat) (vF : Nat → Value), d ≤ i ∧ iv = .int .i64 d ∧ DocsF wr C (.slice al i cl) ids i (wFi L m d) vF ∧ wr.ownsRow C 423 3 (.slice al2 m cl2) m (sl3 L) ∧ Kp [] w wr) (fun iv _ => i - (intOf iv).toNat)
              case atStart => exact ⟨0, emptyV, by omega, rfl, by have e : wFi L m 0 = fun _ => [] := by { funext d; unfold wFi; rw [if_neg (by omega)] }
                                                                  rw [e]; exact HDF.out, HO.out, hkp⟩
              case round =>
                clear HDF HO hkp c0 c1 c2 f1 f2
                obtain ⟨d, vF, hd, rfl, hdf, ho, hkp⟩ := hrel
                have hzk2 := hkp.size
                by_cases hlt4 : d < i
                · obtain ⟨g, rfl⟩ : ∃ g, al = some ⟨g, 0, none⟩ := by
                    obtain ⟨a5, c5, e5, h5⟩ := owns_forms hdf.row
                    obtain ⟨g, hg⟩ := h5 (by omega)
                    simp at e5
                    exact ⟨g, by rw [e5.1, hg]⟩
                  have HW := hide (rwordsOf_any C al2 cl2 m L d wr ho Hm.out (by omega))
                  have HO := hide ho
                  have HDF := hide hdf
                  clear ho hdf
                  go_wp2_with fail
                  refine HW.out.mono ?_
                  rintro e w5 ⟨a5, c5, n5, hn5, rfl, ho5, k5⟩
                  have hz5 := k5.size
                  have kk5 : Kp [] w w5 := hkp.trans k5 (by simp)
                  have hdf5 := HDF.out.kp k5 (by simp) (by simp)
                  have hol5 := k5.owns HO.out (by simp)
                  obtain ⟨g1, g2⟩ := owns_at hdf5.row (rowD_get ids vF i d hlt4).2
                  obtain ⟨hgC, hgl⟩ := hdf5.row.lt g rfl
                  have ho5' := owns_low ho5 (show C ≤ wr.heap.size by omega)
                  have hput := hdf5.put (w' := w5) hlt4 (ws := rwords L d (m + 1) 0) (lv := .slice a5 n5 c5) (by rw [hn5]; exact ho5')
                  rw [wFi_upd] at hput
                  have kg : Kp [g] w5 (w5.setCell ⟨g, d * 3 + 1, none⟩ (.slice a5 n5 c5)) := (Kp.refl [g] w5).setCell (p := ⟨g, d * 3 + 1, none⟩) (.inl (by simp)) _
                  have HL6 := hide (kg.owns hol5 (fun y hy hx => by simp at hx; subst hx; exact owns_disj hdf5.row hol5 (by decide) y rfl hy))
                  have kk6 := hide (kk5.trans kg (fun x hx => .inr (by simp at hx; omega)))
                  have HP6 := hide hput
                  clear hput ho5 ho5' hol5 hdf5 kg k5 HDF HO HW kk5 hkp hn5
                  go_wp2_with fail
                  go_roundw
                  case rel => exact ⟨d + 1, _, by omega, by go_num, HP6.out, HL6.out, kk6.out⟩
                  case measure => simp [intOf]; omega
                · have hdi : d = i := by omega
                  have hdocs := hdf.docs
                  have e6 : ((List.range i).map fun d' => (ids.getD d' 0, wFi L m d d')) = ((List.range i).map fun d' => (ids.getD d' 0, rwords L d' (m + 1) 0)) := by
                    apply List.map_congr_left
                    intro x hx
                    have := List.mem_range.1 hx
                    unfold wFi
                    rw [if_pos (by omega)]
                  rw [e6] at hdocs
                  have HDD := hide hdocs
                  clear hdocs hdf ho e6
                  go_wp2_with fail
                  go_ret2
                  exact ⟨hkp, .inr ⟨_, al, cl, i, _, HG4.out, by simp, rfl, by rw [HC.out]; exact HDD.out⟩⟩
      · skip
        go_wp2_with fail
        refine HNU.out.mono ?_
        rintro e w2 ⟨p2, rfl, hc2, hd2, hp2, hq2, ha2, k2⟩
        have hl2 := rnum_lt (F.drop p) b
        obtain ⟨N2, hN2⟩ : ∃ N2, rnum (F.drop p) b = N2 := ⟨_, rfl⟩
        have hg2 := HG2.out
        rw [hN2] at hc2 hd2 ha2 hg2
        rw [hN2]
        rw [Hn.out] at hq2
        obtain ⟨hb2, hb2'⟩ := num_bnd hpn hq2 ha2
        replace hl2 : N2.1 < 268435456 := by rw [← hN2]; exact hl2
        have hz2' := k2.size
        have ho2 := k2.owns HO.out (fun g hg hx => by simp at hx; subst hx; exact owns_ne HO.out HCU.out.blk (by decide) hg)
        have kk2 : Kp [] w w2 := hkp.trans k2 (fun x hx => .inr (by simp at hx; omega))
        have hdf : DocsF w2 C (.slice al i cl) ids i (fun _ => []) emptyV := ⟨ho2, fun d hd => World.ownsRow_nil _ _ _ _⟩
        obtain ⟨M, hM⟩ : ∃ M, N2.1 = M := ⟨_, rfl⟩
        obtain ⟨b2, hbb2⟩ : ∃ b2, N2.2.2 = b2 := ⟨_, rfl⟩
        rw [hM, ← hd2, hbb2] at hg2
        rw [hM] at hl2
        rw [hbb2] at hc2 hb2'
        rw [hM]
        obtain ⟨RM, hRM⟩ : ∃ RM, rmany M ([], F.drop p2, b2) = RM := ⟨_, rfl⟩
        rw [hRM] at hg2
        have HG3 := hide hg2
        have HRM := hide hRM
        have HC2 := hide hc2
        have HB2 := hide hb2'
        have HDF := hide hdf
        clear hc2 hd2 ha2 hq2 hb2' hN2 hM hbb2 hRM hg2 hdf ho2 k2 hkp HNU HCU HO c0 c1 c2 f1 f2 hp2 HG2 hz2' hcl
        go_wp2_with fail
        go_loopw [11, 12] (fun lv iv wr => ∃ (t : Nat) (L : List Sl) (al2 : Option Addr) (cl2 m p : Nat) (b : Bool), t ≤ M ∧ iv = .int .i64 t ∧ lv = .slice al2 m cl2 ∧ L.length = m ∧ rmany (M - t) (L, F.drop p, b) = RM ∧ p ≤ n + 1 ∧ (b = false → p ≤ n ∧ m ≤ p) ∧ m ≤ n + 2 ∧ Cu wr C C a n cap F p b ∧ wr.ownsRow C 423 3 (.slice al2 m cl2) m (sl3 L) ∧ DocsF wr C (.slice al i cl) ids i (fun _ => []) emptyV ∧ Kp [] w wr) (fun _ iv _ => M - (intOf iv).toNat)
        case atStart => exact ⟨0, [], none, 0, 0, p2, b2, by omega, rfl, rfl, rfl, HRM.out, hb2, fun h => ⟨HB2.out h, by omega⟩, by omega, HC2.out, World.ownsRow_nil _ _ _ _, HDF.out, kk2⟩
        case round =>
          clear HC2 HB2 HRM HDF kk2 hb2
          obtain ⟨t, L, al2, cl2, m, p, b, ht, rfl, rfl, hm, hr, hpn, hpb, hmn, hcu, ho, hdf, hkp⟩ := hrel
          obtain ⟨c0, c1, c2, f1, f2⟩ := hcu.cells
          have hcl := heap_lt hcu.blk
          have hzk := hkp.size
          by_cases hgo : t < M ∧ b = false
          · obtain ⟨hlt3, rfl⟩ := hgo
            obtain ⟨j, hj⟩ : ∃ j, M - t = j + 1 := ⟨M - t - 1, by omega⟩
            rw [hj, rmany, if_neg (by simp)] at hr
            have HS := hide (rslots_any C C n cap a F p false C al2 cl2 m L wr hcu Hn.out hn2 hc (hpb rfl).1 rfl ho hm (hpb rfl).2 (by omega) (Nat.le_refl _))
            have HR := hide hr
            have HCU := hide hcu
            have HDF := hide hdf
            clear hr hcu ho hm hpb hdf
            go_wp2_with fail
            refine HS.out.mono ?_
            rintro e w3 ⟨al3, cl3, m3, p3, rfl, hm3, ho3, hc3, hd3, hp3, hq3, hmp3, hmb3, k3⟩
            have hr3 := HR.out
            obtain ⟨S, hS⟩ : ∃ S, rslots L (F.drop p) false = S := ⟨_, rfl⟩
            rw [hS] at hm3 ho3 hc3 hd3 hq3 hmb3 hr3
            have HR3 : Hid (rmany j (S.1, F.drop p3, S.2.2) = RM) := by
              show _ = _
              rw [hd3]; exact hr3
            have hp3n : p3 ≤ n + 1 := by rcases hq3 with h | ⟨_, h⟩ <;> omega
            have hpb3 : S.2.2 = false → p3 ≤ n ∧ m3 ≤ p3 := by
              intro h
              refine ⟨?_, hmb3 h⟩
              rcases hq3 with h' | ⟨h', _⟩
              · exact h'
              · rw [h] at h'; simp at h'
            have kk3 : Kp [] w w3 := kp_of_kb hkp (by rw [HC.out]; exact k3) (by omega)
            have HM3 := hide hm3
            have HO3 := hide ho3
            have HC3 := hide hc3
            have HPB3 := hide hpb3
            have HDF3 := hide (HDF.out.kb k3 HCU.out.blk)
            have hj' : M - (t + 1) = j := by omega
            have hm3n : m3 ≤ n + 2 := by omega
            clear hm3 ho3 hc3 hpb3 hr3 hd3 hq3 hmb3 hS HR HCU HDF HS k3 c0 c1 c2 f1 f2 hkp
            go_wp2_with fail
            go_roundw
            case rel => exact ⟨t + 1, S.1, al3, cl3, m3, p3, S.2.2, by omega, by go_num, rfl, HM3.out, by rw [hj']; exact HR3.out, hp3n, HPB3.out, hm3n, HC3.out, HO3.out, HDF3.out, kk3⟩
            case measure => simp [intOf]; omega
          · have hfin : RM = (L, F.drop p, b) := by
              rw [← hr]
              by_cases hb : b = true
              · subst hb
                cases M - t with
                | zero => rfl
                | succ j => rw [rmany, if_pos rfl]
              · have : M - t = 0 := by
                  have hb' : b = false := by simpa using hb
                  have hnl : ¬ t < M := fun h => hgo ⟨h, hb'⟩
                  omega
                rw [this]; rfl
            have hg3 := HG3.out
            rw [hfin] at hg3
            simp only at hg3
            rw [hm] at hg3
            cases b with
            | true =>
              rw [if_pos rfl] at hg3
              have HG4 := hide hg3
              clear hg3 hfin hr hgo hcu ho hdf hm hpb HG3
              by_cases hlt3 : t < M
              · go_wp2_with fail
                go_ret2
                exact ⟨hkp, .inl ⟨HG4.out, rfl⟩⟩
              · go_wp2_with fail
                go_ret2
                exact ⟨hkp, .inl ⟨HG4.out, rfl⟩⟩
            | false =>
              have hlt3 : ¬ t < M := fun h => hgo ⟨h, rfl⟩
              rw [if_neg (by simp)] at hg3
              have HG4 := hide hg3
              have HO := hide ho
              have HDF := hide hdf
              have Hm := hide hm
              clear hg3 hfin hr hgo hcu ho hdf hm hpb HG3
              go_wp2_with fail
              go_loopw [13] (fun iv wr => ∃ (d : Nat) (vF : Nat → Value), d ≤ i ∧ iv = .int .i64 d ∧ DocsF wr C (.slice al i cl) ids i (wFi L m d) vF ∧ wr.ownsRow C 423 3 (.slice al2 m cl2) m (sl3 L) ∧ Kp [] w wr) (fun iv _ => i - (intOf iv).toNat)
              case atStart => exact ⟨0, emptyV, by omega, rfl, by have e : wFi L m 0 = fun _ => [] := by { funext d; unfold wFi; rw [if_neg (by omega)] }
                                                                  rw [e]; exact HDF.out, HO.out, hkp⟩
              case round =>
                clear HDF HO hkp c0 c1 c2 f1 f2
                obtain ⟨d, vF, hd, rfl, hdf, ho, hkp⟩ := hrel
                have hzk2 := hkp.size
                by_cases hlt4 : d < i
                · obtain ⟨g, rfl⟩ : ∃ g, al = some ⟨g, 0, none⟩ := by
                    obtain ⟨a5, c5, e5, h5⟩ := owns_forms hdf.row
                    obtain ⟨g, hg⟩ := h5 (by omega)
                    simp at e5
                    exact ⟨g, by rw [e5.1, hg]⟩
                  have HW := hide (rwordsOf_any C al2 cl2 m L d wr ho Hm.out (by omega))
                  have HO := hide ho
                  have HDF := hide hdf
                  clear ho hdf
                  go_wp2_with fail
                  refine HW.out.mono ?_
                  rintro e w5 ⟨a5, c5, n5, hn5, rfl, ho5, k5⟩
                  have hz5 := k5.size
                  have kk5 : Kp [] w w5 := hkp.trans k5 (by simp)
                  have hdf5 := HDF.out.kp k5 (by simp) (by simp)
                  have hol5 := k5.owns HO.out (by simp)
                  obtain ⟨g1, g2⟩ := owns_at hdf5.row (rowD_get ids vF i d hlt4).2
                  obtain ⟨hgC, hgl⟩ := hdf5.row.lt g rfl
                  have ho5' := owns_low ho5 (show C ≤ wr.heap.size by omega)
                  have hput := hdf5.put (w' := w5) hlt4 (ws := rwords L d (m + 1) 0) (lv := .slice a5 n5 c5) (by rw [hn5]; exact ho5')
                  rw [wFi_upd] at hput
                  have kg : Kp [g] w5 (w5.setCell ⟨g, d * 3 + 1, none⟩ (.slice a5 n5 c5)) := (Kp.refl [g] w5).setCell (p := ⟨g, d * 3 + 1, none⟩) (.inl (by simp)) _
                  have HL6 := hide (kg.owns hol5 (fun y hy hx => by simp at hx; subst hx; exact owns_disj hdf5.row hol5 (by decide) y rfl hy))
                  have kk6 := hide (kk5.trans kg (fun x hx => .inr (by simp at hx; omega)))
                  have HP6 := hide hput
                  clear hput ho5 ho5' hol5 hdf5 kg k5 HDF HO HW kk5 hkp hn5
                  go_wp2_with fail
                  go_roundw
                  case rel => exact ⟨d + 1, _, by omega, by go_num, HP6.out, HL6.out, kk6.out⟩
                  case measure => simp [intOf]; omega
                · have hdi : d = i := by omega
                  have hdocs := hdf.docs
                  have e6 : ((List.range i).map fun d' => (ids.getD d' 0, wFi L m d d')) = ((List.range i).map fun d' => (ids.getD d' 0, rwords L d' (m + 1) 0)) := by
                    apply List.map_congr_left
                    intro x hx
                    have := List.mem_range.1 hx
                    unfold wFi
                    rw [if_pos (by omega)]
                  rw [e6] at hdocs
                  have HDD := hide hdocs
                  clear hdocs hdf ho e6
                  go_wp2_with fail
                  go_ret2
                  exact ⟨hkp, .inr ⟨_, al, cl, i, _, HG4.out, by simp, rfl, by rw [HC.out]; exact HDD.out⟩⟩
end Go.Proofs.YtbkepgmgebmceaaGreatDoor.Pak
