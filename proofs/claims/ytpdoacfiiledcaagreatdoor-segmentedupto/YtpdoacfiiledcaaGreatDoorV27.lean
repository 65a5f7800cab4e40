import Derived.Test.YtpdoacfiiledcaaGreatDoorV00
import Derived.Test.YtpdoacfiiledcaaGreatDoorV26
import Derived.Test.YtpdoacfiiledcaaGreatDoorV17
import Derived.Deep.RegionHeld3
import Derived.Deep.RegionWith
import Derived.Deep.RegionLaw
import Derived.Shelf.Spec.SlicesInsertGrow
import Derived.Laws.IdiomCopy
import Derived.Laws.Externs
import Derived.Lib.Overlaps
import Derived.Lib.AppendZerosOnto
import Derived.Lib.SliceRun
namespace Go.Proofs.YtpdoacfiiledcaaGreatDoor.Spl
open Go.RowKit Go.Proofs.YtpdoacfiiledcaaGreatDoor Go.Proofs.YtpdoacfiiledcaaGreatDoor.SiftM
set_option linter.unusedVariables false

theorem low_of_not (c : UInt8) (h : ¬ (65 ≤ c.toNat ∧ c.toNat ≤ 90)) : low c = c := by unfold low; rw [if_neg h]
theorem low_of (c : UInt8) (h : 65 ≤ c.toNat ∧ c.toNat ≤ 90) : (low c).toNat = c.toNat + 32 := by
  unfold low; rw [if_pos h, UInt8.toNat_ofNat']; omega
theorem isW_iff (c : UInt8) : isW c = true ↔ (97 ≤ c.toNat ∧ c.toNat ≤ 122) ∨ (48 ≤ c.toNat ∧ c.toNat ≤ 57) ∨ (65 ≤ c.toNat ∧ c.toNat ≤ 90) := by
  unfold isW
  rw [isSm_iff]
  by_cases h : 65 ≤ c.toNat ∧ c.toNat ≤ 90
  · rw [low_of c h]; omega
  · rw [low_of_not c h]; omega
theorem smR_small (c : UInt8) (h : (97 ≤ c.toNat ∧ c.toNat ≤ 122) ∨ (48 ≤ c.toNat ∧ c.toNat ≤ 57)) : smR c = c := by
  unfold smR; rw [if_pos ((isW_iff c).2 (by omega)), low_of_not c (by omega)]
theorem smR_big (c : UInt8) (h : 65 ≤ c.toNat ∧ c.toNat ≤ 90) : (smR c).toNat = c.toNat + 32 := by
  unfold smR; rw [if_pos ((isW_iff c).2 (by omega)), low_of c h]
theorem smR_none (c : UInt8) (h : ¬ ((97 ≤ c.toNat ∧ c.toNat ≤ 122) ∨ (48 ≤ c.toNat ∧ c.toNat ≤ 57) ∨ (65 ≤ c.toNat ∧ c.toNat ≤ 90))) : smR c = 0 := by
  unfold smR; rw [if_neg (fun e => h ((isW_iff c).1 e))]

set_option maxHeartbeats 400000 in
set_option maxRecDepth 100000 in
theorem smallR_any (c : UInt8) (w : World) :
    Calls Tryz.prog 278 #[.int .u8 c.toNat] w fun e w' => e = .returned (.int .u8 (smR c).toNat) ∧ w' = w := by
  have hc : (c.toNat : Int) ≤ 255 := by have := c.toNat_lt; omega
  by_cases h1 : (97 : Int) ≤ (c.toNat : Int)
  · by_cases h2 : (c.toNat : Int) ≤ 122
    · have e := hide (smR_small c (by omega))
      go_enter Tryz.func278, Tryz.ntmps278
      go_wp2
      go_ret
      exact ⟨ret_int (by rw [e.out]), rfl⟩
    · have e := hide (smR_none c (by omega))
      go_enter Tryz.func278, Tryz.ntmps278
      go_wp2
      go_ret
      exact ⟨ret_int (by rw [e.out]; rfl), rfl⟩
  · by_cases h3 : (48 : Int) ≤ (c.toNat : Int)
    · by_cases h4 : (c.toNat : Int) ≤ 57
      · have e := hide (smR_small c (by omega))
        go_enter Tryz.func278, Tryz.ntmps278
        go_wp2
        go_ret
        exact ⟨ret_int (by rw [e.out]), rfl⟩
      · by_cases h5 : (65 : Int) ≤ (c.toNat : Int)
        · by_cases h6 : (c.toNat : Int) ≤ 90
          · have e := hide (smR_big c (by omega))
            go_enter Tryz.func278, Tryz.ntmps278
            go_wp2
            go_ret
            exact ⟨ret_int (by rw [e.out]; omega), rfl⟩
          · have e := hide (smR_none c (by omega))
            go_enter Tryz.func278, Tryz.ntmps278
            go_wp2
            go_ret
            exact ⟨ret_int (by rw [e.out]; rfl), rfl⟩
        · have e := hide (smR_none c (by omega))
          go_enter Tryz.func278, Tryz.ntmps278
          go_wp2
          go_ret
          exact ⟨ret_int (by rw [e.out]; rfl), rfl⟩
    · have e := hide (smR_none c (by omega))
      go_enter Tryz.func278, Tryz.ntmps278
      go_wp2
      go_ret
      exact ⟨ret_int (by rw [e.out]; rfl), rfl⟩

theorem smR_zero (c : UInt8) (h : isW c = false) : smR c = 0 := by unfold smR; rw [if_neg (by simp [h])]
theorem smR_pos (c : UInt8) (h : isW c = true) : smR c = low c ∧ (low c).toNat ≠ 0 := by
  refine ⟨by unfold smR; rw [if_pos h], ?_⟩
  have := (isSm_iff (low c)).1 h
  omega
theorem stepR_zero (p : List (List UInt8) × Nat) (c : UInt8) (h : isW c = false) : stepR p c = (p.1, 0) := by unfold stepR; rw [if_pos h]
theorem stepR_new (l : List (List UInt8)) (c : UInt8) (h : isW c = true) : stepR (l, 0) c = (l ++ [[low c]], 1) := by unfold stepR; rw [if_neg (by simp [h]), if_pos rfl]
theorem stepR_more (l : List (List UInt8)) (x : List UInt8) (m : Nat) (c : UInt8) (h : isW c = true) (hm : 0 < m) (h8 : m < 8) : stepR (l ++ [x], m) c = (l ++ [x ++ [low c]], m + 1) := by
  unfold stepR; rw [if_neg (by simp [h]), if_neg (by show ¬ m = 0; omega)]; simp [h8]
theorem stepR_over (l : List (List UInt8)) (m : Nat) (c : UInt8) (h : isW c = true) (h8 : ¬ m < 8) : stepR (l, m) c = (l, m + 1) := by
  unfold stepR; rw [if_neg (by simp [h]), if_neg (by show ¬ m = 0; omega)]; simp [h8]
end Go.Proofs.YtpdoacfiiledcaaGreatDoor.Spl

namespace Go.Proofs.YtpdoacfiiledcaaGreatDoor.Spl
open Go.RowKit Go.Proofs.YtpdoacfiiledcaaGreatDoor Go.Proofs.YtpdoacfiiledcaaGreatDoor.SiftM
set_option linter.unusedVariables false

theorem snoc_of_ne {l : List (List UInt8)} (h : l ≠ []) : ∃ a x, l = a ++ [x] := ⟨l.dropLast, l.getLast h, (List.dropLast_concat_getLast h).symm⟩
theorem foldR_snoc (s : ByteArray) (k : Nat) (h : k < s.size) (p : List (List UInt8) × Nat) (hp : (s.data.toList.take k).foldl stepR ([], 0) = p) : (s.data.toList.take (k + 1)).foldl stepR ([], 0) = stepR p s[k] := by
  have e : s.data.toList.take (k + 1) = s.data.toList.take k ++ [s[k]] := by
    rw [List.take_succ_eq_append_getElem (by simpa using h)]; rfl
  rw [e, List.foldl_append, hp]; rfl
theorem conv_drew (x : Int) (c : UInt8) (hx : (c.toNat : Int) = x) (w : World) :
    (convert 112 9 (.slice (some ⟨w.heap.size, 0, none⟩) 1 1)).run Tryz.prog (w.alloc (.cells #[.int .u8 x] 5)).drew = .ok (.string ⟨#[c]⟩) (w.alloc (.cells #[.int .u8 x] 5)).drew :=
  conv_one x c hx w.drew

set_option maxHeartbeats 1000000 in
set_option maxRecDepth 100000 in
theorem refSplit_any (s : ByteArray) (w : World) (hs : s.size ≤ 1000) :
    Calls Tryz.prog 171 #[.string s] w fun e w' => ∃ v, e = .returned v ∧ w'.ownsRow w.heap.size 9 1 v (sp s.size s.data.toList).length (strV (sp s.size s.data.toList)) ∧ Below w.heap.size w w' := by
  obtain ⟨i0, hi, hz0, hz1, hz2⟩ := info_parts Tryz.info9
  go_enter Tryz.func171, Tryz.ntmps171
  go_wp2_with fail
  go_loopw [3, 4, 5] (fun v r i wr => ∃ (k m : Nat) (l : List (List UInt8)), k ≤ s.size ∧ i = .int .i64 k ∧ r = .int .i64 m ∧ m ≤ k ∧ l.length ≤ k ∧ (∀ x ∈ l, x.length ≤ k) ∧ (0 < m → l ≠ []) ∧ wr.ownsRow w.heap.size 9 1 v l.length (strV l) ∧ Hid ((s.data.toList.take k).foldl stepR ([], 0) = (l, m)) ∧ Below w.heap.size w wr) (fun _ _ i _ => s.size - (intOf i).toNat)
  case atStart => exact ⟨0, 0, [], Nat.zero_le _, rfl, rfl, Nat.le_refl _, Nat.zero_le _, by simp, by simp, World.ownsRow_nil _ _ _ _, rfl, Below.refl _ _⟩
  case round =>
    obtain ⟨k, m, l, hk, rfl, rfl, hm, hl, hx, hne, hown, hF, hb⟩ := hrel
    have hbz := hb.size
    by_cases hlt : k < s.size
    · have HN := hide (foldR_snoc s k hlt _ hF.out)
      replace hx := hide hx
      replace hne := hide hne
      cases hc : isW s[k]
      · have hz := smR_zero s[k] hc
        have HS := hide (stepR_zero (l, m) s[k] hc)
        clear hc
        go_wp2_with fail
        refine (smallR_any _ _).mono ?_
        rintro e w' ⟨rfl, rfl⟩
        rw [hz]
        clear hz
        go_wp2_with fail
        go_roundw
        case rel => exact ⟨k + 1, 0, l, by omega, by go_num, rfl, by omega, by omega, fun x hx' => by have := hx.out x hx'; omega, fun h => by omega, hown, by show _ = _; rw [HN.out, HS.out], hb⟩
        case measure => simp [intOf]; omega
      · obtain ⟨hz, hpos⟩ := smR_pos s[k] hc
        obtain ⟨d, hd⟩ : ∃ d, low s[k] = d := ⟨_, rfl⟩
        rw [hd] at hz hpos
        have hq : ((d.toNat : Int) == 0) = false := by rw [beq_eq_false_iff_ne]; omega
        have hcv := conv_one _ d rfl
        by_cases hm0 : m = 0
        · have hq2 : ((m : Int) == 0) = true := by rw [beq_iff_eq]; omega
          have HS : Hid (stepR (l, m) s[k] = (l ++ [[d]], 1)) := by show _ = _; rw [hm0, stepR_new l s[k] hc, hd]
          clear hc hd hpos hm0
          go_wp2_with fail
          refine (smallR_any _ _).mono ?_
          rintro e w' ⟨rfl, rfl⟩
          rw [hz]
          clear hz
          go_wp2_with (first
            | (at_builtin; refine wpList_append_own _ rfl _ _ 67 rfl w.heap.size 9 i0 (.string ⟨#[]⟩) 1 16 Tryz.underlying67 hi hz0 hz1 hz2 rfl (by decide) _ _ _ rfl ((hown.alloc _).alloc _) ⟨w'.heap.size + 1, 0, none⟩ 1 1 [.string ⟨#[d]⟩] rfl rfl ?c1 ?c2 ?c3 ?c4 ?c5 ?_)
            | fail)
          case c1 =>
            intro j u hj
            match j, hj with
            | 0, hj => simp at hj; subst hj; simp [Addr.add]
          case c2 => intro u hu; simp at hu; subst hu; rfl
          case c3 => unfold maxLen; omega
          case c4 => omega
          case c5 => simp; omega
          intro v' w2 hown2 hgrow _
          have hb2 : Below w.heap.size w w2 := ((hb.alloc hbz _).alloc (by simp; omega) _).grown hgrow (by simp; omega) (fun k hk => (hown.lt k hk).1)
          clear hgrow hb
          go_wp2_with fail
          go_roundw
          case rel =>
            refine ⟨k + 1, 1, l ++ [[d]], by omega, by go_num, rfl, by omega, by simp; omega, fun x hx' => ?_, fun _ => by simp, ?_, by show _ = _; rw [HN.out, HS.out], hb2⟩
            · rcases List.mem_append.1 hx' with h' | h'
              · have := hx.out x h'; omega
              · simp at h'; subst h'; simp
            · rw [strV_snoc]; simpa using hown2
          case measure => simp [intOf]; omega
        · have hq2 : ((m : Int) == 0) = false := by rw [beq_eq_false_iff_ne]; omega
          by_cases h8 : m < 8
          · obtain ⟨l0, x, hlx⟩ := snoc_of_ne (hne.out (by omega))
            have HS : Hid (stepR (l, m) s[k] = (l0 ++ [x ++ [d]], m + 1)) := by show _ = _; rw [hlx, stepR_more l0 x m s[k] hc (by omega) h8, hd]
            obtain ⟨n, hn⟩ : ∃ n, l0.length = n := ⟨_, rfl⟩
            have hll : l.length = n + 1 := by rw [hlx]; simp [hn]
            have hxk : x.length ≤ k := hx.out x (by rw [hlx]; simp)
            have hx0 : Hid (∀ y ∈ l0, y.length ≤ k) := fun y hy => hx.out y (by rw [hlx]; simp [hy])
            rw [hll, hlx, strV_snoc] at hown
            obtain ⟨g, cap, hv⟩ : ∃ g cap, u3 = .slice (some ⟨g, 0, none⟩) (n + 1) cap := by
              rcases hown.2 with ⟨_, h'⟩ | ⟨g, cap, cur, h', _⟩
              · omega
              · exact ⟨g, cap, h'⟩
            rw [hv] at hown ⊢
            have hcell : wr.cell? ⟨g, n, none⟩ = some (.string ⟨x.toArray⟩) := by
              rw [hown.cellAt n (by omega), List.getElem?_append_right (by rw [strV_length]; omega), strV_length, hn]; simp
            have hfz : wr.frozen? ⟨g, n, none⟩ = false := hown.frozenAt n
            have hg : w.heap.size ≤ g ∧ g < wr.heap.size := hown.lt g rfl
            have hg1 := hg.1
            have hg2 := hg.2
            have hgne : ¬ g = wr.heap.size := by omega
            have i1 : (0 : Int) ≤ (n : Int) := by omega
            have hcv2 := conv_drew _ d rfl
            have hln : n + 1 ≤ k := by omega
            clear hc hd hpos hm0 hv hg hll hl
            replace hn := hide hn
            replace hlx := hide hlx
            replace hown := hide hown
            go_wp2_with fail
            refine (smallR_any _ _).mono ?_
            rintro e w' ⟨rfl, rfl⟩
            rw [hz]
            clear hz
            go_wp2_with fail
            go_region
            all_goals
              go_wp2_with fail
              go_roundw
              case rel =>
                refine ⟨k + 1, m + 1, l0 ++ [x ++ [d]], by omega, by go_num, by go_num, by omega, by simp [hn.out]; omega, fun y hy => ?_, fun _ => by simp, ?_, by show _ = _; rw [HN.out, HS.out], ?_⟩
                · rcases List.mem_append.1 hy with h' | h'
                  · have := hx0.out y h'; omega
                  · simp at h'; subst h'; simp; omega
                · have h1 := (hown.out.stored n (.string (⟨x.toArray⟩ ++ ⟨#[d]⟩))).1
                  have h2 : (strV l0 ++ [Value.string ⟨x.toArray⟩]).set n (.string (⟨x.toArray⟩ ++ ⟨#[d]⟩)) = strV (l0 ++ [x ++ [d]]) := by
                    rw [List.set_append_right _ _ (by rw [strV_length, hn.out]; omega), strV_length, hn.out, strV_snoc, mk_snoc]; simp
                  rw [h2] at h1
                  rw [show (l0 ++ [x ++ [d]]).length = n + 1 by simp [hn.out]]
                  exact (h1.alloc _).drew
                · exact ((hb.setCell hg1 _).alloc (by simp; omega) _).drew
              case measure => simp [intOf]; omega
          · have HS : Hid (stepR (l, m) s[k] = (l, m + 1)) := by show _ = _; rw [stepR_over l m s[k] hc h8]
            clear hc hd hpos hm0
            go_wp2_with fail
            refine (smallR_any _ _).mono ?_
            rintro e w' ⟨rfl, rfl⟩
            rw [hz]
            clear hz
            go_wp2_with fail
            go_roundw
            case rel => exact ⟨k + 1, m + 1, l, by omega, by go_num, by go_num, by omega, by omega, fun x hx' => by have := hx.out x hx'; omega, fun _ => hne.out (by omega), hown, by show _ = _; rw [HN.out, HS.out], hb⟩
            case measure => simp [intOf]; omega
    · have hfin : Hid (l = sp s.size s.data.toList) := by
        show _ = _
        have h1 := hF.out
        rw [List.take_of_length_le (by simp; omega)] at h1
        have h2 := ref_words s.data.toList
        rw [h1] at h2
        rw [show s.data.toList.length = s.size by simp] at h2
        exact h2
      clear hx hne
      go_wp2_with fail
      go_ret
      exact ⟨_, rfl, by rw [← hfin.out]; exact hown, hb⟩

end Go.Proofs.YtpdoacfiiledcaaGreatDoor.Spl

set_option linter.unusedVariables false
set_option linter.unusedSimpArgs false
set_option maxRecDepth 8000
namespace Go.Proofs.YtpdoacfiiledcaaGreatDoor.Pak
open Go.RowKit Go.Proofs.YtpdoacfiiledcaaGreatDoor Go.Proofs.YtpdoacfiiledcaaGreatDoor.Spl SiftM

/-- A segment, and an index, without the memory in which they lie. -/
structure DSg where
  num : Nat
  T : List Tx
  fl : List Bool
structure DSt where
  buf : Nat
  fac : Nat
  next : Nat
  T : List Tx
  L : List DSg
  R : List Bool
def DSg.live (t : DSg) : List Tx := ((t.T.zip t.fl).filter fun z => !z.2).map Prod.fst
def DSt.all (d : DSt) : List Tx := d.T ++ d.L.flatMap DSg.live
def DSt.ids (d : DSt) : List Nat := d.all.map Prod.fst
def sortX (T : List Tx) : List Tx := T.mergeSort fun a b => decide (a.1 ≤ b.1)
def markF (id : Nat) (T : List Tx) (fl : List Bool) : List Bool := fl.mapIdx fun j b => b || (decide (j < T.length) && decide ((T.map Prod.fst)[j]? = some id))
def DSg.mark (id : Nat) (t : DSg) : DSg := { t with fl := markF id t.T t.fl }
def DSt.gone (d : DSt) (id : Nat) : DSt := { d with T := d.T.filter (fun t => !decide (t.1 = id)), L := d.L.map (DSg.mark id) }
def DSt.flush (d : DSt) : DSt := if d.T = [] then d else { d with T := [], L := d.L ++ [⟨d.next, sortX d.T, List.replicate d.T.length false⟩], next := d.next + 1 }
def DSt.put (d : DSt) (t : Tx) : DSt := { d with T := d.T ++ [t] }
def DSt.addE (d : DSt) (id : Int) (b : ByteArray) : Int := if id < 0 ∨ 99999 < id then 3 else if 120 < b.size then 4 else if id.toNat ∉ d.ids ∧ 60 ≤ d.all.length then 5 else 0
def DSt.add1 (d : DSt) (id : Nat) (ws : List (List UInt8)) : DSt := if d.buf ≤ ((d.gone id).put (id, ws)).T.length then ((d.gone id).put (id, ws)).flush else (d.gone id).put (id, ws)
def DSt.add (d : DSt) (id : Int) (b : ByteArray) : DSt := if d.addE id b = 0 then d.add1 id.toNat (wordsB b) else d
def DSt.delE (d : DSt) (id : Int) : Int := if id < 0 ∨ 99999 < id then 3 else if id.toNat ∉ d.ids then 6 else 0
def DSt.del (d : DSt) (id : Int) : DSt := if d.delE id = 0 then d.gone id.toNat else d
/-- Which readers are open. -/
def isOn : Option Value → Bool
  | some (.bool b) => b
  | _ => false
def opens (R : List Value) : List Bool := (List.range 4).map fun i => isOn R[2 * i]?
def RSg.abs (t : RSg) : DSg := ⟨t.num, t.T, t.fl⟩
def RSt.abs (s : RSt) : DSt := ⟨s.buf, s.fac, s.next, s.T, s.L.map RSg.abs, opens s.R⟩

theorem live_abs (t : RSg) (h1 : t.vs.length = t.T.length) (h2 : t.fl.length = t.T.length) : (liveZ (zsOf t)).map Prod.fst = t.abs.live := by
  obtain ⟨num, v, T, vs, fl⟩ := t
  simp only at h1 h2
  unfold liveZ zsOf DSg.live RSg.abs
  simp only
  induction T generalizing vs fl with
  | nil => rfl
  | cons x r ih =>
    cases vs with
    | nil => simp at h1
    | cons u us =>
      cases fl with
      | nil => simp at h2
      | cons b bs =>
        have := ih us bs (by simpa using h1) (by simpa using h2)
        cases b <;> simp [List.filter_cons] at this ⊢ <;> exact this
theorem abs_all {w : World} {X B : Nat} {O : List Nat} {s : RSt} (h : RIs w X B O s) : s.pairs.map Prod.fst = s.abs.all := by
  unfold RSt.pairs DSt.all RSt.abs
  simp only
  rw [List.map_append, List.map_fst_zip (by rw [h.loose.len]; exact Nat.le_refl _)]
  congr 1
  have : ∀ (L : List RSg), (∀ t ∈ L, t.vs.length = t.T.length ∧ t.fl.length = t.T.length) → (liveL L).map Prod.fst = (L.map RSg.abs).flatMap DSg.live := by
    intro L
    induction L with
    | nil => intro _; rfl
    | cons t r ih =>
      intro hL
      have e : liveL (t :: r) = liveZ (zsOf t) ++ liveL r := by simp [liveL]
      rw [e, List.map_append, List.map_cons, List.flatMap_cons, ih fun u hu => hL u (by simp [hu]), live_abs t (hL t (by simp)).1 (hL t (by simp)).2]
  exact this s.L fun t ht => ⟨(h.segs.each t ht).1.len, (h.segs.each t ht).1.flen⟩
theorem gone_abs {w : World} {X B : Nat} {O : List Nat} {s : RSt} (h : RIs w X B O s) (id : Nat) (lv : Value) : (goneS s id lv).abs = s.abs.gone id := by
  unfold RSt.abs goneS DSt.gone
  simp only [List.map_map]
  congr 1
  have e : ∀ (T : List Tx) (vs : List Value), vs.length = T.length → (flt id (T.zip vs)).map Prod.fst = T.filter fun t => !decide (t.1 = id) := by
    intro T
    induction T with
    | nil => intro vs _; rfl
    | cons x r ih =>
      intro vs hv
      cases vs with
      | nil => simp at hv
      | cons u us =>
        have := ih us (by simpa using hv)
        unfold flt at this ⊢
        rw [List.zip_cons_cons, List.filter_cons, List.filter_cons]
        by_cases hx : x.1 = id
        · simp [hx, this]
        · simp [hx, this]
  exact e s.T s.vs h.loose.len
theorem sortX_eq {T T' : List Tx} (hp : T'.Perm T) (hs : SortT T') : T' = sortX T := by
  have hnd : (T.map Prod.fst).Nodup := by
    have h1 : (T'.map Prod.fst).Nodup := by
      refine List.Pairwise.imp (R := (· < ·)) (fun {a b} h => by omega) ?_
      rw [List.pairwise_map]; exact hs
    exact (hp.map Prod.fst).nodup_iff.1 h1
  have h2 : (sortX T).Pairwise fun a b => decide (a.1 ≤ b.1) = true :=
    List.pairwise_mergeSort (fun a b c h1 h2 => by simp at h1 h2 ⊢; omega) (fun a b => by simp; omega) _
  have hp2 : (sortX T).Perm T := List.mergeSort_perm _ _
  have h3 : SortT (sortX T) := by
    have h4 : ((sortX T).map Prod.fst).Nodup := (hp2.map Prod.fst).nodup_iff.2 hnd
    have h5 : (sortX T).Pairwise fun a b => a.1 ≠ b.1 := List.pairwise_map.1 h4
    unfold SortT
    refine (h2.and h5).imp ?_
    rintro a b ⟨h6, h7⟩
    simp at h6
    omega
  exact (hp.trans hp2.symm).eq_of_pairwise (fun a b _ _ h1 h2 => by omega) hs h3
/-- One more doc that is loose. -/
def addS (s : RSt) (lv : Value) (t : Tx) (u : Value) : RSt := { s with lv := lv, T := s.T ++ [t], vs := s.vs ++ [u] }
theorem zip_snoc {T : List Tx} {vs : List Value} (h : vs.length = T.length) (t : Tx) (u : Value) : (T ++ [t]).zip (vs ++ [u]) = T.zip vs ++ [(t, u)] := by
  rw [List.zip_append (by omega)]; rfl
theorem add_is {w w' : World} {X B : Nat} {O : List Nat} {s : RSt} (h : RIs w X B O s) (lv u : Value) (t : Tx) (h1 : w'.heap[X]? = some (.cells (ixC (addS s lv t u)) 187 (0, 0)))
    (h2 : w'.ownsRow B 266 3 lv (s.T.length + 1) (tx3P (s.T.zip s.vs ++ [(t, u)]))) (h3 : w'.ownsRow B 9 1 u t.2.length (strV t.2)) (hu : ∀ g, u.ownBlock = some g → w.heap.size ≤ g) (hlv : ∀ g, lv.ownBlock = some g → s.lv.ownBlock = some g ∨ w.heap.size ≤ g)
    (k : Kp (X :: s.lv.ownBlock.toList) w w') (hid : t.1 ∉ (s.pairs.map Prod.fst).map Prod.fst) (h60 : s.pairs.length < 60) (hw : t.1 ≤ 99999 ∧ t.2.length ≤ 60 ∧ (lenF t.2 ≤ 120 ∧ sumL t.2 ≤ 121) ∧ ∀ x ∈ t.2, isWord x = true) : RIs w' X B (grow O w w') (addS s lv t u) := by
  have hO : ∀ g ∈ O, g ∈ grow O w w' := fun g hg => mem_grow.2 (.inl hg)
  have hdn : ∀ {size m : Nat} {e : TypeId} {q : Value} {xs : List Value}, (e : TypeId) ≠ 187 → e ≠ 266 → w.ownsRow B e size q m xs → w'.ownsRow B e size q m xs := fun he1 he2 hq => k.owns hq fun g hg hx => by
    rcases List.mem_cons.1 hx with rfl | hx
    · exact owns_ne_type hq h.blk he1 hg
    · simp at hx
      rcases h.loose.row.2 with ⟨e1, _⟩ | ⟨g1, cap, cur, e1, _, hb, _⟩
      · rw [e1] at hx; simp [Value.ownBlock] at hx
      · rw [e1] at hx; simp [Value.ownBlock] at hx
        subst hx
        exact owns_ne_type hq hb he2 hg
  have hsegs : RSegs w' B s.sv s.L := by
    refine ⟨hdn (by decide) (by decide) h.segs.row, fun q hq => ⟨?_, (h.segs.each q hq).2⟩⟩
    have hd := (h.segs.each q hq).1
    refine ⟨hd.len, hd.flen, k.owns hd.row fun g hg hx => ?_, fun i h1 h2 => hdn (by decide) (by decide) (hd.each i h1 h2)⟩
    rcases List.mem_cons.1 hx with rfl | hx
    · exact owns_ne_type hd.row h.blk (by decide) hg
    · simp at hx
      exact h.apart q hq g hg hx
  have hpr : (addS s lv t u).pairs = (s.T.zip s.vs ++ [(t, u)]) ++ liveL s.L := by
    unfold RSt.pairs addS
    simp only
    rw [zip_snoc h.loose.len]
  have hpp : (addS s lv t u).pairs.Perm ((t, u) :: s.pairs) := by
    rw [hpr, List.append_assoc]
    exact List.perm_middle
  refine ⟨h1, h.rd, Nat.le_trans h.low k.size, ?_, ?_, hsegs, h.cnt, ?_, ?_, hO X h.inX, ?_, fun g hg => hO g (h.inS g hg), fun q hq g hg => hO g (h.inD q hq g hg), ?_, fun q hq v hv g hg => hO g (h.inV q hq v hv g hg), ?_, h.apart2⟩
  · refine ⟨by simp [addS, h.loose.len], ?_, ?_⟩
    · show w'.ownsRow B 266 3 lv (s.T ++ [t]).length (tx3 (((s.T ++ [t]).map Prod.fst).zip (s.vs ++ [u])))
      rw [docs_pairs (by simp [h.loose.len]), zip_snoc h.loose.len, List.length_append]
      exact h2
    · intro i hi1 hi2
      by_cases hi : i < s.T.length
      · have hi' : i < s.vs.length := by rw [h.loose.len]; exact hi
        have := hdn (e := 9) (by decide) (by decide) (h.loose.each i hi hi')
        simpa [addS, List.getElem_append, hi, hi'] using this
      · have hi3 : i = s.T.length := by
          have : i < s.T.length + 1 := by simpa [addS] using hi1
          omega
        have hi4 : i = s.vs.length := by rw [h.loose.len]; exact hi3
        have e1 : (addS s lv t u).vs[i] = u := by simp [addS, List.getElem_append, hi4]
        have e2 : (addS s lv t u).T[i] = t := by simp [addS, List.getElem_append, hi3]
        rw [e1, e2]
        exact h3
  · intro q hq
    rcases List.mem_append.1 hq with hq | hq
    · exact h.word q hq
    · simp at hq; subst hq; exact hw
  · rw [hpp.length_eq]; simp; omega
  · rw [((hpp.map Prod.fst).map Prod.fst).nodup_iff]
    simp only [List.map_cons, List.nodup_cons]
    exact ⟨hid, h.nodup⟩
  · intro g hg
    rcases hlv g hg with h4 | h4
    · exact hO g (h.inL g h4)
    · exact mem_grow.2 (.inr ⟨h4, (h2.lt g hg).2⟩)
  · intro v hv g hg
    rcases List.mem_append.1 hv with hv | hv
    · exact hO g (h.inW v hv g hg)
    · simp at hv; subst hv
      exact mem_grow.2 (.inr ⟨hu g hg, (h3.lt g hg).2⟩)
  · intro q hq g hg e
    rcases hlv g e with h4 | h4
    · exact h.apart q hq g hg h4
    · have := ((h.segs.each q hq).1.row.lt g hg).2
      omega
/-- The document's flush. -/
theorem rflush_is (X B : Nat) (O : List Nat) (s : RSt) (w : World) (h : RIs w X B O s) (hnx : s.next ≤ 1000000) :
    Calls Tryz.prog 210 #[.pointer (some ⟨X, 0, none⟩)] w fun e w' => e = .returned (.bool (!decide (s.abs.T = []))) ∧ ∃ s', RIs w' X B (grow O w w') s' ∧ s'.abs = s.abs.flush ∧ s'.R = s.R ∧ Kp O w w' := by
  refine (rflush_any X B O s w h hnx).mono ?_
  rintro e w' (⟨h1, rfl, rfl⟩ | ⟨h1, rfl, sv, v, T', vs', hp, hso, hfi, hvs, hX, hd, hrow, hv, hsv, k⟩)
  · have e : s.abs.T = [] := h1
    rw [e]
    exact ⟨rfl, s, h.more (fun g hg => mem_grow.2 (.inl hg)), by unfold DSt.flush; rw [if_pos e], rfl, Kp.refl _ _⟩
  · have e : s.abs.T ≠ [] := h1
    refine ⟨by simp [e], _, flush_is h hnx hp hfi hvs hX hd hrow hv hsv k, ?_, rfl, ?_⟩
    · unfold DSt.flush
      rw [if_neg e]
      unfold RSt.abs flushed
      simp only [List.map_append, List.map_cons, List.map_nil, RSg.abs]
      rw [← sortX_eq hp hso, hp.length_eq]
    · refine k.mono fun x hx => ?_
      rcases List.mem_cons.1 hx with rfl | hx
      · exact h.inX
      · exact h.inS x (by simpa using hx)
end Go.Proofs.YtpdoacfiiledcaaGreatDoor.Pak

set_option linter.unusedVariables false
set_option maxRecDepth 8000
namespace Go.Proofs.YtpdoacfiiledcaaGreatDoor.Pak
open Go.RowKit Go.Proofs.YtpdoacfiiledcaaGreatDoor Go.Proofs.YtpdoacfiiledcaaGreatDoor.Spl SiftM

/-- Cells written into a row. -/
def putA (cur : Array Value) : Nat → List Value → Array Value
  | _, [] => cur
  | o, v :: r => putA (cur.setIfInBounds o v) (o + 1) r
theorem putA_size : ∀ (vs : List Value) (cur : Array Value) (o : Nat), (putA cur o vs).size = cur.size
  | [], _, _ => rfl
  | v :: r, cur, o => by rw [putA, putA_size r]; simp
theorem putA_list : ∀ (vs : List Value) (cur : Array Value) (o : Nat), o + vs.length ≤ cur.size → (putA cur o vs).toList = cur.toList.take o ++ vs ++ cur.toList.drop (o + vs.length)
  | [], cur, o, h => by simp [putA]
  | v :: r, cur, o, h => by
    have hl : o < cur.toList.length := by simp at h; simp; omega
    rw [putA, putA_list r _ (o + 1) (by simp at h ⊢; omega), Array.toList_setIfInBounds]
    rw [List.take_set, List.drop_set_of_lt (by omega), List.take_add_one, List.getElem?_eq_getElem hl]
    rw [show o + 1 + r.length = o + (v :: r).length by simp; omega]
    have e : (cur.toList.take o ++ (some cur.toList[o]).toList).set o v = cur.toList.take o ++ [v] := by
      rw [List.set_append_right _ _ (by rw [List.length_take]; omega)]
      have : o - (cur.toList.take o).length = 0 := by rw [List.length_take]; omega
      rw [this]; rfl
    rw [e]
    simp
theorem heap_setCells_same : ∀ (vs : List Value) (w : World) (g o : Nat) (cur : Array Value) (t : TypeId), w.heap[g]? = some (.cells cur t (0, 0)) → (w.setCells g o vs).heap[g]? = some (.cells (putA cur o vs) t (0, 0))
  | [], w, g, o, cur, t, h => h
  | v :: r, w, g, o, cur, t, h => heap_setCells_same r _ g (o + 1) _ t (heap_setCell_same w g o cur t v h)
theorem kp_setCells : ∀ (vs : List Value) (w : World) (g o : Nat), Kp [g] w (w.setCells g o vs)
  | [], w, g, o => Kp.refl _ _
  | v :: r, w, g, o => (kp_set w g o v).next (kp_setCells r _ g (o + 1))
theorem cells_at {w : World} {g : Nat} {cur : Array Value} {t : TypeId} (h : w.heap[g]? = some (.cells cur t (0, 0))) (j : Nat) : w.cell? ⟨g, j, none⟩ = cur.toList[j]? ∧ w.frozen? ⟨g, j, none⟩ = false := by
  constructor
  · simp [World.cell?, h]
  · simp [World.frozen?, h]
/-- Copy, of elements of k cells. -/
theorem run_copyK (w : World) (dT sT ty elem : TypeId) (b o dLen dCap : Nat) (a : Addr) (sLen sCap k : Nat) (cs : List Value)
    (hu : Tryz.prog.underlying dT = some (.slice elem)) (hs : (Tryz.prog.info? elem).map (·.size) = some k) (hn : cs.length = Nat.min sLen dLen * k)
    (hsrc : ∀ j v, cs[j]? = some v → w.cell? (a.add j) = some v) (hc : ∀ j, j < cs.length → (w.cell? ⟨b, o + j, none⟩).isSome = true) (hf : ∀ j, j < cs.length → w.frozen? ⟨b, o + j, none⟩ = false) (h1 : ∀ v ∈ cs, v.oneCell' = true) :
    (Builtin.copy_ #[dT, sT] ty #[.slice (some ⟨b, o, none⟩) dLen dCap, .slice (some a) sLen sCap]).run Tryz.prog w = .ok (goInt (Nat.min sLen dLen)) (w.setCells b o cs) := by
  have hl := run_loadCells_list (P := Tryz.prog) w a cs hsrc
  have hst := run_storeCells_cells (P := Tryz.prog) b o cs 0 w (by simpa using hc) (by simpa using hf) h1
  cases hq : Tryz.prog.info? elem with
  | none => simp [hq] at hs
  | some i =>
    have hi : i.size = k := by simpa [hq] using hs
    simp [Builtin.copy_, run_underlying hu, Builtin.lenOf, Builtin.firstCells, sizeOf, typeInfo, hq, hi, ← hn, hl, hst]
end Go.Proofs.YtpdoacfiiledcaaGreatDoor.Pak

