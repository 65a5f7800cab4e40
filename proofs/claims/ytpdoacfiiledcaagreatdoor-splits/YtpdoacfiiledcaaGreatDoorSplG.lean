import Derived.Test.YtpdoacfiiledcaaGreatDoorSplF
import Derived.Deep.RegionLaw
namespace Go.Proofs.YtpdoacfiiledcaaGreatDoor.Spl
open Go.RowKit Go.Proofs.YtpdoacfiiledcaaGreatDoor Go.Proofs.YtpdoacfiiledcaaGreatDoor.SiftM
set_option linter.unusedVariables false

theorem snoc_of_ne {l : List (List UInt8)} (h : l ≠ []) : ∃ a x, l = a ++ [x] := ⟨l.dropLast, l.getLast h, (List.dropLast_concat_getLast h).symm⟩
theorem foldR_snoc (s : ByteArray) (k : Nat) (h : k < s.size) (p : List (List UInt8) × Nat) (hp : (s.data.toList.take k).foldl stepR ([], 0) = p) : (s.data.toList.take (k + 1)).foldl stepR ([], 0) = stepR p s[k] := by
  have e : s.data.toList.take (k + 1) = s.data.toList.take k ++ [s[k]] := by
    rw [List.take_succ_eq_append_getElem (by simpa using h)]; rfl
  rw [e, List.foldl_append, hp]; rfl
theorem conv_drew (x : Int) (c : UInt8) (hx : (c.toNat : Int) = x) (w : World) :
    (convert 112 9 (.slice (some ⟨w.heap.size, 0, none⟩) 1 1)).run Tryz.prog (w.alloc (.cells #[.int .u8 x] 5)).drew = .ok (.string ⟨#[c]⟩) (w.alloc (.cells #[.int .u8 x] 5)).drew :=
  conv_one x c hx w.drew

set_option maxHeartbeats 1000000 in
set_option maxRecDepth 100000 in
theorem refSplit_any (s : ByteArray) (w : World) (hs : s.size ≤ 1000) :
    Calls Tryz.prog 171 #[.string s] w fun e w' => ∃ v, e = .returned v ∧ w'.ownsRow w.heap.size 9 1 v (sp s.size s.data.toList).length (strV (sp s.size s.data.toList)) ∧ Below w.heap.size w w' := by
  obtain ⟨i0, hi, hz0, hz1, hz2⟩ := info_parts Tryz.info9
  go_enter Tryz.func171, Tryz.ntmps171
  go_wp2_with fail
  go_loopw [3, 4, 5] (fun v r i wr => ∃ (k m : Nat) (l : List (List UInt8)), k ≤ s.size ∧ i = .int .i64 k ∧ r = .int .i64 m ∧ m ≤ k ∧ l.length ≤ k ∧ (∀ x ∈ l, x.length ≤ k) ∧ (0 < m → l ≠ []) ∧ wr.ownsRow w.heap.size 9 1 v l.length (strV l) ∧ Hid ((s.data.toList.take k).foldl stepR ([], 0) = (l, m)) ∧ Below w.heap.size w wr) (fun _ _ i _ => s.size - (intOf i).toNat)
  case atStart => exact ⟨0, 0, [], Nat.zero_le _, rfl, rfl, Nat.le_refl _, Nat.zero_le _, by simp, by simp, World.ownsRow_nil _ _ _ _, rfl, Below.refl _ _⟩
  case round =>
    obtain ⟨k, m, l, hk, rfl, rfl, hm, hl, hx, hne, hown, hF, hb⟩ := hrel
    have hbz := hb.size
    by_cases hlt : k < s.size
    · have HN := hide (foldR_snoc s k hlt _ hF.out)
      replace hx := hide hx
      replace hne := hide hne
      cases hc : isW s[k]
      · have hz := smR_zero s[k] hc
        have HS := hide (stepR_zero (l, m) s[k] hc)
        clear hc
        go_wp2_with fail
        refine (smallR_any _ _).mono ?_
        rintro e w' ⟨rfl, rfl⟩
        rw [hz]
        clear hz
        go_wp2_with fail
        go_roundw
        case rel => exact ⟨k + 1, 0, l, by omega, by go_num, rfl, by omega, by omega, fun x hx' => by have := hx.out x hx'; omega, fun h => by omega, hown, by show _ = _; rw [HN.out, HS.out], hb⟩
        case measure => simp [intOf]; omega
      · obtain ⟨hz, hpos⟩ := smR_pos s[k] hc
        obtain ⟨d, hd⟩ : ∃ d, low s[k] = d := ⟨_, rfl⟩
        rw [hd] at hz hpos
        have hq : ((d.toNat : Int) == 0) = false := by rw [beq_eq_false_iff_ne]; omega
        have hcv := conv_one _ d rfl
        by_cases hm0 : m = 0
        · have hq2 : ((m : Int) == 0) = true := by rw [beq_iff_eq]; omega
          have HS : Hid (stepR (l, m) s[k] = (l ++ [[d]], 1)) := by show _ = _; rw [hm0, stepR_new l s[k] hc, hd]
          clear hc hd hpos hm0
          go_wp2_with fail
          refine (smallR_any _ _).mono ?_
          rintro e w' ⟨rfl, rfl⟩
          rw [hz]
          clear hz
          go_wp2_with (first
            | (at_builtin; refine wpList_append_own _ rfl _ _ 67 rfl w.heap.size 9 i0 (.string ⟨#[]⟩) 1 16 Tryz.underlying67 hi hz0 hz1 hz2 rfl (by decide) _ _ _ rfl ((hown.alloc _).alloc _) ⟨w'.heap.size + 1, 0, none⟩ 1 1 [.string ⟨#[d]⟩] rfl rfl ?c1 ?c2 ?c3 ?c4 ?c5 ?_)
            | fail)
          case c1 =>
            intro j u hj
            match j, hj with
            | 0, hj => simp at hj; subst hj; simp [Addr.add]
          case c2 => intro u hu; simp at hu; subst hu; rfl
          case c3 => unfold maxLen; omega
          case c4 => omega
          case c5 => simp; omega
          intro v' w2 hown2 hgrow _
          have hb2 : Below w.heap.size w w2 := ((hb.alloc hbz _).alloc (by simp; omega) _).grown hgrow (by simp; omega) (fun k hk => (hown.lt k hk).1)
          clear hgrow hb
          go_wp2_with fail
          go_roundw
          case rel =>
            refine ⟨k + 1, 1, l ++ [[d]], by omega, by go_num, rfl, by omega, by simp; omega, fun x hx' => ?_, fun _ => by simp, ?_, by show _ = _; rw [HN.out, HS.out], hb2⟩
            · rcases List.mem_append.1 hx' with h' | h'
              · have := hx.out x h'; omega
              · simp at h'; subst h'; simp
            · rw [strV_snoc]; simpa using hown2
          case measure => simp [intOf]; omega
        · have hq2 : ((m : Int) == 0) = false := by rw [beq_eq_false_iff_ne]; omega
          by_cases h8 : m < 8
          · obtain ⟨l0, x, hlx⟩ := snoc_of_ne (hne.out (by omega))
            have HS : Hid (stepR (l, m) s[k] = (l0 ++ [x ++ [d]], m + 1)) := by show _ = _; rw [hlx, stepR_more l0 x m s[k] hc (by omega) h8, hd]
            obtain ⟨n, hn⟩ : ∃ n, l0.length = n := ⟨_, rfl⟩
            have hll : l.length = n + 1 := by rw [hlx]; simp [hn]
            have hxk : x.length ≤ k := hx.out x (by rw [hlx]; simp)
            have hx0 : Hid (∀ y ∈ l0, y.length ≤ k) := fun y hy => hx.out y (by rw [hlx]; simp [hy])
            rw [hll, hlx, strV_snoc] at hown
            obtain ⟨g, cap, hv⟩ : ∃ g cap, u3 = .slice (some ⟨g, 0, none⟩) (n + 1) cap := by
              rcases hown.2 with ⟨_, h'⟩ | ⟨g, cap, cur, h', _⟩
              · omega
              · exact ⟨g, cap, h'⟩
            rw [hv] at hown ⊢
            have hcell : wr.cell? ⟨g, n, none⟩ = some (.string ⟨x.toArray⟩) := by
              rw [hown.cellAt n (by omega), List.getElem?_append_right (by rw [strV_length]; omega), strV_length, hn]; simp
            have hfz : wr.frozen? ⟨g, n, none⟩ = false := hown.frozenAt n
            have hg : w.heap.size ≤ g ∧ g < wr.heap.size := hown.lt g rfl
            have hg1 := hg.1
            have hg2 := hg.2
            have hgne : ¬ g = wr.heap.size := by omega
            have i1 : (0 : Int) ≤ (n : Int) := by omega
            have hcv2 := conv_drew _ d rfl
            have hln : n + 1 ≤ k := by omega
            clear hc hd hpos hm0 hv hg hll hl
            replace hn := hide hn
            replace hlx := hide hlx
            replace hown := hide hown
            go_wp2_with fail
            refine (smallR_any _ _).mono ?_
            rintro e w' ⟨rfl, rfl⟩
            rw [hz]
            clear hz
            go_wp2_with fail
            go_region
            all_goals
              go_wp2_with fail
              go_roundw
              case rel =>
                refine ⟨k + 1, m + 1, l0 ++ [x ++ [d]], by omega, by go_num, by go_num, by omega, by simp [hn.out]; omega, fun y hy => ?_, fun _ => by simp, ?_, by show _ = _; rw [HN.out, HS.out], ?_⟩
                · rcases List.mem_append.1 hy with h' | h'
                  · have := hx0.out y h'; omega
                  · simp at h'; subst h'; simp; omega
                · have h1 := (hown.out.stored n (.string (⟨x.toArray⟩ ++ ⟨#[d]⟩))).1
                  have h2 : (strV l0 ++ [Value.string ⟨x.toArray⟩]).set n (.string (⟨x.toArray⟩ ++ ⟨#[d]⟩)) = strV (l0 ++ [x ++ [d]]) := by
                    rw [List.set_append_right _ _ (by rw [strV_length, hn.out]; omega), strV_length, hn.out, strV_snoc, mk_snoc]; simp
                  rw [h2] at h1
                  rw [show (l0 ++ [x ++ [d]]).length = n + 1 by simp [hn.out]]
                  exact (h1.alloc _).drew
                · exact ((hb.setCell hg1 _).alloc (by simp; omega) _).drew
              case measure => simp [intOf]; omega
          · have HS : Hid (stepR (l, m) s[k] = (l, m + 1)) := by show _ = _; rw [stepR_over l m s[k] hc h8]
            clear hc hd hpos hm0
            go_wp2_with fail
            refine (smallR_any _ _).mono ?_
            rintro e w' ⟨rfl, rfl⟩
            rw [hz]
            clear hz
            go_wp2_with fail
            go_roundw
            case rel => exact ⟨k + 1, m + 1, l, by omega, by go_num, by go_num, by omega, by omega, fun x hx' => by have := hx.out x hx'; omega, fun _ => hne.out (by omega), hown, by show _ = _; rw [HN.out, HS.out], hb⟩
            case measure => simp [intOf]; omega
    · have hfin : Hid (l = sp s.size s.data.toList) := by
        show _ = _
        have h1 := hF.out
        rw [List.take_of_length_le (by simp; omega)] at h1
        have h2 := ref_words s.data.toList
        rw [h1] at h2
        rw [show s.data.toList.length = s.size by simp] at h2
        exact h2
      clear hx hne
      go_wp2_with fail
      go_ret
      exact ⟨_, rfl, by rw [← hfin.out]; exact hown, hb⟩

set_option maxHeartbeats 400000 in
theorem rwords_ok (s : ByteArray) (w : World) (hs : s.size ≤ 120) :
    Calls Tryz.prog 72 #[.string s] w fun e w' => ∃ v, e = .returned (.tuple #[v, .int .i64 0]) ∧ w'.ownsRow w.heap.size 9 1 v (sp s.size s.data.toList).length (strV (sp s.size s.data.toList)) ∧ Below w.heap.size w w' := by
  go_enter Tryz.func72, Tryz.ntmps72
  go_wp2_with fail
  refine (refSplit_any _ _ (by omega)).mono ?_
  rintro e w1 ⟨v, rfl, hown, hb⟩
  go_wp2_with fail
  go_ret2
  exact ⟨_, rfl, hown, hb⟩

set_option maxHeartbeats 400000 in
theorem rwords_long (s : ByteArray) (w : World) (hs : 120 < s.size) :
    Calls Tryz.prog 72 #[.string s] w fun e w' => e = .returned (.tuple #[.slice none 0 0, .int .i64 4]) ∧ w' = w := by
  go_enter Tryz.func72, Tryz.ntmps72
  go_wp2_with fail
  go_ret2
  exact ⟨rfl, rfl⟩
end Go.Proofs.YtpdoacfiiledcaaGreatDoor.Spl
