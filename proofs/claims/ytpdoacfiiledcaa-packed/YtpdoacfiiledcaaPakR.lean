import Derived.Test.YtpdoacfiiledcaaPakP
namespace Go.Proofs.Ytpdoacfiiledcaa.Pak
open Go.RowKit Go.Proofs.Ytpdoacfiiledcaa SiftM
set_option linter.unusedVariables false

def lenV : Value → Nat
  | .slice _ n _ => n
  | _ => 0
theorem intV_one (l : List Nat) (x : Nat) : intV (l ++ [x]) = intV l ++ [Value.int .i64 (x : Int)] := by simp [intV]

set_option maxHeartbeats 1000000 in
set_option maxRecDepth 100000 in
theorem row_any (M c doc : Nat) (f : Nat → Nat → Option Nat) (iv tv : Value) (l : List Nat) (w : World) (hm : MapIs w M c f) (hl : ∀ i (h : i < l.length), f doc i = some l[i]) (he : f doc l.length = none) (hl2 : l.length ≤ 1000) (hd : doc ≤ 1000000) (hiv : iv.oneCell' = true) (htv : tv.oneCell' = true) :
    Calls Try.prog 49 #[.agg #[iv, tv, .map (some M)], .int .i64 doc] w fun e w' => ∃ v, e = .returned v ∧ w'.ownsRow w.heap.size 3 1 v l.length (intV l) ∧ Kp [] w w' := by
  obtain ⟨i0, hi, hz0, hz1, hz2⟩ := info_parts info3
  have hMw := hm.lt
  have HM := hide hm
  have HL := hide hl
  have HE := hide he
  clear hm hl he
  go_enter Try.func49, Try.ntmps49
  go_wp2_with fail
  obtain ⟨W, hW⟩ : ∃ W, w.alloc (.cells #[iv, tv, .map (some M)] 66) = W := ⟨_, rfl⟩
  rw [hW]
  have k0 : Kp [] w W := by rw [← hW]; exact (Kp.refl _ _).alloc _
  have hb0 : W.heap[w.heap.size]? = some (.cells #[iv, tv, .map (some M)] 66 (0, 0)) := by rw [← hW]; exact heap_alloc_new w _
  have hm0 := HM.out.kp k0 (by simp)
  have hsz0 : W.heap.size = w.heap.size + 1 := by rw [← hW]; simp
  have HB0 := hide hb0
  have HM0 := hide hm0
  clear hb0 hm0 hW
  go_loopw [5] (fun lv wr => ∃ (k : Nat) (a : Option Addr) (cap : Nat), k ≤ l.length ∧ lv = .slice a k cap ∧ wr.ownsRow w.heap.size 3 1 (.slice a k cap) k (intV (l.take k)) ∧ wr.heap[w.heap.size]? = some (.cells #[iv, tv, .map (some M)] 66 (0, 0)) ∧ MapIs wr M c f ∧ w.heap.size < wr.heap.size ∧ Kp [] w wr) (fun lv _ => l.length + 1 - lenV lv)
  case atStart => exact ⟨0, _, _, by omega, rfl, World.ownsRow_nil _ _ _ _, HB0.out, HM0.out, by omega, k0⟩
  case round =>
    clear HB0 HM0
    obtain ⟨k, a, cap, hk, rfl, hown, hb, hm, hsz, hkp⟩ := hrel
    obtain ⟨b0, b1, b2, _, _, _⟩ := tb_cells hb
    obtain ⟨x, hlook, hx⟩ := hm.look doc k (by omega) (by omega)
    have HO := hide hown
    have HB := hide hb
    have HMr := hide hm
    clear hown hb hm
    by_cases hlt : k < l.length
    · have hfk := HL.out k hlt
      rw [hfk] at hlook
      have hxk := hx _ hfk
      subst hxk
      simp only [Option.isSome_some] at hlook
      have hsn := hide (take_snocL l k hlt)
      obtain ⟨y, hy⟩ : ∃ y, l[k] = y := ⟨_, rfl⟩
      rw [hy] at hlook hsn
      clear hx hfk hy
      go_wp2_with (first
        | (at_builtin; refine wpList_append_own_at _ rfl _ _ 22 rfl w.heap.size 3 i0 (.int .i64 0) 1 8 Try.underlying22 hi hz0 hz1 hz2 rfl (by decide) _ _ _ rfl (HO.out.alloc _) ⟨wr.heap.size, 0, none⟩ 1 1 [.int .i64 (y : Int)] rfl rfl (one_new _ _ _) (one_cell _ _) ?c3 ?c4 ?c5 ?_)
        | fail)
      case c3 => unfold maxLen; omega
      case c4 => omega
      case c5 => simp; omega
      intro v' w2 hown2 hgrow _ _
      have hgrow' := hgrow
      obtain ⟨a', cap', rfl, _⟩ := owns_forms hown2
      have hwne := owns_ne HO.out HB.out (by decide)
      have hmne := owns_ne_map HO.out HMr.out
      have k2 : Kp (Value.slice a k cap).ownBlock.toList wr w2 := ((Kp.refl _ _).alloc _).grown hgrow (fun j hj => .inl (by simp [hj]))
      have hb2 := k2.heap HB.out (fun hx => hwne (by simpa using hx))
      have hm2 := HMr.out.kp k2 (fun hx => hmne (by simpa using hx))
      have hsz2 := k2.size
      have kp2 : Kp [] w w2 := hkp.trans k2 (fun x hx => .inr (HO.out.lt x (by simpa using hx)).1)
      have HO2 := hide hown2
      have HB2 := hide hb2
      have HM2 := hide hm2
      clear hown2 hb2 hm2 hgrow hgrow' hlook
      go_wp2_with fail
      go_roundw
      case rel =>
        refine ⟨k + 1, a', cap', by omega, rfl, ?_, HB2.out, HM2.out, by omega, kp2⟩
        rw [hsn.out, intV_one]
        exact HO2.out
      case measure => simp [lenV]; omega
    · have ek : k = l.length := by omega
      subst ek
      rw [HE.out] at hlook
      simp only [Option.isSome_none] at hlook
      clear hx
      go_wp2_with fail
      go_ret
      refine ⟨_, rfl, ?_, hkp⟩
      have := HO.out
      rwa [List.take_length] at this
end Go.Proofs.Ytpdoacfiiledcaa.Pak
