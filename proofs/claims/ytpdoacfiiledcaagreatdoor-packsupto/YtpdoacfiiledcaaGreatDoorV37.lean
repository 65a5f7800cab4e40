import Derived.Test.YtpdoacfiiledcaaGreatDoorV34
import Derived.Test.YtpdoacfiiledcaaGreatDoorV03
import Derived.Test.YtpdoacfiiledcaaGreatDoorV36
import Derived.Laws.Cover3
set_option linter.unusedVariables false
namespace Go.Proofs.YtpdoacfiiledcaaGreatDoor.Own
open Go.RowKit Go.Proofs.YtpdoacfiiledcaaGreatDoor
open Go.Proofs.YtpdoacfiiledcaaGreatDoor.Spl Go.Proofs.YtpdoacfiiledcaaGreatDoor.Pak

theorem shrink_docs {w : World} {base g n c : Nat} {D : List Dc} (h : w.ownsRow base 261 2 (.slice (some ⟨g, 0, none⟩) (n + 1) c) (n + 1) (docV D ++ farC)) (hn : D.length = n) : w.ownsRow base 261 2 (.slice (some ⟨g, 0, none⟩) n c) n (docV D) := by
  have := owns_shrink h (n' := n) (by omega)
  rw [List.take_left' (by rw [docV_len, hn])] at this
  exact this

theorem docs_far {w w' : World} {S : List Nat} {a : Option Addr} {D : List Dc} (h : DocsAt w a D) (k : Kp S w w') (hS : ∀ x ∈ S, w.heap.size ≤ x) : DocsAt w' a D := by
  rcases h with h | ⟨b, off, e, h0, h1⟩
  · exact .inl h
  · have hb : b ∉ S := fun hx => by have := hS b hx; omega
    exact .inr ⟨b, off, e, Nat.lt_of_lt_of_le h0 k.size, fun i hi => ⟨k.cellv (h1 i hi).1 hb, k.cellv (h1 i hi).2 hb⟩⟩
theorem pack_form {D : List Dc} {N' : List Nd} {w1 w2 : World} {e : Ending} (h : PackPost D N' w1 e w2) : ∃ (a : Option Addr) (m c : Nat) (er : Int), e = .returned (.tuple #[.slice a m c, .int .i64 er]) := by
  rcases h.2 with ⟨_, rfl⟩ | ⟨_, _, rfl⟩ | ⟨_, _, _, rfl⟩ | ⟨_, _, _, a1, c1, n1, _, rfl, _⟩
  · exact ⟨_, _, _, _, rfl⟩
  · exact ⟨_, _, _, _, rfl⟩
  · exact ⟨_, _, _, _, rfl⟩
  · exact ⟨_, _, _, _, rfl⟩
theorem pack_bound {D : List Dc} {N N' : List Nd} {w1 w2 : World} {a : Option Addr} {m c : Nat} {er : Int} (hN : IdsOk D → D = dcs N ∧ N'.Perm N ∧ Sorted N') (h : PackPost D N' w1 (.returned (.tuple #[.slice a m c, .int .i64 er])) w2) : m ≤ 200000 := by
  rcases h.2 with ⟨_, e⟩ | ⟨_, _, e⟩ | ⟨_, _, _, e⟩ | ⟨h60, hi, hs, a1, c1, n1, hl, e, _⟩
  · simp at e; omega
  · simp at e; omega
  · simp at e; omega
  · simp at e
    obtain ⟨rfl, hp, hso⟩ := hN hi
    have hlN := dcs_len N
    have hf := fine_txs N' hso (by have := hp.length_eq; omega) (fun x hx => by
      have := ((idsOk_iff _).1 hi).1 _ (List.mem_map.2 ⟨x, hp.mem_iff.1 hx, rfl⟩)
      simp at this; omega) (fun x hx => hs _ (List.mem_map.2 ⟨x, hp.mem_iff.1 hx, rfl⟩))
    have h1 := file_lenR (txs N')
    have h2 := body_lenR (txs N') hf
    omega

set_option maxHeartbeats 2000000 in
set_option maxRecDepth 100000 in
theorem free3_any (P : Nat) (L : Ls) (a b c d : Int) (s : ByteArray) (al : Option Addr) (capl n : Nat) (nm fl : Value) (D : List Dc) (w : World) (hI : Inv w P L) (hD : DocsAt w al D) (hn : D.length = n) (hnone : al = none → n = 0 ∧ capl = 0) (hb : n ≤ 2000000)
    (hF : (L.F3.length + 1) * 104 ≤ 140737488355328) :
    Calls Tryz.prog 42 #[.pointer (some ⟨P, 0, none⟩), opA 3 a b c d s (.slice al n capl) nm fl] w fun e w' => e = .returned (.bool true) ∧ (∃ x v', Inv w' P { L with F3 := L.F3 ++ [x], v3 := v' }) ∧ Below P w w' := by
  unfold opA
  obtain ⟨N, N', hN⟩ := docs_sorted D
  have hPlt := lt_of_heap hI.hP
  obtain ⟨W, hW⟩ : ∃ W, w.alloc (.cells #[.int .i64 3, .int .i64 a, .int .i64 b, .int .i64 c, .int .i64 d, .string s, .slice al n capl, nm, fl] 69) = W := ⟨_, rfl⟩
  have hbx : W.heap[w.heap.size]? = some (.cells #[.int .i64 3, .int .i64 a, .int .i64 b, .int .i64 c, .int .i64 d, .string s, .slice al n capl, nm, fl] 69 (0, 0)) := by rw [← hW]; exact heap_alloc_new w _
  have kW : Kp [] w W := by rw [← hW]; exact (Pak.Kp.refl [] w).alloc _
  have HI := hide hI
  have HD := hide (hD.kp kW)
  have HN := hide hN
  have Hn := hide hn
  have HNO := hide hnone
  have HBX := hide hbx
  have HKW := hide kW
  have HW := hide hW
  have cell6 : ∀ {w' : World} {S : List Nat}, Kp S W w' → w.heap.size ∉ S → w'.cell? ⟨w.heap.size, 6, none⟩ = some (.slice al n capl) := fun {w' S} hk hS => hk.cellv (p := ⟨w.heap.size, 6, none⟩) (by rw [cell_of_row W w.heap.size 6 _ 69 (0, 0) hbx]; rfl) hS
  have HC6 := @cell6
  clear hI hD hN hn hnone hbx kW hW cell6
  go_enter Tryz.func42, Tryz.ntmps42
  go_wp2_with fail
  rw [HW.out]
  refine (wideDocs_any al capl n D W HD.out Hn.out HNO.out (by omega)).mono ?_
  rintro e w1 ⟨g, cg, rfl, hcg, ho1, k1⟩
  have hg1 := (ho1.lt g rfl).1
  have hg2 := (ho1.lt g rfl).2
  have k01 : Kp [] W w1 := k1
  have HP := hide (spack_any W.heap.size (.slice (some ⟨g, 0, none⟩) n cg) D N N' w1 (by rw [Hn.out]; exact shrink_docs ho1 Hn.out) (by rw [Hn.out]; omega) HN.out)
  have HO1 := hide ho1
  clear ho1 k1
  go_wp2_with fail
  refine HP.out.mono ?_
  rintro e w2 hp2
  obtain ⟨a1, m1, c1, er1, rfl⟩ := pack_form hp2
  have hm1 := pack_bound HN.out hp2
  have k2 := hp2.1
  have kW2 : Kp [] W w2 := k01.next k2
  have hz1 := k01.size
  have hz2 := k2.size
  have hzW := HKW.out.size
  have hbxW := lt_of_heap HBX.out
  have cc2 := HC6 kW2 (by simp)
  have ho2 := k2.owns HO1.out (by simp)
  have hD2 := HD.out.kp kW2
  have HST := hide (stillDocs_any W.heap.size g cg capl n al D w2 hD2 (fun hn0 b' off' e' => by
    rcases HD.out with h0 | ⟨bb, oo, ee, hlt', _⟩
    · have := Hn.out; rw [h0] at this; simp at this; omega
    · rw [ee] at e'; simp at e'; omega) Hn.out (by omega) hcg ho2)
  have HP2 := hide hp2
  have HK2 := hide k2
  clear hp2 k2 ho2 hD2 HP HO1
  go_wp2_with fail
  refine HST.out.mono ?_
  rintro e w3 ⟨rfl, k3⟩
  have hz3 := k3.size
  have hgw : w.heap.size ≠ g := by omega
  have kW3 : Kp [g] W w3 := (kW2.mono (by simp)).next k3
  have cc3 := HC6 kW3 (by simpa using hgw)
  have hD3 := docs_far HD.out kW3 (fun x hx => by simp at hx; subst hx; exact hg1)
  have HRP := hide (rpack_any al capl n D N N' w3 hD3 Hn.out (by omega) HN.out)
  have HK3 := hide k3
  clear k3 hD3 HST cc2
  go_wp2_with fail
  refine HRP.out.mono ?_
  rintro e w4 hp4
  obtain ⟨a2, m2, c2, er2, rfl⟩ := pack_form hp4
  have k4 := hp4.1
  have hz4 := k4.size
  have hall : Kp [] w w4 := ((((HKW.out.next k01).next HK2.out).trans HK3.out (fun x hx => by simp at hx; subst hx; exact .inr (by omega))).next k4)
  have hbel : Below w.heap.size w w4 := hall.below (Nat.le_refl _) (by simp)
  have hsame := pack_same HP2.out hp4
  have HE : ∃ (F : List UInt8) (er : Int), (er = 0 ∨ m1 = 0 ∧ a1 = none) ∧ er1 = er ∧ er2 = er ∧ m1 = F.length ∧ m2 = F.length ∧ w4.ownsRow w1.heap.size 5 1 (.slice a1 m1 c1) m1 (byV F) ∧ w4.ownsRow w3.heap.size 5 1 (.slice a2 m2 c2) m2 (byV F) ∧ (er ≠ 0 → c1 = 0) := by
    rcases hsame with ⟨er, h0, e1, e2⟩ | ⟨F, b1, b2, d1, d2, e1, e2, o1, o2⟩
    · simp at e1 e2
      obtain ⟨⟨rfl, rfl, rfl⟩, rfl⟩ := e1
      obtain ⟨⟨rfl, rfl, rfl⟩, rfl⟩ := e2
      exact ⟨[], _, .inr ⟨rfl, rfl⟩, rfl, rfl, rfl, rfl, World.ownsRow_nil _ _ _ _, World.ownsRow_nil _ _ _ _, fun _ => rfl⟩
    · simp at e1 e2
      obtain ⟨⟨rfl, rfl, rfl⟩, rfl⟩ := e1
      obtain ⟨⟨rfl, rfl, rfl⟩, rfl⟩ := e2
      refine ⟨F, 0, .inl rfl, rfl, rfl, rfl, rfl, k4.owns (HK3.out.owns o1 (fun y hy hm => by have := (o1.lt y hy).1; simp at hm; omega)) (by simp), o2, fun h => absurd rfl h⟩
  obtain ⟨F, er, her, rfl, rfl, rfl, hm2, o1, o2, hc0⟩ := HE
  subst hm2
  have hcv1 := conv_vw w4 w4.heap.size a1 F (vw_of_owns o1 rfl) c1
  have hcv2 := conv_vw w4 w4.heap.size a2 F (vw_of_owns o2 rfl) c2
  have HB := hide (byte_any P w1.heap.size F.length L (.slice a1 F.length c1) (byV F) w w4 HI.out hbel (by omega) (by omega) hF (by omega) o1)
  have HBEL := hide (hall.below (Nat.le_of_lt hPlt) (by simp))
  clear hall hbel hsame o1 o2 hp4 k4 HRP cc3
  go_wp2_with fail
  refine HB.out.mono ?_
  rintro e w5 ⟨rfl, hx, hb5⟩
  have HX := hide hx
  have H5 := hide (HBEL.out.trans hb5)
  clear hx hb5 HB hcv1 hcv2
  by_cases h0 : er2 = 0
  · subst h0
    clear her hc0
    go_wp2_with fail
    go_ret
    exact ⟨rfl, HX.out, H5.out⟩
  · obtain ⟨_, rfl⟩ : F.length = 0 ∧ a1 = none := by
      rcases her with h | h
      · exact absurd h h0
      · exact h
    have hq : (er2 == 0) = false := by simpa using h0
    have hnil : ∀ w', (binOp .eql 112 (.slice none 0 c1) (.slice none 0 0)).run Tryz.prog w' = .ok (.bool true) w' := fun w' => by simp [binOp, run_equal_slice_nil w' 112 5 none 0 c1 Tryz.underlying112]
    clear her hc0 h0
    go_wp2_with fail
    go_ret
    exact ⟨rfl, HX.out, H5.out⟩
end Go.Proofs.YtpdoacfiiledcaaGreatDoor.Own
