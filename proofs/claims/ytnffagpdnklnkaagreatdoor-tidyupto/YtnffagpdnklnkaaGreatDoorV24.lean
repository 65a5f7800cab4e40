import Derived.Test.YtnffagpdnklnkaaGreatDoorV23
import Derived.Test.YtnffagpdnklnkaaGreatDoorV19
import Derived.RangeFuncWrites
import Derived.Maps.OwnIn
set_option linter.unusedVariables false
set_option linter.unusedSimpArgs false
set_option maxRecDepth 8000
namespace Go.Proofs.YtnffagpdnklnkaaGreatDoor.Pak
open Go.RowKit Go.Proofs.YtnffagpdnklnkaaGreatDoor Go.Proofs.YtnffagpdnklnkaaGreatDoor.Spl SiftM
attribute [local go_sem] Oper.semAt_some

/-- Homes, one behind the other. -/
def homStep (T : List Tx) (p : Nat) (x : Nat × (Nat → Option (Nat × Nat))) (d : Nat) : Nat × (Nat → Option (Nat × Nat)) :=
  (if (x.2 (T.getD d (0, [])).1).isSome then x.1 else x.1 + 1, setAt x.2 (T.getD d (0, [])).1 (some (p, d)))
def homFold (T : List Tx) (p : Nat) (ds : List Nat) (x : Nat × (Nat → Option (Nat × Nat))) : Nat × (Nat → Option (Nat × Nat)) := ds.foldl (homStep T p) x
theorem homFold_snoc (T : List Tx) (p : Nat) (ds : List Nat) (d : Nat) (x : Nat × (Nat → Option (Nat × Nat))) : homFold T p (ds ++ [d]) x = homStep T p (homFold T p ds x) d := by
  unfold homFold; rw [List.foldl_append]; rfl
theorem homFold_le (T : List Tx) (p : Nat) : ∀ (ds : List Nat) (x : Nat × (Nat → Option (Nat × Nat))), (homFold T p ds x).1 ≤ x.1 + ds.length
  | [], x => by simp [homFold]
  | d :: r, x => by
    have h := homFold_le T p r (homStep T p x d)
    have h2 : (homStep T p x d).1 ≤ x.1 + 1 := by unfold homStep; simp only; split <;> omega
    unfold homFold at h ⊢
    rw [List.foldl_cons, List.length_cons]
    omega
theorem kp_own {B : Nat} {S : List Nat} {W0 : World} (hB : W0.heap.size ≤ B) {β : Type} : OwnFrom (β := β) B (fun _ W => Kp S W0 W) := by
  intro s W W' row hs hg hr
  refine hs.trans (S' := row.toList) ⟨hg.os, hg.tape, hg.output, hg.size, fun k hk hn => hg.block k hk (by intro e; apply hn; rw [← e]; simp)⟩ fun x hx => ?_
  cases row with
  | none => simp at hx
  | some r =>
    simp at hx; subst hx
    exact .inr (Nat.le_trans hB (hr _ rfl).1)
theorem keeps_of_kp {B hb : Nat} {W W' : World} (k : Kp [hb] W W') (h : hb < B) : KeepsFrom B W W' := by
  refine ⟨k.size, fun i o hB hi ho => ?_⟩
  exact k.heap hi (by simp; omega)

/-- What is asked at the end of a body that holds a range over a function, where it never panics. -/
def endM (fn : Func) (R : Ending → World → Prop) : Exit → Act → World → Prop
  | .normal, a, w => bodyPostM Fence.wide 5 Tryz.prog fn R .normal a w
  | .ret, a, w => bodyPostM Fence.wide 5 Tryz.prog fn R .ret a w
  | _, _, _ => False
theorem endM_post {fn : Func} {R : Ending → World → Prop} : ∀ (e : Exit) (a : Act) (w : World), endM fn R e a w → bodyPostM Fence.wide 5 Tryz.prog fn R e a w
  | .normal, _, _, h => h
  | .ret, _, _, h => h
theorem endM_n {fn : Func} {R : Ending → World → Prop} {a : Act} {w : World} (h : LeavesInM Fence.wide 5 Tryz.prog fn a.tmps R a.defers .returning w) : endM fn R .normal a w := h
/-- A piece of code is left at its end, so. -/
def onlyN (K : Act → World → Prop) : Exit → Act → World → Prop
  | .normal, a, w => K a w
  | _, _, _ => False
theorem onlyN_then {K : Act → World → Prop} {Q : Exit → Act → World → Prop} (h : ∀ a w, K a w → Q .normal a w) : ∀ (e : Exit) (a : Act) (w : World), onlyN K e a w → Q e a w
  | .normal, a, w, hk => h a w hk
theorem info128 : (Tryz.prog.info? 76).map (fun i => (i.zero, i.size, i.bytes)) = some (some (.pointer none), 1, 8) := by kernel_rfl
set_option maxRecDepth 100000 in
set_option maxHeartbeats 4000000 in
theorem hold_any (X B c : Nat) (s : PSt) (t : PPt) (f : Nat → Option (Nat × Nat)) (w : World) (hX : w.heap[X]? = some (.cells (pxC s) 72 (0, 0))) (hP : w.ownsRow B 76 1 s.pv s.Ps.length (ptV s.Ps)) (ht : PartIs w t) (hm : HomIs w s.hb c f) (hT : Tab64 w) (hB0 : 1 < B) (hB : B ≤ w.heap.size) (hn : s.Ps.length ≤ 1000000) (hc : c ≤ 1000000)
    (hoX : X < t.lo ∨ t.hi ≤ X) (hoP : ∀ g, s.pv.ownBlock = some g → g < t.lo ∨ t.hi ≤ g) (hoH : s.hb < t.lo ∨ t.hi ≤ s.hb) :
    Calls Tryz.prog 74 #[.pointer (some ⟨X, 0, none⟩), .pointer (some ⟨t.p, 0, none⟩)] w fun e w' => e = .returned (.tuple #[]) ∧ ∃ pv, w'.heap[X]? = some (.cells (pxC { s with pv := pv }) 72 (0, 0)) ∧ w'.ownsRow B 76 1 pv (s.Ps.length + 1) (ptV s.Ps ++ [.pointer (some ⟨t.p, 0, none⟩)]) ∧
      HomIs w' s.hb (homFold t.T t.p (bitsOf (aliveN t.T.length t.dead)) (c, f)).1 (homFold t.T t.p (bitsOf (aliveN t.T.length t.dead)) (c, f)).2 ∧ (∀ g, pv.ownBlock = some g → s.pv.ownBlock = some g ∨ w.heap.size ≤ g) ∧ Kp (X :: s.hb :: s.pv.ownBlock.toList) w w' := by
  obtain ⟨i0, hi0, hz0, hz1, hz2⟩ := info_parts info128
  obtain ⟨W2, hW2⟩ : ∃ W2, (w.alloc (.cells #[.pointer (some ⟨X, 0, none⟩)] 28)).alloc (.cells #[.pointer (some ⟨t.p, 0, none⟩)] 76) = W2 := ⟨_, rfl⟩
  have k2 : Kp [] w W2 := by rw [← hW2]; exact ((Kp.refl _ _).alloc _).alloc _
  have hz2' : W2.heap.size = w.heap.size + 1 + 1 := by rw [← hW2]; simp
  have bx : W2.heap[w.heap.size]? = some (.cells #[.pointer (some ⟨X, 0, none⟩)] 28 (0, 0)) := by
    rw [← hW2]
    exact (Below.heap_alloc _ _ _ (by simp)).trans (heap_alloc_new w _)
  have bp : W2.heap[w.heap.size + 1]? = some (.cells #[.pointer (some ⟨t.p, 0, none⟩)] 76 (0, 0)) := by
    rw [← hW2]
    have := heap_alloc_new (w.alloc (.cells #[.pointer (some ⟨X, 0, none⟩)] 28)) (.cells #[.pointer (some ⟨t.p, 0, none⟩)] 76)
    rwa [World.size_alloc] at this
  have cx : W2.cell? ⟨w.heap.size, 0, none⟩ = some (.pointer (some ⟨X, 0, none⟩)) := by simp [World.cell?, bx]
  have cp : W2.cell? ⟨w.heap.size + 1, 0, none⟩ = some (.pointer (some ⟨t.p, 0, none⟩)) := by simp [World.cell?, bp]
  have hX2 := k2.heap hX (by simp)
  have x8 : W2.cell? ⟨X, 8, none⟩ = some s.pv := by simp [World.cell?, hX2, pxC, pxA]
  have hP2 := k2.owns hP (by simp)
  have hXP : Hid (s.pv.ownBlock ≠ some X) := owns_ne_type hP hX (by decide)
  have lx : w.heap.size < W2.heap.size := by omega
  have x8' : ∀ o, (W2.alloc o).cell? ⟨X, 8, none⟩ = some s.pv := fun o => by rw [World.cell?_alloc_past _ _ _ (World.block_lt_of_cell? W2 _ x8)]; exact x8
  have cx' : ∀ o, (W2.alloc o).cell? ⟨w.heap.size, 0, none⟩ = some (.pointer (some ⟨X, 0, none⟩)) := fun o => by rw [World.cell?_alloc_past _ _ _ (World.block_lt_of_cell? W2 _ cx)]; exact cx
  have cp' : ∀ o, (W2.alloc o).cell? ⟨w.heap.size + 1, 0, none⟩ = some (.pointer (some ⟨t.p, 0, none⟩)) := fun o => by rw [World.cell?_alloc_past _ _ _ (World.block_lt_of_cell? W2 _ cp)]; exact cp
  have hXX : ∀ (u : World), Kp s.pv.ownBlock.toList W2 u → u.heap[X]? = some (.cells (pxC s) 72 (0, 0)) ∧ u.cell? ⟨X, 8, none⟩ = some s.pv ∧ u.frozen? ⟨X, 8, none⟩ = false ∧ u.cell? ⟨w.heap.size, 0, none⟩ = some (.pointer (some ⟨X, 0, none⟩)) ∧ u.cell? ⟨w.heap.size + 1, 0, none⟩ = some (.pointer (some ⟨t.p, 0, none⟩)) := by
    intro u ku
    have hlt : ∀ g, s.pv.ownBlock = some g → g < w.heap.size := fun g hg => (hP.lt g hg).2
    have hu := ku.heap hX2 (fun hx => hXP.out (by simpa using hx))
    exact ⟨hu, ku.cellv x8 (fun hx => hXP.out (by simpa using hx)), by simp [World.frozen?, hu], ku.cellv cx (fun hx => by have h9 : w.heap.size < w.heap.size := hlt _ (by simpa using hx); omega), ku.cellv cp (fun hx => by have h9 : w.heap.size + 1 < w.heap.size := hlt _ (by simpa using hx); omega)⟩
  have HXX := hide hXX
  have HP2 := hide hP2
  have HBX := hide bx
  have HBP := hide bp
  have HT := hide ht
  have HM := hide hm
  have HTab := hide hT
  have hBw : B ≤ W2.heap.size := by omega
  have HZ := hide hz2'
  have hHlt : s.hb < w.heap.size := hm.lt
  have h1w : 1 < w.heap.size := World.block_lt_of_cell? w ⟨1, 0, none⟩ (hT 0 (by omega))
  have hX0 : Hid (X ≠ 1) := by
    rintro rfl
    have h1 := hT 0 (by omega)
    have h2 : w.cell? ⟨1, 0, none⟩ = some (.int .i64 (s.buf : Int)) := by simp [World.cell?, hX, pxC, pxA]
    rw [h2] at h1
    simp at h1
  have hH0 : Hid (s.hb ≠ 1) := by
    intro e
    obtain ⟨es, ck, e2⟩ := hm.block
    have h1 := hT 0 (by omega)
    rw [e] at e2
    simp [World.cell?, e2] at h1
  have hP0 : Hid (∀ g, s.pv.ownBlock = some g → g ≠ 1) := fun g hg => by have := (hP.lt g hg).1; omega
  have hXlt : X < w.heap.size := heap_lt hX
  have hPlt : Hid (∀ g, s.pv.ownBlock = some g → g < w.heap.size) := fun g hg => (hP.lt g hg).2
  have hpX : Hid (t.p ≠ X) := cells_ne ht.cells hX (by decide)
  have hpP : Hid (s.pv.ownBlock ≠ some t.p) := owns_ne_type hP ht.cells (by decide)
  have hmb : Hid (∃ es ck, w.heap[s.hb]? = some (.map es ck)) := hm.block
  have hXh : Hid (X ≠ s.hb) := by obtain ⟨es, ck, e⟩ := hm.block; exact cells_map hX e
  have hPh : Hid (s.pv.ownBlock ≠ some s.hb) := by obtain ⟨es, ck, e⟩ := hm.block; exact owns_ne_obj hP e
  have hph : Hid (t.p ≠ s.hb) := by obtain ⟨es, ck, e⟩ := hm.block; exact cells_map ht.cells e
  clear hX hP ht hm hT hXX hP2 bx bp hX2 hz2'
  refine (callsIn_wide (n := 5)).1 ?_
  refine callsIn_of_wp_marks Tryz.func74 rfl trivial ?_ rfl
  simp only [Tryz.ntmps74, List.size_toArray, List.length_cons, List.length_nil, Nat.reduceAdd, Nat.reduceSub, Array.replicate_succ, Array.replicate_zero, List.push_toArray, List.append_toArray, List.nil_append, List.cons_append]
  refine wpIn_wide.2 ?_
  refine Go.wp_mono (Q := endM _ _) ?_ endM_post
  go_wp2_with fail
  refine Go.wp_mono (Q := onlyN fun a' w' => ∃ g cap, a' = { tmps := #[.pointer (some ⟨X, 0, none⟩), .pointer (some ⟨t.p, 0, none⟩), .pointer (some ⟨w.heap.size, 0, none⟩), .pointer (some ⟨w.heap.size + 1, 0, none⟩), undef, .pointer (some ⟨X, 0, none⟩), .pointer (some ⟨X, 0, none⟩), .pointer (some ⟨X, 0, none⟩), .pointer (some ⟨X, 8, none⟩), s.pv, .pointer (some ⟨t.p, 0, none⟩), .slice (some ⟨W2.heap.size, 0, none⟩) 1 1, .slice (some ⟨g, 0, none⟩) (s.Ps.length + 1) cap, .pointer (some ⟨X, 0, none⟩), .pointer (some ⟨X, 8, none⟩), undef, undef, undef, undef, undef, undef, undef, undef, undef, undef, undef, undef, undef, undef, undef, undef, undef], defers := [] } ∧
      w'.heap[X]? = some (.cells (pxC { s with pv := .slice (some ⟨g, 0, none⟩) (s.Ps.length + 1) cap }) 72 (0, 0)) ∧ w'.ownsRow B 76 1 (.slice (some ⟨g, 0, none⟩) (s.Ps.length + 1) cap) (s.Ps.length + 1) (ptV s.Ps ++ [.pointer (some ⟨t.p, 0, none⟩)]) ∧ (s.pv.ownBlock = some g ∨ w.heap.size ≤ g) ∧ Kp (X :: s.pv.ownBlock.toList) W2 w') ?mid (onlyN_then ?rest)
  case mid =>
    go_region_law ((refine step_append_lies _ (by rfl) _ _ _ (by rfl) B 76 i0 _ 1 8 Tryz.underlying66 hi0 hz0 hz1 hz2 rfl (by omega) s.pv s.Ps.length (ptV s.Ps) (by rfl) ((HP2.out.alloc _).drew) ⟨W2.heap.size, 0, none⟩ 1 1 [.pointer (some ⟨t.p, 0, none⟩)] (by rfl) (by rfl) (World.news_of_block (cs := #[.pointer (some ⟨t.p, 0, none⟩)]) (t := 76) (fr := (0, 0)) (heap_alloc_new W2 _)) (by simp [Value.oneCell']) (by omega) (by unfold maxLen; omega) (by omega) (by simp; omega) (W2.heap.size + 1) (by simp) ?_; intro g cap w3 hown3 hgrow hat hlt3; have k3 := kp_append hgrow; obtain ⟨zX, z3, zf, zc, zp⟩ := HXX.out w3 k3))
    all_goals
      refine ⟨g, cap, rfl, ?_, ?_, ?_, ?_⟩
      · rw [heap_setCell_same w3 X 8 _ 72 _ zX, pxC_set8]
      · exact (kp_set w3 X 8 _).owns hown3 (fun gg hgg hx => by
          simp at hx; subst hx
          exact owns_ne_type hown3 zX (by decide) hgg)
      · rcases hat with h9 | h9
        · exact .inl h9
        · right; have := k2.size; omega
      · exact (k3.mono (fun x hx => List.mem_cons_of_mem _ hx)).next ((kp_set w3 X 8 _).mono (by simp))
  case rest =>
    rintro a' W3 ⟨g, cap, rfl, hX3, hP3, hg3, k3⟩
    have hS3 : ∀ x ∈ X :: s.pv.ownBlock.toList, x = X ∨ s.pv.ownBlock = some x := fun x hx => by
      rcases List.mem_cons.1 hx with e | e
      · exact .inl e
      · exact .inr (by simpa using e)
    have hlt3 : ∀ x ∈ X :: s.pv.ownBlock.toList, x < w.heap.size := fun x hx => by
      rcases hS3 x hx with rfl | e
      · exact hXlt
      · exact hPlt.out x e
    have zc := k3.cellv cx (fun hx => by have := hlt3 _ hx; simp at this)
    have zp := k3.cellv cp (fun hx => by have := hlt3 _ hx; simp at this; omega)
    have k03 : Kp (X :: s.pv.ownBlock.toList) w W3 := (k2.mono (by simp)).next k3
    have ht3 : PartIs W3 t := HT.out.kp k03 (fun hx => by
      rcases hS3 _ hx with e | e
      · exact hpX.out e
      · exact hpP.out e) (fun x hx => by
      rcases hS3 x hx with rfl | e
      · exact hoX
      · exact hoP x e)
    have hm3 : HomIs W3 s.hb c f := HM.out.kp k03 (fun hx => by
      rcases hS3 _ hx with e | e
      · exact hXh.out e.symm
      · exact hPh.out e)
    have hT3 : Tab64 W3 := HTab.out.kp k03 (fun hx => by
      rcases hS3 _ hx with e | e
      · exact hX0.out e.symm
      · exact hP0.out _ e rfl)
    obtain ⟨pc0, pc1, _, _⟩ := rd_cells ht3.cells
    have hal := alive_any t.p t.q _ _ _ _ _ t.dead W3 pc0 pc1 ht3.seg.segC ht3.fine.len ht3.dlt
    have HT3 := hide ht3
    have HM3 := hide hm3
    have HTab3 := hide hT3
    have HX3 := hide hX3
    have HP3 := hide hP3
    clear ht3 hm3 hT3 hX3 hP3
    go_wp2_with fail
    refine hal.mono ?_
    rintro e W4 ⟨rfl, k4⟩
    go_wp2_with fail
    refine (places_any _ W4).mono ?_
    rintro e W5 ⟨rfl, hW5⟩
    have k45 : Kp [] W4 W5 := by rw [hW5]; exact (Kp.refl _ _).alloc _
    have k35 := k4.next k45
    have hz5 : W4.heap.size < W5.heap.size := by rw [hW5]; simp
    have hc5 : W5.cell? ⟨W4.heap.size, 0, none⟩ = some (.int .u64 (aliveN t.T.length t.dead : Nat)) := by
      have := heap_alloc_new W4 (.cells #[.int .u64 (aliveN t.T.length t.dead : Nat)] 79)
      rw [← hW5] at this
      simp [World.cell?, this]
    have hT5 := HTab3.out.kp k35 (by simp)
    have hm5 := HM3.out.kp k35 (by simp)
    have ht5 := HT3.out.kp k35 (by simp) (by simp)
    have zc5 := k35.cellv zc (by simp)
    have zp5 := k35.cellv zp (by simp)
    have x95 : W5.cell? ⟨X, 9, none⟩ = some (.map (some s.hb)) := k35.cellv (by simp [World.cell?, HX3.out, pxC, pxA]) (by simp)
    have hb5 : s.hb < W5.heap.size := hm5.lt
    have h1w5 : 1 < W5.heap.size := by have z1 := k2.size; have z2 := k3.size; have z3 := k35.size; omega
    have hal60 := alive_lt t.T.length t.dead ht5.fine.len
    have hbits := bits_alive t.T.length t.dead ht5.fine.len ht5.dlt
    obtain ⟨L, hL⟩ : ∃ L, L = bitsOf (aliveN t.T.length t.dead) := ⟨_, rfl⟩
    have hLt : ∀ d ∈ L, d < t.T.length := fun d hd => by
      rw [hL, hbits] at hd
      exact List.mem_range.1 (List.mem_filter.1 hd).1
    have HT5 := hide ht5
    have HM5 := hide hm5
    have HW5 := hide hW5
    clear hW5 ht5 hm5 hal
    go_wp2_with fail
    refine (wpIn_wide (n := 5)).1 ?_
    refine wpIn_rangeFunc_ownG rfl (by omega) (gf := 163) (lb := #[.pointer (some ⟨W4.heap.size, 0, none⟩)]) rfl trivial (enters_of Tryz.func163 (by kernel_rfl) rfl)
      (places_stops 4 (by omega) W4.heap.size (aliveN t.T.length t.dead) L hL hal60 W5 hz5 (by omega) hc5 hT5) ktab_t (ktab_b (n := W5.heap.size) (by omega)) (Below.refl _ _) (fun _ => rfl)
      (fun pre W => HomIs W s.hb (homFold t.T t.p (pre.map Subtype.val) (c, f)).1 (homFold t.T t.p (pre.map Subtype.val) (c, f)).2 ∧ Kp [s.hb] W5 W)
      (fun _ _ _ => False)
      (OwnFrom.and (fun pre A B row hs hg hr => hs.kp (S := row.toList) ⟨hg.os, hg.tape, hg.output, hg.size, fun k hk hn => hg.block k hk (by intro e; apply hn; rw [← e]; simp)⟩ (fun hx => by
        have := (hr s.hb (by simpa using hx)).1
        omega)) (kp_own (Nat.le_refl _)))
      (fun _ _ _ _ _ hs _ _ => hs)
      ⟨HM5.out, Kp.refl _ _⟩
      (fun x => { tmps := #[.pointer (some ⟨X, 0, none⟩), .pointer (some ⟨t.p, 0, none⟩), .pointer (some ⟨w.heap.size, 0, none⟩), .pointer (some ⟨w.heap.size + 1, 0, none⟩), .int .i64 (x.1 : Int), .pointer (some ⟨X, 0, none⟩), .pointer (some ⟨X, 0, none⟩), .pointer (some ⟨X, 0, none⟩), .pointer (some ⟨X, 8, none⟩), s.pv, .pointer (some ⟨t.p, 0, none⟩), .slice (some ⟨W2.heap.size, 0, none⟩) 1 1, .slice (some ⟨g, 0, none⟩) (s.Ps.length + 1) cap, .pointer (some ⟨X, 0, none⟩), .pointer (some ⟨X, 8, none⟩), .pointer (some ⟨t.p, 0, none⟩), .int .u64 (aliveN t.T.length t.dead : Nat), .func (.func 163) #[] #[.pointer (some ⟨W4.heap.size, 0, none⟩)], .int .i64 (x.1 : Int), undef, undef, undef, undef, undef, undef, undef, undef, undef, undef, undef, undef, undef], defers := [] }) ?assign ?body ?done ?stop
    case assign =>
      intro l x W K hK
      simp only [plV]
      gi_wp2
      exact hK
    case stop =>
      rintro D cc pre W _ _ h _
      exact h.elim
    case body =>
      rintro l pre x W ⟨hh, hkp⟩ hlt
      obtain ⟨d, hd⟩ := x
      have hdT := hLt d hd
      have htW := HT5.out.kp hkp (by simpa using hph.out) (fun y hy => by simp at hy; subst hy; exact hoH)
      have q1 := hkp.cellv zc5 (by simp; omega)
      have q2 := hkp.cellv zp5 (by simp; omega)
      have q3 := hkp.cellv x95 (by simpa using hXh.out)
      obtain ⟨q4, _, _, _⟩ := rd_cells htW.cells
      obtain ⟨ai, ci, ei, hai⟩ := owns_forms htW.seg.ids
      obtain ⟨gi, rfl⟩ := hai (by omega)
      have q5 : W.cell? ⟨t.q, 1, none⟩ = some (.slice (some ⟨gi, 0, none⟩) t.T.length ci) := by
        obtain ⟨M2, aa, ca, st, H, hc⟩ := htW.seg.cells
        rw [← ei]
        simp [World.cell?, hc]
      have hids := htW.seg.ids
      rw [ei] at hids
      have hcall := fun (W9 : World) (k : Kp [] W W9) => segId_any t.q d t.T.length ci gi t.lo t.T W9 (k.cellv q5 (by simp)) (k.owns hids (by simp)) hdT rfl
      have hidle : t.T[d].1 ≤ 99999 := htW.fine.ids _ (List.getElem_mem hdT)
      have hcb := homFold_le t.T t.p (pre.map Subtype.val) (c, f)
      simp only [List.length_map] at hcb
      have hgd := fst_getD t.T d hdT
      have hst := fun (W9 : World) (k : Kp [] W W9) => (hh.kp k (by simp)).store (by omega) t.T[d].1 (t.p, d) (by omega)
      obtain ⟨idn, hidn⟩ : ∃ idn, t.T[d].1 = idn := ⟨_, rfl⟩
      rw [hidn] at hidle
      simp only [hidn] at hcall hst
      have HGD := hide hgd
      have HST := hide hst
      have HIDN := hide hidn
      clear htW hids ei hh hgd hidn hst
      have mixed : Tryz.prog.follows .mixedOrders = true := by kernel_rfl
      gi_wp2
      refine region_round (S := fun w' => w'.cell? ⟨w.heap.size, 0, none⟩ = some (.pointer (some ⟨X, 0, none⟩)) ∧ w'.cell? ⟨X, 9, none⟩ = some (.map (some s.hb)) ∧ w'.cell? ⟨w.heap.size + 1, 0, none⟩ = some (.pointer (some ⟨t.p, 0, none⟩)) ∧ w'.cell? ⟨t.p, 0, none⟩ = some (.pointer (some ⟨t.q, 0, none⟩))) mixed (by rintro ⟨_, _, h⟩; exact h) (noDefer (by rfl)) fun W9 k9 _ => ?_
      have hh9 : W9.cell? ⟨w.heap.size, 0, none⟩ = some (.pointer (some ⟨X, 0, none⟩)) ∧ W9.cell? ⟨X, 9, none⟩ = some (.map (some s.hb)) ∧ W9.cell? ⟨w.heap.size + 1, 0, none⟩ = some (.pointer (some ⟨t.p, 0, none⟩)) ∧ W9.cell? ⟨t.p, 0, none⟩ = some (.pointer (some ⟨t.q, 0, none⟩)) := ⟨k9.cellv q1 (by simp), k9.cellv q3 (by simp), k9.cellv q2 (by simp), k9.cellv q4 (by simp)⟩
      refine anyH_tk 0 19 (.pointer (some ⟨X, 0, none⟩)) rfl (Or.inl ⟨by rfl, fun w' hS => by obtain ⟨s1, s2, s3, s4⟩ := hS; go_simp⟩) hh9 ?_
      simp only [Act.put, List.setIfInBounds_toArray, List.set_cons_zero, List.set_cons_succ]
      refine anyH_tk 1 20 (.pointer (some ⟨X, 0, none⟩)) rfl (Or.inl ⟨by rfl, fun w' hS => by go_simp⟩) hh9 ?_
      simp only [Act.put, List.setIfInBounds_toArray, List.set_cons_zero, List.set_cons_succ]
      refine anyH_tk 2 21 (.pointer (some ⟨X, 9, none⟩)) rfl (Or.inl ⟨by rfl, fun w' hS => by go_simp⟩) hh9 ?_
      simp only [Act.put, List.setIfInBounds_toArray, List.set_cons_zero, List.set_cons_succ]
      refine anyH_tk 3 22 (.map (some s.hb)) rfl (Or.inl ⟨by rfl, fun w' hS => by obtain ⟨s1, s2, s3, s4⟩ := hS; go_simp⟩) hh9 ?_
      simp only [Act.put, List.setIfInBounds_toArray, List.set_cons_zero, List.set_cons_succ]
      refine anyH_tk 4 23 (.pointer (some ⟨t.p, 0, none⟩)) rfl (Or.inl ⟨by rfl, fun w' hS => by obtain ⟨s1, s2, s3, s4⟩ := hS; go_simp⟩) hh9 ?_
      simp only [Act.put, List.setIfInBounds_toArray, List.set_cons_zero, List.set_cons_succ]
      refine anyH_tk 5 24 (.pointer (some ⟨t.p, 0, none⟩)) rfl (Or.inl ⟨by rfl, fun w' hS => by go_simp⟩) hh9 ?_
      simp only [Act.put, List.setIfInBounds_toArray, List.set_cons_zero, List.set_cons_succ]
      refine anyH_tk 6 25 (.pointer (some ⟨t.p, 0, none⟩)) rfl (Or.inl ⟨by rfl, fun w' hS => by go_simp⟩) hh9 ?_
      simp only [Act.put, List.setIfInBounds_toArray, List.set_cons_zero, List.set_cons_succ]
      refine anyH_tk 7 26 (.pointer (some ⟨t.q, 0, none⟩)) rfl (Or.inl ⟨by rfl, fun w' hS => by obtain ⟨s1, s2, s3, s4⟩ := hS; go_simp⟩) hh9 ?_
      simp only [Act.put, List.setIfInBounds_toArray, List.set_cons_zero, List.set_cons_succ]
      refine anyH_tk 8 27 (.int .i64 (d : Int)) rfl (Or.inl ⟨by rfl, fun w' hS => by go_simp⟩) hh9 ?_
      simp only [Act.put, List.setIfInBounds_toArray, List.set_cons_zero, List.set_cons_succ]
      refine anyH_tk 10 29 (.pointer (some ⟨t.p, 0, none⟩)) rfl (Or.inl ⟨by rfl, fun w' hS => by obtain ⟨s1, s2, s3, s4⟩ := hS; go_simp⟩) hh9 ?_
      simp only [Act.put, List.setIfInBounds_toArray, List.set_cons_zero, List.set_cons_succ]
      refine anyH_tk 11 30 (.int .i64 (d : Int)) rfl (Or.inl ⟨by rfl, fun w' hS => by go_simp⟩) hh9 ?_
      simp only [Act.put, List.setIfInBounds_toArray, List.set_cons_zero, List.set_cons_succ]
      refine anyH_tk 12 31 (.agg #[.pointer (some ⟨t.p, 0, none⟩), .int .i64 (d : Int)]) rfl (Or.inl ⟨by rfl, fun w' hS => by go_simp⟩) hh9 ?_
      simp only [Act.put, List.setIfInBounds_toArray, List.set_cons_zero, List.set_cons_succ]
      refine step_call (i := 9) (o := { dst := some 28, op := _, type := _, pos := _, after := _, guard := _ }) (f := 122) (args := #[.pointer (some ⟨t.q, 0, none⟩), .int .i64 (d : Int)]) (Post := fun v w' => v = .int .i64 (idn : Int) ∧ w' = W9) (by kernel_rfl) rfl (by rfl) (by go_simp) ?_ (fun v w' h => by rw [h.2]; exact hh9) ?_
      · refine (hcall W9 k9).mono ?_
        rintro r w' ⟨rfl, rfl⟩
        exact ⟨_, rfl, rfl, rfl⟩
      rintro v w' ⟨rfl, rfl⟩
      simp only [Act.put, List.setIfInBounds_toArray, List.set_cons_zero, List.set_cons_succ]
      obtain ⟨W6, hupd, hm6, k6⟩ := HST.out w' k9
      have k06 : Kp [s.hb] W W6 := (k9.mono (by simp)).next k6
      refine last_update (i := 13) (o := { dst := none, op := _, type := _, pos := _, after := _, guard := _ }) (w' := W6) (by kernel_rfl) rfl (by rfl) rfl rfl (by simpa [Act.eval, homV] using hupd) ?_ (by kernel_rfl) ?_
      · exact ⟨k6.cellv hh9.1 (by simp; omega), k6.cellv hh9.2.1 (by simpa using hXh.out), k6.cellv hh9.2.2.1 (by simp; omega), k6.cellv hh9.2.2.2 (by simpa using hph.out)⟩
      · refine ⟨keeps_of_kp k06 hb5, ?_, ?_, hkp.next k06⟩
        · intro hTab
          exact hTab.kp k06 (by simpa using hH0.out.symm)
        · rw [List.map_append, List.map_cons, List.map_nil, homFold_snoc]
          unfold homStep
          rw [HGD.out, HIDN.out]
          exact hm6
    case done =>
      rintro D xs W hD hxs ⟨hh, hkp⟩ hK
      gi_wp2
      refine endM_n ?_
      refine ⟨by simp, .inl ⟨_, _, rfl, run_takeDeferred hK, ?_⟩⟩
      have kD : Kp [D] W (W.putObj D (.deferred none)) := by
        refine ⟨rfl, rfl, rfl, by simp [World.putObj], fun i hi hn => ?_⟩
        unfold World.putObj
        simp only
        rw [Array.getElem?_setIfInBounds_ne (by simp at hn; exact fun e => hn e.symm)]
      have hz35 := k35.size
      have hz23 := k3.size
      have hz02 := k2.size
      have kW : Kp [s.hb, D] W3 (W.putObj D (.deferred none)) := (k35.mono (by simp)).next ((hkp.mono (by simp)).next (kD.mono (by simp)))
      refine ⟨_, results_none rfl _ _ _, rfl, _, kW.heap HX3.out ?_, kW.owns HP3.out ?_, ?_, ?_, ?_⟩
      · simp only [List.mem_cons, List.not_mem_nil, or_false, not_or]
        exact ⟨hXh.out, by omega⟩
      · intro gg hgg hx
        simp at hx
        rcases hx with rfl | rfl
        · obtain ⟨es, ck, e2⟩ := hmb.out
          have hlt := (HP3.out.lt _ hgg).2
          have e3 := HM3.out.block
          obtain ⟨es3, ck3, e3⟩ := e3
          exact owns_ne_obj HP3.out e3 hgg
        · have hlt := (HP3.out.lt _ hgg).2
          omega
      · have := hh.kp kD (by simp; omega)
        rw [hxs] at this
        rw [← hL]
        exact this
      · intro gg hgg
        rcases hg3 with h9 | h9
        · simp [Value.ownBlock] at hgg
          subst hgg
          exact .inl h9
        · simp [Value.ownBlock] at hgg
          subst hgg
          exact .inr h9
      · refine (k03.mono (fun x hx => ?_)).trans kW (fun x hx => ?_)
        · rcases List.mem_cons.1 hx with e | e
          · simp [e]
          · exact List.mem_cons_of_mem _ (List.mem_cons_of_mem _ e)
        · simp at hx
          rcases hx with rfl | rfl
          · exact .inl (by simp)
          · exact .inr (by omega)
/-- The homes of docs that had none: what is told one by one is what is told at once. -/
theorem homFold_new (T : List Tx) (p : Nat) (l : List (Nat × (Nat × Nat))) : ∀ (ds : List Nat) (f : Nat → Option (Nat × Nat)), (∀ id, f id = (l.find? fun x => x.1 == id).map Prod.snd) →
    (l.map Prod.fst ++ ds.map fun d => (T.getD d (0, [])).1).Nodup →
    (homFold T p ds (l.length, f)).1 = l.length + ds.length ∧ ∀ id, (homFold T p ds (l.length, f)).2 id = ((l ++ ds.map fun d => ((T.getD d (0, [])).1, (p, d))).find? fun x => x.1 == id).map Prod.snd
  | [], f, hf, _ => by
    refine ⟨by simp [homFold], fun id => ?_⟩
    simp [homFold, hf]
  | d :: r, f, hf, hnd => by
    obtain ⟨i, hi⟩ : ∃ i, (T.getD d (0, [])).1 = i := ⟨_, rfl⟩
    have hno : i ∉ l.map Prod.fst := by
      intro h
      have := (List.pairwise_append.1 hnd).2.2 i h i (by rw [List.map_cons, hi]; exact List.mem_cons_self)
      exact this rfl
    have hfi : f i = none := by
      rw [hf]
      cases hfd : l.find? fun x => x.1 == i with
      | none => rfl
      | some y =>
        have h1 := List.find?_some hfd
        have h2 := List.mem_of_find?_eq_some hfd
        simp at h1
        exact absurd (List.mem_map.2 ⟨y, h2, h1⟩) hno
    have hst : homStep T p (l.length, f) d = ((l ++ [(i, (p, d))]).length, setAt f i (some (p, d))) := by
      show (if (f (T.getD d (0, [])).1).isSome then l.length else l.length + 1, setAt f (T.getD d (0, [])).1 (some (p, d))) = _
      rw [hi, hfi]
      simp
    have ih := homFold_new T p (l ++ [(i, (p, d))]) r (setAt f i (some (p, d))) (fun id => by
      unfold setAt
      rw [List.find?_append]
      by_cases h : id = i
      · subst h
        rw [if_pos rfl]
        have hn : l.find? (fun x => x.1 == id) = none := by
          rw [List.find?_eq_none]
          intro x hx e
          simp at e
          exact hno (List.mem_map.2 ⟨x, hx, e⟩)
        rw [hn]
        simp
      · rw [if_neg h, hf]
        have : ¬ i = id := fun e => h e.symm
        simp [this]) (by
      rw [List.map_cons, hi] at hnd
      rw [List.map_append, List.append_assoc]
      exact hnd)
    unfold homFold at ih ⊢
    rw [List.foldl_cons, hst]
    refine ⟨by rw [ih.1]; simp; omega, fun id => ?_⟩
    rw [ih.2 id, List.map_cons, hi, List.append_assoc]
    rfl
theorem homes_eq (t : PPt) (hn : t.T.length ≤ 60) (hd : t.dead < 18446744073709551616) : (bitsOf (aliveN t.T.length t.dead)).map (fun d => ((t.T.getD d (0, [])).1, (t.p, d))) = t.homes := by
  rw [bits_alive _ _ hn hd]
  rfl
/-- A new part, whose ids have no homes yet. -/
theorem hold_homes {Ps : List PPt} {t : PPt} (hn : t.T.length ≤ 60) (hd : t.dead < 18446744073709551616) (hnd : ((homL (Ps ++ [t])).map Prod.fst).Nodup) :
    (homFold t.T t.p (bitsOf (aliveN t.T.length t.dead)) ((homL Ps).length, homF Ps)).1 = (homL (Ps ++ [t])).length ∧ (homFold t.T t.p (bitsOf (aliveN t.T.length t.dead)) ((homL Ps).length, homF Ps)).2 = homF (Ps ++ [t]) := by
  have e : homL (Ps ++ [t]) = homL Ps ++ t.homes := by unfold homL; simp
  have he := homes_eq t hn hd
  rw [e] at hnd ⊢
  obtain ⟨h1, h2⟩ := homFold_new t.T t.p (homL Ps) (bitsOf (aliveN t.T.length t.dead)) (homF Ps) (fun id => rfl) (by
    rw [List.map_append, ← he, List.map_map] at hnd
    exact hnd)
  refine ⟨?_, ?_⟩
  · rw [h1, List.length_append, ← he, List.length_map]
  · funext id
    rw [h2 id, he]
    unfold homF
    rw [e]
/-- A part that was made from one world to the next. -/
structure NewPt (w w' : World) (t : PPt) : Prop where
  lo : w.heap.size ≤ t.lo
  hi : t.hi ≤ w'.heap.size
  pl : t.hi ≤ t.p
  ph : t.p < w'.heap.size
  le : t.lo ≤ t.hi
  is : PartIs w' t

set_option maxHeartbeats 2000000 in
theorem lay_any (X B c dead : Nat) (s : PSt) (T : List Tx) (v : Value) (vs : List Value) (f : Nat → Option (Nat × Nat)) (w : World) (hX : w.heap[X]? = some (.cells (pxC s) 72 (0, 0))) (hP : w.ownsRow B 76 1 s.pv s.Ps.length (ptV s.Ps)) (hT : TextsIs w B v T vs) (hf : Fine T) (hm : HomIs w s.hb c f) (hTab : Tab64 w) (hB0 : 1 < B) (hB : B ≤ w.heap.size) (hn : s.Ps.length ≤ 1000000) (hc : c ≤ 1000000) (hnx : s.next ≤ 1000000) (hd : dead < 2 ^ T.length) :
    Calls Tryz.prog 34 #[.pointer (some ⟨X, 0, none⟩), v, .int .u64 (dead : Int)] w fun e w' => e = .returned (.tuple #[]) ∧ ∃ t pv, (t.num = s.next ∧ t.T = T ∧ t.dead = dead) ∧ NewPt w w' t ∧ w'.heap[X]? = some (.cells (pxC { s with pv := pv, next := s.next + 1 }) 72 (0, 0)) ∧ w'.ownsRow B 76 1 pv (s.Ps.length + 1) (ptV s.Ps ++ [.pointer (some ⟨t.p, 0, none⟩)]) ∧
      HomIs w' s.hb (homFold T t.p (bitsOf (aliveN T.length dead)) (c, f)).1 (homFold T t.p (bitsOf (aliveN T.length dead)) (c, f)).2 ∧ (∀ g, pv.ownBlock = some g → s.pv.ownBlock = some g ∨ t.hi ≤ g) ∧ Kp (X :: s.hb :: s.pv.ownBlock.toList) w w' := by
  obtain ⟨av, cv, ev, _⟩ := owns_forms hT.row
  have hseg := segOf_any B s.next v T vs w hT hf hnx
  have x10 : w.cell? ⟨X, 10, none⟩ = some (.int .i64 (s.next : Int)) := by simp [World.cell?, hX, pxC, pxA]
  have hXlt := heap_lt hX
  have hHlt := hm.lt
  have hPlt : ∀ g, s.pv.ownBlock = some g → g < w.heap.size := fun g hg => (hP.lt g hg).2
  have HX := hide hX
  have HP := hide hP
  have HF := hide hf
  have HM := hide hm
  have HTab := hide hTab
  have HPL := hide hPlt
  rw [ev] at hseg ⊢
  clear hX hP hT hf hm hTab hPlt ev
  go_enter Tryz.func34, Tryz.ntmps34
  go_wp2_with fail
  refine hseg.mono ?_
  rintro e w1 ⟨P, iv, tv, M, rfl, hsg, k1⟩
  have hz1 := k1.size
  have hsl := hsg.lowP
  have hsh := hsg.highP
  obtain ⟨W2, hW2⟩ : ∃ W2, w1.alloc (.cells #[.pointer (some ⟨P, 0, none⟩), .int .u64 (dead : Int)] 81) = W2 := ⟨_, rfl⟩
  have k2 : Kp [] w1 W2 := by rw [← hW2]; exact (Kp.refl _ _).alloc _
  have hp2 : W2.heap[w1.heap.size]? = some (.cells #[.pointer (some ⟨P, 0, none⟩), .int .u64 (dead : Int)] 81 (0, 0)) := by rw [← hW2]; exact heap_alloc_new w1 _
  have hz2 : w1.heap.size < W2.heap.size := heap_lt hp2
  obtain ⟨t, ht⟩ : ∃ t : PPt, t = ⟨w1.heap.size, P, w.heap.size, w1.heap.size, s.next, T, dead, iv, tv, M⟩ := ⟨_, rfl⟩
  have htp : t.p = w1.heap.size := by rw [ht]
  have htl : t.lo = w.heap.size := by rw [ht]
  have hth : t.hi = w1.heap.size := by rw [ht]
  have htT : t.T = T := by rw [ht]
  have htd : t.dead = dead := by rw [ht]
  have htn : t.num = s.next := by rw [ht]
  have hpt2 : PartIs W2 t := by
    rw [ht]
    exact ⟨hp2, hsg.kp k2 (by simp), HF.out, hd, hnx⟩
  have k02 := k1.next k2
  have hhold := hold_any X B c s t f W2 (k02.heap HX.out (by simp)) (k02.owns HP.out (by simp)) hpt2 (HM.out.kp k02 (by simp)) (HTab.out.kp k02 (by simp)) hB0 (Nat.le_trans hB k02.size) hn hc (.inl (by rw [htl]; exact hXlt)) (fun g hg => .inl (by rw [htl]; exact HPL.out g hg)) (.inl (by rw [htl]; exact hHlt))
  rw [htT, htd, htp] at hhold
  have HPT := hide hpt2
  have HTT := hide (show (t.num = s.next ∧ t.T = T ∧ t.dead = dead) from ⟨htn, htT, htd⟩)
  have HTP := hide htp
  have HTL := hide htl
  have HTH := hide hth
  clear hseg hsg hp2 hpt2 ht htp htl hth htT htd htn
  go_wp2_with fail
  refine hhold.mono ?_
  rintro e w3 ⟨rfl, pv, hX3, hP3, hm3, hpv, k3⟩
  have y10 : w3.cell? ⟨X, 10, none⟩ = some (.int .i64 (s.next : Int)) := by simp [World.cell?, hX3, pxC, pxA]
  have yf : w3.frozen? ⟨X, 10, none⟩ = false := by simp [World.frozen?, hX3]
  have hwr : IntKind.i64.wrap ((s.next : Int) + 1) = (s.next : Int) + 1 := IntWalk.i64_in _ ⟨by omega, by omega⟩
  have HX3 := hide hX3
  have HP3 := hide hP3
  have HM3 := hide hm3
  clear hhold hX3 hP3 hm3
  go_wp2_with fail
  go_end0
  obtain ⟨W4, hW4⟩ : ∃ W4, w3.setCell ⟨X, 10, none⟩ (.int .i64 ((s.next : Int) + 1)) = W4 := ⟨_, rfl⟩
  have kX : Kp [X] w3 W4 := by rw [← hW4]; exact kp_set w3 X 10 _
  have hX4 : W4.heap[X]? = some (.cells (pxC { s with pv := pv, next := s.next + 1 }) 72 (0, 0)) := by
    rw [← hW4, heap_setCell_same w3 X 10 _ 72 _ HX3.out, show ((s.next : Int) + 1) = ((s.next + 1 : Nat) : Int) by omega, pxC_set10]
  rw [hW4]
  have hz3 := k3.size
  have hz4 := kX.size
  have hS : ∀ x ∈ X :: s.hb :: s.pv.ownBlock.toList, x < w.heap.size := fun x hx => by
    rcases List.mem_cons.1 hx with rfl | hx
    · exact hXlt
    · rcases List.mem_cons.1 hx with rfl | hx
      · exact hHlt
      · exact HPL.out x (by simpa using hx)
  have k24 : Kp (X :: s.hb :: s.pv.ownBlock.toList) W2 W4 := k3.next (kX.mono (by simp))
  have hpt4 : PartIs W4 t := HPT.out.kp k24 (fun hx => by have := hS _ hx; have := HTP.out; omega) (fun x hx => .inl (by have := hS x hx; have := HTL.out; omega))
  refine ⟨rfl, t, pv, HTT.out, ⟨by rw [HTL.out]; exact Nat.le_refl _, by rw [HTH.out]; omega, by rw [HTH.out, HTP.out]; exact Nat.le_refl _, by rw [HTP.out]; omega, by rw [HTL.out, HTH.out]; exact hz1, hpt4⟩, hX4, ?_, ?_, ?_, (k02.mono (by simp)).next k24⟩
  · rw [HTP.out]
    exact kX.owns HP3.out (fun gg hgg hx => by
      simp at hx; subst hx
      exact owns_ne_type HP3.out HX3.out (by decide) hgg)
  · rw [HTP.out]
    refine HM3.out.kp kX (fun hx => ?_)
    simp at hx
    obtain ⟨es, ck, e2⟩ := HM.out.block
    exact cells_map HX.out e2 hx.symm
  · intro gg hgg
    rcases hpv gg hgg with h9 | h9
    · exact .inl h9
    · right
      rw [HTH.out]
      omega
theorem ptV_cell {w : World} {B g n cap : Nat} {Ps : List PPt} (h : w.ownsRow B 76 1 (.slice (some ⟨g, 0, none⟩) n cap) n (ptV Ps)) (i : Nat) (hi : i < Ps.length) : w.cell? ⟨g, i, none⟩ = some (.pointer (some ⟨Ps[i].p, 0, none⟩)) := by
  have hg : (ptV Ps)[i]? = some (.pointer (some ⟨Ps[i].p, 0, none⟩)) := by simp [ptV, hi]
  have c0 := h.cells (g := g) rfl _ _ hg
  have ea : ∀ j, (⟨g, 0, none⟩ : Addr).add j = ⟨g, j, none⟩ := by intro j; unfold Addr.add; split <;> simp_all
  rw [ea] at c0
  exact c0
theorem PartIs.kp0 {w w' : World} {t : PPt} (h : PartIs w t) (k : Kp [] w w') : PartIs w' t := h.kp k (by simp) (by simp)
theorem part_two {w : World} {t : PPt} (h : PartIs w t) : w.cell? ⟨t.p, 0, none⟩ = some (.pointer (some ⟨t.q, 0, none⟩)) ∧ w.cell? ⟨t.p, 1, none⟩ = some (.int .u64 (t.dead : Int)) := by
  have hc := h.cells
  constructor <;> simp [World.cell?, hc]
end Go.Proofs.YtnffagpdnklnkaaGreatDoor.Pak
