import Derived.Test.YtpdoacfiiledcaaGreatDoorV25
import Derived.Laws.ResultCell
import Derived.Laws.Rows
import Derived.Maps.AppendAt
namespace Go.Proofs.YtpdoacfiiledcaaGreatDoor
open Go.RowKit ChkM
open Pak (Kp)
set_option linter.unusedVariables false

/-- A query's value: a kind, some words, some parts. -/
def Qv (v : Value) : Prop := ∃ (k : Int) (a : Option Addr) (n c : Nat) (a' : Option Addr) (n' c' : Nat), v = .agg #[.int .i64 k, .slice a n c, .slice a' n' c']
/-- What a reader of a query leaves. -/
def RQ (p : Bool × List UInt8) (B : Nat) (s : ByteArray) (k : Nat) (w : World) (e : Ending) (w' : World) : Prop :=
  ∃ (k' : Nat) (v : Value), e = .returned (.tuple #[v, .bool p.1]) ∧ Qv v ∧ k ≤ k' ∧ k' ≤ s.size ∧ p.2 = s.data.toList.drop k' ∧ Pa w' B s k' ∧ Kp [B] w w'

theorem take_num (n : Int) (c : UInt8) (hn : (c.toNat : Int) = n) (s : ByteArray) (k B : Nat) (w : World) (hs : s.size ≤ 1000) (hk : k ≤ s.size) (hp : Pa w B s k) :
    Calls Tryz.prog 377 #[.pointer (some ⟨B, 0, none⟩), .int .u8 n] w (Res (takeC c (s.data.toList.drop k)) B s k w) := by
  rw [← hn]; exact take_any c s k B w hs hk hp

theorem termP_false {l : List UInt8} (h : (wordP l).1 = false) : termP l = (false, (wordP l).2) := by unfold termP; rw [h]; rfl
theorem termP_true {l : List UInt8} (h : (wordP l).1 = true) : termP l = (true, (takeC 42 (wordP l).2).2) := by unfold termP; rw [h]; rfl

theorem load_query (w : World) (R0 : Nat) (kd : Int) (wv pv : Value) (hb : Bx w R0 kd wv pv) : (loadVar 139 ⟨R0, 0, none⟩).run Tryz.prog w = .ok (.agg #[.int .i64 kd, wv, pv]) w := by
  exact run_loadVar_row w R0 139 139 _ (0, 0) _ hb Tryz.underlying139 (by rfl) (by kernel_rfl)
theorem ret_query {fn : Func} {R : Ending → World → Prop} {a : Act} {w : World} {p u R0 : Nat} {kd : Int} {wv pv : Value} (hres : fn.results = #[.cell p 139, .tmp u])
    (hb : Bx w R0 kd wv pv) (hp : a.tmps.getD p undef = .pointer (some ⟨R0, 0, none⟩)) (hd : a.defers = []) (h : R (.returned (.tuple #[.agg #[.int .i64 kd, wv, pv], a.tmps.getD u undef])) w) : bodyPost Tryz.prog fn R .ret a w := by
  refine bodyPost_ret (v := .tuple #[.agg #[.int .i64 kd, wv, pv], a.tmps.getD u undef]) ?_ hd h
  rw [results_cell_tmp hres, hp]
  simp [asAddr, Result.andThen, load_query w R0 kd wv pv hb]
theorem bx_store3 {w : World} {R0 : Nat} {kd : Int} {wv pv : Value} (h : Bx w R0 kd wv pv) (kd' : Int) (a b : Value) : Bx (((w.setCell ⟨R0, 0, none⟩ (.int .i64 kd')).setCell ⟨R0, 1, none⟩ a).setCell ⟨R0, 2, none⟩ b) R0 kd' a b := by
  have e1 := heap_setCell_same w R0 0 _ 139 (.int .i64 kd') h
  have e2 := heap_setCell_same _ R0 1 _ 139 a e1
  have e3 := heap_setCell_same _ R0 2 _ 139 b e2
  show _ = _
  rw [e3]; rfl
theorem kp_store3 (w : World) (R0 : Nat) (a b c : Value) : Kp [R0] w (((w.setCell ⟨R0, 0, none⟩ a).setCell ⟨R0, 1, none⟩ b).setCell ⟨R0, 2, none⟩ c) :=
  (((Kp.refl [R0] w).setCell (.inl (by simp)) _).setCell (.inl (by simp)) _).setCell (.inl (by simp)) _
abbrev nilQ : Array Value := #[.int .i64 0, .slice none 0 0, .slice none 0 0]
/-- Two new boxes: of the answer, and of the query that is read. -/
theorem two_boxes (s : ByteArray) (k B : Nat) (kd : Int) (w : World) (hp : Pa w B s k) : ∃ W, (w.alloc (.cells nilQ 139)).alloc (.cells #[.int .i64 kd, .slice none 0 0, .slice none 0 0] 139) = W ∧ Pa W B s k
    ∧ Bx W w.heap.size 0 (.slice none 0 0) (.slice none 0 0) ∧ Bx W (w.heap.size + 1) kd (.slice none 0 0) (.slice none 0 0) ∧ Kp [] w W ∧ W.heap.size = w.heap.size + 2 ∧ B < w.heap.size := by
  refine ⟨_, rfl, pa_kp hp (((Kp.refl [] w).alloc _).alloc _) (by simp), ?_, ?_, ((Kp.refl [] w).alloc _).alloc _, by simp, World.block_lt_of_cell? w _ hp.1⟩
  · show ((w.alloc _).alloc _).heap[w.heap.size]? = _
    rw [Below.heap_alloc _ _ _ (by simp)]
    exact heap_alloc_new w _
  · have := heap_alloc_new (w.alloc (.cells nilQ 139)) (.cells #[.int .i64 kd, .slice none 0 0, .slice none 0 0] 139)
    rw [World.size_alloc] at this
    exact this

set_option maxHeartbeats 400000 in
set_option maxRecDepth 100000 in
theorem term_any (s : ByteArray) (k B : Nat) (w : World) (hs : s.size ≤ 1000) (hk : k ≤ s.size) (hp : Pa w B s k) :
    Calls Tryz.prog 431 #[.pointer (some ⟨B, 0, none⟩)] w (RQ (termP (s.data.toList.drop k)) B s k w) := by
  replace hp := hide hp
  go_enter Tryz.func431, Tryz.ntmps431
  go_wp2_with fail
  obtain ⟨W, hW, pW, r0, q0, kW, hz, hB⟩ := two_boxes s k B 0 w hp.out
  clear hp
  rw [hW]
  clear hW
  refine (wordq_any s k B (w.heap.size + 1) (w.heap.size + 2) 0 0 _ _ [] W hs hk pW q0 (World.ownsRow_nil W _ _ _) (by omega) (by omega) (by omega) (by omega) (by omega)).mono ?_
  rintro e w1 ⟨k1, n1, wv1, xs1, rfl, h1, h2, hr, hP, hq1, hown1, hn1, hk1⟩
  have hk1' : Kp [B, w.heap.size + 1] W w1 := hk1.mono (fun x hx => by simpa [Value.ownBlock] using hx)
  have hr1 : Bx w1 w.heap.size 0 (.slice none 0 0) (.slice none 0 0) := hk1'.heap r0 (by simp; omega)
  obtain ⟨a1, c1, e1, _⟩ := Spl.owns_forms hown1
  have K1 : Kp [B] w w1 := (kW.mono (by simp)).trans hk1' (fun x hx => by simp at hx; rcases hx with rfl | rfl; exact .inl (by simp); exact .inr (by omega))
  have hlt1 := hk1'.size
  replace hr := hide hr
  replace hP := hide hP
  replace K1 := hide K1
  clear hk1 hk1' hown1 pW r0 q0 kW hn1
  subst e1
  cases hb : (wordP (List.drop k s.data.toList)).1
  · have HT := hide (termP_false hb)
    obtain ⟨x0, x1, x2, y0, y1, y2⟩ := bx_cells hr1
    have hR := hide hr1
    clear hr1 hq1
    go_wp2_with fail
    refine ret_query rfl (bx_store3 hR.out _ _ _) rfl rfl ?_
    rw [HT.out]
    exact ⟨k1, _, rfl, ⟨0, none, 0, 0, none, 0, 0, rfl⟩, h1, h2, hr.out, pa_kp hP.out (kp_store3 w1 _ _ _ _) (by simp; omega), K1.out.trans (kp_store3 w1 _ _ _ _) (fun x hx => by simp at hx; subst hx; exact .inr (Nat.le_refl _))⟩
  · have HT := hide (termP_true hb)
    have hR := hide hr1
    have hQ := hide hq1
    clear hr1 hq1
    go_wp2_with fail
    refine (take_num _ 42 rfl s k1 B _ hs h2 hP.out).mono ?_
    rintro e w2 ⟨k2, rfl, h3, h4, hr2, hP2, hg2⟩
    have kg := kp_grown hg2
    have r2 : Bx w2 w.heap.size 0 (.slice none 0 0) (.slice none 0 0) := kg.heap hR.out (by simp; omega)
    have q2 : Bx w2 (w.heap.size + 1) 0 (.slice a1 n1 c1) (.slice none 0 0) := kg.heap hQ.out (by simp; omega)
    have K2 := hide (K1.out.next kg)
    replace hr2 := hide hr2
    replace hP2 := hide hP2
    obtain ⟨x0, x1, x2, y0, y1, y2⟩ := bx_cells r2
    obtain ⟨u0, u1, u2, v0, _, _⟩ := bx_cells q2
    have hR2 := hide r2
    have hQ2 := hide q2
    clear r2 q2 kg hg2 hR hQ hP K1
    cases hb2 : (takeC 42 (List.drop k1 s.data.toList)).1
    · go_wp2_with fail
      refine ret_query rfl (bx_store3 hR2.out _ _ _) rfl rfl ?_
      rw [HT.out]
      exact ⟨k2, _, rfl, ⟨0, a1, n1, c1, none, 0, 0, rfl⟩, by omega, h4, by rw [hr.out]; exact hr2.out, pa_kp hP2.out (kp_store3 w2 _ _ _ _) (by simp; omega), K2.out.trans (kp_store3 w2 _ _ _ _) (fun x hx => by simp at hx; subst hx; exact .inr (Nat.le_refl _))⟩
    · go_wp2_with fail
      have r3 : Bx (w2.setCell ⟨w.heap.size + 1, 0, none⟩ (.int .i64 1)) w.heap.size 0 (.slice none 0 0) (.slice none 0 0) := (kp_set w2 (w.heap.size + 1) 0 _).heap hR2.out (by simp)
      refine ret_query rfl (bx_store3 r3 _ _ _) rfl rfl ?_
      rw [HT.out]
      have kk := (kp_set w2 (w.heap.size + 1) 0 (.int .i64 1)).mono (S' := [w.heap.size, w.heap.size + 1]) (by simp)
      have kk2 := kk.next ((kp_store3 (w2.setCell ⟨w.heap.size + 1, 0, none⟩ (.int .i64 1)) w.heap.size (.int .i64 1) (.slice a1 n1 c1) (.slice none 0 0)).mono (by simp))
      exact ⟨k2, _, rfl, ⟨1, a1, n1, c1, none, 0, 0, rfl⟩, by omega, h4, by rw [hr.out]; exact hr2.out, pa_kp hP2.out kk2 (by simp; omega), K2.out.trans kk2 (fun x hx => by simp at hx; rcases hx with rfl | rfl; exact .inr (Nat.le_refl _); exact .inr (by omega))⟩

theorem phraseP_false {f : Nat} {l : List UInt8} (h : (wordP l).1 = false) : phraseP (f + 1) l = (false, (wordP l).2) := by rw [phraseP, h]; rfl
theorem phraseP_end {f : Nat} {l : List UInt8} (h : (wordP l).1 = true) (h2 : (takeC 32 (wordP l).2).1 = false) : phraseP (f + 1) l = takeC 34 (wordP l).2 := by rw [phraseP, if_pos h, h2]; rfl
theorem phraseP_on {f : Nat} {l : List UInt8} (h : (wordP l).1 = true) (h2 : (takeC 32 (wordP l).2).1 = true) : phraseP (f + 1) l = phraseP f (takeC 32 (wordP l).2).2 := by rw [phraseP, if_pos h, if_pos h2]

theorem takeC_pos {c : UInt8} {s : ByteArray} {k k2 : Nat} (h : (takeC c (s.data.toList.drop k)).1 = true) (h2 : (takeC c (s.data.toList.drop k)).2 = s.data.toList.drop k2) (hk : k ≤ s.size) (hk2 : k2 ≤ s.size) : k2 = k + 1 := by
  have := (takeC_len c (s.data.toList.drop k)).2 h
  rw [h2, List.length_drop, List.length_drop] at this
  have hl : s.data.toList.length = s.size := by simp
  omega

set_option maxHeartbeats 1000000 in
set_option maxRecDepth 100000 in
theorem phrase_any (s : ByteArray) (k B f : Nat) (w : World) (hs : s.size ≤ 1000) (hk : k ≤ s.size) (hf : s.size - k < f) (hp : Pa w B s k) :
    Calls Tryz.prog 430 #[.pointer (some ⟨B, 0, none⟩)] w (RQ (phraseP f (s.data.toList.drop k)) B s k w) := by
  replace hp := hide hp
  go_enter Tryz.func430, Tryz.ntmps430
  go_wp2_with fail
  obtain ⟨W, hW, pW, r0, q0, kW, hz, hB⟩ := two_boxes s k B 2 w hp.out
  clear hp
  rw [hW]
  clear hW
  have PW := hide pW
  have RW := hide r0
  have QW := hide q0
  have KW := hide kW
  clear pW r0 q0 kW
  go_loopg [7] f (fun g u wr => ∃ (j n : Nat) (wv : Value) (xs : List Value), k ≤ j ∧ j ≤ s.size ∧ n ≤ j ∧ s.size - j < g ∧ Hid (phraseP f (s.data.toList.drop k) = phraseP g (s.data.toList.drop j)) ∧ Hid (Pa wr B s j) ∧ Hid (Bx wr w.heap.size 0 (.slice none 0 0) (.slice none 0 0)) ∧ Hid (Bx wr (w.heap.size + 1) 2 wv (.slice none 0 0)) ∧ Hid (wr.ownsRow (w.heap.size + 2) 9 1 wv n xs) ∧ Hid (Kp [B] w wr) ∧ w.heap.size + 2 ≤ wr.heap.size)
  case atStart => exact ⟨k, 0, _, [], by omega, by omega, by omega, by omega, rfl, PW, RW, QW, World.ownsRow_nil W _ _ _, KW.out.mono (by simp), by omega⟩
  case round =>
    obtain ⟨j, n, wv, xs, h1, h2, hnj, h3, hE, hP, hR, hQ, hO, hK, hsz⟩ := hrel
    obtain ⟨g, rfl⟩ : ∃ g, gk = g + 1 := ⟨gk - 1, by omega⟩
    go_wp2_with fail
    refine (wordq_any s j B (w.heap.size + 1) (w.heap.size + 2) n 2 wv _ xs _ hs h2 hP.out hQ.out hO.out (by omega) (by omega) (by omega) (by omega) (by omega)).mono ?_
    rintro e w1 ⟨k1, n1, wv1, xs1, rfl, a1, a2, hr, hP1, hq1, hown1, hn1, hk1⟩
    have hRo : w.heap.size ∉ B :: (w.heap.size + 1) :: wv.ownBlock.toList := by
      intro hx
      simp only [List.mem_cons, Option.mem_toList] at hx
      rcases hx with hx | hx | hx
      · omega
      · omega
      · have := (hO.out.lt _ hx).1; omega
    have r1 : Bx w1 w.heap.size 0 (.slice none 0 0) (.slice none 0 0) := hk1.heap hR.out hRo
    have K1 : Kp [B] w w1 := hK.out.trans hk1 (fun x hx => by
      simp only [List.mem_cons, Option.mem_toList] at hx
      rcases hx with rfl | rfl | hx
      · exact .inl (by simp)
      · exact .inr (by omega)
      · have := (hO.out.lt _ hx).1; exact .inr (by omega))
    have hsz1 : w.heap.size + 2 ≤ w1.heap.size := Nat.le_trans hsz hk1.size
    obtain ⟨b1, c1, e1, _⟩ := Spl.owns_forms hown1
    subst e1
    replace hr := hide hr
    replace hP1 := hide hP1
    replace K1 := hide K1
    have hR1 := hide r1
    have hQ1 := hide hq1
    have hO1 := hide hown1
    clear hR hQ hO hK hP hk1 r1 hq1 hown1 hRo
    cases hb : (wordP (List.drop j s.data.toList)).1
    · have HT := hide (phraseP_false (f := g) hb)
      obtain ⟨x0, x1, x2, y0, y1, y2⟩ := bx_cells hR1.out
      go_wp2_with fail
      refine ret_query rfl (bx_store3 hR1.out _ _ _) rfl rfl ?_
      rw [hE.out, HT.out]
      exact ⟨k1, _, rfl, ⟨0, none, 0, 0, none, 0, 0, rfl⟩, by omega, a2, hr.out, pa_kp hP1.out (kp_store3 w1 _ _ _ _) (by simp; omega), K1.out.trans (kp_store3 w1 _ _ _ _) (fun x hx => by simp at hx; subst hx; exact .inr (Nat.le_refl _))⟩
    · go_wp2_with fail
      refine (take_num _ 32 rfl s k1 B _ hs a2 hP1.out).mono ?_
      rintro e w2 ⟨k2, rfl, b1', b2, hr2, hP2, hg2⟩
      have kg := kp_grown hg2
      have r2 : Bx w2 w.heap.size 0 (.slice none 0 0) (.slice none 0 0) := kg.heap hR1.out (by simp; omega)
      have q2 : Bx w2 (w.heap.size + 1) 2 (.slice b1 n1 c1) (.slice none 0 0) := kg.heap hQ1.out (by simp; omega)
      have o2 := kg.owns hO1.out (fun x hx hm => by have := (hO1.out.lt x hx).1; simp at hm; omega)
      have K2 := hide (K1.out.next kg)
      have hsz2 : w.heap.size + 2 ≤ w2.heap.size := Nat.le_trans hsz1 kg.size
      replace hr2 := hide hr2
      replace hP2 := hide hP2
      have hR2 := hide r2
      have hQ2 := hide q2
      have hO2 := hide o2
      clear r2 q2 o2 kg hg2 hR1 hQ1 hO1 hP1 K1
      cases hc : (takeC 32 (List.drop k1 s.data.toList)).1
      · have HT := hide (phraseP_end (f := g) hb (by rw [hr.out]; exact hc))
        have hk2 : Hid (List.drop k2 s.data.toList = List.drop k1 s.data.toList) := by
          show _ = _
          rw [← hr2.out]; exact (takeC_no hc).1
        obtain ⟨x0, x1, x2, y0, y1, y2⟩ := bx_cells hR2.out
        obtain ⟨u0, u1, u2, v0, _, _⟩ := bx_cells hQ2.out
        go_wp2_with fail
        go_region_held3 (fun w' => w'.cell? ⟨w.heap.size + 1, 0, none⟩ = some (.int .i64 2) ∧ w'.cell? ⟨w.heap.size + 1, 1, none⟩ = some (.slice b1 n1 c1) ∧ w'.cell? ⟨w.heap.size + 1, 2, none⟩ = some (.slice none 0 0)) (first | go_keep | exact ⟨z0, z1, z2⟩) ((first | (go_at_call 377; refine (take_num 34 34 rfl s k2 B w2.drew hs b2 hP2.out).mono ?_; rintro e w3 ⟨k3, rfl, c1', c2', hr3, hP3, hg3⟩; have kg3 := kp_grown hg3; obtain ⟨z0, z1, z2, _, _, _⟩ := bx_cells (show Bx w3 (w.heap.size + 1) 2 (.slice b1 n1 c1) (.slice none 0 0) from kg3.heap hQ2.out (by simp; omega)); obtain ⟨q0, q1, q2, p0, p1, p2⟩ := bx_cells (show Bx w3 w.heap.size 0 (.slice none 0 0) (.slice none 0 0) from kg3.heap hR2.out (by simp; omega)))))
        all_goals
          go_wp2_with fail
          refine ret_query rfl (bx_store3 (show Bx w3 w.heap.size 0 (.slice none 0 0) (.slice none 0 0) from kg3.heap hR2.out (by simp; omega)) _ _ _) rfl rfl ?_
          rw [hE.out, HT.out, hr.out, ← hk2.out]
          exact ⟨k3, _, rfl, ⟨2, b1, n1, c1, none, 0, 0, rfl⟩, by omega, c2', hr3, pa_kp hP3 (kp_store3 w3 _ _ _ _) (by simp; omega), ((kp_drew K2.out).next kg3).trans (kp_store3 w3 _ _ _ _) (fun x hx => by simp at hx; subst hx; exact .inr (Nat.le_refl _))⟩
      · have HT := hide (phraseP_on (f := g) hb (by rw [hr.out]; exact hc))
        have hpos := takeC_pos hc hr2.out a2 b2
        go_wp2_with fail
        go_roundg g
        case measure => omega
        case rel => exact ⟨k2, n1, _, xs1, by omega, b2, by omega, by omega, by show _ = _; rw [hE.out, HT.out, hr.out, hr2.out], hP2, hR2, hQ2, hO2, K2, hsz2⟩
end Go.Proofs.YtpdoacfiiledcaaGreatDoor

namespace Go.Proofs.YtpdoacfiiledcaaGreatDoor
open Go.RowKit ChkM
open Pak (Kp)
set_option linter.unusedVariables false

theorem info135 : (Tryz.prog.info? 139).map (fun i => (i.zero, i.size, i.bytes)) = some (some (.agg #[.int .i64 0, .slice none 0 0, .slice none 0 0]), 3, 56) := by kernel_rfl

/-- What a reader of the descent does, with fuel f: function F for the kind tag. -/
def CD (F tag f : Nat) : Prop := ∀ (s : ByteArray) (k B d : Nat) (w : World), s.size ≤ 1000 → k ≤ s.size → 3 * (s.size - k) + tag + 1 ≤ f → d ≤ 1000 → Pa w B s k →
  Calls Tryz.prog F #[.pointer (some ⟨B, 0, none⟩), .int .i64 d] w (RQ (ps f tag d (s.data.toList.drop k)) B s k w)

theorem all_false {f d : Nat} {l : List UInt8} (h : (ps f 0 d l).1 = false) : ps (f + 1) 1 d l = (false, (ps f 0 d l).2) := by rw [ps, h]; rfl
theorem all_end {f d : Nat} {l : List UInt8} (h : (ps f 0 d l).1 = true) (h2 : (takeC 38 (ps f 0 d l).2).1 = false) : ps (f + 1) 1 d l = (true, (ps f 0 d l).2) := by rw [ps, if_pos h, h2]; rfl
theorem all_on {f d : Nat} {l : List UInt8} (h : (ps f 0 d l).1 = true) (h2 : (takeC 38 (ps f 0 d l).2).1 = true) : ps (f + 1) 1 d l = ps f 1 d (takeC 38 (ps f 0 d l).2).2 := by rw [ps, if_pos h, if_pos h2]
theorem query_false {f d : Nat} {l : List UInt8} (h : (ps f 1 d l).1 = false) : ps (f + 1) 2 d l = (false, (ps f 1 d l).2) := by rw [ps, h]; rfl
theorem query_end {f d : Nat} {l : List UInt8} (h : (ps f 1 d l).1 = true) (h2 : (takeC 124 (ps f 1 d l).2).1 = false) : ps (f + 1) 2 d l = (true, (ps f 1 d l).2) := by rw [ps, if_pos h, h2]; rfl
theorem query_on {f d : Nat} {l : List UInt8} (h : (ps f 1 d l).1 = true) (h2 : (takeC 124 (ps f 1 d l).2).1 = true) : ps (f + 1) 2 d l = ps f 2 d (takeC 124 (ps f 1 d l).2).2 := by rw [ps, if_pos h, if_pos h2]
/-- The sign between the parts of a kind. -/
def Sg (tag : Nat) (c : UInt8) : Prop := (tag = 0 ∧ c = 38) ∨ (tag = 1 ∧ c = 124)
theorem sev_false {tag f d : Nat} {c : UInt8} {l : List UInt8} (hs : Sg tag c) (h : (ps f tag d l).1 = false) : ps (f + 1) (tag + 1) d l = (false, (ps f tag d l).2) := by
  rcases hs with ⟨rfl, rfl⟩ | ⟨rfl, rfl⟩
  · exact all_false h
  · exact query_false h
theorem sev_end {tag f d : Nat} {c : UInt8} {l : List UInt8} (hs : Sg tag c) (h : (ps f tag d l).1 = true) (h2 : (takeC c (ps f tag d l).2).1 = false) : ps (f + 1) (tag + 1) d l = (true, (ps f tag d l).2) := by
  rcases hs with ⟨rfl, rfl⟩ | ⟨rfl, rfl⟩
  · exact all_end h h2
  · exact query_end h h2
theorem sev_on {tag f d : Nat} {c : UInt8} {l : List UInt8} (hs : Sg tag c) (h : (ps f tag d l).1 = true) (h2 : (takeC c (ps f tag d l).2).1 = true) : ps (f + 1) (tag + 1) d l = ps f (tag + 1) d (takeC c (ps f tag d l).2).2 := by
  rcases hs with ⟨rfl, rfl⟩ | ⟨rfl, rfl⟩
  · exact all_on h h2
  · exact query_on h h2

/-- A box's cells, behind one more block. -/
theorem bx_past {w : World} {Q : Nat} {kd : Int} {wv pv : Value} (h : Bx w Q kd wv pv) (o : Obj) : Bx (w.alloc o) Q kd wv pv := ((Kp.refl [] w).alloc o).heap h (by simp)
theorem bx_cells_past {w : World} {Q : Nat} {kd : Int} {wv pv : Value} (h : Bx w Q kd wv pv) :
    (∀ o, (w.alloc o).cell? ⟨Q, 0, none⟩ = some (.int .i64 kd)) ∧ (∀ o, (w.alloc o).cell? ⟨Q, 1, none⟩ = some wv) ∧ (∀ o, (w.alloc o).cell? ⟨Q, 2, none⟩ = some pv) ∧ (∀ o, (w.alloc o).frozen? ⟨Q, 0, none⟩ = false) ∧ (∀ o, (w.alloc o).frozen? ⟨Q, 1, none⟩ = false) ∧ (∀ o, (w.alloc o).frozen? ⟨Q, 2, none⟩ = false) :=
  ⟨fun o => (bx_cells (bx_past h o)).1, fun o => (bx_cells (bx_past h o)).2.1, fun o => (bx_cells (bx_past h o)).2.2.1, fun o => (bx_cells (bx_past h o)).2.2.2.1, fun o => (bx_cells (bx_past h o)).2.2.2.2.1, fun o => (bx_cells (bx_past h o)).2.2.2.2.2⟩

set_option maxHeartbeats 1000000 in
set_option maxRecDepth 100000 in
theorem several_299 (tag f : Nat) (c : UInt8) (kd : Int) (hsg : Sg tag c) (htag : tag ≤ 1) (ih : ∀ g, g < f → CD 378 tag g) (s : ByteArray) (k B d : Nat) (w : World) (hs : s.size ≤ 1000) (hk : k ≤ s.size) (hf : 3 * (s.size - k) + (tag + 1) + 1 ≤ f) (hd : d ≤ 1000) (hp : Pa w B s k) :
    Calls Tryz.prog 316 #[.pointer (some ⟨B, 0, none⟩), .int .i64 kd, .int .u8 c.toNat, .func (.func 378) #[.pointer (some ⟨B, 0, none⟩)] #[], .int .i64 d] w (RQ (ps f (tag + 1) d (s.data.toList.drop k)) B s k w) := by
  obtain ⟨i0, hi, hz0, hz1, hz2⟩ := info_parts info135
  replace hp := hide hp
  replace ih := hide ih
  replace hsg := hide hsg
  go_enter Tryz.func316, Tryz.ntmps316
  go_wp2_with fail
  obtain ⟨W, hW, pW, r0, q0, kW, hz, hB⟩ := two_boxes s k B kd w hp.out
  clear hp
  rw [hW]
  clear hW
  have PW := hide pW
  have RW := hide r0
  have QW := hide q0
  have KW := hide kW
  clear pW r0 q0 kW
  go_loopg [20] f (fun g u wr => ∃ (j n : Nat) (pv : Value) (xs : List Value), g ≤ f ∧ k ≤ j ∧ j ≤ s.size ∧ n ≤ j ∧ 3 * (s.size - j) + (tag + 1) + 1 ≤ g ∧ Hid (ps f (tag + 1) d (s.data.toList.drop k) = ps g (tag + 1) d (s.data.toList.drop j)) ∧ Hid (Pa wr B s j) ∧ Hid (Bx wr w.heap.size 0 (.slice none 0 0) (.slice none 0 0)) ∧ Hid (Bx wr (w.heap.size + 1) kd (.slice none 0 0) pv) ∧ Hid (wr.ownsRow (w.heap.size + 2) 139 3 pv n xs) ∧ Hid (Kp [B] w wr) ∧ w.heap.size + 2 ≤ wr.heap.size)
  case atStart => exact ⟨k, 0, _, [], by omega, by omega, by omega, by omega, by omega, rfl, PW, RW, QW, World.ownsRow_nil W _ _ _, KW.out.mono (by simp), by omega⟩
  case round =>
    obtain ⟨j, n, pv, xs, h0, h1, h2, hnj, h3, hE, hP, hR, hQ, hO, hK, hsz⟩ := hrel
    obtain ⟨g, rfl⟩ : ∃ g, gk = g + 1 := ⟨gk - 1, by omega⟩
    go_wp2_with fail
    refine (ih.out g (by omega) s j B d _ hs h2 (by omega) hd hP.out).mono ?_
    rintro e w1 ⟨k1, v, rfl, ⟨kd1, a1, n1, c1, a2, n2, c2, rfl⟩, b1, b2, hr, hP1, hk1⟩
    have r1 : Bx w1 w.heap.size 0 (.slice none 0 0) (.slice none 0 0) := hk1.heap hR.out (by simp; omega)
    have q1 : Bx w1 (w.heap.size + 1) kd (.slice none 0 0) pv := hk1.heap hQ.out (by simp; omega)
    have o1 := hk1.owns hO.out (fun x hx hm => by have := (hO.out.lt x hx).1; simp at hm; omega)
    have K1 := hide (hK.out.next hk1)
    have hsz1 : w.heap.size + 2 ≤ w1.heap.size := Nat.le_trans hsz hk1.size
    replace hr := hide hr
    replace hP1 := hide hP1
    have hR1 := hide r1
    have hQ1 := hide q1
    have hO1 := hide o1
    clear hR hQ hO hK hP hk1 r1 q1 o1
    cases hb : (ps g tag d (List.drop j s.data.toList)).1
    · have HT := hide (sev_false hsg.out hb)
      obtain ⟨x0, x1, x2, y0, y1, y2⟩ := bx_cells hR1.out
      obtain ⟨x0', x1', x2', y0', y1', y2'⟩ := bx_cells_past hR1.out
      go_wp2_with fail
      refine ret_query rfl (bx_store3 (bx_past hR1.out _) _ _ _) rfl rfl ?_
      rw [hE.out, HT.out]
      exact ⟨k1, _, rfl, ⟨0, none, 0, 0, none, 0, 0, rfl⟩, by omega, b2, hr.out, pa_kp (pa_kp hP1.out ((Kp.refl [] w1).alloc _) (by simp)) (kp_store3 _ _ _ _ _) (by simp; omega), (K1.out.alloc _).trans (kp_store3 _ _ _ _ _) (fun x hx => by simp at hx; subst hx; exact .inr (Nat.le_refl _))⟩
    · obtain ⟨_, _, u2', _, _, _⟩ := bx_cells_past hQ1.out
      have hQo : w.heap.size + 1 ∉ pv.ownBlock.toList := fun hx => by have := (hO1.out.lt _ (by simpa using hx)).1; omega
      have hRo : w.heap.size ∉ pv.ownBlock.toList := fun hx => by have := (hO1.out.lt _ (by simpa using hx)).1; omega
      have hBo : B ∉ pv.ownBlock.toList := fun hx => by have := (hO1.out.lt _ (by simpa using hx)).1; omega
      have HQo := hide hQo
      have HRo := hide hRo
      have HBo := hide hBo
      clear hQo hRo hBo
      go_wp2_with (first
        | (at_builtin; refine wpList_append_own_at _ rfl _ _ 137 rfl (w.heap.size + 2) 139 i0 (.agg #[.int .i64 0, .slice none 0 0, .slice none 0 0]) 3 56 Tryz.underlying137 hi hz0 hz1 hz2 rfl (by decide) _ _ _ rfl ((hO1.out.alloc _).alloc _) ⟨w1.heap.size + 1, 0, none⟩ 1 1 [.int .i64 kd1, .slice a1 n1 c1, .slice a2 n2 c2] rfl rfl (World.news_of_block (cs := #[.int .i64 kd1, .slice a1 n1 c1, .slice a2 n2 c2]) (t := 139) (fr := (0, 0)) (by have := heap_alloc_new (w1.alloc (.cells #[.int .i64 kd1, .slice a1 n1 c1, .slice a2 n2 c2] 139)) (.cells #[.int .i64 kd1, .slice a1 n1 c1, .slice a2 n2 c2] 139); simpa using this)) ?c2 ?c3 ?c4 ?c5 ?_)
        | fail)
      case c2 => intro u hu; simp at hu; rcases hu with rfl | rfl | rfl <;> rfl
      case c3 => unfold maxLen; omega
      case c4 => omega
      case c5 => simp; omega
      intro v' w2 hown2 hgrow2 _ hloc
      have k2 : Kp pv.ownBlock.toList w1 w2 := (((Kp.refl _ w1).alloc _).alloc _).grown hgrow2 (fun x hx => .inl (by simp [hx]))
      have q2 : Bx w2 (w.heap.size + 1) kd (.slice none 0 0) pv := k2.heap hQ1.out HQo.out
      obtain ⟨_, _, z2, _, _, f2⟩ := bx_cells q2
      have hlt := (hown2.lt)
      have E3 : ∃ w3, w2.setCell ⟨w.heap.size + 1, 2, none⟩ v' = w3 ∧ Pa w3 B s k1 ∧ Bx w3 w.heap.size 0 (.slice none 0 0) (.slice none 0 0) ∧ Bx w3 (w.heap.size + 1) kd (.slice none 0 0) v' ∧ w3.ownsRow (w.heap.size + 2) 139 3 v' (n + 1) (xs ++ [.int .i64 kd1, .slice a1 n1 c1, .slice a2 n2 c2]) ∧ Kp [B] w w3 ∧ w.heap.size + 2 ≤ w3.heap.size := by
        have ks := kp_set w2 (w.heap.size + 1) 2 v'
        refine ⟨_, rfl, pa_kp (pa_kp hP1.out k2 HBo.out) ks (by simp; omega), ks.heap (k2.heap hR1.out HRo.out) (by simp), ?_, ks.owns hown2 (fun x hx hm => by have := (hown2.lt x hx).1; simp at hm; omega), (K1.out.trans k2 ?_).trans ks ?_, Nat.le_trans hsz1 (Nat.le_trans k2.size ks.size)⟩
        · show (w2.setCell ⟨_, 2, none⟩ v').heap[_]? = _
          rw [heap_setCell_same w2 (w.heap.size + 1) 2 _ 139 v' q2]; rfl
        · intro x hx
          have := (hO1.out.lt x (by simpa using hx)).1
          exact .inr (by omega)
        · intro x hx; simp at hx; subst hx; exact .inr (by omega)
      have HE3 := hide E3
      obtain ⟨a3, c3, e3, _⟩ := Spl.owns_forms hown2
      subst e3
      clear E3 hlt hown2 hgrow2 hloc k2 q2 u2' HQo HRo HBo hO1 hQ1 hR1 hP1 K1
      go_wp2_with fail
      obtain ⟨w3, e3, p3, r3, q3, o3, K3, hsz3⟩ := HE3.out
      rw [e3]
      clear e3 HE3 z2 f2
      refine (take_any c s k1 B w3 hs b2 p3).mono ?_
      rintro e w4 ⟨k2, rfl, b3, b4, hr2, hP2, hg2⟩
      have kg := kp_grown hg2
      have r4 : Bx w4 w.heap.size 0 (.slice none 0 0) (.slice none 0 0) := kg.heap r3 (by simp; omega)
      have q4 : Bx w4 (w.heap.size + 1) kd (.slice none 0 0) (.slice a3 (n + 1) c3) := kg.heap q3 (by simp; omega)
      have o4 := kg.owns o3 (fun x hx hm => by have := (o3.lt x hx).1; simp at hm; omega)
      have K4 := hide (K3.next kg)
      have hsz4 : w.heap.size + 2 ≤ w4.heap.size := Nat.le_trans hsz3 kg.size
      replace hr2 := hide hr2
      replace hP2 := hide hP2
      have hR4 := hide r4
      have hQ4 := hide q4
      have hO4 := hide o4
      clear r4 q4 o4 kg hg2 r3 q3 o3 p3 K3
      cases hc : (takeC c (List.drop k1 s.data.toList)).1
      · have HT := hide (sev_end hsg.out hb (by rw [hr.out]; exact hc))
        have hk2 : Hid (List.drop k2 s.data.toList = List.drop k1 s.data.toList) := by
          show _ = _
          rw [← hr2.out]; exact (takeC_no hc).1
        obtain ⟨x0, x1, x2, y0, y1, y2⟩ := bx_cells hR4.out
        obtain ⟨u0, u1, u2, _, _, _⟩ := bx_cells hQ4.out
        go_wp2_with fail
        refine ret_query rfl (bx_store3 hR4.out _ _ _) rfl rfl ?_
        rw [hE.out, HT.out]
        exact ⟨k2, _, rfl, ⟨kd, none, 0, 0, a3, n + 1, c3, rfl⟩, by omega, b4, by show (ps g tag d (List.drop j s.data.toList)).2 = _; rw [hr.out, hk2.out], pa_kp hP2.out (kp_store3 w4 _ _ _ _) (by simp; omega), K4.out.trans (kp_store3 w4 _ _ _ _) (fun x hx => by simp at hx; subst hx; exact .inr (Nat.le_refl _))⟩
      · have HT := hide (sev_on hsg.out hb (by rw [hr.out]; exact hc))
        have hpos := takeC_pos hc hr2.out b2 b4
        go_wp2_with fail
        go_roundg g
        case measure => omega
        case rel => exact ⟨k2, n + 1, _, _, by omega, by omega, b4, by omega, by omega, by show _ = _; rw [hE.out, HT.out, hr.out, hr2.out], hP2, hR4, hQ4, hO4, K4, hsz4⟩
end Go.Proofs.YtpdoacfiiledcaaGreatDoor

