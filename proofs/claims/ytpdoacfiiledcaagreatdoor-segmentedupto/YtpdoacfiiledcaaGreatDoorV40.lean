import Derived.Test.YtpdoacfiiledcaaGreatDoorV39
namespace Go.Proofs.YtpdoacfiiledcaaGreatDoor
open Go.RowKit ChkM
open Pak (Kp)
set_option linter.unusedVariables false

set_option maxHeartbeats 1000000 in
set_option maxRecDepth 100000 in
theorem several_247 (tag f : Nat) (c : UInt8) (kd : Int) (hsg : Sg tag c) (htag : tag ≤ 1) (ih : ∀ g, g < f → CD 317 tag g) (s : ByteArray) (k B d : Nat) (w : World) (hs : s.size ≤ 1000) (hk : k ≤ s.size) (hf : 3 * (s.size - k) + (tag + 1) + 1 ≤ f) (hd : d ≤ 1000) (hp : Pa w B s k) :
    Calls Tryz.prog 316 #[.pointer (some ⟨B, 0, none⟩), .int .i64 kd, .int .u8 c.toNat, .func (.func 317) #[.pointer (some ⟨B, 0, none⟩)] #[], .int .i64 d] w (RQ (ps f (tag + 1) d (s.data.toList.drop k)) B s k w) := by
  obtain ⟨i0, hi, hz0, hz1, hz2⟩ := info_parts info135
  replace hp := hide hp
  replace ih := hide ih
  replace hsg := hide hsg
  go_enter Tryz.func316, Tryz.ntmps316
  go_wp2_with fail
  obtain ⟨W, hW, pW, r0, q0, kW, hz, hB⟩ := two_boxes s k B kd w hp.out
  clear hp
  rw [hW]
  clear hW
  have PW := hide pW
  have RW := hide r0
  have QW := hide q0
  have KW := hide kW
  clear pW r0 q0 kW
  go_loopg [20] f (fun g u wr => ∃ (j n : Nat) (pv : Value) (xs : List Value), g ≤ f ∧ k ≤ j ∧ j ≤ s.size ∧ n ≤ j ∧ 3 * (s.size - j) + (tag + 1) + 1 ≤ g ∧ Hid (ps f (tag + 1) d (s.data.toList.drop k) = ps g (tag + 1) d (s.data.toList.drop j)) ∧ Hid (Pa wr B s j) ∧ Hid (Bx wr w.heap.size 0 (.slice none 0 0) (.slice none 0 0)) ∧ Hid (Bx wr (w.heap.size + 1) kd (.slice none 0 0) pv) ∧ Hid (wr.ownsRow (w.heap.size + 2) 139 3 pv n xs) ∧ Hid (Kp [B] w wr) ∧ w.heap.size + 2 ≤ wr.heap.size)
  case atStart => exact ⟨k, 0, _, [], by omega, by omega, by omega, by omega, by omega, rfl, PW, RW, QW, World.ownsRow_nil W _ _ _, KW.out.mono (by simp), by omega⟩
  case round =>
    obtain ⟨j, n, pv, xs, h0, h1, h2, hnj, h3, hE, hP, hR, hQ, hO, hK, hsz⟩ := hrel
    obtain ⟨g, rfl⟩ : ∃ g, gk = g + 1 := ⟨gk - 1, by omega⟩
    go_wp2_with fail
    refine (ih.out g (by omega) s j B d _ hs h2 (by omega) hd hP.out).mono ?_
    rintro e w1 ⟨k1, v, rfl, ⟨kd1, a1, n1, c1, a2, n2, c2, rfl⟩, b1, b2, hr, hP1, hk1⟩
    have r1 : Bx w1 w.heap.size 0 (.slice none 0 0) (.slice none 0 0) := hk1.heap hR.out (by simp; omega)
    have q1 : Bx w1 (w.heap.size + 1) kd (.slice none 0 0) pv := hk1.heap hQ.out (by simp; omega)
    have o1 := hk1.owns hO.out (fun x hx hm => by have := (hO.out.lt x hx).1; simp at hm; omega)
    have K1 := hide (hK.out.next hk1)
    have hsz1 : w.heap.size + 2 ≤ w1.heap.size := Nat.le_trans hsz hk1.size
    replace hr := hide hr
    replace hP1 := hide hP1
    have hR1 := hide r1
    have hQ1 := hide q1
    have hO1 := hide o1
    clear hR hQ hO hK hP hk1 r1 q1 o1
    cases hb : (ps g tag d (List.drop j s.data.toList)).1
    · have HT := hide (sev_false hsg.out hb)
      obtain ⟨x0, x1, x2, y0, y1, y2⟩ := bx_cells hR1.out
      obtain ⟨x0', x1', x2', y0', y1', y2'⟩ := bx_cells_past hR1.out
      go_wp2_with fail
      refine ret_query rfl (bx_store3 (bx_past hR1.out _) _ _ _) rfl rfl ?_
      rw [hE.out, HT.out]
      exact ⟨k1, _, rfl, ⟨0, none, 0, 0, none, 0, 0, rfl⟩, by omega, b2, hr.out, pa_kp (pa_kp hP1.out ((Kp.refl [] w1).alloc _) (by simp)) (kp_store3 _ _ _ _ _) (by simp; omega), (K1.out.alloc _).trans (kp_store3 _ _ _ _ _) (fun x hx => by simp at hx; subst hx; exact .inr (Nat.le_refl _))⟩
    · obtain ⟨_, _, u2', _, _, _⟩ := bx_cells_past hQ1.out
      have hQo : w.heap.size + 1 ∉ pv.ownBlock.toList := fun hx => by have := (hO1.out.lt _ (by simpa using hx)).1; omega
      have hRo : w.heap.size ∉ pv.ownBlock.toList := fun hx => by have := (hO1.out.lt _ (by simpa using hx)).1; omega
      have hBo : B ∉ pv.ownBlock.toList := fun hx => by have := (hO1.out.lt _ (by simpa using hx)).1; omega
      have HQo := hide hQo
      have HRo := hide hRo
      have HBo := hide hBo
      clear hQo hRo hBo
      go_wp2_with (first
        | (at_builtin; refine wpList_append_own_at _ rfl _ _ 137 rfl (w.heap.size + 2) 139 i0 (.agg #[.int .i64 0, .slice none 0 0, .slice none 0 0]) 3 56 Tryz.underlying137 hi hz0 hz1 hz2 rfl (by decide) _ _ _ rfl ((hO1.out.alloc _).alloc _) ⟨w1.heap.size + 1, 0, none⟩ 1 1 [.int .i64 kd1, .slice a1 n1 c1, .slice a2 n2 c2] rfl rfl (World.news_of_block (cs := #[.int .i64 kd1, .slice a1 n1 c1, .slice a2 n2 c2]) (t := 139) (fr := (0, 0)) (by have := heap_alloc_new (w1.alloc (.cells #[.int .i64 kd1, .slice a1 n1 c1, .slice a2 n2 c2] 139)) (.cells #[.int .i64 kd1, .slice a1 n1 c1, .slice a2 n2 c2] 139); simpa using this)) ?c2 ?c3 ?c4 ?c5 ?_)
        | fail)
      case c2 => intro u hu; simp at hu; rcases hu with rfl | rfl | rfl <;> rfl
      case c3 => unfold maxLen; omega
      case c4 => omega
      case c5 => simp; omega
      intro v' w2 hown2 hgrow2 _ hloc
      have k2 : Kp pv.ownBlock.toList w1 w2 := (((Kp.refl _ w1).alloc _).alloc _).grown hgrow2 (fun x hx => .inl (by simp [hx]))
      have q2 : Bx w2 (w.heap.size + 1) kd (.slice none 0 0) pv := k2.heap hQ1.out HQo.out
      obtain ⟨_, _, z2, _, _, f2⟩ := bx_cells q2
      have hlt := (hown2.lt)
      have E3 : ∃ w3, w2.setCell ⟨w.heap.size + 1, 2, none⟩ v' = w3 ∧ Pa w3 B s k1 ∧ Bx w3 w.heap.size 0 (.slice none 0 0) (.slice none 0 0) ∧ Bx w3 (w.heap.size + 1) kd (.slice none 0 0) v' ∧ w3.ownsRow (w.heap.size + 2) 139 3 v' (n + 1) (xs ++ [.int .i64 kd1, .slice a1 n1 c1, .slice a2 n2 c2]) ∧ Kp [B] w w3 ∧ w.heap.size + 2 ≤ w3.heap.size := by
        have ks := kp_set w2 (w.heap.size + 1) 2 v'
        refine ⟨_, rfl, pa_kp (pa_kp hP1.out k2 HBo.out) ks (by simp; omega), ks.heap (k2.heap hR1.out HRo.out) (by simp), ?_, ks.owns hown2 (fun x hx hm => by have := (hown2.lt x hx).1; simp at hm; omega), (K1.out.trans k2 ?_).trans ks ?_, Nat.le_trans hsz1 (Nat.le_trans k2.size ks.size)⟩
        · show (w2.setCell ⟨_, 2, none⟩ v').heap[_]? = _
          rw [heap_setCell_same w2 (w.heap.size + 1) 2 _ 139 v' q2]; rfl
        · intro x hx
          have := (hO1.out.lt x (by simpa using hx)).1
          exact .inr (by omega)
        · intro x hx; simp at hx; subst hx; exact .inr (by omega)
      have HE3 := hide E3
      obtain ⟨a3, c3, e3, _⟩ := Spl.owns_forms hown2
      subst e3
      clear E3 hlt hown2 hgrow2 hloc k2 q2 u2' HQo HRo HBo hO1 hQ1 hR1 hP1 K1
      go_wp2_with fail
      obtain ⟨w3, e3, p3, r3, q3, o3, K3, hsz3⟩ := HE3.out
      rw [e3]
      clear e3 HE3 z2 f2
      refine (take_any c s k1 B w3 hs b2 p3).mono ?_
      rintro e w4 ⟨k2, rfl, b3, b4, hr2, hP2, hg2⟩
      have kg := kp_grown hg2
      have r4 : Bx w4 w.heap.size 0 (.slice none 0 0) (.slice none 0 0) := kg.heap r3 (by simp; omega)
      have q4 : Bx w4 (w.heap.size + 1) kd (.slice none 0 0) (.slice a3 (n + 1) c3) := kg.heap q3 (by simp; omega)
      have o4 := kg.owns o3 (fun x hx hm => by have := (o3.lt x hx).1; simp at hm; omega)
      have K4 := hide (K3.next kg)
      have hsz4 : w.heap.size + 2 ≤ w4.heap.size := Nat.le_trans hsz3 kg.size
      replace hr2 := hide hr2
      replace hP2 := hide hP2
      have hR4 := hide r4
      have hQ4 := hide q4
      have hO4 := hide o4
      clear r4 q4 o4 kg hg2 r3 q3 o3 p3 K3
      cases hc : (takeC c (List.drop k1 s.data.toList)).1
      · have HT := hide (sev_end hsg.out hb (by rw [hr.out]; exact hc))
        have hk2 : Hid (List.drop k2 s.data.toList = List.drop k1 s.data.toList) := by
          show _ = _
          rw [← hr2.out]; exact (takeC_no hc).1
        obtain ⟨x0, x1, x2, y0, y1, y2⟩ := bx_cells hR4.out
        obtain ⟨u0, u1, u2, _, _, _⟩ := bx_cells hQ4.out
        go_wp2_with fail
        refine ret_query rfl (bx_store3 hR4.out _ _ _) rfl rfl ?_
        rw [hE.out, HT.out]
        exact ⟨k2, _, rfl, ⟨kd, none, 0, 0, a3, n + 1, c3, rfl⟩, by omega, b4, by show (ps g tag d (List.drop j s.data.toList)).2 = _; rw [hr.out, hk2.out], pa_kp hP2.out (kp_store3 w4 _ _ _ _) (by simp; omega), K4.out.trans (kp_store3 w4 _ _ _ _) (fun x hx => by simp at hx; subst hx; exact .inr (Nat.le_refl _))⟩
      · have HT := hide (sev_on hsg.out hb (by rw [hr.out]; exact hc))
        have hpos := takeC_pos hc hr2.out b2 b4
        go_wp2_with fail
        go_roundg g
        case measure => omega
        case rel => exact ⟨k2, n + 1, _, _, by omega, by omega, b4, by omega, by omega, by show _ = _; rw [hE.out, HT.out, hr.out, hr2.out], hP2, hR4, hQ4, hO4, K4, hsz4⟩

theorem one_box (s : ByteArray) (k B : Nat) (w : World) (hp : Pa w B s k) : ∃ W, w.alloc (.cells nilQ 139) = W ∧ Pa W B s k ∧ Bx W w.heap.size 0 (.slice none 0 0) (.slice none 0 0) ∧ Kp [] w W ∧ B < w.heap.size :=
  ⟨_, rfl, pa_kp hp ((Kp.refl [] w).alloc _) (by simp), heap_alloc_new w _, (Kp.refl [] w).alloc _, World.block_lt_of_cell? w _ hp.1⟩

set_option maxHeartbeats 400000 in
set_option maxRecDepth 100000 in
theorem all_of (f : Nat) (ih : ∀ g, g < f → CD 378 0 g) : CD 317 1 f := by
  intro s k B d w hs hk hf hd hp
  replace hp := hide hp
  replace ih := hide ih
  go_enter Tryz.func317, Tryz.ntmps317
  go_wp2_with fail
  obtain ⟨W, hW, pW, r0, kW, hB⟩ := one_box s k B w hp.out
  clear hp
  rw [hW]
  clear hW
  have h := several_299 0 f 38 4 (.inl ⟨rfl, rfl⟩) (by omega) ih.out s k B d W hs hk (by omega) hd pW
  rw [show ((UInt8.toNat 38 : Nat) : Int) = 38 from rfl] at h
  refine h.mono ?_
  clear h
  rintro e w1 ⟨k1, v, rfl, ⟨kd1, a1, n1, c1, a2, n2, c2, rfl⟩, b1, b2, hr, hP1, hk1⟩
  have r1 : Bx w1 w.heap.size 0 (.slice none 0 0) (.slice none 0 0) := hk1.heap r0 (by simp; omega)
  obtain ⟨x0, x1, x2, y0, y1, y2⟩ := bx_cells r1
  have R1 := hide r1
  have K1 := hide ((kW.mono (by simp)).next hk1)
  replace hr := hide hr
  replace hP1 := hide hP1
  clear r1 r0 kW hk1 pW
  go_wp2_with fail
  refine ret_query rfl (bx_store3 R1.out _ _ _) rfl rfl ?_
  exact ⟨k1, _, rfl, ⟨kd1, a1, n1, c1, a2, n2, c2, rfl⟩, b1, b2, hr.out, pa_kp hP1.out (kp_store3 w1 _ _ _ _) (by simp; omega), K1.out.trans (kp_store3 w1 _ _ _ _) (fun x hx => by simp at hx; subst hx; exact .inr (Nat.le_refl _))⟩

set_option maxHeartbeats 400000 in
set_option maxRecDepth 100000 in
theorem query_of (f : Nat) (ih : ∀ g, g < f → CD 317 1 g) : CD 225 2 f := by
  intro s k B d w hs hk hf hd hp
  replace hp := hide hp
  replace ih := hide ih
  go_enter Tryz.func225, Tryz.ntmps225
  go_wp2_with fail
  obtain ⟨W, hW, pW, r0, kW, hB⟩ := one_box s k B w hp.out
  clear hp
  rw [hW]
  clear hW
  have h := several_247 1 f 124 5 (.inr ⟨rfl, rfl⟩) (by omega) ih.out s k B d W hs hk (by omega) hd pW
  rw [show ((UInt8.toNat 124 : Nat) : Int) = 124 from rfl] at h
  refine h.mono ?_
  clear h
  rintro e w1 ⟨k1, v, rfl, ⟨kd1, a1, n1, c1, a2, n2, c2, rfl⟩, b1, b2, hr, hP1, hk1⟩
  have r1 : Bx w1 w.heap.size 0 (.slice none 0 0) (.slice none 0 0) := hk1.heap r0 (by simp; omega)
  obtain ⟨x0, x1, x2, y0, y1, y2⟩ := bx_cells r1
  have R1 := hide r1
  have K1 := hide ((kW.mono (by simp)).next hk1)
  replace hr := hide hr
  replace hP1 := hide hP1
  clear r1 r0 kW hk1 pW
  go_wp2_with fail
  refine ret_query rfl (bx_store3 R1.out _ _ _) rfl rfl ?_
  exact ⟨k1, _, rfl, ⟨kd1, a1, n1, c1, a2, n2, c2, rfl⟩, b1, b2, hr.out, pa_kp hP1.out (kp_store3 w1 _ _ _ _) (by simp; omega), K1.out.trans (kp_store3 w1 _ _ _ _) (fun x hx => by simp at hx; subst hx; exact .inr (Nat.le_refl _))⟩
end Go.Proofs.YtpdoacfiiledcaaGreatDoor

namespace Go.Proofs.YtpdoacfiiledcaaGreatDoor
open Go.RowKit ChkM
open Pak (Kp)
set_option linter.unusedVariables false

theorem part_bang {f d : Nat} {l : List UInt8} (hd : d < 5) (h : (takeC 33 l).1 = true) : ps (f + 1) 0 d l = ps f 0 (d + 1) (takeC 33 l).2 := by rw [ps, if_pos ⟨hd, h⟩]
theorem part_open {f d : Nat} {l : List UInt8} (hd : d < 5) (h : (takeC 33 l).1 = false) (h2 : (takeC 40 l).1 = true) :
    ps (f + 1) 0 d l = if (ps f 2 (d + 1) (takeC 40 l).2).1 then takeC 41 (ps f 2 (d + 1) (takeC 40 l).2).2 else (false, (ps f 2 (d + 1) (takeC 40 l).2).2) := by
  rw [ps, if_neg (by simp [h]), if_pos ⟨hd, h2⟩]
theorem part_low {f d : Nat} {l : List UInt8} (h : d < 5 → (takeC 33 l).1 = false) (h2 : d < 5 → (takeC 40 l).1 = false) :
    ps (f + 1) 0 d l = if (takeC 34 l).1 then phraseP (l.length + 1) (takeC 34 l).2 else termP l := by
  rw [ps, if_neg, if_neg]
  · rintro ⟨a, b⟩; rw [h2 a] at b; simp at b
  · rintro ⟨a, b⟩; rw [h a] at b; simp at b
theorem takeC_same {c : UInt8} {s : ByteArray} {k k2 : Nat} (h : (takeC c (s.data.toList.drop k)).1 = false) (h2 : (takeC c (s.data.toList.drop k)).2 = s.data.toList.drop k2) (hk : k ≤ s.size) (hk2 : k2 ≤ s.size) : k2 = k := by
  rw [(takeC_no h).1] at h2
  have := congrArg List.length h2
  rw [List.length_drop, List.length_drop] at this
  have hl : s.data.toList.length = s.size := by simp
  omega
theorem drop_length (s : ByteArray) (k : Nat) : (s.data.toList.drop k).length = s.size - k := by rw [List.length_drop]; simp

/-- Where a part stands: the reader, the answer's box, what has turned. -/
def At (w : World) (B : Nat) (s : ByteArray) (k : Nat) (w' : World) : Prop := Pa w' B s k ∧ Bx w' w.heap.size 0 (.slice none 0 0) (.slice none 0 0) ∧ Kp [B] w w'
theorem At.step {w w1 w2 : World} {B k k2 : Nat} {s : ByteArray} (h : At w B s k w1) (hk : Kp [B] w1 w2) (hp : Pa w2 B s k2) (hB : B < w.heap.size) : At w B s k2 w2 :=
  ⟨hp, hk.heap h.2.1 (by simp; omega), h.2.2.next hk⟩
theorem At.past {w w1 : World} {B k : Nat} {s : ByteArray} (h : At w B s k w1) (o : Obj) : At w B s k (w1.alloc o) :=
  ⟨pa_kp h.1 ((Kp.refl [] w1).alloc o) (by simp), bx_past h.2.1 o, h.2.2.alloc o⟩
theorem At.drew {w w1 : World} {B k : Nat} {s : ByteArray} (h : At w B s k w1) : At w B s k w1.drew := ⟨h.1, h.2.1, kp_drew h.2.2⟩

theorem bx_cells_past2 {w : World} {Q : Nat} {kd : Int} {wv pv : Value} (h : Bx w Q kd wv pv) :
    (∀ o o', ((w.alloc o).alloc o').cell? ⟨Q, 0, none⟩ = some (.int .i64 kd)) ∧ (∀ o o', ((w.alloc o).alloc o').cell? ⟨Q, 1, none⟩ = some wv) ∧ (∀ o o', ((w.alloc o).alloc o').cell? ⟨Q, 2, none⟩ = some pv) ∧ (∀ o o', ((w.alloc o).alloc o').frozen? ⟨Q, 0, none⟩ = false) ∧ (∀ o o', ((w.alloc o).alloc o').frozen? ⟨Q, 1, none⟩ = false) ∧ (∀ o o', ((w.alloc o).alloc o').frozen? ⟨Q, 2, none⟩ = false) :=
  ⟨fun o o' => (bx_cells (bx_past (bx_past h o) o')).1, fun o o' => (bx_cells (bx_past (bx_past h o) o')).2.1, fun o o' => (bx_cells (bx_past (bx_past h o) o')).2.2.1, fun o o' => (bx_cells (bx_past (bx_past h o) o')).2.2.2.1, fun o o' => (bx_cells (bx_past (bx_past h o) o')).2.2.2.2.1, fun o o' => (bx_cells (bx_past (bx_past h o) o')).2.2.2.2.2⟩

set_option maxHeartbeats 2000000 in
set_option maxRecDepth 100000 in
theorem part_of (f : Nat) (ihP : CD 378 0 f) (ihQ : CD 225 2 f) : CD 378 0 (f + 1) := by
  intro s k B d w hs hk hf hd hp
  have hlen := hide (drop_length s k)
  replace hp := hide hp
  replace ihP := hide ihP
  replace ihQ := hide ihQ
  by_cases h5 : d < 5
  · go_enter Tryz.func378, Tryz.ntmps378
    go_wp2_with fail
    obtain ⟨W, hW, pW, r0, kW, hB⟩ := one_box s k B w hp.out
    have hA := hide (show At w B s k W from ⟨pW, r0, kW.mono (by simp)⟩)
    rw [hW]
    clear hp hW pW r0 kW
    refine (take_num _ 33 rfl s k B W hs hk hA.out.1).mono ?_
    rintro e w1 ⟨k1, rfl, a1, a2, hr1, hP1, hg1⟩
    have hA1 := hide (hA.out.step (kp_grown hg1) hP1 hB)
    replace hr1 := hide hr1
    clear hA hP1 hg1
    cases hb : (takeC 33 (List.drop k s.data.toList)).1
    · have e1 := takeC_same hb hr1.out hk a2
      subst e1
      clear hr1 a1 a2
      go_wp2_with fail
      refine (take_num _ 40 rfl s k1 B w1 hs hk hA1.out.1).mono ?_
      rintro e w2 ⟨k2, rfl, b1, b2, hr2, hP2, hg2⟩
      have hA2 := hide (hA1.out.step (kp_grown hg2) hP2 hB)
      replace hr2 := hide hr2
      clear hA1 hP2 hg2
      cases hc : (takeC 40 (List.drop k1 s.data.toList)).1
      · have e2 := takeC_same hc hr2.out hk b2
        subst e2
        clear hr2 b1 b2
        have HT := hide (part_low (f := f) (d := d) (l := List.drop k2 s.data.toList) (fun _ => hb) (fun _ => hc))
        clear hb hc
        go_wp2_with fail
        refine (take_num _ 34 rfl s k2 B w2 hs hk hA2.out.1).mono ?_
        rintro e w3 ⟨k3, rfl, c1, c2, hr3, hP3, hg3⟩
        have hA3 := hide (hA2.out.step (kp_grown hg3) hP3 hB)
        replace hr3 := hide hr3
        clear hA2 hP3 hg3
        cases hq : (takeC 34 (List.drop k2 s.data.toList)).1
        · have e3 := takeC_same hq hr3.out hk c2
          subst e3
          have HT2 : Hid (ps (f + 1) 0 d (List.drop k3 s.data.toList) = termP (List.drop k3 s.data.toList)) := by
            show _ = _
            rw [HT.out, hq]; rfl
          clear HT hq
          go_wp2_with fail
          refine (term_any s k3 B _ hs hk hA3.out.1).mono ?_
          rintro e w4 ⟨k4, v, rfl, ⟨kd1, a1, n1, c1', a2', n2, c2', rfl⟩, d1, d2, hr4, hP4, hk4⟩
          have hA4 := hide (hA3.out.step hk4 hP4 hB)
          replace hr4 := hide hr4
          obtain ⟨x0, x1, x2, y0, y1, y2⟩ := bx_cells hA4.out.2.1
          clear hA3 hP4 hk4
          go_wp2_with fail
          refine ret_query rfl (bx_store3 hA4.out.2.1 _ _ _) rfl rfl ?_
          rw [HT2.out]
          exact ⟨k4, _, rfl, ⟨kd1, a1, n1, c1', a2', n2, c2', rfl⟩, by omega, d2, hr4.out, pa_kp hA4.out.1 (kp_store3 _ _ _ _ _) (by simp; omega), hA4.out.2.2.trans (kp_store3 _ _ _ _ _) (fun x hx => by simp at hx; subst hx; exact .inr (Nat.le_refl _))⟩
        · have HT2 : Hid (ps (f + 1) 0 d (List.drop k2 s.data.toList) = phraseP (s.size - k2 + 1) (List.drop k3 s.data.toList)) := by
            show _ = _
            rw [HT.out, hq, if_pos rfl, hr3.out, hlen.out]
          have hpos : k2 + 1 ≤ k3 := Nat.le_of_eq (takeC_pos hq hr3.out hk c2).symm
          clear HT hq
          go_wp2_with fail
          refine (phrase_any s k3 B (s.size - k2 + 1) _ hs c2 (by omega) hA3.out.1).mono ?_
          rintro e w4 ⟨k4, v, rfl, ⟨kd1, a1, n1, c1', a2', n2, c2', rfl⟩, d1, d2, hr4, hP4, hk4⟩
          have hA4 := hide (hA3.out.step hk4 hP4 hB)
          replace hr4 := hide hr4
          obtain ⟨x0, x1, x2, y0, y1, y2⟩ := bx_cells hA4.out.2.1
          clear hA3 hP4 hk4
          go_wp2_with fail
          refine ret_query rfl (bx_store3 hA4.out.2.1 _ _ _) rfl rfl ?_
          rw [HT2.out]
          exact ⟨k4, _, rfl, ⟨kd1, a1, n1, c1', a2', n2, c2', rfl⟩, by omega, d2, hr4.out, pa_kp hA4.out.1 (kp_store3 _ _ _ _ _) (by simp; omega), hA4.out.2.2.trans (kp_store3 _ _ _ _ _) (fun x hx => by simp at hx; subst hx; exact .inr (Nat.le_refl _))⟩
      · have hpos : k1 + 1 ≤ k2 := Nat.le_of_eq (takeC_pos hc hr2.out hk b2).symm
        have HT : Hid (ps (f + 1) 0 d (List.drop k1 s.data.toList) = if (ps f 2 (d + 1) (List.drop k2 s.data.toList)).1 then takeC 41 (ps f 2 (d + 1) (List.drop k2 s.data.toList)).2 else (false, (ps f 2 (d + 1) (List.drop k2 s.data.toList)).2)) := by
          show _ = _
          rw [part_open h5 hb hc, hr2.out]
        clear hb hc
        go_wp2_with fail
        rw [show ((d : Int) + 1) = ((d + 1 : Nat) : Int) by omega]
        refine (ihQ.out s k2 B (d + 1) _ hs b2 (by omega) (by omega) hA2.out.1).mono ?_
        rintro e w3 ⟨k3, v, rfl, ⟨kd1, a1, n1, c1', a2', n2, c2', rfl⟩, c1, c2, hr3, hP3, hk3⟩
        have hA3 := hide (hA2.out.step hk3 hP3 hB)
        replace hr3 := hide hr3
        clear hA2 hP3 hk3
        have hlt3 : w.heap.size < w3.heap.size := (Array.getElem?_eq_some_iff.1 hA3.out.2.1).1
        obtain ⟨x0, x1, x2, y0, y1, y2⟩ := bx_cells hA3.out.2.1
        obtain ⟨x0', x1', x2', y0', y1', y2'⟩ := bx_cells_past hA3.out.2.1
        cases hq : (ps f 2 (d + 1) (List.drop k2 s.data.toList)).1
        · have HT2 : Hid (ps (f + 1) 0 d (List.drop k1 s.data.toList) = (false, (ps f 2 (d + 1) (List.drop k2 s.data.toList)).2)) := by
            show _ = _
            rw [HT.out, hq]; rfl
          clear HT
          go_wp2_with fail
          obtain ⟨W4, hW4⟩ : ∃ W4, w3.alloc (.cells #[.int .i64 kd1, .slice a1 n1 c1', .slice a2' n2 c2'] 139) = W4 := ⟨_, rfl⟩
          have hA4 : Hid (At w B s k3 W4) := by show At _ _ _ _ _; rw [← hW4]; exact hA3.out.past _
          have bq : Bx W4 w3.heap.size kd1 (.slice a1 n1 c1') (.slice a2' n2 c2') := by rw [← hW4]; exact heap_alloc_new w3 _
          rw [hW4]
          clear hW4 x0 x1 x2 y0 y1 y2 x0' x1' x2' y0' y1' y2' hA3
          obtain ⟨x0, x1, x2, y0, y1, y2⟩ := bx_cells hA4.out.2.1
          obtain ⟨u0, u1, u2, _, _, _⟩ := bx_cells bq
          have HB := hide bq
          clear bq
          go_region
          all_goals
            go_wp2_with fail
            refine ret_query rfl (bx_store3 hA4.out.2.1 _ _ _) rfl rfl ?_
            rw [HT2.out]
            exact ⟨k3, _, rfl, ⟨kd1, a1, n1, c1', a2', n2, c2', rfl⟩, by omega, c2, hr3.out, pa_kp hA4.out.1 (kp_drew (kp_store3 W4 _ _ _ _)) (by simp; omega), hA4.out.2.2.trans (kp_drew (kp_store3 W4 _ _ _ _)) (fun x hx => by simp at hx; subst hx; exact .inr (Nat.le_refl _))⟩
        · have HT2 : Hid (ps (f + 1) 0 d (List.drop k1 s.data.toList) = takeC 41 (List.drop k3 s.data.toList)) := by
            show _ = _
            rw [HT.out, hq, if_pos rfl, hr3.out]
          clear HT
          go_wp2_with fail
          obtain ⟨W4, hW4⟩ : ∃ W4, w3.alloc (.cells #[.int .i64 kd1, .slice a1 n1 c1', .slice a2' n2 c2'] 139) = W4 := ⟨_, rfl⟩
          have hA4 : Hid (At w B s k3 W4) := by show At _ _ _ _ _; rw [← hW4]; exact hA3.out.past _
          have bq : Bx W4 w3.heap.size kd1 (.slice a1 n1 c1') (.slice a2' n2 c2') := by rw [← hW4]; exact heap_alloc_new w3 _
          rw [hW4]
          clear hW4 x0 x1 x2 y0 y1 y2 x0' x1' x2' y0' y1' y2' hA3
          obtain ⟨x0, x1, x2, y0, y1, y2⟩ := bx_cells hA4.out.2.1
          obtain ⟨u0, u1, u2, _, _, _⟩ := bx_cells bq
          have HB := hide bq
          clear bq
          have hne3 : ¬ w.heap.size = w3.heap.size := by omega
          have hne3' : ¬ w3.heap.size = w.heap.size := by omega
          go_region_held3 (fun w' => w'.cell? ⟨w3.heap.size, 0, none⟩ = some (.int .i64 kd1) ∧ w'.cell? ⟨w3.heap.size, 1, none⟩ = some (.slice a1 n1 c1') ∧ w'.cell? ⟨w3.heap.size, 2, none⟩ = some (.slice a2' n2 c2')) (first | go_keep | exact ⟨z0, z1, z2⟩) ((first | (go_at_call 377; refine (take_num 41 41 rfl s k3 B W4.drew hs c2 hA4.out.1).mono ?_; rintro e w5 ⟨k5, rfl, f1, f2, hr5, hP5, hg5⟩; have kg5 := kp_grown hg5; have hA5 := hA4.out.drew.step kg5 hP5 hB; obtain ⟨z0, z1, z2, _, _, _⟩ := bx_cells (show Bx w5 w3.heap.size kd1 (.slice a1 n1 c1') (.slice a2' n2 c2') from kg5.heap HB.out (by simp; omega)); obtain ⟨q0, q1, q2, p0, p1, p2⟩ := bx_cells hA5.2.1)))
          all_goals
            go_wp2_with fail
            refine ret_query rfl (bx_store3 hA5.2.1 _ _ _) rfl rfl ?_
            rw [HT2.out]
            exact ⟨k5, _, rfl, ⟨kd1, a1, n1, c1', a2', n2, c2', rfl⟩, by omega, f2, hr5, pa_kp hA5.1 (kp_store3 w5 _ _ _ _) (by simp; omega), hA5.2.2.trans (kp_store3 w5 _ _ _ _) (fun x hx => by simp at hx; subst hx; exact .inr (Nat.le_refl _))⟩
    · have hpos : k + 1 ≤ k1 := Nat.le_of_eq (takeC_pos hb hr1.out hk a2).symm
      have HT : Hid (ps (f + 1) 0 d (List.drop k s.data.toList) = ps f 0 (d + 1) (List.drop k1 s.data.toList)) := by
        show _ = _
        rw [part_bang h5 hb, hr1.out]
      clear hb
      go_wp2_with fail
      rw [show ((d : Int) + 1) = ((d + 1 : Nat) : Int) by omega]
      refine (ihP.out s k1 B (d + 1) _ hs a2 (by omega) (by omega) hA1.out.1).mono ?_
      rintro e w3 ⟨k3, v, rfl, ⟨kd1, a1, n1, c1', a2', n2, c2', rfl⟩, c1, c2, hr3, hP3, hk3⟩
      have hA3 := hide (hA1.out.step hk3 hP3 hB)
      replace hr3 := hide hr3
      clear hA1 hP3 hk3
      have hlt3 : w.heap.size < w3.heap.size := (Array.getElem?_eq_some_iff.1 hA3.out.2.1).1
      obtain ⟨x0, x1, x2, y0, y1, y2⟩ := bx_cells hA3.out.2.1
      obtain ⟨X0, X1, X2, Y0, Y1, Y2⟩ := bx_cells_past2 hA3.out.2.1
      go_wp2_with fail
      refine ret_query rfl (bx_past (bx_past (bx_store3 hA3.out.2.1 _ _ _) _) _) rfl rfl ?_
      rw [HT.out]
      exact ⟨k3, _, rfl, ⟨3, none, 0, 0, _, 1, 1, rfl⟩, by omega, c2, hr3.out, pa_kp hA3.out.1 (((kp_store3 w3 _ _ _ _).alloc _).alloc _) (by simp; omega), hA3.out.2.2.trans (((kp_store3 w3 _ _ _ _).alloc _).alloc _) (fun x hx => by simp at hx; subst hx; exact .inr (Nat.le_refl _))⟩
  · have h5' : decide ((d : Int) < 5) = false := by simp; omega
    have HT := hide (part_low (f := f) (d := d) (l := List.drop k s.data.toList) (fun h => absurd h h5) (fun h => absurd h h5))
    go_enter Tryz.func378, Tryz.ntmps378
    go_wp2_with fail
    obtain ⟨W, hW, pW, r0, kW, hB⟩ := one_box s k B w hp.out
    have hA := hide (show At w B s k W from ⟨pW, r0, kW.mono (by simp)⟩)
    rw [hW]
    clear hp hW pW r0 kW
    refine (take_num _ 34 rfl s k B W hs hk hA.out.1).mono ?_
    rintro e w3 ⟨k3, rfl, c1, c2, hr3, hP3, hg3⟩
    have hA3 := hide (hA.out.step (kp_grown hg3) hP3 hB)
    replace hr3 := hide hr3
    clear hA hP3 hg3
    cases hq : (takeC 34 (List.drop k s.data.toList)).1
    · have e3 := takeC_same hq hr3.out hk c2
      subst e3
      have HT2 : Hid (ps (f + 1) 0 d (List.drop k3 s.data.toList) = termP (List.drop k3 s.data.toList)) := by
        show _ = _
        rw [HT.out, hq]; rfl
      clear HT hq
      go_wp2_with fail
      refine (term_any s k3 B _ hs hk hA3.out.1).mono ?_
      rintro e w4 ⟨k4, v, rfl, ⟨kd1, a1, n1, c1', a2', n2, c2', rfl⟩, d1, d2, hr4, hP4, hk4⟩
      have hA4 := hide (hA3.out.step hk4 hP4 hB)
      replace hr4 := hide hr4
      obtain ⟨x0, x1, x2, y0, y1, y2⟩ := bx_cells hA4.out.2.1
      clear hA3 hP4 hk4
      go_wp2_with fail
      refine ret_query rfl (bx_store3 hA4.out.2.1 _ _ _) rfl rfl ?_
      rw [HT2.out]
      exact ⟨k4, _, rfl, ⟨kd1, a1, n1, c1', a2', n2, c2', rfl⟩, by omega, d2, hr4.out, pa_kp hA4.out.1 (kp_store3 _ _ _ _ _) (by simp; omega), hA4.out.2.2.trans (kp_store3 _ _ _ _ _) (fun x hx => by simp at hx; subst hx; exact .inr (Nat.le_refl _))⟩
    · have HT2 : Hid (ps (f + 1) 0 d (List.drop k s.data.toList) = phraseP (s.size - k + 1) (List.drop k3 s.data.toList)) := by
        show _ = _
        rw [HT.out, hq, if_pos rfl, hr3.out, hlen.out]
      have hpos : k + 1 ≤ k3 := Nat.le_of_eq (takeC_pos hq hr3.out hk c2).symm
      clear HT hq
      go_wp2_with fail
      refine (phrase_any s k3 B (s.size - k + 1) _ hs c2 (by omega) hA3.out.1).mono ?_
      rintro e w4 ⟨k4, v, rfl, ⟨kd1, a1, n1, c1', a2', n2, c2', rfl⟩, d1, d2, hr4, hP4, hk4⟩
      have hA4 := hide (hA3.out.step hk4 hP4 hB)
      replace hr4 := hide hr4
      obtain ⟨x0, x1, x2, y0, y1, y2⟩ := bx_cells hA4.out.2.1
      clear hA3 hP4 hk4
      go_wp2_with fail
      refine ret_query rfl (bx_store3 hA4.out.2.1 _ _ _) rfl rfl ?_
      rw [HT2.out]
      exact ⟨k4, _, rfl, ⟨kd1, a1, n1, c1', a2', n2, c2', rfl⟩, by omega, d2, hr4.out, pa_kp hA4.out.1 (kp_store3 _ _ _ _ _) (by simp; omega), hA4.out.2.2.trans (kp_store3 _ _ _ _ _) (fun x hx => by simp at hx; subst hx; exact .inr (Nat.le_refl _))⟩

theorem part_zero (f : Nat) (h : f = 0) : CD 378 0 f := by
  intro s k B d w hs hk hf hd hp; omega

theorem descent : ∀ f, (∀ g, g ≤ f → CD 378 0 g) ∧ (∀ g, g ≤ f → CD 317 1 g) ∧ (∀ g, g ≤ f → CD 225 2 g)
  | 0 => by
    have hP : ∀ g, g ≤ 0 → CD 378 0 g := fun g hg => part_zero g (by omega)
    have hA : ∀ g, g ≤ 0 → CD 317 1 g := fun g hg => all_of g (fun j hj => by omega)
    exact ⟨hP, hA, fun g hg => query_of g (fun j hj => by omega)⟩
  | f + 1 => by
    obtain ⟨hP, hA, hQ⟩ := descent f
    have hP' : ∀ g, g ≤ f + 1 → CD 378 0 g := fun g hg => by
      by_cases e : g = f + 1
      · subst e; exact part_of f (hP f (by omega)) (hQ f (by omega))
      · exact hP g (by omega)
    have hA' : ∀ g, g ≤ f + 1 → CD 317 1 g := fun g hg => all_of g (fun j hj => hP' j (by omega))
    exact ⟨hP', hA', fun g hg => query_of g (fun j hj => hA' j (by omega))⟩
theorem query_any (f : Nat) : CD 225 2 f := (descent f).2.2 f (Nat.le_refl _)
end Go.Proofs.YtpdoacfiiledcaaGreatDoor

