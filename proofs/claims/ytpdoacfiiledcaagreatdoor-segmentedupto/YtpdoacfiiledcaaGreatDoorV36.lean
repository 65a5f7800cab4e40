import Derived.Test.YtpdoacfiiledcaaGreatDoorV27
import Derived.Test.YtpdoacfiiledcaaGreatDoorV35
import Derived.Test.YtpdoacfiiledcaaGreatDoorV32
import Derived.Test.YtpdoacfiiledcaaGreatDoorV33
set_option linter.unusedVariables false
set_option maxRecDepth 8000
namespace Go.Proofs.YtpdoacfiiledcaaGreatDoor.Pak
open Go.RowKit Go.Proofs.YtpdoacfiiledcaaGreatDoor Go.Proofs.YtpdoacfiiledcaaGreatDoor.Spl SiftM

set_option maxHeartbeats 4000000 in
/-- The document's Delete. -/
theorem rdel_any (X B : Nat) (O : List Nat) (s : RSt) (idI : Int) (w : World) (h : RIs w X B O s) (hnx : s.next ≤ 1000000) :
    Calls Tryz.prog 107 #[.pointer (some ⟨X, 0, none⟩), .int .i64 idI] w fun e w' => e = .returned (.int .i64 (s.abs.delE idI)) ∧ ∃ s', RIs w' X B (grow O w w') s' ∧ s'.abs = s.abs.del idI ∧ Kp O w w' := by
  obtain ⟨x0, x2, x3, x4, x18, f2, f3, f4⟩ := ix_cells h
  have hself : ∀ (E : Int), s.abs.delE idI = E → E ≠ 0 → ∀ w', Kp [] w w' → (∃ s', RIs w' X B (grow O w w') s' ∧ s'.abs = s.abs.del idI ∧ Kp O w w') := by
    intro E hE hne w' k
    refine ⟨s, (h.kp k (by simp)).more (fun g hg => mem_grow.2 (.inl hg)), ?_, k.mono (by simp)⟩
    unfold DSt.del
    rw [if_neg (by rw [hE]; exact hne)]
  by_cases hr1 : idI < 0 ∨ 99999 < idI
  · have hE : s.abs.delE idI = 3 := by unfold DSt.delE; rw [if_pos hr1]
    have HS := hide (hself 3 hE (by decide) w (Kp.refl _ _))
    rw [hE]
    clear h hself x0 x2 x3 x4 f2 f3 f4
    by_cases hneg : idI < 0
    · go_enter Tryz.func107, Tryz.ntmps107
      go_wp2_with fail
      go_ret
      exact ⟨rfl, HS.out⟩
    · have hbig : 99999 < idI := by omega
      go_enter Tryz.func107, Tryz.ntmps107
      go_wp2_with fail
      go_ret
      exact ⟨rfl, HS.out⟩
  · obtain ⟨id, rfl⟩ : ∃ id : Nat, idI = (id : Int) := ⟨idI.toNat, by omega⟩
    have hid : id ≤ 99999 := by omega
    have c1 : ¬ ((id : Int) < 0) := by omega
    have c2 : ¬ (99999 < (id : Int)) := by omega
    have hall := abs_all h
    have hids : s.abs.ids = (s.pairs.map Prod.fst).map Prod.fst := by unfold DSt.ids; rw [hall]
    have hhas := rhas_any X B s.lv s.sv s.T s.vs s.L s.L.length s.T.length id w x2 x3 h.low h.loose rfl h.segs rfl (by have := h.cnt; omega) h.all60 h.nodup (by omega)
    rw [show (s.T.zip s.vs ++ liveL s.L).map Prod.fst = s.pairs.map Prod.fst from rfl, ← hids] at hhas
    obtain ⟨hs, hhs⟩ : ∃ hs, decide (id ∈ s.abs.ids) = hs := ⟨_, rfl⟩
    rw [hhs] at hhas
    have hE : s.abs.delE id = if hs = false then 6 else 0 := by
      unfold DSt.delE
      rw [if_neg hr1, Int.toNat_natCast, ← hhs]
      simp
    have HH := hide h
    have HHAS := hide hhas
    have HSELF := hide hself
    clear h hself x0 x2 x3 x4 f2 f3 f4 hhas hall hids hhs
    cases hs
    · have hE6 : s.abs.delE id = 6 := by rw [hE]; rfl
      have HE := hide hE6
      rw [hE6]
      clear hE hE6
      go_enter Tryz.func107, Tryz.ntmps107
      go_wp2_with fail
      refine HHAS.out.mono ?_
      rintro e w1 ⟨rfl, k1⟩
      go_wp2_with fail
      go_ret
      exact ⟨rfl, HSELF.out 6 HE.out (by decide) w1 k1⟩
    · have hE0 : s.abs.delE id = 0 := by rw [hE]; rfl
      have HE := hide hE0
      rw [hE0]
      clear hE hE0
      go_enter Tryz.func107, Tryz.ntmps107
      go_wp2_with fail
      refine HHAS.out.mono ?_
      rintro e w1 ⟨rfl, k1⟩
      have hi1 := HH.out.kp k1 (by simp)
      have hgone := rgone_is X B O s id w1 hi1 hnx (by omega)
      have HI1 := hide hi1
      clear hi1
      go_wp2_with fail
      refine hgone.mono ?_
      rintro e w2 ⟨rfl, lv, hi2, k2⟩
      have HI2 := hide hi2
      clear hi2 hgone
      go_wp2_with fail
      go_ret
      refine ⟨rfl, _, HI2.out.more ?_, ?_, (k1.mono (by simp)).next k2⟩
      · intro g hg
        have hs1 := k1.size
        rcases mem_grow.1 hg with h2 | h2
        · exact mem_grow.2 (.inl h2)
        · exact mem_grow.2 (.inr ⟨by omega, h2.2⟩)
      · rw [gone_abs HI1.out]
        unfold DSt.del
        rw [if_pos HE.out, Int.toNat_natCast]
set_option maxHeartbeats 2000000 in
/-- The document's Flush. -/
theorem rFlush_any (X B : Nat) (O : List Nat) (s : RSt) (w : World) (h : RIs w X B O s) (hnx : s.next ≤ 1000000) :
    Calls Tryz.prog 108 #[.pointer (some ⟨X, 0, none⟩)] w fun e w' => e = .returned (.tuple #[.bool (!decide (s.abs.T = [])), .int .i64 0]) ∧ ∃ s', RIs w' X B (grow O w w') s' ∧ s'.abs = s.abs.flush ∧ Kp O w w' := by
  obtain ⟨x0, x2, x3, x4, x18, f2, f3, f4⟩ := ix_cells h
  have hcall := rflush_is X B O s w h hnx
  clear h x0 x2 x3 x4 f2 f3 f4
  go_enter Tryz.func108, Tryz.ntmps108
  go_wp2_with fail
  refine hcall.mono ?_
  rintro e w1 ⟨rfl, s1, hi1, ha1, _, k1⟩
  have HI1 := hide hi1
  have HA1 := hide ha1
  clear hcall hi1 ha1
  go_wp2_with fail
  go_ret2
  exact ⟨rfl, s1, HI1.out, HA1.out, k1⟩
end Go.Proofs.YtpdoacfiiledcaaGreatDoor.Pak

set_option linter.unusedVariables false
set_option linter.unusedSimpArgs false
namespace Go.Proofs.YtpdoacfiiledcaaGreatDoor.Pak
open Go.RowKit Go.Proofs.YtpdoacfiiledcaaGreatDoor Go.Proofs.YtpdoacfiiledcaaGreatDoor.Spl SiftM

/-! The two indexes are the same, but for the order of the loose texts. -/
theorem sortX_sort {T : List Tx} (hnd : (T.map Prod.fst).Nodup) : SortT (sortX T) := by
  have h2 := sortX_le T
  have h4 : ((sortX T).map Prod.fst).Nodup := ((sortX_perm T).map Prod.fst).nodup_iff.2 hnd
  have h5 : (sortX T).Pairwise fun a b => a.1 ≠ b.1 := List.pairwise_map.1 h4
  unfold SortT
  refine (h2.and h5).imp ?_
  rintro a b ⟨h6, h7⟩
  simp at h6
  omega
theorem sortX_congr {T T' : List Tx} (hp : T.Perm T') (hnd : (T.map Prod.fst).Nodup) : sortX T = sortX T' := sortX_eq ((sortX_perm T).trans hp) (sortX_sort hnd)
theorem sortX_filter {T : List Tx} (hnd : (T.map Prod.fst).Nodup) (p : Tx → Bool) : (sortX T).filter p = sortX (T.filter p) :=
  sortX_eq ((sortX_perm T).filter p) ((sortX_sort hnd).sublist List.filter_sublist)
theorem srt_all (d : DSt) : d.srt.all.Perm d.all := (sortX_perm d.T).append_right _
theorem srt_ids (d : DSt) : d.srt.ids.Perm d.ids := (srt_all d).map _
theorem srt_mem (d : DSt) (id : Nat) : id ∈ d.srt.ids ↔ id ∈ d.ids := (srt_ids d).mem_iff
theorem srt_len (d : DSt) : d.srt.all.length = d.all.length := (srt_all d).length_eq
theorem srt_addE (d : DSt) (id : Int) (b : ByteArray) : d.srt.addE id b = d.addE id b := by
  unfold DSt.addE
  rw [srt_len]
  simp only [srt_mem]
theorem srt_delE (d : DSt) (id : Int) : d.srt.delE id = d.delE id := by
  unfold DSt.delE
  simp only [srt_mem]
theorem srt_nil (d : DSt) : (d.srt.T = []) ↔ (d.T = []) := ⟨fun h => Classical.byContradiction fun h2 => sortX_ne h2 h, fun h => by unfold DSt.srt; simp only; rw [h]; exact sortX_nil⟩
theorem srt_flush0 (d : DSt) : d.srt.flush = d.flush.srt := by
  by_cases h : d.T = []
  · unfold DSt.flush
    rw [if_pos ((srt_nil d).2 h), if_pos h]
  · exact srt_flush d h
theorem srt_srt (d : DSt) : d.srt.srt = d.srt := by
  unfold DSt.srt
  simp only
  rw [sortX_sortX]
theorem ids_T {d : DSt} (h : d.ids.Nodup) : (d.T.map Prod.fst).Nodup := by
  unfold DSt.ids DSt.all at h
  rw [List.map_append] at h
  exact (List.pairwise_append.1 h).1
theorem srt_gone {d : DSt} (h : d.ids.Nodup) (id : Nat) : d.srt.gone id = (d.gone id).srt := by
  unfold DSt.gone DSt.srt
  simp only
  rw [sortX_filter (ids_T h)]
theorem srt_del {d : DSt} (h : d.ids.Nodup) (id : Int) : d.srt.del id = (d.del id).srt := by
  unfold DSt.del
  rw [srt_delE]
  split
  · exact srt_gone h _
  · rfl
theorem put_nodup {d : DSt} (h : d.ids.Nodup) (id : Nat) (ws : List (List UInt8)) : ((((d.gone id).put (id, ws)).T).map Prod.fst).Nodup := by
  show (((d.T.filter fun t => !decide (t.1 = id)) ++ [(id, ws)]).map Prod.fst).Nodup
  rw [List.map_append, List.map_cons, List.map_nil]
  refine List.pairwise_append.2 ⟨(List.filter_sublist.map _).nodup (ids_T h), List.pairwise_singleton _ _, fun a ha b hb => ?_⟩
  simp at hb
  subst hb
  obtain ⟨t, ht, rfl⟩ := List.mem_map.1 ha
  have := (List.mem_filter.1 ht).2
  simpa using this
theorem srt_put {d : DSt} (h : d.ids.Nodup) (id : Nat) (ws : List (List UInt8)) : ((d.srt.gone id).put (id, ws)).srt = ((d.gone id).put (id, ws)).srt := by
  rw [srt_gone h]
  unfold DSt.put DSt.srt
  simp only
  have hn := put_nodup h id ws
  rw [sortX_congr (T := (d.gone id).T ++ [(id, ws)]) (T' := sortX (d.gone id).T ++ [(id, ws)]) ((sortX_perm _).symm.append_right _) hn]
theorem srt_add {d : DSt} (h : d.ids.Nodup) (id : Int) (b : ByteArray) : (d.srt.add id b).srt = (d.add id b).srt := by
  unfold DSt.add
  rw [srt_addE]
  split
  · have e := srt_put h id.toNat (wordsB b)
    have el : ((d.srt.gone id.toNat).put (id.toNat, wordsB b)).T.length = ((d.gone id.toNat).put (id.toNat, wordsB b)).T.length := by
      rw [srt_gone h]
      show (sortX _ ++ [_]).length = (_ ++ [_]).length
      rw [List.length_append, List.length_append, (sortX_perm _).length_eq]
    unfold DSt.add1
    rw [el]
    have eb : d.srt.buf = d.buf := rfl
    rw [eb]
    split
    · rw [← srt_flush0, ← srt_flush0, e]
    · exact e
  · exact srt_srt d
theorem srt_open (d : DSt) : d.srt.open = d.open.srt := by
  unfold DSt.open
  have e : d.srt.R = d.R := rfl
  rw [e]
  cases freeR d.R with
  | none => rfl
  | some i =>
    simp only
    rw [srt_flush0]
    rfl
theorem srt_openA (d : DSt) : d.srt.openA = d.openA := rfl
theorem srt_new (b f : Nat) : (DSt.new b f).srt = DSt.new b f := by
  unfold DSt.srt DSt.new
  simp only
  rw [sortX_nil]
/-- What holds of a document's index, whatever is done. -/
structure Good (d : DSt) (k : Nat) : Prop where
  nodup : d.ids.Nodup
  room : d.T.length < d.buf
  next : d.next ≤ k
theorem RIs.ids {w : World} {X B : Nat} {O : List Nat} {s : RSt} (h : RIs w X B O s) : s.abs.ids.Nodup := by
  unfold DSt.ids
  rw [← abs_all h]
  exact h.nodup
theorem flush_room (d : DSt) (h : 0 < d.buf) : d.flush.T.length < d.flush.buf ∧ d.flush.next ≤ d.next + 1 := by
  unfold DSt.flush
  split
  · rename_i e; rw [e]; exact ⟨h, by omega⟩
  · exact ⟨h, Nat.le_refl _⟩
theorem add_room (d : DSt) (id : Int) (b : ByteArray) (h : d.T.length < d.buf) : (d.add id b).T.length < (d.add id b).buf ∧ (d.add id b).next ≤ d.next + 1 := by
  unfold DSt.add
  split
  · unfold DSt.add1
    split
    · exact flush_room ((d.gone id.toNat).put (id.toNat, wordsB b)) (by show 0 < d.buf; omega)
    · rename_i hb
      have e : ((d.gone id.toNat).put (id.toNat, wordsB b)).buf = d.buf := rfl
      have e2 : ((d.gone id.toNat).put (id.toNat, wordsB b)).next = d.next := rfl
      omega
  · exact ⟨h, by omega⟩
theorem del_room (d : DSt) (id : Int) (h : d.T.length < d.buf) : (d.del id).T.length < (d.del id).buf ∧ (d.del id).next ≤ d.next + 1 := by
  unfold DSt.del
  split
  · have := List.length_filter_le (fun t : Tx => !decide (t.1 = id.toNat)) d.T
    exact ⟨Nat.lt_of_le_of_lt this h, Nat.le_succ _⟩
  · exact ⟨h, by omega⟩
theorem open_room (d : DSt) (h : d.T.length < d.buf) : d.open.T.length < d.open.buf ∧ d.open.next ≤ d.next + 1 := by
  unfold DSt.open
  split
  · exact ⟨h, by omega⟩
  · exact flush_room d (by omega)
end Go.Proofs.YtpdoacfiiledcaaGreatDoor.Pak

set_option linter.unusedVariables false
set_option linter.unusedSimpArgs false
set_option maxRecDepth 8000
namespace Go.Proofs.YtpdoacfiiledcaaGreatDoor.Pak
open Go.RowKit Go.Proofs.YtpdoacfiiledcaaGreatDoor Go.Proofs.YtpdoacfiiledcaaGreatDoor.Spl SiftM

theorem info134 : (Tryz.prog.info? 134).map (fun i => (i.zero, i.size, i.bytes)) = some (some (.agg #[.pointer none, .int .u64 0]), 2, 16) := by kernel_rfl
theorem ptV_cell {w : World} {B g n cap : Nat} {Ps : List PPt} (h : w.ownsRow B 128 1 (.slice (some ⟨g, 0, none⟩) n cap) n (ptV Ps)) (i : Nat) (hi : i < Ps.length) : w.cell? ⟨g, i, none⟩ = some (.pointer (some ⟨Ps[i].p, 0, none⟩)) := by
  have hg : (ptV Ps)[i]? = some (.pointer (some ⟨Ps[i].p, 0, none⟩)) := by simp [ptV, hi]
  have c0 := h.cells (g := g) rfl _ _ hg
  have ea : ∀ j, (⟨g, 0, none⟩ : Addr).add j = ⟨g, j, none⟩ := by intro j; unfold Addr.add; split <;> simp_all
  rw [ea] at c0
  exact c0
theorem PartIs.kp0 {w w' : World} {t : PPt} (h : PartIs w t) (k : Kp [] w w') : PartIs w' t := h.kp k (by simp) (by simp)
theorem part_two {w : World} {t : PPt} (h : PartIs w t) : w.cell? ⟨t.p, 0, none⟩ = some (.pointer (some ⟨t.q, 0, none⟩)) ∧ w.cell? ⟨t.p, 1, none⟩ = some (.int .u64 (t.dead : Int)) := by
  have hc := h.cells
  constructor <;> simp [World.cell?, hc]

set_option maxHeartbeats 8000000 in
theorem view_any (B n : Nat) (pv : Value) (Ps : List PPt) (w : World) (hrow : w.ownsRow B 128 1 pv n (ptV Ps)) (hn : Ps.length = n) (heach : ∀ t ∈ Ps, PartIs w t) (hb : n ≤ 1000000) :
    Calls Tryz.prog 30 #[pv] w fun e w' => (∃ a, e = .returned (.pointer (some ⟨a, 0, none⟩))) ∧ Kp [] w w' := by
  obtain ⟨i0, hi0, hz0, hz1, hz2⟩ := info_parts info134
  obtain ⟨ag, cp, rfl, hag⟩ := owns_forms hrow
  have hVn := heap_alloc_new w (.cells #[.slice none 0 0] 127)
  have hW := hide hrow
  have HE := hide heach
  have HN := hide hn
  clear hrow heach hn
  go_enter Tryz.func30, Tryz.ntmps30
  go_wp2_with fail
  go_loopw [11] (fun iv wr => ∃ (i : Nat) (a : Option Addr) (c k : Nat) (vs : List Value), i ≤ n ∧ iv = .int .i64 (i : Int) ∧ k ≤ i ∧ wr.heap[w.heap.size]? = some (.cells #[.slice a k c] 127 (0, 0)) ∧ wr.ownsRow (w.heap.size + 1) 134 2 (.slice a k c) k vs ∧ Kp [] w wr) (fun iv _ => n - (intOf iv).toNat)
  case atStart => exact ⟨0, none, 0, 0, [], by omega, rfl, by omega, hVn, World.ownsRow_nil _ _ _ _, (Kp.refl _ _).alloc _⟩
  case round =>
    obtain ⟨i, a, c, k, vs, hi, rfl, hk, hV, ho, hkp⟩ := hrel
    by_cases hlt : i < n
    · obtain ⟨g, rfl⟩ := hag (by omega)
      have hiL : i < Ps.length := by rw [HN.out]; exact hlt
      have hpc := ptV_cell (hkp.owns hW.out (by simp)) i hiL
      have hpt := (HE.out _ (List.getElem_mem hiL)).kp0 hkp
      obtain ⟨t, ht⟩ : ∃ t, Ps[i] = t := ⟨_, rfl⟩
      rw [ht] at hpc hpt
      obtain ⟨p0, p1⟩ := part_two hpt
      have hal := alive_any t.p t.q _ _ _ _ _ t.dead wr p0 p1 hpt.seg.segC hpt.fine.len hpt.dlt
      obtain ⟨m, hm⟩ : ∃ m, aliveN t.T.length t.dead = m := ⟨_, rfl⟩
      rw [hm] at hal
      have j1 : (0 : Int) ≤ (i : Int) := by omega
      have j2 : (i : Int) < (n : Int) := by omega
      have HV := hide hV
      have HO := hide ho
      have HPT := hide hpt
      clear hV ho hpt hm ht p0 p1
      go_wp2_with fail
      refine hal.mono ?_
      rintro e w1 ⟨rfl, k1⟩
      have hV1 := k1.heap HV.out (by simp)
      have ho1 := k1.owns HO.out (by simp)
      obtain ⟨p0, p1⟩ := part_two (HPT.out.kp0 k1)
      have HV1 := hide hV1
      have HO1 := hide ho1
      have k01 := hkp.next k1
      clear hal
      by_cases hm0 : m = 0
      · subst hm0
        clear hV1 ho1
        go_wp2_with fail
        go_roundw
        case rel => exact ⟨i + 1, a, c, k, vs, by omega, by go_num, by omega, HV1.out, HO1.out, k01⟩
        case measure => simp [intOf]; omega
      · have hm1 : ((m : Int) == 0) = false := by rw [beq_eq_false_iff_ne]; omega
        have v0 : w1.cell? ⟨w.heap.size, 0, none⟩ = some (.slice a k c) := by simp [World.cell?, hV1]
        have vl := World.block_lt_of_cell? w1 _ v0
        have pl := World.block_lt_of_cell? w1 _ p0
        have v0' : ∀ o, (w1.alloc o).cell? ⟨w.heap.size, 0, none⟩ = some (.slice a k c) := fun o => by rw [World.cell?_alloc_past _ _ _ vl]; exact v0
        have p0' : ∀ o, (w1.alloc o).cell? ⟨t.p, 0, none⟩ = some (.pointer (some ⟨t.q, 0, none⟩)) := fun o => by rw [World.cell?_alloc_past _ _ _ pl]; exact p0
        have hVV : Hid (∀ u : World, Kp (Value.slice a k c).ownBlock.toList w1 u → u.heap[w.heap.size]? = some (.cells #[.slice a k c] 127 (0, 0)) ∧ u.cell? ⟨w.heap.size, 0, none⟩ = some (.slice a k c) ∧ u.frozen? ⟨w.heap.size, 0, none⟩ = false) := by
          intro u ku
          have hu := ku.heap hV1 (fun hx => by
            have := (ho1.lt w.heap.size (by simpa using hx)).1
            omega)
          exact ⟨hu, by simp [World.cell?, hu], by simp [World.frozen?, hu]⟩
        clear hV1 ho1
        go_wp2_with fail
        go_region_law ((refine step_append_lies _ (by rfl) _ _ _ (by rfl) (w.heap.size + 1) 134 i0 _ 2 16 Tryz.underlying125 hi0 hz0 hz1 hz2 rfl (by omega) (.slice a k c) k vs (by rfl) ((HO1.out.alloc _).drew) ⟨w1.heap.size, 0, none⟩ 1 1 [.pointer (some ⟨t.q, 0, none⟩), .int .u64 (m : Int)] (by rfl) (by rfl) (World.news_of_block (cs := #[.pointer (some ⟨t.q, 0, none⟩), .int .u64 (m : Int)]) (t := 134) (fr := (0, 0)) (heap_alloc_new w1 _)) (by simp [Value.oneCell']) (by omega) (by unfold maxLen; omega) (by omega) (by simp; omega) (w1.heap.size + 1) (by simp) ?_; intro g3 cap w3 hown3 hgrow hat hlt3; have k3 := kp_append hgrow; obtain ⟨zX, z3, zf⟩ := hVV.out w3 k3))
        all_goals
          go_wp2_with fail
          have hge : ∀ x, (Value.slice a k c).ownBlock = some x → w.heap.size + 1 ≤ x := fun x hx => (HO1.out.lt x hx).1
          have k13 : Kp [] w w3 := k01.trans k3 fun x hx => .inr (by have := hge x (by simpa using hx); omega)
          refine ⟨⟨i + 1, some ⟨g3, 0, none⟩, cap, k + 1, vs ++ [.pointer (some ⟨t.q, 0, none⟩), .int .u64 (m : Int)], by omega, by go_num, by omega, ?_, ?_, ?_⟩, ?_⟩
          · rw [heap_setCell_same w3 _ 0 _ 127 _ zX]; rfl
          · refine (kp_set w3 w.heap.size 0 _).owns hown3 fun gg hgg hx => ?_
            simp at hx; subst hx
            exact owns_ne_type hown3 zX (by decide) hgg
          · exact k13.setCell (.inr (Nat.le_refl _)) _
          · simp [intOf]; omega
    · have hin : i = n := by omega
      subst hin
      go_wp2_with fail
      go_ret
      exact ⟨⟨_, rfl⟩, hkp⟩
end Go.Proofs.YtpdoacfiiledcaaGreatDoor.Pak

set_option linter.unusedVariables false
set_option linter.unusedSimpArgs false
set_option maxRecDepth 8000
namespace Go.Proofs.YtpdoacfiiledcaaGreatDoor.Pak
open Go.RowKit Go.Proofs.YtpdoacfiiledcaaGreatDoor Go.Proofs.YtpdoacfiiledcaaGreatDoor.Spl SiftM

/-- The answer of freeReader. -/
def freeA (R : List Bool) : Value := match freeR R with | none => .tuple #[.int .i64 0, .bool false] | some i => .tuple #[.int .i64 (i : Int), .bool true]
theorem ptrs4 {R : List Value} (h : R.length = 4 ∧ ∀ v ∈ R, isPtr v = true) : ∃ a b c d : Option Addr, R = [.pointer a, .pointer b, .pointer c, .pointer d] := by
  obtain ⟨h1, h2⟩ := h
  match R, h1 with
  | [p, q, r, s], _ =>
    have f : ∀ v ∈ [p, q, r, s], ∃ a, v = Value.pointer a := fun v hv => by
      have := h2 v hv
      cases v <;> simp [isPtr] at this
      exact ⟨_, rfl⟩
    obtain ⟨a, rfl⟩ := f p (by simp)
    obtain ⟨b, rfl⟩ := f q (by simp)
    obtain ⟨c, rfl⟩ := f r (by simp)
    obtain ⟨d, rfl⟩ := f s (by simp)
    exact ⟨a, b, c, d, rfl⟩
set_option maxHeartbeats 4000000 in
theorem free_any (X : Nat) (s : PSt) (w : World) (hX : w.heap[X]? = some (.cells (pxC s) 85 (0, 0))) (hR : s.R.length = 4 ∧ ∀ v ∈ s.R, isPtr v = true) :
    Calls Tryz.prog 28 #[.pointer (some ⟨X, 0, none⟩)] w fun e w' => e = .returned (freeA s.abs.R) ∧ w' = w := by
  obtain ⟨a, b, c, d, eR⟩ := ptrs4 hR
  have r0 : w.cell? ⟨X, 12, none⟩ = some (.pointer a) := by simp [World.cell?, hX, pxC, pxA, eR]
  have r1 : w.cell? ⟨X, 13, none⟩ = some (.pointer b) := by simp [World.cell?, hX, pxC, pxA, eR]
  have r2 : w.cell? ⟨X, 14, none⟩ = some (.pointer c) := by simp [World.cell?, hX, pxC, pxA, eR]
  have r3 : w.cell? ⟨X, 15, none⟩ = some (.pointer d) := by simp [World.cell?, hX, pxC, pxA, eR]
  have eA : s.abs.R = [onP (.pointer a), onP (.pointer b), onP (.pointer c), onP (.pointer d)] := by simp [PSt.abs, eR]
  rw [eA]
  clear hX hR eR eA
  have i0 : ∀ w, (Instr.index 83 (.agg #[.pointer a, .pointer b, .pointer c, .pointer d]) (.int .i64 0)).run Tryz.prog w = .ok (.pointer a) w := fun _ => by kernel_rfl
  have i1 : ∀ w, (Instr.index 83 (.agg #[.pointer a, .pointer b, .pointer c, .pointer d]) (.int .i64 1)).run Tryz.prog w = .ok (.pointer b) w := fun _ => by kernel_rfl
  have i2 : ∀ w, (Instr.index 83 (.agg #[.pointer a, .pointer b, .pointer c, .pointer d]) (.int .i64 2)).run Tryz.prog w = .ok (.pointer c) w := fun _ => by kernel_rfl
  have i3 : ∀ w, (Instr.index 83 (.agg #[.pointer a, .pointer b, .pointer c, .pointer d]) (.int .i64 3)).run Tryz.prog w = .ok (.pointer d) w := fun _ => by kernel_rfl
  cases a with
  | none =>
    go_enter Tryz.func28, Tryz.ntmps28
    go_wp2_with fail
    refine wp_loop_rounds 5 ?_
    rw [rounds_succ]
    go_wp2_with fail
    go_ret2
    exact ⟨rfl, rfl⟩
  | some a =>
    cases b with
    | none =>
      go_enter Tryz.func28, Tryz.ntmps28
      go_wp2_with fail
      refine wp_loop_rounds 5 ?_
      rw [rounds_succ]
      go_wp2_with fail
      rw [rounds_succ]
      go_wp2_with fail
      go_ret2
      exact ⟨rfl, rfl⟩
    | some b =>
      cases c with
      | none =>
        go_enter Tryz.func28, Tryz.ntmps28
        go_wp2_with fail
        refine wp_loop_rounds 5 ?_
        rw [rounds_succ]
        go_wp2_with fail
        rw [rounds_succ]
        go_wp2_with fail
        rw [rounds_succ]
        go_wp2_with fail
        go_ret2
        exact ⟨rfl, rfl⟩
      | some c =>
        cases d with
        | none =>
          go_enter Tryz.func28, Tryz.ntmps28
          go_wp2_with fail
          refine wp_loop_rounds 5 ?_
          rw [rounds_succ]
          go_wp2_with fail
          rw [rounds_succ]
          go_wp2_with fail
          rw [rounds_succ]
          go_wp2_with fail
          rw [rounds_succ]
          go_wp2_with fail
          go_ret2
          exact ⟨rfl, rfl⟩
        | some d =>
          go_enter Tryz.func28, Tryz.ntmps28
          go_wp2_with fail
          refine wp_loop_rounds 5 ?_
          rw [rounds_succ]
          go_wp2_with fail
          rw [rounds_succ]
          go_wp2_with fail
          rw [rounds_succ]
          go_wp2_with fail
          rw [rounds_succ]
          go_wp2_with fail
          rw [rounds_succ]
          go_wp2_with fail
          go_ret2
          exact ⟨rfl, rfl⟩
theorem pxC_setR {s : PSt} (h : s.R.length = 4) (i : Nat) (v : Value) (hi : i < 4) : (pxC s).setIfInBounds (12 + i) v = pxC { s with R := s.R.set i v } := by
  simp only [pxC, List.setIfInBounds_toArray]
  congr 1
  have : (pxA s).length = 12 := rfl
  rw [List.set_append_right _ _ (by omega), this, Nat.add_sub_cancel_left]
  rfl
theorem PIs.opened {w w' : World} {X B i : Nat} {O : List Nat} {s : PSt} {v : Value} (h : PIs w X B O s) (hi : i < 4) (hv : isPtr v = true) (hX : w'.heap[X]? = some (.cells (pxC { s with R := s.R.set i v }) 85 (0, 0))) (k : Kp [X] w w') : PIs w' X B O { s with R := s.R.set i v } := by
  have far : ∀ {e : TypeId} {size m : Nat} {u : Value} {xs : List Value}, e ≠ 85 → w.ownsRow B e size u m xs → w'.ownsRow B e size u m xs := fun he hu => k.owns hu (fun gg hgg hx => by
    simp at hx; subst hx
    exact owns_ne_type hu h.blk he hgg)
  obtain ⟨es, ck, hmap⟩ := h.hmap
  refine ⟨hX, ⟨by simp [h.rd.1], fun u hu => ?_⟩, Nat.le_trans h.low k.size, ⟨h.gath.len, far (by decide) h.gath.row, fun i h1 h2 => far (by decide) (h.gath.each i h1 h2), h.gath.apart⟩, h.word, h.sort, far (by decide) h.parts, fun t ht => (h.each t ht).kp k (fun hx => ?_) (fun x hx => ?_), h.hom.kp k (fun hx => ?_), h.cnt, h.all60, h.nodup, h.inX, h.inG, h.inW, h.inP, h.inH, h.inT, h.inS, h.outX, h.outG, h.outP, h.outH, h.outT, fun t ht => Nat.le_trans (h.hiLe t ht) k.size, h.apart⟩
  · rcases List.mem_or_eq_of_mem_set hu with h1 | h1
    · exact h.rd.2 u h1
    · rw [h1]; exact hv
  · simp at hx
    exact cells_ne (h.each t ht).cells h.blk (by decide) hx
  · simp at hx; subst hx
    exact h.outX t ht
  · simp at hx
    exact cells_map h.blk hmap hx.symm
theorem freeR_lt {R : List Bool} {i : Nat} (h : freeR R = some i) : i < 4 := by
  unfold freeR at h
  have := List.mem_of_find?_eq_some h
  simpa using this
theorem opens_set (R : List Value) (i : Nat) (v : Value) (hv : onP v = true) : (R.set i v).map onP = (R.map onP).set i true := by
  rw [List.map_set, hv]
set_option maxHeartbeats 4000000 in
/-- The program's Open. -/
theorem open_any (X B : Nat) (O : List Nat) (s : PSt) (w : World) (h : PIs w X B O s) (hTab : Tab64 w) (hB0 : 0 < B) (hnx : s.next < 1000000) :
    Calls Tryz.prog 16 #[.pointer (some ⟨X, 0, none⟩)] w fun e w' => e = .returned s.abs.openA ∧ ∃ s', PIs w' X B (grow O w w') s' ∧ s'.abs = s.abs.open ∧ Kp O w w' := by
  have x6 := (px_cells h).2.1
  have hfree := free_any X s w h.blk h.rd
  have hfl := flush_any X B O s w h hTab hB0 hnx
  have HH := hide h
  clear h hTab
  cases hf : freeR s.abs.R with
  | none =>
    unfold DSt.openA DSt.open
    unfold freeA at hfree
    rw [hf] at hfree ⊢
    simp only at hfree ⊢
    clear hfl
    go_enter Tryz.func16, Tryz.ntmps16
    go_wp2_with fail
    refine hfree.mono ?_
    rintro e w ⟨rfl, rfl⟩
    go_wp2_with fail
    go_ret2
    exact ⟨rfl, s, HH.out.more (fun g hg => mem_grow.2 (.inl hg)), rfl, Kp.refl _ _⟩
  | some i =>
    have hi4 := freeR_lt hf
    unfold DSt.openA DSt.open
    unfold freeA at hfree
    rw [hf] at hfree ⊢
    simp only at hfree ⊢
    go_enter Tryz.func16, Tryz.ntmps16
    go_wp2_with fail
    refine hfree.mono ?_
    rintro e w ⟨rfl, rfl⟩
    go_wp2_with fail
    refine hfl.mono ?_
    rintro e w1 ⟨rfl, s1, hi1, ha1, hr1, k1⟩
    have x8 : w1.drew.cell? ⟨X, 8, none⟩ = some s1.pv := (px_cells hi1).2.2.2.1
    have hnx1 : s1.Ps.length ≤ 1000000 := by
      have h1 : s1.next = s.abs.flush.next := by rw [← ha1]; rfl
      have h2 := hi1.cnt
      have h3 : s.abs.flush.next ≤ s.next + 1 := by
        unfold DSt.flush
        split
        · exact Nat.le_succ s.next
        · exact Nat.le_refl _
      omega
    have kd : Kp [] w1 w1.drew := ⟨rfl, rfl, rfl, Nat.le_refl _, fun _ _ _ => rfl⟩
    have hid := hi1.kp kd (by simp)
    have hvw := view_any B s1.Ps.length s1.pv s1.Ps w1.drew hid.parts rfl hid.each hnx1
    have HI1 := hide hi1
    have HA1 := hide ha1
    have HXX : Hid (∀ u, Kp [] w1.drew u → u.frozen? ⟨X, 12 + i, none⟩ = false ∧ ∃ y, u.cell? ⟨X, 12 + i, none⟩ = some y) := by
      intro u ku
      have hu := (HI1.out.kp (kd.next ku) (by simp)).blk
      have hl : i < s1.R.length := by rw [HI1.out.rd.1]; exact hi4
      refine ⟨by simp [World.frozen?, hu], s1.R[i], ?_⟩
      have e1 : (pxA s1).length = 12 := rfl
      have : (pxC s1)[12 + i]? = some s1.R[i] := by
        simp only [pxC, List.getElem?_toArray]
        rw [List.getElem?_append_right (by omega), e1, Nat.add_sub_cancel_left, List.getElem?_eq_getElem hl]
      simp [World.cell?, hu, this]
    have j1 : (0 : Int) ≤ (i : Int) := by omega
    have j2 : (i : Int) < 4 := by omega
    have HKD := hide kd
    clear hi1 hid ha1 hfl hfree hf kd
    go_wp2_with fail
    go_region_with (first
      | (refine hvw.mono ?_
         rintro e w2 ⟨⟨a, rfl⟩, k2⟩
         obtain ⟨q1, y, q2⟩ := HXX.out w2 k2)
      | fail)
    all_goals
      go_wp2_with fail
      go_ret2
      have k12 : Kp [] w1 w2 := HKD.out.next k2
      have hi2 := HI1.out.kp k12 (by simp)
      have hX3 : (w2.setCell ⟨X, 12 + i, none⟩ (.pointer (some ⟨a, 0, none⟩))).heap[X]? = some (.cells (pxC { s1 with R := s1.R.set i (.pointer (some ⟨a, 0, none⟩)) }) 85 (0, 0)) := by
        rw [heap_setCell_same w2 X _ _ 85 _ hi2.blk, pxC_setR hi2.rd.1 i _ hi4]
      have k3 := kp_set w2 X (12 + i) (.pointer (some ⟨a, 0, none⟩))
      have hi3 := hi2.opened hi4 (v := .pointer (some ⟨a, 0, none⟩)) rfl hX3 k3
      have hz1 := k1.size
      have hz2 := k12.size
      have hz3 := k3.size
      refine ⟨rfl, _, hi3.more ?_, ?_, ?_⟩
      · intro g hg
        rcases mem_grow.1 hg with h1 | h1
        · exact mem_grow.2 (.inl h1)
        · exact mem_grow.2 (.inr ⟨h1.1, by omega⟩)
      · rw [← HA1.out]
        unfold PSt.abs
        simp only
        rw [opens_set _ _ _ rfl, hr1.2.2.2.2.2.2.2.1]
      · refine kp_grow k1 ((k12.mono (by simp)).next (k3.mono fun x hx => ?_))
        simp at hx; subst hx
        exact HI1.out.inX
end Go.Proofs.YtpdoacfiiledcaaGreatDoor.Pak

