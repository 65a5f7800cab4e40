import Derived.Test.YtpdoacfiiledcaaGreatDoorV20
import Derived.Test.YtpdoacfiiledcaaGreatDoorV21
import Derived.Test.YtpdoacfiiledcaaGreatDoorV10
set_option linter.unusedVariables false
set_option maxRecDepth 4000
namespace Go.Proofs.YtpdoacfiiledcaaGreatDoor.Pak
open Go.RowKit Go.Proofs.YtpdoacfiiledcaaGreatDoor Go.Proofs.YtpdoacfiiledcaaGreatDoor.Spl SiftM

def dxs (T : List Tx) (vs : List Value) (fl : List Bool) : List Dx := (T.map Prod.fst).zip (vs.zip fl)
/-- The document's docs, with their marks. -/
structure DocsM (w : World) (base : Nat) (v : Value) (T : List Tx) (vs : List Value) (fl : List Bool) : Prop where
  len : vs.length = T.length
  flen : fl.length = T.length
  row : w.ownsRow base 266 3 v T.length (tx3d (dxs T vs fl))
  each : ∀ i (h : i < T.length) (h2 : i < vs.length), w.ownsRow base 9 1 vs[i] T[i].2.length (strV T[i].2)
theorem dxs_len {T : List Tx} {vs : List Value} {fl : List Bool} (h : vs.length = T.length) (h2 : fl.length = T.length) : (dxs T vs fl).length = T.length := by simp [dxs, h, h2]
theorem DocsM.docsX {w : World} {base : Nat} {v : Value} {T : List Tx} {vs : List Value} {fl : List Bool} (h : DocsM w base v T vs fl) : DocsX w base v T vs :=
  ⟨h.len, ⟨dxs T vs fl, dxs_len h.len h.flen, h.row, fun i h1 h2 h3 => by simp [dxs]⟩, h.each⟩
theorem DocsM.kp {S : List Nat} {w w' : World} {base : Nat} {v : Value} {T : List Tx} {vs : List Value} {fl : List Bool} (h : DocsM w base v T vs fl) (k : Kp S w w') (hv : ∀ x ∈ S, v.ownBlock ≠ some x) (hvs : ∀ u ∈ vs, ∀ x ∈ S, u.ownBlock ≠ some x) : DocsM w' base v T vs fl :=
  ⟨h.len, h.flen, k.owns h.row (fun g hg hx => hv g hx hg), fun i h1 h2 => k.owns (h.each i h1 h2) (fun g hg hx => hvs _ (List.getElem_mem h2) g hx hg)⟩
theorem DocsM.kp0 {w w' : World} {base : Nat} {v : Value} {T : List Tx} {vs : List Value} {fl : List Bool} (h : DocsM w base v T vs fl) (k : Kp [] w w') : DocsM w' base v T vs fl := h.kp k (by simp) (by simp)
theorem DocsM.cells {w : World} {base g cap n : Nat} {T : List Tx} {vs : List Value} {fl : List Bool} (h : DocsM w base (.slice (some ⟨g, 0, none⟩) n cap) T vs fl) (i : Nat) (hi : i < T.length) (h2 : i < vs.length) (h3 : i < fl.length) :
    w.cell? ⟨g, i * 3, none⟩ = some (.int .i64 (T[i].1 : Int)) ∧ w.cell? ⟨g, i * 3 + 1, none⟩ = some vs[i] ∧ w.cell? ⟨g, i * 3 + 2, none⟩ = some (.bool fl[i]) := by
  have hz : i < (dxs T vs fl).length := by rw [dxs_len h.len h.flen]; exact hi
  have hg := tx3d_get (dxs T vs fl) i hz
  have ea : ∀ j, (⟨g, 0, none⟩ : Addr).add j = ⟨g, j, none⟩ := by intro j; unfold Addr.add; split <;> simp_all
  have c0 := h.row.cells (g := g) rfl _ _ hg.1
  have c1 := h.row.cells (g := g) rfl _ _ hg.2.1
  have c2 := h.row.cells (g := g) rfl _ _ hg.2.2
  rw [ea] at c0 c1 c2
  simp [dxs] at c0 c1 c2
  exact ⟨c0, c1, c2⟩
theorem DocsIs.docsM {w : World} {base : Nat} {v : Value} {T : List Tx} {vs : List Value} (h : DocsIs w base v T vs) : DocsM w base v T vs (List.replicate T.length false) := by
  refine ⟨h.len, by simp, ?_, h.each⟩
  have e : dxs T vs (List.replicate T.length false) = ((T.map Prod.fst).zip vs).map fun x => (x.1, x.2, false) := by
    apply List.ext_getElem
    · simp [dxs, h.len]
    · intro i h1 h2; simp [dxs]
  rw [e, tx3d_false]
  exact h.row

/-- A segment of the document's index. -/
structure RSg where
  num : Nat
  v : Value
  T : List Tx
  vs : List Value
  fl : List Bool
def sg2 (L : List RSg) : List Value := L.flatMap fun s => [Value.int .i64 (s.num : Int), s.v]
theorem sg2_get : ∀ (L : List RSg) (i : Nat) (h : i < L.length), (sg2 L)[i * 2]? = some (.int .i64 (L[i].num : Int)) ∧ (sg2 L)[i * 2 + 1]? = some L[i].v
  | x :: r, 0, h => by simp [sg2]
  | x :: r, i + 1, h => by
    have ih := sg2_get r i (by simpa using h)
    have e : sg2 (x :: r) = .int .i64 (x.num : Int) :: x.v :: sg2 r := by simp [sg2]
    rw [e, show (i + 1) * 2 = i * 2 + 2 by omega, show i * 2 + 2 + 1 = i * 2 + 1 + 2 by omega]
    simpa using ih
/-- The segments of the document's index. -/
structure RSegs (w : World) (base : Nat) (v : Value) (L : List RSg) : Prop where
  row : w.ownsRow base 287 2 v L.length (sg2 L)
  each : ∀ s ∈ L, DocsM w base s.v s.T s.vs s.fl ∧ Fine s.T ∧ s.num ≤ 1000000000
theorem RSegs.kp0 {w w' : World} {base : Nat} {v : Value} {L : List RSg} (h : RSegs w base v L) (k : Kp [] w w') : RSegs w' base v L :=
  ⟨k.owns h.row (by simp), fun s hs => ⟨(h.each s hs).1.kp0 k, (h.each s hs).2⟩⟩
theorem RSegs.cells {w : World} {base g cap n : Nat} {L : List RSg} (h : RSegs w base (.slice (some ⟨g, 0, none⟩) n cap) L) (i : Nat) (hi : i < L.length) :
    w.cell? ⟨g, i * 2, none⟩ = some (.int .i64 (L[i].num : Int)) ∧ w.cell? ⟨g, i * 2 + 1, none⟩ = some L[i].v := by
  have hg := sg2_get L i hi
  have ea : ∀ j, (⟨g, 0, none⟩ : Addr).add j = ⟨g, j, none⟩ := by intro j; unfold Addr.add; split <;> simp_all
  have c0 := h.row.cells (g := g) rfl _ _ hg.1
  have c1 := h.row.cells (g := g) rfl _ _ hg.2
  rw [ea] at c0 c1
  exact ⟨c0, c1⟩
def deadN (fl : List Bool) : Nat := (fl.filter id).length
theorem deadN_take (fl : List Bool) (k : Nat) (h : k < fl.length) : deadN (fl.take (k + 1)) = deadN (fl.take k) + (if fl[k] then 1 else 0) := by
  unfold deadN
  rw [List.take_succ_eq_append_getElem h, List.filter_append, List.length_append]
  cases fl[k] <;> simp
theorem deadN_le (fl : List Bool) : deadN fl ≤ fl.length := List.length_filter_le _ _
/-- What is told of a segment. -/
def sgA (s : RSg) : List Value := [.int .i64 (s.num : Int), .int .i64 (s.T.length : Int), .int .i64 (deadN s.fl : Int), .int .i64 ((termsOf s.T).length : Int), .int .i64 ((St.refSets (termsOf s.T)).length : Int), .int .i64 ((fileT s.T).length : Int)]
def sgV (L : List RSg) : List Value := L.flatMap sgA
theorem sgV_take (L : List RSg) (i : Nat) (h : i < L.length) : sgV (L.take (i + 1)) = sgV (L.take i) ++ sgA L[i] := by
  unfold sgV
  rw [List.take_succ_eq_append_getElem h, List.flatMap_append]
  simp
theorem info277 : (Tryz.prog.info? 295).map (fun i => (i.zero, i.size, i.bytes)) = some (some (.agg #[.int .i64 0, .int .i64 0, .int .i64 0, .int .i64 0, .int .i64 0, .int .i64 0]), 6, 48) := by kernel_rfl
end Go.Proofs.YtpdoacfiiledcaaGreatDoor.Pak

set_option linter.unusedVariables false
set_option maxRecDepth 8000
namespace Go.Proofs.YtpdoacfiiledcaaGreatDoor.Pak
open Go.RowKit Go.Proofs.YtpdoacfiiledcaaGreatDoor Go.Proofs.YtpdoacfiiledcaaGreatDoor.Spl SiftM

/-- A doc and the list of its words. -/
abbrev Pr := Tx × Value
def tx3P (P : List Pr) : List Value := P.flatMap fun p => [Value.int .i64 (p.1.1 : Int), p.2, .bool false]
theorem tx3P_append (P R : List Pr) : tx3P (P ++ R) = tx3P P ++ tx3P R := by simp [tx3P]
theorem tx3P_tx3 (P : List Pr) : tx3P P = tx3 (((P.map Prod.fst).map Prod.fst).zip (P.map Prod.snd)) := by
  induction P with
  | nil => rfl
  | cons x r ih =>
    simp only [tx3P, tx3] at ih ⊢
    simp only [List.flatMap_cons, List.map_cons, List.zip_cons_cons]
    rw [ih]
theorem tx3P_one {P : List Pr} {v : Value} (h : v ∈ tx3P P) (hw : ∀ p ∈ P, p.2.oneCell' = true) : v.oneCell' = true := by
  unfold tx3P at h
  obtain ⟨p, hp, hv⟩ := List.mem_flatMap.1 h
  simp at hv
  rcases hv with rfl | rfl | rfl
  · rfl
  · exact hw p hp
  · rfl
theorem docs_pairs {T : List Tx} {vs : List Value} (h : vs.length = T.length) : tx3 ((T.map Prod.fst).zip vs) = tx3P (T.zip vs) := by
  rw [tx3P_tx3]
  have h1 : (T.zip vs).map Prod.fst = T := List.map_fst_zip (by omega)
  have h2 : (T.zip vs).map Prod.snd = vs := List.map_snd_zip (by omega)
  rw [h1, h2]
/-- The docs of a segment that are not dead, of the first k. -/
def zsOf (s : RSg) : List (Pr × Bool) := (s.T.zip s.vs).zip s.fl
def liveZ (zs : List (Pr × Bool)) : List Pr := (zs.filter fun z => !z.2).map Prod.fst
def liveL (L : List RSg) : List Pr := L.flatMap fun s => liveZ (zsOf s)
theorem liveZ_take (zs : List (Pr × Bool)) (k : Nat) (h : k < zs.length) : liveZ (zs.take (k + 1)) = liveZ (zs.take k) ++ (if zs[k].2 then [] else [zs[k].1]) := by
  unfold liveZ
  rw [List.take_succ_eq_append_getElem h, List.filter_append, List.map_append]
  cases hz : zs[k].2 <;> simp [hz]
theorem liveL_take (L : List RSg) (i : Nat) (h : i < L.length) : liveL (L.take (i + 1)) = liveL (L.take i) ++ liveZ (zsOf L[i]) := by
  unfold liveL
  rw [List.take_succ_eq_append_getElem h, List.flatMap_append]
  simp
theorem zs_len {w : World} {B : Nat} {s : RSg} (h : DocsM w B s.v s.T s.vs s.fl) : (zsOf s).length = s.T.length := by
  have h1 := h.len
  have h2 := h.flen
  simp [zsOf]; omega
theorem live_mem {w : World} {B : Nat} {s : RSg} (h : DocsM w B s.v s.T s.vs s.fl) {p : Pr} (hp : p ∈ s.T.zip s.vs) : w.ownsRow B 9 1 p.2 p.1.2.length (strV p.1.2) := by
  obtain ⟨i, hi, rfl⟩ := List.mem_iff_getElem.1 hp
  have hi' : i < s.T.length ∧ i < s.vs.length := by simpa [Nat.lt_min] using hi
  have := h.each i hi'.1 hi'.2
  simpa using this
theorem liveZ_mem {s : RSg} {k : Nat} {p : Pr} (hp : p ∈ liveZ ((zsOf s).take k)) : p ∈ s.T.zip s.vs := by
  unfold liveZ at hp
  obtain ⟨z, hz, rfl⟩ := List.mem_map.1 hp
  have h1 := List.mem_of_mem_take (List.mem_filter.1 hz).1
  exact (List.of_mem_zip h1).1
theorem liveL_mem {L : List RSg} {p : Pr} (hp : p ∈ liveL L) : ∃ s ∈ L, p ∈ s.T.zip s.vs := by
  unfold liveL at hp
  obtain ⟨s, hs, hp⟩ := List.mem_flatMap.1 hp
  refine ⟨s, hs, ?_⟩
  have h1 : liveZ (zsOf s) = liveZ ((zsOf s).take (zsOf s).length) := by rw [List.take_length]
  rw [h1] at hp
  exact liveZ_mem hp
theorem liveL_le (L : List RSg) (i : Nat) : (liveL (L.take i)).length ≤ (liveL L).length := by
  have h : liveL L = liveL (L.take i) ++ liveL (L.drop i) := by
    unfold liveL
    rw [← List.flatMap_append, List.take_append_drop]
  rw [h, List.length_append]
  omega
theorem liveZ_le (zs : List (Pr × Bool)) (k : Nat) : (liveZ (zs.take k)).length ≤ (liveZ zs).length := by
  have h : liveZ zs = liveZ (zs.take k) ++ liveZ (zs.drop k) := by
    unfold liveZ
    rw [← List.map_append, ← List.filter_append, List.take_append_drop]
  rw [h, List.length_append]
  omega
theorem pairs_docs {w : World} {B b : Nat} {v : Value} {P : List Pr} (hrow : w.ownsRow b 266 3 v P.length (tx3P P)) (hb : B ≤ b) (heach : ∀ p ∈ P, w.ownsRow B 9 1 p.2 p.1.2.length (strV p.1.2)) : DocsIs w B v (P.map Prod.fst) (P.map Prod.snd) := by
  refine ⟨by simp, ?_, fun i h1 h2 => ?_⟩
  · rw [← tx3P_tx3, List.length_map]
    exact owns_low hrow hb
  · have := heach (P[i]'(by simpa using h1)) (List.getElem_mem _)
    simpa using this

set_option maxHeartbeats 4000000 in
theorem rtexts_any (X B : Nat) (lv sv : Value) (T : List Tx) (vs : List Value) (L : List RSg) (n N : Nat) (T' : List Tx) (w : World) (hl : w.cell? ⟨X, 2, none⟩ = some lv) (hs : w.cell? ⟨X, 3, none⟩ = some sv) (hB : B ≤ w.heap.size)
    (hT : DocsIs w B lv T vs) (hTN : T.length = N) (hL : RSegs w B sv L) (hn : L.length = n) (hb : n ≤ 1000000) (h60 : (T.zip vs ++ liveL L).length ≤ 60) (hp : T'.Perm ((T.zip vs ++ liveL L).map Prod.fst)) (hso : SortT T') :
    Calls Tryz.prog 195 #[.pointer (some ⟨X, 0, none⟩)] w fun e w' => ∃ v' vs', e = .returned v' ∧ DocsIs w' B v' T' vs' ∧ Kp [] w w' := by
  obtain ⟨i0, hi0, hz0, hz1, hz2⟩ := info_parts info148
  obtain ⟨ag, cs, rfl, hag⟩ := owns_forms hL.row
  obtain ⟨al, cl, rfl, hal⟩ := owns_forms hT.row
  have hrow := hT.row
  rw [docs_pairs hT.len] at hrow
  rw [hn] at hs hag
  rw [hTN] at hl hrow hal
  have HL := hide hL
  have HN := hide hn
  have HT := hide hT
  have HTN := hide hTN
  have HR := hide hrow
  have H60 := hide h60
  have HP := hide hp
  have HSO := hide hso
  have hd0 : ∀ adr, al = some adr → ∀ j u, (tx3P (T.zip vs))[j]? = some u → w.cell? (adr.add j) = some u := by
    intro adr ha j u hu
    subst ha
    obtain ⟨g, hg⟩ := hal (by
      apply Nat.pos_of_ne_zero
      intro h0
      rw [h0] at hrow
      have := hrow.1
      simp at this
      rw [this] at hu
      simp at hu)
    cases hg
    exact HR.out.cells (g := g) rfl j u hu
  have hd1 : al = none → N = 0 ∧ cl = 0 := by
    intro e
    rw [e] at hrow
    rcases hrow.2 with ⟨h1, h2⟩ | ⟨g, cap, cur, h1, _⟩
    · cases h1; exact ⟨h2, rfl⟩
    · cases h1
  have hd2 : (tx3P (T.zip vs)).length = N * 3 := HR.out.1
  have hd3 : ∀ u ∈ tx3P (T.zip vs), u.oneCell' = true := fun u hu => tx3P_one hu (fun p hp => by
    have h1 := (List.of_mem_zip hp).2
    obtain ⟨i, hi, hip⟩ := List.mem_iff_getElem.1 h1
    have h2 := HT.out.each i (by rw [← HT.out.len]; exact hi) hi
    rw [hip] at h2
    obtain ⟨a9, c9, e9, _⟩ := owns_forms h2
    rw [e9]; rfl)
  have HD0 := hide hd0
  have HD1 := hide hd1
  have HD2 := hide hd2
  have HD3 := hide hd3
  have hN60 : N ≤ 60 := by
    have h1 := H60.out
    have h2 := HT.out.len
    simp at h1
    omega
  clear hL hn hT hTN hrow h60 hp hso hd0 hd1 hd2 hd3
  go_enter Tryz.func195, Tryz.ntmps195
  go_wp2_with (first
    | (at_builtin; refine wpList_append_opt _ rfl _ _ 180 rfl w.heap.size 266 i0 (.agg #[.int .i64 0, .slice none 0 0, .bool false]) 3 40 Tryz.underlying180 hi0 hz0 hz1 hz2 rfl (by decide) _ 0 [] rfl (World.ownsRow_nil _ _ _ _) al N cl (tx3P (T.zip vs)) rfl HD1.out HD2.out HD0.out HD3.out ?d5 ?d6 ?d7 ?_)
    | fail)
  case d5 => unfold maxLen; omega
  case d6 => omega
  case d7 => exact Nat.le_refl _
  intro v1 w1 ho1 hgrow _
  obtain ⟨a1, c1, rfl, _⟩ := owns_forms ho1
  have k1 : Kp [] w w1 := (Kp.refl [] w).grown hgrow (by simp [Value.ownBlock])
  have hacc0 : (T.zip vs).length = N := by have h1 := HT.out.len; have h2 := HTN.out; simp; omega
  have HO1 := hide (show w1.ownsRow w.heap.size 266 3 (.slice a1 N c1) N (tx3P (T.zip vs)) by simpa using ho1)
  have HA0 := hide hacc0
  clear ho1 hgrow hacc0
  try simp only [Nat.zero_add]
  go_wp2_with fail
  go_loopw [3, 4] (fun ov iv wr => ∃ (i : Nat) (a : Option Addr) (c m : Nat), i ≤ n ∧ iv = .int .i64 i ∧ ov = .slice a m c ∧ (T.zip vs ++ liveL (L.take i)).length = m ∧ wr.ownsRow w.heap.size 266 3 (.slice a m c) m (tx3P (T.zip vs ++ liveL (L.take i))) ∧ Kp [] w wr) (fun _ iv _ => n - (intOf iv).toNat)
  case atStart => exact ⟨0, a1, c1, N, by omega, rfl, rfl, by simpa [liveL] using HA0.out, by simpa [liveL] using HO1.out, k1⟩
  case round =>
    clear HO1 k1
    obtain ⟨i, a, c, m, hi, rfl, rfl, hm, ho, hkp⟩ := hrel
    have hs1 := hkp.cellv hs (by simp)
    have HO := hide ho
    have HM := hide hm
    clear ho hm
    by_cases hlt : i < n
    · obtain ⟨g, rfl⟩ := hag (by omega)
      have hiL : i < L.length := by rw [HN.out]; exact hlt
      have hLr := HL.out
      rw [HN.out] at hLr
      obtain ⟨q0, q1⟩ := hLr.cells i hiL
      obtain ⟨hdm, hfin, hnum⟩ := hLr.each _ (List.getElem_mem hiL)
      obtain ⟨s, hsg⟩ : ∃ s, L[i] = s := ⟨_, rfl⟩
      have HTK := hide (liveL_take L i hiL)
      rw [hsg] at q0 q1 hdm hfin hnum HTK
      obtain ⟨av, cv, ev, hav⟩ := owns_forms hdm.row
      have hzl := zs_len hdm
      obtain ⟨M, hTM⟩ : ∃ M, s.T.length = M := ⟨_, rfl⟩
      rw [hTM] at hzl ev hav
      rw [ev] at q1
      have HDM := hide hdm
      have hM60 : M ≤ 60 := by rw [← hTM]; exact hfin.len
      have hacc : (T.zip vs ++ liveL (L.take i)).length + (liveZ (zsOf s)).length ≤ 60 := by
        have h1 := liveL_le L (i + 1)
        have h2 := H60.out
        rw [HTK.out, List.length_append] at h1
        rw [List.length_append] at h2 ⊢
        omega
      rw [HM.out] at hacc
      obtain ⟨acc, hac⟩ : ∃ acc, T.zip vs ++ liveL (L.take i) = acc := ⟨_, rfl⟩
      have HAC := hide hac
      rw [hac] at HO HM
      have HAL := hide HM.out
      have HTM := hide hTM
      have HZL := hide hzl
      have EV := hide ev
      have j1 : (0 : Int) ≤ (i : Int) := by omega
      have j2 : (i : Int) < (n : Int) := by omega
      clear hLr hdm hfin hac hTM hzl ev hnum
      go_wp2_with fail
      go_loopw [3, 5] (fun ov kv w2 => ∃ (k : Nat) (a : Option Addr) (c m : Nat), k ≤ M ∧ kv = .int .i64 (k : Int) ∧ ov = .slice a m c ∧ (acc ++ liveZ ((zsOf s).take k)).length = m ∧ w2.ownsRow w.heap.size 266 3 (.slice a m c) m (tx3P (acc ++ liveZ ((zsOf s).take k))) ∧ Kp [] w w2) (fun _ kv _ => M - (intOf kv).toNat)
      case atStart => exact ⟨0, a, c, m, by omega, rfl, rfl, by simpa [liveZ] using HM.out, by simpa [liveZ] using HO.out, hkp⟩
      case round =>
        clear HO HM hkp hs1
        obtain ⟨k, a2, c2, m2, hk, rfl, rfl, hm2, ho2, hkp2⟩ := hrel
        have hs2 := hkp2.cellv hs (by simp)
        have q2 := hkp2.cellv q1 (by simp)
        have HO2 := hide ho2
        have HM2 := hide hm2
        have hm60 : m2 ≤ 60 := by
          rw [← hm2, List.length_append]
          have h1 := liveZ_le (zsOf s) k
          have h2 : acc.length ≤ m := by rw [← HAL.out]; exact Nat.le_refl _
          omega
        clear ho2 hm2
        by_cases hkM : k < M
        · obtain ⟨gd, rfl⟩ := hav (by omega)
          have hd2 := HDM.out.kp0 hkp2
          have hkT : k < s.T.length := by rw [HTM.out]; exact hkM
          have hkv : k < s.vs.length := by rw [hd2.len]; exact hkT
          have hkf : k < s.fl.length := by rw [hd2.flen]; exact hkT
          rw [EV.out] at hd2
          obtain ⟨r0, r1, r2⟩ := hd2.cells k hkT hkv hkf
          have hzk : k < (zsOf s).length := by rw [HZL.out]; exact hkM
          have hst := liveZ_take (zsOf s) k hzk
          have hze : (zsOf s)[k] = ((s.T[k], s.vs[k]), s.fl[k]) := by simp [zsOf]
          rw [hze] at hst
          have hea := hd2.each k hkT hkv
          obtain ⟨aw, cw, ew, _⟩ := owns_forms hea
          rw [ew] at r1 hst
          obtain ⟨bb, hbb⟩ : ∃ bb, s.fl[k] = bb := ⟨_, rfl⟩
          rw [hbb] at r2 hst
          obtain ⟨tx, htx⟩ : ∃ tx, s.T[k] = tx := ⟨_, rfl⟩
          rw [htx] at r0 r1 hst
          obtain ⟨id, ws⟩ := tx
          simp only at r0 r1
          have HST := hide hst
          clear hst hze hea ew hbb htx hd2
          have l1 : (0 : Int) ≤ (k : Int) := by omega
          have l2 : (k : Int) < (M : Int) := by omega
          have hzz := hkp2.size
          cases bb
          · go_wp2_with (first
              | (at_builtin; refine wpList_append_own_at _ rfl _ _ 180 rfl w.heap.size 266 i0 (.agg #[.int .i64 0, .slice none 0 0, .bool false]) 3 40 Tryz.underlying180 hi0 hz0 hz1 hz2 rfl (by decide) _ _ _ rfl (HO2.out.alloc _) ⟨wr.heap.size, 0, none⟩ 1 1 [.int .i64 (id : Int), .slice aw ws.length cw, .bool false] rfl rfl (World.news_of_block (cs := #[.int .i64 (id : Int), .slice aw ws.length cw, .bool false]) (t := 266) (fr := (0, 0)) (heap_alloc_new _ _)) ?g2 ?g3 ?g4 ?g5 ?_)
              | fail)
            case g2 => exact ⟨rfl, rfl, rfl⟩
            case g3 => unfold maxLen; omega
            case g4 => omega
            case g5 => omega
            intro v5 w5 ho5 hgrow _ _
            obtain ⟨a5, c5, rfl, _⟩ := owns_forms ho5
            have k5 : Kp (Value.slice a2 m2 c2).ownBlock.toList wr w5 := ((Kp.refl _ _).alloc _).grown hgrow (fun j hj => .inl (by simp [hj]))
            have kf : Kp [] w w5 := hkp2.trans k5 (fun y hy => .inr (HO2.out.lt y (by simpa using hy)).1)
            have HR5 := hide (show w5.ownsRow w.heap.size 266 3 (.slice a5 (m2 + 1) c5) (m2 + 1) (tx3P (acc ++ liveZ ((zsOf s).take (k + 1)))) by
              rw [HST.out, ← List.append_assoc, tx3P_append]
              exact ho5)
            have HM5 := hide (show (acc ++ liveZ ((zsOf s).take (k + 1))).length = m2 + 1 by
              rw [HST.out, ← List.append_assoc, List.length_append, HM2.out]; rfl)
            clear ho5 hgrow k5 HO2 HST
            go_wp2_with fail
            go_roundw
            case rel => exact ⟨k + 1, a5, c5, m2 + 1, by omega, by go_num, rfl, HM5.out, HR5.out, kf⟩
            case measure => simp [intOf]; omega
          · go_wp2_with fail
            go_roundw
            case rel => exact ⟨k + 1, a2, c2, m2, by omega, by go_num, rfl, by rw [HST.out]; simpa using HM2.out, by rw [HST.out]; simpa using HO2.out, hkp2⟩
            case measure => simp [intOf]; omega
        · have hkM' : k = M := by omega
          subst hkM'
          have hfull : (zsOf s).take k = zsOf s := List.take_of_length_le (by rw [HZL.out]; exact Nat.le_refl _)
          have HR6 := hide (show wr.ownsRow w.heap.size 266 3 (.slice a2 m2 c2) m2 (tx3P (T.zip vs ++ liveL (L.take (i + 1)))) by
            rw [HTK.out, ← List.append_assoc, HAC.out]
            have h1 := HO2.out
            rw [hfull] at h1
            exact h1)
          have HM6 := hide (show (T.zip vs ++ liveL (L.take (i + 1))).length = m2 by
            rw [HTK.out, ← List.append_assoc, HAC.out]
            have h1 := HM2.out
            rw [hfull] at h1
            exact h1)
          have l0 : decide ((k : Int) < (k : Int)) = false := by simp
          clear HO2 HM2 hav
          go_wp2_with fail
          go_roundw
          case rel => exact ⟨i + 1, a2, c2, m2, by omega, by go_num, rfl, HM6.out, HR6.out, hkp2⟩
          case measure => simp [intOf]; omega
    · have hin : i = n := by omega
      subst hin
      have hfull : L.take i = L := List.take_of_length_le (by rw [HN.out]; exact Nat.le_refl _)
      have ho9 := HO.out
      have hm9 := HM.out
      rw [hfull] at ho9 hm9
      have hds : DocsIs wr B (.slice a m c) ((T.zip vs ++ liveL L).map Prod.fst) ((T.zip vs ++ liveL L).map Prod.snd) := by
        refine pairs_docs (b := w.heap.size) (by rw [hm9]; exact ho9) hB fun p hp => ?_
        rcases List.mem_append.1 hp with hp | hp
        · obtain ⟨j, hj, rfl⟩ := List.mem_iff_getElem.1 hp
          have hj' : j < T.length ∧ j < vs.length := by simpa [Nat.lt_min] using hj
          have := hkp.owns (HT.out.each j hj'.1 hj'.2) (by simp)
          simpa using this
        · obtain ⟨s, hs', hp⟩ := liveL_mem hp
          exact hkp.owns (live_mem (HL.out.each s hs').1 hp) (by simp)
      have hsz := hkp.size
      have hcall := rsorted_any B m (.slice a m c) _ T' _ wr hds (by simpa using hm9) (by rw [← hm9]; exact H60.out) (by omega) HP.out HSO.out
      have l0 : decide ((i : Int) < (i : Int)) = false := by simp
      clear ho9 hm9 hds
      go_wp2_with fail
      refine hcall.mono ?_
      rintro e w9 ⟨v9, vs9, rfl, hd9, k9⟩
      have HD9 := hide hd9
      clear hd9 hcall
      go_wp2_with fail
      go_ret
      exact ⟨v9, vs9, rfl, HD9.out, hkp.next k9⟩
end Go.Proofs.YtpdoacfiiledcaaGreatDoor.Pak

set_option linter.unusedVariables false
set_option maxRecDepth 8000
namespace Go.Proofs.YtpdoacfiiledcaaGreatDoor.Pak
open Go.RowKit Go.Proofs.YtpdoacfiiledcaaGreatDoor Go.Proofs.YtpdoacfiiledcaaGreatDoor.Spl SiftM

theorem sorted_exists (P : List Tx) (h : (P.map Prod.fst).Nodup) : ∃ T', T'.Perm P ∧ SortT T' := by
  refine ⟨P.mergeSort fun a b => decide (a.1 ≤ b.1), List.mergeSort_perm _ _, ?_⟩
  have h1 : (P.mergeSort fun a b => decide (a.1 ≤ b.1)).Pairwise fun a b => decide (a.1 ≤ b.1) = true :=
    List.pairwise_mergeSort (fun a b c h1 h2 => by simp at h1 h2 ⊢; omega) (fun a b => by simp; omega) _
  have h2 : ((P.mergeSort fun a b => decide (a.1 ≤ b.1)).map Prod.fst).Nodup := ((List.mergeSort_perm P _).map Prod.fst).nodup_iff.2 h
  have h3 : (P.mergeSort fun a b => decide (a.1 ≤ b.1)).Pairwise fun a b => a.1 ≠ b.1 := by
    have := List.pairwise_map.1 h2
    exact this
  unfold SortT
  refine (h1.and h3).imp ?_
  rintro a b ⟨h4, h5⟩
  simp at h4
  omega

set_option maxHeartbeats 2000000 in
theorem rhas_any (X B : Nat) (lv sv : Value) (T : List Tx) (vs : List Value) (L : List RSg) (n N id : Nat) (w : World) (hl : w.cell? ⟨X, 2, none⟩ = some lv) (hs : w.cell? ⟨X, 3, none⟩ = some sv) (hB : B ≤ w.heap.size)
    (hT : DocsIs w B lv T vs) (hTN : T.length = N) (hL : RSegs w B sv L) (hn : L.length = n) (hb : n ≤ 1000000) (h60 : (T.zip vs ++ liveL L).length ≤ 60) (hnd : (((T.zip vs ++ liveL L).map Prod.fst).map Prod.fst).Nodup) (hid : id ≤ 1000000000) :
    Calls Tryz.prog 208 #[.pointer (some ⟨X, 0, none⟩), .int .i64 (id : Int)] w fun e w' => e = .returned (.bool (decide (id ∈ ((T.zip vs ++ liveL L).map Prod.fst).map Prod.fst))) ∧ Kp [] w w' := by
  obtain ⟨T', hp, hso⟩ := sorted_exists _ hnd
  have hcall := rtexts_any X B lv sv T vs L n N T' w hl hs hB hT hTN hL hn hb h60 hp hso
  have hmem : (id ∈ ((T.zip vs ++ liveL L).map Prod.fst).map Prod.fst) ↔ id ∈ T'.map Prod.fst := (hp.map Prod.fst).mem_iff.symm
  have hl60 : T'.length ≤ 60 := by rw [hp.length_eq, List.length_map]; exact h60
  rw [show decide (id ∈ ((T.zip vs ++ liveL L).map Prod.fst).map Prod.fst) = decide (id ∈ T'.map Prod.fst) from decide_eq_decide.2 hmem]
  clear hmem hp hso hl hs hT hTN hL hn h60 hnd
  go_enter Tryz.func208, Tryz.ntmps208
  go_wp2_with fail
  refine hcall.mono ?_
  rintro e w1 ⟨v1, vs1, rfl, hd1, k1⟩
  obtain ⟨a1, c1, rfl, ha1⟩ := owns_forms hd1.row
  obtain ⟨m, hm⟩ : ∃ m, T'.length = m := ⟨_, rfl⟩
  rw [hm] at hd1 ha1 hl60
  have HD := hide hd1
  have HM := hide hm
  rw [hm]
  clear hcall hd1 hm
  go_wp2_with fail
  go_loopw [6] (fun iv wr => ∃ i : Nat, i ≤ m ∧ iv = .int .i64 (i : Int) ∧ wr = w1 ∧ id ∉ (T'.take i).map Prod.fst) (fun iv _ => m - (intOf iv).toNat)
  case atStart => exact ⟨0, by omega, rfl, rfl, by simp⟩
  case round =>
    obtain ⟨i, hi, rfl, hw, hno⟩ := hrel
    rw [hw]
    clear hw
    have HNO := hide hno
    clear hno
    by_cases hlt : i < m
    · obtain ⟨g, rfl⟩ := ha1 (by omega)
      have hiT : i < T'.length := by rw [HM.out]; exact hlt
      have hiv : i < vs1.length := by rw [HD.out.len]; exact hiT
      obtain ⟨q0, _, _⟩ := HD.out.cells i hiT hiv
      have j1 : (0 : Int) ≤ (i : Int) := by omega
      have j2 : (i : Int) < (m : Int) := by omega
      by_cases hx : T'[i].1 = id
      · rw [hx] at q0
        have hin : id ∈ T'.map Prod.fst := List.mem_map.2 ⟨T'[i], List.getElem_mem hiT, hx⟩
        go_wp2_with fail
        go_ret
        exact ⟨by simp [hin], k1⟩
      · have hne : ((T'[i].1 : Int) == (id : Int)) = false := by rw [beq_eq_false_iff_ne]; omega
        have hno' : Hid (id ∉ (T'.take (i + 1)).map Prod.fst) := by
          show ¬ _
          rw [List.take_succ_eq_append_getElem hiT, List.map_append, List.mem_append]
          rintro (h | h)
          · exact HNO.out h
          · simp at h; exact hx h.symm
        go_wp2_with fail
        go_roundw
        case rel => exact ⟨i + 1, by omega, by go_num, by first | rfl | trivial, hno'.out⟩
        case measure => simp [intOf]; omega
    · have him : i = m := by omega
      subst him
      have l0 : decide ((i : Int) < (i : Int)) = false := by simp
      have hno := HNO.out
      rw [List.take_of_length_le (by rw [HM.out]; exact Nat.le_refl _)] at hno
      go_wp2_with fail
      go_ret
      exact ⟨by simp [hno], k1⟩
end Go.Proofs.YtpdoacfiiledcaaGreatDoor.Pak

set_option linter.unusedVariables false
set_option maxRecDepth 8000
namespace Go.Proofs.YtpdoacfiiledcaaGreatDoor.Pak
open Go.RowKit Go.Proofs.YtpdoacfiiledcaaGreatDoor Go.Proofs.YtpdoacfiiledcaaGreatDoor.Spl SiftM

/-- What the document's index holds: its bounds, the texts that are loose, the segments, the readers' cells. -/
structure RSt where
  buf : Nat
  fac : Nat
  next : Nat
  lv : Value
  sv : Value
  T : List Tx
  vs : List Value
  L : List RSg
  R : List Value
def ixE : List Value := [.bool false, .slice none 0 0, .slice none 0 0, .slice none 0 0, .int .i64 (-1), .bool false, .int .i64 0, .slice none 0 0, .int .i64 0]
def ixA (s : RSt) : List Value := [.int .i64 (s.buf : Int), .int .i64 (s.fac : Int), s.lv, s.sv, .int .i64 (s.next : Int)]
def ixC (s : RSt) : Array Value := (ixA s ++ (s.R ++ ixE)).toArray
def RSt.pairs (s : RSt) : List Pr := s.T.zip s.vs ++ liveL s.L
/-- The readers' cells: of each whether it is open, and its view. -/
def RdOk (R : List Value) : Prop := R.length = 8 ∧ ∀ i, i < 4 → ∃ b, R[2 * i]? = some (.bool b)
/-- The document's index lies at X, all its blocks are among O. -/
structure RIs (w : World) (X B : Nat) (O : List Nat) (s : RSt) : Prop where
  blk : w.heap[X]? = some (.cells (ixC s) 187 (0, 0))
  rd : RdOk s.R
  low : B ≤ w.heap.size
  loose : DocsIs w B s.lv s.T s.vs
  word : ∀ t ∈ s.T, t.1 ≤ 99999 ∧ t.2.length ≤ 60 ∧ (lenF t.2 ≤ 120 ∧ sumL t.2 ≤ 121) ∧ ∀ x ∈ t.2, isWord x = true
  segs : RSegs w B s.sv s.L
  cnt : s.L.length ≤ s.next
  all60 : s.pairs.length ≤ 60
  nodup : ((s.pairs.map Prod.fst).map Prod.fst).Nodup
  inX : X ∈ O
  inL : ∀ g, s.lv.ownBlock = some g → g ∈ O
  inS : ∀ g, s.sv.ownBlock = some g → g ∈ O
  inD : ∀ t ∈ s.L, ∀ g, t.v.ownBlock = some g → g ∈ O
  inW : ∀ u ∈ s.vs, ∀ g, u.ownBlock = some g → g ∈ O
  inV : ∀ t ∈ s.L, ∀ u ∈ t.vs, ∀ g, u.ownBlock = some g → g ∈ O
  apart : ∀ t ∈ s.L, ∀ g, t.v.ownBlock = some g → s.lv.ownBlock ≠ some g
  apart2 : s.L.Pairwise fun t u => ∀ g, t.v.ownBlock = some g → u.v.ownBlock ≠ some g
theorem RIs.kp {S O : List Nat} {w w' : World} {X B : Nat} {s : RSt} (h : RIs w X B O s) (k : Kp S w w') (hS : ∀ x ∈ S, x ∉ O) : RIs w' X B O s := by
  have hn : ∀ x ∈ O, x ∉ S := fun x hx hs => hS x hs hx
  refine ⟨k.heap h.blk (hn X h.inX), h.rd, Nat.le_trans h.low k.size, ?_, h.word, ?_, h.cnt, h.all60, h.nodup, h.inX, h.inL, h.inS, h.inD, h.inW, h.inV, h.apart, h.apart2⟩
  · exact ⟨h.loose.len, k.owns h.loose.row (fun g hg => hn g (h.inL g hg)), fun i h1 h2 => k.owns (h.loose.each i h1 h2) (fun g hg => hn g (h.inW _ (List.getElem_mem h2) g hg))⟩
  · exact ⟨k.owns h.segs.row (fun g hg => hn g (h.inS g hg)), fun t ht => ⟨(h.segs.each t ht).1.kp k (fun x hx e => hn x (h.inD t ht x e) hx) (fun u hu x hx e => hn x (h.inV t ht u hu x e) hx), (h.segs.each t ht).2⟩⟩
theorem ix_cells {w : World} {X B : Nat} {O : List Nat} {s : RSt} (h : RIs w X B O s) : w.cell? ⟨X, 0, none⟩ = some (.int .i64 (s.buf : Int)) ∧ w.cell? ⟨X, 2, none⟩ = some s.lv ∧ w.cell? ⟨X, 3, none⟩ = some s.sv ∧ w.cell? ⟨X, 4, none⟩ = some (.int .i64 (s.next : Int)) ∧ w.cell? ⟨X, 18, none⟩ = some (.bool false) ∧
    w.frozen? ⟨X, 2, none⟩ = false ∧ w.frozen? ⟨X, 3, none⟩ = false ∧ w.frozen? ⟨X, 4, none⟩ = false := by
  have hb := h.blk
  have h18 : (ixC s)[18]? = some (.bool false) := by
    simp only [ixC, List.getElem?_toArray]
    rw [List.getElem?_append_right (by simp [ixA]), List.getElem?_append_right (by simp [h.rd.1, ixA])]
    simp [h.rd.1, ixA, ixE]
  refine ⟨?_, ?_, ?_, ?_, ?_, ?_, ?_, ?_⟩
  · simp [World.cell?, hb, ixC, ixA]
  · simp [World.cell?, hb, ixC, ixA]
  · simp [World.cell?, hb, ixC, ixA]
  · simp [World.cell?, hb, ixC, ixA]
  · simp [World.cell?, hb, h18]
  · simp [World.frozen?, hb]
  · simp [World.frozen?, hb]
  · simp [World.frozen?, hb]
theorem rs_sorted : ∀ (T : List Tx) (least : Nat), SortT T → (∀ t ∈ T, least ≤ t.1) → Rs least (T.map Prod.fst)
  | [], _, _, _ => trivial
  | t :: r, least, h, hl => by
    obtain ⟨h1, h2⟩ := List.pairwise_cons.1 h
    exact ⟨hl t (by simp), rs_sorted r (t.1 + 1) h2 fun u hu => h1 u hu⟩
/-- The texts that are sorted are such as a file can hold. -/
theorem RIs.sorted {w : World} {X B : Nat} {O : List Nat} {s : RSt} (h : RIs w X B O s) : ∃ T', T'.Perm s.T ∧ SortT T' ∧ Fine T' := by
  have hsub : (s.T.map Prod.fst).Nodup := by
    have h1 := h.nodup
    unfold RSt.pairs at h1
    rw [List.map_append, List.map_append, List.map_fst_zip (by rw [h.loose.len]; exact Nat.le_refl _)] at h1
    exact (List.pairwise_append.1 h1).1
  obtain ⟨T', hp, hs⟩ := sorted_exists s.T hsub
  have hl : s.T.length ≤ 60 := by
    have h1 := h.all60
    have h2 := h.loose.len
    unfold RSt.pairs at h1
    simp at h1
    omega
  have hm : ∀ t ∈ T', t ∈ s.T := fun t ht => hp.mem_iff.1 ht
  refine ⟨T', hp, hs, ⟨by rw [hp.length_eq]; exact hl, ?_, fun t ht => (h.word t (hm t ht)).1, fun t ht => (h.word t (hm t ht)).2.1, fun t ht => (h.word t (hm t ht)).2.2.1, fun t ht => (h.word t (hm t ht)).2.2.2⟩⟩
  exact rs_sorted T' 0 hs fun _ _ => Nat.zero_le _
end Go.Proofs.YtpdoacfiiledcaaGreatDoor.Pak

