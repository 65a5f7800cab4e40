import Derived.Test.YtpdoacfiiledcaaGreatDoorV11
import Derived.Test.YtpdoacfiiledcaaGreatDoorV02
namespace Go.Proofs.YtpdoacfiiledcaaGreatDoor.St
set_option linter.unusedVariables false

def Sm (c : UInt8) : Prop := 48 ≤ c.toNat ∧ c.toNat ≤ 57 ∨ 97 ≤ c.toNat ∧ c.toNat ≤ 122
def slot (c : UInt8) : Nat := if c.toNat ≤ 57 then c.toNat - 48 else c.toNat - 87
def sign (j : Nat) : UInt8 := if j < 10 then UInt8.ofNat (48 + j) else UInt8.ofNat (87 + j)
theorem slot_lt {c : UInt8} (h : Sm c) : slot c < 36 := by
  unfold slot; unfold Sm at h; split <;> omega
theorem u8_eq {a b : UInt8} (h : a.toNat = b.toNat) : a = b := UInt8.toNat_inj.1 h
theorem sign_slot {c : UInt8} (h : Sm c) : sign (slot c) = c := by
  have h0 := slot_lt h
  unfold Sm at h
  apply u8_eq
  unfold sign slot
  split <;> split <;> simp [UInt8.toNat_ofNat'] <;> omega
theorem slot_inj {a b : UInt8} (ha : Sm a) (hb : Sm b) (h : slot a = slot b) : a = b := by rw [← sign_slot ha, ← sign_slot hb, h]
theorem sign_ne {j : Nat} (h : j < 36) : sign j ≠ 124 := by
  intro e
  have : (sign j).toNat = 124 := by rw [e]; rfl
  unfold sign at this
  split at this <;> simp [UInt8.toNat_ofNat'] at this <;> omega

abbrev Bt := List UInt8
def sw (t : Bt) : Wd := t.map slot
def Small (t : Bt) : Prop := ∀ c ∈ t, Sm c
/-- What makes a term when p is put ahead, joined. -/
def endings (L : List Bt) (p : Bt) : Bt := (L.filter (fun t => p.isPrefixOf t)).flatMap (fun t => t.drop p.length ++ [124])
def phi (R : List Wd) : Bt := R.flatMap (fun w => w.map sign ++ [124])

theorem sw_pre {p t : Bt} (hp : Small p) (ht : Small t) : (sw p).isPrefixOf (sw t) = p.isPrefixOf t := by
  induction p generalizing t with
  | nil => simp [sw]
  | cons a p ih =>
    cases t with
    | nil => rfl
    | cons b t =>
      have ha := hp a (by simp)
      have hb := ht b (by simp)
      have := ih (t := t) (fun c hc => hp c (by simp [hc])) (fun c hc => ht c (by simp [hc]))
      simp only [sw, List.map_cons, List.isPrefixOf] at this ⊢
      have hab : (slot a == slot b) = (a == b) := by
        rw [Bool.eq_iff_iff, beq_iff_eq, beq_iff_eq]
        exact ⟨slot_inj ha hb, fun e => by rw [e]⟩
      rw [this, hab]
theorem back {t : Bt} (h : Small t) : (sw t).map sign = t := by
  induction t with
  | nil => rfl
  | cons a t ih =>
    simp only [sw, List.map_cons] at ih ⊢
    rw [sign_slot (h a (by simp)), ih fun c hc => h c (by simp [hc])]
theorem phi_res {L : List Bt} (hL : ∀ t ∈ L, Small t) {p : Bt} (hp : Small p) : phi (res (L.map sw) (sw p)) = endings L p := by
  induction L with
  | nil => rfl
  | cons t L ih =>
    have ht := hL t (by simp)
    have ih := ih fun t h => hL t (by simp [h])
    unfold res endings phi at ih ⊢
    rw [List.map_cons, List.filter_cons, List.filter_cons, sw_pre hp ht]
    by_cases h : p.isPrefixOf t = true
    · rw [if_pos h, if_pos h, List.map_cons, List.flatMap_cons, List.flatMap_cons, ih]
      congr 2
      have hl : (sw p).length = p.length := by simp [sw]
      rw [hl]
      have : (sw t).drop p.length = sw (t.drop p.length) := by simp [sw, List.map_drop]
      rw [this, back fun c hc => ht c (List.mem_of_mem_drop hc)]
    · rw [if_neg h, if_neg h]; exact ih

theorem split_at {x y a b : Bt} (hx : ∀ c ∈ x, c ≠ 124) (hy : ∀ c ∈ y, c ≠ 124) (h : x ++ 124 :: a = y ++ 124 :: b) : x = y ∧ a = b := by
  induction x generalizing y with
  | nil =>
    cases y with
    | nil => simp at h; exact ⟨rfl, h⟩
    | cons c y => simp at h; exact absurd h.1.symm (hy c (by simp))
  | cons c x ih =>
    cases y with
    | nil => simp at h; exact absurd h.1 (hx c (by simp))
    | cons d y =>
      simp at h
      obtain ⟨rfl, h⟩ := h
      obtain ⟨rfl, rfl⟩ := ih (fun c hc => hx c (by simp [hc])) (fun c hc => hy c (by simp [hc])) h
      exact ⟨rfl, rfl⟩
theorem sign_inj {a b : Nat} (ha : a < 36) (hb : b < 36) (h : sign a = sign b) : a = b := by
  have h1 : (sign a).toNat = (sign b).toNat := by rw [h]
  unfold sign at h1
  split at h1 <;> split at h1 <;> simp [UInt8.toNat_ofNat'] at h1 <;> omega
theorem map_sign_inj {x y : Wd} (hx : ∀ c ∈ x, c < 36) (hy : ∀ c ∈ y, c < 36) (h : x.map sign = y.map sign) : x = y := by
  induction x generalizing y with
  | nil => cases y with
    | nil => rfl
    | cons c y => simp at h
  | cons c x ih =>
    cases y with
    | nil => simp at h
    | cons d y =>
      simp at h
      rw [sign_inj (hx c (by simp)) (hy d (by simp)) h.1, ih (fun c hc => hx c (by simp [hc])) (fun c hc => hy c (by simp [hc])) h.2]
theorem phi_inj {R S : List Wd} (hR : ∀ w ∈ R, ∀ c ∈ w, c < 36) (hS : ∀ w ∈ S, ∀ c ∈ w, c < 36) (h : phi R = phi S) : R = S := by
  induction R generalizing S with
  | nil =>
    cases S with
    | nil => rfl
    | cons w S => simp [phi] at h
  | cons w R ih =>
    cases S with
    | nil => simp [phi] at h
    | cons v S =>
      simp only [phi, List.flatMap_cons, List.append_assoc, List.cons_append, List.nil_append] at h
      have hw : ∀ c ∈ w.map sign, c ≠ 124 := fun c hc => by
        obtain ⟨j, hj, rfl⟩ := List.mem_map.1 hc; exact sign_ne (hR w (by simp) j hj)
      have hv : ∀ c ∈ v.map sign, c ≠ 124 := fun c hc => by
        obtain ⟨j, hj, rfl⟩ := List.mem_map.1 hc; exact sign_ne (hS v (by simp) j hj)
      obtain ⟨h1, h2⟩ := split_at hw hv h
      rw [map_sign_inj (hR w (by simp)) (hS v (by simp)) h1, ih (fun w hw => hR w (by simp [hw])) (fun w hw => hS w (by simp [hw])) h2]

/-- One more, if it is not known. -/
def more {α : Type} [DecidableEq α] (l : List α) (e : α) : List α := if e ∈ l then l else l ++ [e]
theorem more_nodup {α : Type} [DecidableEq α] {l : List α} (h : l.Nodup) (e : α) : (more l e).Nodup := by
  unfold more
  split
  · exact h
  · rename_i hn
    show (l ++ [e]).Pairwise (· ≠ ·)
    rw [List.pairwise_append]
    exact ⟨h, by simp, fun a ha b hb => by simp at hb; subst hb; exact fun e' => hn (e' ▸ ha)⟩
theorem mem_more {α : Type} [DecidableEq α] {l : List α} {e x : α} : x ∈ more l e ↔ x ∈ l ∨ x = e := by
  unfold more
  split
  · rename_i h
    exact ⟨.inl, fun h' => h'.elim id fun e' => e' ▸ h⟩
  · simp
def mores {α : Type} [DecidableEq α] (l : List α) (es : List α) : List α := es.foldl more l
theorem mores_nodup {α : Type} [DecidableEq α] {es l : List α} (h : l.Nodup) : (mores l es).Nodup := by
  induction es generalizing l with
  | nil => exact h
  | cons e es ih => exact ih (more_nodup h e)
theorem mem_mores {α : Type} [DecidableEq α] {es l : List α} {x : α} : x ∈ mores l es ↔ x ∈ l ∨ x ∈ es := by
  induction es generalizing l with
  | nil => simp [mores]
  | cons e es ih =>
    have : x ∈ mores (more l e) es ↔ x ∈ more l e ∨ x ∈ es := ih
    rw [show mores l (e :: es) = mores (more l e) es from rfl, this, mem_more, List.mem_cons, or_assoc]

theorem sub_len {α : Type} : ∀ (a b : List α), a.Nodup → (∀ x ∈ a, x ∈ b) → a.length ≤ b.length
  | [], b, _, _ => Nat.zero_le _
  | x :: a, b, hn, h => by
    have hn' := List.pairwise_cons.1 (show (x :: a).Pairwise (· ≠ ·) from hn)
    obtain ⟨b1, b2, rfl⟩ := List.append_of_mem (h x (by simp))
    have := sub_len a (b1 ++ b2) hn'.2 fun y hy => by
      have h1 := h y (by simp [hy])
      have h2 := hn'.1 y hy
      simp only [List.mem_append, List.mem_cons] at h1 ⊢
      rcases h1 with h1 | h1 | h1
      · exact .inl h1
      · exact absurd h1.symm h2
      · exact .inr h1
    simp only [List.length_append, List.length_cons] at this ⊢
    omega

/-- The sets that the document counts. -/
def refSets (L : List Bt) : List Bt := mores [] (L.flatMap fun t => (List.range (t.length + 1)).map fun n => endings L (t.take n))
theorem res_codes {D : List Wd} {q : Wd} (h : ∀ d ∈ D, ∀ c ∈ d, c < 36) : ∀ w ∈ res D q, ∀ c ∈ w, c < 36 := by
  intro w hw c hc
  unfold res at hw
  obtain ⟨d, hd, rfl⟩ := List.mem_map.1 hw
  exact h d (List.mem_filter.1 hd).1 c (List.mem_of_mem_drop hc)
theorem map_nodup {α β : Type} (f : α → β) : ∀ (l : List α), l.Nodup → (∀ x ∈ l, ∀ y ∈ l, f x = f y → x = y) → (l.map f).Nodup
  | [], _, _ => List.Pairwise.nil
  | x :: l, hn, h => by
    have hn' := List.pairwise_cons.1 (show (x :: l).Pairwise (· ≠ ·) from hn)
    refine List.pairwise_cons.2 ⟨fun z hz e => ?_, map_nodup f l hn'.2 fun a ha b hb => h a (by simp [ha]) b (by simp [hb])⟩
    obtain ⟨y, hy, rfl⟩ := List.mem_map.1 hz
    exact hn'.1 y hy (h x (by simp) y (by simp [hy]) e)

/-- AS MANY STATES AS SETS OF ENDINGS. -/
theorem states_eq {L : List Bt} (hne : L ≠ []) (hs : Srt (L.map sw)) (hS : ∀ t ∈ L, Small t) {f : Nat} (hf : ∀ t ∈ L, t.length < f) : (beh f (L.map sw) []).2.length = (refSets L).length := by
  have hc : ∀ d ∈ L.map sw, ∀ c ∈ d, c < 36 := fun d hd c hc => by
    obtain ⟨t, ht, rfl⟩ := List.mem_map.1 hd
    obtain ⟨b, hb, rfl⟩ := List.mem_map.1 hc
    exact slot_lt (hS t ht b hb)
  obtain ⟨ls, hG, _, _, _, _, _, hm⟩ := beh_spec f (L.map sw) (by simpa using hne) hs (fun d hd => by
    obtain ⟨t, ht, rfl⟩ := List.mem_map.1 hd
    simpa [sw] using hf t ht) hc [] [] ⟨rfl, List.Pairwise.nil, fun i h => by simp at h, fun i h => by simp at h, fun i h => by simp at h, fun i h => by simp at h⟩
  have hcodes : ∀ R ∈ ls, ∀ w ∈ R, ∀ c ∈ w, c < 36 := fun R hR => by
    rcases (hm R).1 hR with h | ⟨p, d, _, _, rfl⟩
    · simp at h
    · exact res_codes hc
  have hn1 : (ls.map phi).Nodup := map_nodup phi ls hG.nodup fun a ha b hb => phi_inj (hcodes a ha) (hcodes b hb)
  have hn2 : (refSets L).Nodup := mores_nodup List.Pairwise.nil
  have hpre : ∀ (t : Bt) (n : Nat), Small t → Small (t.take n) := fun t n h c hc => h c (List.mem_of_mem_take hc)
  have hmem : ∀ e, e ∈ ls.map phi ↔ e ∈ refSets L := by
    intro e
    unfold refSets
    rw [mem_mores, List.mem_map, List.mem_flatMap]
    constructor
    · rintro ⟨R, hR, rfl⟩
      rcases (hm R).1 hR with h | ⟨p, d, hd, hp, rfl⟩
      · simp at h
      · obtain ⟨t, ht, rfl⟩ := List.mem_map.1 hd
        have hpe : p = sw (t.take p.length) := by
          have := List.prefix_iff_eq_take.1 hp
          rw [this]; simp [sw, List.map_take]
        have hpl : p.length ≤ t.length := by simpa [sw] using hp.length_le
        refine .inr ⟨t, ht, List.mem_map.2 ⟨p.length, List.mem_range.2 (by omega), ?_⟩⟩
        rw [← phi_res hS (hpre t _ (hS t ht)), ← hpe]
    · rintro (h | ⟨t, ht, h⟩)
      · simp at h
      · obtain ⟨n, hn, rfl⟩ := List.mem_map.1 h
        refine ⟨res (L.map sw) (sw (t.take n)), (hm _).2 (.inr ⟨sw (t.take n), sw t, List.mem_map.2 ⟨t, ht, rfl⟩, ?_, rfl⟩), phi_res hS (hpre t n (hS t ht))⟩
        simp only [sw, List.map_take]
        exact List.take_prefix _ _
  have h1 := sub_len _ _ hn1 fun x hx => (hmem x).1 hx
  have h2 := sub_len _ _ hn2 fun x hx => (hmem x).2 hx
  rw [List.length_map] at h1 h2
  rw [hG.len]
  omega
end Go.Proofs.YtpdoacfiiledcaaGreatDoor.St

namespace Go.Proofs.YtpdoacfiiledcaaGreatDoor.Pak
open Go.RowKit Go.Proofs.YtpdoacfiiledcaaGreatDoor Go.Proofs.YtpdoacfiiledcaaGreatDoor.Spl SiftM Go.Maps
set_option linter.unusedVariables false

theorem row429 : (475 : TypeId) < Tryz.prog.types.size := of_decide_eq_true (by kernel_rfl)
theorem deep429 : Tryz.prog.keyTypeAt 3 475 = true := by kernel_rfl
theorem wide429 : (match Tryz.prog.underlying 475 with | some (.array _ _) | some (.struct _) => true | _ => false) = true := by kernel_rfl
set_option maxRecDepth 100000 in
theorem exK : Keyed Tryz.prog 475 := Keyed.of_law (deep_law_laid laidOut (m := 3) (by omega) row429 deep429 wide429)
theorem keyT429 : Tryz.prog.keyType 475 = true := by kernel_rfl
theorem cells429 : Tryz.prog.cellsOf 475 = 37 := by kernel_rfl
theorem cells427 : Tryz.prog.cellsOf 473 = 36 := by kernel_rfl
theorem cells294 : Tryz.prog.cellsOf 320 = 1 := by kernel_rfl
theorem cells4 : Tryz.prog.cellsOf 4 = 1 := by kernel_rfl

def exC (e : St.Ex) : List Value := .bool e.ends :: e.to.map fun n : Nat => .int .i64 (n : Int)
def exL (e : St.Ex) : List Lit := .bool e.ends :: e.to.map fun n : Nat => .int .i64 (n : Int)
def OkE (e : St.Ex) : Prop := e.to.length = 36 ∧ ∀ n ∈ e.to, n ≤ 1099511627776
def keyE (e : St.Ex) : Lit := .string (keyBytes (exL e))

theorem mapM_of {α β : Type} {f : α → Option β} {g : α → β} : ∀ (l : List α), (∀ x ∈ l, f x = some (g x)) → l.mapM f = some (l.map g)
  | [], _ => rfl
  | a :: l, h => by
    rw [List.mapM_cons, h a (by simp), mapM_of l fun x hx => h x (by simp [hx])]
    rfl
theorem lits_arr (m : Nat) (l : List Nat) (hl : l.length = 36) (h : ∀ n ∈ l, n ≤ 1099511627776) : Tryz.prog.keyLits (m + 2) 473 (l.map fun n : Nat => Value.int .i64 (n : Int)) = some (l.map fun n : Nat => Lit.int .i64 (n : Int)) := by
  unfold Program.keyLits
  simp only [Tryz.underlying473]
  rw [if_pos (by rw [cells427, List.length_map, hl])]
  rw [mapM_of (g := fun i => [Lit.int .i64 ((l.getD i 0 : Nat) : Int)]) (List.range 36) ?_]
  · simp only [Option.map_some, Option.some.injEq]
    rw [← List.flatMap_def, ← List.map_eq_flatMap]
    apply List.ext_getElem
    · simp [hl]
    · intro i h1 h2
      have h3 : i < l.length := by simpa using h2
      simp [h3]
  · intro i hi
    have hi' : i < l.length := by rw [hl]; exact List.mem_range.1 hi
    rw [cells294, Nat.mul_one]
    have h5 : ((l.map fun n : Nat => Value.int .i64 (n : Int)).drop i).take 1 = [.int .i64 ((l.getD i 0 : Nat) : Int)] := by
      rw [List.drop_eq_getElem_cons (by simpa using hi')]
      simp [List.getD_eq_getElem?_getD, List.getElem?_eq_getElem hi']
    rw [h5]
    unfold Program.keyLits
    simp only [Tryz.underlying320]
    rw [if_pos ⟨trivial, wf64 _ (by
      rw [List.getD_eq_getElem?_getD, List.getElem?_eq_getElem hi']
      exact h _ (List.getElem_mem hi'))⟩]
theorem lits_ex (m : Nat) (e : St.Ex) (he : OkE e) : Tryz.prog.keyLits (m + 3) 475 (exC e) = some (exL e) := by
  unfold Program.keyLits
  simp only [Tryz.underlying475]
  rw [if_pos ⟨by rw [cells429]; simp [exC, he.1], by simp⟩]
  have h1 := lits_arr m e.to he.1 he.2
  have h2 : ((exC e).drop 1).take 36 = e.to.map fun n : Nat => Value.int .i64 (n : Int) := by
    rw [exC, List.drop_succ_cons, List.drop_zero, List.take_of_length_le (by simp [he.1])]
  have h3 : ((exC e).drop 0).take 1 = [.bool e.ends] := rfl
  have h4 : Tryz.prog.keyLits (m + 2) 4 [.bool e.ends] = some [.bool e.ends] := by
    unfold Program.keyLits; simp only [Tryz.underlying4]
  simp only [List.mapM_cons, List.mapM_nil, cells4, cells427]
  rw [h2, h3, h4, h1]
  simp [exL]
theorem types_size3 : ∃ m, Tryz.prog.types.size + 1 = m + 3 := ⟨Tryz.prog.types.size - 2, by have h : 475 < Tryz.prog.types.size := row429; omega⟩
theorem keyOf_ex (e : St.Ex) (he : OkE e) : keyOf Tryz.prog 475 (.agg (exC e).toArray) = some (keyE e) := by
  obtain ⟨m, hm⟩ := types_size3
  unfold keyOf
  simp only [Tryz.underlying475]
  rw [if_pos (by simp [keyT429, Value.formed, Tryz.underlying475, cells429, exC, he.1]), hm]
  simp only [Value.cells, List.toList_toArray]
  rw [lits_ex m e he]
  rfl
theorem exL_inj {a b : St.Ex} (h : exL a = exL b) : a = b := by
  cases a with
  | mk e t =>
    cases b with
    | mk e' t' =>
      simp only [exL, List.cons.injEq, Lit.bool.injEq] at h
      obtain ⟨h1, h2⟩ := h
      subst h1
      congr 1
      have hl : t.length = t'.length := by simpa using congrArg List.length h2
      apply List.ext_getElem hl
      intro i h3 h4
      have : (t.map fun n : Nat => Lit.int .i64 (n : Int))[i]? = (t'.map fun n : Nat => Lit.int .i64 (n : Int))[i]? := by rw [h2]
      simp [h3, h4] at this
      omega
theorem keyE_inj {a b : St.Ex} (ha : OkE a) (hb : OkE b) (h : keyE a = keyE b) : a = b := by
  have e : keyBytes (exL a) = keyBytes (exL b) := by unfold keyE at h; simpa using h
  exact exL_inj (keyLits_inj (lits_ex 0 a ha) (lits_ex 0 b hb) e)

/-- What the map answers. -/
def lookX (kn : List St.Ex) (e : St.Ex) : Int := if e ∈ kn then ((kn.idxOf e + 1 : Nat) : Int) else 0
/-- Block M is a map that says of these exits which states they are. -/
def KnIs (w : World) (M : Nat) (kn : List St.Ex) : Prop :=
  ∃ D : DataW Unit, w.ownsMap Tryz.prog 475 (plainElem Tryz.prog 320) M kn.length D ∧ Maps.size D = kn.length ∧
    (∀ e, OkE e → Maps.has D (keyE e) = decide (e ∈ kn)) ∧
    ∀ e, OkE e → D.atKey (keyE e) (.lit (.int .i64 0)) = .lit (.int .i64 (lookX kn e))
theorem KnIs.lt {w : World} {M : Nat} {kn : List St.Ex} (h : KnIs w M kn) : M < w.heap.size := by
  obtain ⟨D, h1, _⟩ := h; exact h1.lt
theorem KnIs.block {w : World} {M : Nat} {kn : List St.Ex} (h : KnIs w M kn) : ∃ es clock, w.heap[M]? = some (.map es clock) := by
  obtain ⟨D, ⟨es, clock, h1, _⟩, _⟩ := h; exact ⟨es, clock, h1⟩
theorem KnIs.kp {S : List Nat} {w w' : World} {M : Nat} {kn : List St.Ex} (h : KnIs w M kn) (k : Kp S w w') (hM : M ∉ S) : KnIs w' M kn := by
  obtain ⟨D, ⟨es, clock, h1, h2⟩, h3⟩ := h
  exact ⟨D, ⟨es, clock, k.heap h1 hM, h2⟩, h3⟩
theorem knIs_made (w : World) : KnIs (w.alloc (.map #[] 0)) w.heap.size [] := by
  refine ⟨.map [], World.ownsMap_made _ _ _ _, rfl, fun e _ => rfl, fun e _ => rfl⟩
theorem keylitE (e : St.Ex) : WideAt.IsKeyLit (keyE e) := trivial
theorem zero294 (w : World) : (zeroValue 320).run Tryz.prog w = .ok (.int .i64 0) w := by kernel_rfl
theorem owns_sizeG {kt et : TypeId} {w : World} {M n : Nat} {D : DataW Unit} (h : w.ownsMap Tryz.prog kt (plainElem Tryz.prog et) M n D) : w.ownsMap Tryz.prog kt (plainElem Tryz.prog et) M (Maps.size D) D := by
  obtain ⟨es, clock, h1, h2, h3, rfl⟩ := h
  exact ⟨es, clock, h1, h2, by simp [Maps.size, length_sorted], rfl⟩

theorem KnIs.look {w : World} {M : Nat} {kn : List St.Ex} (h : KnIs w M kn) (e : St.Ex) (he : OkE e) :
    (Instr.lookup 411 (.map (some M)) (.agg (exC e).toArray) true).run Tryz.prog w = .ok (.tuple #[.int .i64 (lookX kn e), .bool (decide (e ∈ kn))]) w := by
  obtain ⟨D, hown, hsz, hhas, hat⟩ := h
  obtain ⟨v, ps, hrun, hv⟩ := hown.look_ok exK Tryz.underlying411 (zero294 w) (plainElem_int Tryz.underlying320 (by decide)) (keyOf_ex e he)
  obtain ⟨x, rfl, hx, _⟩ := plainElem_int_inv Tryz.underlying320 hv
  rw [hhas e he] at hrun
  have h2 := hat e he
  simp only [Prod.mk.injEq] at hx
  rw [h2] at hx
  have hx2 : lookX kn e = x := by simpa using hx.1
  rw [hx2]; exact hrun
theorem KnIs.store {w : World} {M : Nat} {kn : List St.Ex} (h : KnIs w M kn) (hc : kn.length ≤ 1000000000) (e : St.Ex) (he : OkE e) (hn : e ∉ kn) (hok : ∀ x ∈ kn, OkE x) :
    ∃ w', (Instr.mapUpdate 411 (.map (some M)) (.agg (exC e).toArray) (.int .i64 ((kn.length + 1 : Nat) : Int))).run Tryz.prog w = .ok () w' ∧ KnIs w' M (kn ++ [e]) ∧ Kp [M] w w' := by
  obtain ⟨D, hown, hsz, hhas, hat⟩ := h
  obtain ⟨w', hrun, h1, h2⟩ := hown.update exK Tryz.underlying411 (by unfold maxLen; omega) (keyOf_ex e he) (plainElem_int Tryz.underlying320 (wf64 (kn.length + 1) (by omega)))
  have hidx : (kn ++ [e]).idxOf e = kn.length := by simp [List.idxOf_append, hn]
  refine ⟨w', hrun, ⟨D.put (keyE e) (.lit (.int .i64 ((kn.length + 1 : Nat) : Int))), ?_, ?_, ?_, ?_⟩, (Kp.refl [M] w).grown h2 (fun k hk => by simp at hk; left; simp [hk])⟩
  · have := owns_sizeG h1
    rw [Maps.size_put (hown.tidy exK), hhas e he, hsz] at this
    simpa [hn] using this
  · rw [Maps.size_put (hown.tidy exK), hhas e he, hsz]
    simp [hn]
  · intro x hx
    by_cases e' : x = e
    · subst e'
      rw [Maps.has_put_same hown.isMap (keylitE _)]
      simp
    · rw [Maps.has_put_other (fun h => e' (keyE_inj hx he h)), hhas x hx]
      simp [e']
  · intro x hx
    by_cases e' : x = e
    · subst e'
      have : lookX (kn ++ [x]) x = ((kn.length + 1 : Nat) : Int) := by unfold lookX; rw [if_pos (by simp), hidx]
      rw [this]
      exact Maps.atKey_put_same hown.isMap (keylitE _) _ _
    · have : lookX (kn ++ [e]) x = lookX kn x := by
        unfold lookX
        by_cases hxk : x ∈ kn
        · rw [if_pos hxk, if_pos (by simp [hxk]), List.idxOf_append, if_pos hxk]
        · rw [if_neg hxk, if_neg (by simp [hxk, e'])]
      rw [this, Maps.atKey_put_other (fun h => e' (keyE_inj hx he h)), hat x hx]
end Go.Proofs.YtpdoacfiiledcaaGreatDoor.Pak

set_option linter.unusedVariables false
set_option maxRecDepth 8000
namespace Go.Proofs.YtpdoacfiiledcaaGreatDoor.Pak
open Go.RowKit Go.Proofs.YtpdoacfiiledcaaGreatDoor Go.Proofs.YtpdoacfiiledcaaGreatDoor.Spl SiftM

theorem ext_list (t : List UInt8) (i j : Nat) : (ByteArray.mk t.toArray).extract i j = ⟨((t.take j).drop i).toArray⟩ := by
  apply ByteArray.ext
  rw [ByteArray.data_extract]
  apply Array.ext'
  simp [List.drop_take]
theorem ba_app (a b : List UInt8) : (ByteArray.mk a.toArray) ++ ⟨b.toArray⟩ = ⟨(a ++ b).toArray⟩ := by
  apply ByteArray.ext
  rw [ByteArray.data_append]
  simp
theorem pre_take (p t : List UInt8) : (t.take p.length == p) = p.isPrefixOf t := by
  rw [Bool.eq_iff_iff, beq_iff_eq, List.isPrefixOf_iff_prefix, List.prefix_iff_eq_take]
  exact eq_comm

set_option maxHeartbeats 400000 in
theorem begins_any (t p : List UInt8) (w : World) (ht : t.length ≤ 1000) (hp : p.length ≤ 1000) :
    Calls Tryz.prog 308 #[.string ⟨t.toArray⟩, .string ⟨p.toArray⟩] w fun e w' => e = .returned (.bool (p.isPrefixOf t)) ∧ w' = w := by
  by_cases hl : p.length ≤ t.length
  · have h1 : (p.length : Int) ≤ (t.length : Int) := by omega
    go_enter Tryz.func308, Tryz.ntmps308
    go_wp2_with fail
    go_ret
    exact ⟨ret_bool (by rw [ext_list, Go.ByteArray.toList_eq, ← pre_take]; simp), rfl⟩
  · have h1 : ¬ (p.length : Int) ≤ (t.length : Int) := by omega
    go_enter Tryz.func308, Tryz.ntmps308
    go_wp2_with fail
    go_ret
    exact ⟨ret_bool (by
      rw [← pre_take, eq_comm, beq_eq_false_iff_ne]
      intro e
      have := congrArg List.length e
      rw [List.length_take] at this
      omega), rfl⟩

theorem endings_snoc (L : List (List UInt8)) (t p : List UInt8) : St.endings (L ++ [t]) p = St.endings L p ++ if p.isPrefixOf t then t.drop p.length ++ [124] else [] := by
  unfold St.endings
  rw [List.filter_append, List.flatMap_append]
  congr 1
  by_cases h : p.isPrefixOf t = true
  · simp [h]
  · simp [h]
theorem endings_len (L : List (List UInt8)) (p : List UInt8) (hL : ∀ t ∈ L, t.length ≤ 1000) : (St.endings L p).length ≤ L.length * 1001 := by
  induction L with
  | nil => simp [St.endings]
  | cons t L ih =>
    have h1 := ih fun t h => hL t (by simp [h])
    have h2 := hL t (by simp)
    unfold St.endings at h1 ⊢
    rw [List.filter_cons]
    split
    · simp only [List.flatMap_cons, List.length_append, List.length_drop, List.length_cons, List.length_nil]
      omega
    · simp only [List.length_cons]; omega

set_option maxHeartbeats 1000000 in
theorem endings_any (B n : Nat) (u : Value) (L : List (List UInt8)) (p : List UInt8) (w : World) (hu : w.ownsRow B 9 1 u n (strV L)) (hn : L.length = n) (hb : n ≤ 100000) (hL : ∀ t ∈ L, t.length ≤ 1000) (hp : p.length ≤ 1000) :
    Calls Tryz.prog 305 #[u, .string ⟨p.toArray⟩] w fun e w' => e = .returned (.string ⟨(St.endings L p).toArray⟩) ∧ w' = w := by
  obtain ⟨au, cu, rfl, hau⟩ := owns_forms hu
  have HU := hide hu
  have HN := hide hn
  have HL := hide hL
  clear hu hn hL
  go_enter Tryz.func305, Tryz.ntmps305
  go_wp2_with fail
  go_loopw [5, 6] (fun sv iv wr => ∃ k : Nat, k ≤ n ∧ iv = .int .i64 k ∧ sv = .string ⟨(St.endings (L.take k) p).toArray⟩ ∧ wr = w) (fun _ iv _ => n - (intOf iv).toNat)
  case atStart => exact ⟨0, by omega, rfl, rfl, rfl⟩
  case round =>
    obtain ⟨k, hk, rfl, rfl, rfl⟩ := hrel
    by_cases hlt : k < n
    · obtain ⟨g, rfl⟩ := hau (by omega)
      have hkw : k < L.length := by rw [HN.out]; exact hlt
      have hc := strs_cells HU.out HN.out k hkw
      have hsn := endings_snoc (L.take k) L[k] p
      rw [← take_snocL L k hkw] at hsn
      have hel := endings_len (L.take k) p (fun t h => HL.out t (List.mem_of_mem_take h))
      rw [List.length_take] at hel
      have htl := HL.out L[k] (List.getElem_mem hkw)
      obtain ⟨t, ht⟩ : ∃ t, L[k] = t := ⟨_, rfl⟩
      rw [ht] at hc hsn htl
      obtain ⟨acc, hacc⟩ : ∃ acc, St.endings (L.take k) p = acc := ⟨_, rfl⟩
      rw [hacc] at hsn hel
      rw [hacc]
      have haccb : acc.length ≤ 200000000 := by omega
      have HSN := hide hsn
      clear hsn hel ht hacc
      go_wp2_with fail
      refine (begins_any t p _ htl hp).mono ?_
      rintro e w1 ⟨rfl, rfl⟩
      by_cases hpre : p.isPrefixOf t = true
      · rw [hpre] at HSN ⊢
        have hle : p.length ≤ t.length := (List.isPrefixOf_iff_prefix.1 hpre).length_le
        have h1 : (p.length : Int) ≤ (t.length : Int) := by omega
        go_wp2_with fail
        refine ⟨⟨k + 1, by omega, by go_num, ?_, trivial⟩, by simp [intOf]; omega⟩
        rw [HSN.out, ext_list, List.take_length, show (⟨#[124]⟩ : ByteArray) = ⟨([124] : List UInt8).toArray⟩ from rfl, ba_app, ba_app]
        simp
      · have hpf : p.isPrefixOf t = false := Bool.eq_false_iff.2 hpre
        rw [hpf] at HSN ⊢
        clear hpre
        go_wp2_with fail
        go_roundw
        case rel => exact ⟨k + 1, by omega, by go_num, by rw [HSN.out]; simp, trivial⟩
        case measure => simp [intOf]; omega
    · have ek : k = n := by omega
      subst ek
      go_wp2_with fail
      go_ret
      have htk : L.take k = L := List.take_of_length_le (by rw [HN.out]; omega)
      exact ⟨by rw [htk]; rfl, rfl⟩
end Go.Proofs.YtpdoacfiiledcaaGreatDoor.Pak

