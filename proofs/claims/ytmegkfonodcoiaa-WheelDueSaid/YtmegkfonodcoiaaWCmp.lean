/-
  Walks of wheel.isAhead, canBeDue, find; mooringsref10.before; slices.IndexFunc, Equal at timers; mooringsref10.Timers.
-/
import Derived.Test.YtmegkfonodcoiaaWRows
import Derived.Shelf.Abstract
namespace Go.Proofs.Ytmegkfonodcoiaa
open Go.RowKit

theorem W.lt_beq (x y : W.Tm) : W.lt x y = (decide (x.2 < y.2) || ((x.2 == y.2) && decide (x.1 < y.1))) := by
  unfold W.lt; congr 2

set_option maxHeartbeats 400000 in
theorem ahead_any (a : Option Addr) (n c i j : Nat) (l : List W.Tm) (w : World) (h : TIn w a n c l) (hi : i < n) (hj : j < n) (x y : W.Tm) (hx : l[i]? = some x) (hy : l[j]? = some y) (p : Bool) (hp : W.lt x y = p) :
    Calls Try.prog 33 #[.slice a n c, .int .i64 i, .int .i64 j] w fun e w' => e = .returned (.bool p) ∧ Below w.heap.size w w' := by
  obtain ⟨b, off, x', rfl, hb, hx', p1, p2⟩ := h.at hi
  obtain ⟨b2, off2, y', he, hb2, hy', q1, q2⟩ := h.at hj
  cases he
  obtain rfl : x' = x := by rw [hx] at hx'; exact (Option.some.inj hx').symm
  obtain rfl : y' = y := by rw [hy] at hy'; exact (Option.some.inj hy').symm
  have HP := Lib.hid hp
  clear h hx hy hx' hy' hp
  have h0 : (0 : Int) ≤ i := by omega
  have h1 : (i : Int) < n := by omega
  have h2 : (0 : Int) ≤ j := by omega
  have h3 : (j : Int) < n := by omega
  go_enter Try.func33, Try.ntmps33
  go_wp2_with fail
  go_region
  all_goals (
    obtain ⟨b1, hb1⟩ : ∃ q, decide (x'.2 < y'.2) = q := ⟨_, rfl⟩
    obtain ⟨b2, hb2⟩ : ∃ q, (x'.2 == y'.2) = q := ⟨_, rfl⟩
    obtain ⟨b3, hb3⟩ : ∃ q, decide (x'.1 < y'.1) = q := ⟨_, rfl⟩
    have HB : Hid ((b1 || (b2 && b3)) = p) := Lib.hid (by rw [← hb1, ← hb2, ← hb3, ← HP.out]; exact (W.lt_beq _ _).symm)
    cases b1 <;> cases b2 <;> cases b3 <;> (
      go_wp2
      go_ret
      exact ⟨by rw [← HB.out]; rfl, ((((Below.refl _ w).alloc (Nat.le_refl _) _).alloc (by simp) _).drew)⟩))

set_option maxHeartbeats 400000 in
theorem before_any (x y : W.Tm) (w : World) (p : Bool) (hp : W.lt x y = p) :
    Calls Try.prog 30 #[.agg #[.int .i64 x.1, .int .i64 x.2], .agg #[.int .i64 y.1, .int .i64 y.2]] w fun e w' => e = .returned (.bool p) ∧ Below w.heap.size w w' := by
  have HP := Lib.hid hp
  clear hp
  obtain ⟨b1, hb1⟩ : ∃ q, decide (x.2 < y.2) = q := ⟨_, rfl⟩
  obtain ⟨b2, hb2⟩ : ∃ q, (x.2 == y.2) = q := ⟨_, rfl⟩
  obtain ⟨b3, hb3⟩ : ∃ q, decide (x.1 < y.1) = q := ⟨_, rfl⟩
  have HB : Hid ((b1 || (b2 && b3)) = p) := Lib.hid (by rw [← hb1, ← hb2, ← hb3, ← HP.out]; exact (W.lt_beq _ _).symm)
  go_enter Try.func30, Try.ntmps30
  cases b1 <;> cases b2 <;> cases b3 <;> (
    go_wp2
    go_ret
    exact ⟨by rw [← HB.out]; rfl, ((Below.refl _ w).alloc (Nat.le_refl _) _).alloc (by simp) _⟩)

/-- The box of a wheel. -/
def wbox (w : World) (k : Int) (a : Option Addr) (n c : Nat) : World := w.alloc (.cells #[.int .i64 k, .slice a n c] 24)
theorem wbox_size (w : World) (k : Int) (a : Option Addr) (n c : Nat) : (wbox w k a n c).heap.size = w.heap.size + 1 := by simp [wbox]
theorem wbox_below (w : World) (k : Int) (a : Option Addr) (n c : Nat) : Below w.heap.size w (wbox w k a n c) := (Below.refl _ w).alloc (Nat.le_refl _) _
theorem wbox_blok (w : World) (k : Int) (a : Option Addr) (n c : Nat) : Blok (wbox w k a n c) w.heap.size 24 #[.int .i64 k, .slice a n c] := Blok.new _ _ _

set_option maxHeartbeats 400000 in
theorem canBe_any (k at' : Int) (a : Option Addr) (n c : Nat) (w : World) (p : Bool) (hp : decide (k < at' ∧ at' ≤ 1073741824) = p) :
    Calls Try.prog 25 #[.agg #[.int .i64 k, .slice a n c], .int .i64 at'] w fun e w' => e = .returned (.bool p) ∧ Below w.heap.size w w' := by
  obtain ⟨b1, hb1⟩ : ∃ q, decide (k < at') = q := ⟨_, rfl⟩
  obtain ⟨b2, hb2⟩ : ∃ q, decide (at' ≤ 1073741824) = q := ⟨_, rfl⟩
  have HB : Hid ((b1 && b2) = p) := Lib.hid (by rw [← hb1, ← hb2, ← hp]; simp)
  clear hp
  go_enter Try.func25, Try.ntmps25
  cases b1 <;> cases b2 <;> (
    go_wp2
    go_ret
    exact ⟨by rw [← HB.out]; rfl, wbox_below w k a n c⟩)

set_option maxHeartbeats 400000 in
theorem find1_any (x : W.Tm) (id : Int) (B : Nat) (w : World) (hB : B < w.heap.size) (hc : w.cell? ⟨B, 0, none⟩ = some (.int .i64 id)) :
    Calls Try.prog 37 #[.agg #[.int .i64 x.1, .int .i64 x.2], .pointer (some ⟨B, 0, none⟩)] w fun e w' => e = .returned (.bool (decide (x.1 = id))) ∧ Below w.heap.size w w' := by
  obtain ⟨b1, hb1⟩ : ∃ q, (x.1 == id) = q := ⟨_, rfl⟩
  have HB : Hid (b1 = decide (x.1 = id)) := Lib.hid (by rw [← hb1, Bool.eq_iff_iff]; simp)
  have hne : B ≠ w.heap.size := by omega
  go_enter Try.func37, Try.ntmps37
  go_wp2
  go_ret
  exact ⟨by rw [← HB.out]; rfl, (Below.refl _ w).alloc (Nat.le_refl _) _⟩

/-- What IndexFunc and find give. -/
theorem W.find_hit {l : List W.Tm} {id : Int} {k : Nat} {x : W.Tm} (hx : l[k]? = some x) (h : decide (x.1 = id) = true) (ha : ∀ j y, j < k → l[j]? = some y → y.1 ≠ id) : W.idx l id = k := by
  obtain ⟨hk, rfl⟩ := List.getElem?_eq_some_iff.1 hx
  have : W.find l id = some k := by
    unfold W.find
    rw [List.findIdx?_eq_some_iff_getElem]
    exact ⟨hk, h, fun j hj => by simpa using ha j _ hj (List.getElem?_eq_getElem (by omega))⟩
  unfold W.idx; rw [this]
theorem W.find_none {l : List W.Tm} {id : Int} (ha : ∀ j y, j < l.length → l[j]? = some y → y.1 ≠ id) : W.idx l id = -1 := by
  have : W.find l id = none := by
    unfold W.find
    rw [List.findIdx?_eq_none_iff]
    intro x hx
    obtain ⟨j, hj, rfl⟩ := List.mem_iff_getElem.1 hx
    simpa using ha j _ hj (List.getElem?_eq_getElem hj)
  unfold W.idx; rw [this]

set_option maxRecDepth 100000 in
set_option maxHeartbeats 400000 in
theorem indexF_any (a : Option Addr) (n c B : Nat) (id : Int) (l : List W.Tm) (w : World) (h : TIn w a n c l) (hn : n ≤ 1000000) (hB : B < w.heap.size) (hc : w.cell? ⟨B, 0, none⟩ = some (.int .i64 id)) :
    Calls Try.prog 36 #[.slice a n c, .func (.func 37) #[] #[.pointer (some ⟨B, 0, none⟩)]] w fun e w' => e = .returned (.int .i64 (W.idx l id)) ∧ Below w.heap.size w w' := by
  have eg : ∀ args w, (callFunc 37 args).run Try.prog w = .ok (.enter 37 args) w := Go.Proofs.enters_of Try.func37 (by kernel_rfl) rfl
  have HT := Lib.hid h
  have HC := Lib.hid hc
  clear h hc
  go_enter Try.func36, Try.ntmps36
  go_wp2_with fail
  go_loopw [8] (fun i wr => ∃ k : Nat, i = .int .i64 k ∧ k ≤ n ∧ Hid (∀ j y, j < k → l[j]? = some y → y.1 ≠ id) ∧ Hid (Below w.heap.size w wr)) (fun i _ => n - (intOf i).toNat)
  case atStart => exact ⟨0, rfl, by omega, Lib.hid (fun j y hj => absurd hj (Nat.not_lt_zero _)), Lib.hid (Below.refl _ _)⟩
  case round =>
    obtain ⟨k, rfl, hkn, HA, HB⟩ := hrel
    by_cases hlt : k < n
    · have d1 : decide ((k : Int) < n) = true := by simp; omega
      obtain ⟨b, off, x, rfl, hb, hx, p1, p2⟩ := (HT.out.below HB.out).at hlt
      have HX := Lib.hid hx
      have k0 : (0 : Int) ≤ k := by omega
      have k1 : (k : Int) < n := by omega
      have hf := find1_any x id B wr (Nat.lt_of_lt_of_le hB HB.out.size) ((HB.out.cell (p := ⟨B, 0, none⟩) hB).trans HC.out)
      obtain ⟨q, hq⟩ : ∃ q, decide (x.1 = id) = q := ⟨_, rfl⟩
      rw [hq] at hf
      have HQ := Lib.hid hq
      clear hx hq
      go_wp2_with fail
      refine hf.mono ?_
      rintro e w3 ⟨rfl, hb3⟩
      have HB3 := Lib.hid (HB.out.trans (hb3.mono HB.out.size))
      clear hf hb3 p1 p2
      cases q with
      | true =>
        have HE := Lib.hid (W.find_hit HX.out HQ.out HA.out)
        go_wp2
        go_ret
        exact ⟨by rw [HE.out]; rfl, HB3.out⟩
      | false =>
        have HA2 : Hid (∀ j y, j < k + 1 → l[j]? = some y → y.1 ≠ id) := Lib.hid (fun j y hj hy => by
          by_cases hjk : j = k
          · subst hjk; rw [HX.out] at hy; cases hy; exact of_decide_eq_false HQ.out
          · exact HA.out j y (by omega) hy)
        go_wp2
        go_roundw
        case rel => exact ⟨k + 1, by go_num, by omega, HA2, HB3⟩
        case measure => simp [intOf] <;> omega
    · have d1 : decide ((k : Int) < n) = false := by simp; omega
      have HE : Hid (W.idx l id = -1) := Lib.hid (W.find_none (fun j y hj => HA.out j y (by have := HT.out.1; omega)))
      go_wp2
      go_ret
      exact ⟨by rw [HE.out]; rfl, HB.out⟩

set_option maxRecDepth 100000 in
set_option maxHeartbeats 400000 in
theorem find_any (a : Option Addr) (n c : Nat) (id : Int) (l : List W.Tm) (w : World) (h : TIn w a n c l) (hn : n ≤ 1000000) :
    Calls Try.prog 26 #[.slice a n c, .int .i64 id] w fun e w' => e = .returned (.int .i64 (W.idx l id)) ∧ Below w.heap.size w w' := by
  have hb := (Below.refl w.heap.size w).alloc (Nat.le_refl _) (.cells #[.int .i64 id] 3)
  have hi := indexF_any a n c w.heap.size id l (w.alloc (.cells #[.int .i64 id] 3)) (h.below hb) hn (by simp) (by simp)
  have HB := Lib.hid hb
  clear h hb
  obtain ⟨r, hr⟩ : ∃ r, W.idx l id = r := ⟨_, rfl⟩
  rw [hr] at hi ⊢
  clear hr
  go_enter Try.func26, Try.ntmps26
  go_wp2_with fail
  refine hi.mono ?_
  rintro e w3 ⟨rfl, hb3⟩
  go_wp2
  go_ret
  exact ⟨rfl, HB.out.trans (hb3.mono HB.out.size)⟩

/-- Two lists, place by place. -/
theorem W.same_step {l k : List W.Tm} {i : Nat} {x y : W.Tm} (hx : l[i]? = some x) (hy : k[i]? = some y) (h : l.take i = k.take i) (he : x = y) : l.take (i + 1) = k.take (i + 1) := by
  obtain ⟨h1, h2⟩ := List.getElem?_eq_some_iff.1 hx
  obtain ⟨h3, h4⟩ := List.getElem?_eq_some_iff.1 hy
  rw [List.take_succ_eq_append_getElem h1, List.take_succ_eq_append_getElem h3, h2, h4, h, he]
theorem W.same_bad {l k : List W.Tm} {i : Nat} {x y : W.Tm} (hx : l[i]? = some x) (hy : k[i]? = some y) (he : x ≠ y) : decide (l = k) = false := by
  refine decide_eq_false fun h => he ?_
  rw [h, hy] at hx
  exact (Option.some.inj hx).symm

set_option maxRecDepth 100000 in
set_option maxHeartbeats 400000 in
theorem equalT_any (a a' : Option Addr) (n m c c' : Nat) (l k : List W.Tm) (w : World) (h : TIn w a n c l) (h' : TIn w a' m c' k) (hn : n ≤ 1000000) (p : Bool) (hp : decide (l = k) = p) :
    Calls Try.prog 34 #[.slice a n c, .slice a' m c'] w fun e w' => e = .returned (.bool p) ∧ Below w.heap.size w w' := by
  by_cases hnm : n = m
  · subst hnm
    have HT := Lib.hid h
    have HK := Lib.hid h'
    have HP := Lib.hid hp
    have dn : ((n : Int) != n) = false := by simp
    clear h h' hp
    go_enter Try.func34, Try.ntmps34
    go_wp2_with fail
    go_loopw [13] (fun i wr => ∃ k' : Nat, i = .int .i64 k' ∧ k' ≤ n ∧ Hid (l.take k' = k.take k') ∧ Hid (Below w.heap.size w wr)) (fun i _ => n - (intOf i).toNat)
    case atStart => exact ⟨0, rfl, by omega, Lib.hid (by simp), Lib.hid (Below.refl _ _)⟩
    case round =>
      obtain ⟨i, rfl, hin, HA, HB⟩ := hrel
      by_cases hlt : i < n
      · have d1 : decide ((i : Int) < n) = true := by simp; omega
        obtain ⟨b, off, x, rfl, hb, hx, p1, p2⟩ := (HT.out.below HB.out).at hlt
        obtain ⟨b2, off2, y, rfl, hb2, hy, q1, q2⟩ := (HK.out.below HB.out).at hlt
        have k0 : (0 : Int) ≤ i := by omega
        have k1 : (i : Int) < n := by omega
        have HX := Lib.hid hx
        have HY := Lib.hid hy
        clear hx hy
        by_cases hxy : x = y
        · subst hxy
          have HE := Lib.hid (W.same_step HX.out HY.out HA.out rfl)
          go_wp2_with fail
          go_quiet (fail)
          go_wp2
          go_roundw
          case rel => exact ⟨i + 1, by go_num, by omega, HE, Lib.hid (HB.out.trans (below_drewN _ _ _))⟩
          case measure => simp [intOf] <;> omega
        · have HE : Hid (p = false) := Lib.hid (by rw [← HP.out]; exact W.same_bad HX.out HY.out hxy)
          obtain ⟨x1, x2⟩ := x
          obtain ⟨y1, y2⟩ := y
          by_cases h1 : x1 = y1
          · subst h1
            have h2 : ¬ x2 = y2 := fun e => hxy (by rw [e])
            go_wp2_with fail
            go_quiet (fail)
            go_wp2
            go_ret
            exact ⟨by rw [HE.out]; rfl, HB.out.trans (below_drewN _ _ _)⟩
          · go_wp2_with fail
            go_quiet (fail)
            go_wp2
            go_ret
            exact ⟨by rw [HE.out]; rfl, HB.out.trans (below_drewN _ _ _)⟩
      · have d1 : decide ((i : Int) < n) = false := by simp; omega
        have HE : Hid (p = true) := Lib.hid (by
          have h1 := HA.out
          rw [List.take_of_length_le (by rw [HT.out.1]; omega), List.take_of_length_le (by rw [HK.out.1]; omega)] at h1
          rw [← HP.out]; exact decide_eq_true h1)
        go_wp2
        go_ret
        exact ⟨by rw [HE.out]; rfl, HB.out⟩
  · have HE : Hid (p = false) := Lib.hid (by
      rw [← hp]
      refine decide_eq_false fun e => hnm ?_
      rw [← h.1, ← h'.1, e])
    have dn : ((n : Int) != m) = true := by simp; omega
    clear h h' hp hnm
    go_enter Try.func34, Try.ntmps34
    go_wp2
    go_ret
    exact ⟨by rw [HE.out]; rfl, Below.refl _ _⟩

set_option maxRecDepth 100000 in
set_option maxHeartbeats 400000 in
theorem timers_any (a a' : Option Addr) (n m c c' : Nat) (l k : List W.Tm) (w : World) (h : TIn w a n c l) (h' : TIn w a' m c' k) (hn : n ≤ 1000000) (p : Bool) (hp : decide (l = k) = p) :
    Calls Try.prog 20 #[.slice a n c, .slice a' m c'] w fun e w' => e = .returned (.bool p) ∧ Below w.heap.size w w' := by
  by_cases hnm : n = m
  · subst hnm
    have HT := Lib.hid h
    have HK := Lib.hid h'
    have HP := Lib.hid hp
    have dn : ((n : Int) != n) = false := by simp
    clear h h' hp
    go_enter Try.func20, Try.ntmps20
    go_wp2_with fail
    go_loopw [5] (fun i wr => ∃ k' : Nat, i = .int .i64 k' ∧ k' ≤ n ∧ Hid (l.take k' = k.take k') ∧ Hid (Below w.heap.size w wr)) (fun i _ => n - (intOf i).toNat)
    case atStart => exact ⟨0, rfl, by omega, Lib.hid (by simp), Lib.hid (Below.refl _ _)⟩
    case round =>
      obtain ⟨i, rfl, hin, HA, HB⟩ := hrel
      by_cases hlt : i < n
      · have d1 : decide ((i : Int) < n) = true := by simp; omega
        obtain ⟨b, off, x, rfl, hb, hx, p1, p2⟩ := (HT.out.below HB.out).at hlt
        obtain ⟨b2, off2, y, rfl, hb2, hy, q1, q2⟩ := (HK.out.below HB.out).at hlt
        have k0 : (0 : Int) ≤ i := by omega
        have k1 : (i : Int) < n := by omega
        have HX := Lib.hid hx
        have HY := Lib.hid hy
        clear hx hy
        by_cases hxy : x = y
        · subst hxy
          have HE := Lib.hid (W.same_step HX.out HY.out HA.out rfl)
          go_wp2_with fail
          go_quiet (fail)
          go_wp2
          go_roundw
          case rel => exact ⟨i + 1, by go_num, by omega, HE, Lib.hid (HB.out.trans (below_drewN _ _ _))⟩
          case measure => simp [intOf] <;> omega
        · have HE : Hid (p = false) := Lib.hid (by rw [← HP.out]; exact W.same_bad HX.out HY.out hxy)
          obtain ⟨x1, x2⟩ := x
          obtain ⟨y1, y2⟩ := y
          by_cases h1 : x1 = y1
          · subst h1
            have h2 : ¬ x2 = y2 := fun e => hxy (by rw [e])
            go_wp2_with fail
            go_quiet (fail)
            go_wp2
            go_ret
            exact ⟨by rw [HE.out]; rfl, HB.out.trans (below_drewN _ _ _)⟩
          · go_wp2_with fail
            go_quiet (fail)
            go_wp2
            go_ret
            exact ⟨by rw [HE.out]; rfl, HB.out.trans (below_drewN _ _ _)⟩
      · have d1 : decide ((i : Int) < n) = false := by simp; omega
        have HE : Hid (p = true) := Lib.hid (by
          have h1 := HA.out
          rw [List.take_of_length_le (by rw [HT.out.1]; omega), List.take_of_length_le (by rw [HK.out.1]; omega)] at h1
          rw [← HP.out]; exact decide_eq_true h1)
        go_wp2
        go_ret
        exact ⟨by rw [HE.out]; rfl, HB.out⟩
  · have HE : Hid (p = false) := Lib.hid (by
      rw [← hp]
      refine decide_eq_false fun e => hnm ?_
      rw [← h.1, ← h'.1, e])
    have dn : ((n : Int) != m) = true := by simp; omega
    clear h h' hp hnm
    go_enter Try.func20, Try.ntmps20
    go_wp2
    go_ret
    exact ⟨by rw [HE.out]; rfl, Below.refl _ _⟩
end Go.Proofs.Ytmegkfonodcoiaa
