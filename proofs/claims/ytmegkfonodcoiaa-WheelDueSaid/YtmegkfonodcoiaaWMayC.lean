/-
  A walk of wheel.May.
-/
import Derived.Test.YtmegkfonodcoiaaWMay
namespace Go.Proofs.Ytmegkfonodcoiaa
open Go.RowKit

/-- The box of a timer. -/
def tbox (w : World) (x : W.Tm) : World := w.alloc (.cells #[.int .i64 x.1, .int .i64 x.2] 40)
theorem tbox_below (w : World) (x : W.Tm) : Below w.heap.size w (tbox w x) := (Below.refl _ w).alloc (Nat.le_refl _) _
theorem tbox_blok (w : World) (x : W.Tm) : Blok (tbox w x) w.heap.size 40 #[.int .i64 x.1, .int .i64 x.2] := Blok.new _ _ _
theorem below_below {w w' : World} {B : Nat} (hb : Below w.heap.size w w') (hB : B ≤ w.heap.size) : Below B w w' := hb.mono hB
theorem Blok.b0 {V : World} {b : Nat} {t : TypeId} {x y : Value} (h : Blok V b t #[x, y]) : V.cell? ⟨b, 0, none⟩ = some x := h.cell 0
theorem Blok.b1 {V : World} {b : Nat} {t : TypeId} {x y : Value} (h : Blok V b t #[x, y]) : V.cell? ⟨b, 1, none⟩ = some y := h.cell 1
theorem Blok.on' {V V' : World} {b : Nat} {t : TypeId} {cs : Array Value} (h : Blok V b t cs) (hb : Below V.heap.size V V') : Blok V' b t cs := h.below hb h.lt

set_option maxRecDepth 100000 in
set_option maxHeartbeats 1000000 in
theorem may_any (k : Int) (a : Option Addr) (n c : Nat) (l : List W.Tm) (w : World) (h : TIn w a n c l) (hn : n ≤ 1000) (p : Bool) (hp : W.may k l = p) :
    Calls Try.prog 22 #[.agg #[.int .i64 k, .slice a n c]] w fun e w' => e = .returned (.bool p) ∧ Below w.heap.size w w' := by
  have HT := Lib.hid h
  have HP := Lib.hid hp
  have BX := Lib.hid (wbox_blok w k a n c)
  have BB := Lib.hid (wbox_below w k a n c)
  have u0 := BX.out.b0
  have u1 := BX.out.b1
  unfold wbox at u0 u1
  clear h hp
  go_enter Try.func22, Try.ntmps22
  by_cases hb : 0 ≤ k ∧ k ≤ 1073741824 ∧ n ≤ 64
  · obtain ⟨h1, h2, h3⟩ := hb
    have d1 : decide (k < 0) = false := by simp; omega
    have d2 : decide ((1073741824 : Int) < k) = false := by simp; omega
    have d3 : decide ((64 : Int) < (n : Int)) = false := by simp; omega
    go_wp2_with fail
    obtain ⟨W1, hW1⟩ : ∃ W1, w.alloc (.cells #[.int .i64 k, .slice a n c] 24) = W1 := ⟨_, rfl⟩
    have BX1 : Hid (Blok W1 w.heap.size 24 #[.int .i64 k, .slice a n c]) := Lib.hid (by rw [← hW1]; exact BX.out)
    have BB1 : Hid (Below w.heap.size w W1) := Lib.hid (by rw [← hW1]; exact BB.out)
    rw [hW1]
    clear hW1 u0 u1 BX BB
    go_loopw [22] (fun i wr => ∃ j : Nat, i = .int .i64 j ∧ j ≤ n ∧ Hid (∀ t ∈ l.take j, W.ok k t = true) ∧ Hid (W.Ids (l.take j)) ∧ Hid (Below W1.heap.size W1 wr)) (fun i _ => n - (intOf i).toNat)
    case atStart => exact ⟨0, by go_num, by omega, Lib.hid (by simp), Lib.hid (by simp [W.Ids]), Lib.hid (Below.refl _ _)⟩
    case round =>
      obtain ⟨j, rfl, hjn, HA, HI, HB⟩ := hrel
      have HBX := Lib.hid (BX1.out.on' HB.out)
      have HBW := Lib.hid (BB1.out.trans (HB.out.mono BB1.out.size))
      by_cases hlt : j < n
      · have dj : decide ((j : Int) < n) = true := by simp; omega
        obtain ⟨b, off, x, rfl, hbl, hx, p1, p2⟩ := (HT.out.below HBW.out).at hlt
        have HX := Lib.hid hx
        have j0 : (0 : Int) ≤ j := by omega
        have j1 : (j : Int) < n := by omega
        have j2 : (j : Int) ≤ n := by omega
        have hcn : n ≤ c := HT.out.2.1.1
        have j3 : (j : Int) ≤ c := by omega
        have TB := Lib.hid (tbox_blok wr x)
        have TBB := Lib.hid (tbox_below wr x)
        have HBX2 := Lib.hid (HBX.out.on' TBB.out)
        have HBW2 := Lib.hid (HBW.out.trans (TBB.out.mono HBW.out.size))
        have HB2 := Lib.hid (HB.out.trans (TBB.out.mono HB.out.size))
        clear hx
        go_wp2_with fail
        obtain ⟨W2, hW2⟩ : ∃ W2, wr.alloc (.cells #[.int .i64 x.1, .int .i64 x.2] 40) = W2 := ⟨_, rfl⟩
        have TB3 : Hid (Blok W2 wr.heap.size 40 #[.int .i64 x.1, .int .i64 x.2]) := Lib.hid (by rw [← hW2]; exact TB.out)
        have HBX3 : Hid (Blok W2 w.heap.size 24 #[.int .i64 k, .slice (some ⟨b, off, none⟩) n c]) := Lib.hid (by rw [← hW2]; exact HBX2.out)
        have HBW3 : Hid (Below w.heap.size w W2) := Lib.hid (by rw [← hW2]; exact HBW2.out)
        have HB3 : Hid (Below W1.heap.size W1 W2) := Lib.hid (by rw [← hW2]; exact HB2.out)
        rw [hW2]
        clear hW2 TB TBB HBX2 HBW2 HB2 p1 p2
        have t0 := TB3.out.b0
        have t1 := TB3.out.b1
        have v0 := HBX3.out.b0
        have v1 := HBX3.out.b1
        have ct0 := fun d os => cell_regrown t0 d os
        have ct1 := fun d os => cell_regrown t1 d os
        have cv0 := fun d os => cell_regrown v0 d os
        have cv1 := fun d os => cell_regrown v1 d os
        obtain ⟨q1, hq1⟩ : ∃ q, decide (x.1 < 0) = q := ⟨_, rfl⟩
        obtain ⟨q2, hq2⟩ : ∃ q, decide (k < x.2 ∧ x.2 ≤ 1073741824) = q := ⟨_, rfl⟩
        obtain ⟨r, hr⟩ : ∃ r, W.idx (l.take j) x.1 = r := ⟨_, rfl⟩
        obtain ⟨q3, hq3⟩ : ∃ q, decide (0 ≤ r) = q := ⟨_, rfl⟩
        have c1 := fun V => canBe_any k x.2 (some ⟨b, off, none⟩) n c V q2 hq2
        have c2 := fun d os => find_any (some ⟨b, off, none⟩) j c x.1 (l.take j) (Go.Sort.grow (redrawn W2 d) os) (((HT.out.take j hjn).below HBW3.out).below (below_regrown W2 d os)) (by omega)
        rw [hr] at c2
        have HQ : Hid (W.ok k x = (!q1 && q2) ∧ W.has (l.take j) x.1 = q3) := Lib.hid ⟨by rw [← hq1, ← hq2]; unfold W.ok; rw [Bool.eq_iff_iff]; simp, by rw [← hq3, ← hr, W.idx_has]⟩
        clear hr
        have NO : Hid ((!q1 && q2) = false ∨ q3 = true → p = false) := Lib.hid (fun h => by
          rw [← HP.out]
          refine W.may_no fun hm => ?_
          rcases h with h | h
          · have := hm.2.2.2.1 x (List.mem_of_getElem? HX.out)
            rw [HQ.out.1, h] at this; cases this
          · exact W.ids_bad HX.out (by rw [HQ.out.2]; exact h) hm.2.2.2.2.2)
        cases q1 with
        | true =>
          go_wp2_with fail
          refine wp_region_quiet_below (by kernel_rfl) (by kernel_rfl) ?_
          repeat (go_big_quiet_step (first | with_reducible exact Calls.regrown_of (c1 _) | with_reducible exact Calls.regrown_of (c2 _ _)))
          refine wpQuiet_nil ?_
          intro _ hw'
          obtain ⟨⟨dq, osq⟩, hw''⟩ := hw'
          subst hw''
          clear ct0 ct1 cv0 cv1 t0 t1 v0 v1 c1 c2
          obtain ⟨W4, hW4⟩ : ∃ W4, Go.Sort.grow (redrawn W2 dq) osq = W4 := ⟨_, rfl⟩
          have hb4 : Below W2.heap.size W2 W4 := by rw [← hW4]; exact below_regrown _ _ _
          rw [hW4]
          clear hW4
          have HB4 := Lib.hid (HB3.out.trans (hb4.mono HB3.out.size))
          have HBW4 := Lib.hid (HBW3.out.trans (hb4.mono HBW3.out.size))
          clear hb4
          have HE := Lib.hid (NO.out (by simp))
          go_wp2
          go_ret
          exact ⟨by rw [HE.out]; rfl, HBW4.out⟩
        | false =>
          cases q2 with
          | false =>
            go_wp2_with fail
            refine wp_region_quiet_below (by kernel_rfl) (by kernel_rfl) ?_
            repeat (go_big_quiet_step (first | with_reducible exact Calls.regrown_of (c1 _) | with_reducible exact Calls.regrown_of (c2 _ _)))
            refine wpQuiet_nil ?_
            intro _ hw'
            obtain ⟨⟨dq, osq⟩, hw''⟩ := hw'
            subst hw''
            clear ct0 ct1 cv0 cv1 t0 t1 v0 v1 c1 c2
            obtain ⟨W4, hW4⟩ : ∃ W4, Go.Sort.grow (redrawn W2 dq) osq = W4 := ⟨_, rfl⟩
            have hb4 : Below W2.heap.size W2 W4 := by rw [← hW4]; exact below_regrown _ _ _
            rw [hW4]
            clear hW4
            have HB4 := Lib.hid (HB3.out.trans (hb4.mono HB3.out.size))
            have HBW4 := Lib.hid (HBW3.out.trans (hb4.mono HBW3.out.size))
            clear hb4
            have HE := Lib.hid (NO.out (by simp))
            go_wp2
            go_ret
            exact ⟨by rw [HE.out]; rfl, HBW4.out⟩
          | true =>
            cases q3 with
            | true =>
              go_wp2_with fail
              refine wp_region_quiet_below (by kernel_rfl) (by kernel_rfl) ?_
              repeat (go_big_quiet_step (first | with_reducible exact Calls.regrown_of (c1 _) | with_reducible exact Calls.regrown_of (c2 _ _)))
              refine wpQuiet_nil ?_
              intro _ hw'
              obtain ⟨⟨dq, osq⟩, hw''⟩ := hw'
              subst hw''
              clear ct0 ct1 cv0 cv1 t0 t1 v0 v1 c1 c2
              obtain ⟨W4, hW4⟩ : ∃ W4, Go.Sort.grow (redrawn W2 dq) osq = W4 := ⟨_, rfl⟩
              have hb4 : Below W2.heap.size W2 W4 := by rw [← hW4]; exact below_regrown _ _ _
              rw [hW4]
              clear hW4
              have HB4 := Lib.hid (HB3.out.trans (hb4.mono HB3.out.size))
              have HBW4 := Lib.hid (HBW3.out.trans (hb4.mono HBW3.out.size))
              clear hb4
              have HE := Lib.hid (NO.out (by simp))
              go_wp2
              go_ret
              exact ⟨by rw [HE.out]; rfl, HBW4.out⟩
            | false =>
              go_wp2_with fail
              refine wp_region_quiet_below (by kernel_rfl) (by kernel_rfl) ?_
              repeat (go_big_quiet_step (first | with_reducible exact Calls.regrown_of (c1 _) | with_reducible exact Calls.regrown_of (c2 _ _)))
              refine wpQuiet_nil ?_
              intro _ hw'
              obtain ⟨⟨dq, osq⟩, hw''⟩ := hw'
              subst hw''
              clear ct0 ct1 cv0 cv1 t0 t1 v0 v1 c1 c2
              obtain ⟨W4, hW4⟩ : ∃ W4, Go.Sort.grow (redrawn W2 dq) osq = W4 := ⟨_, rfl⟩
              have hb4 : Below W2.heap.size W2 W4 := by rw [← hW4]; exact below_regrown _ _ _
              rw [hW4]
              clear hW4
              have HB4 := Lib.hid (HB3.out.trans (hb4.mono HB3.out.size))
              have HBW4 := Lib.hid (HBW3.out.trans (hb4.mono HBW3.out.size))
              clear hb4
              have HA2 := Lib.hid (W.ok_snoc HX.out HA.out (by rw [HQ.out.1]; rfl))
              have HI2 := Lib.hid (W.ids_snoc HX.out HI.out HQ.out.2)
              go_wp2
              go_roundw
              case rel => exact ⟨j + 1, by go_num, by omega, HA2, HI2, HB4⟩
              case measure => simp [intOf] <;> omega
      · have dj : decide ((j : Int) < n) = false := by simp; omega
        obtain rfl : j = n := by omega
        have hlt2 : l.take j = l := List.take_of_length_le (by rw [HT.out.1]; exact Nat.le_refl _)
        rw [hlt2] at HA HI
        have HN : Hid (p = true ↔ W.Next l) := Lib.hid (by
          rw [← HP.out, W.may_iff, ← W.asc_next HI.out]
          exact ⟨fun hm => hm.2.2.2.2.1, fun ha => ⟨h1, h2, by rw [HT.out.1]; exact h3, HA.out, ha, HI.out⟩⟩)
        have hs := isSorted_any a j c l wr (HT.out.below HBW.out) hn p HN.out
        have v0 := HBX.out.b0
        have v1 := HBX.out.b1
        go_wp2_with fail
        refine hs.mono ?_
        rintro e w3 ⟨rfl, hb3⟩
        go_wp2
        go_ret
        exact ⟨rfl, HBW.out.trans (hb3.mono HBW.out.size)⟩
  · have HE : Hid (p = false) := Lib.hid (by
      rw [← HP.out]
      exact W.may_no fun hm => hb ⟨hm.1, hm.2.1, by rw [← HT.out.1]; exact hm.2.2.1⟩)
    by_cases h1 : k < 0
    · have d1 : decide (k < 0) = true := by simpa using h1
      go_wp2
      go_ret
      exact ⟨by rw [HE.out]; rfl, BB.out⟩
    · have d1 : decide (k < 0) = false := by simpa using h1
      by_cases h2 : 1073741824 < k
      · have d2 : decide ((1073741824 : Int) < k) = true := by simpa using h2
        go_wp2
        go_ret
        exact ⟨by rw [HE.out]; rfl, BB.out⟩
      · have d2 : decide ((1073741824 : Int) < k) = false := by simpa using h2
        have d3 : decide ((64 : Int) < (n : Int)) = true := by simp; omega
        go_wp2
        go_ret
        exact ⟨by rw [HE.out]; rfl, BB.out⟩
end Go.Proofs.Ytmegkfonodcoiaa
