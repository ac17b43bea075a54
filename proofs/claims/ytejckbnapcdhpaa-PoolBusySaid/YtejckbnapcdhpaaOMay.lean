/-
  Pools may be: pool.May.
-/
import Derived.Test.YtejckbnapcdhpaaOMeet
import Derived.Lib.QuietBelow
namespace Go.Proofs.Ytejckbnapcdhpaa
open Go.RowKit

/-- Small enough to be numbers. -/
def O.Sm (l : List O.Pl) : Prop := ∀ x ∈ l, x.f ≤ 9223372036854775807
theorem O.sm_may {l : List O.Pl} {out : Int} (h : O.May l out) : O.Sm l := fun x hx => by
  have h1 := O.fits_iff.1 (h.2.2.2.1 x hx)
  have h2 := h.2.1
  omega
theorem O.fits_split {p : O.Pl} {out : Int} : O.fits p out = (O.below p out && !decide (p.s < 0) && !decide (2 ≤ p.s)) := by
  rw [Bool.eq_iff_iff, O.fits_iff]
  simp only [Bool.and_eq_true, O.below_iff, Bool.not_eq_true', decide_eq_false_iff_not]
  omega
theorem O.fits_snoc {l : List O.Pl} {out : Int} {j : Nat} {x : O.Pl} (hx : l[j]? = some x) (h : ∀ q ∈ l.take j, O.fits q out = true) (h2 : O.fits x out = true) : ∀ q ∈ l.take (j + 1), O.fits q out = true := by
  intro q hq
  obtain ⟨h0, h1⟩ := List.getElem?_eq_some_iff.1 hx
  rw [List.take_succ_eq_append_getElem h0, List.mem_append, List.mem_singleton, h1] at hq
  rcases hq with hq | rfl
  · exact h q hq
  · exact h2
def O.Apart (l : List O.Pl) : Prop := l.Pairwise (fun q p => O.hit p q = false)
theorem O.then_act {K : Act → World → Prop} {Q : Exit → Act → World → Prop} {A B : Act} {w : World} (h : A = B) (hk : Exit.then K Q .normal B w) : Exit.then K Q .normal A w := h ▸ hk
theorem O.apart_snoc {l : List O.Pl} {j : Nat} {x : O.Pl} (hx : l[j]? = some x) (h : O.Apart (l.take j)) (h2 : (l.take j).any (O.hit x) = false) : O.Apart (l.take (j + 1)) := by
  obtain ⟨h0, h1⟩ := List.getElem?_eq_some_iff.1 hx
  unfold O.Apart
  rw [List.take_succ_eq_append_getElem h0, h1, List.pairwise_append]
  refine ⟨h, List.pairwise_singleton _ _, fun q hq p hp => ?_⟩
  obtain rfl := List.mem_singleton.1 hp
  have := List.any_eq_false.1 h2 q hq
  simpa using this
theorem O.apart_bad {l : List O.Pl} {j : Nat} {x : O.Pl} (hx : l[j]? = some x) (h2 : (l.take j).any (O.hit x) = true) : ¬ O.Apart l := by
  intro h
  obtain ⟨h0, h1⟩ := List.getElem?_eq_some_iff.1 hx
  obtain ⟨q, hq, h3⟩ := List.any_eq_true.1 h2
  have h4 : O.Apart (l.take (j + 1)) := List.Pairwise.sublist (List.take_sublist _ _) h
  unfold O.Apart at h4
  rw [List.take_succ_eq_append_getElem h0, h1, List.pairwise_append] at h4
  rw [h4.2.2 q hq x (List.mem_singleton.2 rfl)] at h3
  cases h3
set_option maxRecDepth 100000 in
set_option maxHeartbeats 1600000 in
theorem may_any (a : Option Addr) (n c : Nat) (l : List O.Pl) (out : Int) (p : Bool) (hp : O.may l out = p) (w : World) (h : QIn w a n c l) (hn : n ≤ 1000) (hz : O.Sm l) :
    Calls Try.prog 22 #[.slice a n c, .int .i64 out] w fun e w' => e = .returned (.bool p) ∧ Below w.heap.size w w' := by
  have HT := Lib.hid h
  have HP := Lib.hid hp
  have HZ := Lib.hid hz
  clear h hp hz
  go_enter Try.func22, Try.ntmps22
  by_cases hb : 0 ≤ out ∧ out ≤ 4 ∧ n ≤ 3
  · obtain ⟨h1, h2, h3⟩ := hb
    have d1 : decide (out < 0) = false := by simp; omega
    have d2 : decide (4 < out) = false := by simp; omega
    have d3 : decide (3 < (n : Int)) = false := by simp; omega
    go_wp2_with fail
    go_loopw [20] (fun i wr => ∃ j : Nat, i = .int .i64 j ∧ j ≤ n ∧ Hid (∀ t ∈ l.take j, O.fits t out = true) ∧ Hid (O.Apart (l.take j)) ∧ Hid (Below w.heap.size w wr)) (fun i _ => n - (intOf i).toNat)
    case atStart => exact ⟨0, by go_num, by omega, Lib.hid (by simp), Lib.hid (by simp [O.Apart]), Lib.hid (Below.refl _ _)⟩
    case round =>
      obtain ⟨j, rfl, hjn, HA, HI, HB⟩ := hrel
      by_cases hlt : j < n
      · have dj : decide ((j : Int) < n) = true := by simp; omega
        obtain ⟨b, off, x, rfl, hbl, hx, p0, p1, p2⟩ := (HT.out.below HB.out).at hlt
        have HX := Lib.hid hx
        have j0 : (0 : Int) ≤ j := by omega
        have j1 : (j : Int) < n := by omega
        have j2 : (j : Int) ≤ n := by omega
        have hcn : n ≤ c := HT.out.2.1.1
        have j3 : (j : Int) ≤ c := by omega
        have TB := Lib.hid (O.box_is wr x)
        have TBB := Lib.hid (O.box_below wr x)
        have HB2 := Lib.hid (HB.out.trans (TBB.out.mono HB.out.size))
        clear hx
        go_wp2_with fail
        obtain ⟨W2, hW2⟩ : ∃ W2, wr.alloc (.cells #[.int .i64 x.f, .int .i64 x.n, .int .i64 x.s] 37) = W2 := ⟨_, rfl⟩
        have TB3 : Hid (O.Bx W2 wr.heap.size x) := Lib.hid (by rw [← hW2]; exact TB.out)
        have HB3 : Hid (Below w.heap.size w W2) := Lib.hid (by rw [← hW2]; exact HB2.out)
        rw [hW2]
        clear hW2 TB TBB HB2 p0 p1 p2
        have t0 := TB3.out.b0
        have t1 := TB3.out.b1
        have t2 := TB3.out.b2
        have ct0 := fun d os => cell_regrown t0 d os
        have ct1 := fun d os => cell_regrown t1 d os
        have ct2 := fun d os => cell_regrown t2 d os
        have hz : x.f ≤ 9223372036854775807 := HZ.out x (List.mem_of_getElem? HX.out)
        obtain ⟨u1, hu1⟩ : ∃ q, O.below x out = q := ⟨_, rfl⟩
        obtain ⟨u2, hu2⟩ : ∃ q, (l.take j).any (O.hit x) = q := ⟨_, rfl⟩
        have c1 := fun V => obelow_any x out u1 V hu1 ⟨h1, h2⟩ hz
        unfold O.val at c1
        have HU1 := Lib.hid hu1
        have HU2 := Lib.hid hu2
        have NF : Hid (O.fits x out = false → p = false) := Lib.hid (fun h => by
          rw [← HP.out]
          refine O.may_no fun hm => ?_
          have := hm.2.2.2.1 x (List.mem_of_getElem? HX.out)
          rw [h] at this; cases this)
        have NH : Hid (u2 = true → p = false) := Lib.hid (fun h => by
          rw [← HP.out]
          exact O.may_no fun hm => O.apart_bad HX.out (by rw [HU2.out]; exact h) hm.2.2.2.2)
        clear hu1 hu2
        by_cases s1 : u1 = false
        · subst s1
          have HE : Hid (p = false) := Lib.hid (NF.out (by rw [O.fits_split, HU1.out]; rfl))
          go_wp2_with fail
          refine wp_region_quiet_below (by kernel_rfl) (by kernel_rfl) ?_
          repeat (go_big_quiet_step (with_reducible exact Calls.regrown_of (c1 _)))
          refine wpQuiet_nil ?_
          intro _ hw'
          obtain ⟨⟨dq, osq⟩, hw''⟩ := hw'
          subst hw''
          clear ct0 ct1 ct2 t0 t1 t2 c1
          have HB4 := Lib.hid (HB3.out.trans ((below_regrown W2 dq osq).mono HB3.out.size))
          go_wp2
          go_ret
          exact ⟨by rw [HE.out]; rfl, HB4.out⟩
        obtain rfl : u1 = true := by simpa using s1
        clear s1
        by_cases s2 : x.s < 0
        · have e1 : decide (x.s < 0) = true := by simpa using s2
          have HE : Hid (p = false) := Lib.hid (NF.out (by rw [O.fits_split, e1]; simp))
          go_wp2_with fail
          refine wp_region_quiet_below (by kernel_rfl) (by kernel_rfl) ?_
          repeat (go_big_quiet_step (with_reducible exact Calls.regrown_of (c1 _)))
          refine wpQuiet_nil ?_
          intro _ hw'
          obtain ⟨⟨dq, osq⟩, hw''⟩ := hw'
          subst hw''
          clear ct0 ct1 ct2 t0 t1 t2 c1
          have HB4 := Lib.hid (HB3.out.trans ((below_regrown W2 dq osq).mono HB3.out.size))
          go_wp2
          go_ret
          exact ⟨by rw [HE.out]; rfl, HB4.out⟩
        have e1 : decide (x.s < 0) = false := by simpa using s2
        by_cases s3 : 2 ≤ x.s
        · have e2 : decide (2 ≤ x.s) = true := by simpa using s3
          have HE : Hid (p = false) := Lib.hid (NF.out (by rw [O.fits_split, e2]; simp))
          go_wp2_with fail
          refine wp_region_quiet_below (by kernel_rfl) (by kernel_rfl) ?_
          repeat (go_big_quiet_step (with_reducible exact Calls.regrown_of (c1 _)))
          refine wpQuiet_nil ?_
          intro _ hw'
          obtain ⟨⟨dq, osq⟩, hw''⟩ := hw'
          subst hw''
          clear ct0 ct1 ct2 t0 t1 t2 c1
          have HB4 := Lib.hid (HB3.out.trans ((below_regrown W2 dq osq).mono HB3.out.size))
          go_wp2
          go_ret
          exact ⟨by rw [HE.out]; rfl, HB4.out⟩
        have e2 : decide (2 ≤ x.s) = false := by simpa using s3
        have FX : Hid (O.fits x out = true) := Lib.hid (by rw [O.fits_split, HU1.out, e1, e2]; rfl)
        have HT2 := Lib.hid ((HT.out.take j hjn).below HB3.out)
        have c2 := fun V => meeting_any x V
        unfold O.val at c2
        have hu2 := HU2.out
        clear ct0 ct1 ct2 t0 t1 t2 s2 s3
        cases u2 with
        | true =>
          have HE : Hid (p = false) := Lib.hid (NH.out rfl)
          go_wp2_with fail
          refine wp_region_held (S := fun w' => Below W2.heap.size W2 w') (by kernel_rfl) ?_
          change wpAnyH _ _ _ _ _ _ _ _ (World.drew _)
          have HS0 : (fun w' => Below W2.heap.size W2 w') (World.drew W2) := below_drew W2
          refine wpAnyH_take (i := 0) (v := (.agg #[.int .i64 x.f, .int .i64 x.n, .int .i64 x.s])) rfl (by kernel_rfl) (by kernel_rfl) (by kernel_rfl) (fun _ _ _ h => h) (.inl ⟨by kernel_rfl, fun w9 hS => by have k := TB3.out.on hS; have k0 := k.b0; have k1 := k.b1; have k2 := k.b2; go_simp⟩) HS0 ?_
          refine wpAnyH_take (i := 1) (v := (.int .i64 out)) rfl (by kernel_rfl) (by kernel_rfl) (by kernel_rfl) (fun _ _ _ h => h) (.inl ⟨by kernel_rfl, fun w9 hS => by kernel_rfl⟩) HS0 ?_
          refine wpAnyH_call (i := 2) (f := 27) (args := #[(.agg #[.int .i64 x.f, .int .i64 x.n, .int .i64 x.s]), .int .i64 out]) (by kernel_rfl) rfl (by kernel_rfl) (by kernel_rfl) (c1 _) ?_
          rintro e w3 ⟨rfl, hbw3⟩
          have HS1 : (fun w' => Below W2.heap.size W2 w') w3 := Below.trans HS0 (hbw3.mono (Below.size HS0))
          refine ⟨_, rfl, HS1, ?_⟩
          refine wpAnyH_take (i := 3) (v := (.bool false)) rfl (by kernel_rfl) (by kernel_rfl) (by kernel_rfl) (fun _ _ _ h => h) (.inl ⟨by kernel_rfl, fun w9 hS => by kernel_rfl⟩) HS1 ?_
          refine wpAnyH_take (i := 4) (v := (.bool false)) rfl (by kernel_rfl) (by kernel_rfl) (by kernel_rfl) (fun _ _ _ h => h) (.inl ⟨by kernel_rfl, fun w9 hS => by kernel_rfl⟩) HS1 ?_
          refine wpAnyH_take (i := 5) (v := (.pointer (some ⟨wr.heap.size, 2, none⟩))) rfl (by kernel_rfl) (by kernel_rfl) (by kernel_rfl) (fun _ _ _ h => h) (.inl ⟨by kernel_rfl, fun w9 hS => by kernel_rfl⟩) HS1 ?_
          refine wpAnyH_take (i := 6) (v := (.int .i64 x.s)) rfl (by kernel_rfl) (by kernel_rfl) (by kernel_rfl) (fun _ _ _ h => h) (.inl ⟨by kernel_rfl, fun w9 hS => by have k := TB3.out.on hS; have k0 := k.b0; have k1 := k.b1; have k2 := k.b2; go_simp⟩) HS1 ?_
          refine wpAnyH_take (i := 7) (v := (.bool false)) rfl (by kernel_rfl) (by kernel_rfl) (by kernel_rfl) (fun _ _ _ h => h) (.inl ⟨by kernel_rfl, fun w9 hS => (show _ = Result.ok (.value (.bool (decide (x.s < 0)))) w9 by kernel_rfl).trans (by rw [e1])⟩) HS1 ?_
          refine wpAnyH_take (i := 8) (v := (.bool false)) rfl (by kernel_rfl) (by kernel_rfl) (by kernel_rfl) (fun _ _ _ h => h) (.inl ⟨by kernel_rfl, fun w9 hS => by kernel_rfl⟩) HS1 ?_
          refine wpAnyH_take (i := 9) (v := (.bool false)) rfl (by kernel_rfl) (by kernel_rfl) (by kernel_rfl) (fun _ _ _ h => h) (.inl ⟨by kernel_rfl, fun w9 hS => by kernel_rfl⟩) HS1 ?_
          refine wpAnyH_take (i := 10) (v := (.pointer (some ⟨wr.heap.size, 2, none⟩))) rfl (by kernel_rfl) (by kernel_rfl) (by kernel_rfl) (fun _ _ _ h => h) (.inl ⟨by kernel_rfl, fun w9 hS => by kernel_rfl⟩) HS1 ?_
          refine wpAnyH_take (i := 11) (v := (.int .i64 x.s)) rfl (by kernel_rfl) (by kernel_rfl) (by kernel_rfl) (fun _ _ _ h => h) (.inl ⟨by kernel_rfl, fun w9 hS => by have k := TB3.out.on hS; have k0 := k.b0; have k1 := k.b1; have k2 := k.b2; go_simp⟩) HS1 ?_
          refine wpAnyH_take (i := 12) (v := (.bool false)) rfl (by kernel_rfl) (by kernel_rfl) (by kernel_rfl) (fun _ _ _ h => h) (.inl ⟨by kernel_rfl, fun w9 hS => (show _ = Result.ok (.value (.bool (decide (2 ≤ x.s)))) w9 by kernel_rfl).trans (by rw [e2])⟩) HS1 ?_
          refine wpAnyH_take (i := 13) (v := (.bool false)) rfl (by kernel_rfl) (by kernel_rfl) (by kernel_rfl) (fun _ _ _ h => h) (.inl ⟨by kernel_rfl, fun w9 hS => by kernel_rfl⟩) HS1 ?_
          refine wpAnyH_take (i := 14) (v := (.bool false)) rfl (by kernel_rfl) (by kernel_rfl) (by kernel_rfl) (fun _ _ _ h => h) (.inl ⟨by kernel_rfl, fun w9 hS => by kernel_rfl⟩) HS1 ?_
          refine wpAnyH_take (i := 15) (v := (.slice (some ⟨b, off, none⟩) n c)) rfl (by kernel_rfl) (by kernel_rfl) (by kernel_rfl) (fun _ _ _ h => h) (.inl ⟨by kernel_rfl, fun w9 hS => by kernel_rfl⟩) HS1 ?_
          refine wpAnyH_take (i := 16) (v := (.int .i64 j)) rfl (by kernel_rfl) (by kernel_rfl) (by kernel_rfl) (fun _ _ _ h => h) (.inl ⟨by kernel_rfl, fun w9 hS => by kernel_rfl⟩) HS1 ?_
          refine wpAnyH_take (i := 17) (v := (.slice (some ⟨b, off, none⟩) j c)) rfl (by kernel_rfl) (by kernel_rfl) (by kernel_rfl) (fun _ _ _ h => h) (.inl ⟨by kernel_rfl, fun w9 hS => by go_simp⟩) HS1 ?_
          refine wpAnyH_take (i := 18) (v := (.agg #[.int .i64 x.f, .int .i64 x.n, .int .i64 x.s])) rfl (by kernel_rfl) (by kernel_rfl) (by kernel_rfl) (fun _ _ _ h => h) (.inl ⟨by kernel_rfl, fun w9 hS => by have k := TB3.out.on hS; have k0 := k.b0; have k1 := k.b1; have k2 := k.b2; go_simp⟩) HS1 ?_
          refine wpAnyH_call (i := 19) (f := 30) (args := #[(.agg #[.int .i64 x.f, .int .i64 x.n, .int .i64 x.s])]) (by kernel_rfl) rfl (by kernel_rfl) (by kernel_rfl) (c2 _) ?_
          rintro e w4 ⟨bx, rfl, HX4, hbw4⟩
          have HS2 : (fun w' => Below W2.heap.size W2 w') w4 := Below.trans HS1 (hbw4.mono (Below.size HS1))
          refine ⟨_, rfl, HS2, ?_⟩
          refine wpAnyH_mono (S' := fun w' => Below w4.heap.size w4 w') (fun w' h => Below.trans HS2 (h.mono (Below.size HS2))) _ _ _ _ ?_
          have HS3 : (fun w' => Below w4.heap.size w4 w') w4 := Below.refl _ _
          refine wpAnyH_call (i := 20) (f := 29) (args := #[.slice (some ⟨b, off, none⟩) j c, O.clo bx]) (by kernel_rfl) rfl (by kernel_rfl) (by kernel_rfl) (hits_any (some ⟨b, off, none⟩) j c (l.take j) x bx true hu2 _ (HT2.out.below HS2) HX4.out (by omega)) ?_
          rintro e w5 ⟨rfl, hbw5⟩
          have HS4 : (fun w' => Below w4.heap.size w4 w') w5 := Below.trans HS3 (hbw5.mono (Below.size HS3))
          refine ⟨_, rfl, HS4, ?_⟩
          refine wpAnyH_take (i := 21) (v := (.bool true)) rfl (by kernel_rfl) (by kernel_rfl) (by kernel_rfl) (fun _ _ _ h => h) (.inl ⟨by kernel_rfl, fun w9 hS => by kernel_rfl⟩) HS4 ?_
          refine wpAnyH_done (by kernel_rfl) ?_ _
          refine O.then_act (B := ⟨#[.slice (some ⟨b, off, none⟩) n c, .int .i64 out, undef, undef, u4, .int .i64 j, .pointer (some ⟨wr.heap.size, 0, none⟩), .int .i64 out, .bool false, .bool false, .int .i64 out, .bool false, .bool false, .bool false, .slice (some ⟨b, off, none⟩) n c, .int .i64 n, .bool false, .bool false, .slice (some ⟨b, off, none⟩) n c, .int .i64 n, .int .i64 j, .bool true, .int .i64 j, .pointer (some ⟨b, off + j * 3, none⟩), .agg #[.int .i64 x.f, .int .i64 x.n, .int .i64 x.s], .agg #[.int .i64 x.f, .int .i64 x.n, .int .i64 x.s], .int .i64 out, .bool true, .bool false, .bool false, .pointer (some ⟨wr.heap.size, 2, none⟩), .int .i64 x.s, .bool false, .bool false, .bool false, .pointer (some ⟨wr.heap.size, 2, none⟩), .int .i64 x.s, .bool false, .bool false, .bool false, .slice (some ⟨b, off, none⟩) n c, .int .i64 j, .slice (some ⟨b, off, none⟩) j c, .agg #[.int .i64 x.f, .int .i64 x.n, .int .i64 x.s], O.clo bx, .bool true, .bool true, u47], []⟩) (by kernel_rfl) ?_
          have HB5 := Lib.hid (HB3.out.trans (HS2.mono HB3.out.size))
          have HB6 := Lib.hid (HB5.out.trans (hbw5.mono HB5.out.size))
          clear c1 c2 HS0 HS1 HS2 HS3 HS4 hbw3 hbw4 hbw5
          go_wp2
          go_ret
          exact ⟨by rw [HE.out]; rfl, HB6.out⟩
        | false =>
          have HA2 := Lib.hid (O.fits_snoc HX.out HA.out FX.out)
          have HI2 := Lib.hid (O.apart_snoc HX.out HI.out HU2.out)
          go_wp2_with fail
          refine wp_region_held (S := fun w' => Below W2.heap.size W2 w') (by kernel_rfl) ?_
          change wpAnyH _ _ _ _ _ _ _ _ (World.drew _)
          have HS0 : (fun w' => Below W2.heap.size W2 w') (World.drew W2) := below_drew W2
          refine wpAnyH_take (i := 0) (v := (.agg #[.int .i64 x.f, .int .i64 x.n, .int .i64 x.s])) rfl (by kernel_rfl) (by kernel_rfl) (by kernel_rfl) (fun _ _ _ h => h) (.inl ⟨by kernel_rfl, fun w9 hS => by have k := TB3.out.on hS; have k0 := k.b0; have k1 := k.b1; have k2 := k.b2; go_simp⟩) HS0 ?_
          refine wpAnyH_take (i := 1) (v := (.int .i64 out)) rfl (by kernel_rfl) (by kernel_rfl) (by kernel_rfl) (fun _ _ _ h => h) (.inl ⟨by kernel_rfl, fun w9 hS => by kernel_rfl⟩) HS0 ?_
          refine wpAnyH_call (i := 2) (f := 27) (args := #[(.agg #[.int .i64 x.f, .int .i64 x.n, .int .i64 x.s]), .int .i64 out]) (by kernel_rfl) rfl (by kernel_rfl) (by kernel_rfl) (c1 _) ?_
          rintro e w3 ⟨rfl, hbw3⟩
          have HS1 : (fun w' => Below W2.heap.size W2 w') w3 := Below.trans HS0 (hbw3.mono (Below.size HS0))
          refine ⟨_, rfl, HS1, ?_⟩
          refine wpAnyH_take (i := 3) (v := (.bool false)) rfl (by kernel_rfl) (by kernel_rfl) (by kernel_rfl) (fun _ _ _ h => h) (.inl ⟨by kernel_rfl, fun w9 hS => by kernel_rfl⟩) HS1 ?_
          refine wpAnyH_take (i := 4) (v := (.bool false)) rfl (by kernel_rfl) (by kernel_rfl) (by kernel_rfl) (fun _ _ _ h => h) (.inl ⟨by kernel_rfl, fun w9 hS => by kernel_rfl⟩) HS1 ?_
          refine wpAnyH_take (i := 5) (v := (.pointer (some ⟨wr.heap.size, 2, none⟩))) rfl (by kernel_rfl) (by kernel_rfl) (by kernel_rfl) (fun _ _ _ h => h) (.inl ⟨by kernel_rfl, fun w9 hS => by kernel_rfl⟩) HS1 ?_
          refine wpAnyH_take (i := 6) (v := (.int .i64 x.s)) rfl (by kernel_rfl) (by kernel_rfl) (by kernel_rfl) (fun _ _ _ h => h) (.inl ⟨by kernel_rfl, fun w9 hS => by have k := TB3.out.on hS; have k0 := k.b0; have k1 := k.b1; have k2 := k.b2; go_simp⟩) HS1 ?_
          refine wpAnyH_take (i := 7) (v := (.bool false)) rfl (by kernel_rfl) (by kernel_rfl) (by kernel_rfl) (fun _ _ _ h => h) (.inl ⟨by kernel_rfl, fun w9 hS => (show _ = Result.ok (.value (.bool (decide (x.s < 0)))) w9 by kernel_rfl).trans (by rw [e1])⟩) HS1 ?_
          refine wpAnyH_take (i := 8) (v := (.bool false)) rfl (by kernel_rfl) (by kernel_rfl) (by kernel_rfl) (fun _ _ _ h => h) (.inl ⟨by kernel_rfl, fun w9 hS => by kernel_rfl⟩) HS1 ?_
          refine wpAnyH_take (i := 9) (v := (.bool false)) rfl (by kernel_rfl) (by kernel_rfl) (by kernel_rfl) (fun _ _ _ h => h) (.inl ⟨by kernel_rfl, fun w9 hS => by kernel_rfl⟩) HS1 ?_
          refine wpAnyH_take (i := 10) (v := (.pointer (some ⟨wr.heap.size, 2, none⟩))) rfl (by kernel_rfl) (by kernel_rfl) (by kernel_rfl) (fun _ _ _ h => h) (.inl ⟨by kernel_rfl, fun w9 hS => by kernel_rfl⟩) HS1 ?_
          refine wpAnyH_take (i := 11) (v := (.int .i64 x.s)) rfl (by kernel_rfl) (by kernel_rfl) (by kernel_rfl) (fun _ _ _ h => h) (.inl ⟨by kernel_rfl, fun w9 hS => by have k := TB3.out.on hS; have k0 := k.b0; have k1 := k.b1; have k2 := k.b2; go_simp⟩) HS1 ?_
          refine wpAnyH_take (i := 12) (v := (.bool false)) rfl (by kernel_rfl) (by kernel_rfl) (by kernel_rfl) (fun _ _ _ h => h) (.inl ⟨by kernel_rfl, fun w9 hS => (show _ = Result.ok (.value (.bool (decide (2 ≤ x.s)))) w9 by kernel_rfl).trans (by rw [e2])⟩) HS1 ?_
          refine wpAnyH_take (i := 13) (v := (.bool false)) rfl (by kernel_rfl) (by kernel_rfl) (by kernel_rfl) (fun _ _ _ h => h) (.inl ⟨by kernel_rfl, fun w9 hS => by kernel_rfl⟩) HS1 ?_
          refine wpAnyH_take (i := 14) (v := (.bool false)) rfl (by kernel_rfl) (by kernel_rfl) (by kernel_rfl) (fun _ _ _ h => h) (.inl ⟨by kernel_rfl, fun w9 hS => by kernel_rfl⟩) HS1 ?_
          refine wpAnyH_take (i := 15) (v := (.slice (some ⟨b, off, none⟩) n c)) rfl (by kernel_rfl) (by kernel_rfl) (by kernel_rfl) (fun _ _ _ h => h) (.inl ⟨by kernel_rfl, fun w9 hS => by kernel_rfl⟩) HS1 ?_
          refine wpAnyH_take (i := 16) (v := (.int .i64 j)) rfl (by kernel_rfl) (by kernel_rfl) (by kernel_rfl) (fun _ _ _ h => h) (.inl ⟨by kernel_rfl, fun w9 hS => by kernel_rfl⟩) HS1 ?_
          refine wpAnyH_take (i := 17) (v := (.slice (some ⟨b, off, none⟩) j c)) rfl (by kernel_rfl) (by kernel_rfl) (by kernel_rfl) (fun _ _ _ h => h) (.inl ⟨by kernel_rfl, fun w9 hS => by go_simp⟩) HS1 ?_
          refine wpAnyH_take (i := 18) (v := (.agg #[.int .i64 x.f, .int .i64 x.n, .int .i64 x.s])) rfl (by kernel_rfl) (by kernel_rfl) (by kernel_rfl) (fun _ _ _ h => h) (.inl ⟨by kernel_rfl, fun w9 hS => by have k := TB3.out.on hS; have k0 := k.b0; have k1 := k.b1; have k2 := k.b2; go_simp⟩) HS1 ?_
          refine wpAnyH_call (i := 19) (f := 30) (args := #[(.agg #[.int .i64 x.f, .int .i64 x.n, .int .i64 x.s])]) (by kernel_rfl) rfl (by kernel_rfl) (by kernel_rfl) (c2 _) ?_
          rintro e w4 ⟨bx, rfl, HX4, hbw4⟩
          have HS2 : (fun w' => Below W2.heap.size W2 w') w4 := Below.trans HS1 (hbw4.mono (Below.size HS1))
          refine ⟨_, rfl, HS2, ?_⟩
          refine wpAnyH_mono (S' := fun w' => Below w4.heap.size w4 w') (fun w' h => Below.trans HS2 (h.mono (Below.size HS2))) _ _ _ _ ?_
          have HS3 : (fun w' => Below w4.heap.size w4 w') w4 := Below.refl _ _
          refine wpAnyH_call (i := 20) (f := 29) (args := #[.slice (some ⟨b, off, none⟩) j c, O.clo bx]) (by kernel_rfl) rfl (by kernel_rfl) (by kernel_rfl) (hits_any (some ⟨b, off, none⟩) j c (l.take j) x bx false hu2 _ (HT2.out.below HS2) HX4.out (by omega)) ?_
          rintro e w5 ⟨rfl, hbw5⟩
          have HS4 : (fun w' => Below w4.heap.size w4 w') w5 := Below.trans HS3 (hbw5.mono (Below.size HS3))
          refine ⟨_, rfl, HS4, ?_⟩
          refine wpAnyH_take (i := 21) (v := (.bool false)) rfl (by kernel_rfl) (by kernel_rfl) (by kernel_rfl) (fun _ _ _ h => h) (.inl ⟨by kernel_rfl, fun w9 hS => by kernel_rfl⟩) HS4 ?_
          refine wpAnyH_done (by kernel_rfl) ?_ _
          refine O.then_act (B := ⟨#[.slice (some ⟨b, off, none⟩) n c, .int .i64 out, undef, undef, u4, .int .i64 j, .pointer (some ⟨wr.heap.size, 0, none⟩), .int .i64 out, .bool false, .bool false, .int .i64 out, .bool false, .bool false, .bool false, .slice (some ⟨b, off, none⟩) n c, .int .i64 n, .bool false, .bool false, .slice (some ⟨b, off, none⟩) n c, .int .i64 n, .int .i64 j, .bool true, .int .i64 j, .pointer (some ⟨b, off + j * 3, none⟩), .agg #[.int .i64 x.f, .int .i64 x.n, .int .i64 x.s], .agg #[.int .i64 x.f, .int .i64 x.n, .int .i64 x.s], .int .i64 out, .bool true, .bool false, .bool false, .pointer (some ⟨wr.heap.size, 2, none⟩), .int .i64 x.s, .bool false, .bool false, .bool false, .pointer (some ⟨wr.heap.size, 2, none⟩), .int .i64 x.s, .bool false, .bool false, .bool false, .slice (some ⟨b, off, none⟩) n c, .int .i64 j, .slice (some ⟨b, off, none⟩) j c, .agg #[.int .i64 x.f, .int .i64 x.n, .int .i64 x.s], O.clo bx, .bool false, .bool false, u47], []⟩) (by kernel_rfl) ?_
          have HB5 := Lib.hid (HB3.out.trans (HS2.mono HB3.out.size))
          have HB6 := Lib.hid (HB5.out.trans (hbw5.mono HB5.out.size))
          clear c1 c2 HS0 HS1 HS2 HS3 HS4 hbw3 hbw4 hbw5
          go_wp2
          go_roundw
          case rel => exact ⟨j + 1, by go_num, by omega, HA2, HI2, HB6⟩
          case measure => simp [intOf] <;> omega
      · have dj : decide ((j : Int) < n) = false := by simp; omega
        obtain rfl : j = n := by omega
        have hlt2 : l.take j = l := List.take_of_length_le (by rw [HT.out.1]; exact Nat.le_refl _)
        rw [hlt2] at HA HI
        have HE : Hid (p = true) := Lib.hid (by
          rw [← HP.out]
          exact O.may_iff.2 ⟨h1, h2, by rw [HT.out.1]; exact h3, HA.out, HI.out⟩)
        go_wp2
        go_ret
        exact ⟨by rw [HE.out]; rfl, HB.out⟩
  · have HE : Hid (p = false) := Lib.hid (by
      rw [← HP.out]
      exact O.may_no fun hm => hb ⟨hm.1, hm.2.1, by rw [← HT.out.1]; exact hm.2.2.1⟩)
    by_cases h1 : out < 0
    · have d1 : decide (out < 0) = true := by simpa using h1
      go_wp2
      go_ret
      exact ⟨by rw [HE.out]; rfl, Below.refl _ _⟩
    · have d1 : decide (out < 0) = false := by simpa using h1
      by_cases h2 : 4 < out
      · have d2 : decide (4 < out) = true := by simpa using h2
        go_wp2
        go_ret
        exact ⟨by rw [HE.out]; rfl, Below.refl _ _⟩
      · have d2 : decide (4 < out) = false := by simpa using h2
        have d3 : decide (3 < (n : Int)) = true := by simp; omega
        go_wp2
        go_ret
        exact ⟨by rw [HE.out]; rfl, Below.refl _ _⟩
end Go.Proofs.Ytejckbnapcdhpaa
