import Derived.Lib.QuietBelow
import Derived.Deep.AppendLies
import Derived.Deep.RegionLaw
import Derived.Deep.Cut
import Derived.Deep.CutRange
import Derived.Deep.RegionWith
import Derived.Test.YtnbkkjcmblfhpaaGreatP5
import Derived.Test.YtnbkkjcmblfhpaaGreatP0
import Derived.Test.YtnbkkjcmblfhpaaGreatP8
import Derived.Test.YtnbkkjcmblfhpaaGreatP9
namespace Go.Proofs.YtnbkkjcmblfhpaaGreat
set_option maxHeartbeats 1600000
set_option maxRecDepth 100000
open Go.RowKit
theorem O.fits_split {p : O.Pl} {out : Int} : O.fits p out = (O.below p out && !decide (p.s < 0) && !decide (2 <= p.s)) := by
 rw [Bool.eq_iff_iff, O.fits_iff]
 simp only [Bool.and_eq_true, O.below_iff, Bool.not_eq_true', decide_eq_false_iff_not]
 omega
theorem O.fits_snoc {l : List O.Pl} {out : Int} {j : Nat} {x : O.Pl} (hx : l[j]? = some x) (h : ∀ q ∈ l.take j, O.fits q out = true) (h2 : O.fits x out = true) : ∀ q ∈ l.take (j + 1), O.fits q out = true := by
 intro q hq
 obtain ⟨h0, h1⟩ := List.getElem?_eq_some_iff.1 hx
 rw [List.take_succ_eq_append_getElem h0, List.mem_append, List.mem_singleton, h1] at hq
 rcases hq with hq | rfl
 ·exact h q hq
 ·exact h2
theorem O.then_act {K : Act -> World -> Prop} {Q : Exit -> Act -> World -> Prop} {A B : Act} {w : World} (h : A = B) (hk : Exit.then K Q .normal B w) : Exit.then K Q .normal A w := h ▸ hk
theorem O.apart_snoc {l : List O.Pl} {j : Nat} {x : O.Pl} (hx : l[j]? = some x) (h : O.Apart (l.take j)) (h2 : (l.take j).any (O.hit x) = false) : O.Apart (l.take (j + 1)) := by
 obtain ⟨h0, h1⟩ := List.getElem?_eq_some_iff.1 hx
 unfold O.Apart
 rw [List.take_succ_eq_append_getElem h0, h1, List.pairwise_append]
 refine ⟨h, List.pairwise_singleton _ _, fun q hq p hp => ?_⟩
 obtain rfl := List.mem_singleton.1 hp
 have := List.any_eq_false.1 h2 q hq
 simpa using this
theorem O.apart_bad {l : List O.Pl} {j : Nat} {x : O.Pl} (hx : l[j]? = some x) (h2 : (l.take j).any (O.hit x) = true) : ¬ O.Apart l := by
 intro h
 obtain ⟨h0, h1⟩ := List.getElem?_eq_some_iff.1 hx
 obtain ⟨q, hq, h3⟩ := List.any_eq_true.1 h2
 have h4 : O.Apart (l.take (j + 1)) := List.Pairwise.sublist (List.take_sublist _ _) h
 unfold O.Apart at h4
 rw [List.take_succ_eq_append_getElem h0, h1, List.pairwise_append] at h4
 rw [h4.2.2 q hq x (List.mem_singleton.2 rfl)] at h3
 cases h3
theorem zbi (a : Option Addr) (n c : Nat) (l : List O.Pl) (out : Int) (p : Bool) (hp : O.may l out = p) (w : World) (h : QIn w a n c l) (hn : n <= 1000) (hz : O.Sm l) :
  Calls Tryz.prog 133 #[.slice a n c, .int .i64 out] w fun e w' => e = .returned (.bool p) /\ Below w.heap.size w w' := by
 have HT := Zh h
 have HP := Zh hp
 have HZ := Zh hz
 clear h hp hz
 go_enter Tryz.func133, Tryz.ntmps133
 by_cases hb : 0 <= out /\ out <= 4 /\ n <= 3
 ·obtain ⟨h1, h2, h3⟩ := hb
  have d1 : decide (out < 0) = false := by simp; omega
  have d2 : decide (4 < out) = false := by simp; omega
  have d3 : decide (3 < (n : Int)) = false := by simp; omega
  go_wp2_with fail
  go_loopw [20] (fun i wr => ∃ j : Nat, i = .int .i64 j /\ j <= n /\ Hid (∀ t ∈ l.take j, O.fits t out = true) /\ Hid (O.Apart (l.take j)) /\ Hid (Below w.heap.size w wr)) (fun i _ => n - (intOf i).toNat)
  case atStart => exact ⟨0, by go_num, by omega, Zh (by simp), Zh (by simp [O.Apart]), Zh (Below.refl _ _)⟩
  case round =>
   obtain ⟨j, rfl, hjn, HA, HI, HB⟩ := hrel
   by_cases hlt : j < n
   ·have dj : decide ((j : Int) < n) = true := by simp; omega
    obtain ⟨b, off, x, rfl, hbl, hx, p0, p1, p2⟩ := (HT.out.below HB.out).at hlt
    have HX := Zh hx
    have j0 : (0 : Int) <= j := by omega
    have j1 : (j : Int) < n := by omega
    have j2 : (j : Int) <= n := by omega
    have hcn : n <= c := HT.out.2.1.1
    have j3 : (j : Int) <= c := by omega
    have TB := Zh (O.box_is wr x)
    have TBB := Zh (O.box_below wr x)
    have HB2 := Zh (HB.out.trans (TBB.out.mono HB.out.size))
    clear hx
    go_wp2_with fail
    obtain ⟨W2, hW2⟩ : ∃ W2, wr.alloc (.cells #[.int .i64 x.f, .int .i64 x.n, .int .i64 x.s] 170) = W2 := ⟨_, rfl⟩
    have TB3 : Hid (O.Bx W2 wr.heap.size x) := Zh (by rw [<- hW2]; exact TB.out)
    have HB3 : Hid (Below w.heap.size w W2) := Zh (by rw [<- hW2]; exact HB2.out)
    rw [hW2]
    clear hW2 TB TBB HB2 p0 p1 p2
    have t0 := TB3.out.b0
    have t1 := TB3.out.b1
    have t2 := TB3.out.b2
    have ct0 := fun d os => cell_regrown t0 d os
    have ct1 := fun d os => cell_regrown t1 d os
    have ct2 := fun d os => cell_regrown t2 d os
    have hz : x.f <= 9223372036854775807 := HZ.out x (List.mem_of_getElem? HX.out)
    obtain ⟨u1, hu1⟩ : ∃ q, O.below x out = q := ⟨_, rfl⟩
    obtain ⟨u2, hu2⟩ : ∃ q, (l.take j).any (O.hit x) = q := ⟨_, rfl⟩
    have c1 := fun V => za1 x out u1 V hu1 ⟨h1, h2⟩ hz
    unfold O.val at c1
    have HU1 := Zh hu1
    have HU2 := Zh hu2
    have NF : Hid (O.fits x out = false -> p = false) := Zh (fun h => by
     rw [<- HP.out]
     refine O.may_no fun hm => ?_
     have := hm.2.2.2.1 x (List.mem_of_getElem? HX.out)
     rw [h] at this; cases this)
    have NH : Hid (u2 = true -> p = false) := Zh (fun h => by
     rw [<- HP.out]
     exact O.may_no fun hm => O.apart_bad HX.out (by rw [HU2.out]; exact h) hm.2.2.2.2)
    clear hu1 hu2
    by_cases s1 : u1 = false
    ·subst s1
     have HE : Hid (p = false) := Zh (NF.out (by rw [O.fits_split, HU1.out]; rfl))
     go_wp2_with fail
     refine wp_region_quiet_below (by kernel_rfl) (by kernel_rfl) ?_
     repeat (go_big_quiet_step (with_reducible exact Calls.regrown_of (c1 _)))
     refine wpQuiet_nil ?_
     intro _ hw'
     obtain ⟨⟨dq, osq⟩, hw''⟩ := hw'
     subst hw''
     clear ct0 ct1 ct2 t0 t1 t2 c1
     have HB4 := Zh (HB3.out.trans ((below_regrown W2 dq osq).mono HB3.out.size))
     go_wp2
     go_ret
     exact ⟨by rw [HE.out]; rfl, HB4.out⟩
    obtain rfl : u1 = true := by simpa using s1
    clear s1
    by_cases s2 : x.s < 0
    ·have e1 : decide (x.s < 0) = true := by simpa using s2
     have HE : Hid (p = false) := Zh (NF.out (by rw [O.fits_split, e1]; simp))
     go_wp2_with fail
     refine wp_region_quiet_below (by kernel_rfl) (by kernel_rfl) ?_
     repeat (go_big_quiet_step (with_reducible exact Calls.regrown_of (c1 _)))
     refine wpQuiet_nil ?_
     intro _ hw'
     obtain ⟨⟨dq, osq⟩, hw''⟩ := hw'
     subst hw''
     clear ct0 ct1 ct2 t0 t1 t2 c1
     have HB4 := Zh (HB3.out.trans ((below_regrown W2 dq osq).mono HB3.out.size))
     go_wp2
     go_ret
     exact ⟨by rw [HE.out]; rfl, HB4.out⟩
    have e1 : decide (x.s < 0) = false := by simpa using s2
    by_cases s3 : 2 <= x.s
    ·have e2 : decide (2 <= x.s) = true := by simpa using s3
     have HE : Hid (p = false) := Zh (NF.out (by rw [O.fits_split, e2]; simp))
     go_wp2_with fail
     refine wp_region_quiet_below (by kernel_rfl) (by kernel_rfl) ?_
     repeat (go_big_quiet_step (with_reducible exact Calls.regrown_of (c1 _)))
     refine wpQuiet_nil ?_
     intro _ hw'
     obtain ⟨⟨dq, osq⟩, hw''⟩ := hw'
     subst hw''
     clear ct0 ct1 ct2 t0 t1 t2 c1
     have HB4 := Zh (HB3.out.trans ((below_regrown W2 dq osq).mono HB3.out.size))
     go_wp2
     go_ret
     exact ⟨by rw [HE.out]; rfl, HB4.out⟩
    have e2 : decide (2 <= x.s) = false := by simpa using s3
    have FX : Hid (O.fits x out = true) := Zh (by rw [O.fits_split, HU1.out, e1, e2]; rfl)
    have HT2 := Zh ((HT.out.take j hjn).below HB3.out)
    have c2 := fun V => za7 x V
    unfold O.val at c2
    have hu2 := HU2.out
    clear ct0 ct1 ct2 t0 t1 t2 s2 s3
    cases u2 with
    | true =>
     have HE : Hid (p = false) := Zh (NH.out rfl)
     go_wp2_with fail
     refine Zd (fun w' => Below W2.heap.size W2 w') (zaa W2) fun HS0 => ?_
     refine wpAnyH_take (i := 0) (v := (.agg #[.int .i64 x.f, .int .i64 x.n, .int .i64 x.s])) rfl (by kernel_rfl) (by kernel_rfl) (by kernel_rfl) (fun _ _ _ h => h) (.inl ⟨by kernel_rfl, fun w9 hS => by have k := TB3.out.on hS; have k0 := k.b0; have k1 := k.b1; have k2 := k.b2; go_simp⟩) HS0 ?_
     refine tk 1 ((.int .i64 out)) HS0 ?_
     refine Zc 2 205 #[(.agg #[.int .i64 x.f, .int .i64 x.n, .int .i64 x.s]), .int .i64 out] (c1 _) ?_
     rintro e w3 ⟨rfl, hbw3⟩
     refine Zu (Zr HS0 hbw3) fun HS1 => ?_
     refine tk 3 ((.bool false)) HS1 ?_
     refine tk 4 ((.bool false)) HS1 ?_
     refine tk 5 ((.pointer (some ⟨wr.heap.size, 2, none⟩))) HS1 ?_
     refine wpAnyH_take (i := 6) (v := (.int .i64 x.s)) rfl (by kernel_rfl) (by kernel_rfl) (by kernel_rfl) (fun _ _ _ h => h) (.inl ⟨by kernel_rfl, fun w9 hS => by have k := TB3.out.on hS; have k0 := k.b0; have k1 := k.b1; have k2 := k.b2; go_simp⟩) HS1 ?_
     refine wpAnyH_take (i := 7) (v := (.bool false)) rfl (by kernel_rfl) (by kernel_rfl) (by kernel_rfl) (fun _ _ _ h => h) (.inl ⟨by kernel_rfl, fun w9 hS => (show _ = Result.ok (.value (.bool (decide (x.s < 0)))) w9 by kernel_rfl).trans (by rw [e1])⟩) HS1 ?_
     refine tk 8 ((.bool false)) HS1 ?_
     refine tk 9 ((.bool false)) HS1 ?_
     refine tk 10 ((.pointer (some ⟨wr.heap.size, 2, none⟩))) HS1 ?_
     refine wpAnyH_take (i := 11) (v := (.int .i64 x.s)) rfl (by kernel_rfl) (by kernel_rfl) (by kernel_rfl) (fun _ _ _ h => h) (.inl ⟨by kernel_rfl, fun w9 hS => by have k := TB3.out.on hS; have k0 := k.b0; have k1 := k.b1; have k2 := k.b2; go_simp⟩) HS1 ?_
     refine wpAnyH_take (i := 12) (v := (.bool false)) rfl (by kernel_rfl) (by kernel_rfl) (by kernel_rfl) (fun _ _ _ h => h) (.inl ⟨by kernel_rfl, fun w9 hS => (show _ = Result.ok (.value (.bool (decide (2 <= x.s)))) w9 by kernel_rfl).trans (by rw [e2])⟩) HS1 ?_
     refine tk 13 ((.bool false)) HS1 ?_
     refine tk 14 ((.bool false)) HS1 ?_
     refine tk 15 ((.slice (some ⟨b, off, none⟩) n c)) HS1 ?_
     refine tk 16 ((.int .i64 j)) HS1 ?_
     refine wpAnyH_take (i := 17) (v := (.slice (some ⟨b, off, none⟩) j c)) rfl (by kernel_rfl) (by kernel_rfl) (by kernel_rfl) (fun _ _ _ h => h) (.inl ⟨by kernel_rfl, fun w9 hS => by go_simp⟩) HS1 ?_
     refine wpAnyH_take (i := 18) (v := (.agg #[.int .i64 x.f, .int .i64 x.n, .int .i64 x.s])) rfl (by kernel_rfl) (by kernel_rfl) (by kernel_rfl) (fun _ _ _ h => h) (.inl ⟨by kernel_rfl, fun w9 hS => by have k := TB3.out.on hS; have k0 := k.b0; have k1 := k.b1; have k2 := k.b2; go_simp⟩) HS1 ?_
     refine Zc 19 207 #[(.agg #[.int .i64 x.f, .int .i64 x.n, .int .i64 x.s])] (c2 _) ?_
     rintro e w4 ⟨bx, rfl, HX4, hbw4⟩
     refine Zu (Zr HS1 hbw4) fun HS2 => ?_
     refine zcd (S' := fun w' => Below w4.heap.size w4 w') (fun w' h => Below.trans HS2 (h.mono (Below.size HS2))) _ _ _ _ ?_
     have HS3 : (fun w' => Below w4.heap.size w4 w') w4 := Below.refl _ _
     refine Zc 20 206 #[.slice (some ⟨b, off, none⟩) j c, O.clo bx] (zbu (some ⟨b, off, none⟩) j c (l.take j) x bx true hu2 _ (HT2.out.below HS2) HX4.out (by omega)) ?_
     rintro e w5 ⟨rfl, hbw5⟩
     refine Zu (Zr HS3 hbw5) fun HS4 => ?_
     refine tk 21 ((.bool true)) HS4 ?_
     refine wpAnyH_done (by kernel_rfl) ?_ _
     refine O.then_act (B := ⟨#[.slice (some ⟨b, off, none⟩) n c, .int .i64 out, undef, undef, u4, .int .i64 j, .pointer (some ⟨wr.heap.size, 0, none⟩), .int .i64 out, .bool false, .bool false, .int .i64 out, .bool false, .bool false, .bool false, .slice (some ⟨b, off, none⟩) n c, .int .i64 n, .bool false, .bool false, .slice (some ⟨b, off, none⟩) n c, .int .i64 n, .int .i64 j, .bool true, .int .i64 j, .pointer (some ⟨b, off + j * 3, none⟩), .agg #[.int .i64 x.f, .int .i64 x.n, .int .i64 x.s], .agg #[.int .i64 x.f, .int .i64 x.n, .int .i64 x.s], .int .i64 out, .bool true, .bool false, .bool false, .pointer (some ⟨wr.heap.size, 2, none⟩), .int .i64 x.s, .bool false, .bool false, .bool false, .pointer (some ⟨wr.heap.size, 2, none⟩), .int .i64 x.s, .bool false, .bool false, .bool false, .slice (some ⟨b, off, none⟩) n c, .int .i64 j, .slice (some ⟨b, off, none⟩) j c, .agg #[.int .i64 x.f, .int .i64 x.n, .int .i64 x.s], O.clo bx, .bool true, .bool true, u47], []⟩) (by kernel_rfl) ?_
     have HB5 := Zt HB3 HS2
     have HB6 := Zt HB5 hbw5
     clear c1 c2 HS0 HS1 HS2 HS3 HS4 hbw3 hbw4 hbw5
     go_wp2
     go_ret
     exact ⟨by rw [HE.out]; rfl, HB6.out⟩
    | false =>
     have HA2 := Zh (O.fits_snoc HX.out HA.out FX.out)
     have HI2 := Zh (O.apart_snoc HX.out HI.out HU2.out)
     go_wp2_with fail
     refine Zd (fun w' => Below W2.heap.size W2 w') (zaa W2) fun HS0 => ?_
     refine wpAnyH_take (i := 0) (v := (.agg #[.int .i64 x.f, .int .i64 x.n, .int .i64 x.s])) rfl (by kernel_rfl) (by kernel_rfl) (by kernel_rfl) (fun _ _ _ h => h) (.inl ⟨by kernel_rfl, fun w9 hS => by have k := TB3.out.on hS; have k0 := k.b0; have k1 := k.b1; have k2 := k.b2; go_simp⟩) HS0 ?_
     refine tk 1 ((.int .i64 out)) HS0 ?_
     refine Zc 2 205 #[(.agg #[.int .i64 x.f, .int .i64 x.n, .int .i64 x.s]), .int .i64 out] (c1 _) ?_
     rintro e w3 ⟨rfl, hbw3⟩
     refine Zu (Zr HS0 hbw3) fun HS1 => ?_
     refine tk 3 ((.bool false)) HS1 ?_
     refine tk 4 ((.bool false)) HS1 ?_
     refine tk 5 ((.pointer (some ⟨wr.heap.size, 2, none⟩))) HS1 ?_
     refine wpAnyH_take (i := 6) (v := (.int .i64 x.s)) rfl (by kernel_rfl) (by kernel_rfl) (by kernel_rfl) (fun _ _ _ h => h) (.inl ⟨by kernel_rfl, fun w9 hS => by have k := TB3.out.on hS; have k0 := k.b0; have k1 := k.b1; have k2 := k.b2; go_simp⟩) HS1 ?_
     refine wpAnyH_take (i := 7) (v := (.bool false)) rfl (by kernel_rfl) (by kernel_rfl) (by kernel_rfl) (fun _ _ _ h => h) (.inl ⟨by kernel_rfl, fun w9 hS => (show _ = Result.ok (.value (.bool (decide (x.s < 0)))) w9 by kernel_rfl).trans (by rw [e1])⟩) HS1 ?_
     refine tk 8 ((.bool false)) HS1 ?_
     refine tk 9 ((.bool false)) HS1 ?_
     refine tk 10 ((.pointer (some ⟨wr.heap.size, 2, none⟩))) HS1 ?_
     refine wpAnyH_take (i := 11) (v := (.int .i64 x.s)) rfl (by kernel_rfl) (by kernel_rfl) (by kernel_rfl) (fun _ _ _ h => h) (.inl ⟨by kernel_rfl, fun w9 hS => by have k := TB3.out.on hS; have k0 := k.b0; have k1 := k.b1; have k2 := k.b2; go_simp⟩) HS1 ?_
     refine wpAnyH_take (i := 12) (v := (.bool false)) rfl (by kernel_rfl) (by kernel_rfl) (by kernel_rfl) (fun _ _ _ h => h) (.inl ⟨by kernel_rfl, fun w9 hS => (show _ = Result.ok (.value (.bool (decide (2 <= x.s)))) w9 by kernel_rfl).trans (by rw [e2])⟩) HS1 ?_
     refine tk 13 ((.bool false)) HS1 ?_
     refine tk 14 ((.bool false)) HS1 ?_
     refine tk 15 ((.slice (some ⟨b, off, none⟩) n c)) HS1 ?_
     refine tk 16 ((.int .i64 j)) HS1 ?_
     refine wpAnyH_take (i := 17) (v := (.slice (some ⟨b, off, none⟩) j c)) rfl (by kernel_rfl) (by kernel_rfl) (by kernel_rfl) (fun _ _ _ h => h) (.inl ⟨by kernel_rfl, fun w9 hS => by go_simp⟩) HS1 ?_
     refine wpAnyH_take (i := 18) (v := (.agg #[.int .i64 x.f, .int .i64 x.n, .int .i64 x.s])) rfl (by kernel_rfl) (by kernel_rfl) (by kernel_rfl) (fun _ _ _ h => h) (.inl ⟨by kernel_rfl, fun w9 hS => by have k := TB3.out.on hS; have k0 := k.b0; have k1 := k.b1; have k2 := k.b2; go_simp⟩) HS1 ?_
     refine Zc 19 207 #[(.agg #[.int .i64 x.f, .int .i64 x.n, .int .i64 x.s])] (c2 _) ?_
     rintro e w4 ⟨bx, rfl, HX4, hbw4⟩
     refine Zu (Zr HS1 hbw4) fun HS2 => ?_
     refine zcd (S' := fun w' => Below w4.heap.size w4 w') (fun w' h => Below.trans HS2 (h.mono (Below.size HS2))) _ _ _ _ ?_
     have HS3 : (fun w' => Below w4.heap.size w4 w') w4 := Below.refl _ _
     refine Zc 20 206 #[.slice (some ⟨b, off, none⟩) j c, O.clo bx] (zbu (some ⟨b, off, none⟩) j c (l.take j) x bx false hu2 _ (HT2.out.below HS2) HX4.out (by omega)) ?_
     rintro e w5 ⟨rfl, hbw5⟩
     refine Zu (Zr HS3 hbw5) fun HS4 => ?_
     refine tk 21 ((.bool false)) HS4 ?_
     refine wpAnyH_done (by kernel_rfl) ?_ _
     refine O.then_act (B := ⟨#[.slice (some ⟨b, off, none⟩) n c, .int .i64 out, undef, undef, u4, .int .i64 j, .pointer (some ⟨wr.heap.size, 0, none⟩), .int .i64 out, .bool false, .bool false, .int .i64 out, .bool false, .bool false, .bool false, .slice (some ⟨b, off, none⟩) n c, .int .i64 n, .bool false, .bool false, .slice (some ⟨b, off, none⟩) n c, .int .i64 n, .int .i64 j, .bool true, .int .i64 j, .pointer (some ⟨b, off + j * 3, none⟩), .agg #[.int .i64 x.f, .int .i64 x.n, .int .i64 x.s], .agg #[.int .i64 x.f, .int .i64 x.n, .int .i64 x.s], .int .i64 out, .bool true, .bool false, .bool false, .pointer (some ⟨wr.heap.size, 2, none⟩), .int .i64 x.s, .bool false, .bool false, .bool false, .pointer (some ⟨wr.heap.size, 2, none⟩), .int .i64 x.s, .bool false, .bool false, .bool false, .slice (some ⟨b, off, none⟩) n c, .int .i64 j, .slice (some ⟨b, off, none⟩) j c, .agg #[.int .i64 x.f, .int .i64 x.n, .int .i64 x.s], O.clo bx, .bool false, .bool false, u47], []⟩) (by kernel_rfl) ?_
     have HB5 := Zt HB3 HS2
     have HB6 := Zt HB5 hbw5
     clear c1 c2 HS0 HS1 HS2 HS3 HS4 hbw3 hbw4 hbw5
     go_wp2
     go_roundw
     case rel => exact ⟨j + 1, by go_num, by omega, HA2, HI2, HB6⟩
     case measure => simp [intOf] <;> omega
   ·have dj : decide ((j : Int) < n) = false := by simp; omega
    obtain rfl : j = n := by omega
    have hlt2 : l.take j = l := List.take_of_length_le (by rw [HT.out.1]; exact Nat.le_refl _)
    rw [hlt2] at HA HI
    have HE : Hid (p = true) := Zh (by
     rw [<- HP.out]
     exact O.may_iff.2 ⟨h1, h2, by rw [HT.out.1]; exact h3, HA.out, HI.out⟩)
    go_wp2
    go_ret
    exact ⟨by rw [HE.out]; rfl, HB.out⟩
 ·have HE : Hid (p = false) := Zh (by
   rw [<- HP.out]
   exact O.may_no fun hm => hb ⟨hm.1, hm.2.1, by rw [<- HT.out.1]; exact hm.2.2.1⟩)
  by_cases h1 : out < 0
  ·have d1 : decide (out < 0) = true := by simpa using h1
   go_wp2
   go_ret
   exact ⟨by rw [HE.out]; rfl, Below.refl _ _⟩
  ·have d1 : decide (out < 0) = false := by simpa using h1
   by_cases h2 : 4 < out
   ·have d2 : decide (4 < out) = true := by simpa using h2
    go_wp2
    go_ret
    exact ⟨by rw [HE.out]; rfl, Below.refl _ _⟩
   ·have d2 : decide (4 < out) = false := by simpa using h2
    have d3 : decide (3 < (n : Int)) = true := by simp; omega
    go_wp2
    go_ret
    exact ⟨by rw [HE.out]; rfl, Below.refl _ _⟩
open Go.RowKit
theorem O.same_step {l k : List O.Pl} {i : Nat} {x : O.Pl} (hx : l[i]? = some x) (hy : k[i]? = some x) (h : l.take i = k.take i) : l.take (i + 1) = k.take (i + 1) := by
 obtain ⟨h0, h1⟩ := List.getElem?_eq_some_iff.1 hx
 obtain ⟨h2, h3⟩ := List.getElem?_eq_some_iff.1 hy
 rw [List.take_succ_eq_append_getElem h0, List.take_succ_eq_append_getElem h2, h, h1, h3]
theorem O.same_bad {l k : List O.Pl} {i : Nat} {x y : O.Pl} (hx : l[i]? = some x) (hy : k[i]? = some y) (h : ¬ x = y) : decide (l = k) = false := by
 refine decide_eq_false fun e => h ?_
 rw [e, hy] at hx; exact (Option.some.inj hx).symm
theorem zhe (a a' : Option Addr) (n m c c' : Nat) (l k : List O.Pl) (w : World) (h : QIn w a n c l) (h' : QIn w a' m c' k) (hn : n <= 1000000) (p : Bool) (hp : decide (l = k) = p) :
  Calls Tryz.prog 145 #[.slice a n c, .slice a' m c'] w fun e w' => e = .returned (.bool p) /\ Below w.heap.size w w' := by
 by_cases hnm : n = m
 ·subst hnm
  have HT := Zh h
  have HK := Zh h'
  have HP := Zh hp
  have dn : ((n : Int) != n) = false := by simp
  clear h h' hp
  go_enter Tryz.func145, Tryz.ntmps145
  go_wp2_with fail
  go_loopw [13] (fun i wr => ∃ k' : Nat, i = .int .i64 k' /\ k' <= n /\ Hid (l.take k' = k.take k') /\ Hid (Below w.heap.size w wr)) (fun i _ => n - (intOf i).toNat)
  case atStart => exact ⟨0, rfl, by omega, Zh (by simp), Zh (Below.refl _ _)⟩
  case round =>
   obtain ⟨i, rfl, hin, HA, HB⟩ := hrel
   by_cases hlt : i < n
   ·have d1 : decide ((i : Int) < n) = true := by simp; omega
    obtain ⟨b, off, x, rfl, hb, hx, p1, p2, p3⟩ := (HT.out.below HB.out).at hlt
    obtain ⟨b2, off2, y, rfl, hb2, hy, q1, q2, q3⟩ := (HK.out.below HB.out).at hlt
    have k0 : (0 : Int) <= i := by omega
    have k1 : (i : Int) < n := by omega
    have HX := Zh hx
    have HY := Zh hy
    clear hx hy
    by_cases hxy : x = y
    ·subst hxy
     have HE := Zh (O.same_step HX.out HY.out HA.out)
     go_wp2_with fail
     go_quiet (fail)
     go_wp2
     go_roundw
     case rel => exact ⟨i + 1, by go_num, by omega, HE, Zh (HB.out.trans (zad _ _ _))⟩
     case measure => simp [intOf] <;> omega
    ·have HE : Hid (p = false) := Zh (by rw [<- HP.out]; exact O.same_bad HX.out HY.out hxy)
     obtain ⟨x1, x2, x3⟩ := x
     obtain ⟨y1, y2, y3⟩ := y
     by_cases h1 : x1 = y1
     ·subst h1
      by_cases h2 : x2 = y2
      ·subst h2
       have h3 : ¬ x3 = y3 := fun e => hxy (by rw [e])
       go_wp2_with fail
       go_quiet (fail)
       go_wp2
       go_ret
       exact ⟨by rw [HE.out]; rfl, HB.out.trans (zad _ _ _)⟩
      ·go_wp2_with fail
       go_quiet (fail)
       go_wp2
       go_ret
       exact ⟨by rw [HE.out]; rfl, HB.out.trans (zad _ _ _)⟩
     ·go_wp2_with fail
      go_quiet (fail)
      go_wp2
      go_ret
      exact ⟨by rw [HE.out]; rfl, HB.out.trans (zad _ _ _)⟩
   ·have d1 : decide ((i : Int) < n) = false := by simp; omega
    have HE : Hid (p = true) := Zh (by
     have h1 := HA.out
     rw [List.take_of_length_le (by rw [HT.out.1]; omega), List.take_of_length_le (by rw [HK.out.1]; omega)] at h1
     rw [<- HP.out]; exact decide_eq_true h1)
    go_wp2
    go_ret
    exact ⟨by rw [HE.out]; rfl, HB.out⟩
 ·have HE : Hid (p = false) := Zh (by
   rw [<- hp]
   refine decide_eq_false fun e => hnm ?_
   rw [<- h.1, <- h'.1, e])
  have dn : ((n : Int) != m) = true := by simp; omega
  clear h h' hp hnm
  go_enter Tryz.func145, Tryz.ntmps145
  go_wp2
  go_ret
  exact ⟨by rw [HE.out]; rfl, Below.refl _ _⟩
theorem zfb (a a' : Option Addr) (n m c c' : Nat) (l k : List O.Pl) (w : World) (h : QIn w a n c l) (h' : QIn w a' m c' k) (hn : n <= 1000000) (p : Bool) (hp : decide (l = k) = p) :
  Calls Tryz.prog 69 #[.slice a n c, .slice a' m c'] w fun e w' => e = .returned (.bool p) /\ Below w.heap.size w w' := by
 have c1 := zhe a a' n m c c' l k w h h' hn p hp
 clear h h' hp
 go_enter Tryz.func69, Tryz.ntmps69
 go_wp2_with fail
 refine c1.mono ?_
 rintro e w2 ⟨rfl, hb2⟩
 go_wp2
 go_ret
 exact ⟨rfl, hb2⟩
open Go.RowKit
theorem O.of_yes {l : List O.Pl} {x : Int} {j : Nat} {p : O.Pl} (hx : l[j]? = some p) (h : ∀ q ∈ l.take j, O.has q x = false) (hp : O.has p x = true) : O.of l x = j := O.of_some hx hp h
theorem O.of_range (l : List O.Pl) (x : Int) : -1 <= O.of l x /\ O.of l x < l.length := by
 rcases O.of_cases l x with ⟨h, _⟩ | ⟨i, p, h, hi, _⟩
 ·rw [h]; omega
 ·rw [h]; have := (List.getElem?_eq_some_iff.1 hi).1; omega
theorem zdo (a : Option Addr) (n c : Nat) (l : List O.Pl) (x r : Int) (hv : O.of l x = r) (w : World) (h : QIn w a n c l) (hn : n <= 1000000) :
  Calls Tryz.prog 257 #[.slice a n c, .int .i64 x] w fun e w' => e = .returned (.int .i64 r) /\ Below w.heap.size w w' := by
 have HT := Zh h
 have HV := Zh hv
 clear h hv
 go_enter Tryz.func257, Tryz.ntmps257
 go_wp2_with fail
 go_loopw [9] (fun i wr => ∃ j : Nat, i = .int .i64 j /\ j <= n /\ Hid (∀ q ∈ l.take j, O.has q x = false) /\ Hid (Below w.heap.size w wr)) (fun i _ => n - (intOf i).toNat)
 case atStart => exact ⟨0, rfl, by omega, Zh (by simp), Zh (Below.refl _ _)⟩
 case round =>
  obtain ⟨j, rfl, hjn, HA, HB⟩ := hrel
  by_cases hlt : j < n
  ·have d1 : decide ((j : Int) < n) = true := by simp; omega
   obtain ⟨b', off, y, rfl, hbl, hx, p0, p1, p2⟩ := (HT.out.below HB.out).at hlt
   have HX := Zh hx
   have j0 : (0 : Int) <= j := by omega
   have j1 : (j : Int) < n := by omega
   obtain ⟨u, hu⟩ : ∃ u, O.has y x = u := ⟨_, rfl⟩
   have HU := Zh hu
   have c1 := fun W => zcq y x u W hu
   have HB1 := Zh (HB.out.trans ((O.box_below wr y).mono HB.out.size))
   have HY := Zh (O.box_is wr y)
   obtain ⟨W, hW⟩ : ∃ W, O.box wr y = W := ⟨_, rfl⟩
   rw [hW] at HB1 HY
   unfold O.box at hW
   have y0 := HY.out.b0
   have y1 := HY.out.b1
   have y2 := HY.out.b2
   unfold O.val at c1
   clear hu hx
   go_wp2_with fail
   refine (c1 _).mono ?_
   rintro e w2 ⟨rfl, hb2⟩
   have HB2 := Zt HB1 hb2
   clear hb2 c1 hW
   cases u with
   | true =>
    have HE : Hid (r = j) := Zh (by rw [<- HV.out]; exact O.of_yes HX.out HA.out HU.out)
    go_wp2
    go_ret
    exact ⟨by rw [HE.out]; rfl, HB2.out⟩
   | false =>
    go_wp2
    go_roundw
    case rel => exact ⟨j + 1, by go_num, by omega, Zh (O.any_snoc HX.out HA.out HU.out), HB2⟩
    case measure => simp [intOf] <;> omega
  ·have d1 : decide ((j : Int) < n) = false := by simp; omega
   have HE : Hid (r = -1) := Zh (by
    rw [<- HV.out]
    have h1 := HA.out
    rw [List.take_of_length_le (by rw [HT.out.1]; omega)] at h1
    exact O.of_none h1)
   go_wp2
   go_ret
   exact ⟨by rw [HE.out]; rfl, HB.out⟩
end Go.Proofs.YtnbkkjcmblfhpaaGreat
namespace Go.Proofs.YtnbkkjcmblfhpaaGreat
open Go.RowKit
def BIn (w : World) (a : Option Addr) (n c : Nat) (L : List Int) : Prop := L.length = n /\ zfv .i64 w a c L
theorem BIn.nil (w : World) : BIn w none 0 0 [] := ⟨rfl, ⟨by simp, by simp [maxLen]⟩, by simp, .inl rfl⟩
open Go.RowKit
theorem zer : ∃ i, Tryz.prog.info? 170 = some i /\ i.zero = some (.agg #[.int .i64 0, .int .i64 0, .int .i64 0]) /\ i.size = 3 /\ i.bytes = 24 := info_parts zip
open Go.RowKit
end Go.Proofs.YtnbkkjcmblfhpaaGreat
namespace Go.Proofs.YtnbkkjcmblfhpaaGreat
open Go.RowKit
theorem zde {w : World} {B B' k n : Nat} {t : TypeId} {v : Value} {xs : List Value} (h : w.ownsRow B t k v n xs) (hb : B' <= B) : w.ownsRow B' t k v n xs :=
 ⟨h.1, h.2.imp id fun ⟨q, cap, cur, h1, h2, h3⟩ => ⟨q, cap, cur, h1, Nat.le_trans hb h2, h3⟩⟩
end Go.Proofs.YtnbkkjcmblfhpaaGreat
namespace Go.Proofs.YtnbkkjcmblfhpaaGreat
open Go.RowKit
structure Y.OwnR (w : World) (H : Nat) (s : Y.St) (A : Y.A9) : Prop where
 rp : w.ownsRow H 170 3 (.slice A.ap A.np A.cp) A.np (O.flat s.ps)
 rl : w.ownsRow H 104 5 (.slice A.al A.nl A.cl) A.nl (L.flat s.l)
 rh : w.ownsRow H 135 3 (.slice A.ah A.nh A.ch) A.nh (L.flat s.h)
 np : s.ps.length = A.np
 nl : s.l.length = A.nl
 nh : s.h.length = A.nh
theorem Y.OwnR.below {w w' : World} {H : Nat} {s : Y.St} {A : Y.A9} (h : Y.OwnR w H s A) (hb : Below w.heap.size w w') : Y.OwnR w' H s A :=
 ⟨zab h.rp hb, zab h.rl hb, zab h.rh hb, h.np, h.nl, h.nh⟩
theorem Y.OwnR.far {w w' : World} {H g : Nat} {s : Y.St} {A : Y.A9} (h : Y.OwnR w H s A) (hg : w.grownBy w' (some g)) (hH : g < H) : Y.OwnR w' H s A := by
 have hn : ∀ {e : TypeId} {k n : Nat} {v : Value} {xs : List Value}, w.ownsRow H e k v n xs -> v.ownBlock ≠ some g := fun hr e => by have := (hr.lt g e).1; omega
 exact ⟨h.rp.kept hg (.inr (hn h.rp)), h.rl.kept hg (.inr (hn h.rl)), h.rh.kept hg (.inr (hn h.rh)), h.np, h.nl, h.nh⟩
theorem Y.OwnR.i {w : World} {H : Nat} {s : Y.St} {A : Y.A9} (h : Y.OwnR w H s A) : Y.SIn w A s := by
 obtain ⟨a1, c1, e1, q1⟩ := zbq h.rp h.np
 obtain ⟨a2, c2, e2, q2⟩ := zcn h.rl h.nl
 obtain ⟨a3, c3, e3, q3⟩ := zdl h.rh h.nh
 simp only [Value.slice.injEq, true_and] at e1 e2 e3
 obtain ⟨e1, f1⟩ := e1
 obtain ⟨e2, f2⟩ := e2
 obtain ⟨e3, f3⟩ := e3
 exact ⟨by rw [e1, f1]; exact q1, by rw [e2, f2]; exact q2, by rw [e3, f3]; exact q3⟩
theorem Y.OwnR.up {w : World} {H : Nat} {s : Y.St} {A : Y.A9} (h : Y.OwnR w H s A) : Y.Up H A := ⟨fun q hq => (h.rp.lt q.block (by rw [hq]; rfl)).1, fun q hq => (h.rl.lt q.block (by rw [hq]; rfl)).1, fun q hq => (h.rh.lt q.block (by rw [hq]; rfl)).1⟩
theorem zd9 {w : World} {B k n : Nat} {t : TypeId} {v : Value} {xs : List Value} (h : w.ownsRow B t k v n xs) : ∃ a c, v = .slice a n c := by
 rcases h.2 with ⟨h0, h1⟩ | ⟨q, cap, cur, h1, _⟩
 ·subst h1; exact ⟨none, 0, h0⟩
 ·exact ⟨_, cap, h1⟩
end Go.Proofs.YtnbkkjcmblfhpaaGreat
