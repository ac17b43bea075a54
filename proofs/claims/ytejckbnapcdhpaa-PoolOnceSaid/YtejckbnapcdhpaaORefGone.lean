/-
  The document's Gone.
-/
import Derived.Test.YtejckbnapcdhpaaORefM
import Derived.Lib.QuietBelow
import Derived.Deep.Cut
import Derived.Deep.CutRange
namespace Go.Proofs.Ytejckbnapcdhpaa
open Go.RowKit

set_option maxRecDepth 100000 in
set_option maxHeartbeats 1600000 in
theorem refGone_is (a : Option Addr) (n c : Nat) (l : List O.Pl) (out k : Int) (ab : Option Addr) (nb cb : Nat) (bs : List Int) (l2 : List O.Pl) (n2 : Nat) (er : Int) (w : World) (h : QIn w a n c l) (hn : n ≤ 800) (hu : BIn w ab nb cb bs) (hnb : nb ≤ 1000000) (hs : O.gone l out k bs = (l2, er)) (h2 : l2.length = n2) :
    Calls Try.prog 18 #[.slice a n c, .int .i64 out, .int .i64 k, .slice ab nb cb] w fun e w' => ∃ a2 c2, e = .returned (.tuple #[.slice a2 n2 c2, .int .i64 er]) ∧ Hid (QIn w' a2 n2 c2 l2) ∧ Below w.heap.size w w' := by
  have HT := Lib.hid h
  have hl := h.1
  have HB0 := Lib.hid (Below.refl w.heap.size w)
  have HU := Lib.hid hu
  clear h hu
  obtain ⟨pm, hpm⟩ : ∃ b, O.may l out = b := ⟨_, rfl⟩
  have HM := Lib.hid hpm
  by_cases hsk : O.seek l out k = 0
  · have hpm' := (O.seek_ok.1 hsk).1
    obtain rfl : pm = true := by rw [← hpm]; exact hpm'
    have hmay := O.may_iff.1 hpm
    obtain ⟨m, rfl⟩ : ∃ m : Nat, k = m := ⟨k.toNat, by have := (O.seek_ok.1 hsk).2.1; omega⟩
    have hm : m < n := by have := (O.seek_ok.1 hsk).2.2; omega
    have hx := List.getElem?_eq_getElem (show m < l.length by omega)
    obtain ⟨x, hxl⟩ : ∃ x, l[m]'(by omega) = x := ⟨_, rfl⟩
    rw [hxl] at hx
    have hat := O.at_some hx
    have HX := Lib.hid hx
    have m0 : (0 : Int) ≤ m := by omega
    have m1 : (m : Int) < n := by omega
    have r1 : decide ((m : Int) < 0) = false := by simp
    have r2 : decide ((n : Int) ≤ m) = false := by simp; omega
    clear hpm' hpm hxl
    have hs1 := O.gone_yes (busy := bs) hsk
    rw [hs, hat, O.loses_zp] at hs1
    obtain ⟨z, hz⟩ : ∃ z, (x.s == 0) = z := ⟨_, rfl⟩
    have hs2 : (l2, er) = if (z || bs.any (O.has x)) = true then (l, 12) else (l.eraseIdx m, 0) := by
      rw [hs1, ← hz, Int.toNat_natCast]
      congr 1
      simp
    have HS1 := Lib.hid hs2.symm
    have H2 := Lib.hid h2
    clear hs hs1 hs2 hmay hat hsk h2 hl
    go_enter Try.func18, Try.ntmps18
    go_wp2_with fail
    refine (refMay_any a n c l out true HM.out w (HT.out.below HB0.out) (by omega)).mono ?_
    rintro e w1 ⟨rfl, hb⟩
    have HB1 := Lib.hid (HB0.out.trans (hb.mono HB0.out.size))
    clear hb
    obtain ⟨b, off, y, hay, hbl, hxy, p0, p1, p2⟩ := (HT.out.below HB1.out).at hm
    obtain rfl : x = y := by have := HX.out; rw [hxy] at this; exact (Option.some.inj this).symm
    cases hay
    clear hxy hbl
    go_wp2_with fail
    clear p0 p1 p2 hz
    go_loopw [11, 12] (fun s11 s12 wr => ∃ j : Nat, s11 = .bool (z || (bs.take j).any (O.has x)) ∧ s12 = .int .i64 j ∧ j ≤ nb ∧ Hid (Below w1.heap.size w1 wr)) (fun _ i _ => nb - (intOf i).toNat)
    case atStart => exact ⟨0, by simp, by go_num, by omega, Lib.hid (Below.refl _ _)⟩
    case round =>
      obtain ⟨j, hs11, rfl, hjn, HBr⟩ := hrel
      have HBw := Lib.hid (HB1.out.trans (HBr.out.mono HB1.out.size))
      obtain ⟨t, ht⟩ : ∃ t, (z || (bs.take j).any (O.has x)) = t := ⟨_, rfl⟩
      rw [ht] at hs11
      subst hs11
      have HTT := Lib.hid ht
      clear ht
      by_cases hlt : j < nb
      · have d1 : decide ((j : Int) < nb) = true := by simp; omega
        obtain ⟨bb, offb, y, rfl, hbb, hyl, q0⟩ := (HU.out.below HBw.out).at hlt
        obtain ⟨b', off', x', hay, hbl, hxy, p0, p1, p2⟩ := (HT.out.below HBw.out).at hm
        obtain rfl : x = x' := by have := HX.out; rw [hxy] at this; exact (Option.some.inj this).symm
        cases hay
        have HY := Lib.hid hyl
        have j0 : (0 : Int) ≤ j := by omega
        have j1 : (j : Int) < nb := by omega
        obtain ⟨u1, hu1⟩ : ∃ u, O.has x y = u := ⟨_, rfl⟩
        have HU1 := Lib.hid hu1
        have c1 := fun V => refHas_any x y u1 V hu1
        have cp0 := fun d os => cell_regrown p0 d os
        have cp1 := fun d os => cell_regrown p1 d os
        have cp2 := fun d os => cell_regrown p2 d os
        have cq0 := fun d os => cell_regrown q0 d os
        unfold O.val at c1
        clear hu1 hyl hxy hbl hbb
        go_wp2_with fail
        refine wp_region_quiet_below (by kernel_rfl) (by kernel_rfl) ?_
        repeat (go_big_quiet_step (with_reducible exact Calls.regrown_of (c1 _)))
        refine wpQuiet_nil ?_
        intro _ hw'
        obtain ⟨⟨dq, osq⟩, hw''⟩ := hw'
        subst hw''
        clear cp0 cp1 cp2 cq0 p0 p1 p2 q0 c1
        obtain ⟨W4, hW4⟩ : ∃ W4, Go.Sort.grow (redrawn wr dq) osq = W4 := ⟨_, rfl⟩
        have hb4 : Below wr.heap.size wr W4 := by rw [← hW4]; exact below_regrown _ _ _
        rw [hW4]
        clear hW4
        have HB4 := Lib.hid (HBr.out.trans (hb4.mono HBr.out.size))
        clear hb4
        have NX : Hid ((z || (bs.take (j + 1)).any (O.has x)) = (t || u1)) := Lib.hid (by rw [O.any_take HY.out, HU1.out, ← Bool.or_assoc, HTT.out])
        cases t with
        | true =>
          go_wp2
          go_roundw
          case rel => exact ⟨j + 1, by rw [NX.out]; rfl, by go_num, by omega, HB4⟩
          case measure => simp [intOf] <;> omega
        | false =>
          go_wp2
          go_roundw
          case rel => exact ⟨j + 1, by rw [NX.out]; rfl, by go_num, by omega, HB4⟩
          case measure => simp [intOf] <;> omega
      · have d1 : decide ((j : Int) < nb) = false := by simp; omega
        have hta : (z || bs.any (O.has x)) = t := by
          have := HTT.out
          rwa [List.take_of_length_le (by rw [HU.out.1]; omega)] at this
        have hs1 := HS1.out
        rw [hta] at hs1
        clear hta
        cases t with
        | true =>
          rw [if_pos rfl] at hs1
          obtain ⟨rfl, rfl⟩ := Prod.mk.inj hs1
          obtain rfl : n = n2 := by rw [← H2.out, HT.out.1]
          have HQR := Lib.hid (HT.out.below HBw.out)
          clear hs1
          go_wp2
          go_ret2
          exact ⟨_, _, rfl, HQR, HBw.out⟩
        | false =>
          rw [if_neg (by decide)] at hs1
          obtain ⟨hl2, rfl⟩ := Prod.mk.inj hs1
          have HL2 := Lib.hid hl2
          clear hs1 hl2
          obtain ⟨M, hM⟩ : ∃ M, m + 1 = M := ⟨_, rfl⟩
          have hMi : (m : Int) + 1 = (M : Int) := by omega
          have hMw : IntKind.i64.wrap ((m : Int) + 1) = (M : Int) := by rw [hMi]; exact IntWalk.i64_in _ (by omega)
          have hMn : M ≤ n := by omega
          have hcn : n ≤ c := HT.out.2.1.1
          have hmc : (m : Int) ≤ c := by omega
          have FT : Hid (QIn wr (some ⟨b, off, none⟩) m c (l.take m)) := Lib.hid ((HT.out.below HBw.out).take m (by omega))
          have FD : Hid (QIn wr (O.sl3 (some ⟨b, off, none⟩) M c) (n - M) (c - M) (l.drop M)) := Lib.hid ((HT.out.below HBw.out).drop M hMn)
          go_upto_region 15 with (at_builtin; refine wpList_appendOs rfl (.const (.slice none 0 0)) (.tmp 59) rfl wr.heap.size _ 0 [] rfl (World.ownsRow_nil _ _ _ _) (some ⟨b, off, none⟩) m c (l.take m) rfl FT.out (by omega) (Nat.le_refl _) ?_; intro v8 w8 hown8 hgrow8; rw [Nat.zero_add] at hown8; have HO8 : Hid (w8.ownsRow wr.heap.size 37 3 v8 m (O.flat (l.take m))) := Lib.hid (by simpa using hown8); have HG8 := Lib.hid hgrow8; clear hown8 hgrow8)
          have hsl := sliceO_l (some ⟨b, off, none⟩) (len := n) (cap := c) w8 hMn
          go_wp2_with (at_builtin; refine wpList_appendOs rfl (.tmp 61) (.tmp 65) rfl wr.heap.size v8 m (l.take m) (by simp [Act.eval]) HO8.out (O.sl3 (some ⟨b, off, none⟩) M c) (n - M) (c - M) (l.drop M) (by simp [Act.eval]) (FD.out.below (O.none_below HG8.out)) (by omega) HG8.out.size ?_; intro v9 w9 hown9 hgrow9; have HO9 := Lib.hid hown9; have HG9 := Lib.hid hgrow9; clear hown9 hgrow9)
          have he : l.take m ++ l.drop M = l2 := by rw [← HL2.out, ← hM, List.eraseIdx_eq_take_drop_succ]
          have hn2 : m + (n - M) = n2 := by rw [← H2.out, ← he, List.length_append]; have := HT.out.1; simp; omega
          have HB9 : Hid (Below w.heap.size w w9) := Lib.hid (HBw.out.trans (((O.none_below HG8.out).grown HG9.out HG8.out.size (fun i hi => (HO8.out.lt i hi).1)).mono HBw.out.size))
          have HO9' : Hid (w9.ownsRow wr.heap.size 37 3 v9 n2 (O.flat l2)) := Lib.hid (by rw [← he, ← hn2]; exact HO9.out)
          obtain ⟨a3, c3, rfl, ht3⟩ := own_pools HO9'.out H2.out
          have HT3 := Lib.hid ht3
          clear ht3
          go_wp2
          go_ret2
          exact ⟨_, _, rfl, HT3, HB9.out⟩
  · have hs1 := O.gone_no (l := l) (out := out) (k := k) (busy := bs) hsk
    rw [hs] at hs1
    obtain ⟨rfl, he⟩ := Prod.mk.inj hs1.symm
    obtain rfl : n = n2 := by rw [← h2, hl]
    have HE := Lib.hid he
    clear hs hs1 h2
    by_cases hp1 : pm = false
    · subst hp1
      obtain rfl : (1 : Int) = er := by rw [← HE.out]; unfold O.seek; rw [if_pos hpm]
      clear hpm hl hsk HE he
      go_enter Try.func18, Try.ntmps18
      go_wp2_with fail
      refine (refMay_any a n c l out false HM.out w (HT.out.below HB0.out) (by omega)).mono ?_
      rintro e w1 ⟨rfl, hb⟩
      have HB1 := Lib.hid (HB0.out.trans (hb.mono HB0.out.size))
      clear hb
      have HQR := Lib.hid (HT.out.below HB1.out)
      go_wp2
      go_ret2
      exact ⟨_, _, rfl, HQR, HB1.out⟩
    · obtain rfl : pm = true := by simpa using hp1
      have hr : k < 0 ∨ (n : Int) ≤ k := by
        rw [← hl]
        refine Decidable.byContradiction fun h => hsk ?_
        unfold O.seek; rw [if_neg (by rw [hpm]; decide), if_neg h]
      obtain rfl : (5 : Int) = er := by rw [← HE.out]; unfold O.seek; rw [if_neg (by rw [hpm]; decide), if_pos (by rw [hl]; exact hr)]
      clear hpm hl hsk HE he hp1
      by_cases hk : k < 0
      · have r1 : decide (k < 0) = true := by simpa using hk
        clear hr
        go_enter Try.func18, Try.ntmps18
        go_wp2_with fail
        refine (refMay_any a n c l out true HM.out w (HT.out.below HB0.out) (by omega)).mono ?_
        rintro e w1 ⟨rfl, hb⟩
        have HB1 := Lib.hid (HB0.out.trans (hb.mono HB0.out.size))
        clear hb
        have HQR := Lib.hid (HT.out.below HB1.out)
        go_wp2
        go_ret2
        exact ⟨_, _, rfl, HQR, HB1.out⟩
      · have r1 : decide (k < 0) = false := by simpa using hk
        have r2 : decide ((n : Int) ≤ k) = true := decide_eq_true (hr.resolve_left hk)
        clear hr
        go_enter Try.func18, Try.ntmps18
        go_wp2_with fail
        refine (refMay_any a n c l out true HM.out w (HT.out.below HB0.out) (by omega)).mono ?_
        rintro e w1 ⟨rfl, hb⟩
        have HB1 := Lib.hid (HB0.out.trans (hb.mono HB0.out.size))
        clear hb
        have HQR := Lib.hid (HT.out.below HB1.out)
        go_wp2
        go_ret2
        exact ⟨_, _, rfl, HQR, HB1.out⟩
end Go.Proofs.Ytejckbnapcdhpaa
