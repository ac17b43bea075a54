/-
  The document's Size.
-/
import Derived.Test.YtejckbnapcdhpaaORefM
import Derived.Lib.QuietBelow
import Derived.Deep.Cut
import Derived.Deep.CutRange
namespace Go.Proofs.Ytejckbnapcdhpaa
open Go.RowKit

set_option maxRecDepth 100000 in
set_option maxHeartbeats 1600000 in
theorem refSize_is (a : Option Addr) (n c : Nat) (l : List O.Pl) (out k n' : Int) (ab : Option Addr) (nb cb : Nat) (bs : List Int) (l2 : List O.Pl) (n2 : Nat) (er : Int) (w : World) (h : QIn w a n c l) (hn : n ≤ 800) (ho : out ≤ 9223372036854775807) (hu : BIn w ab nb cb bs) (hnb : nb ≤ 1000000) (hs : O.size l out k n' bs = (l2, er)) (h2 : l2.length = n2) :
    Calls Try.prog 16 #[.slice a n c, .int .i64 out, .int .i64 k, .int .i64 n', .slice ab nb cb] w fun e w' => ∃ a2 c2, e = .returned (.tuple #[.slice a2 n2 c2, .int .i64 er]) ∧ Hid (QIn w' a2 n2 c2 l2) ∧ Below w.heap.size w w' := by
  have HT := Lib.hid h
  have hl := h.1
  have HB0 := Lib.hid (Below.refl w.heap.size w)
  have HU := Lib.hid hu
  clear h hu
  obtain ⟨pm, hpm⟩ : ∃ b, O.may l out = b := ⟨_, rfl⟩
  have HM := Lib.hid hpm
  by_cases hsk : O.seek l out k = 0
  · have hpm' := (O.seek_ok.1 hsk).1
    obtain rfl : pm = true := by rw [← hpm]; exact hpm'
    have hmay := O.may_iff.1 hpm
    obtain ⟨m, rfl⟩ : ∃ m : Nat, k = m := ⟨k.toNat, by have := (O.seek_ok.1 hsk).2.1; omega⟩
    have hm : m < n := by have := (O.seek_ok.1 hsk).2.2; omega
    have hx := List.getElem?_eq_getElem (show m < l.length by omega)
    obtain ⟨x, hxl⟩ : ∃ x, l[m]'(by omega) = x := ⟨_, rfl⟩
    rw [hxl] at hx
    have hat := O.at_some hx
    have HX := Lib.hid hx
    have m0 : (0 : Int) ≤ m := by omega
    have m1 : (m : Int) < n := by omega
    have r1 : decide ((m : Int) < 0) = false := by simp
    have r2 : decide ((n : Int) ≤ m) = false := by simp; omega
    clear hpm' hpm hxl
    have hs1 := O.size_yes (n := n') (busy := bs) hsk
    rw [hs, hat, Int.toNat_natCast] at hs1
    clear hs
    have hsm := O.may_small hmay (List.mem_of_getElem? hx)
    obtain ⟨u1, hu1⟩ : ∃ u, O.below { x with n := n' } out = u := ⟨_, rfl⟩
    have HFI : Hid (O.fits { x with n := n' } out = u1) := Lib.hid (by rw [O.fits_n hsm]; exact hu1)
    by_cases hp2 : u1 = false
    · subst hp2
      rw [if_pos hu1] at hs1
      obtain ⟨rfl, rfl⟩ := Prod.mk.inj hs1.symm
      obtain rfl : n = n2 := by rw [← h2, hl]
      clear hs1 h2 hl hsk
      clear hat hu1 hmay hsm
      go_enter Try.func16, Try.ntmps16
      go_wp2_with fail
      refine (refMay_any a n c l out true HM.out w (HT.out.below HB0.out) (by omega)).mono ?_
      rintro e w1 ⟨rfl, hb⟩
      have HB1 := Lib.hid (HB0.out.trans (hb.mono HB0.out.size))
      clear hb
      obtain ⟨b, off, y, hay, hbl, hxy, p0, p1, p2⟩ := (HT.out.below HB1.out).at hm
      obtain rfl : x = y := by have := HX.out; rw [hxy] at this; exact (Option.some.inj this).symm
      cases hay
      clear hxy hbl
      have hb := O.box_below w1 { x with n := n' }
      have hk := O.box_is w1 { x with n := n' }
      dsimp only [O.box] at hb hk
      have HBT := Lib.hid hb
      have HKT := Lib.hid hk
      clear hb hk
      go_wp2_with fail
      obtain ⟨w2, hw2⟩ : ∃ W, w1.alloc (.cells #[.int .i64 x.f, .int .i64 n', .int .i64 x.s] 37) = W := ⟨_, rfl⟩
      have hb := HBT.out
      have hk := HKT.out
      rw [hw2] at hb hk ⊢
      clear hw2 HBT HKT
      clear p0 p1 p2
      have HKp2 := Lib.hid hk
      clear hk
      have HB2 := Lib.hid (HB1.out.trans (hb.mono HB1.out.size))
      clear hb
      have pf0 := HKp2.out.b0
      have pf1 := HKp2.out.b1
      have pf2 := HKp2.out.b2
      skip
      refine (refFits_any ({ x with n := n' } : O.Pl) out false w2 HFI.out ho).mono ?_
      clear pf0 pf1 pf2
      rintro e w3 ⟨rfl, hb⟩
      have HKp3 := Lib.hid (HKp2.out.on hb)
      have HB3 := Lib.hid (HB2.out.trans (hb.mono HB2.out.size))
      clear hb
      have pf0 := HKp3.out.b0
      have pf1 := HKp3.out.b1
      have pf2 := HKp3.out.b2
      have HQR := Lib.hid (HT.out.below HB3.out)
      go_wp2
      go_ret2
      exact ⟨_, _, rfl, HQR, HB3.out⟩
    · obtain rfl : u1 = true := by simpa using hp2
      rw [if_neg (by rw [hu1]; decide)] at hs1
      obtain ⟨u2, hu2⟩ : ∃ u, ((l.eraseIdx m).any fun q => O.hit { x with n := n' } q) = u := ⟨_, rfl⟩
      have HOT : Hid (O.others l (m : Int) { x with n := n' } = u2) := Lib.hid (by rw [O.others_size hmay hu1]; exact hu2)
      rw [hu2] at hs1
      clear hp2 hu1 hu2 hmay hsm hat
      by_cases hp3 : u2 = true
      · subst hp3
        rw [if_pos rfl] at hs1
        obtain ⟨rfl, rfl⟩ := Prod.mk.inj hs1.symm
        obtain rfl : n = n2 := by rw [← h2, hl]
        clear hs1 h2 hl hsk
        go_enter Try.func16, Try.ntmps16
        go_wp2_with fail
        refine (refMay_any a n c l out true HM.out w (HT.out.below HB0.out) (by omega)).mono ?_
        rintro e w1 ⟨rfl, hb⟩
        have HB1 := Lib.hid (HB0.out.trans (hb.mono HB0.out.size))
        clear hb
        obtain ⟨b, off, y, hay, hbl, hxy, p0, p1, p2⟩ := (HT.out.below HB1.out).at hm
        obtain rfl : x = y := by have := HX.out; rw [hxy] at this; exact (Option.some.inj this).symm
        cases hay
        clear hxy hbl
        have hb := O.box_below w1 { x with n := n' }
        have hk := O.box_is w1 { x with n := n' }
        dsimp only [O.box] at hb hk
        have HBT := Lib.hid hb
        have HKT := Lib.hid hk
        clear hb hk
        go_wp2_with fail
        obtain ⟨w2, hw2⟩ : ∃ W, w1.alloc (.cells #[.int .i64 x.f, .int .i64 n', .int .i64 x.s] 37) = W := ⟨_, rfl⟩
        have hb := HBT.out
        have hk := HKT.out
        rw [hw2] at hb hk ⊢
        clear hw2 HBT HKT
        clear p0 p1 p2
        have HKp2 := Lib.hid hk
        clear hk
        have HB2 := Lib.hid (HB1.out.trans (hb.mono HB1.out.size))
        clear hb
        have pf0 := HKp2.out.b0
        have pf1 := HKp2.out.b1
        have pf2 := HKp2.out.b2
        skip
        refine (refFits_any ({ x with n := n' } : O.Pl) out true w2 HFI.out ho).mono ?_
        clear pf0 pf1 pf2
        rintro e w3 ⟨rfl, hb⟩
        have HKp3 := Lib.hid (HKp2.out.on hb)
        have HB3 := Lib.hid (HB2.out.trans (hb.mono HB2.out.size))
        clear hb
        have pf0 := HKp3.out.b0
        have pf1 := HKp3.out.b1
        have pf2 := HKp3.out.b2
        go_wp2_with fail
        refine (refOthers_any (some ⟨b, off, none⟩) n c l m { x with n := n' } true HOT.out w3 (HT.out.below HB3.out) (by omega)).mono ?_
        clear pf0 pf1 pf2
        rintro e w4 ⟨rfl, hb⟩
        have HKp4 := Lib.hid (HKp3.out.on hb)
        have HB4 := Lib.hid (HB3.out.trans (hb.mono HB3.out.size))
        clear hb
        have pf0 := HKp4.out.b0
        have pf1 := HKp4.out.b1
        have pf2 := HKp4.out.b2
        have HQR := Lib.hid (HT.out.below HB4.out)
        go_wp2
        go_ret2
        exact ⟨_, _, rfl, HQR, HB4.out⟩
      · obtain rfl : u2 = false := by simpa using hp3
        rw [if_neg (by decide)] at hs1
        have HS1 := Lib.hid hs1
        have H2 := Lib.hid h2
        clear hs1 h2 hl hp3 hsk
        go_enter Try.func16, Try.ntmps16
        go_wp2_with fail
        refine (refMay_any a n c l out true HM.out w (HT.out.below HB0.out) (by omega)).mono ?_
        rintro e w1 ⟨rfl, hb⟩
        have HB1 := Lib.hid (HB0.out.trans (hb.mono HB0.out.size))
        clear hb
        obtain ⟨b, off, y, hay, hbl, hxy, p0, p1, p2⟩ := (HT.out.below HB1.out).at hm
        obtain rfl : x = y := by have := HX.out; rw [hxy] at this; exact (Option.some.inj this).symm
        cases hay
        clear hxy hbl
        have hb := O.box_below w1 { x with n := n' }
        have hk := O.box_is w1 { x with n := n' }
        dsimp only [O.box] at hb hk
        have HBT := Lib.hid hb
        have HKT := Lib.hid hk
        clear hb hk
        go_wp2_with fail
        obtain ⟨w2, hw2⟩ : ∃ W, w1.alloc (.cells #[.int .i64 x.f, .int .i64 n', .int .i64 x.s] 37) = W := ⟨_, rfl⟩
        have hb := HBT.out
        have hk := HKT.out
        rw [hw2] at hb hk ⊢
        clear hw2 HBT HKT
        clear p0 p1 p2
        have HKp2 := Lib.hid hk
        clear hk
        have HB2 := Lib.hid (HB1.out.trans (hb.mono HB1.out.size))
        clear hb
        have pf0 := HKp2.out.b0
        have pf1 := HKp2.out.b1
        have pf2 := HKp2.out.b2
        skip
        refine (refFits_any ({ x with n := n' } : O.Pl) out true w2 HFI.out ho).mono ?_
        clear pf0 pf1 pf2
        rintro e w3 ⟨rfl, hb⟩
        have HKp3 := Lib.hid (HKp2.out.on hb)
        have HB3 := Lib.hid (HB2.out.trans (hb.mono HB2.out.size))
        clear hb
        have pf0 := HKp3.out.b0
        have pf1 := HKp3.out.b1
        have pf2 := HKp3.out.b2
        go_wp2_with fail
        refine (refOthers_any (some ⟨b, off, none⟩) n c l m { x with n := n' } false HOT.out w3 (HT.out.below HB3.out) (by omega)).mono ?_
        clear pf0 pf1 pf2
        rintro e w4 ⟨rfl, hb⟩
        have HKp4 := Lib.hid (HKp3.out.on hb)
        have HB4 := Lib.hid (HB3.out.trans (hb.mono HB3.out.size))
        clear hb
        have pf0 := HKp4.out.b0
        have pf1 := HKp4.out.b1
        have pf2 := HKp4.out.b2
        clear pf0 pf1 pf2
        go_wp2_with fail
        obtain ⟨bp, hbp⟩ : ∃ bp, w1.heap.size = bp := ⟨_, rfl⟩
        have HKp : Hid (O.Bx w4 bp { x with n := n' }) := Lib.hid (by rw [← hbp]; exact HKp4.out)
        rw [hbp]
        clear hbp
        go_loopw [16] (fun i wr => ∃ j : Nat, i = .int .i64 j ∧ j ≤ nb ∧ Hid (∀ y ∈ bs.take j, O.lose x { x with n := n' } y = false) ∧ Hid (Below w4.heap.size w4 wr)) (fun i _ => nb - (intOf i).toNat)
        case atStart => exact ⟨0, by go_num, by omega, Lib.hid (by simp), Lib.hid (Below.refl _ _)⟩
        case round =>
          obtain ⟨j, rfl, hjn, HA, HBr⟩ := hrel
          have HBw := Lib.hid (HB4.out.trans (HBr.out.mono HB4.out.size))
          by_cases hlt : j < nb
          · have d1 : decide ((j : Int) < nb) = true := by simp; omega
            obtain ⟨bb, offb, y, rfl, hbb, hyl, q0⟩ := (HU.out.below HBw.out).at hlt
            obtain ⟨b', off', x', hay, hbl, hxy, p0, p1, p2⟩ := (HT.out.below HBw.out).at hm
            obtain rfl : x = x' := by have := HX.out; rw [hxy] at this; exact (Option.some.inj this).symm
            cases hay
            have HY := Lib.hid hyl
            have j0 : (0 : Int) ≤ j := by omega
            have j1 : (j : Int) < nb := by omega
            obtain ⟨u1, hu1⟩ : ∃ u, O.has x y = u := ⟨_, rfl⟩
            obtain ⟨u2, hu2⟩ : ∃ u, O.has { x with n := n' } y = u := ⟨_, rfl⟩
            have HU12 : Hid (O.lose x { x with n := n' } y = (u1 && !u2)) := Lib.hid (by rw [← hu1, ← hu2]; rfl)
            have c1 := fun V => refHas_any x y u1 V hu1
            have c2 := fun V => refHas_any { x with n := n' } y u2 V hu2
            have cp0 := fun d os => cell_regrown p0 d os
            have cp1 := fun d os => cell_regrown p1 d os
            have cp2 := fun d os => cell_regrown p2 d os
            have cq0 := fun d os => cell_regrown q0 d os
            unfold O.val at c1 c2
            dsimp only at c2
            clear hu1 hu2 hyl hxy hbl hbb
            go_wp2_with fail
            refine wp_region_quiet_below (by kernel_rfl) (by kernel_rfl) ?_
            repeat (go_big_quiet_step (with_reducible exact Calls.regrown_of (c1 _)))
            refine wpQuiet_nil ?_
            intro _ hw'
            obtain ⟨⟨dq, osq⟩, hw''⟩ := hw'
            subst hw''
            clear cp0 cp1 cp2 cq0 p0 p1 p2 q0 c1
            obtain ⟨W4, hW4⟩ : ∃ W4, Go.Sort.grow (redrawn wr dq) osq = W4 := ⟨_, rfl⟩
            have hb4 : Below wr.heap.size wr W4 := by rw [← hW4]; exact below_regrown _ _ _
            rw [hW4]
            clear hW4
            have HB4 := Lib.hid (HBr.out.trans (hb4.mono HBr.out.size))
            have HBw4 := Lib.hid (HBw.out.trans (hb4.mono HBw.out.size))
            clear hb4
            obtain ⟨bb', offb', y', hby, hbb, hyl, q0⟩ := (HU.out.below HBw4.out).at hlt
            obtain rfl : y = y' := by have := HY.out; rw [hyl] at this; exact (Option.some.inj this).symm
            cases hby
            have HKr := Lib.hid (HKp.out.on HB4.out)
            have k0 := HKr.out.b0
            have k1 := HKr.out.b1
            have k2 := HKr.out.b2
            dsimp only at k0 k1 k2
            have cq0 := fun d os => cell_regrown q0 d os
            have ck0 := fun d os => cell_regrown k0 d os
            have ck1 := fun d os => cell_regrown k1 d os
            have ck2 := fun d os => cell_regrown k2 d os
            clear hyl hbb
            go_wp2_with fail
            refine wp_region_quiet_below (by kernel_rfl) (by kernel_rfl) ?_
            repeat (go_big_quiet_step (with_reducible exact Calls.regrown_of (c2 _)))
            refine wpQuiet_nil ?_
            intro _ hw'
            obtain ⟨⟨dq, osq⟩, hw''⟩ := hw'
            subst hw''
            clear cq0 ck0 ck1 ck2 k0 k1 k2 q0 c2
            obtain ⟨W5, hW5⟩ : ∃ W5, Go.Sort.grow (redrawn W4 dq) osq = W5 := ⟨_, rfl⟩
            have hb5 : Below W4.heap.size W4 W5 := by rw [← hW5]; exact below_regrown _ _ _
            rw [hW5]
            clear hW5
            have HB5 := Lib.hid (HB4.out.trans (hb5.mono HB4.out.size))
            have HBw5 := Lib.hid (HBw4.out.trans (hb5.mono HBw4.out.size))
            clear hb5
            have NX : Hid ((u1 && !u2) = false → ∀ y ∈ bs.take (j + 1), O.lose x { x with n := n' } y = false) := Lib.hid (fun h => O.anyi_snoc HY.out HA.out (by rw [HU12.out, h]))
            cases u1 with
            | false =>
              have HN := Lib.hid (NX.out rfl)
              go_wp2
              go_roundw
              case rel => exact ⟨j + 1, by go_num, by omega, HN, HB5⟩
              case measure => simp [intOf] <;> omega
            | true =>
              cases u2 with
              | true =>
                have HN := Lib.hid (NX.out rfl)
                go_wp2
                go_roundw
                case rel => exact ⟨j + 1, by go_num, by omega, HN, HB5⟩
                case measure => simp [intOf] <;> omega
              | false =>
                have hs1 := HS1.out
                rw [if_pos (show O.loses x { x with n := n' } bs = true from O.anyi_yes (f := O.lose x { x with n := n' }) HY.out HU12.out)] at hs1
                obtain ⟨rfl, rfl⟩ := Prod.mk.inj hs1.symm
                obtain rfl : n = n2 := by rw [← H2.out, HT.out.1]
                have HQR := Lib.hid (HT.out.below HBw5.out)
                clear hs1
                go_wp2
                go_ret2
                exact ⟨_, _, rfl, HQR, HBw5.out⟩
          · have d1 : decide ((j : Int) < nb) = false := by simp; omega
            have hnl : O.loses x { x with n := n' } bs = false := by
              have h1 := HA.out
              rw [List.take_of_length_le (by rw [HU.out.1]; omega)] at h1
              exact O.anyi_no (f := O.lose x { x with n := n' }) h1
            have hs1 := HS1.out
            rw [if_neg (by rw [hnl]; decide)] at hs1
            obtain ⟨hl2, rfl⟩ := Prod.mk.inj hs1.symm
            have HL2 : Hid (l.set m { x with n := n' } = l2) := Lib.hid hl2
            clear hs1 hl2 hnl
            have FT : Hid (QIn wr (some ⟨b, off, none⟩) n c l) := Lib.hid (HT.out.below HBw.out)
            go_upto_region 22 with (at_builtin; (refine wpList_appendOs rfl (.const (.slice none 0 0)) (.tmp 80) rfl wr.heap.size _ 0 [] rfl (World.ownsRow_nil _ _ _ _) (some ⟨b, off, none⟩) n c l rfl FT.out (by omega) (Nat.le_refl _) ?_; intro v8 w8 hown8 hgrow8; rw [Nat.zero_add] at hown8; have HO8 : Hid (w8.ownsRow wr.heap.size 37 3 v8 n (O.flat l)) := Lib.hid (by simpa using hown8); have HG8 := Lib.hid hgrow8; clear hown8 hgrow8))
            obtain ⟨g, cap, rfl⟩ : ∃ g cap, v8 = .slice (some ⟨g, 0, none⟩) n cap := by
              rcases HO8.out.2 with ⟨rfl, h0⟩ | ⟨g, cap, _, rfl, _⟩
              · omega
              · exact ⟨g, cap, rfl⟩
            have HK8 := Lib.hid (HKp.out.on (HBr.out.trans ((O.none_below HG8.out).mono HBr.out.size)))
            have k0 := HK8.out.b0
            have k1 := HK8.out.b1
            have k2 := HK8.out.b2
            dsimp only at k0 k1 k2
            have hj0 : m * 3 < n * 3 := by omega
            have hj1 : m * 3 + 1 < n * 3 := by omega
            have hj2 : m * 3 + 2 < n * 3 := by omega
            have hc0 : w8.cell? ⟨g, m * 3, none⟩ = some (.int .i64 x.f) := by rw [HO8.out.cellAt _ hj0]; exact (O.flat_at l m x HX.out).1
            have hc1 : w8.cell? ⟨g, m * 3 + 1, none⟩ = some (.int .i64 x.n) := by rw [HO8.out.cellAt _ hj1]; exact (O.flat_at l m x HX.out).2.1
            have hc2 : w8.cell? ⟨g, m * 3 + 2, none⟩ = some (.int .i64 x.s) := by rw [HO8.out.cellAt _ hj2]; exact (O.flat_at l m x HX.out).2.2
            have hz0 := HO8.out.frozenAt (m * 3)
            have hz1 := HO8.out.frozenAt (m * 3 + 1)
            have hz2 := HO8.out.frozenAt (m * 3 + 2)
            have HST := Lib.hid (O.set3 HO8.out HX.out { x with n := n' })
            dsimp only at HST
            obtain ⟨w9, hw9⟩ : ∃ W, ((w8.setCell ⟨g, m * 3, none⟩ (.int .i64 x.f)).setCell ⟨g, m * 3 + 1, none⟩ (.int .i64 n')).setCell ⟨g, m * 3 + 2, none⟩ (.int .i64 x.s) = W := ⟨_, rfl⟩
            have HB9 : Hid (Below w.heap.size w w9) := Lib.hid (by rw [← hw9]; exact HBw.out.trans (((O.none_below HG8.out).grown HST.out.2 HG8.out.size (fun i hi => by cases hi; exact (HO8.out.lt g rfl).1)).mono HBw.out.size))
            have HO9 : Hid (w9.ownsRow wr.heap.size 37 3 (.slice (some ⟨g, 0, none⟩) n cap) n (O.flat l2)) := Lib.hid (by rw [← hw9, ← HL2.out]; exact HST.out.1)
            have hcap : n ≤ cap := by
              obtain ⟨a3, c3, he, ht3⟩ := own_pools HO8.out HT.out.1
              cases he; exact ht3.2.1.1
            obtain ⟨a3, c3, he, ht3⟩ := own_pools HO9.out (by rw [← HL2.out, List.length_set, HT.out.1])
            have HT3 : Hid (QIn w9 (some ⟨g, 0, none⟩) n cap l2) := Lib.hid (by cases he; exact ht3)
            have hn2 : n = n2 := by rw [← H2.out, ← HL2.out, List.length_set, HT.out.1]
            clear he ht3
            go_wp2
            go_ret2
            subst hn2
            try rw [hw9]
            exact ⟨_, _, rfl, HT3, HB9.out⟩
  · have hs1 := O.size_no (l := l) (out := out) (k := k) (n := n') (busy := bs) hsk
    rw [hs] at hs1
    obtain ⟨rfl, he⟩ := Prod.mk.inj hs1.symm
    obtain rfl : n = n2 := by rw [← h2, hl]
    have HE := Lib.hid he
    clear hs hs1 h2
    by_cases hp1 : pm = false
    · subst hp1
      obtain rfl : (1 : Int) = er := by rw [← HE.out]; unfold O.seek; rw [if_pos hpm]
      clear hpm hl hsk HE he
      go_enter Try.func16, Try.ntmps16
      go_wp2_with fail
      refine (refMay_any a n c l out false HM.out w (HT.out.below HB0.out) (by omega)).mono ?_
      rintro e w1 ⟨rfl, hb⟩
      have HB1 := Lib.hid (HB0.out.trans (hb.mono HB0.out.size))
      clear hb
      have HQR := Lib.hid (HT.out.below HB1.out)
      go_wp2
      go_ret2
      exact ⟨_, _, rfl, HQR, HB1.out⟩
    · obtain rfl : pm = true := by simpa using hp1
      have hr : k < 0 ∨ (n : Int) ≤ k := by
        rw [← hl]
        refine Decidable.byContradiction fun h => hsk ?_
        unfold O.seek; rw [if_neg (by rw [hpm]; decide), if_neg h]
      obtain rfl : (5 : Int) = er := by rw [← HE.out]; unfold O.seek; rw [if_neg (by rw [hpm]; decide), if_pos (by rw [hl]; exact hr)]
      clear hpm hl hsk HE he hp1
      by_cases hk : k < 0
      · have r1 : decide (k < 0) = true := by simpa using hk
        clear hr
        go_enter Try.func16, Try.ntmps16
        go_wp2_with fail
        refine (refMay_any a n c l out true HM.out w (HT.out.below HB0.out) (by omega)).mono ?_
        rintro e w1 ⟨rfl, hb⟩
        have HB1 := Lib.hid (HB0.out.trans (hb.mono HB0.out.size))
        clear hb
        have HQR := Lib.hid (HT.out.below HB1.out)
        go_wp2
        go_ret2
        exact ⟨_, _, rfl, HQR, HB1.out⟩
      · have r1 : decide (k < 0) = false := by simpa using hk
        have r2 : decide ((n : Int) ≤ k) = true := decide_eq_true (hr.resolve_left hk)
        clear hr
        go_enter Try.func16, Try.ntmps16
        go_wp2_with fail
        refine (refMay_any a n c l out true HM.out w (HT.out.below HB0.out) (by omega)).mono ?_
        rintro e w1 ⟨rfl, hb⟩
        have HB1 := Lib.hid (HB0.out.trans (hb.mono HB0.out.size))
        clear hb
        have HQR := Lib.hid (HT.out.below HB1.out)
        go_wp2
        go_ret2
        exact ⟨_, _, rfl, HQR, HB1.out⟩
end Go.Proofs.Ytejckbnapcdhpaa
