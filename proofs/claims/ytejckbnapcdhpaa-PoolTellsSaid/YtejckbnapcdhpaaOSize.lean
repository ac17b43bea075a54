/-
  pool.Size, its answer as letters.
-/
import Derived.Test.YtejckbnapcdhpaaODo
import Derived.Test.YtejckbnapcdhpaaOLose
import Derived.Lib.QuietBelow
namespace Go.Proofs.Ytejckbnapcdhpaa
open Go.RowKit

set_option maxRecDepth 100000 in
set_option maxHeartbeats 1600000 in
theorem size_is (a : Option Addr) (n c : Nat) (l : List O.Pl) (out k n' : Int) (ab : Option Addr) (nb cb : Nat) (bs : List Int) (l2 : List O.Pl) (n2 : Nat) (er : Int) (w : World) (h : QIn w a n c l) (hn : n ≤ 800) (hz : O.Sm l) (hu : BIn w ab nb cb bs) (hnb : nb ≤ 1000000) (hs : O.size l out k n' bs = (l2, er)) (h2 : l2.length = n2) :
    Calls Try.prog 15 #[.slice a n c, .int .i64 out, .int .i64 k, .int .i64 n', .slice ab nb cb] w fun e w' => ∃ a2 c2, e = .returned (.tuple #[.slice a2 n2 c2, .int .i64 er]) ∧ Hid (QIn w' a2 n2 c2 l2) ∧ Below w.heap.size w w' := by
  have HT := Lib.hid h
  have hl := h.1
  have HB0 := Lib.hid (Below.refl w.heap.size w)
  have HU := Lib.hid hu
  have HZ := Lib.hid hz
  obtain ⟨sk, hsk⟩ : ∃ s, O.seek l out k = s := ⟨_, rfl⟩
  have HSK := Lib.hid hsk
  clear h hz hu
  by_cases hp1 : sk = 0
  · subst hp1
    have hsk' := O.seek_ok.1 hsk
    have hmay := O.may_iff.1 hsk'.1
    have hout : 0 ≤ out ∧ out ≤ 4 := ⟨hmay.1, hmay.2.1⟩
    obtain ⟨m, rfl⟩ : ∃ m : Nat, k = m := ⟨k.toNat, by omega⟩
    have hm : m < n := by omega
    have hx := List.getElem?_eq_getElem (show m < l.length by omega)
    obtain ⟨x, hxl⟩ : ∃ x, l[m]'(by omega) = x := ⟨_, rfl⟩
    rw [hxl] at hx
    have hat := O.at_some hx
    have HX := Lib.hid hx
    have m0 : (0 : Int) ≤ m := by omega
    have m1 : (m : Int) < n := by omega
    have hs1 := O.size_yes (n := n') (busy := bs) hsk
    rw [hs, hat] at hs1
    have hxf : x.f ≤ 9223372036854775807 := HZ.out x (List.mem_of_getElem? hx)
    have H3 : Hid (l.eraseIdx ((m : Int).toNat) = l.eraseIdx m) := Lib.hid rfl
    obtain ⟨l3, hl3⟩ : ∃ l3, l.eraseIdx ((m : Int).toNat) = l3 := ⟨_, rfl⟩
    obtain ⟨n3, hn3⟩ : ∃ n3, l3.length = n3 := ⟨_, rfl⟩
    have hn3' : n3 ≤ 800 := by have := List.length_eraseIdx_le l ((m : Int).toNat); rw [hl3, hn3] at this; omega
    have HL3 := Lib.hid hl3
    have HN3 := Lib.hid hn3
    rw [hl3] at hs1
    obtain ⟨u1, hu1⟩ : ∃ u, O.below { x with n := n' } out = u := ⟨_, rfl⟩
    obtain ⟨u2, hu2⟩ : ∃ u, (l3.any fun q => O.hit { x with n := n' } q) = u := ⟨_, rfl⟩
    obtain ⟨u3, hu3⟩ : ∃ u, O.loses x { x with n := n' } bs = u := ⟨_, rfl⟩
    rw [hu1, hu2, hu3] at hs1
    have HBE : Hid (O.below ⟨x.f, n', 0⟩ out = u1) := Lib.hid hu1
    have HHI : Hid (l3.any (O.hit ⟨x.f, n', 0⟩) = u2) := Lib.hid hu2
    have HLO : Hid (O.loses x ⟨x.f, n', 0⟩ bs = u3) := Lib.hid hu3
    have HAT := Lib.hid hat
    clear hsk' hmay hxl hx hs hat hu1 hu2 hu3 hl3 hn3
    by_cases hp2 : u1 = false
    · subst hp2
      rw [if_pos rfl] at hs1
      obtain ⟨rfl, rfl⟩ := Prod.mk.inj hs1.symm
      obtain rfl : n = n2 := by rw [← h2, hl]
      clear hs1 h2 hl hsk
      go_enter Try.func15, Try.ntmps15
      go_wp2_with fail
      refine (seek_is a n c l out m 0 w (HT.out.below HB0.out) hn HZ.out HSK.out).mono ?_
      rintro e w1 ⟨rfl, hb⟩
      have HB1 := Lib.hid (HB0.out.trans (hb.mono HB0.out.size))
      clear hb
      obtain ⟨b, off, y, hay, hbl, hxy, p0, p1, p2⟩ := (HT.out.below HB1.out).at hm
      obtain rfl : x = y := by have := HX.out; rw [hxy] at this; exact (Option.some.inj this).symm
      cases hay
      clear hxy hbl
      have hb := O.box_below w1 ⟨x.f, n', 0⟩
      have hk := O.box_is w1 ⟨x.f, n', 0⟩
      dsimp only [O.box] at hb hk
      have HBT := Lib.hid hb
      have HKT := Lib.hid hk
      clear hb hk
      go_wp2_with fail
      obtain ⟨w2, hw2⟩ : ∃ W, w1.alloc (.cells #[.int .i64 x.f, .int .i64 n', .int .i64 0] 37) = W := ⟨_, rfl⟩
      have hb := HBT.out
      have hk := HKT.out
      rw [hw2] at hb hk ⊢
      clear hw2 HBT HKT
      clear p0 p1 p2
      have HKp2 := Lib.hid hk
      clear hk
      have HB2 := Lib.hid (HB1.out.trans (hb.mono HB1.out.size))
      clear hb
      have pf0 := HKp2.out.b0
      have pf1 := HKp2.out.b1
      have pf2 := HKp2.out.b2
      skip
      refine (done3_is (some ⟨b, off, none⟩) n c l m l3 n3 w2 (HT.out.below HB2.out) hn m0 HL3.out HN3.out).mono ?_
      clear pf0 pf1 pf2
      rintro e w3 ⟨a3, c3, rfl, hto, hb⟩
      have HKp3 := Lib.hid (HKp2.out.on hb)
      have HB3 := Lib.hid (HB2.out.trans (hb.mono HB2.out.size))
      clear hb
      have pf0 := HKp3.out.b0
      have pf1 := HKp3.out.b1
      have pf2 := HKp3.out.b2
      have HLo3 := hto
      clear hto
      go_wp2_with fail
      refine (obelow_any (⟨x.f, n', 0⟩ : O.Pl) out false w3 HBE.out hout hxf).mono ?_
      clear pf0 pf1 pf2
      rintro e w4 ⟨rfl, hb⟩
      have HKp4 := Lib.hid (HKp3.out.on hb)
      have HLo4 := Lib.hid (HLo3.out.below hb)
      have HB4 := Lib.hid (HB3.out.trans (hb.mono HB3.out.size))
      clear hb
      have pf0 := HKp4.out.b0
      have pf1 := HKp4.out.b1
      have pf2 := HKp4.out.b2
      go_wp2_with fail
      refine (clone_is (some ⟨b, off, none⟩) n c l w4 (HT.out.below HB4.out) hn).mono ?_
      clear pf0 pf1 pf2
      rintro e w5 ⟨a3, c3, rfl, ht3, hb⟩
      have HKp5 := Lib.hid (HKp4.out.on hb)
      have HLo5 := Lib.hid (HLo4.out.below hb)
      have HB5 := Lib.hid (HB4.out.trans (hb.mono HB4.out.size))
      clear hb
      have pf0 := HKp5.out.b0
      have pf1 := HKp5.out.b1
      have pf2 := HKp5.out.b2
      go_wp2
      go_ret2
      exact ⟨a3, c3, rfl, ht3, HB5.out⟩
    · obtain rfl : u1 = true := by simpa using hp2
      rw [if_neg (by decide)] at hs1
      clear hp2
      by_cases hp3 : u2 = true
      · subst hp3
        rw [if_pos rfl] at hs1
        obtain ⟨rfl, rfl⟩ := Prod.mk.inj hs1.symm
        obtain rfl : n = n2 := by rw [← h2, hl]
        clear hs1 h2 hl hsk
        go_enter Try.func15, Try.ntmps15
        go_wp2_with fail
        refine (seek_is a n c l out m 0 w (HT.out.below HB0.out) hn HZ.out HSK.out).mono ?_
        rintro e w1 ⟨rfl, hb⟩
        have HB1 := Lib.hid (HB0.out.trans (hb.mono HB0.out.size))
        clear hb
        obtain ⟨b, off, y, hay, hbl, hxy, p0, p1, p2⟩ := (HT.out.below HB1.out).at hm
        obtain rfl : x = y := by have := HX.out; rw [hxy] at this; exact (Option.some.inj this).symm
        cases hay
        clear hxy hbl
        have hb := O.box_below w1 ⟨x.f, n', 0⟩
        have hk := O.box_is w1 ⟨x.f, n', 0⟩
        dsimp only [O.box] at hb hk
        have HBT := Lib.hid hb
        have HKT := Lib.hid hk
        clear hb hk
        go_wp2_with fail
        obtain ⟨w2, hw2⟩ : ∃ W, w1.alloc (.cells #[.int .i64 x.f, .int .i64 n', .int .i64 0] 37) = W := ⟨_, rfl⟩
        have hb := HBT.out
        have hk := HKT.out
        rw [hw2] at hb hk ⊢
        clear hw2 HBT HKT
        clear p0 p1 p2
        have HKp2 := Lib.hid hk
        clear hk
        have HB2 := Lib.hid (HB1.out.trans (hb.mono HB1.out.size))
        clear hb
        have pf0 := HKp2.out.b0
        have pf1 := HKp2.out.b1
        have pf2 := HKp2.out.b2
        skip
        refine (done3_is (some ⟨b, off, none⟩) n c l m l3 n3 w2 (HT.out.below HB2.out) hn m0 HL3.out HN3.out).mono ?_
        clear pf0 pf1 pf2
        rintro e w3 ⟨a3, c3, rfl, hto, hb⟩
        have HKp3 := Lib.hid (HKp2.out.on hb)
        have HB3 := Lib.hid (HB2.out.trans (hb.mono HB2.out.size))
        clear hb
        have pf0 := HKp3.out.b0
        have pf1 := HKp3.out.b1
        have pf2 := HKp3.out.b2
        have HLo3 := hto
        clear hto
        go_wp2_with fail
        refine (obelow_any (⟨x.f, n', 0⟩ : O.Pl) out true w3 HBE.out hout hxf).mono ?_
        clear pf0 pf1 pf2
        rintro e w4 ⟨rfl, hb⟩
        have HKp4 := Lib.hid (HKp3.out.on hb)
        have HLo4 := Lib.hid (HLo3.out.below hb)
        have HB4 := Lib.hid (HB3.out.trans (hb.mono HB3.out.size))
        clear hb
        have pf0 := HKp4.out.b0
        have pf1 := HKp4.out.b1
        have pf2 := HKp4.out.b2
        go_wp2_with fail
        refine (meeting_any (⟨x.f, n', 0⟩ : O.Pl) w4).mono ?_
        clear pf0 pf1 pf2
        rintro e w5 ⟨bx, rfl, HXB, hb⟩
        have HKp5 := Lib.hid (HKp4.out.on hb)
        have HLo5 := Lib.hid (HLo4.out.below hb)
        have HB5 := Lib.hid (HB4.out.trans (hb.mono HB4.out.size))
        clear hb
        have pf0 := HKp5.out.b0
        have pf1 := HKp5.out.b1
        have pf2 := HKp5.out.b2
        unfold O.clo
        go_wp2_with fail
        refine (hits_any a3 n3 c3 l3 ⟨x.f, n', 0⟩ bx true HHI.out w5 HLo5.out HXB.out (by omega)).mono ?_
        clear pf0 pf1 pf2
        rintro e w6 ⟨rfl, hb⟩
        have HKp6 := Lib.hid (HKp5.out.on hb)
        have HLo6 := Lib.hid (HLo5.out.below hb)
        have HB6 := Lib.hid (HB5.out.trans (hb.mono HB5.out.size))
        clear hb
        have pf0 := HKp6.out.b0
        have pf1 := HKp6.out.b1
        have pf2 := HKp6.out.b2
        go_wp2_with fail
        refine (clone_is (some ⟨b, off, none⟩) n c l w6 (HT.out.below HB6.out) hn).mono ?_
        clear pf0 pf1 pf2
        rintro e w7 ⟨a3, c3, rfl, ht3, hb⟩
        have HKp7 := Lib.hid (HKp6.out.on hb)
        have HLo7 := Lib.hid (HLo6.out.below hb)
        have HB7 := Lib.hid (HB6.out.trans (hb.mono HB6.out.size))
        clear hb
        have pf0 := HKp7.out.b0
        have pf1 := HKp7.out.b1
        have pf2 := HKp7.out.b2
        go_wp2
        go_ret2
        exact ⟨a3, c3, rfl, ht3, HB7.out⟩
      · obtain rfl : u2 = false := by simpa using hp3
        rw [if_neg (by decide)] at hs1
        clear hp3
        by_cases hp4 : u3 = true
        · subst hp4
          rw [if_pos rfl] at hs1
          obtain ⟨rfl, rfl⟩ := Prod.mk.inj hs1.symm
          obtain rfl : n = n2 := by rw [← h2, hl]
          clear hs1 h2 hl hsk
          go_enter Try.func15, Try.ntmps15
          go_wp2_with fail
          refine (seek_is a n c l out m 0 w (HT.out.below HB0.out) hn HZ.out HSK.out).mono ?_
          rintro e w1 ⟨rfl, hb⟩
          have HB1 := Lib.hid (HB0.out.trans (hb.mono HB0.out.size))
          clear hb
          obtain ⟨b, off, y, hay, hbl, hxy, p0, p1, p2⟩ := (HT.out.below HB1.out).at hm
          obtain rfl : x = y := by have := HX.out; rw [hxy] at this; exact (Option.some.inj this).symm
          cases hay
          clear hxy hbl
          have hb := O.box_below w1 ⟨x.f, n', 0⟩
          have hk := O.box_is w1 ⟨x.f, n', 0⟩
          dsimp only [O.box] at hb hk
          have HBT := Lib.hid hb
          have HKT := Lib.hid hk
          clear hb hk
          go_wp2_with fail
          obtain ⟨w2, hw2⟩ : ∃ W, w1.alloc (.cells #[.int .i64 x.f, .int .i64 n', .int .i64 0] 37) = W := ⟨_, rfl⟩
          have hb := HBT.out
          have hk := HKT.out
          rw [hw2] at hb hk ⊢
          clear hw2 HBT HKT
          clear p0 p1 p2
          have HKp2 := Lib.hid hk
          clear hk
          have HB2 := Lib.hid (HB1.out.trans (hb.mono HB1.out.size))
          clear hb
          have pf0 := HKp2.out.b0
          have pf1 := HKp2.out.b1
          have pf2 := HKp2.out.b2
          skip
          refine (done3_is (some ⟨b, off, none⟩) n c l m l3 n3 w2 (HT.out.below HB2.out) hn m0 HL3.out HN3.out).mono ?_
          clear pf0 pf1 pf2
          rintro e w3 ⟨a3, c3, rfl, hto, hb⟩
          have HKp3 := Lib.hid (HKp2.out.on hb)
          have HB3 := Lib.hid (HB2.out.trans (hb.mono HB2.out.size))
          clear hb
          have pf0 := HKp3.out.b0
          have pf1 := HKp3.out.b1
          have pf2 := HKp3.out.b2
          have HLo3 := hto
          clear hto
          go_wp2_with fail
          refine (obelow_any (⟨x.f, n', 0⟩ : O.Pl) out true w3 HBE.out hout hxf).mono ?_
          clear pf0 pf1 pf2
          rintro e w4 ⟨rfl, hb⟩
          have HKp4 := Lib.hid (HKp3.out.on hb)
          have HLo4 := Lib.hid (HLo3.out.below hb)
          have HB4 := Lib.hid (HB3.out.trans (hb.mono HB3.out.size))
          clear hb
          have pf0 := HKp4.out.b0
          have pf1 := HKp4.out.b1
          have pf2 := HKp4.out.b2
          go_wp2_with fail
          refine (meeting_any (⟨x.f, n', 0⟩ : O.Pl) w4).mono ?_
          clear pf0 pf1 pf2
          rintro e w5 ⟨bx, rfl, HXB, hb⟩
          have HKp5 := Lib.hid (HKp4.out.on hb)
          have HLo5 := Lib.hid (HLo4.out.below hb)
          have HB5 := Lib.hid (HB4.out.trans (hb.mono HB4.out.size))
          clear hb
          have pf0 := HKp5.out.b0
          have pf1 := HKp5.out.b1
          have pf2 := HKp5.out.b2
          unfold O.clo
          go_wp2_with fail
          refine (hits_any a3 n3 c3 l3 ⟨x.f, n', 0⟩ bx false HHI.out w5 HLo5.out HXB.out (by omega)).mono ?_
          clear pf0 pf1 pf2
          rintro e w6 ⟨rfl, hb⟩
          have HKp6 := Lib.hid (HKp5.out.on hb)
          have HLo6 := Lib.hid (HLo5.out.below hb)
          have HB6 := Lib.hid (HB5.out.trans (hb.mono HB5.out.size))
          clear hb
          have pf0 := HKp6.out.b0
          have pf1 := HKp6.out.b1
          have pf2 := HKp6.out.b2
          obtain ⟨b2, off2, y, hay, hbl, hxy, p0, p1, p2⟩ := (HT.out.below HB6.out).at hm
          obtain rfl : x = y := by have := HX.out; rw [hxy] at this; exact (Option.some.inj this).symm
          cases hay
          clear hxy hbl
          clear pf0 pf1 pf2
          have cp0 := fun d os => cell_regrown p0 d os
          have cp1 := fun d os => cell_regrown p1 d os
          have cp2 := fun d os => cell_regrown p2 d os
          have q0 := HKp6.out.b0
          have cq0 := fun d os => cell_regrown q0 d os
          have q1 := HKp6.out.b1
          have cq1 := fun d os => cell_regrown q1 d os
          have q2 := HKp6.out.b2
          have cq2 := fun d os => cell_regrown q2 d os
          have c1 := fun d os => loses_any x ⟨x.f, n', 0⟩ ab nb cb bs true HLO.out (Go.Sort.grow (redrawn w6 d) os) ((HU.out.below HB6.out).below (below_regrown w6 d os)) hnb
          unfold O.val at c1
          go_wp2_with fail
          refine wp_region_quiet_below (by kernel_rfl) (by kernel_rfl) ?_
          repeat (go_big_quiet_step (with_reducible exact Calls.regrown_of (c1 _ _)))
          refine wpQuiet_nil ?_
          intro _ hw'
          obtain ⟨⟨dq, osq⟩, hw''⟩ := hw'
          subst hw''
          clear p0 p1 p2 cp0 cp1 cp2 q0 q1 q2 cq0 cq1 cq2 c1
          obtain ⟨w7, hw7⟩ : ∃ W, Go.Sort.grow (redrawn w6 dq) osq = W := ⟨_, rfl⟩
          have hb : Below w6.heap.size w6 w7 := by rw [← hw7]; exact below_regrown _ _ _
          rw [hw7]
          clear hw7
          have HB7 := Lib.hid (HB6.out.trans (hb.mono HB6.out.size))
          clear hb
          go_wp2_with fail
          refine (clone_is (some ⟨b, off, none⟩) n c l w7 (HT.out.below HB7.out) hn).mono ?_
          rintro e w8 ⟨a3, c3, rfl, ht3, hb⟩
          have HB8 := Lib.hid (HB7.out.trans (hb.mono HB7.out.size))
          clear hb
          go_wp2
          go_ret2
          exact ⟨a3, c3, rfl, ht3, HB8.out⟩
        · obtain rfl : u3 = false := by simpa using hp4
          rw [if_neg (by decide)] at hs1
          obtain ⟨hl2, rfl⟩ := Prod.mk.inj hs1.symm
          have HL2 : Hid (l.set ((m : Int).toNat) { O.at' l (m : Int) with n := n' } = l2) := Lib.hid (by rw [HAT.out]; exact hl2)
          have H2 := Lib.hid h2
          clear hs1 h2 hl hl2 hp4 hsk
          go_enter Try.func15, Try.ntmps15
          go_wp2_with fail
          refine (seek_is a n c l out m 0 w (HT.out.below HB0.out) hn HZ.out HSK.out).mono ?_
          rintro e w1 ⟨rfl, hb⟩
          have HB1 := Lib.hid (HB0.out.trans (hb.mono HB0.out.size))
          clear hb
          obtain ⟨b, off, y, hay, hbl, hxy, p0, p1, p2⟩ := (HT.out.below HB1.out).at hm
          obtain rfl : x = y := by have := HX.out; rw [hxy] at this; exact (Option.some.inj this).symm
          cases hay
          clear hxy hbl
          have hb := O.box_below w1 ⟨x.f, n', 0⟩
          have hk := O.box_is w1 ⟨x.f, n', 0⟩
          dsimp only [O.box] at hb hk
          have HBT := Lib.hid hb
          have HKT := Lib.hid hk
          clear hb hk
          go_wp2_with fail
          obtain ⟨w2, hw2⟩ : ∃ W, w1.alloc (.cells #[.int .i64 x.f, .int .i64 n', .int .i64 0] 37) = W := ⟨_, rfl⟩
          have hb := HBT.out
          have hk := HKT.out
          rw [hw2] at hb hk ⊢
          clear hw2 HBT HKT
          clear p0 p1 p2
          have HKp2 := Lib.hid hk
          clear hk
          have HB2 := Lib.hid (HB1.out.trans (hb.mono HB1.out.size))
          clear hb
          have pf0 := HKp2.out.b0
          have pf1 := HKp2.out.b1
          have pf2 := HKp2.out.b2
          skip
          refine (done3_is (some ⟨b, off, none⟩) n c l m l3 n3 w2 (HT.out.below HB2.out) hn m0 HL3.out HN3.out).mono ?_
          clear pf0 pf1 pf2
          rintro e w3 ⟨a3, c3, rfl, hto, hb⟩
          have HKp3 := Lib.hid (HKp2.out.on hb)
          have HB3 := Lib.hid (HB2.out.trans (hb.mono HB2.out.size))
          clear hb
          have pf0 := HKp3.out.b0
          have pf1 := HKp3.out.b1
          have pf2 := HKp3.out.b2
          have HLo3 := hto
          clear hto
          go_wp2_with fail
          refine (obelow_any (⟨x.f, n', 0⟩ : O.Pl) out true w3 HBE.out hout hxf).mono ?_
          clear pf0 pf1 pf2
          rintro e w4 ⟨rfl, hb⟩
          have HKp4 := Lib.hid (HKp3.out.on hb)
          have HLo4 := Lib.hid (HLo3.out.below hb)
          have HB4 := Lib.hid (HB3.out.trans (hb.mono HB3.out.size))
          clear hb
          have pf0 := HKp4.out.b0
          have pf1 := HKp4.out.b1
          have pf2 := HKp4.out.b2
          go_wp2_with fail
          refine (meeting_any (⟨x.f, n', 0⟩ : O.Pl) w4).mono ?_
          clear pf0 pf1 pf2
          rintro e w5 ⟨bx, rfl, HXB, hb⟩
          have HKp5 := Lib.hid (HKp4.out.on hb)
          have HLo5 := Lib.hid (HLo4.out.below hb)
          have HB5 := Lib.hid (HB4.out.trans (hb.mono HB4.out.size))
          clear hb
          have pf0 := HKp5.out.b0
          have pf1 := HKp5.out.b1
          have pf2 := HKp5.out.b2
          unfold O.clo
          go_wp2_with fail
          refine (hits_any a3 n3 c3 l3 ⟨x.f, n', 0⟩ bx false HHI.out w5 HLo5.out HXB.out (by omega)).mono ?_
          clear pf0 pf1 pf2
          rintro e w6 ⟨rfl, hb⟩
          have HKp6 := Lib.hid (HKp5.out.on hb)
          have HLo6 := Lib.hid (HLo5.out.below hb)
          have HB6 := Lib.hid (HB5.out.trans (hb.mono HB5.out.size))
          clear hb
          have pf0 := HKp6.out.b0
          have pf1 := HKp6.out.b1
          have pf2 := HKp6.out.b2
          obtain ⟨b2, off2, y, hay, hbl, hxy, p0, p1, p2⟩ := (HT.out.below HB6.out).at hm
          obtain rfl : x = y := by have := HX.out; rw [hxy] at this; exact (Option.some.inj this).symm
          cases hay
          clear hxy hbl
          clear pf0 pf1 pf2
          have cp0 := fun d os => cell_regrown p0 d os
          have cp1 := fun d os => cell_regrown p1 d os
          have cp2 := fun d os => cell_regrown p2 d os
          have q0 := HKp6.out.b0
          have cq0 := fun d os => cell_regrown q0 d os
          have q1 := HKp6.out.b1
          have cq1 := fun d os => cell_regrown q1 d os
          have q2 := HKp6.out.b2
          have cq2 := fun d os => cell_regrown q2 d os
          have c1 := fun d os => loses_any x ⟨x.f, n', 0⟩ ab nb cb bs false HLO.out (Go.Sort.grow (redrawn w6 d) os) ((HU.out.below HB6.out).below (below_regrown w6 d os)) hnb
          unfold O.val at c1
          go_wp2_with fail
          refine wp_region_quiet_below (by kernel_rfl) (by kernel_rfl) ?_
          repeat (go_big_quiet_step (with_reducible exact Calls.regrown_of (c1 _ _)))
          refine wpQuiet_nil ?_
          intro _ hw'
          obtain ⟨⟨dq, osq⟩, hw''⟩ := hw'
          subst hw''
          clear p0 p1 p2 cp0 cp1 cp2 q0 q1 q2 cq0 cq1 cq2 c1
          obtain ⟨w7, hw7⟩ : ∃ W, Go.Sort.grow (redrawn w6 dq) osq = W := ⟨_, rfl⟩
          have hb : Below w6.heap.size w6 w7 := by rw [← hw7]; exact below_regrown _ _ _
          rw [hw7]
          clear hw7
          have HB7 := Lib.hid (HB6.out.trans (hb.mono HB6.out.size))
          clear hb
          go_wp2_with fail
          refine (done2_is (some ⟨b, off, none⟩) n c l m n' l2 n2 w7 (HT.out.below HB7.out) hn m0 m1 HL2.out H2.out).mono ?_
          rintro e w8 ⟨a3, c3, rfl, ht3, hb⟩
          have HB8 := Lib.hid (HB7.out.trans (hb.mono HB7.out.size))
          clear hb
          go_wp2
          go_ret2
          exact ⟨a3, c3, rfl, ht3, HB8.out⟩
  · have e1 : (sk != 0) = true := by simpa using hp1
    have hs1 := O.size_no (l := l) (out := out) (k := k) (n := n') (busy := bs) (by rw [hsk]; exact hp1)
    rw [hs, hsk] at hs1
    obtain ⟨rfl, rfl⟩ := Prod.mk.inj hs1.symm
    obtain rfl : n = n2 := by rw [← h2, hl]
    clear hs hs1 h2 hl hsk hp1
    go_enter Try.func15, Try.ntmps15
    go_wp2_with fail
    refine (seek_is a n c l out k sk w (HT.out.below HB0.out) hn HZ.out HSK.out).mono ?_
    rintro e w1 ⟨rfl, hb⟩
    have HB1 := Lib.hid (HB0.out.trans (hb.mono HB0.out.size))
    clear hb
    go_wp2_with fail
    refine (clone_is a n c l w1 (HT.out.below HB1.out) hn).mono ?_
    rintro e w2 ⟨a3, c3, rfl, ht3, hb⟩
    have HB2 := Lib.hid (HB1.out.trans (hb.mono HB1.out.size))
    clear hb
    go_wp2
    go_ret2
    exact ⟨a3, c3, rfl, ht3, HB2.out⟩
end Go.Proofs.Ytejckbnapcdhpaa
