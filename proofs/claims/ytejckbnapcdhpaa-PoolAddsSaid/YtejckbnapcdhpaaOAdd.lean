/-
  pool.Add, its answer as letters.
-/
import Derived.Test.YtejckbnapcdhpaaODo
namespace Go.Proofs.Ytejckbnapcdhpaa
open Go.RowKit

set_option maxRecDepth 100000 in
set_option maxHeartbeats 600000 in
theorem add_is (a : Option Addr) (n c : Nat) (l : List O.Pl) (out f n' : Int) (l2 : List O.Pl) (n2 : Nat) (er : Int) (w : World) (h : QIn w a n c l) (hn : n ≤ 800) (hz : O.Sm l) (hf : f ≤ 9223372036854775807) (hs : O.add l out f n' = (l2, er)) (h2 : l2.length = n2) :
    Calls Try.prog 11 #[.slice a n c, .int .i64 out, .int .i64 f, .int .i64 n'] w fun e w' => ∃ a2 c2, e = .returned (.tuple #[.slice a2 n2 c2, .int .i64 er]) ∧ Hid (QIn w' a2 n2 c2 l2) ∧ Below w.heap.size w w' := by
  have HT := Lib.hid h
  have hl := h.1
  have HB0 := Lib.hid (Below.refl w.heap.size w)
  obtain ⟨pm, hpm⟩ : ∃ b, O.may l out = b := ⟨_, rfl⟩
  obtain ⟨pb, hpb⟩ : ∃ b, O.below ⟨f, n', 0⟩ out = b := ⟨_, rfl⟩
  have HM := Lib.hid hpm
  have HP := Lib.hid hpb
  have HZ := Lib.hid hz
  clear h hz
  by_cases hp1 : pm = false
  · subst hp1
    have hs3 : (l, (1 : Int)) = (l2, er) := by rw [← hs]; unfold O.add; rw [if_pos (.inl hpm)]
    obtain ⟨rfl, rfl⟩ := Prod.mk.inj hs3
    obtain rfl : n = n2 := by rw [← h2, HT.out.1]
    clear hs hs3 h2
    clear hpm hpb hl
    go_enter Try.func11, Try.ntmps11
    have hb := O.box_below w ⟨f, n', 0⟩
    have hk := O.box_is w ⟨f, n', 0⟩
    dsimp only [O.box] at hb hk
    have HBT := Lib.hid hb
    have HKT := Lib.hid hk
    clear hb hk
    go_wp2_with fail
    obtain ⟨w1, hw1⟩ : ∃ W, w.alloc (.cells #[.int .i64 f, .int .i64 n', .int .i64 0] 37) = W := ⟨_, rfl⟩
    have hb := HBT.out
    have hk := HKT.out
    rw [hw1] at hb hk ⊢
    clear hw1 HBT HKT
    have HKp1 := Lib.hid hk
    clear hk
    have HB1 := Lib.hid (HB0.out.trans (hb.mono HB0.out.size))
    clear hb
    have pf0 := HKp1.out.b0
    have pf1 := HKp1.out.b1
    have pf2 := HKp1.out.b2
    skip
    refine (may_any a n c l out false HM.out w1 (HT.out.below HB1.out) (by omega) HZ.out).mono ?_
    clear pf0 pf1 pf2
    rintro e w2 ⟨rfl, hb⟩
    have HKp2 := Lib.hid (HKp1.out.on hb)
    have HB2 := Lib.hid (HB1.out.trans (hb.mono HB1.out.size))
    clear hb
    have pf0 := HKp2.out.b0
    have pf1 := HKp2.out.b1
    have pf2 := HKp2.out.b2
    go_wp2_with fail
    refine (clone_is a n c l w2 (HT.out.below HB2.out) hn).mono ?_
    clear pf0 pf1 pf2
    rintro e w3 ⟨a3, c3, rfl, ht3, hb⟩
    have HKp3 := Lib.hid (HKp2.out.on hb)
    have HB3 := Lib.hid (HB2.out.trans (hb.mono HB2.out.size))
    clear hb
    have pf0 := HKp3.out.b0
    have pf1 := HKp3.out.b1
    have pf2 := HKp3.out.b2
    go_wp2
    go_ret2
    exact ⟨a3, c3, rfl, ht3, HB3.out⟩
  · obtain rfl : pm = true := by simpa using hp1
    have hmay := O.may_iff.1 hpm
    have hout : 0 ≤ out ∧ out ≤ 4 := ⟨hmay.1, hmay.2.1⟩
    clear hp1 hmay
    by_cases hp2 : pb = false
    · subst hp2
      have hs3 : (l, (1 : Int)) = (l2, er) := by rw [← hs]; unfold O.add; rw [if_pos (.inr hpb)]
      obtain ⟨rfl, rfl⟩ := Prod.mk.inj hs3
      obtain rfl : n = n2 := by rw [← h2, HT.out.1]
      clear hs hs3 h2
      clear hpm hpb hl
      go_enter Try.func11, Try.ntmps11
      have hb := O.box_below w ⟨f, n', 0⟩
      have hk := O.box_is w ⟨f, n', 0⟩
      dsimp only [O.box] at hb hk
      have HBT := Lib.hid hb
      have HKT := Lib.hid hk
      clear hb hk
      go_wp2_with fail
      obtain ⟨w1, hw1⟩ : ∃ W, w.alloc (.cells #[.int .i64 f, .int .i64 n', .int .i64 0] 37) = W := ⟨_, rfl⟩
      have hb := HBT.out
      have hk := HKT.out
      rw [hw1] at hb hk ⊢
      clear hw1 HBT HKT
      have HKp1 := Lib.hid hk
      clear hk
      have HB1 := Lib.hid (HB0.out.trans (hb.mono HB0.out.size))
      clear hb
      have pf0 := HKp1.out.b0
      have pf1 := HKp1.out.b1
      have pf2 := HKp1.out.b2
      skip
      refine (may_any a n c l out true HM.out w1 (HT.out.below HB1.out) (by omega) HZ.out).mono ?_
      clear pf0 pf1 pf2
      rintro e w2 ⟨rfl, hb⟩
      have HKp2 := Lib.hid (HKp1.out.on hb)
      have HB2 := Lib.hid (HB1.out.trans (hb.mono HB1.out.size))
      clear hb
      have pf0 := HKp2.out.b0
      have pf1 := HKp2.out.b1
      have pf2 := HKp2.out.b2
      go_wp2_with fail
      refine (obelow_any (⟨f, n', 0⟩ : O.Pl) out false w2 HP.out hout hf).mono ?_
      clear pf0 pf1 pf2
      rintro e w3 ⟨rfl, hb⟩
      have HKp3 := Lib.hid (HKp2.out.on hb)
      have HB3 := Lib.hid (HB2.out.trans (hb.mono HB2.out.size))
      clear hb
      have pf0 := HKp3.out.b0
      have pf1 := HKp3.out.b1
      have pf2 := HKp3.out.b2
      go_wp2_with fail
      refine (clone_is a n c l w3 (HT.out.below HB3.out) hn).mono ?_
      clear pf0 pf1 pf2
      rintro e w4 ⟨a3, c3, rfl, ht3, hb⟩
      have HKp4 := Lib.hid (HKp3.out.on hb)
      have HB4 := Lib.hid (HB3.out.trans (hb.mono HB3.out.size))
      clear hb
      have pf0 := HKp4.out.b0
      have pf1 := HKp4.out.b1
      have pf2 := HKp4.out.b2
      go_wp2
      go_ret2
      exact ⟨a3, c3, rfl, ht3, HB4.out⟩
    · obtain rfl : pb = true := by simpa using hp2
      clear hp2
      obtain ⟨u, hu⟩ : ∃ u, l.any (O.hit ⟨f, n', 0⟩) = u := ⟨_, rfl⟩
      have HI := Lib.hid hu
      have hif : ¬ (O.may l out = false ∨ O.below ⟨f, n', 0⟩ out = false) := by rw [hpm, hpb]; simp
      by_cases hp3 : u = true
      · subst hp3
        have hs3 : (l, (11 : Int)) = (l2, er) := by rw [← hs]; unfold O.add; rw [if_neg hif, if_pos hu]
        obtain ⟨rfl, rfl⟩ := Prod.mk.inj hs3
        obtain rfl : n = n2 := by rw [← h2, HT.out.1]
        clear hs hs3 h2
        clear hpm hpb hl hu hif
        go_enter Try.func11, Try.ntmps11
        have hb := O.box_below w ⟨f, n', 0⟩
        have hk := O.box_is w ⟨f, n', 0⟩
        dsimp only [O.box] at hb hk
        have HBT := Lib.hid hb
        have HKT := Lib.hid hk
        clear hb hk
        go_wp2_with fail
        obtain ⟨w1, hw1⟩ : ∃ W, w.alloc (.cells #[.int .i64 f, .int .i64 n', .int .i64 0] 37) = W := ⟨_, rfl⟩
        have hb := HBT.out
        have hk := HKT.out
        rw [hw1] at hb hk ⊢
        clear hw1 HBT HKT
        have HKp1 := Lib.hid hk
        clear hk
        have HB1 := Lib.hid (HB0.out.trans (hb.mono HB0.out.size))
        clear hb
        have pf0 := HKp1.out.b0
        have pf1 := HKp1.out.b1
        have pf2 := HKp1.out.b2
        skip
        refine (may_any a n c l out true HM.out w1 (HT.out.below HB1.out) (by omega) HZ.out).mono ?_
        clear pf0 pf1 pf2
        rintro e w2 ⟨rfl, hb⟩
        have HKp2 := Lib.hid (HKp1.out.on hb)
        have HB2 := Lib.hid (HB1.out.trans (hb.mono HB1.out.size))
        clear hb
        have pf0 := HKp2.out.b0
        have pf1 := HKp2.out.b1
        have pf2 := HKp2.out.b2
        go_wp2_with fail
        refine (obelow_any (⟨f, n', 0⟩ : O.Pl) out true w2 HP.out hout hf).mono ?_
        clear pf0 pf1 pf2
        rintro e w3 ⟨rfl, hb⟩
        have HKp3 := Lib.hid (HKp2.out.on hb)
        have HB3 := Lib.hid (HB2.out.trans (hb.mono HB2.out.size))
        clear hb
        have pf0 := HKp3.out.b0
        have pf1 := HKp3.out.b1
        have pf2 := HKp3.out.b2
        go_wp2_with fail
        refine (meeting_any (⟨f, n', 0⟩ : O.Pl) w3).mono ?_
        clear pf0 pf1 pf2
        rintro e w4 ⟨bx, rfl, HX, hb⟩
        have HKp4 := Lib.hid (HKp3.out.on hb)
        have HB4 := Lib.hid (HB3.out.trans (hb.mono HB3.out.size))
        clear hb
        have pf0 := HKp4.out.b0
        have pf1 := HKp4.out.b1
        have pf2 := HKp4.out.b2
        unfold O.clo
        go_wp2_with fail
        refine (hits_any a n c l ⟨f, n', 0⟩ bx true HI.out w4 (HT.out.below HB4.out) HX.out (by omega)).mono ?_
        clear pf0 pf1 pf2
        rintro e w5 ⟨rfl, hb⟩
        have HKp5 := Lib.hid (HKp4.out.on hb)
        have HB5 := Lib.hid (HB4.out.trans (hb.mono HB4.out.size))
        clear hb
        have pf0 := HKp5.out.b0
        have pf1 := HKp5.out.b1
        have pf2 := HKp5.out.b2
        go_wp2_with fail
        refine (clone_is a n c l w5 (HT.out.below HB5.out) hn).mono ?_
        clear pf0 pf1 pf2
        rintro e w6 ⟨a3, c3, rfl, ht3, hb⟩
        have HKp6 := Lib.hid (HKp5.out.on hb)
        have HB6 := Lib.hid (HB5.out.trans (hb.mono HB5.out.size))
        clear hb
        have pf0 := HKp6.out.b0
        have pf1 := HKp6.out.b1
        have pf2 := HKp6.out.b2
        go_wp2
        go_ret2
        exact ⟨a3, c3, rfl, ht3, HB6.out⟩
      · obtain rfl : u = false := by simpa using hp3
        clear hp3
        by_cases hp4 : n = 3
        · have e3 : ((n : Int) == 3) = true := by rw [hp4]; rfl
          have hs3 : (l, (9 : Int)) = (l2, er) := by rw [← hs]; unfold O.add; rw [if_neg hif, if_neg (by rw [show (l.any fun q => O.hit ⟨f, n', 0⟩ q) = false from hu]; decide), if_pos (by rw [hl]; exact hp4)]
          obtain ⟨rfl, rfl⟩ := Prod.mk.inj hs3
          obtain rfl : n = n2 := by rw [← h2, HT.out.1]
          clear hs hs3 h2
          clear hpm hpb hl hu hif hp4
          go_enter Try.func11, Try.ntmps11
          have hb := O.box_below w ⟨f, n', 0⟩
          have hk := O.box_is w ⟨f, n', 0⟩
          dsimp only [O.box] at hb hk
          have HBT := Lib.hid hb
          have HKT := Lib.hid hk
          clear hb hk
          go_wp2_with fail
          obtain ⟨w1, hw1⟩ : ∃ W, w.alloc (.cells #[.int .i64 f, .int .i64 n', .int .i64 0] 37) = W := ⟨_, rfl⟩
          have hb := HBT.out
          have hk := HKT.out
          rw [hw1] at hb hk ⊢
          clear hw1 HBT HKT
          have HKp1 := Lib.hid hk
          clear hk
          have HB1 := Lib.hid (HB0.out.trans (hb.mono HB0.out.size))
          clear hb
          have pf0 := HKp1.out.b0
          have pf1 := HKp1.out.b1
          have pf2 := HKp1.out.b2
          skip
          refine (may_any a n c l out true HM.out w1 (HT.out.below HB1.out) (by omega) HZ.out).mono ?_
          clear pf0 pf1 pf2
          rintro e w2 ⟨rfl, hb⟩
          have HKp2 := Lib.hid (HKp1.out.on hb)
          have HB2 := Lib.hid (HB1.out.trans (hb.mono HB1.out.size))
          clear hb
          have pf0 := HKp2.out.b0
          have pf1 := HKp2.out.b1
          have pf2 := HKp2.out.b2
          go_wp2_with fail
          refine (obelow_any (⟨f, n', 0⟩ : O.Pl) out true w2 HP.out hout hf).mono ?_
          clear pf0 pf1 pf2
          rintro e w3 ⟨rfl, hb⟩
          have HKp3 := Lib.hid (HKp2.out.on hb)
          have HB3 := Lib.hid (HB2.out.trans (hb.mono HB2.out.size))
          clear hb
          have pf0 := HKp3.out.b0
          have pf1 := HKp3.out.b1
          have pf2 := HKp3.out.b2
          go_wp2_with fail
          refine (meeting_any (⟨f, n', 0⟩ : O.Pl) w3).mono ?_
          clear pf0 pf1 pf2
          rintro e w4 ⟨bx, rfl, HX, hb⟩
          have HKp4 := Lib.hid (HKp3.out.on hb)
          have HB4 := Lib.hid (HB3.out.trans (hb.mono HB3.out.size))
          clear hb
          have pf0 := HKp4.out.b0
          have pf1 := HKp4.out.b1
          have pf2 := HKp4.out.b2
          unfold O.clo
          go_wp2_with fail
          refine (hits_any a n c l ⟨f, n', 0⟩ bx false HI.out w4 (HT.out.below HB4.out) HX.out (by omega)).mono ?_
          clear pf0 pf1 pf2
          rintro e w5 ⟨rfl, hb⟩
          have HKp5 := Lib.hid (HKp4.out.on hb)
          have HB5 := Lib.hid (HB4.out.trans (hb.mono HB4.out.size))
          clear hb
          have pf0 := HKp5.out.b0
          have pf1 := HKp5.out.b1
          have pf2 := HKp5.out.b2
          go_wp2_with fail
          refine (clone_is a n c l w5 (HT.out.below HB5.out) hn).mono ?_
          clear pf0 pf1 pf2
          rintro e w6 ⟨a3, c3, rfl, ht3, hb⟩
          have HKp6 := Lib.hid (HKp5.out.on hb)
          have HB6 := Lib.hid (HB5.out.trans (hb.mono HB5.out.size))
          clear hb
          have pf0 := HKp6.out.b0
          have pf1 := HKp6.out.b1
          have pf2 := HKp6.out.b2
          go_wp2
          go_ret2
          exact ⟨a3, c3, rfl, ht3, HB6.out⟩
        · have e3 : ((n : Int) == 3) = false := by simp; omega
          have hs3 : l ++ [⟨f, n', 0⟩] = l2 ∧ (0 : Int) = er := by
            have : (l ++ [⟨f, n', 0⟩], (0 : Int)) = (l2, er) := by rw [← hs]; unfold O.add; rw [if_neg hif, if_neg (by rw [show (l.any fun q => O.hit ⟨f, n', 0⟩ q) = false from hu]; decide), if_neg (by rw [hl]; exact hp4)]
            exact Prod.mk.inj this
          obtain ⟨hl2, rfl⟩ := hs3
          have HL2 := Lib.hid hl2
          have H2 := Lib.hid h2
          clear hl2 hs h2 hpm hpb hl hu hif hp4
          go_enter Try.func11, Try.ntmps11
          have hb := O.box_below w ⟨f, n', 0⟩
          have hk := O.box_is w ⟨f, n', 0⟩
          dsimp only [O.box] at hb hk
          have HBT := Lib.hid hb
          have HKT := Lib.hid hk
          clear hb hk
          go_wp2_with fail
          obtain ⟨w1, hw1⟩ : ∃ W, w.alloc (.cells #[.int .i64 f, .int .i64 n', .int .i64 0] 37) = W := ⟨_, rfl⟩
          have hb := HBT.out
          have hk := HKT.out
          rw [hw1] at hb hk ⊢
          clear hw1 HBT HKT
          have HKp1 := Lib.hid hk
          clear hk
          have HB1 := Lib.hid (HB0.out.trans (hb.mono HB0.out.size))
          clear hb
          have pf0 := HKp1.out.b0
          have pf1 := HKp1.out.b1
          have pf2 := HKp1.out.b2
          skip
          refine (may_any a n c l out true HM.out w1 (HT.out.below HB1.out) (by omega) HZ.out).mono ?_
          clear pf0 pf1 pf2
          rintro e w2 ⟨rfl, hb⟩
          have HKp2 := Lib.hid (HKp1.out.on hb)
          have HB2 := Lib.hid (HB1.out.trans (hb.mono HB1.out.size))
          clear hb
          have pf0 := HKp2.out.b0
          have pf1 := HKp2.out.b1
          have pf2 := HKp2.out.b2
          go_wp2_with fail
          refine (obelow_any (⟨f, n', 0⟩ : O.Pl) out true w2 HP.out hout hf).mono ?_
          clear pf0 pf1 pf2
          rintro e w3 ⟨rfl, hb⟩
          have HKp3 := Lib.hid (HKp2.out.on hb)
          have HB3 := Lib.hid (HB2.out.trans (hb.mono HB2.out.size))
          clear hb
          have pf0 := HKp3.out.b0
          have pf1 := HKp3.out.b1
          have pf2 := HKp3.out.b2
          go_wp2_with fail
          refine (meeting_any (⟨f, n', 0⟩ : O.Pl) w3).mono ?_
          clear pf0 pf1 pf2
          rintro e w4 ⟨bx, rfl, HX, hb⟩
          have HKp4 := Lib.hid (HKp3.out.on hb)
          have HB4 := Lib.hid (HB3.out.trans (hb.mono HB3.out.size))
          clear hb
          have pf0 := HKp4.out.b0
          have pf1 := HKp4.out.b1
          have pf2 := HKp4.out.b2
          unfold O.clo
          go_wp2_with fail
          refine (hits_any a n c l ⟨f, n', 0⟩ bx false HI.out w4 (HT.out.below HB4.out) HX.out (by omega)).mono ?_
          clear pf0 pf1 pf2
          rintro e w5 ⟨rfl, hb⟩
          have HKp5 := Lib.hid (HKp4.out.on hb)
          have HB5 := Lib.hid (HB4.out.trans (hb.mono HB4.out.size))
          clear hb
          have pf0 := HKp5.out.b0
          have pf1 := HKp5.out.b1
          have pf2 := HKp5.out.b2
          go_wp2_with fail
          refine (done0_is a n c l f n' l2 n2 w5 (HT.out.below HB5.out) hn HL2.out H2.out).mono ?_
          clear pf0 pf1 pf2
          rintro e w6 ⟨a3, c3, rfl, ht3, hb⟩
          have HKp6 := Lib.hid (HKp5.out.on hb)
          have HB6 := Lib.hid (HB5.out.trans (hb.mono HB5.out.size))
          clear hb
          have pf0 := HKp6.out.b0
          have pf1 := HKp6.out.b1
          have pf2 := HKp6.out.b2
          go_wp2
          go_ret2
          exact ⟨a3, c3, rfl, ht3, HB6.out⟩
end Go.Proofs.Ytejckbnapcdhpaa
