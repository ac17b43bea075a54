/-
  The document's Add.
-/
import Derived.Test.YtejckbnapcdhpaaORefM
namespace Go.Proofs.Ytejckbnapcdhpaa
open Go.RowKit

set_option maxRecDepth 100000 in
set_option maxHeartbeats 600000 in
theorem refAdd_is (a : Option Addr) (n c : Nat) (l : List O.Pl) (out f n' : Int) (l2 : List O.Pl) (n2 : Nat) (er : Int) (w : World) (h : QIn w a n c l) (hn : n ≤ 800) (ho : out ≤ 9223372036854775807) (hs : O.add l out f n' = (l2, er)) (h2 : l2.length = n2) :
    Calls Try.prog 12 #[.slice a n c, .int .i64 out, .int .i64 f, .int .i64 n'] w fun e w' => ∃ a2 c2, e = .returned (.tuple #[.slice a2 n2 c2, .int .i64 er]) ∧ Hid (QIn w' a2 n2 c2 l2) ∧ Below w.heap.size w w' := by
  have HT := Lib.hid h
  have hl := h.1
  have HB0 := Lib.hid (Below.refl w.heap.size w)
  obtain ⟨pm, hpm⟩ : ∃ b, O.may l out = b := ⟨_, rfl⟩
  obtain ⟨pb, hpb⟩ : ∃ b, O.below ⟨f, n', 0⟩ out = b := ⟨_, rfl⟩
  have HM := Lib.hid hpm
  have HP : Hid (O.fits ⟨f, n', 0⟩ out = pb) := Lib.hid (by rw [O.fits_zero]; exact hpb)
  clear h
  by_cases hp1 : pm = false
  · subst hp1
    have hs3 : (l, (1 : Int)) = (l2, er) := by rw [← hs]; unfold O.add; rw [if_pos (.inl hpm)]
    obtain ⟨rfl, rfl⟩ := Prod.mk.inj hs3
    obtain rfl : n = n2 := by rw [← h2, HT.out.1]
    clear hs hs3 h2
    clear hpm hpb hl
    go_enter Try.func12, Try.ntmps12
    go_wp2_with fail
    refine (refMay_any a n c l out false HM.out w (HT.out.below HB0.out) (by omega)).mono ?_
    rintro e w1 ⟨rfl, hb⟩
    have HB1 := Lib.hid (HB0.out.trans (hb.mono HB0.out.size))
    clear hb
    have hb := O.box_below w1 ⟨f, n', 0⟩
    have hk := O.box_is w1 ⟨f, n', 0⟩
    dsimp only [O.box] at hb hk
    have HBT := Lib.hid hb
    have HKT := Lib.hid hk
    clear hb hk
    go_wp2_with fail
    obtain ⟨w2, hw2⟩ : ∃ W, w1.alloc (.cells #[.int .i64 f, .int .i64 n', .int .i64 0] 37) = W := ⟨_, rfl⟩
    have hb := HBT.out
    have hk := HKT.out
    rw [hw2] at hb hk ⊢
    clear hw2 HBT HKT
    have HKp2 := Lib.hid hk
    clear hk
    have HB2 := Lib.hid (HB1.out.trans (hb.mono HB1.out.size))
    clear hb
    have pf0 := HKp2.out.b0
    have pf1 := HKp2.out.b1
    have pf2 := HKp2.out.b2
    skip
    refine (refFits_any (⟨f, n', 0⟩ : O.Pl) out pb w2 HP.out ho).mono ?_
    clear pf0 pf1 pf2
    rintro e w3 ⟨rfl, hb⟩
    have HKp3 := Lib.hid (HKp2.out.on hb)
    have HB3 := Lib.hid (HB2.out.trans (hb.mono HB2.out.size))
    clear hb
    have pf0 := HKp3.out.b0
    have pf1 := HKp3.out.b1
    have pf2 := HKp3.out.b2
    have HQR := Lib.hid (HT.out.below HB3.out)
    go_wp2
    go_ret2
    exact ⟨_, _, rfl, HQR, HB3.out⟩
  · obtain rfl : pm = true := by simpa using hp1
    have hmay := O.may_iff.1 hpm
    clear hp1
    by_cases hp2 : pb = false
    · subst hp2
      have hs3 : (l, (1 : Int)) = (l2, er) := by rw [← hs]; unfold O.add; rw [if_pos (.inr hpb)]
      obtain ⟨rfl, rfl⟩ := Prod.mk.inj hs3
      obtain rfl : n = n2 := by rw [← h2, HT.out.1]
      clear hs hs3 h2
      clear hpm hpb hl hmay
      go_enter Try.func12, Try.ntmps12
      go_wp2_with fail
      refine (refMay_any a n c l out true HM.out w (HT.out.below HB0.out) (by omega)).mono ?_
      rintro e w1 ⟨rfl, hb⟩
      have HB1 := Lib.hid (HB0.out.trans (hb.mono HB0.out.size))
      clear hb
      have hb := O.box_below w1 ⟨f, n', 0⟩
      have hk := O.box_is w1 ⟨f, n', 0⟩
      dsimp only [O.box] at hb hk
      have HBT := Lib.hid hb
      have HKT := Lib.hid hk
      clear hb hk
      go_wp2_with fail
      obtain ⟨w2, hw2⟩ : ∃ W, w1.alloc (.cells #[.int .i64 f, .int .i64 n', .int .i64 0] 37) = W := ⟨_, rfl⟩
      have hb := HBT.out
      have hk := HKT.out
      rw [hw2] at hb hk ⊢
      clear hw2 HBT HKT
      have HKp2 := Lib.hid hk
      clear hk
      have HB2 := Lib.hid (HB1.out.trans (hb.mono HB1.out.size))
      clear hb
      have pf0 := HKp2.out.b0
      have pf1 := HKp2.out.b1
      have pf2 := HKp2.out.b2
      skip
      refine (refFits_any (⟨f, n', 0⟩ : O.Pl) out false w2 HP.out ho).mono ?_
      clear pf0 pf1 pf2
      rintro e w3 ⟨rfl, hb⟩
      have HKp3 := Lib.hid (HKp2.out.on hb)
      have HB3 := Lib.hid (HB2.out.trans (hb.mono HB2.out.size))
      clear hb
      have pf0 := HKp3.out.b0
      have pf1 := HKp3.out.b1
      have pf2 := HKp3.out.b2
      have HQR := Lib.hid (HT.out.below HB3.out)
      go_wp2
      go_ret2
      exact ⟨_, _, rfl, HQR, HB3.out⟩
    · obtain rfl : pb = true := by simpa using hp2
      clear hp2
      obtain ⟨u, hu⟩ : ∃ u, (l.any fun q => O.hit ⟨f, n', 0⟩ q) = u := ⟨_, rfl⟩
      have HI : Hid (O.others l (-1) ⟨f, n', 0⟩ = u) := Lib.hid (by rw [O.others_add hmay hpb]; exact hu)
      have hif : ¬ (O.may l out = false ∨ O.below ⟨f, n', 0⟩ out = false) := by rw [hpm, hpb]; simp
      clear hmay
      by_cases hp3 : u = true
      · subst hp3
        have hs3 : (l, (11 : Int)) = (l2, er) := by rw [← hs]; unfold O.add; rw [if_neg hif, if_pos hu]
        obtain ⟨rfl, rfl⟩ := Prod.mk.inj hs3
        obtain rfl : n = n2 := by rw [← h2, HT.out.1]
        clear hs hs3 h2
        clear hpm hpb hl hu hif
        go_enter Try.func12, Try.ntmps12
        go_wp2_with fail
        refine (refMay_any a n c l out true HM.out w (HT.out.below HB0.out) (by omega)).mono ?_
        rintro e w1 ⟨rfl, hb⟩
        have HB1 := Lib.hid (HB0.out.trans (hb.mono HB0.out.size))
        clear hb
        have hb := O.box_below w1 ⟨f, n', 0⟩
        have hk := O.box_is w1 ⟨f, n', 0⟩
        dsimp only [O.box] at hb hk
        have HBT := Lib.hid hb
        have HKT := Lib.hid hk
        clear hb hk
        go_wp2_with fail
        obtain ⟨w2, hw2⟩ : ∃ W, w1.alloc (.cells #[.int .i64 f, .int .i64 n', .int .i64 0] 37) = W := ⟨_, rfl⟩
        have hb := HBT.out
        have hk := HKT.out
        rw [hw2] at hb hk ⊢
        clear hw2 HBT HKT
        have HKp2 := Lib.hid hk
        clear hk
        have HB2 := Lib.hid (HB1.out.trans (hb.mono HB1.out.size))
        clear hb
        have pf0 := HKp2.out.b0
        have pf1 := HKp2.out.b1
        have pf2 := HKp2.out.b2
        skip
        refine (refFits_any (⟨f, n', 0⟩ : O.Pl) out true w2 HP.out ho).mono ?_
        clear pf0 pf1 pf2
        rintro e w3 ⟨rfl, hb⟩
        have HKp3 := Lib.hid (HKp2.out.on hb)
        have HB3 := Lib.hid (HB2.out.trans (hb.mono HB2.out.size))
        clear hb
        have pf0 := HKp3.out.b0
        have pf1 := HKp3.out.b1
        have pf2 := HKp3.out.b2
        go_wp2_with fail
        refine (refOthers_any a n c l (-1) ⟨f, n', 0⟩ true HI.out w3 (HT.out.below HB3.out) (by omega)).mono ?_
        clear pf0 pf1 pf2
        rintro e w4 ⟨rfl, hb⟩
        have HKp4 := Lib.hid (HKp3.out.on hb)
        have HB4 := Lib.hid (HB3.out.trans (hb.mono HB3.out.size))
        clear hb
        have pf0 := HKp4.out.b0
        have pf1 := HKp4.out.b1
        have pf2 := HKp4.out.b2
        have HQR := Lib.hid (HT.out.below HB4.out)
        go_wp2
        go_ret2
        exact ⟨_, _, rfl, HQR, HB4.out⟩
      · obtain rfl : u = false := by simpa using hp3
        clear hp3
        by_cases hp4 : n = 3
        · have e3 : ((n : Int) == 3) = true := by rw [hp4]; rfl
          have hs3 : (l, (9 : Int)) = (l2, er) := by rw [← hs]; unfold O.add; rw [if_neg hif, if_neg (by rw [hu]; decide), if_pos (by rw [hl]; exact hp4)]
          obtain ⟨rfl, rfl⟩ := Prod.mk.inj hs3
          obtain rfl : n = n2 := by rw [← h2, HT.out.1]
          clear hs hs3 h2
          clear hpm hpb hl hu hif hp4
          go_enter Try.func12, Try.ntmps12
          go_wp2_with fail
          refine (refMay_any a n c l out true HM.out w (HT.out.below HB0.out) (by omega)).mono ?_
          rintro e w1 ⟨rfl, hb⟩
          have HB1 := Lib.hid (HB0.out.trans (hb.mono HB0.out.size))
          clear hb
          have hb := O.box_below w1 ⟨f, n', 0⟩
          have hk := O.box_is w1 ⟨f, n', 0⟩
          dsimp only [O.box] at hb hk
          have HBT := Lib.hid hb
          have HKT := Lib.hid hk
          clear hb hk
          go_wp2_with fail
          obtain ⟨w2, hw2⟩ : ∃ W, w1.alloc (.cells #[.int .i64 f, .int .i64 n', .int .i64 0] 37) = W := ⟨_, rfl⟩
          have hb := HBT.out
          have hk := HKT.out
          rw [hw2] at hb hk ⊢
          clear hw2 HBT HKT
          have HKp2 := Lib.hid hk
          clear hk
          have HB2 := Lib.hid (HB1.out.trans (hb.mono HB1.out.size))
          clear hb
          have pf0 := HKp2.out.b0
          have pf1 := HKp2.out.b1
          have pf2 := HKp2.out.b2
          skip
          refine (refFits_any (⟨f, n', 0⟩ : O.Pl) out true w2 HP.out ho).mono ?_
          clear pf0 pf1 pf2
          rintro e w3 ⟨rfl, hb⟩
          have HKp3 := Lib.hid (HKp2.out.on hb)
          have HB3 := Lib.hid (HB2.out.trans (hb.mono HB2.out.size))
          clear hb
          have pf0 := HKp3.out.b0
          have pf1 := HKp3.out.b1
          have pf2 := HKp3.out.b2
          go_wp2_with fail
          refine (refOthers_any a n c l (-1) ⟨f, n', 0⟩ false HI.out w3 (HT.out.below HB3.out) (by omega)).mono ?_
          clear pf0 pf1 pf2
          rintro e w4 ⟨rfl, hb⟩
          have HKp4 := Lib.hid (HKp3.out.on hb)
          have HB4 := Lib.hid (HB3.out.trans (hb.mono HB3.out.size))
          clear hb
          have pf0 := HKp4.out.b0
          have pf1 := HKp4.out.b1
          have pf2 := HKp4.out.b2
          have HQR := Lib.hid (HT.out.below HB4.out)
          go_wp2
          go_ret2
          exact ⟨_, _, rfl, HQR, HB4.out⟩
        · have e3 : ((n : Int) == 3) = false := by simp; omega
          have hs3 : l ++ [⟨f, n', 0⟩] = l2 ∧ (0 : Int) = er := by
            have : (l ++ [⟨f, n', 0⟩], (0 : Int)) = (l2, er) := by rw [← hs]; unfold O.add; rw [if_neg hif, if_neg (by rw [hu]; decide), if_neg (by rw [hl]; exact hp4)]
            exact Prod.mk.inj this
          obtain ⟨hl2, rfl⟩ := hs3
          have HL2 := Lib.hid hl2
          have H2 := Lib.hid h2
          clear hl2 hs h2 hpm hpb hl hu hif hp4
          go_enter Try.func12, Try.ntmps12
          go_wp2_with fail
          refine (refMay_any a n c l out true HM.out w (HT.out.below HB0.out) (by omega)).mono ?_
          rintro e w1 ⟨rfl, hb⟩
          have HB1 := Lib.hid (HB0.out.trans (hb.mono HB0.out.size))
          clear hb
          have hb := O.box_below w1 ⟨f, n', 0⟩
          have hk := O.box_is w1 ⟨f, n', 0⟩
          dsimp only [O.box] at hb hk
          have HBT := Lib.hid hb
          have HKT := Lib.hid hk
          clear hb hk
          go_wp2_with fail
          obtain ⟨w2, hw2⟩ : ∃ W, w1.alloc (.cells #[.int .i64 f, .int .i64 n', .int .i64 0] 37) = W := ⟨_, rfl⟩
          have hb := HBT.out
          have hk := HKT.out
          rw [hw2] at hb hk ⊢
          clear hw2 HBT HKT
          have HKp2 := Lib.hid hk
          clear hk
          have HB2 := Lib.hid (HB1.out.trans (hb.mono HB1.out.size))
          clear hb
          have pf0 := HKp2.out.b0
          have pf1 := HKp2.out.b1
          have pf2 := HKp2.out.b2
          skip
          refine (refFits_any (⟨f, n', 0⟩ : O.Pl) out true w2 HP.out ho).mono ?_
          clear pf0 pf1 pf2
          rintro e w3 ⟨rfl, hb⟩
          have HKp3 := Lib.hid (HKp2.out.on hb)
          have HB3 := Lib.hid (HB2.out.trans (hb.mono HB2.out.size))
          clear hb
          have pf0 := HKp3.out.b0
          have pf1 := HKp3.out.b1
          have pf2 := HKp3.out.b2
          go_wp2_with fail
          refine (refOthers_any a n c l (-1) ⟨f, n', 0⟩ false HI.out w3 (HT.out.below HB3.out) (by omega)).mono ?_
          clear pf0 pf1 pf2
          rintro e w4 ⟨rfl, hb⟩
          have HKp4 := Lib.hid (HKp3.out.on hb)
          have HB4 := Lib.hid (HB3.out.trans (hb.mono HB3.out.size))
          clear hb
          have pf0 := HKp4.out.b0
          have pf1 := HKp4.out.b1
          have pf2 := HKp4.out.b2
          have FT : Hid (QIn w4 a n c l) := Lib.hid (HT.out.below HB4.out)
          go_wp2_with (at_builtin; first | (refine wpList_appendOs rfl (.const (.slice none 0 0)) (.tmp 40) rfl w4.heap.size _ 0 [] rfl (World.ownsRow_nil _ _ _ _) a n c l rfl FT.out (by omega) (Nat.le_refl _) ?_; intro v8 w8 hown8 hgrow8; rw [Nat.zero_add] at hown8; have HO8 : Hid (w8.ownsRow w4.heap.size 37 3 v8 n (O.flat l)) := Lib.hid (by simpa using hown8); have HG8 := Lib.hid hgrow8; have hk8 := HKp4.out.on (O.none_below HG8.out); have z0 := hk8.b0; have z1 := hk8.b1; have z2 := hk8.b2; clear hown8 hgrow8 hk8 pf0 pf1 pf2) | (refine wpList_appendO rfl (.tmp 42) (.tmp 44) rfl w4.heap.size v8 n l ⟨f, n', 0⟩ (by simp [Act.eval]) (ownsRow_below HO8.out ((Below.refl _ w8).alloc (Nat.le_refl _) _)) w8.heap.size (by simp [Act.eval]) (Blok.new w8 _ _) (by omega) (Nat.le_trans HG8.out.size (by simp)) ?_; intro g cap w9 h1 h2 h3 h4; have HO9 := Lib.hid h1; have HG9 := Lib.hid h2; clear h1 h2 h3 h4 z0 z1 z2))
          have HB9 : Hid (Below w.heap.size w w9) := Lib.hid (HB4.out.trans ((((O.none_below HG8.out).alloc HG8.out.size _).grown HG9.out (Nat.le_trans HG8.out.size (by simp)) (fun i hi => (HO8.out.lt i hi).1)).mono HB4.out.size))
          obtain ⟨a3, c3, he, ht3⟩ := own_pools HO9.out (by rw [List.length_append, HT.out.1]; rfl)
          have HT3 : Hid (QIn w9 (some ⟨g, 0, none⟩) (n + 1) cap l2) := Lib.hid (by cases he; rw [← HL2.out]; exact ht3)
          have hn2 : n + 1 = n2 := by rw [← H2.out, ← HL2.out, List.length_append, HT.out.1]; rfl
          clear he ht3
          go_wp2
          go_ret2
          subst hn2
          exact ⟨_, _, rfl, HT3, HB9.out⟩
end Go.Proofs.Ytejckbnapcdhpaa
