/-
  PoolAdds, at every list and numbers.
-/
import Derived.Test.YtejckbnapcdhpaaOLaws
namespace Go.Proofs.Ytejckbnapcdhpaa
open Go.RowKit

set_option maxRecDepth 100000 in
set_option maxHeartbeats 1500000 in
theorem PoolAdds_in (a : Option Addr) (n c : Nat) (l : List O.Pl) (out f nn at' : Int) (w : World) (h : QIn w a n c l) (hz : O.Sm l) (hf : f ≤ 9223372036854775807) :
    Calls Try.prog 7 #[.slice a n c, .int .i64 out, .int .i64 f, .int .i64 nn, .int .i64 at'] w fun e w' => e = .returned (.bool true) ∧ Below w.heap.size w w' := by
  have HB0 := Lib.hid (Below.refl w.heap.size w)
  have HTx0 := Lib.hid h
  have hl := h.1
  have HZ := Lib.hid hz
  clear hz
  clear h
  by_cases hn : n ≤ 6
  · have g1 : decide ((6 : Int) < (n : Int)) = false := by simp; omega
    obtain ⟨⟨l2, e2⟩, s2⟩ : ∃ x, O.add l out f nn = x := ⟨_, rfl⟩
    have hz2 : O.Sm l2 := by have := O.add_sm out f nn HZ.out; rw [s2] at this; exact this
    have Hz2 := Lib.hid hz2
    have S2 := Lib.hid s2
    by_cases he : e2 = 0
    · subst he
      have hw := O.add_was (l := l) (out := out) (f := f) (n := nn) (at' := at') (by rw [s2])
      rw [s2] at hw
      dsimp only at hw
      obtain ⟨h1, h2, h3, h4⟩ := hw
      rw [← h1] at h2 h3 h4
      have hbel : 0 ≤ f ∧ 1 ≤ nn ∧ f + nn ≤ 4 := by
        rcases O.add_cases l out f nn with ⟨e, h, h9, _⟩ | ⟨h, h9, h8, _⟩
        · rw [s2] at h; exact absurd (Prod.mk.inj h).2.symm h9
        · have := O.below_iff.1 h8; have := h9.2.1; dsimp only at *; omega
      have hw2 : IntKind.i64.wrap (f + nn) = f + nn := IntWalk.i64_in _ (by omega)
      have hlen : l2.length = n + 1 := by rw [h1, List.length_append, hl]; rfl
      have HTK : Hid (l2.take n = l) := Lib.hid (by rw [h1, ← hl]; simp)
      obtain ⟨n2, hn2⟩ : ∃ n2, n + 1 = n2 := ⟨_, rfl⟩
      rw [hn2] at hlen
      have M2 := Lib.hid hlen
      have hn2' : 0 < n2 ∧ n ≤ n2 ∧ n2 ≤ 7 := by omega
      have q3 : IntKind.i64.wrap ((n : Int) + 1) = (n : Int) + 1 := IntWalk.i64_in _ (by omega)
      have q4 : ((n2 : Int) != (n : Int) + 1) = false := by simp; omega
      obtain ⟨⟨l3, e3⟩, s3⟩ : ∃ x, O.add l2 out f nn = x := ⟨_, rfl⟩
      obtain rfl : (11 : Int) = e3 := by rw [s3] at h2; exact h2.symm
      have S3 := Lib.hid s3
      obtain ⟨n3, m3⟩ : ∃ m, l3.length = m := ⟨_, rfl⟩
      have M3 := Lib.hid m3
      obtain ⟨pg, hpg⟩ : ∃ b, O.gives l2 at' = b := ⟨_, rfl⟩
      obtain ⟨pl, hpl⟩ : ∃ b, O.gives l at' = b := ⟨_, rfl⟩
      have HG := Lib.hid hpg
      have HGL := Lib.hid hpl
      have q5 : (pl == pl) = true := by simp
      clear h1 h2 hlen hn2 s2 s3 m3 hz2 hbel
      by_cases hin : f ≤ at' ∧ at' < f + nn
      · obtain ⟨rfl, ho⟩ : true = pg ∧ O.of l2 at' = l.length := by have := h3 hin.1 hin.2; rw [hpg] at this; exact ⟨this.1.symm, this.2⟩
        have HO : Hid (O.of l2 at' = (n : Int)) := Lib.hid (by rw [ho, hl])
        have d1 : decide (f ≤ at') = true := by simpa using hin.1
        have d2 : decide (at' < f + nn) = true := by simpa using hin.2
        have q6 : ((n : Int) == n) = true := by simp
        clear h3 h4 hpg hpl hin ho hl
        go_enter Try.func7, Try.ntmps7
        go_wp2_with fail
        refine (oawake_any w).mono ?_
        rintro e w1 ⟨rfl, hb⟩
        have HTx1 := Lib.hid (HTx0.out.below hb)
        have HB1 := Lib.hid (HB0.out.trans (hb.mono HB0.out.size))
        clear hb HTx0 HB0
        go_wp2_with fail
        refine (add_is a n c l out f nn l2 n2 0 w1 HTx1.out (by omega) HZ.out hf S2.out M2.out).mono ?_
        rintro e w2 ⟨a2, c2, rfl, ht2, hb⟩
        have HTx2 := Lib.hid (HTx1.out.below hb)
        have HB2 := Lib.hid (HB1.out.trans (hb.mono HB1.out.size))
        clear hb HTx1 HB1
        have HT22 := ht2
        clear ht2
        go_wp2_with fail
        refine (add_is a2 n2 c2 l2 out f nn l3 n3 11 w2 HT22.out (by omega) Hz2.out hf S3.out M3.out).mono ?_
        rintro e w3 ⟨a3, c3, rfl, ht3, hb⟩
        have HTx3 := Lib.hid (HTx2.out.below hb)
        have HT23 := Lib.hid (HT22.out.below hb)
        have HB3 := Lib.hid (HB2.out.trans (hb.mono HB2.out.size))
        clear hb HTx2 HT22 HB2
        have HT33 := ht3
        clear ht3
        obtain ⟨bb, ob, y, rfl, hbb, hyl, -⟩ := HT23.out.at hn2'.1
        have HTt3 : Hid (QIn w3 (some ⟨bb, ob, none⟩) n c2 l) := Lib.hid (by have := HT23.out.take n hn2'.2.1; rwa [HTK.out] at this)
        have hcap : (n : Int) ≤ c2 := by have := HTt3.out.2.1.1; omega
        clear hbb hyl
        go_wp2_with fail
        refine (sameO_any (some ⟨bb, ob, none⟩) a n n c2 c l l w3 HTt3.out HTx3.out (by omega) true (by simp)).mono ?_
        rintro e w4 ⟨rfl, hb⟩
        have HTx4 := Lib.hid (HTx3.out.below hb)
        have HT24 := Lib.hid (HT23.out.below hb)
        have HT34 := Lib.hid (HT33.out.below hb)
        have HTt4 := Lib.hid (HTt3.out.below hb)
        have HB4 := Lib.hid (HB3.out.trans (hb.mono HB3.out.size))
        clear hb HTx3 HT23 HT33 HTt3 HB3
        go_wp2_with fail
        refine (gives_any (some ⟨bb, ob, none⟩) n2 c2 l2 at' true HG.out w4 HT24.out (by omega)).mono ?_
        rintro e w5 ⟨rfl, hb⟩
        have HTx5 := Lib.hid (HTx4.out.below hb)
        have HT25 := Lib.hid (HT24.out.below hb)
        have HT35 := Lib.hid (HT34.out.below hb)
        have HTt5 := Lib.hid (HTt4.out.below hb)
        have HB5 := Lib.hid (HB4.out.trans (hb.mono HB4.out.size))
        clear hb HTx4 HT24 HT34 HTt4 HB4
        go_wp2_with fail
        refine (of_any (some ⟨bb, ob, none⟩) n2 c2 l2 at' n HO.out w5 HT25.out (by omega)).mono ?_
        rintro e w6 ⟨rfl, hb⟩
        have HTx6 := Lib.hid (HTx5.out.below hb)
        have HT26 := Lib.hid (HT25.out.below hb)
        have HT36 := Lib.hid (HT35.out.below hb)
        have HTt6 := Lib.hid (HTt5.out.below hb)
        have HB6 := Lib.hid (HB5.out.trans (hb.mono HB5.out.size))
        clear hb HTx5 HT25 HT35 HTt5 HB5
        go_wp2
        go_ret
        exact ⟨rfl, HB6.out⟩
      · obtain rfl : pg = pl := by rw [← hpg, ← hpl]; exact h4 hin
        clear h3 h4 hpg hpl hl
        by_cases hi1 : f ≤ at'
        · have d1 : decide (f ≤ at') = true := by simpa using hi1
          have d2 : decide (at' < f + nn) = false := by simp; omega
          clear hin hi1
          go_enter Try.func7, Try.ntmps7
          go_wp2_with fail
          refine (oawake_any w).mono ?_
          rintro e w1 ⟨rfl, hb⟩
          have HTx1 := Lib.hid (HTx0.out.below hb)
          have HB1 := Lib.hid (HB0.out.trans (hb.mono HB0.out.size))
          clear hb HTx0 HB0
          go_wp2_with fail
          refine (add_is a n c l out f nn l2 n2 0 w1 HTx1.out (by omega) HZ.out hf S2.out M2.out).mono ?_
          rintro e w2 ⟨a2, c2, rfl, ht2, hb⟩
          have HTx2 := Lib.hid (HTx1.out.below hb)
          have HB2 := Lib.hid (HB1.out.trans (hb.mono HB1.out.size))
          clear hb HTx1 HB1
          have HT22 := ht2
          clear ht2
          go_wp2_with fail
          refine (add_is a2 n2 c2 l2 out f nn l3 n3 11 w2 HT22.out (by omega) Hz2.out hf S3.out M3.out).mono ?_
          rintro e w3 ⟨a3, c3, rfl, ht3, hb⟩
          have HTx3 := Lib.hid (HTx2.out.below hb)
          have HT23 := Lib.hid (HT22.out.below hb)
          have HB3 := Lib.hid (HB2.out.trans (hb.mono HB2.out.size))
          clear hb HTx2 HT22 HB2
          have HT33 := ht3
          clear ht3
          obtain ⟨bb, ob, y, rfl, hbb, hyl, -⟩ := HT23.out.at hn2'.1
          have HTt3 : Hid (QIn w3 (some ⟨bb, ob, none⟩) n c2 l) := Lib.hid (by have := HT23.out.take n hn2'.2.1; rwa [HTK.out] at this)
          have hcap : (n : Int) ≤ c2 := by have := HTt3.out.2.1.1; omega
          clear hbb hyl
          go_wp2_with fail
          refine (sameO_any (some ⟨bb, ob, none⟩) a n n c2 c l l w3 HTt3.out HTx3.out (by omega) true (by simp)).mono ?_
          rintro e w4 ⟨rfl, hb⟩
          have HTx4 := Lib.hid (HTx3.out.below hb)
          have HT24 := Lib.hid (HT23.out.below hb)
          have HT34 := Lib.hid (HT33.out.below hb)
          have HTt4 := Lib.hid (HTt3.out.below hb)
          have HB4 := Lib.hid (HB3.out.trans (hb.mono HB3.out.size))
          clear hb HTx3 HT23 HT33 HTt3 HB3
          go_wp2_with fail
          refine (gives_any (some ⟨bb, ob, none⟩) n2 c2 l2 at' pg HG.out w4 HT24.out (by omega)).mono ?_
          rintro e w5 ⟨rfl, hb⟩
          have HTx5 := Lib.hid (HTx4.out.below hb)
          have HT25 := Lib.hid (HT24.out.below hb)
          have HT35 := Lib.hid (HT34.out.below hb)
          have HTt5 := Lib.hid (HTt4.out.below hb)
          have HB5 := Lib.hid (HB4.out.trans (hb.mono HB4.out.size))
          clear hb HTx4 HT24 HT34 HTt4 HB4
          go_wp2_with fail
          refine (gives_any a n c l at' pg HGL.out w5 HTx5.out (by omega)).mono ?_
          rintro e w6 ⟨rfl, hb⟩
          have HTx6 := Lib.hid (HTx5.out.below hb)
          have HT26 := Lib.hid (HT25.out.below hb)
          have HT36 := Lib.hid (HT35.out.below hb)
          have HTt6 := Lib.hid (HTt5.out.below hb)
          have HB6 := Lib.hid (HB5.out.trans (hb.mono HB5.out.size))
          clear hb HTx5 HT25 HT35 HTt5 HB5
          go_wp2
          go_ret
          exact ⟨rfl, HB6.out⟩
        · have d1 : decide (f ≤ at') = false := by simpa using hi1
          clear hin hi1
          go_enter Try.func7, Try.ntmps7
          go_wp2_with fail
          refine (oawake_any w).mono ?_
          rintro e w1 ⟨rfl, hb⟩
          have HTx1 := Lib.hid (HTx0.out.below hb)
          have HB1 := Lib.hid (HB0.out.trans (hb.mono HB0.out.size))
          clear hb HTx0 HB0
          go_wp2_with fail
          refine (add_is a n c l out f nn l2 n2 0 w1 HTx1.out (by omega) HZ.out hf S2.out M2.out).mono ?_
          rintro e w2 ⟨a2, c2, rfl, ht2, hb⟩
          have HTx2 := Lib.hid (HTx1.out.below hb)
          have HB2 := Lib.hid (HB1.out.trans (hb.mono HB1.out.size))
          clear hb HTx1 HB1
          have HT22 := ht2
          clear ht2
          go_wp2_with fail
          refine (add_is a2 n2 c2 l2 out f nn l3 n3 11 w2 HT22.out (by omega) Hz2.out hf S3.out M3.out).mono ?_
          rintro e w3 ⟨a3, c3, rfl, ht3, hb⟩
          have HTx3 := Lib.hid (HTx2.out.below hb)
          have HT23 := Lib.hid (HT22.out.below hb)
          have HB3 := Lib.hid (HB2.out.trans (hb.mono HB2.out.size))
          clear hb HTx2 HT22 HB2
          have HT33 := ht3
          clear ht3
          obtain ⟨bb, ob, y, rfl, hbb, hyl, -⟩ := HT23.out.at hn2'.1
          have HTt3 : Hid (QIn w3 (some ⟨bb, ob, none⟩) n c2 l) := Lib.hid (by have := HT23.out.take n hn2'.2.1; rwa [HTK.out] at this)
          have hcap : (n : Int) ≤ c2 := by have := HTt3.out.2.1.1; omega
          clear hbb hyl
          go_wp2_with fail
          refine (sameO_any (some ⟨bb, ob, none⟩) a n n c2 c l l w3 HTt3.out HTx3.out (by omega) true (by simp)).mono ?_
          rintro e w4 ⟨rfl, hb⟩
          have HTx4 := Lib.hid (HTx3.out.below hb)
          have HT24 := Lib.hid (HT23.out.below hb)
          have HT34 := Lib.hid (HT33.out.below hb)
          have HTt4 := Lib.hid (HTt3.out.below hb)
          have HB4 := Lib.hid (HB3.out.trans (hb.mono HB3.out.size))
          clear hb HTx3 HT23 HT33 HTt3 HB3
          go_wp2_with fail
          refine (gives_any (some ⟨bb, ob, none⟩) n2 c2 l2 at' pg HG.out w4 HT24.out (by omega)).mono ?_
          rintro e w5 ⟨rfl, hb⟩
          have HTx5 := Lib.hid (HTx4.out.below hb)
          have HT25 := Lib.hid (HT24.out.below hb)
          have HT35 := Lib.hid (HT34.out.below hb)
          have HTt5 := Lib.hid (HTt4.out.below hb)
          have HB5 := Lib.hid (HB4.out.trans (hb.mono HB4.out.size))
          clear hb HTx4 HT24 HT34 HTt4 HB4
          go_wp2_with fail
          refine (gives_any a n c l at' pg HGL.out w5 HTx5.out (by omega)).mono ?_
          rintro e w6 ⟨rfl, hb⟩
          have HTx6 := Lib.hid (HTx5.out.below hb)
          have HT26 := Lib.hid (HT25.out.below hb)
          have HT36 := Lib.hid (HT35.out.below hb)
          have HTt6 := Lib.hid (HTt5.out.below hb)
          have HB6 := Lib.hid (HB5.out.trans (hb.mono HB5.out.size))
          clear hb HTx5 HT25 HT35 HTt5 HB5
          go_wp2
          go_ret
          exact ⟨rfl, HB6.out⟩
    · have k2 : (e2 != 0) = true := by simpa using he
      have hl2 : l2 = l := by
        rcases O.add_cases l out f nn with ⟨e, h, _⟩ | ⟨h, _⟩ <;> rw [s2] at h
        · exact (Prod.mk.inj h).1
        · exact absurd (Prod.mk.inj h).2 he
      have M2 : Hid (l2.length = n) := Lib.hid (by rw [hl2]; exact hl)
      have HL2 := Lib.hid hl2
      clear hl2 he s2 hz2
      go_enter Try.func7, Try.ntmps7
      go_wp2_with fail
      refine (oawake_any w).mono ?_
      rintro e w1 ⟨rfl, hb⟩
      have HTx1 := Lib.hid (HTx0.out.below hb)
      have HB1 := Lib.hid (HB0.out.trans (hb.mono HB0.out.size))
      clear hb HTx0 HB0
      go_wp2_with fail
      refine (add_is a n c l out f nn l2 n e2 w1 HTx1.out (by omega) HZ.out hf S2.out M2.out).mono ?_
      rintro e w2 ⟨a2, c2, rfl, ht2, hb⟩
      have HTx2 := Lib.hid (HTx1.out.below hb)
      have HB2 := Lib.hid (HB1.out.trans (hb.mono HB1.out.size))
      clear hb HTx1 HB1
      have HT22 := ht2
      clear ht2
      go_wp2_with fail
      refine (sameO_any a2 a n n c2 c l2 l w2 HT22.out HTx2.out (by omega) true (by rw [HL2.out]; simp)).mono ?_
      rintro e w3 ⟨rfl, hb⟩
      have HTx3 := Lib.hid (HTx2.out.below hb)
      have HT23 := Lib.hid (HT22.out.below hb)
      have HB3 := Lib.hid (HB2.out.trans (hb.mono HB2.out.size))
      clear hb HTx2 HT22 HB2
      go_wp2
      go_ret
      exact ⟨rfl, HB3.out⟩
  · have g1 : decide ((6 : Int) < (n : Int)) = true := by simp; omega
    go_enter Try.func7, Try.ntmps7
    go_wp2_with fail
    refine (oawake_any w).mono ?_
    rintro e w1 ⟨rfl, hb⟩
    have HTx1 := Lib.hid (HTx0.out.below hb)
    have HB1 := Lib.hid (HB0.out.trans (hb.mono HB0.out.size))
    clear hb HTx0 HB0
    go_wp2
    go_ret
    exact ⟨rfl, HB1.out⟩
end Go.Proofs.Ytejckbnapcdhpaa
