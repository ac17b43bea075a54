/-
  DetWhole, at every mapping, address and port.
-/
import Derived.Test.YtjfnopbdlopjgaaEAwake
namespace Go.Proofs.Ytjfnopbdlopjgaa
open Go.RowKit

set_option maxHeartbeats 2000000 in
theorem DetWhole_in (x : E.D) (at' port : Int) (w : World) (hb0 : x.b ≤ 9223372036854775807) (hc0 : x.c ≤ 9223372036854775807)  :
    Calls Try.prog 9 #[.agg #[.int .i64 x.b, .int .i64 x.k, .int .i64 x.c, .int .i64 x.j, .int .i64 x.lo, .int .i64 x.hi, .int .i64 x.dy, .int .i64 x.bl], .int .i64 at', .int .i64 port] w fun e w' => e = .returned (.bool true) ∧ Below w.heap.size w w' := by
  have HB0 := Lib.hid (ebox_below w x)
  have HKd0 := Lib.hid (ebox_blok w x)
  obtain ⟨wo, hwo⟩ : ∃ z, E.who x at' port = z := ⟨_, rfl⟩
  have Hwo := Lib.hid hwo
  clear hwo
  obtain ⟨wi, hwi⟩ : ∃ z, E.which x at' port = z := ⟨_, rfl⟩
  have Hwi := Lib.hid hwi
  clear hwi
  have HX := Lib.hid (And.intro hb0 hc0)
  clear hb0 hc0
  have HWO := Lib.hid (E.who_cases x at' port)
  have HWI := Lib.hid (E.which_cases x at' port)
  go_enter Try.func9, Try.ntmps9
  go_wp2_with fail
  refine (eawake_any (ebox w x)).mono ?_
  rintro e w1 ⟨rfl, hb⟩
  have HKd1 := Lib.hid (HKd0.out.below hb HKd0.out.lt)
  have df0 := e0 HKd1.out
  have df1 := e1 HKd1.out
  have df2 := e2 HKd1.out
  have df3 := e3 HKd1.out
  have df4 := e4 HKd1.out
  have df5 := e5 HKd1.out
  have df6 := e6 HKd1.out
  have df7 := e7 HKd1.out
  have HB1 := Lib.hid (HB0.out.trans (hb.mono HB0.out.size))
  clear hb
  go_wp2_with fail
  refine (who_any x at' port wo w1 Hwo.out HX.out.1 HX.out.2).mono ?_
  clear df0 df1 df2 df3 df4 df5 df6 df7
  rintro e w2 ⟨rfl, hb⟩
  have HKd2 := Lib.hid (HKd1.out.below hb HKd1.out.lt)
  have df0 := e0 HKd2.out
  have df1 := e1 HKd2.out
  have df2 := e2 HKd2.out
  have df3 := e3 HKd2.out
  have df4 := e4 HKd2.out
  have df5 := e5 HKd2.out
  have df6 := e6 HKd2.out
  have df7 := e7 HKd2.out
  have HB2 := Lib.hid (HB1.out.trans (hb.mono HB1.out.size))
  clear hb
  go_wp2_with fail
  refine (which_any x at' port wi w2 Hwi.out HX.out.1 HX.out.2).mono ?_
  clear df0 df1 df2 df3 df4 df5 df6 df7
  rintro e w3 ⟨rfl, hb⟩
  have HKd3 := Lib.hid (HKd2.out.below hb HKd2.out.lt)
  have df0 := e0 HKd3.out
  have df1 := e1 HKd3.out
  have df2 := e2 HKd3.out
  have df3 := e3 HKd3.out
  have df4 := e4 HKd3.out
  have df5 := e5 HKd3.out
  have df6 := e6 HKd3.out
  have df7 := e7 HKd3.out
  have HB3 := Lib.hid (HB2.out.trans (hb.mono HB2.out.size))
  clear hb
  rcases HWO.out with ⟨s, ho, hs⟩ | ⟨-, hs⟩
  · obtain ⟨hB, h1, h2, h3⟩ := E.own_iff.1 ho
    obtain ⟨hF, hs0, -, -, -, -, hb4, hb5, hb6, -, -, -, -, -⟩ := E.base_in hB
    have hl := hF.lo
    have hdy := hF.dy
    obtain rfl : wo = s := Hwo.out.symm.trans hs
    rcases HWI.out with ⟨i, hi, -⟩ | ⟨-, hi⟩
    · obtain ⟨hB', h2', h3'⟩ := E.inb_iff.1 hi
      have := (E.blk_in hB').2.2.2.2.2.2.1
      omega
    · obtain rfl : wi = -1 := Hwi.out.symm.trans hi
      obtain ⟨hd, hhd⟩ : ∃ z, x.hi - x.dy = z := ⟨_, rfl⟩
      have c1 : decide (0 ≤ wo) = true := decide_eq_true hs0.1
      have c2 : decide (x.lo ≤ port) = true := decide_eq_true (by omega)
      have c3 : decide (port ≤ x.hi) = true := decide_eq_true (by omega)
      have c4 : decide (wo < 0) = false := decide_eq_false (by omega)
      have c5 : IntKind.i64.wrap (x.hi - x.dy) = hd := by rw [hhd]; exact IntWalk.i64_in _ (by omega)
      have c6 : decide (port ≤ hd) = true := decide_eq_true (by omega)
      clear hB h1 h2 h3 hF hs0 hb4 hb5 hb6 hl hdy hs hi hhd ho
      go_wp2
      go_ret
      exact ⟨rfl, HB3.out⟩
  · obtain rfl : wo = -1 := Hwo.out.symm.trans hs
    rcases HWI.out with ⟨i, hi, hs'⟩ | ⟨-, hi⟩
    · obtain ⟨hB, h2, h3⟩ := E.inb_iff.1 hi
      obtain ⟨hF, -, hi0, -, -, -, hb4, hb5, hb6, -⟩ := E.blk_in hB
      have hl := hF.lo
      have hdy := hF.dy
      obtain rfl : wi = i := Hwi.out.symm.trans hs'
      obtain ⟨hd, hhd⟩ : ∃ z, x.hi - x.dy = z := ⟨_, rfl⟩
      have c1 : decide (0 ≤ wi) = true := decide_eq_true hi0.1
      have c2 : decide (x.lo ≤ port) = true := decide_eq_true (by omega)
      have c3 : decide (port ≤ x.hi) = true := decide_eq_true (by omega)
      have c4 : decide (wi < 0) = false := decide_eq_false (by omega)
      have c5 : IntKind.i64.wrap (x.hi - x.dy) = hd := by rw [hhd]; exact IntWalk.i64_in _ (by omega)
      have c6 : decide (hd < port) = true := decide_eq_true (by omega)
      clear hB h2 h3 hF hi0 hb4 hb5 hb6 hl hdy hs hi hhd hs'
      go_wp2
      go_ret
      exact ⟨rfl, HB3.out⟩
    · obtain rfl : wi = -1 := Hwi.out.symm.trans hi
      clear hs hi
      by_cases g1 : x.lo ≤ port
      · have c1 : decide (x.lo ≤ port) = true := decide_eq_true g1
        by_cases g2 : port ≤ x.hi
        · have c2 : decide (port ≤ x.hi) = true := decide_eq_true g2
          clear g1 g2
          go_wp2
          go_ret
          exact ⟨rfl, HB3.out⟩
        · have c2 : decide (port ≤ x.hi) = false := decide_eq_false g2
          clear g1 g2
          go_wp2
          go_ret
          exact ⟨rfl, HB3.out⟩
      · have c1 : decide (x.lo ≤ port) = false := decide_eq_false g1
        clear g1
        go_wp2
        go_ret
        exact ⟨rfl, HB3.out⟩
end Go.Proofs.Ytjfnopbdlopjgaa
