/-
  The document's Who and Which at every mapping, address and port.
-/
import Derived.Test.YtjfnopbdlopjgaaERefBase
import Derived.Test.YtjfnopbdlopjgaaEWho
namespace Go.Proofs.Ytjfnopbdlopjgaa
open Go.RowKit

set_option maxHeartbeats 800000 in
theorem refWho_any (x : E.D) (at' p v : Int) (w : World) (hv : E.who x at' p = v) (hb : x.b ≤ 9223372036854775807) (hc : x.c ≤ 9223372036854775807) :
    Calls Try.prog 18 #[.agg #[.int .i64 x.b, .int .i64 x.k, .int .i64 x.c, .int .i64 x.j, .int .i64 x.lo, .int .i64 x.hi, .int .i64 x.dy, .int .i64 x.bl], .int .i64 at', .int .i64 p] w fun e w' => e = .returned (.int .i64 v) ∧ Below w.heap.size w w' := by
  have HV := Lib.hid hv
  have HB0 := Lib.hid (ebox_below w x)
  have HK0 := Lib.hid (ebox_blok w x)
  have HX := Lib.hid (And.intro hb hc)
  clear hv hb hc
  go_enter Try.func18, Try.ntmps18
  go_wp2_with fail
  go_loopg [7] 32 (fun g i wr => ∃ k : Nat, i = .int .i64 k ∧ k + g = 32 ∧ Hid (∀ j : Nat, j < k → E.own x (j : Int) at' p = false) ∧ Hid (Below w.heap.size w wr) ∧ Hid (Blok wr w.heap.size 25 #[.int .i64 x.b, .int .i64 x.k, .int .i64 x.c, .int .i64 x.j, .int .i64 x.lo, .int .i64 x.hi, .int .i64 x.dy, .int .i64 x.bl]))
  case atStart => exact ⟨0, rfl, rfl, Lib.hid (fun j hj => absurd hj (by omega)), HB0, HK0⟩
  case round =>
    obtain ⟨k, rfl, hk, HM, HW, HD⟩ := hrel
    by_cases hlt : k < 32
    · have dk : decide ((k : Int) < 32) = true := decide_eq_true (by omega)
      obtain ⟨v1, hv1⟩ : ∃ v, E.baseB x (k : Int) = v := ⟨_, rfl⟩
      obtain ⟨a1, ha1⟩ : ∃ v, E.baseA x (k : Int) = v := ⟨_, rfl⟩
      obtain ⟨f1, hf1⟩ : ∃ v, E.baseF x (k : Int) = v := ⟨_, rfl⟩
      obtain ⟨t1, ht1⟩ : ∃ v, E.baseT x (k : Int) = v := ⟨_, rfl⟩
      have HB1 := Lib.hid hv1
      have HA1 := Lib.hid ha1
      have HF1 := Lib.hid hf1
      have HT1 := Lib.hid ht1
      have hcall := refBase_any x (k : Int) a1 f1 t1 v1 wr hv1 ha1 hf1 ht1 HX.out.1 HX.out.2
      clear hv1 ha1 hf1 ht1
      have k0 := e0 HD.out
      have k1 := e1 HD.out
      have k2 := e2 HD.out
      have k3 := e3 HD.out
      have k4 := e4 HD.out
      have k5 := e5 HD.out
      have k6 := e6 HD.out
      have k7 := e7 HD.out
      go_wp2_with fail
      refine hcall.mono ?_
      clear k0 k1 k2 k3 k4 k5 k6 k7
      rintro e w4 ⟨rfl, hb4⟩
      have HB4 := Lib.hid (HW.out.trans (hb4.mono HW.out.size))
      have HD4 := Lib.hid (HD.out.below hb4 HD.out.lt)
      clear hb4 hcall
      have HBX := Lib.hid (HB4.out.trans ((sbox_below w4 a1 f1 t1).mono HB4.out.size))
      have HKX := Lib.hid (HD4.out.alloc (.cells #[.int .i64 a1, .int .i64 f1, .int .i64 t1] 28))
      cases v1
      · have HO : Hid (E.own x (k : Int) at' p = false) := Lib.hid (by rw [Bool.eq_false_iff]; intro h; rw [E.own_iff, HB1.out] at h; cases h.1)
        go_wp2
        go_roundg (32 - (k + 1))
        case rel => exact ⟨k + 1, by go_num, by omega, Lib.hid (fun j hj => by
          rcases Nat.lt_succ_iff_lt_or_eq.1 hj with h | rfl
          · exact HM.out j h
          · exact HO.out), HBX, HKX⟩
        case measure => omega
      · skip
        by_cases g0 : a1 = at'
        · have d0 : (a1 == at') = true := by simpa using g0
          by_cases g1 : f1 ≤ p
          · have d1 : decide (f1 ≤ p) = true := decide_eq_true g1
            by_cases g2 : p ≤ t1
            · have d2 : decide (p ≤ t1) = true := decide_eq_true g2
              have HF : Hid (v = (k : Int)) := Lib.hid (by rw [← HV.out]; exact (E.own_who (by rw [E.own_iff, HB1.out, HA1.out, HF1.out, HT1.out]; exact ⟨rfl, g0, g1, g2⟩)).2)
              clear g0 g1 g2
              go_wp2
              go_ret
              exact ⟨by rw [HF.out]; rfl, HBX.out⟩
            · have d2 : decide (p ≤ t1) = false := decide_eq_false g2
              have HO0 : Hid (E.own x (k : Int) at' p = false) := Lib.hid (by
                rw [Bool.eq_false_iff]
                intro h
                rw [E.own_iff, HB1.out, HA1.out, HF1.out, HT1.out] at h
                exact g2 h.2.2.2)
              clear g0 g1 g2
              have HO : Hid (E.own x (k : Int) at' p = false) := Lib.hid (HO0.out)
              go_wp2
              go_roundg (32 - (k + 1))
              case rel => exact ⟨k + 1, by go_num, by omega, Lib.hid (fun j hj => by
                rcases Nat.lt_succ_iff_lt_or_eq.1 hj with h | rfl
                · exact HM.out j h
                · exact HO.out), HBX, HKX⟩
              case measure => omega
          · have d1 : decide (f1 ≤ p) = false := decide_eq_false g1
            have HO0 : Hid (E.own x (k : Int) at' p = false) := Lib.hid (by
              rw [Bool.eq_false_iff]
              intro h
              rw [E.own_iff, HB1.out, HA1.out, HF1.out, HT1.out] at h
              exact g1 h.2.2.1)
            clear g0 g1
            have HO : Hid (E.own x (k : Int) at' p = false) := Lib.hid (HO0.out)
            go_wp2
            go_roundg (32 - (k + 1))
            case rel => exact ⟨k + 1, by go_num, by omega, Lib.hid (fun j hj => by
              rcases Nat.lt_succ_iff_lt_or_eq.1 hj with h | rfl
              · exact HM.out j h
              · exact HO.out), HBX, HKX⟩
            case measure => omega
        · have d0 : (a1 == at') = false := by simpa using g0
          have HO0 : Hid (E.own x (k : Int) at' p = false) := Lib.hid (by
            rw [Bool.eq_false_iff]
            intro h
            rw [E.own_iff, HB1.out, HA1.out, HF1.out, HT1.out] at h
            exact g0 h.2.1)
          clear g0
          have HO : Hid (E.own x (k : Int) at' p = false) := Lib.hid (HO0.out)
          go_wp2
          go_roundg (32 - (k + 1))
          case rel => exact ⟨k + 1, by go_num, by omega, Lib.hid (fun j hj => by
            rcases Nat.lt_succ_iff_lt_or_eq.1 hj with h | rfl
            · exact HM.out j h
            · exact HO.out), HBX, HKX⟩
          case measure => omega
    · have dk : decide ((k : Int) < 32) = false := decide_eq_false (by omega)
      obtain rfl : k = 32 := by omega
      have HF : Hid (v = -1) := Lib.hid (by
        rw [← HV.out]
        refine E.who_no fun s => ?_
        rw [Bool.eq_false_iff]
        intro h
        have hb := (E.own_iff.1 h).1
        obtain ⟨hF, h1, h2⟩ := E.baseB_iff.1 hb
        have hni := hF.ni
        have := HM.out s.toNat (by omega)
        rw [show ((s.toNat : Nat) : Int) = s by omega, h] at this
        cases this)
      go_wp2
      go_ret
      exact ⟨by rw [HF.out]; rfl, HW.out⟩

set_option maxHeartbeats 800000 in
theorem refWhich_any (x : E.D) (at' p v : Int) (w : World) (hv : E.which x at' p = v) (hb : x.b ≤ 9223372036854775807) (hc : x.c ≤ 9223372036854775807) :
    Calls Try.prog 26 #[.agg #[.int .i64 x.b, .int .i64 x.k, .int .i64 x.c, .int .i64 x.j, .int .i64 x.lo, .int .i64 x.hi, .int .i64 x.dy, .int .i64 x.bl], .int .i64 at', .int .i64 p] w fun e w' => e = .returned (.int .i64 v) ∧ Below w.heap.size w w' := by
  have HV := Lib.hid hv
  have HB0 := Lib.hid (ebox_below w x)
  have HK0 := Lib.hid (ebox_blok w x)
  have HX := Lib.hid (And.intro hb hc)
  clear hv hb hc
  go_enter Try.func26, Try.ntmps26
  go_wp2_with fail
  go_loopg [7] 8 (fun g i wr => ∃ k : Nat, i = .int .i64 k ∧ k + g = 8 ∧ Hid (∀ j : Nat, j < k → E.inb x at' (j : Int) p = false) ∧ Hid (Below w.heap.size w wr) ∧ Hid (Blok wr w.heap.size 25 #[.int .i64 x.b, .int .i64 x.k, .int .i64 x.c, .int .i64 x.j, .int .i64 x.lo, .int .i64 x.hi, .int .i64 x.dy, .int .i64 x.bl]))
  case atStart => exact ⟨0, rfl, rfl, Lib.hid (fun j hj => absurd hj (by omega)), HB0, HK0⟩
  case round =>
    obtain ⟨k, rfl, hk, HM, HW, HD⟩ := hrel
    by_cases hlt : k < 8
    · have dk : decide ((k : Int) < 8) = true := decide_eq_true (by omega)
      obtain ⟨v1, hv1⟩ : ∃ v, E.blkB x at' (k : Int) = v := ⟨_, rfl⟩
      obtain ⟨a1, ha1⟩ : ∃ v, E.blkA x at' (k : Int) = v := ⟨_, rfl⟩
      obtain ⟨f1, hf1⟩ : ∃ v, E.blkF x at' (k : Int) = v := ⟨_, rfl⟩
      obtain ⟨t1, ht1⟩ : ∃ v, E.blkT x at' (k : Int) = v := ⟨_, rfl⟩
      have HB1 := Lib.hid hv1
      have HA1 := Lib.hid ha1
      have HF1 := Lib.hid hf1
      have HT1 := Lib.hid ht1
      have hcall := refBlock_any x at' (k : Int) a1 f1 t1 v1 wr hv1 ha1 hf1 ht1 HX.out.1 HX.out.2
      clear hv1 ha1 hf1 ht1
      have k0 := e0 HD.out
      have k1 := e1 HD.out
      have k2 := e2 HD.out
      have k3 := e3 HD.out
      have k4 := e4 HD.out
      have k5 := e5 HD.out
      have k6 := e6 HD.out
      have k7 := e7 HD.out
      go_wp2_with fail
      refine hcall.mono ?_
      clear k0 k1 k2 k3 k4 k5 k6 k7
      rintro e w4 ⟨rfl, hb4⟩
      have HB4 := Lib.hid (HW.out.trans (hb4.mono HW.out.size))
      have HD4 := Lib.hid (HD.out.below hb4 HD.out.lt)
      clear hb4 hcall
      have HBX := Lib.hid (HB4.out.trans ((sbox_below w4 a1 f1 t1).mono HB4.out.size))
      have HKX := Lib.hid (HD4.out.alloc (.cells #[.int .i64 a1, .int .i64 f1, .int .i64 t1] 28))
      cases v1
      · have HO : Hid (E.inb x at' (k : Int) p = false) := Lib.hid (by rw [Bool.eq_false_iff]; intro h; rw [E.inb_iff, HB1.out] at h; cases h.1)
        go_wp2
        go_roundg (8 - (k + 1))
        case rel => exact ⟨k + 1, by go_num, by omega, Lib.hid (fun j hj => by
          rcases Nat.lt_succ_iff_lt_or_eq.1 hj with h | rfl
          · exact HM.out j h
          · exact HO.out), HBX, HKX⟩
        case measure => omega
      · skip
        by_cases g0 : f1 ≤ p
        · have d0 : decide (f1 ≤ p) = true := decide_eq_true g0
          by_cases g1 : p ≤ t1
          · have d1 : decide (p ≤ t1) = true := decide_eq_true g1
            have HF : Hid (v = (k : Int)) := Lib.hid (by rw [← HV.out]; exact (E.inb_which (by rw [E.inb_iff, HB1.out, HF1.out, HT1.out]; exact ⟨rfl, g0, g1⟩)).2)
            clear g0 g1
            go_wp2
            go_ret
            exact ⟨by rw [HF.out]; rfl, HBX.out⟩
          · have d1 : decide (p ≤ t1) = false := decide_eq_false g1
            have HO0 : Hid (E.inb x at' (k : Int) p = false) := Lib.hid (by
              rw [Bool.eq_false_iff]
              intro h
              rw [E.inb_iff, HB1.out, HF1.out, HT1.out] at h
              exact g1 h.2.2)
            clear g0 g1
            have HO : Hid (E.inb x at' (k : Int) p = false) := Lib.hid (HO0.out)
            go_wp2
            go_roundg (8 - (k + 1))
            case rel => exact ⟨k + 1, by go_num, by omega, Lib.hid (fun j hj => by
              rcases Nat.lt_succ_iff_lt_or_eq.1 hj with h | rfl
              · exact HM.out j h
              · exact HO.out), HBX, HKX⟩
            case measure => omega
        · have d0 : decide (f1 ≤ p) = false := decide_eq_false g0
          have HO0 : Hid (E.inb x at' (k : Int) p = false) := Lib.hid (by
            rw [Bool.eq_false_iff]
            intro h
            rw [E.inb_iff, HB1.out, HF1.out, HT1.out] at h
            exact g0 h.2.1)
          clear g0
          have HO : Hid (E.inb x at' (k : Int) p = false) := Lib.hid (HO0.out)
          go_wp2
          go_roundg (8 - (k + 1))
          case rel => exact ⟨k + 1, by go_num, by omega, Lib.hid (fun j hj => by
            rcases Nat.lt_succ_iff_lt_or_eq.1 hj with h | rfl
            · exact HM.out j h
            · exact HO.out), HBX, HKX⟩
          case measure => omega
    · have dk : decide ((k : Int) < 8) = false := decide_eq_false (by omega)
      obtain rfl : k = 8 := by omega
      have HF : Hid (v = -1) := Lib.hid (by
        rw [← HV.out]
        refine E.which_no fun s => ?_
        rw [Bool.eq_false_iff]
        intro h
        have hb := (E.inb_iff.1 h).1
        obtain ⟨hF, _, h1, h2⟩ := E.blkB_iff.1 hb
        have hni := hF.nb'
        have := HM.out s.toNat (by omega)
        rw [show ((s.toNat : Nat) : Int) = s by omega, h] at this
        cases this)
      go_wp2
      go_ret
      exact ⟨by rw [HF.out]; rfl, HW.out⟩
end Go.Proofs.Ytjfnopbdlopjgaa
