/-
  Walk of moorings/vari.Get, for every slice and every place.
-/
import Derived.Test.YtebiogadkamgcaaVGetM
namespace Go.Proofs.Ytebiogadkamgcaa
open Go.RowKit

theorem getR_neg (a : Option Addr) (len cap : Nat) (p : Int) (L : List Int) (w : World) (h : p < 0) :
    Calls Try.prog 42 #[.slice a len cap, .int .i64 p] w (GetIs L p w) := by
  have hg := Lib.hid (get_neg (L := L) h)
  go_enter Try.func42, Try.ntmps42
  go_wp2
  go_step3
  go_wp2
  all_goals (try rw [Exit.noGoto_ret])
  go_ret2
  exact .mk hg.out

theorem get_end (a : Option Addr) (len cap : Nat) (q : Nat) (L : List Int) (w : World) (hl : L.length ≤ len) (h : len ≤ q) :
    Calls Try.prog 42 #[.slice a len cap, .int .i64 q] w (GetIs L q w) := by
  have hg := Lib.hid (get_none (L := L) (q := q) (by rw [List.drop_eq_nil_of_le (by omega)]; rfl))
  have hd : decide ((q : Int) < len) = false := by simp; omega
  go_enter Try.func42, Try.ntmps42
  go_wp2
  go_step3
  go_wp2
  go_step3
  go_wp2
  refine wp_loop_rounds 1 ?_
  rw [rounds_succ]
  go_wp2
  (try rw [Exit.noGoto_ret])
  go_ret2
  exact .mk hg.out

set_option maxRecDepth 100000 in
set_option maxHeartbeats 1000000 in
theorem get_in (b off len cap q : Nat) (zs : List Int) (w : World) (hz : len ≤ zs.length) (hm : len ≤ 9223372036854775807) (hq : q < len)
    (hcells : ∀ i, i < zs.length → w.cell? ⟨b, off + i, none⟩ = some (.int .u8 (zs.getD i 0))) (hby : ∀ n ∈ zs, (Lit.int .u8 n).wf = true) :
    Calls Try.prog 42 #[.slice (some ⟨b, off, none⟩) len cap, .int .i64 q] w (GetIs (zs.take len) q w) := by
  have hq0 : ¬ ((q : Int) < 0) := by omega
  go_enter Try.func42, Try.ntmps42
  go_wp2
  go_step3
  go_wp2
  go_step3
  go_wp2
  go_loop [6, 7, 8] (fun x y i => ∃ (j k : Nat) (acc u : Int), i = .int .i64 k ∧ x = .int .i64 acc ∧ y = .int .i64 u ∧ k ≤ len ∧ j ≤ 6 ∧ 0 ≤ acc ∧ acc < u ∧ Hid (At (zs.take len) q j k acc u)) (fun _ _ i => len - (intOf i).toNat)
  case atStart => exact ⟨0, q, 0, 1, rfl, rfl, rfl, by omega, by omega, by omega, by omega, Lib.hid (At.start _ _)⟩
  case round =>
    obtain ⟨j, k, acc, u, rfl, rfl, rfl, hk, hj, ha0, hau, HA⟩ := hrel
    obtain ⟨hu1, hu5, hu6, hu7⟩ := HA.out.unit hj
    by_cases hlt : k < len
    · have hdr := Lib.hid (take_drop_cons hlt hz)
      obtain ⟨c, hcc⟩ : ∃ c, zs.getD k 0 = c := ⟨_, rfl⟩
      have hcell := hcells k (by omega)
      have hcm : c ∈ zs := by rw [← hcc]; simp [show k < zs.length by omega]
      rw [hcc] at hcell
      have hdr := Lib.hid (by have := take_drop_cons hlt hz; rw [hcc] at this; exact this)
      obtain ⟨hc0, hc1⟩ := bounds_u8 (hby c hcm)
      clear hcc hcm
      obtain ⟨hp0, hp1⟩ := prod_bd (c := c) hu1
      by_cases hj6 : j < 6
      · have hu2 := hu5 hj6
        clear hu5 hu6 hu7
        by_cases hc : 128 ≤ c
        · have hd1 : decide (128 ≤ c) = true := by simpa using hc
          go_wp2
          go_round
          case rel => exact ⟨j + 1, k + 1, acc + c % 128 * u, u * 128, by go_num, rfl, rfl, by omega, by omega, by omega, by omega, Lib.hid (HA.out.step hj6 hdr.out hc)⟩
          case measure => simp [intOf]; omega
        · have hc' : c < 128 := by omega
          have hd1 : decide (128 ≤ c) = false := by simpa using hc
          by_cases hb : (c = 0 ∧ q < k) ∨ 1099511627776 < acc + c % 128 * u
          · have HB := Lib.hid (HA.out.bad hdr.out hc' hb)
            by_cases h0 : c = 0 ∧ q < k
            · have e1 : (c == 0) = true := by simpa using h0.1
              have e2 : q < k := h0.2
              clear h0 hb
              go_wp2
              (try rw [Exit.noGoto_ret])
              go_ret2
              exact .mk HB.out
            · have e3 : 1099511627776 < acc + c % 128 * u := by omega
              clear hb
              by_cases e1 : c = 0
              · have e2 : decide (q < k) = false := by simp; omega
                have e1' : (c == 0) = true := by simpa using e1
                clear h0 e1
                go_wp2
                (try rw [Exit.noGoto_ret])
                go_ret2
                exact .mk HB.out
              · have e1' : (c == 0) = false := by simpa using e1
                clear h0 e1
                go_wp2
                (try rw [Exit.noGoto_ret])
                go_ret2
                exact .mk HB.out
          · have HB := Lib.hid (HA.out.good hj6 hdr.out hc' hb)
            have e3 : decide (1099511627776 < acc + c % 128 * u) = false := by simp; omega
            by_cases e1 : c = 0
            · have e2 : decide (q < k) = false := by simp; omega
              have e1' : (c == 0) = true := by simpa using e1
              clear e1 hb
              go_wp2
              (try rw [Exit.noGoto_ret])
              go_ret2
              exact .mk HB.out
            · have e1' : (c == 0) = false := by simpa using e1
              clear e1 hb
              go_wp2
              (try rw [Exit.noGoto_ret])
              go_ret2
              exact .mk HB.out
      · have hj' : j = 6 := by omega
        have HB := Lib.hid (HA.out.over (by omega))
        have hu8 := hu6 hj'
        have hd : decide (u ≤ 1099511627776) = false := by simp; omega
        clear hj' hu6 hu5 hj6 hu8
        go_wp2
        (try rw [Exit.noGoto_ret])
        go_ret2
        exact .mk HB.out
    · have HB := Lib.hid (HA.out.eob (by simp; omega))
      have hd : decide (k < len) = false := by simp; omega
      clear hu5 hu6
      go_wp2
      (try rw [Exit.noGoto_ret])
      go_ret2
      exact .mk HB.out
/-- **Get**, at whatever slice. -/
theorem get_any (a : Option Addr) (len cap : Nat) (p : Int) (L : List Int) (w : World) (hl : L.length = len) (h : RowIn .u8 w a cap L) :
    Calls Try.prog 42 #[.slice a len cap, .int .i64 p] w (GetIs L p w) := by
  by_cases hp : p < 0
  · exact getR_neg a len cap p _ w hp
  · obtain ⟨q, rfl⟩ : ∃ q : Nat, p = q := ⟨p.toNat, by omega⟩
    by_cases hq : len ≤ q
    · exact get_end a len cap q _ w (by omega) hq
    · rcases h.2.2 with rfl | ⟨b, off, rfl, _, hc⟩
      · simp at hl; omega
      · have := get_in b off len cap q L w (by omega) (by have := h.1; unfold maxLen at this; omega) (by omega) hc h.2.1
        rwa [List.take_of_length_le (by omega)] at this

end Go.Proofs.Ytebiogadkamgcaa
