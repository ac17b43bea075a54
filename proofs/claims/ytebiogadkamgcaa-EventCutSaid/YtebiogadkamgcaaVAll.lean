/-
  Walk of moorings/vari.All, for every list.
-/
import Derived.Test.YtebiogadkamgcaaVLists
import Derived.Test.YtebiogadkamgcaaVPut
namespace Go.Proofs.Ytebiogadkamgcaa
open Go.RowKit

theorem all_long_any (a : Option Addr) (len cap : Nat) (L : List Int) (w : World) (hl : L.length = len) (h : 400 < len) :
    Calls Try.prog 21 #[.slice a len cap] w (AllIs L w) := by
  have hn := Lib.hid (all_long (L := L) (by omega))
  have h' : decide (400 < (len : Int)) = true := by simp; omega
  clear hl
  go_enter Try.func21, Try.ntmps21
  go_wp2
  go_ret2
  exact .no hn.out (Below.refl _ _)

theorem all_empty_any (a : Option Addr) (cap : Nat) (w : World) :
    Calls Try.prog 21 #[.slice a 0 cap] w (AllIs [] w) := by
  have hn := Lib.hid (all_good (L := []) (by simp) (by simp))
  go_enter Try.func21, Try.ntmps21
  go_wp2
  refine wp_loop_rounds 1 ?_
  rw [rounds_succ]
  go_wp2
  go_ret2
  exact ⟨_, _, rfl, by rw [hn.out]; rfl, by rw [hn.out]; exact World.ownsRow_nil _ _ _ _, Below.refl _ _⟩

set_option maxRecDepth 100000 in
set_option maxHeartbeats 1000000 in
theorem all_in (b off len cap : Nat) (L : List Int) (w : World) (hl : L.length = len) (h4 : len ≤ 400) (hb : b < w.heap.size)
    (hc : ∀ i, i < L.length → w.cell? ⟨b, off + i, none⟩ = some (.int .i64 (L.getD i 0))) :
    Calls Try.prog 21 #[.slice (some ⟨b, off, none⟩) len cap] w (AllIs L w) := by
  obtain ⟨i0, hi, hz0, hz1, hz2⟩ := info_parts info5
  have HL := Lib.hid hl; clear hl
  have h4' : decide (400 < (len : Int)) = false := by simp; omega
  go_enter Try.func21, Try.ntmps21
  go_wp2
  go_loopw [4, 12] (fun v i wr => ∃ k : Nat, i = .int .i64 k ∧ k ≤ len ∧ Hid (∀ n ∈ L.take k, 0 ≤ n ∧ n ≤ 1099511627776) ∧ wr.ownsRow w.heap.size 5 1 v ((L.take k).flatMap M.put).length (((L.take k).flatMap M.put).map (Value.int .u8)) ∧ Below w.heap.size w wr) (fun _ i _ => len - (intOf i).toNat)
  case atStart => exact ⟨0, rfl, by omega, Lib.hid (by simp), World.ownsRow_nil _ _ _ _, Below.refl _ _⟩
  case round =>
    obtain ⟨k, rfl, hk, HG, hown, hB⟩ := hrel
    have hBs := hB.size
    by_cases hlt : k < len
    · have hkL : k < L.length := by rw [HL.out]; exact hlt
      obtain ⟨n, hn⟩ : ∃ n, L.getD k 0 = n := ⟨_, rfl⟩
      have hcell : wr.cell? ⟨b, off + k, none⟩ = some (.int .i64 n) := by rw [← hn]; exact (hB.cell (p := ⟨b, off + k, none⟩) hb).trans (hc k hkL)
      have hmem : n ∈ L := by rw [← hn]; simp [hkL]
      have HF := Lib.hid (flat_snoc hkL)
      have HFL := flat_len (L.take k)
      have HT : (L.take k).length ≤ k := List.length_take_le _ _
      have HN := Lib.hid hn
      have HM := Lib.hid hmem
      clear hn hmem hkL hc
      by_cases hnum : 0 ≤ n ∧ n ≤ 1099511627776
      · obtain ⟨g0, g1⟩ := hnum
        obtain ⟨xs, hxs⟩ : ∃ xs, (L.take k).flatMap M.put = xs := ⟨_, rfl⟩
        rw [hxs] at hown HFL
        have HX := Lib.hid hxs; clear hxs
        have hp := (M.put_pos_iff n).2 ⟨g0, g1⟩
        have hp6 := M.put_len6 n
        go_wp2_with (first | (go_at_call 34; refine (isNumber_yes _ _ g0 g1).mono ?_; rintro e w' ⟨rfl, rfl⟩) | (go_at_call 35; refine (put_any _ _).mono ?_; rintro e w2 ⟨v2, rfl, hrow2, hb2⟩; obtain ⟨g2, cap2, rfl⟩ := ownsRow_some hrow2 hp; have hown2 := ownsRow_below hown hb2; have hs2 := hb2.size) | (at_builtin; refine wpList_append_own _ rfl _ _ 23 rfl w.heap.size 5 i0 (.int .u8 0) 1 1 Try.underlying23 hi hz0 hz1 hz2 rfl (by decide) _ _ _ rfl hown2 ⟨g2, 0, none⟩ (M.put n).length cap2 ((M.put n).map (Value.int .u8)) rfl (by simp) (hrow2.cells rfl) (ints_one _ _) (by unfold maxLen; omega) (by omega) (by omega) ?_; intro v' w1 hown' hgrow _))
        go_roundw
        case rel => exact ⟨k + 1, by go_num, by omega, Lib.hid (by
              intro x hx
              rw [List.take_succ_eq_append_getElem (by rw [HL.out]; exact hlt)] at hx
              rcases List.mem_append.1 hx with hx | hx
              · exact HG.out x hx
              · have hkL : k < L.length := by rw [HL.out]; exact hlt
                have := HN.out
                simp [hkL] at this hx
                rw [hx, this]; exact ⟨g0, g1⟩), by rw [HF.out, HX.out, HN.out]; simpa using hown', below_appended0 hown2 (by omega) (hB.trans (hb2.mono (by omega))) hgrow⟩
        case measure => simp [intOf]; omega
      · have HNo := Lib.hid (all_bad HM.out hnum)
        have H := Lib.hid hnum; clear hnum
        go_wp2_with (go_at_call 34; refine (isNumber_no _ _ H.out).mono ?_; rintro e w' ⟨rfl, rfl⟩)
        go_ret2
        exact .no HNo.out hB
    · have hkl : k = len := by omega
      have HS := Lib.hid (all_good (L := L) (by rw [HL.out]; exact h4) (by have := HG.out; rwa [List.take_of_length_le (by rw [HL.out]; omega)] at this))
      have HT := Lib.hid (List.take_of_length_le (l := L) (i := k) (by rw [HL.out]; omega))
      have hd : decide (k < len) = false := by simp; omega
      clear hkl
      go_wp2
      go_ret2
      exact ⟨_, _, rfl, by rw [HS.out]; rfl, by rw [HS.out]; rw [HT.out] at hown; exact hown, hB⟩

/-- **All**, at whatever slice. -/
theorem all_any (a : Option Addr) (len cap : Nat) (L : List Int) (w : World) (hl : L.length = len) (h : RowIn .i64 w a cap L) :
    Calls Try.prog 21 #[.slice a len cap] w (AllIs L w) := by
  by_cases h4 : 400 < len
  · exact all_long_any a len cap L w hl h4
  · rcases h.2.2 with rfl | ⟨b, off, rfl, hb, hc⟩
    · subst hl; exact all_empty_any a cap w
    · exact all_in b off len cap L w hl (by omega) hb hc

/-- What All tells, as a slice. -/
theorem allRow_any (a : Option Addr) (len cap : Nat) (L : List Int) (w : World) (hl : L.length = len) (h : RowIn .i64 w a cap L) : Calls Try.prog 21 #[.slice a len cap] w fun e w' =>
    ∃ a' cap' n', e = .returned (.tuple #[.slice a' n' cap', .bool (M.all L).isSome]) ∧ Hid (((M.all L).getD []).length = n') ∧ Hid (RowIn .u8 w' a' cap' ((M.all L).getD [])) ∧ Below w.heap.size w w' :=
  (all_any a len cap L w hl h).mono fun e w' ⟨v, ok, he, hok, ho, hb⟩ => by
    obtain ⟨a', cap', rfl, _, hr⟩ := ownsRow_rowIn ho (by
      cases hr : M.all L with
      | none => simp
      | some b => simpa using all_byte hr)
    exact ⟨a', cap', _, by rw [he, hok], rfl, hr, hb⟩

end Go.Proofs.Ytebiogadkamgcaa
