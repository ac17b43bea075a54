/-
  Walk of moorings/mooringsref01.Read.
-/
import Derived.Test.YtebiogadkamgcaaVReadM
import Derived.Test.YtebiogadkamgcaaVRefGet
namespace Go.Proofs.Ytebiogadkamgcaa
open Go.RowKit

set_option maxRecDepth 100000 in
set_option maxHeartbeats 1000000 in
theorem refRead_any (a : Option Addr) (len cap : Nat) (L : List Int) (w : World) (hl : L.length = len) (h : RowIn .u8 w a cap L) (h5 : len ≤ 1000000) :
    Calls Try.prog 27 #[.slice a len cap] w (ReadIs L w.heap.size w) := by
  obtain ⟨i0, hi, hz0, hz1, hz2⟩ := info_parts info3
  have HR := Lib.hid h
  have HB := Lib.hid (byte_of h.2.1)
  have HL := Lib.hid hl
  clear h hl
  go_enter Try.func27, Try.ntmps27
  go_wp2
  go_loopw [4, 5] (fun v i wr => ∃ (k : Nat) (l : List Int) (a1 : Option Addr) (cap1 : Nat), v = .slice a1 l.length cap1 ∧ i = .int .i64 k ∧ k ≤ len ∧ l.length ≤ 400 ∧ Hid (Part L l k) ∧ wr.ownsRow w.heap.size 3 1 (.slice a1 l.length cap1) l.length (l.map (Value.int .i64)) ∧ Below w.heap.size w wr) (fun _ i _ => len - (intOf i).toNat)
  case atStart => exact ⟨0, [], none, 0, rfl, rfl, by omega, by simp, Lib.hid (Part.start _), World.ownsRow_nil _ _ _ _, Below.refl _ _⟩
  case round =>
    obtain ⟨k, l, a1, cap1, rfl, rfl, hk, hl4, HP, hown, hB⟩ := hrel
    have hBs := hB.size
    by_cases hlt : k < len
    · have HRr : Hid (RowIn .u8 wr a cap L) := Lib.hid (HR.out.below hB)
      cases hh : M.head (L.drop k) with
      | none =>
        have HG := Lib.hid (get_none hh)
        have HN := Lib.hid (HP.out.fail (by rw [HL.out]; exact hlt) hh)
        clear hh
        go_wp2_with (go_at_call 40; refine (getIs_of HG.out (refGet_any a len cap _ L _ HL.out HRr.out)).mono ?_; rintro e w' ⟨rfl, rfl⟩)
        go_ret2
        exact .no HN.out hB
      | some r =>
        obtain ⟨n, e⟩ := r
        have HG := Lib.hid (get_some hh)
        have HS := HP.out.step HB.out hh
        obtain ⟨hp', he0, _, hn⟩ := HS
        have hke : k + e ≤ len := by have := hp'.1; rw [HL.out] at this; exact this
        have HP' := Lib.hid hp'
        have HW := Lib.hid (wf_num hn)
        clear hp' hh hn
        have hq : ¬ ((k : Int) + e < 0) := by omega
        by_cases h400 : l.length = 400
        · have HN := Lib.hid (HP.out.full (by rw [HL.out]; exact hlt) h400)
          have hd : ((l.length : Int) == 400) = true := by simp; omega
          clear h400
          go_wp2_with (go_at_call 40; refine (getIs_of HG.out (refGet_any a len cap _ L _ HL.out HRr.out)).mono ?_; rintro e w' ⟨rfl, rfl⟩)
          go_ret2
          exact .no HN.out hB
        · have hd : ((l.length : Int) == 400) = false := by simp; omega
          go_wp2_with (first | (go_at_call 40; refine (getIs_of HG.out (refGet_any a len cap _ L _ HL.out HRr.out)).mono ?_; rintro e w' ⟨rfl, rfl⟩) | (at_builtin; refine wpList_append_own _ rfl _ _ 40 rfl w.heap.size 3 i0 (.int .i64 0) 1 8 Try.underlying40 hi hz0 hz1 hz2 rfl (by decide) _ _ _ rfl (hown.alloc _) ⟨wr.heap.size, 0, none⟩ 1 1 [.int .i64 n] rfl rfl (cell_one_new _ _ _) (by simp [Value.oneCell']) (by unfold maxLen; omega) (by omega) (by simp; omega) ?_; intro v' w1 hown' hgrow _; obtain ⟨a2, cap2, rfl⟩ := ownsRow_form hown'))
          go_roundw
          case rel => exact ⟨k + e, l ++ [n], a2, cap2, by simp, by go_num, hke, by simp; omega, HP', by simpa using hown', below_appended hown (by omega) hB hgrow⟩
          case measure => simp [intOf]; omega
    · have HN := Lib.hid (HP.out.done (by rw [HL.out]; omega) hl4)
      have hd : decide (k < len) = false := by simp; omega
      go_wp2
      go_ret2
      exact .yes HN.out hown hB

theorem refReadRow_any (a : Option Addr) (len cap : Nat) (L : List Int) (w : World) (hl : L.length = len) (h : RowIn .u8 w a cap L) (h5 : len ≤ 1000000) : Calls Try.prog 27 #[.slice a len cap] w fun e w' =>
    ∃ a' cap' n', e = .returned (.tuple #[.slice a' n' cap', .bool (M.read L).isSome]) ∧ Hid (((M.read L).getD []).length = n') ∧ Hid (RowIn .i64 w' a' cap' ((M.read L).getD [])) ∧ Below w.heap.size w w' :=
  (refRead_any a len cap L w hl h h5).mono fun e w' ⟨v, ok, he, hok, ho, hb⟩ => by
    obtain ⟨a', cap', rfl, _, hr⟩ := ownsRow_rowIn ho (read_wf L)
    exact ⟨a', cap', _, by rw [he, hok], rfl, hr, hb⟩
end Go.Proofs.Ytebiogadkamgcaa
