/-
  A walk of the document's torn.
-/
import Derived.Test.YtcabhibbajkpkaaDRefWrite
import Derived.Test.YtcabhibbajkpkaaDCrash
namespace Go.Proofs.Ytcabhibbajkpkaa
open Go.RowKit

/-- Bytes, torn in the last eight, from a place on up to another one. -/
def D.wearing (L : List Int) (s m : Nat) : List Int := L.mapIdx fun i c => if (s ≤ i ∧ L.length ≤ i + 8) ∧ i < m then D.tear c else c
theorem D.wearing_none (L : List Int) (s : Nat) : D.wearing L s s = L := by
  apply List.ext_getElem?
  intro i
  rw [D.wearing, List.getElem?_mapIdx]
  cases L[i]? with
  | none => rfl
  | some c => simp; intro h1 h2 h3; omega
theorem D.wearing_len (L : List Int) (s m : Nat) : (D.wearing L s m).length = L.length := by simp [D.wearing]
theorem D.wearing_skip {L : List Int} {s m : Nat} (h : ¬ L.length ≤ m + 8) : D.wearing L s (m + 1) = D.wearing L s m := by
  apply List.ext_getElem?
  intro i
  rw [D.wearing, D.wearing, List.getElem?_mapIdx, List.getElem?_mapIdx]
  cases L[i]? with
  | none => rfl
  | some c =>
    simp only [Option.map_some]
    congr 1
    by_cases h1 : (s ≤ i ∧ L.length ≤ i + 8) ∧ i < m
    · rw [if_pos h1, if_pos ⟨h1.1, by omega⟩]
    · rw [if_neg h1, if_neg (fun h2 => h1 ⟨h2.1, by have := h2.2; have := h2.1.2; omega⟩)]
theorem D.wearing_step {L : List Int} {s m : Nat} (hs : s ≤ m) (h8 : L.length ≤ m + 8) (hm : m < L.length) : D.wearing L s (m + 1) = (D.wearing L s m).set m (D.tear (L.getD m 0)) := by
  apply List.ext_getElem?
  intro i
  rw [List.getElem?_set, D.wearing, D.wearing, List.getElem?_mapIdx, List.getElem?_mapIdx]
  by_cases hi : m = i
  · subst hi
    simp [hm, hs, h8]
  · cases h : L[i]? with
    | none => simp [hi]
    | some c =>
      simp only [Option.map_some, hi, if_false]
      congr 1
      by_cases h1 : (s ≤ i ∧ L.length ≤ i + 8) ∧ i < m
      · rw [if_pos h1, if_pos ⟨h1.1, by omega⟩]
      · rw [if_neg h1, if_neg (fun h2 => h1 ⟨h2.1, by have := h2.2; omega⟩)]
theorem D.wearing_at {L : List Int} {s m : Nat} (hm : m < L.length) : (D.wearing L s m).getD m 0 = L.getD m 0 := by
  simp [D.wearing, hm]
theorem D.wearing_all {L : List Int} {s m : Nat} (hm : L.length ≤ m) : D.wearing L s m = D.torn L s := by
  apply List.ext_getElem?
  intro i
  rw [D.wearing, D.torn, List.getElem?_mapIdx, List.getElem?_mapIdx]
  by_cases hi : i < L.length
  · cases L[i]? with
    | none => rfl
    | some c =>
      simp only [Option.map_some]
      congr 1
      by_cases h1 : s ≤ i ∧ L.length ≤ i + 8
      · rw [if_pos h1, if_pos ⟨h1, by omega⟩]
      · rw [if_neg h1, if_neg (fun h2 => h1 h2.1)]
  · rw [List.getElem?_eq_none (by omega)]; rfl

set_option maxRecDepth 100000 in
set_option maxHeartbeats 400000 in
theorem refTorn_any (a : Option Addr) (n c : Nat) (L : List Int) (s : Nat) (w : World) (hr : RowIn .u8 w a c L) (hl : L.length = n) (hz : a = none → n = 0 ∧ c = 0) (hs : s ≤ n) (h9 : n ≤ 70000) :
    Calls Try.prog 49 #[.slice a n c, .int .i64 (s : Int)] w fun e w' => ∃ v, e = .returned v ∧ Hid (w'.ownsRow w.heap.size 5 1 v (D.torn L s).length ((D.torn L s).map (Value.int .u8))) ∧ Hid (∀ x ∈ D.torn L s, (Lit.int .u8 x).wf = true) ∧ Below w.heap.size w w' := by
  obtain ⟨v3, w3, hrun, ho3, hB3⟩ := appendB_own (w0 := w) (w := w) 25 (L := []) (K := L) (World.ownsRow_nil w w.heap.size 5 1) (Nat.le_refl _) (Below.refl _ w) hr hl hz (by simp; omega)
  rw [List.nil_append] at ho3
  obtain ⟨a5, c5, rfl, hr5, hz5, _⟩ := own_fresh ho3 hr.2.1
  rw [hl] at hrun ho3
  have HL := Lib.hid hl
  have HW := Lib.hid hr.2.1
  have HO0 : Hid (w3.ownsRow w.heap.size 5 1 (.slice a5 n c5) n ((D.wearing L s s).map (Value.int .u8)) ∧ ∀ x ∈ D.wearing L s s, (Lit.int .u8 x).wf = true) := Lib.hid (by rw [D.wearing_none]; exact ⟨ho3, hr.2.1⟩)
  have HB0 := Lib.hid hB3
  have hwn : IntKind.i64.wrap ((n : Int) - 8) = (n : Int) - 8 := wrap_i64_small (by omega) (by omega)
  clear hr hl hz ho3 hr5 hz5 hB3
  go_enter Try.func49, Try.ntmps49
  go_wp2_with (at_builtin; refine wpList_append_run (v' := .slice a5 n c5) (w' := w3) rfl rfl rfl rfl hrun ?_)
  clear hrun
  go_loopg [6] (n - s) (fun g q wr => ∃ m : Nat, q = .int .i64 m ∧ m + g = n ∧ s ≤ m ∧ Hid (Below w.heap.size w wr) ∧ Hid (wr.ownsRow w.heap.size 5 1 (.slice a5 n c5) n ((D.wearing L s m).map (Value.int .u8)) ∧ ∀ x ∈ D.wearing L s m, (Lit.int .u8 x).wf = true))
  case atStart => exact ⟨s, rfl, by omega, Nat.le_refl _, HB0, HO0⟩
  case round =>
    obtain ⟨m, rfl, hmn, hsm, HB, HO⟩ := hrel
    by_cases hlt : m < n
    · obtain ⟨g5, cq, he, hBg, hgl⟩ := HO.out.1.form (by omega)
      simp only [Value.slice.injEq, true_and] at he
      obtain ⟨rfl, rfl⟩ := he
      by_cases h8 : n ≤ m + 8
      · have d1 : decide ((n : Int) - 8 ≤ (m : Int)) = true := by simp; omega
        have hXl : (D.wearing L s m).length = n := by rw [D.wearing_len]; exact HL.out
        obtain ⟨o, ho, ho8⟩ : ∃ o : Nat, (D.wearing L s m).getD m 0 = (o : Int) ∧ o < 256 := by
          have h1 := byte_of HO.out.2 ((D.wearing L s m).getD m 0) (by simp [hXl, hlt])
          exact ⟨((D.wearing L s m).getD m 0).toNat, by omega, by omega⟩
        have hcell : wr.cell? ⟨g5, m, none⟩ = some (.int .u8 (o : Int)) := by
          rw [HO.out.1.cellAt m (by omega), ← ho]
          simp [hXl, hlt]
        have hfz := HO.out.1.frozenAt m
        obtain ⟨t, ht'⟩ : ∃ t : Nat, t = o ^^^ 165 := ⟨_, rfl⟩
        have ht8 : t < 256 := by rw [ht']; exact Nat.xor_lt_two_pow (n := 8) ho8 (by decide)
        have hbx : bits .xor .u8 (o : Int) 165 = (t : Int) := by rw [ht']; exact u8_xor_nat o 165 ho8 (by decide)
        have htear : D.tear (L.getD m 0) = (t : Int) := by
          rw [← D.wearing_at (L := L) (s := s) (m := m) (by rw [HL.out]; exact hlt), ho, ht']
          unfold D.tear
          simp
        have HST : Hid (D.wearing L s (m + 1) = (D.wearing L s m).set m (t : Int)) := Lib.hid (by rw [D.wearing_step hsm (by rw [HL.out]; exact h8) (by rw [HL.out]; exact hlt), htear])
        have HNX : Hid ((wr.setCell ⟨g5, m, none⟩ (.int .u8 (t : Int))).ownsRow w.heap.size 5 1 (.slice (some ⟨g5, 0, none⟩) n c5) n ((D.wearing L s (m + 1)).map (Value.int .u8)) ∧ ∀ x ∈ D.wearing L s (m + 1), (Lit.int .u8 x).wf = true) := Lib.hid (by
          rw [HST.out]
          refine ⟨?_, fun x hx => ?_⟩
          · have h1 := (HO.out.1.stored m (.int .u8 (t : Int))).1
            rw [← List.map_set] at h1
            exact h1
          · rcases List.mem_or_eq_of_mem_set hx with h | rfl
            · exact HO.out.2 x h
            · simp [Lit.wf, IntKind.min, IntKind.max, IntKind.bits, IntKind.signed]; omega)
        have HBX : Hid (Below w.heap.size w (wr.setCell ⟨g5, m, none⟩ (.int .u8 (t : Int)))) := Lib.hid (HB.out.setCell (p := ⟨g5, m, none⟩) hBg _)
        clear h8 ht' htear ho hXl
        go_wp2
        go_roundg (n - (m + 1))
        case rel => exact ⟨m + 1, by go_num, by omega, by omega, HBX, HNX⟩
        case measure => omega
      · have d1 : decide ((n : Int) - 8 ≤ (m : Int)) = false := by simp; omega
        have HST : Hid (D.wearing L s (m + 1) = D.wearing L s m) := Lib.hid (D.wearing_skip (by rw [HL.out]; exact h8))
        clear h8
        go_wp2
        go_roundg (n - (m + 1))
        case rel => exact ⟨m + 1, by go_num, by omega, by omega, HB, Lib.hid (by rw [HST.out]; exact HO.out)⟩
        case measure => omega
    · have hd : decide (m < n) = false := by simp; omega
      have HE : Hid (D.wearing L s m = D.torn L s) := Lib.hid (D.wearing_all (by rw [HL.out]; omega))
      go_wp2
      go_ret
      refine ⟨_, rfl, Lib.hid ?_, Lib.hid ?_, HB.out⟩
      · rw [← HE.out, D.wearing_len, HL.out]; exact HO.out.1
      · rw [← HE.out]; exact HO.out.2
end Go.Proofs.Ytcabhibbajkpkaa
