/-
  Walks of the document's Lists and Scan, and of moorings/mooringslaw05.few and joined, at whatever slices of records.
-/
import Derived.Test.YtnpgjndhkmpciaaRRows
import Derived.Test.YtnpgjndhkmpciaaRSame
import Derived.Test.YtnpgjndhkmpciaaRRefGet
namespace Go.Proofs.Ytnpgjndhkmpciaa
open Go.RowKit

theorem RP.take_step {xs ys : List RP} {k : Nat} {x y : RP} (hx : xs[k]? = some x) (hy : ys[k]? = some y) (h : RP.recs (xs.take k) = RP.recs (ys.take k)) (he : decide (RP.rec x = RP.rec y) = true) : RP.recs (xs.take (k + 1)) = RP.recs (ys.take (k + 1)) := by
  obtain ⟨h1, h2⟩ := List.getElem?_eq_some_iff.1 hx
  obtain ⟨h3, h4⟩ := List.getElem?_eq_some_iff.1 hy
  rw [List.take_succ_eq_append_getElem h1, List.take_succ_eq_append_getElem h3, h2, h4]
  simp only [RP.recs, List.map_append] at h ⊢
  rw [h]
  simp [of_decide_eq_true he]
theorem RP.take_bad {xs ys : List RP} {k : Nat} {x y : RP} (hx : xs[k]? = some x) (hy : ys[k]? = some y) (he : decide (RP.rec x = RP.rec y) = false) : decide (RP.recs xs = RP.recs ys) = false := by
  refine decide_eq_false fun h => of_decide_eq_false he ?_
  have h1 : (RP.recs xs)[k]? = some (RP.rec x) := by simp [RP.recs, hx]
  have h2 : (RP.recs ys)[k]? = some (RP.rec y) := by simp [RP.recs, hy]
  rw [h, h2] at h1
  simpa using h1.symm

set_option maxRecDepth 100000 in
set_option maxHeartbeats 400000 in
theorem lists_any (a a' : Option Addr) (n m cap cap' : Nat) (xs ys : List RP) (b : Bool) (w : World) (hl : xs.length = n) (hk : ys.length = m) (h : RecsIn w a cap xs) (h' : RecsIn w a' cap' ys) (hb : decide (RP.recs xs = RP.recs ys) = b) :
    Calls Try.prog 19 #[.slice a n cap, .slice a' m cap'] w fun e w' => e = .returned (.bool b) ∧ Below w.heap.size w w' := by
  by_cases hnm : n = m
  · subst hnm
    have hm9 : n ≤ 9223372036854775807 := by have := h.1; unfold maxLen at this; omega
    have HL := Lib.hid hl
    have HK := Lib.hid hk
    have HR := Lib.hid h
    have HR' := Lib.hid h'
    have HB := Lib.hid hb
    clear hl hk h h' hb
    go_enter Try.func19, Try.ntmps19
    go_wp2
    go_loopw [5] (fun i wr => ∃ k : Nat, i = .int .i64 k ∧ k ≤ n ∧ Hid (RP.recs (xs.take k) = RP.recs (ys.take k)) ∧ Below w.heap.size w wr) (fun i _ => n - (intOf i).toNat)
    case atStart => exact ⟨0, rfl, by omega, Lib.hid (by simp [RP.recs]), Below.refl _ _⟩
    case round =>
      obtain ⟨k, rfl, hkn, HT, hB⟩ := hrel
      by_cases hlt : k < n
      · obtain ⟨b1, o1, k1, a1, n1, c1, B1, rfl, hx, p1, p2, l1, r1, _⟩ := (HR.out.below hB).at (i := k) (by rw [HL.out]; exact hlt)
        obtain ⟨b2, o2, k2, a2, n2, c2, B2, rfl, hy, q1, q2, l2, r2, _⟩ := (HR'.out.below hB).at (i := k) (by rw [HK.out]; exact hlt)
        obtain ⟨d, hd⟩ : ∃ d, decide (RP.rec (k1, a1, n1, c1, B1) = RP.rec (k2, a2, n2, c2, B2)) = d := ⟨_, rfl⟩
        have hi0 : (0 : Int) ≤ (k : Int) := by omega
        have hi1 : (k : Int) < (n : Int) := by omega
        have L1 := Lib.hid l1
        have L2 := Lib.hid l2
        have R1 := Lib.hid r1
        have R2 := Lib.hid r2
        have hb1 : b1 < wr.heap.size := World.block_lt_of_cell? (a := ⟨b1, o1 + k * 2, none⟩) _ p1
        have hb2 : b2 < wr.heap.size := World.block_lt_of_cell? (a := ⟨b2, o2 + k * 2, none⟩) _ q1
        clear l1 l2 r1 r2
        have HD := Lib.hid hd
        clear hd
        have d1 : decide (k < n) = true := by simp; omega
        go_wp2_with fail
        refine wp_region_held (S := fun w' => Below wr.heap.size wr w') (by kernel_rfl) ?_
        change wpAnyH _ _ _ _ _ _ _ _ (World.drew wr)
        have HS0 : (fun w' => Below wr.heap.size wr w') (World.drew wr) := below_drew wr
        refine wpAnyH_take (i := 0) (v := (.slice (some ⟨b1, o1, none⟩) n cap)) rfl (by kernel_rfl) (by kernel_rfl) (by kernel_rfl) (fun _ _ _ h => h) (.inl ⟨by kernel_rfl, fun w9 hS => by kernel_rfl⟩) HS0 ?_
        refine wpAnyH_take (i := 1) (v := (.int .i64 (k : Int))) rfl (by kernel_rfl) (by kernel_rfl) (by kernel_rfl) (fun _ _ _ h => h) (.inl ⟨by kernel_rfl, fun w9 hS => by kernel_rfl⟩) HS0 ?_
        refine wpAnyH_take (i := 2) (v := (.pointer (some ⟨b1, o1 + k * 2, none⟩))) rfl (by kernel_rfl) (by kernel_rfl) (by kernel_rfl) (fun _ _ _ h => h) (.inl ⟨by kernel_rfl, fun w9 hS => by go_simp⟩) HS0 ?_
        refine wpAnyH_take (i := 3) (v := (.agg #[.int .i64 k1, .slice a1 n1 c1])) rfl (by kernel_rfl) (by kernel_rfl) (by kernel_rfl) (fun _ _ _ h => h) (.inl ⟨by kernel_rfl, fun w9 hS => by have e1 := (hS.cell (p := ⟨b1, o1 + k * 2, none⟩) hb1).trans p1; have e2 := (hS.cell (p := ⟨b1, o1 + k * 2 + 1, none⟩) hb1).trans p2; go_simp⟩) HS0 ?_
        refine wpAnyH_take (i := 4) (v := (.slice (some ⟨b2, o2, none⟩) n cap')) rfl (by kernel_rfl) (by kernel_rfl) (by kernel_rfl) (fun _ _ _ h => h) (.inl ⟨by kernel_rfl, fun w9 hS => by kernel_rfl⟩) HS0 ?_
        refine wpAnyH_take (i := 5) (v := (.int .i64 (k : Int))) rfl (by kernel_rfl) (by kernel_rfl) (by kernel_rfl) (fun _ _ _ h => h) (.inl ⟨by kernel_rfl, fun w9 hS => by kernel_rfl⟩) HS0 ?_
        refine wpAnyH_take (i := 6) (v := (.pointer (some ⟨b2, o2 + k * 2, none⟩))) rfl (by kernel_rfl) (by kernel_rfl) (by kernel_rfl) (fun _ _ _ h => h) (.inl ⟨by kernel_rfl, fun w9 hS => by go_simp⟩) HS0 ?_
        refine wpAnyH_take (i := 7) (v := (.agg #[.int .i64 k2, .slice a2 n2 c2])) rfl (by kernel_rfl) (by kernel_rfl) (by kernel_rfl) (fun _ _ _ h => h) (.inl ⟨by kernel_rfl, fun w9 hS => by have e1 := (hS.cell (p := ⟨b2, o2 + k * 2, none⟩) hb2).trans q1; have e2 := (hS.cell (p := ⟨b2, o2 + k * 2 + 1, none⟩) hb2).trans q2; go_simp⟩) HS0 ?_
        refine wpAnyH_call (i := 8) (f := 18) (args := #[.agg #[.int .i64 k1, .slice a1 n1 c1], .agg #[.int .i64 k2, .slice a2 n2 c2]]) (by kernel_rfl) rfl (by kernel_rfl) (by kernel_rfl) (refSame_any k1 k2 a1 a2 n1 n2 c1 c2 B1 B2 _ L1.out L2.out (R1.out.below HS0) (R2.out.below HS0)) ?_
        rintro e w4 ⟨rfl, hbw4⟩
        have HS1 : (fun w' => Below wr.heap.size wr w') w4 := Below.trans HS0 (hbw4.mono (Below.size HS0))
        refine ⟨_, rfl, HS1, ?_⟩
        refine wpAnyH_take (i := 9) (v := (.bool d)) rfl (by kernel_rfl) (by kernel_rfl) (by kernel_rfl) (fun _ _ _ h => h) (.inl ⟨by kernel_rfl, fun w9 hS => (show _ = Result.ok (.value (.bool (decide (RP.rec (k1, a1, n1, c1, B1) = RP.rec (k2, a2, n2, c2, B2))))) w9 by kernel_rfl).trans (by rw [HD.out])⟩) HS1 ?_
        refine wpAnyH_done (by kernel_rfl) ?_ _
        have W4 := Lib.hid (hB.trans (Below.mono HS1 hB.size))
        clear HS0 HS1 hbw4 p1 p2 q1 q2
        cases d with
        | false =>
          have HC := Lib.hid (RP.take_bad hx hy HD.out)
          clear hx hy
          go_wp2
          go_ret
          exact ⟨by rw [← HB.out, HC.out]; rfl, W4.out⟩
        | true =>
          have HC := Lib.hid (RP.take_step hx hy HT.out HD.out)
          clear hx hy
          go_wp2
          go_roundw
          case rel => exact ⟨k + 1, by go_num, by omega, HC, W4.out⟩
          case measure => simp [intOf]; omega
      · have HE : Hid (b = true) := Lib.hid (by
          rw [← HB.out]
          have := HT.out
          rw [List.take_of_length_le (by rw [HL.out]; omega), List.take_of_length_le (by rw [HK.out]; omega)] at this
          exact decide_eq_true this)
        have hd : decide (k < n) = false := by simp; omega
        go_wp2
        go_ret
        exact ⟨by rw [HE.out]; rfl, hB⟩
  · have HB : Hid (b = false) := Lib.hid (by
      rw [← hb]
      refine decide_eq_false fun h => hnm ?_
      have := congrArg List.length h
      simp [RP.recs] at this
      omega)
    have hd : ((n : Int) != m) = true := by simp; omega
    clear hl hk hnm h h' hb
    go_enter Try.func19, Try.ntmps19
    go_wp2
    go_ret
    exact ⟨by rw [HB.out]; rfl, Below.refl _ _⟩

set_option maxRecDepth 100000 in
set_option maxHeartbeats 400000 in
theorem few_any (a : Option Addr) (n cap : Nat) (most : Int) (xs : List RP) (b : Bool) (w : World) (hl : xs.length = n) (h : RecsIn w a cap xs) (hb : decide ((∀ x ∈ xs, x.2.2.1 ≤ 1100) ∧ (n : Int) ≤ most) = b) :
    Calls Try.prog 11 #[.slice a n cap, .int .i64 most] w fun e w' => e = .returned (.bool b) ∧ w = w' := by
  have hm9 : n ≤ 9223372036854775807 := by have := h.1; unfold maxLen at this; omega
  have HL := Lib.hid hl
  have HR := Lib.hid h
  have HB := Lib.hid hb
  clear hl h hb
  go_enter Try.func11, Try.ntmps11
  go_wp2
  go_loop [5] (fun i => ∃ k : Nat, i = .int .i64 k ∧ k ≤ n ∧ Hid (∀ x ∈ xs.take k, x.2.2.1 ≤ 1100)) (fun i => n - (intOf i).toNat)
  case atStart => exact ⟨0, rfl, by omega, Lib.hid (by simp)⟩
  case round =>
    obtain ⟨k, rfl, hkn, HT⟩ := hrel
    by_cases hlt : k < n
    · obtain ⟨b1, o1, k1, a1, n1, c1, B1, rfl, hx, p1, p2, l1, r1, _⟩ := HR.out.at (i := k) (by rw [HL.out]; exact hlt)
      have HX := Lib.hid hx
      have d1 : decide (k < n) = true := by simp; omega
      clear hx l1 r1
      by_cases h11 : 1100 < n1
      · have d2 : (1100 : Int) < (n1 : Int) := by omega
        have HF : Hid (b = false) := Lib.hid (by
          rw [← HB.out]
          refine decide_eq_false fun h => ?_
          have := h.1 _ (List.mem_of_getElem? HX.out)
          simp at this
          omega)
        go_wp2
        go_ret
        exact ⟨by rw [HF.out]; rfl, rfl⟩
      · have d2 : decide ((1100 : Int) < (n1 : Int)) = false := by simp; omega
        have HC : Hid (∀ x ∈ xs.take (k + 1), x.2.2.1 ≤ 1100) := Lib.hid (by
          obtain ⟨g1, g2⟩ := List.getElem?_eq_some_iff.1 HX.out
          rw [List.take_succ_eq_append_getElem g1, g2]
          intro x hx
          rcases List.mem_append.1 hx with hx | hx
          · exact HT.out x hx
          · obtain rfl : x = (k1, a1, n1, c1, B1) := by simpa using hx
            show n1 ≤ 1100
            omega)
        go_wp2
        go_round
        case rel => exact ⟨k + 1, by go_num, by omega, HC⟩
        case measure => simp [intOf]; omega
    · have hd : decide (k < n) = false := by simp; omega
      have HC : Hid (∀ x ∈ xs, x.2.2.1 ≤ 1100) := Lib.hid (by
        have := HT.out
        rwa [List.take_of_length_le (by rw [HL.out]; omega)] at this)
      have HF : Hid (b = decide ((n : Int) ≤ most)) := Lib.hid (by
        rw [← HB.out, Bool.eq_iff_iff, decide_eq_true_iff, decide_eq_true_iff]
        exact ⟨fun h => h.2, fun h => ⟨HC.out, h⟩⟩)
      go_wp2
      go_ret
      exact ⟨by rw [HF.out]; rfl, rfl⟩

theorem put_cases {k : Int} {B : List Int} : (R.ok (k, B) ∧ R.put (k, B) = some (R.bytes (k, B))) ∨ (¬ R.ok (k, B) ∧ R.put (k, B) = none) := by
  by_cases h : R.ok (k, B)
  · exact .inl ⟨h, R.put_yes h⟩
  · exact .inr ⟨h, R.put_no h⟩

/-- The bytes of records, one behind the other. -/
def R.join (l : List R.T) : Option (List Int) := if ∀ r ∈ l, R.ok r then some (R.all l) else none
/-- What joined returns. -/
def JoinIs (l : List R.T) (w : World) (e : Ending) (w' : World) : Prop :=
  ∃ a' n' cap', e = .returned (.tuple #[.slice a' n' cap', .bool (R.join l).isSome]) ∧ Hid (((R.join l).getD []).length = n') ∧ Hid (RowIn .u8 w' a' cap' ((R.join l).getD [])) ∧ Hid (a' = none → n' = 0 ∧ cap' = 0) ∧ Below w.heap.size w w'

set_option maxRecDepth 100000 in
set_option maxHeartbeats 400000 in
theorem joined_any (a : Option Addr) (n cap : Nat) (xs : List RP) (w : World) (h9 : n ≤ 1000) (hl : xs.length = n) (h : RecsIn w a cap xs) :
    Calls Try.prog 21 #[.slice a n cap] w (JoinIs (RP.recs xs) w) := by
  obtain ⟨i0, hi, hz0, hz1, hz2⟩ := info_parts info5
  have HL := Lib.hid hl
  have HR := Lib.hid h
  have HW0 : Hid (∀ x ∈ xs, C.wf x.2.2.2.2) := Lib.hid (fun x hx => C.lit_wf (h.2.1 x hx).2.1.2.1)
  clear hl h
  go_enter Try.func21, Try.ntmps21
  go_wp2
  go_loopw [4, 5] (fun v i wr => ∃ (k m : Nat), i = .int .i64 k ∧ k ≤ n ∧ m ≤ k * 1007 ∧ Hid (∀ r ∈ RP.recs (xs.take k), R.ok r) ∧ Hid ((R.all (RP.recs (xs.take k))).length = m) ∧ Hid (wr.ownsRow w.heap.size 5 1 v m ((R.all (RP.recs (xs.take k))).map (Value.int .u8))) ∧ Below w.heap.size w wr) (fun _ i _ => n - (intOf i).toNat)
  case atStart => exact ⟨0, 0, rfl, by omega, by omega, Lib.hid (by simp [RP.recs]), Lib.hid (by simp [RP.recs, R.all]), Lib.hid (by simpa [RP.recs, R.all] using World.ownsRow_nil _ _ _ _), Below.refl _ _⟩
  case round =>
    obtain ⟨k, m, rfl, hkn, hm, HT, HM, HO, hB⟩ := hrel
    by_cases hlt : k < n
    · obtain ⟨b1, o1, k1, a1, n1, c1, B1, rfl, hx, p1, p2, l1, r1, z1⟩ := (HR.out.below hB).at (i := k) (by rw [HL.out]; exact hlt)
      have HX := Lib.hid hx
      have L1 := Lib.hid l1
      have R1 := Lib.hid r1
      have Z1 := Lib.hid z1
      have d1 : decide (k < n) = true := by simp; omega
      clear hx l1 r1 z1
      have HBs := hB.size
      rcases put_cases (k := k1) (B := B1) with ⟨hok, hp⟩ | ⟨hok, hp⟩
      · have HP := Lib.hid hp
        have hlen := (R.bytes_big hok).2
        have HOK := Lib.hid hok
        have HBW := Lib.hid (C.wf_lit (R.bytes_wf hok (HW0.out _ (List.mem_of_getElem? HX.out))))
        obtain ⟨g1, g2⟩ := List.getElem?_eq_some_iff.1 HX.out
        have hT : RP.recs (xs.take (k + 1)) = RP.recs (xs.take k) ++ [(k1, B1)] := by
          rw [List.take_succ_eq_append_getElem g1, g2]; simp [RP.recs, RP.rec]
        have HTT := Lib.hid hT
        clear hp hok g1 g2 hT
        go_wp2_with fail
        refine (recPut_any k1 a1 n1 c1 B1 _ L1.out R1.out Z1.out).mono ?_
        rintro e w2 ⟨a2, c2, n2, rfl, l2, r2, z2, hb2⟩
        rw [HP.out] at l2 r2 ⊢
        have hn2 : n2 ≤ 1007 := by rw [← l2.out]; exact hlen
        have HB2 := Lib.hid (hB.trans (hb2.mono hB.size))
        have HO2 := Lib.hid (ownsRow_below HO.out hb2)
        have hs2 := HB2.out.size
        have hsome : (some (R.bytes (k1, B1))).isSome = true := rfl
        clear hb2
        go_wp2_with (at_builtin; refine wpList_append_row _ rfl _ _ 22 rfl w.heap.size 5 i0 (.int .u8 0) 1 Try.underlying22 hi hz0 hz1 hz2 rfl _ m _ rfl HO2.out .u8 a2 n2 c2 (R.bytes (k1, B1)) rfl r2.out l2.out z2.out (by unfold maxLen; omega) (by omega) hs2 ?_; intro v4 w4 hown4 hgrow4; have HB4 : Hid (Below w.heap.size w w4) := Lib.hid (below_appended0 HO2.out hs2 HB2.out hgrow4); have HO4 := Lib.hid hown4; clear hown4 hgrow4)
        go_roundw
        case rel => exact ⟨k + 1, m + n2, by go_num, by omega, by omega, Lib.hid (by rw [HTT.out]; intro r hr; rcases List.mem_append.1 hr with hr | hr; exact HT.out r hr; simp only [List.mem_singleton] at hr; rw [hr]; exact HOK.out), Lib.hid (by rw [HTT.out, R.all_snoc, List.length_append, HM.out]; exact congrArg _ l2.out), Lib.hid (by rw [HTT.out, R.all_snoc, List.map_append]; exact HO4.out), HB4.out⟩
        case measure => simp [intOf]; omega
      · have HP := Lib.hid hp
        have HJ : Hid (R.join (RP.recs xs) = none) := Lib.hid (by
          unfold R.join
          rw [if_neg]
          intro h
          exact hok (h _ (List.mem_map.2 ⟨_, List.mem_of_getElem? HX.out, rfl⟩)))
        clear hp hok
        go_wp2_with fail
        refine (recPut_any k1 a1 n1 c1 B1 _ L1.out R1.out Z1.out).mono ?_
        rintro e w2 ⟨a2, c2, n2, rfl, l2, r2, z2, hb2⟩
        rw [HP.out]
        have W2 := Lib.hid (hB.trans (hb2.mono hB.size))
        clear hb2
        go_wp2
        go_ret2
        exact ⟨none, 0, 0, by rw [HJ.out]; rfl, by rw [HJ.out]; exact Lib.hid rfl, by rw [HJ.out]; exact Lib.hid (row_nil _ _), Lib.hid (fun _ => ⟨rfl, rfl⟩), W2.out⟩
    · have hd : decide (k < n) = false := by simp; omega
      have hT : xs.take k = xs := List.take_of_length_le (by rw [HL.out]; omega)
      rw [hT] at HT HM HO
      have HJ : Hid (R.join (RP.recs xs) = some (R.all (RP.recs xs))) := Lib.hid (by unfold R.join; rw [if_pos HT.out])
      have HWF : Hid (∀ c ∈ R.all (RP.recs xs), (Lit.int .u8 c).wf = true) := Lib.hid (by
        refine C.wf_lit fun c hc => ?_
        obtain ⟨r, hr, hc⟩ := List.mem_flatMap.1 hc
        obtain ⟨x, hx, rfl⟩ := List.mem_map.1 hr
        exact R.bytes_wf (HT.out _ hr) (HW0.out x hx) c hc)
      clear hT
      go_wp2
      go_ret2
      obtain ⟨a4, c4, rfl, r4, z4⟩ := own_row3 HO.out HWF.out
      exact ⟨a4, m, c4, by rw [HJ.out]; rfl, by rw [HJ.out]; exact HM, by rw [HJ.out]; exact Lib.hid r4, Lib.hid z4, hB⟩
end Go.Proofs.Ytnpgjndhkmpciaa
