/-
  A walk of (*wheel.ring).due.
-/
import Derived.Test.YtmegkfonodcoiaaWLay
namespace Go.Proofs.Ytmegkfonodcoiaa
open Go.RowKit

def W.on (f t : Int) (x : W.Tm) : Bool := decide (f < x.2 ∧ x.2 ≤ t)
theorem W.meets_next (f t : Int) (l : List W.Tm) (m k : Nat) (hk : (k : Int) = (f + 1 + (m : Int)) % 16) : W.meets f t l (m + 1) = W.meets f t l m ++ (W.slot (k : Int) l).filter (W.on f t) := by
  rw [W.meets_succ, ← hk]; rfl
theorem W.meets_len (f t : Int) (l : List W.Tm) (m : Nat) (hm : m ≤ 16) : (W.meets f t l m).length ≤ l.length := by
  rw [(W.meets_perm f t l m hm).length_eq]; exact List.length_filter_le _ _
theorem filter_snoc {l : List W.Tm} {j : Nat} {x : W.Tm} (p : W.Tm → Bool) (hx : l[j]? = some x) : (l.take (j + 1)).filter p = (l.take j).filter p ++ (if p x then [x] else []) := by
  obtain ⟨h1, h2⟩ := List.getElem?_eq_some_iff.1 hx
  rw [List.take_succ_eq_append_getElem h1, h2, List.filter_append]
  by_cases h : p x = true
  · simp [h]
  · simp [h]

set_option maxRecDepth 100000 in
set_option maxHeartbeats 1000000 in
theorem due_any (B rb : Nat) (ff tt : Int) (T R : List W.Tm) (vs : Array Value) (w : World) (hr : Blok w rb 47 vs) (h : RowsIn B T vs w) (hf : 0 ≤ ff) (hft : ff ≤ tt) (ht : tt ≤ 1073741824) (hl : T.length ≤ 900)
    (hids : W.Ids T) (hR : W.Asc R) (hP : R.Perm (T.filter (W.on ff tt))) :
    Calls Try.prog 29 #[.pointer (some ⟨rb, 0, none⟩), .int .i64 ff, .int .i64 tt] w fun e w' => ∃ v, e = .returned v ∧ Hid (w'.ownsRow w.heap.size 40 2 v R.length (W.flat R)) ∧ Below w.heap.size w w' := by
  have HR0 := Lib.hid hr
  have HW0 := Lib.hid h
  have HIDS := Lib.hid hids
  have HRA := Lib.hid hR
  have HRP := Lib.hid hP
  obtain ⟨M, hM⟩ : ∃ M, min tt (ff + 16) = M := ⟨_, rfl⟩
  have hMM : M = tt ∧ tt ≤ ff + 16 ∨ M = ff + 16 ∧ ff + 16 ≤ tt := by omega
  have HMM := Lib.hid hMM
  have hM0 : ff ≤ M ∧ M ≤ ff + 16 := by omega
  clear hr h hids hR hP hMM
  go_enter Try.func29, Try.ntmps29
  go_wp2_with fail
  go_loopw [7, 8] (fun s7 s8 wr => ∃ (v : Value) (m : Nat), v = s7 ∧ s8 = .int .i64 (ff + 1 + (m : Int)) ∧ ff + (m : Int) ≤ M ∧ Hid (wr.ownsRow w.heap.size 40 2 v (W.meets ff tt T m).length (W.flat (W.meets ff tt T m))) ∧ Hid (Below w.heap.size w wr)) (fun _ s8 _ => (M + 1 - intOf s8).toNat)
  case atStart => exact ⟨_, 0, rfl, by go_num, by omega, Lib.hid (World.ownsRow_nil _ _ _ _), Lib.hid (Below.refl _ _)⟩
  case round =>
    obtain ⟨v0, m, rfl, rfl, hmM, HO, HB⟩ := hrel
    by_cases hlt : ff + 1 + (m : Int) ≤ M
    · have d1 : decide (ff + 1 + (m : Int) ≤ M) = true := decide_eq_true hlt
      obtain ⟨N, hN⟩ : ∃ N : Nat, ff + 1 + (m : Int) = (N : Int) := ⟨(ff + 1 + (m : Int)).toNat, by omega⟩
      obtain ⟨k, hk⟩ : ∃ k, N % 16 = k := ⟨_, rfl⟩
      have hand : bits .and .i64 (ff + 1 + (m : Int)) 15 = (k : Int) := by rw [hN, and15 N (by omega), hk]
      have hk16 : k < 16 := by omega
      have HK : Hid ((k : Int) = (ff + 1 + (m : Int)) % 16) := Lib.hid (by rw [hN]; omega)
      have k0 : (0 : Int) ≤ (k : Int) := by omega
      have k1 : (k : Int) < 16 := by omega
      clear hN hk
      have HR := Lib.hid (HR0.out.on' (HB.out.mono (Nat.le_refl _)))
      have hrow := HW0.out.2.1 k hk16
      obtain ⟨a, c, hv⟩ := ownT_form hrow
      have hvk : vs[k]? = some (.slice a (W.slot (k : Int) T).length c) := by rw [← hv, getElem!_pos vs k (by rw [HW0.out.1]; exact hk16)]; simp
      have r0 : wr.cell? ⟨rb, k, none⟩ = some (.slice a (W.slot (k : Int) T).length c) := by rw [HR.out.cell]; exact hvk
      obtain ⟨a', c', he, htin⟩ := own_timers hrow rfl
      rw [hv] at he
      cases he
      have HT0 := Lib.hid htin
      clear htin hrow hv hvk
      obtain ⟨S, hS⟩ : ∃ S, W.slot (k : Int) T = S := ⟨_, rfl⟩
      rw [hS] at r0 HT0
      have HS := Lib.hid hS
      have hSl : S.length ≤ 900 := by rw [← hS]; exact Nat.le_trans (List.length_filter_le _ _) hl
      clear hS
      obtain ⟨L, hL⟩ : ∃ L, S.length = L := ⟨_, rfl⟩
      rw [hL] at r0 HT0 hSl
      have HL := Lib.hid hL
      clear hL
      go_wp2_with fail
      clear r0
      obtain ⟨wo, rfl⟩ : ∃ w0, w0 = wr := ⟨_, rfl⟩
      go_loopw [7, 28] (fun s7 s28 wx => ∃ (v : Value) (j q : Nat), v = s7 ∧ s28 = .int .i64 j ∧ j ≤ L ∧ q ≤ 900 + j ∧ Hid ((W.meets ff tt T m ++ (S.take j).filter (W.on ff tt)).length = q) ∧ Hid (wx.ownsRow w.heap.size 40 2 v q (W.flat (W.meets ff tt T m ++ (S.take j).filter (W.on ff tt)))) ∧ Hid (Below w.heap.size w wx)) (fun _ i _ => L - (intOf i).toNat)
      case atStart => exact ⟨v0, 0, (W.meets ff tt T m).length, rfl, by go_num, by omega, by have := W.meets_len ff tt T m (by omega); omega, Lib.hid (by simp), Lib.hid (by simpa using HO.out), HB⟩
      case round =>
        obtain ⟨v, j, q, rfl, rfl, hjL, hq9, HQ, HOx, HBx⟩ := hrel
        by_cases hjl : j < L
        · have dj : decide ((j : Int) < L) = true := by simp; omega
          obtain ⟨b, off, x, rfl, hbl, hx, p1, p2⟩ := (HT0.out.below HBx.out).at hjl
          have HX := Lib.hid hx
          have j0 : (0 : Int) ≤ j := by omega
          have j1 : (j : Int) < L := by omega
          have TB := Lib.hid (tbox_below wr x)
          have TK := Lib.hid (tbox_blok wr x)
          have HBt := Lib.hid (HBx.out.trans (TB.out.mono HBx.out.size))
          have HOt := Lib.hid (ownsRow_below HOx.out TB.out)
          have b0 := TK.out.b0
          have b1 := TK.out.b1
          unfold tbox at b0 b1
          have hsn := filter_snoc (W.on ff tt) hx
          clear hx
          by_cases hon : ff < x.2 ∧ x.2 ≤ tt
          · have o1 : decide (ff < x.2) = true := decide_eq_true hon.1
            have o2 : decide (x.2 ≤ tt) = true := decide_eq_true hon.2
            have HS2 : Hid (W.meets ff tt T m ++ (S.take (j + 1)).filter (W.on ff tt) = (W.meets ff tt T m ++ (S.take j).filter (W.on ff tt)) ++ [x]) := Lib.hid (by
              rw [hsn, show W.on ff tt x = true from decide_eq_true hon, List.append_assoc]; rfl)
            clear hsn
            obtain ⟨acc, hacc⟩ : ∃ acc, W.meets ff tt T m ++ (S.take j).filter (W.on ff tt) = acc := ⟨_, rfl⟩
            rw [hacc] at HQ HOt HS2
            have hqa : acc.length = q := HQ.out
            clear hacc
            go_upto_region 9 with fail
            obtain ⟨V, hV⟩ : ∃ V, wr.alloc (.cells #[.int .i64 x.1, .int .i64 x.2] 40) = V := ⟨_, rfl⟩
            rw [hV] at b0 b1 ⊢
            have HOV : Hid (V.ownsRow w.heap.size 40 2 v q (W.flat acc)) := Lib.hid (by rw [← hV]; exact HOt.out)
            have HBV : Hid (Below w.heap.size w V) := Lib.hid (by rw [← hV]; exact HBt.out)
            clear hV
            go_wp2_with (at_builtin; refine wpList_appendT rfl (.tmp 42) (.tmp 44) 55 rfl Try.underlying55 w.heap.size v q acc x (by simp [Act.eval]) (ownsRow_below HOV.out ((Below.refl _ V).alloc (Nat.le_refl _) _)) V.heap.size 40 (by simp [Act.eval]) (Blok.new V _ _) (by omega) (Nat.le_trans HBV.out.size (by simp)) ?_; intro g cap w3 h1 h2 h3 h4)
            have HB3 : Hid (Below w.heap.size w w3) := Lib.hid ((HBV.out.alloc HBV.out.size _).grown h2 (Nat.le_trans HBV.out.size (by simp)) (fun i hi => (ownT_lt HOV.out hi).1))
            have H1 := Lib.hid h1
            clear h1 h2 h3 h4
            go_wp2
            go_roundw
            case rel => exact ⟨_, j + 1, q + 1, rfl, by go_num, by omega, by omega, Lib.hid (by rw [HS2.out]; simp [hqa]), by rw [HS2.out]; exact H1, HB3⟩
            case measure => simp [intOf] <;> omega
          · have HS2 : Hid (W.meets ff tt T m ++ (S.take (j + 1)).filter (W.on ff tt) = W.meets ff tt T m ++ (S.take j).filter (W.on ff tt)) := Lib.hid (by
              rw [hsn, show W.on ff tt x = false from decide_eq_false hon]; simp)
            clear hsn
            rw [← HS2.out] at HQ HOt
            by_cases o1 : ff < x.2
            · have o1' : decide (ff < x.2) = true := decide_eq_true o1
              have o2 : decide (x.2 ≤ tt) = false := decide_eq_false (fun h => hon ⟨o1, h⟩)
              go_wp2
              go_roundw
              case rel => exact ⟨_, j + 1, q, rfl, by go_num, by omega, by omega, HQ, HOt, HBt⟩
              case measure => simp [intOf] <;> omega
            · have o1' : decide (ff < x.2) = false := decide_eq_false o1
              go_wp2
              go_roundw
              case rel => exact ⟨_, j + 1, q, rfl, by go_num, by omega, by omega, HQ, HOt, HBt⟩
              case measure => simp [intOf] <;> omega
        · have dj : decide ((j : Int) < L) = false := by simp; omega
          have htk : S.take j = S := List.take_of_length_le (by rw [HL.out]; omega)
          rw [htk] at HQ HOx
          have HM2 : Hid (W.meets ff tt T (m + 1) = W.meets ff tt T m ++ S.filter (W.on ff tt)) := Lib.hid (by rw [W.meets_next ff tt T m k HK.out, HS.out])
          rw [← HM2.out] at HQ HOx
          rw [← HQ.out] at HOx
          go_wp2
          go_roundw
          case rel => exact ⟨_, m + 1, rfl, by go_num, by omega, HOx, HBx⟩
          case measure => simp [intOf] <;> omega
    · have d1 : decide (ff + 1 + (m : Int) ≤ M) = false := decide_eq_false hlt
      have hperm := W.meets_all ff tt T m (by have := HMM.out; omega)
      obtain ⟨q, hq⟩ : ∃ q, (W.meets ff tt T m).length = q := ⟨_, rfl⟩
      have hq9 : q ≤ 900 := by rw [← hq, hperm.length_eq]; exact Nat.le_trans (List.length_filter_le _ _) hl
      rw [hq] at HO
      have hs := sortT_any v0 q w.heap.size (W.meets ff tt T m) wr HO.out hq (by omega)
      have HPM : Hid ((W.meets ff tt T m).Perm (T.filter (W.on ff tt))) := Lib.hid hperm
      have HQ := Lib.hid hq
      clear hperm hq
      go_wp2_with fail
      refine hs.mono ?_
      rintro e w3 ⟨rfl, K, HK, HOK, HGK⟩
      have HE : Hid (K = R) := Lib.hid (by
        have h1 : K.Perm (T.filter (W.on ff tt)) := HK.out.1.trans HPM.out
        have h2 : W.Ids K := (HIDS.out.filter _).perm h1.symm
        exact W.asc_eq (W.weak_asc h2 HK.out.2) HRA.out (h1.trans HRP.out.symm))
      have hKl : K.length = q := by rw [HK.out.1.length_eq]; exact HQ.out
      have HB3 : Hid (Below w.heap.size w w3) := Lib.hid (HB.out.grown HGK.out HB.out.size (fun i hi => (ownT_lt HO.out hi).1))
      clear hs
      go_wp2
      go_ret
      refine ⟨v0, rfl, ?_, HB3.out⟩
      rw [← HE.out, hKl]
      exact HOK
end Go.Proofs.Ytmegkfonodcoiaa
