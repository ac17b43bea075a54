/-
  Walk of the document's Scan, at every slice of bytes.
-/
import Derived.Test.YtnpgjndhkmpciaaRScanM
import Derived.Test.YtnpgjndhkmpciaaRRefGet
namespace Go.Proofs.Ytnpgjndhkmpciaa
open Go.RowKit

set_option maxRecDepth 100000 in
set_option maxHeartbeats 400000 in
theorem refScan_any (a : Option Addr) (len cap : Nat) (L : List Int) (w : World) (h9 : len ≤ 90000) (hl : L.length = len) (h : RowIn .u8 w a cap L) :
    Calls Try.prog 17 #[.slice a len cap] w (ScanIs L w) := by
  obtain ⟨i0, hi, hz0, hz1, hz2⟩ := info_parts info_rec2
  have HL := Lib.hid hl
  have HR := Lib.hid h
  have HW := Lib.hid (C.lit_wf h.2.1)
  clear hl h
  go_enter Try.func17, Try.ntmps17
  go_wp2
  go_loopw [4, 5] (fun v i wr => ∃ (p n : Nat) (xs : List RP), i = .int .i64 (p : Int) ∧ p ≤ len ∧ 6 * n ≤ p ∧ Hid (xs.length = n) ∧ Hid (R.Part L (RP.recs xs) p) ∧ Hid (wr.ownsRow w.heap.size 24 2 v n (RP.flat xs)) ∧ Hid (∀ x ∈ xs, RP.ok wr x ∧ InB wr x.2.1) ∧ Hid (Below w.heap.size w wr)) (fun _ i _ => len - (intOf i).toNat)
  case atStart => exact ⟨0, 0, [], rfl, by omega, by omega, Lib.hid rfl, Lib.hid (R.Part.start _), Lib.hid (World.ownsRow_nil _ _ _ _), Lib.hid (by simp), Lib.hid (Below.refl _ _)⟩
  case round =>
    obtain ⟨p, n, xs, rfl, hp, hn6, HN, HP, HO, HK, HB⟩ := hrel
    rcases R.at_place HW.out HP.out with ⟨e, he, hg, hd⟩ | ⟨r, s, hg, hpt, hs6, hle⟩
    · have HG := Lib.hid hg
      have HD := Lib.hid hd
      have e1 : (e == 0) = false := by simpa using he
      have e2 : (e != 0) = true := by simpa using he
      clear hg hd he
      go_wp2_with fail
      refine (refRecGet_any a len cap p L _ h9 HL.out (HR.out.below HB.out)).mono ?_
      rintro e9 w2 hget
      obtain ⟨⟨k2, a2, n2, c2, B2⟩, rfl, hx, hok, hin, hb2⟩ := hget.place
      rw [HG.out]
      have hO2 := ownsRow_below HO.out hb2
      have hK2 : ∀ x ∈ xs, RP.ok w2 x ∧ InB w2 x.2.1 := fun x hx => ⟨(HK.out x hx).1.below hb2, (HK.out x hx).2.below hb2⟩
      have HO3 := Lib.hid (ownsRow_below hO2 (recBox_below w2 k2 a2 n2 c2))
      have HK3 : Hid (∀ x ∈ xs, RP.ok (recBox w2 k2 a2 n2 c2) x ∧ InB (recBox w2 k2 a2 n2 c2) x.2.1) := Lib.hid (fun x hx => ⟨(hK2 x hx).1.below (recBox_below w2 k2 a2 n2 c2), (hK2 x hx).2.below (recBox_below w2 k2 a2 n2 c2)⟩)
      have HB3 : Hid (Below w.heap.size w (recBox w2 k2 a2 n2 c2)) := Lib.hid ((HB.out.trans (hb2.mono HB.out.size)).alloc (by have := HB.out.size; have := hb2.size; omega) _)
      clear hb2 hget hx hok hin hO2 hK2
      go_wp2
      go_ret2
      exact .mk HD.out HN.out HO3.out HK3.out HB3.out
    · have HG := Lib.hid hg
      have HPT := Lib.hid hpt
      have hle2 : p + s ≤ len := by rw [← HL.out]; exact hle
      clear hg hpt hle
      go_wp2_with fail
      refine (refRecGet_any a len cap p L _ h9 HL.out (HR.out.below HB.out)).mono ?_
      rintro e9 w2 hget
      obtain ⟨⟨k2, a2, n2, c2, B2⟩, rfl, hx, hok, hin, hb2⟩ := hget.place
      rw [HG.out] at hx ⊢
      have HX := Lib.hid hx.out
      have HO2 := Lib.hid (ownsRow_below HO.out hb2)
      have HK2 : Hid (∀ y ∈ xs ++ [(k2, a2, n2, c2, B2)], RP.ok w2 y ∧ InB w2 y.2.1) := Lib.hid (fun y hy => by
        rcases List.mem_append.1 hy with hy | hy
        · exact ⟨(HK.out y hy).1.below hb2, (HK.out y hy).2.below hb2⟩
        · simp only [List.mem_singleton] at hy; rw [hy]; exact ⟨hok.out, hin.out⟩)
      have HB2 := Lib.hid (HB.out.trans (hb2.mono HB.out.size))
      have hs2 := HB2.out.size
      clear hb2 hget hx hok hin
      go_wp2_with (at_builtin; refine wpList_append_own _ rfl _ _ 27 rfl w.heap.size 24 i0 (.agg #[.int .i64 0, .slice none 0 0]) 2 32 Try.underlying27 hi hz0 hz1 hz2 rfl (by decide) _ n (RP.flat xs) rfl ((ownsRow_below HO2.out (recBox_below w2 k2 a2 n2 c2)).alloc _) ⟨w2.heap.size + 1, 0, none⟩ 1 1 [.int .i64 k2, .slice a2 n2 c2] rfl rfl (World.news_of_block (cs := #[.int .i64 k2, .slice a2 n2 c2]) (new_second w2 _ _)) (by simp [Value.oneCell']) (by unfold maxLen; omega) (by omega) (by simp; omega) ?_; intro v4 w4 hown4 hgrow4 _; have HO4 := Lib.hid hown4; have HG4 := Lib.hid hgrow4; clear hown4 hgrow4)
      have hbx : Below w2.heap.size w2 ((recBox w2 k2 a2 n2 c2).alloc (.cells #[.int .i64 k2, .slice a2 n2 c2] 24)) := (recBox_below w2 k2 a2 n2 c2).alloc (recBox_below w2 k2 a2 n2 c2).size _
      have HB4 : Hid (Below w.heap.size w w4) := Lib.hid ((HB2.out.trans (hbx.mono HB2.out.size)).grown HG4.out (by have := hbx.size; omega) (fun g eg => ((HO2.out).lt g eg).1))
      go_roundw
      case rel => exact ⟨p + s, n + 1, xs ++ [(k2, a2, n2, c2, B2)], by go_num, hle2, by omega, Lib.hid (by simp [HN.out]), Lib.hid (by rw [RP.recs_snoc, HX.out]; exact HPT.out), Lib.hid (by rw [RP.flat_snoc]; exact HO4.out), Lib.hid (by have h2 := HO2.out; rw [← HN.out] at h2; exact scan_next h2 HK2.out hbx HG4.out), HB4⟩
      case measure => simp [intOf]; omega
end Go.Proofs.Ytnpgjndhkmpciaa
