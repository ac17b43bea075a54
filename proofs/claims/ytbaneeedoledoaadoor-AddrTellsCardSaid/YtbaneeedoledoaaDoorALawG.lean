/-
  AddrTells, at every two prefixes, place, address and text.
-/
import Derived.Test.YtbaneeedoledoaaDoorAAwake
import Derived.Test.YtbaneeedoledoaaDoorARefRA
import Derived.Test.YtbaneeedoledoaaDoorARefText
import Derived.Test.YtbaneeedoledoaaDoorARefRead
import Derived.Test.YtbaneeedoledoaaDoorARefPre
namespace Go.Proofs.YtbaneeedoledoaaDoor
open Go.RowKit

set_option maxHeartbeats 2000000 in
theorem tells_in (b k c j i a : Int) (s : ByteArray) (w : World) (hL : Laid w) (ha : a ≤ 9223372036854775807) (hb0 : b ≤ 9223372036854775807) (hc0 : c ≤ 9223372036854775807) :
    Calls Tryd.prog 3 #[.agg #[.int .i64 b, .int .i64 k], .agg #[.int .i64 c, .int .i64 j], .int .i64 i, .int .i64 a, .string s] w fun e w' => e = .returned (.bool true) ∧ Below w.heap.size w w' := by
  have HL := Lib.hid hL
  have HB0 := Lib.hid (pbox2_below w b k c j)
  have HKp0 := Lib.hid (pbox2_a w b k c j)
  have HKq0 := Lib.hid (pbox2_b w b k c j)
  by_cases hz : s.size ≤ 60
  · have dz : decide (60 < (s.size : Int)) = false := decide_eq_false (by omega)
    obtain ⟨nv, hnv⟩ : ∃ z, A.nthV b k i = z := ⟨_, rfl⟩
    have Hnv := Lib.hid hnv
    clear hnv
    obtain ⟨nd, hnd⟩ : ∃ z, A.nthB b k i = z := ⟨_, rfl⟩
    have Hnd := Lib.hid hnd
    clear hnd
    obtain ⟨r, hr⟩ : ∃ z, A.adr s.data.toList = z := ⟨_, rfl⟩
    have Hr := Lib.hid hr
    clear hr
    obtain ⟨rd, hrd⟩ : ∃ z, A.isA s.data.toList = z := ⟨_, rfl⟩
    have Hrd := Lib.hid hrd
    clear hrd
    obtain ⟨pb, hpb⟩ : ∃ z, A.prB s.data.toList = z := ⟨_, rfl⟩
    have Hpb := Lib.hid hpb
    clear hpb
    obtain ⟨pk, hpk⟩ : ∃ z, A.prK s.data.toList = z := ⟨_, rfl⟩
    have Hpk := Lib.hid hpk
    clear hpk
    obtain ⟨pd, hpd⟩ : ∃ z, A.isP s.data.toList = z := ⟨_, rfl⟩
    have Hpd := Lib.hid hpd
    clear hpd
    obtain ⟨my, hmy⟩ : ∃ z, A.may b k = z := ⟨_, rfl⟩
    have Hmy := Lib.hid hmy
    clear hmy
    obtain ⟨mt, hmt⟩ : ∃ z, A.meet b k c j = z := ⟨_, rfl⟩
    have Hmt := Lib.hid hmt
    clear hmt
    obtain ⟨sz, hsz⟩ : ∃ z, A.size b k = z := ⟨_, rfl⟩
    have Hsz := Lib.hid hsz
    clear hsz
    obtain ⟨ix, hix⟩ : ∃ z, A.idx b k a = z := ⟨_, rfl⟩
    have Hix := Lib.hid hix
    clear hix
    obtain ⟨tx, htx⟩ : ∃ z, A.txt a = z := ⟨_, rfl⟩
    have Htx := Lib.hid htx
    clear htx
    obtain ⟨ta, hta⟩ : ∃ z, A.txtAll b k = z := ⟨_, rfl⟩
    have Hta := Lib.hid hta
    clear hta
    obtain ⟨t, ht⟩ : ∃ t, str tx = t := ⟨_, rfl⟩
    obtain ⟨u, hu⟩ : ∃ t, str ta = t := ⟨_, rfl⟩
    have HT1 : Hid (∀ W, Laid W → Calls Tryd.prog 25 #[.int .i64 a] W fun e w' => e = .returned (.string t) ∧ Below W.heap.size W w') := Lib.hid (fun W hW => by rw [← ht]; exact text_any a _ W hW Htx.out)
    have HT2 : Hid (∀ W, Calls Tryd.prog 26 #[.int .i64 a] W fun e w' => e = .returned (.string t) ∧ Below W.heap.size W w') := Lib.hid (fun W => by rw [← ht]; exact refText_any a _ W Htx.out)
    have HT3 : Hid (∀ W, Laid W → Calls Tryd.prog 27 #[.agg #[.int .i64 b, .int .i64 k]] W fun e w' => e = .returned (.string u) ∧ Below W.heap.size W w') := Lib.hid (fun W hW => by rw [← hu]; exact textAll_any b k _ W hW Hta.out)
    have HT4 : Hid (∀ W, Calls Tryd.prog 28 #[.agg #[.int .i64 b, .int .i64 k]] W fun e w' => e = .returned (.string u) ∧ Below W.heap.size W w') := Lib.hid (fun W => by rw [← hu]; exact refTextAll_any b k _ W Hta.out)
    clear ht hu
    clear hL
    go_enter Tryd.func3, Tryd.ntmps3
    go_wp2_with fail
    refine (awake_any (pbox2 w b k c j) (HL.out.below HB0.out)).mono ?_
    rintro e w1 ⟨rfl, hb⟩
    have hkp := HKp0.out.below hb HKp0.out.lt
    have HKp1 := Lib.hid hkp
    have pf0 := pb0 hkp
    have pf1 := pb1 hkp
    have hkq := HKq0.out.below hb HKq0.out.lt
    have HKq1 := Lib.hid hkq
    have qf0 := pb0 hkq
    have qf1 := pb1 hkq
    have HB1 := Lib.hid (HB0.out.trans (hb.mono HB0.out.size))
    clear hb hkp hkq
    go_wp2_with fail
    refine (nth_any b k i nv nd w1 Hnv.out Hnd.out).mono ?_
    clear pf0 pf1 qf0 qf1
    rintro e w2 ⟨rfl, hb⟩
    have hkp := HKp1.out.below hb HKp1.out.lt
    have HKp2 := Lib.hid hkp
    have pf0 := pb0 hkp
    have pf1 := pb1 hkp
    have hkq := HKq1.out.below hb HKq1.out.lt
    have HKq2 := Lib.hid hkq
    have qf0 := pb0 hkq
    have qf1 := pb1 hkq
    have HB2 := Lib.hid (HB1.out.trans (hb.mono HB1.out.size))
    clear hb hkp hkq
    go_wp2_with fail
    refine (refNth7_any b k i nv nd w2 Hnv.out Hnd.out).mono ?_
    clear pf0 pf1 qf0 qf1
    rintro e w3 ⟨rfl, hb⟩
    have hkp := HKp2.out.below hb HKp2.out.lt
    have HKp3 := Lib.hid hkp
    have pf0 := pb0 hkp
    have pf1 := pb1 hkp
    have hkq := HKq2.out.below hb HKq2.out.lt
    have HKq3 := Lib.hid hkq
    have qf0 := pb0 hkq
    have qf1 := pb1 hkq
    have HB3 := Lib.hid (HB2.out.trans (hb.mono HB2.out.size))
    clear hb hkp hkq
    go_wp2_with fail
    refine (read_any s r rd w3 (HL.out.below HB3.out) (by omega) Hr.out Hrd.out).mono ?_
    clear pf0 pf1 qf0 qf1
    rintro e w4 ⟨rfl, hb⟩
    have hkp := HKp3.out.below hb HKp3.out.lt
    have HKp4 := Lib.hid hkp
    have pf0 := pb0 hkp
    have pf1 := pb1 hkp
    have hkq := HKq3.out.below hb HKq3.out.lt
    have HKq4 := Lib.hid hkq
    have qf0 := pb0 hkq
    have qf1 := pb1 hkq
    have HB4 := Lib.hid (HB3.out.trans (hb.mono HB3.out.size))
    clear hb hkp hkq
    go_wp2_with fail
    refine (refRead_any s r rd w4 (by omega) Hr.out Hrd.out).mono ?_
    clear pf0 pf1 qf0 qf1
    rintro e w5 ⟨rfl, hb⟩
    have hkp := HKp4.out.below hb HKp4.out.lt
    have HKp5 := Lib.hid hkp
    have pf0 := pb0 hkp
    have pf1 := pb1 hkp
    have hkq := HKq4.out.below hb HKq4.out.lt
    have HKq5 := Lib.hid hkq
    have qf0 := pb0 hkq
    have qf1 := pb1 hkq
    have HB5 := Lib.hid (HB4.out.trans (hb.mono HB4.out.size))
    clear hb hkp hkq
    go_wp2_with fail
    refine (readAll_any s pb pk pd w5 (HL.out.below HB5.out) (by omega) Hpb.out Hpk.out Hpd.out).mono ?_
    clear pf0 pf1 qf0 qf1
    rintro e w6 ⟨rfl, hb⟩
    have hkp := HKp5.out.below hb HKp5.out.lt
    have HKp6 := Lib.hid hkp
    have pf0 := pb0 hkp
    have pf1 := pb1 hkp
    have hkq := HKq5.out.below hb HKq5.out.lt
    have HKq6 := Lib.hid hkq
    have qf0 := pb0 hkq
    have qf1 := pb1 hkq
    have HB6 := Lib.hid (HB5.out.trans (hb.mono HB5.out.size))
    clear hb hkp hkq
    have hb := pbox_below w6 pb pk
    have HKp7 := Lib.hid (HKp6.out.below hb HKp6.out.lt)
    have pua0 := fun o => pb0 (HKp6.out.alloc o)
    have pua1 := fun o => pb1 (HKp6.out.alloc o)
    have HKq7 := Lib.hid (HKq6.out.below hb HKq6.out.lt)
    have qua0 := fun o => pb0 (HKq6.out.alloc o)
    have qua1 := fun o => pb1 (HKq6.out.alloc o)
    have HKu7 := Lib.hid (pbox_blok w6 pb pk)
    have HB7 := Lib.hid (HB6.out.trans (hb.mono HB6.out.size))
    clear hb
    go_wp2_with fail
    refine (refReadAll_any s pb pk pd (pbox w6 pb pk) (by omega) Hpb.out Hpk.out Hpd.out).mono ?_
    clear pf0 pf1 qf0 qf1 pua0 pua1 qua0 qua1
    rintro e w8 ⟨rfl, hb⟩
    have hkp := HKp7.out.below hb HKp7.out.lt
    have HKp8 := Lib.hid hkp
    have pf0 := pb0 hkp
    have pf1 := pb1 hkp
    have hkq := HKq7.out.below hb HKq7.out.lt
    have HKq8 := Lib.hid hkq
    have qf0 := pb0 hkq
    have qf1 := pb1 hkq
    have hku := HKu7.out.below hb HKu7.out.lt
    have HKu8 := Lib.hid hku
    have uf0 := pb0 hku
    have uf1 := pb1 hku
    have HB8 := Lib.hid (HB7.out.trans (hb.mono HB7.out.size))
    clear hb hkp hkq hku
    have hb := pbox_below w8 pb pk
    have HKp9 := Lib.hid (HKp8.out.below hb HKp8.out.lt)
    have pva0 := fun o => pb0 (HKp8.out.alloc o)
    have pva1 := fun o => pb1 (HKp8.out.alloc o)
    have HKq9 := Lib.hid (HKq8.out.below hb HKq8.out.lt)
    have qva0 := fun o => pb0 (HKq8.out.alloc o)
    have qva1 := fun o => pb1 (HKq8.out.alloc o)
    have HKu9 := Lib.hid (HKu8.out.below hb HKu8.out.lt)
    have uva0 := fun o => pb0 (HKu8.out.alloc o)
    have uva1 := fun o => pb1 (HKu8.out.alloc o)
    have HKv9 := Lib.hid (pbox_blok w8 pb pk)
    have HB9 := Lib.hid (HB8.out.trans (hb.mono HB8.out.size))
    clear hb
    go_wp2_with fail
    refine (refMay7_any b k my (pbox w8 pb pk) Hmy.out).mono ?_
    clear pf0 pf1 qf0 qf1 uf0 uf1 pva0 pva1 qva0 qva1 uva0 uva1
    rintro e w10 ⟨rfl, hb⟩
    have hkp := HKp9.out.below hb HKp9.out.lt
    have HKp10 := Lib.hid hkp
    have pf0 := pb0 hkp
    have pf1 := pb1 hkp
    have hkq := HKq9.out.below hb HKq9.out.lt
    have HKq10 := Lib.hid hkq
    have qf0 := pb0 hkq
    have qf1 := pb1 hkq
    have hku := HKu9.out.below hb HKu9.out.lt
    have HKu10 := Lib.hid hku
    have uf0 := pb0 hku
    have uf1 := pb1 hku
    have hkv := HKv9.out.below hb HKv9.out.lt
    have HKv10 := Lib.hid hkv
    have vf0 := pb0 hkv
    have vf1 := pb1 hkv
    have HB10 := Lib.hid (HB9.out.trans (hb.mono HB9.out.size))
    clear hb hkp hkq hku hkv
    go_wp2_with fail
    refine (refMeet7_any b k c j mt w10 Hmt.out hb0 hc0).mono ?_
    clear pf0 pf1 qf0 qf1 uf0 uf1 vf0 vf1
    rintro e w11 ⟨rfl, hb⟩
    have hkp := HKp10.out.below hb HKp10.out.lt
    have HKp11 := Lib.hid hkp
    have pf0 := pb0 hkp
    have pf1 := pb1 hkp
    have hkq := HKq10.out.below hb HKq10.out.lt
    have HKq11 := Lib.hid hkq
    have qf0 := pb0 hkq
    have qf1 := pb1 hkq
    have hku := HKu10.out.below hb HKu10.out.lt
    have HKu11 := Lib.hid hku
    have uf0 := pb0 hku
    have uf1 := pb1 hku
    have hkv := HKv10.out.below hb HKv10.out.lt
    have HKv11 := Lib.hid hkv
    have vf0 := pb0 hkv
    have vf1 := pb1 hkv
    have HB11 := Lib.hid (HB10.out.trans (hb.mono HB10.out.size))
    clear hb hkp hkq hku hkv
    go_wp2_with fail
    refine (may_any b k my w11 Hmy.out).mono ?_
    clear pf0 pf1 qf0 qf1 uf0 uf1 vf0 vf1
    rintro e w12 ⟨rfl, hb⟩
    have hkp := HKp11.out.below hb HKp11.out.lt
    have HKp12 := Lib.hid hkp
    have pf0 := pb0 hkp
    have pf1 := pb1 hkp
    have hkq := HKq11.out.below hb HKq11.out.lt
    have HKq12 := Lib.hid hkq
    have qf0 := pb0 hkq
    have qf1 := pb1 hkq
    have hku := HKu11.out.below hb HKu11.out.lt
    have HKu12 := Lib.hid hku
    have uf0 := pb0 hku
    have uf1 := pb1 hku
    have hkv := HKv11.out.below hb HKv11.out.lt
    have HKv12 := Lib.hid hkv
    have vf0 := pb0 hkv
    have vf1 := pb1 hkv
    have HB12 := Lib.hid (HB11.out.trans (hb.mono HB11.out.size))
    clear hb hkp hkq hku hkv
    go_wp2_with fail
    refine (meet_any b k c j mt w12 Hmt.out hb0 hc0).mono ?_
    clear pf0 pf1 qf0 qf1 uf0 uf1 vf0 vf1
    rintro e w13 ⟨rfl, hb⟩
    have hkp := HKp12.out.below hb HKp12.out.lt
    have HKp13 := Lib.hid hkp
    have pf0 := pb0 hkp
    have pf1 := pb1 hkp
    have hkq := HKq12.out.below hb HKq12.out.lt
    have HKq13 := Lib.hid hkq
    have qf0 := pb0 hkq
    have qf1 := pb1 hkq
    have hku := HKu12.out.below hb HKu12.out.lt
    have HKu13 := Lib.hid hku
    have uf0 := pb0 hku
    have uf1 := pb1 hku
    have hkv := HKv12.out.below hb HKv12.out.lt
    have HKv13 := Lib.hid hkv
    have vf0 := pb0 hkv
    have vf1 := pb1 hkv
    have HB13 := Lib.hid (HB12.out.trans (hb.mono HB12.out.size))
    clear hb hkp hkq hku hkv
    clear pf0 pf1 qf0 qf1 uf0 uf1 vf0 vf1
    have c0 : ∀ d os, (Go.Sort.grow (redrawn w13 d) os).cell? ⟨w.heap.size, 0, none⟩ = some (.int .i64 b) := fun d os => cell_regrown (pb0 HKp13.out) d os
    have c1 : ∀ d os, (Go.Sort.grow (redrawn w13 d) os).cell? ⟨w.heap.size, 1, none⟩ = some (.int .i64 k) := fun d os => cell_regrown (pb1 HKp13.out) d os
    have HLn := Lib.hid (HL.out.below HB13.out)
    go_wp2_with fail
    refine wp_region_quiet_below (by kernel_rfl) (by kernel_rfl) ?_
    repeat (go_big_quiet_step (first | exact Calls.regrown_of (HT1.out _ (HLn.out.below (below_regrown _ _ _))) | exact Calls.regrown_of (HT2.out _) | exact Calls.regrown_of (HT3.out _ (HLn.out.below (below_regrown _ _ _))) | exact Calls.regrown_of (HT4.out _) | exact Calls.regrown_of (size_any b k sz _ Hsz.out) | exact Calls.regrown_of (refSize7_any b k sz _ Hsz.out) | exact Calls.regrown_of (idx_any b k a ix _ Hix.out ha) | exact Calls.regrown_of (refIdx7_any b k a ix _ Hix.out ha)))
    refine wpQuiet_nil ?_
    intro _ hw'
    obtain ⟨⟨dq, osq⟩, hw''⟩ := hw'
    subst hw''
    go_wp2
    go_ret
    exact ⟨rfl, HB13.out.trans ((below_regrown _ dq osq).mono HB13.out.size)⟩
  · have dz : decide (60 < (s.size : Int)) = true := decide_eq_true (by omega)
    clear hz
    clear hL
    go_enter Tryd.func3, Tryd.ntmps3
    go_wp2_with fail
    refine (awake_any (pbox2 w b k c j) (HL.out.below HB0.out)).mono ?_
    rintro e w1 ⟨rfl, hb⟩
    have hkp := HKp0.out.below hb HKp0.out.lt
    have HKp1 := Lib.hid hkp
    have pf0 := pb0 hkp
    have pf1 := pb1 hkp
    have hkq := HKq0.out.below hb HKq0.out.lt
    have HKq1 := Lib.hid hkq
    have qf0 := pb0 hkq
    have qf1 := pb1 hkq
    have HB1 := Lib.hid (HB0.out.trans (hb.mono HB0.out.size))
    clear hb hkp hkq
    go_wp2
    go_ret
    exact ⟨rfl, HB1.out⟩
end Go.Proofs.YtbaneeedoledoaaDoor
