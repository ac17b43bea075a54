/-
  MapTells, at every map, block and number.
-/
import Derived.Test.YtagkpkgflnccpaaULaws
import Derived.Test.YtagkpkgflnccpaaURef2
import Derived.Test.YtagkpkgflnccpaaURef3
import Derived.Test.YtagkpkgflnccpaaVInts
import Derived.Test.YtagkpkgflnccpaaReg
import Derived.Test.YtagkpkgflnccpaaReg2
namespace Go.Proofs.Ytagkpkgflnccpaa
open Go.RowKit


set_option maxRecDepth 100000 in
set_option maxHeartbeats 1000000 in
theorem MapTells_in (n u i k : Int) (w : World)  :
    Calls Try.prog 3 #[.agg #[.int .i64 n, .int .i64 u], .int .i64 i, .int .i64 k] w fun e w' => e = .returned (.bool true) ∧ Below w.heap.size w w' := by
  have HB0 := Lib.hid (ubox_below w n u)
  have HKu0 := Lib.hid (ubox_blok w n u)
  obtain ⟨b1, hb1⟩ : ∃ b, U.off n u i = b := ⟨_, rfl⟩
  obtain ⟨x1, hx1⟩ : ∃ b, U.take n u i = b := ⟨_, rfl⟩
  obtain ⟨b2, hb2⟩ : ∃ b, U.has n u i = b := ⟨_, rfl⟩
  obtain ⟨x2, hx2⟩ : ∃ b, U.give n u i = b := ⟨_, rfl⟩
  obtain ⟨b3, hb3⟩ : ∃ b, U.may k 0 = b := ⟨_, rfl⟩
  obtain ⟨x3, hx3⟩ : ∃ b, U.newN k = b := ⟨_, rfl⟩
  obtain ⟨m, hm⟩ : ∃ b, U.may n u = b := ⟨_, rfl⟩
  obtain ⟨f, hf⟩ : ∃ b, U.first n u = b := ⟨_, rfl⟩
  obtain ⟨c, hc⟩ : ∃ b, U.count n u = b := ⟨_, rfl⟩
  have t1 := fun W => take_any n u i x1 b1 W hb1 hx1
  have t2 := fun W => refTake_any n u i x1 b1 W hb1 hx1
  have g1 := fun W => give_any n u i x2 b2 W hb2 hx2
  have g2 := fun W => refGive_any n u i x2 b2 W hb2 hx2
  have n1 := fun W => new_any k x3 b3 W hb3 hx3
  have n2 := fun W => refNew_any k x3 b3 W hb3 hx3
  have hm1 := fun W => may_any n u m W hm
  have hm2 := fun W => refMay_any n u m W hm
  have hh1 := fun W => has_any n u i b2 W hb2
  have hh2 := fun W => refHas_any n u i b2 W hb2
  have hf1 := fun W => first_any n u f W hf
  have hf2 := fun W => refFirst_any n u f W hf
  have hc1 := fun W => count_any n u c W hc
  have hc2 := fun W => refCount_any n u c W hc
  have hl1 := fun W => free_any n u W
  have hl2 := fun W => refFree_any n u W
  obtain ⟨L, hL⟩ : ∃ b, U.free n u = b := ⟨_, rfl⟩
  rw [hL] at hl1 hl2
  clear hb1 hx1 hb2 hx2 hb3 hx3 hm hf hc hL
  go_enter Try.func3, Try.ntmps3
  go_wp2_with fail
  refine (uawake_any (ubox w n u)).mono ?_
  rintro e w1 ⟨rfl, hb⟩
  have HKu1 := Lib.hid (HKu0.out.below hb HKu0.out.lt)
  have uf0 := u0 HKu1.out
  have uf1 := u1 HKu1.out
  have HB1 := Lib.hid (HB0.out.trans (hb.mono HB0.out.size))
  have HS1 := Lib.hid hb
  clear hb
  go_wp2_with fail
  refine (t1 w1).mono ?_
  clear uf0 uf1
  rintro e w2 ⟨rfl, hb⟩
  have HKu2 := Lib.hid (HKu1.out.below hb HKu1.out.lt)
  have uf0 := u0 HKu2.out
  have uf1 := u1 HKu2.out
  have HB2 := Lib.hid (HB1.out.trans (hb.mono HB1.out.size))
  have HS2 := Lib.hid hb
  clear hb
  have Nua := Lib.hid (Nat.ne_of_lt HKu2.out.lt)
  have hb := ubox_below w2 n x1
  have HKu3 := Lib.hid (HKu2.out.below hb HKu2.out.lt)
  have uaa0 := fun o => u0 (HKu2.out.alloc o)
  have uaa1 := fun o => u1 (HKu2.out.alloc o)
  have HKa3 := Lib.hid (ubox_blok w2 n x1)
  have HB3 := Lib.hid (HB2.out.trans (hb.mono HB2.out.size))
  clear hb
  go_wp2_with fail
  refine (t2 (ubox w2 n x1)).mono ?_
  clear uf0 uf1 uaa0 uaa1
  rintro e w4 ⟨rfl, hb⟩
  have HKu4 := Lib.hid (HKu3.out.below hb HKu3.out.lt)
  have HKa4 := Lib.hid (HKa3.out.below hb HKa3.out.lt)
  have uf0 := u0 HKu4.out
  have uf1 := u1 HKu4.out
  have af0 := u0 HKa4.out
  have af1 := u1 HKa4.out
  have HB4 := Lib.hid (HB3.out.trans (hb.mono HB3.out.size))
  have HS4 := Lib.hid hb
  clear hb
  have Nub := Lib.hid (Nat.ne_of_lt HKu4.out.lt)
  have Nab := Lib.hid (Nat.ne_of_lt HKa4.out.lt)
  have hb := ubox_below w4 n x1
  have HKu5 := Lib.hid (HKu4.out.below hb HKu4.out.lt)
  have uba0 := fun o => u0 (HKu4.out.alloc o)
  have uba1 := fun o => u1 (HKu4.out.alloc o)
  have HKa5 := Lib.hid (HKa4.out.below hb HKa4.out.lt)
  have aba0 := fun o => u0 (HKa4.out.alloc o)
  have aba1 := fun o => u1 (HKa4.out.alloc o)
  have HKb5 := Lib.hid (ubox_blok w4 n x1)
  have HB5 := Lib.hid (HB4.out.trans (hb.mono HB4.out.size))
  clear hb
  go_wp2_with fail
  refine (g1 (ubox w4 n x1)).mono ?_
  clear uf0 uf1 af0 af1 uba0 uba1 aba0 aba1
  rintro e w6 ⟨rfl, hb⟩
  have HKu6 := Lib.hid (HKu5.out.below hb HKu5.out.lt)
  have HKa6 := Lib.hid (HKa5.out.below hb HKa5.out.lt)
  have HKb6 := Lib.hid (HKb5.out.below hb HKb5.out.lt)
  have uf0 := u0 HKu6.out
  have uf1 := u1 HKu6.out
  have af0 := u0 HKa6.out
  have af1 := u1 HKa6.out
  have bf0 := u0 HKb6.out
  have bf1 := u1 HKb6.out
  have HB6 := Lib.hid (HB5.out.trans (hb.mono HB5.out.size))
  have HS6 := Lib.hid hb
  clear hb
  have Nuc := Lib.hid (Nat.ne_of_lt HKu6.out.lt)
  have Nac := Lib.hid (Nat.ne_of_lt HKa6.out.lt)
  have Nbc := Lib.hid (Nat.ne_of_lt HKb6.out.lt)
  have hb := ubox_below w6 n x2
  have HKu7 := Lib.hid (HKu6.out.below hb HKu6.out.lt)
  have uca0 := fun o => u0 (HKu6.out.alloc o)
  have uca1 := fun o => u1 (HKu6.out.alloc o)
  have HKa7 := Lib.hid (HKa6.out.below hb HKa6.out.lt)
  have aca0 := fun o => u0 (HKa6.out.alloc o)
  have aca1 := fun o => u1 (HKa6.out.alloc o)
  have HKb7 := Lib.hid (HKb6.out.below hb HKb6.out.lt)
  have bca0 := fun o => u0 (HKb6.out.alloc o)
  have bca1 := fun o => u1 (HKb6.out.alloc o)
  have HKc7 := Lib.hid (ubox_blok w6 n x2)
  have HB7 := Lib.hid (HB6.out.trans (hb.mono HB6.out.size))
  clear hb
  go_wp2_with fail
  refine (g2 (ubox w6 n x2)).mono ?_
  clear uf0 uf1 af0 af1 bf0 bf1 uca0 uca1 aca0 aca1 bca0 bca1
  rintro e w8 ⟨rfl, hb⟩
  have HKu8 := Lib.hid (HKu7.out.below hb HKu7.out.lt)
  have HKa8 := Lib.hid (HKa7.out.below hb HKa7.out.lt)
  have HKb8 := Lib.hid (HKb7.out.below hb HKb7.out.lt)
  have HKc8 := Lib.hid (HKc7.out.below hb HKc7.out.lt)
  have uf0 := u0 HKu8.out
  have uf1 := u1 HKu8.out
  have af0 := u0 HKa8.out
  have af1 := u1 HKa8.out
  have bf0 := u0 HKb8.out
  have bf1 := u1 HKb8.out
  have cf0 := u0 HKc8.out
  have cf1 := u1 HKc8.out
  have HB8 := Lib.hid (HB7.out.trans (hb.mono HB7.out.size))
  have HS8 := Lib.hid hb
  clear hb
  have Nud := Lib.hid (Nat.ne_of_lt HKu8.out.lt)
  have Nad := Lib.hid (Nat.ne_of_lt HKa8.out.lt)
  have Nbd := Lib.hid (Nat.ne_of_lt HKb8.out.lt)
  have Ncd := Lib.hid (Nat.ne_of_lt HKc8.out.lt)
  have hb := ubox_below w8 n x2
  have HKu9 := Lib.hid (HKu8.out.below hb HKu8.out.lt)
  have uda0 := fun o => u0 (HKu8.out.alloc o)
  have uda1 := fun o => u1 (HKu8.out.alloc o)
  have HKa9 := Lib.hid (HKa8.out.below hb HKa8.out.lt)
  have ada0 := fun o => u0 (HKa8.out.alloc o)
  have ada1 := fun o => u1 (HKa8.out.alloc o)
  have HKb9 := Lib.hid (HKb8.out.below hb HKb8.out.lt)
  have bda0 := fun o => u0 (HKb8.out.alloc o)
  have bda1 := fun o => u1 (HKb8.out.alloc o)
  have HKc9 := Lib.hid (HKc8.out.below hb HKc8.out.lt)
  have cda0 := fun o => u0 (HKc8.out.alloc o)
  have cda1 := fun o => u1 (HKc8.out.alloc o)
  have HKd9 := Lib.hid (ubox_blok w8 n x2)
  have HB9 := Lib.hid (HB8.out.trans (hb.mono HB8.out.size))
  clear hb
  go_wp2_with fail
  refine (n1 (ubox w8 n x2)).mono ?_
  clear uf0 uf1 af0 af1 bf0 bf1 cf0 cf1 uda0 uda1 ada0 ada1 bda0 bda1 cda0 cda1
  rintro e w10 ⟨rfl, hb⟩
  have HKu10 := Lib.hid (HKu9.out.below hb HKu9.out.lt)
  have HKa10 := Lib.hid (HKa9.out.below hb HKa9.out.lt)
  have HKb10 := Lib.hid (HKb9.out.below hb HKb9.out.lt)
  have HKc10 := Lib.hid (HKc9.out.below hb HKc9.out.lt)
  have HKd10 := Lib.hid (HKd9.out.below hb HKd9.out.lt)
  have uf0 := u0 HKu10.out
  have uf1 := u1 HKu10.out
  have af0 := u0 HKa10.out
  have af1 := u1 HKa10.out
  have bf0 := u0 HKb10.out
  have bf1 := u1 HKb10.out
  have cf0 := u0 HKc10.out
  have cf1 := u1 HKc10.out
  have df0 := u0 HKd10.out
  have df1 := u1 HKd10.out
  have HB10 := Lib.hid (HB9.out.trans (hb.mono HB9.out.size))
  have HS10 := Lib.hid hb
  clear hb
  have Nux := Lib.hid (Nat.ne_of_lt HKu10.out.lt)
  have Nax := Lib.hid (Nat.ne_of_lt HKa10.out.lt)
  have Nbx := Lib.hid (Nat.ne_of_lt HKb10.out.lt)
  have Ncx := Lib.hid (Nat.ne_of_lt HKc10.out.lt)
  have Ndx := Lib.hid (Nat.ne_of_lt HKd10.out.lt)
  have hb := ubox_below w10 x3 0
  have HKu11 := Lib.hid (HKu10.out.below hb HKu10.out.lt)
  have uxa0 := fun o => u0 (HKu10.out.alloc o)
  have uxa1 := fun o => u1 (HKu10.out.alloc o)
  have HKa11 := Lib.hid (HKa10.out.below hb HKa10.out.lt)
  have axa0 := fun o => u0 (HKa10.out.alloc o)
  have axa1 := fun o => u1 (HKa10.out.alloc o)
  have HKb11 := Lib.hid (HKb10.out.below hb HKb10.out.lt)
  have bxa0 := fun o => u0 (HKb10.out.alloc o)
  have bxa1 := fun o => u1 (HKb10.out.alloc o)
  have HKc11 := Lib.hid (HKc10.out.below hb HKc10.out.lt)
  have cxa0 := fun o => u0 (HKc10.out.alloc o)
  have cxa1 := fun o => u1 (HKc10.out.alloc o)
  have HKd11 := Lib.hid (HKd10.out.below hb HKd10.out.lt)
  have dxa0 := fun o => u0 (HKd10.out.alloc o)
  have dxa1 := fun o => u1 (HKd10.out.alloc o)
  have HKx11 := Lib.hid (ubox_blok w10 x3 0)
  have HB11 := Lib.hid (HB10.out.trans (hb.mono HB10.out.size))
  clear hb
  go_wp2_with fail
  refine (n2 (ubox w10 x3 0)).mono ?_
  clear uf0 uf1 af0 af1 bf0 bf1 cf0 cf1 df0 df1 uxa0 uxa1 axa0 axa1 bxa0 bxa1 cxa0 cxa1 dxa0 dxa1
  rintro e w12 ⟨rfl, hb⟩
  have HKu12 := Lib.hid (HKu11.out.below hb HKu11.out.lt)
  have HKa12 := Lib.hid (HKa11.out.below hb HKa11.out.lt)
  have HKb12 := Lib.hid (HKb11.out.below hb HKb11.out.lt)
  have HKc12 := Lib.hid (HKc11.out.below hb HKc11.out.lt)
  have HKd12 := Lib.hid (HKd11.out.below hb HKd11.out.lt)
  have HKx12 := Lib.hid (HKx11.out.below hb HKx11.out.lt)
  have uf0 := u0 HKu12.out
  have uf1 := u1 HKu12.out
  have af0 := u0 HKa12.out
  have af1 := u1 HKa12.out
  have bf0 := u0 HKb12.out
  have bf1 := u1 HKb12.out
  have cf0 := u0 HKc12.out
  have cf1 := u1 HKc12.out
  have df0 := u0 HKd12.out
  have df1 := u1 HKd12.out
  have xf0 := u0 HKx12.out
  have xf1 := u1 HKx12.out
  have HB12 := Lib.hid (HB11.out.trans (hb.mono HB11.out.size))
  have HS12 := Lib.hid hb
  clear hb
  have Nuy := Lib.hid (Nat.ne_of_lt HKu12.out.lt)
  have Nay := Lib.hid (Nat.ne_of_lt HKa12.out.lt)
  have Nby := Lib.hid (Nat.ne_of_lt HKb12.out.lt)
  have Ncy := Lib.hid (Nat.ne_of_lt HKc12.out.lt)
  have Ndy := Lib.hid (Nat.ne_of_lt HKd12.out.lt)
  have Nxy := Lib.hid (Nat.ne_of_lt HKx12.out.lt)
  have hb := ubox_below w12 x3 0
  have HKu13 := Lib.hid (HKu12.out.below hb HKu12.out.lt)
  have uya0 := fun o => u0 (HKu12.out.alloc o)
  have uya1 := fun o => u1 (HKu12.out.alloc o)
  have HKa13 := Lib.hid (HKa12.out.below hb HKa12.out.lt)
  have aya0 := fun o => u0 (HKa12.out.alloc o)
  have aya1 := fun o => u1 (HKa12.out.alloc o)
  have HKb13 := Lib.hid (HKb12.out.below hb HKb12.out.lt)
  have bya0 := fun o => u0 (HKb12.out.alloc o)
  have bya1 := fun o => u1 (HKb12.out.alloc o)
  have HKc13 := Lib.hid (HKc12.out.below hb HKc12.out.lt)
  have cya0 := fun o => u0 (HKc12.out.alloc o)
  have cya1 := fun o => u1 (HKc12.out.alloc o)
  have HKd13 := Lib.hid (HKd12.out.below hb HKd12.out.lt)
  have dya0 := fun o => u0 (HKd12.out.alloc o)
  have dya1 := fun o => u1 (HKd12.out.alloc o)
  have HKx13 := Lib.hid (HKx12.out.below hb HKx12.out.lt)
  have xya0 := fun o => u0 (HKx12.out.alloc o)
  have xya1 := fun o => u1 (HKx12.out.alloc o)
  have HKy13 := Lib.hid (ubox_blok w12 x3 0)
  have HB13 := Lib.hid (HB12.out.trans (hb.mono HB12.out.size))
  clear hb
  go_wp2_with fail
  clear uf0 uf1 af0 af1 bf0 bf1 cf0 cf1 df0 df1 xf0 xf1 uya0 uya1 aya0 aya1 bya0 bya1 cya0 cya1 dya0 dya1 xya0 xya1
  obtain ⟨wr, hwr⟩ : ∃ wr, (ubox w12 x3 0) = wr := ⟨_, rfl⟩
  have HKu14 : Hid (Blok wr _ _ _) := Lib.hid (by have h := HKu13.out; rw [hwr] at h; exact h)
  have HKa14 : Hid (Blok wr _ _ _) := Lib.hid (by have h := HKa13.out; rw [hwr] at h; exact h)
  have HKb14 : Hid (Blok wr _ _ _) := Lib.hid (by have h := HKb13.out; rw [hwr] at h; exact h)
  have HKc14 : Hid (Blok wr _ _ _) := Lib.hid (by have h := HKc13.out; rw [hwr] at h; exact h)
  have HKd14 : Hid (Blok wr _ _ _) := Lib.hid (by have h := HKd13.out; rw [hwr] at h; exact h)
  have HKx14 : Hid (Blok wr _ _ _) := Lib.hid (by have h := HKx13.out; rw [hwr] at h; exact h)
  have HKy14 : Hid (Blok wr _ _ _) := Lib.hid (by have h := HKy13.out; rw [hwr] at h; exact h)
  have HB14 := Lib.hid (by have h := HB13.out; rw [hwr] at h; exact h)
  unfold ubox at hwr
  rw [hwr]
  clear hwr
  refine wp_region_held (S := (fun w' => Blok w' w.heap.size 23 #[.int .i64 n, .int .i64 u])) (by kernel_rfl) ?_
  change wpAnyH _ _ _ _ _ _ _ _ (World.drew _)
  have HS0 : (fun w' => Blok w' w.heap.size 23 #[.int .i64 n, .int .i64 u]) (World.drew wr) := HKu14.out.drew
  refine wpAnyH_take (i := 0) (v := (.agg #[.int .i64 n, .int .i64 u])) rfl (by kernel_rfl) (by kernel_rfl) (by kernel_rfl) (fun _ _ _ h => h) (.inl ⟨by kernel_rfl, fun w9 hS => by have k0 := u0 hS; have k1 := u1 hS; go_simp⟩) HS0 ?_
  refine wpAnyH_take (i := 2) (v := (.agg #[.int .i64 n, .int .i64 u])) rfl (by kernel_rfl) (by kernel_rfl) (by kernel_rfl) (fun _ _ _ h => h) (.inl ⟨by kernel_rfl, fun w9 hS => by have k0 := u0 hS; have k1 := u1 hS; go_simp⟩) HS0 ?_
  refine wpAnyH_call (i := 1) (f := 17) (args := #[.agg #[.int .i64 n, .int .i64 u]]) (by kernel_rfl) rfl (by kernel_rfl) (by kernel_rfl) (hl1 (World.drew wr)) ?_
  rintro e wA ⟨a1, cap1, j1, rfl, hj1, hr1, hbA⟩
  have HTA : (fun w' => Blok w' w.heap.size 23 #[.int .i64 n, .int .i64 u]) wA := Blok.below HS0 hbA (Blok.lt HS0)
  have HWA := Lib.hid ((below_drew wr).trans (hbA.mono (Nat.le_refl _)))
  refine ⟨_, rfl, HTA, ?_⟩
  refine wpAnyH_call (i := 3) (f := 18) (args := #[.agg #[.int .i64 n, .int .i64 u]]) (by kernel_rfl) rfl (by kernel_rfl) (by kernel_rfl) (hl2 wA) ?_
  rintro e wB ⟨a2, cap2, j2, rfl, hj2, hr2, hbB⟩
  have HTB : (fun w' => Blok w' w.heap.size 23 #[.int .i64 n, .int .i64 u]) wB := Blok.below HTA hbB (Blok.lt HTA)
  have HWB := Lib.hid (HWA.out.trans (hbB.mono HWA.out.size))
  have HR1 := Lib.hid (hr1.out.below hbB)
  refine ⟨_, rfl, HTB, ?_⟩
  refine wpAnyH_call (i := 4) (f := 16) (args := #[.slice a1 j1 cap1, .slice a2 j2 cap2]) (by kernel_rfl) rfl (by kernel_rfl) (by kernel_rfl) (ints_any a1 a2 j1 j2 cap1 cap2 L L wB hj1.out hj2.out HR1.out hr2.out) ?_
  rintro e wC ⟨rfl, hbC⟩
  have HTC : (fun w' => Blok w' w.heap.size 23 #[.int .i64 n, .int .i64 u]) wC := Blok.below HTB hbC (Blok.lt HTB)
  have HWC := Lib.hid (HWB.out.trans (hbC.mono HWB.out.size))
  refine ⟨_, rfl, HTC, ?_⟩
  refine wpAnyH_take (i := 5) (v := (.bool (decide (L = L)))) rfl (by kernel_rfl) (by kernel_rfl) (by kernel_rfl) (fun _ _ _ h => h) (.inl ⟨by kernel_rfl, fun w9 hS => by kernel_rfl⟩) HTC ?_
  refine wpAnyH_done (by kernel_rfl) ?_ _
  clear hbA hbB hbC HTA HTB HTC HS0 hr1 hr2 hj1 hj2 hl1 hl2
  simp only [List.getElem_toArray, List.getElem_cons_succ, List.getElem_cons_zero, put_some, List.setIfInBounds_toArray, List.set_cons_succ, List.set_cons_zero]
  have HKu15 := Lib.hid (HKu14.out.below HWC.out HKu14.out.lt)
  have HKa15 := Lib.hid (HKa14.out.below HWC.out HKa14.out.lt)
  have HKb15 := Lib.hid (HKb14.out.below HWC.out HKb14.out.lt)
  have HKc15 := Lib.hid (HKc14.out.below HWC.out HKc14.out.lt)
  have HKd15 := Lib.hid (HKd14.out.below HWC.out HKd14.out.lt)
  have HKx15 := Lib.hid (HKx14.out.below HWC.out HKx14.out.lt)
  have HKy15 := Lib.hid (HKy14.out.below HWC.out HKy14.out.lt)
  have HB15 := Lib.hid (HB14.out.trans (HWC.out.mono HB14.out.size))
  have uf0 := u0 HKu15.out
  have uf1 := u1 HKu15.out
  have af0 := u0 HKa15.out
  have af1 := u1 HKa15.out
  have bf0 := u0 HKb15.out
  have bf1 := u1 HKb15.out
  have cf0 := u0 HKc15.out
  have cf1 := u1 HKc15.out
  have df0 := u0 HKd15.out
  have df1 := u1 HKd15.out
  have xf0 := u0 HKx15.out
  have xf1 := u1 HKx15.out
  have yf0 := u0 HKy15.out
  have yf1 := u1 HKy15.out
  go_wp2_with fail
  refine (hm2 wC).mono ?_
  clear uf0 uf1 af0 af1 bf0 bf1 cf0 cf1 df0 df1 xf0 xf1 yf0 yf1
  rintro e w16 ⟨rfl, hb⟩
  have HKu16 := Lib.hid (HKu15.out.below hb HKu15.out.lt)
  have HKa16 := Lib.hid (HKa15.out.below hb HKa15.out.lt)
  have HKb16 := Lib.hid (HKb15.out.below hb HKb15.out.lt)
  have HKc16 := Lib.hid (HKc15.out.below hb HKc15.out.lt)
  have HKd16 := Lib.hid (HKd15.out.below hb HKd15.out.lt)
  have HKx16 := Lib.hid (HKx15.out.below hb HKx15.out.lt)
  have HKy16 := Lib.hid (HKy15.out.below hb HKy15.out.lt)
  have uf0 := u0 HKu16.out
  have uf1 := u1 HKu16.out
  have af0 := u0 HKa16.out
  have af1 := u1 HKa16.out
  have bf0 := u0 HKb16.out
  have bf1 := u1 HKb16.out
  have cf0 := u0 HKc16.out
  have cf1 := u1 HKc16.out
  have df0 := u0 HKd16.out
  have df1 := u1 HKd16.out
  have xf0 := u0 HKx16.out
  have xf1 := u1 HKx16.out
  have yf0 := u0 HKy16.out
  have yf1 := u1 HKy16.out
  have HB16 := Lib.hid (HB15.out.trans (hb.mono HB15.out.size))
  have HS16 := Lib.hid hb
  clear hb
  go_wp2_with fail
  refine (hh2 w16).mono ?_
  clear uf0 uf1 af0 af1 bf0 bf1 cf0 cf1 df0 df1 xf0 xf1 yf0 yf1
  rintro e w17 ⟨rfl, hb⟩
  have HKu17 := Lib.hid (HKu16.out.below hb HKu16.out.lt)
  have HKa17 := Lib.hid (HKa16.out.below hb HKa16.out.lt)
  have HKb17 := Lib.hid (HKb16.out.below hb HKb16.out.lt)
  have HKc17 := Lib.hid (HKc16.out.below hb HKc16.out.lt)
  have HKd17 := Lib.hid (HKd16.out.below hb HKd16.out.lt)
  have HKx17 := Lib.hid (HKx16.out.below hb HKx16.out.lt)
  have HKy17 := Lib.hid (HKy16.out.below hb HKy16.out.lt)
  have uf0 := u0 HKu17.out
  have uf1 := u1 HKu17.out
  have af0 := u0 HKa17.out
  have af1 := u1 HKa17.out
  have bf0 := u0 HKb17.out
  have bf1 := u1 HKb17.out
  have cf0 := u0 HKc17.out
  have cf1 := u1 HKc17.out
  have df0 := u0 HKd17.out
  have df1 := u1 HKd17.out
  have xf0 := u0 HKx17.out
  have xf1 := u1 HKx17.out
  have yf0 := u0 HKy17.out
  have yf1 := u1 HKy17.out
  have HB17 := Lib.hid (HB16.out.trans (hb.mono HB16.out.size))
  have HS17 := Lib.hid hb
  clear hb
  clear uf0 uf1 af0 af1 bf0 bf1 cf0 cf1 df0 df1 xf0 xf1 yf0 yf1
  have uc0 := fun d os => cell_regrown (u0 HKu17.out) d os
  have uf0 := u0 HKu17.out
  have uc1 := fun d os => cell_regrown (u1 HKu17.out) d os
  have uf1 := u1 HKu17.out
  have ac0 := fun d os => cell_regrown (u0 HKa17.out) d os
  have af0 := u0 HKa17.out
  have ac1 := fun d os => cell_regrown (u1 HKa17.out) d os
  have af1 := u1 HKa17.out
  have bc0 := fun d os => cell_regrown (u0 HKb17.out) d os
  have bf0 := u0 HKb17.out
  have bc1 := fun d os => cell_regrown (u1 HKb17.out) d os
  have bf1 := u1 HKb17.out
  have cc0 := fun d os => cell_regrown (u0 HKc17.out) d os
  have cf0 := u0 HKc17.out
  have cc1 := fun d os => cell_regrown (u1 HKc17.out) d os
  have cf1 := u1 HKc17.out
  have dc0 := fun d os => cell_regrown (u0 HKd17.out) d os
  have df0 := u0 HKd17.out
  have dc1 := fun d os => cell_regrown (u1 HKd17.out) d os
  have df1 := u1 HKd17.out
  have xc0 := fun d os => cell_regrown (u0 HKx17.out) d os
  have xf0 := u0 HKx17.out
  have xc1 := fun d os => cell_regrown (u1 HKx17.out) d os
  have xf1 := u1 HKx17.out
  have yc0 := fun d os => cell_regrown (u0 HKy17.out) d os
  have yf0 := u0 HKy17.out
  have yc1 := fun d os => cell_regrown (u1 HKy17.out) d os
  have yf1 := u1 HKy17.out
  go_wp2_with fail
  refine wp_region_quiet_below (by kernel_rfl) (by kernel_rfl) ?_
  repeat (go_big_quiet_step (first | with_reducible exact Calls.regrown_of (hm1 _) | with_reducible exact Calls.regrown_of (hh1 _) | with_reducible exact Calls.regrown_of (hf1 _) | with_reducible exact Calls.regrown_of (hf2 _) | with_reducible exact Calls.regrown_of (hc1 _) | with_reducible exact Calls.regrown_of (hc2 _)))
  refine wpQuiet_nil ?_
  intro _ hw'
  obtain ⟨⟨dq, osq⟩, hw''⟩ := hw'
  subst hw''
  clear uc0 uf0 uc1 uf1 ac0 af0 ac1 af1 bc0 bf0 bc1 bf1 cc0 cf0 cc1 cf1 dc0 df0 dc1 df1 xc0 xf0 xc1 xf1 yc0 yf0 yc1 yf1
  obtain ⟨w18, hw18⟩ : ∃ w18, Go.Sort.grow (redrawn w17 dq) osq = w18 := ⟨_, rfl⟩
  have hb : Below w17.heap.size w17 w18 := by rw [← hw18]; exact below_regrown _ _ _
  rw [hw18]
  clear hw18
  have HKu18 := Lib.hid (HKu17.out.below hb HKu17.out.lt)
  have HKa18 := Lib.hid (HKa17.out.below hb HKa17.out.lt)
  have HKb18 := Lib.hid (HKb17.out.below hb HKb17.out.lt)
  have HKc18 := Lib.hid (HKc17.out.below hb HKc17.out.lt)
  have HKd18 := Lib.hid (HKd17.out.below hb HKd17.out.lt)
  have HKx18 := Lib.hid (HKx17.out.below hb HKx17.out.lt)
  have HKy18 := Lib.hid (HKy17.out.below hb HKy17.out.lt)
  have uf0 := u0 HKu18.out
  have uf1 := u1 HKu18.out
  have af0 := u0 HKa18.out
  have af1 := u1 HKa18.out
  have bf0 := u0 HKb18.out
  have bf1 := u1 HKb18.out
  have cf0 := u0 HKc18.out
  have cf1 := u1 HKc18.out
  have df0 := u0 HKd18.out
  have df1 := u1 HKd18.out
  have xf0 := u0 HKx18.out
  have xf1 := u1 HKx18.out
  have yf0 := u0 HKy18.out
  have yf1 := u1 HKy18.out
  have HB18 := Lib.hid (HB17.out.trans (hb.mono HB17.out.size))
  have HS18 := Lib.hid hb
  clear hb
  go_wp2
  go_ret
  exact ⟨rfl, HB18.out⟩
end Go.Proofs.Ytagkpkgflnccpaa
