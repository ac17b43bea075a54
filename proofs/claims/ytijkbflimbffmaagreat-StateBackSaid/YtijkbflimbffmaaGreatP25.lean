import Derived.Test.YtijkbflimbffmaaGreatP23
import Derived.Test.YtijkbflimbffmaaGreatP24
import Derived.Test.YtijkbflimbffmaaGreatP18
import Derived.Test.YtijkbflimbffmaaGreatP21
namespace Go.Proofs.YtijkbflimbffmaaGreat
set_option maxHeartbeats 1000000
set_option maxRecDepth 100000
open Go.RowKit
theorem zq2 (l Bs H : Nat) (s : Y.St) (A : Y.A9) (hk : J.ok s) (Q : Nat -> List J.Part -> World -> Prop) (W W0 : World) (hab : ∀ z, AbidesFrom W.heap.size (Q z))
  (hY : ∀ z pre x V0 V, Q z pre V0 -> Below V0.heap.size V0 V -> J.Fresh W.heap.size z x V0 V -> pre.length < 5 -> YieldAt Fence.wide 0 Tryz.prog l (J.encP x) V fun e V' => e = .returned (.bool true) /\ Q z (pre ++ [x]) V' /\ J.KpT H Bs z V V')
  (hB : Blok W Bs 32 (Y.cs s A).toArray) (hH : W0.heap.size <= H) (hHW : H <= W.heap.size) (hW0 : Below H W0 W) (hi : Y.SIn W0 A s) (h0 : ∀ z, W.heap.size <= z -> Q z [] W) :
  Calls Tryz.prog 103 #[.func (.yield l) #[] #[], .pointer (some ⟨Bs, 0, none⟩)] W fun e V => (∃ v, e = .returned v) /\ ∃ z xs, xs.map (fun x => x.2.2) = J.parts s /\ Q z xs V := by
 obtain ⟨ap, np, cp, al, nl, cl, ah, nh, ch⟩ := A
 have HM := Zh hk.1
 have HI := Zh hi
 have HAB := Zh hab
 have HY := Zh hY
 have HQ00 := Zh h0
 have HW0 := Zh hW0
 have hml := hk.1.2.2.2.2.1
 have hmh := J.held_len hk.1
 have hnl : nl <= 600 := by have : s.l.length = nl := hi.l.1; omega
 have hnh : nh <= 600 := by have : s.h.length = nh := hi.h.1; omega
 have hBs := hB.lt
 unfold Y.cs at hB
 have KB0 := Zh hB
 clear hk hi hab hY h0 hW0 hB
 obtain ⟨z, hz⟩ : ∃ z, W.heap.size = z := ⟨_, rfl⟩
 obtain ⟨w1, hw1⟩ : ∃ V, W.alloc (.cells #[.func (.yield l) #[] #[]] 87) = V := ⟨_, rfl⟩
 have hb1 : Below W.heap.size W w1 := by rw [<- hw1]; exact (Below.refl _ W).alloc (Nat.le_refl _) _
 have KZ1 : Hid (Blok w1 z 87 #[.func (.yield l) #[] #[]]) := Zh (by rw [<- hw1, <- hz]; exact Blok.new W _ _)
 have KB1 := Zh (KB0.out.below hb1 KB0.out.lt)
 have HQ1 : Hid (Q z [] w1) := Zh (HAB.out z [] W _ none (HQ00.out z (by omega)) (J.below_grownN hb1) (fun r e => by cases e))
 have HB1 : Hid (Below H W w1) := Zh (hb1.mono hHW)
 have hz1 : z < w1.heap.size := KZ1.out.lt
 have hwz : W.heap.size <= z := by omega
 clear hb1 KB0 HQ00
 skip
 go_enter Tryz.func103, Tryz.ntmps103
 skip
 obtain ⟨c0, c1, c2, c3, c4, c5, c6, c7, c8, c9, c10, c11, c12, c13, c14, c15⟩ := Y.cs16 KB1.out
 have HIn : Hid (Y.SIn w1 ⟨ap, np, cp, al, nl, cl, ah, nh, ch⟩ s) := Zh (HI.out.below ((HW0.out.trans HB1.out).mono hH))
 go_wp2_with fail
 try rw [hw1]
 try rw [hz]
 clear hw1
 refine (zr0 s ⟨ap, np, cp, al, nl, cl, ah, nh, ch⟩ HM.out w1 HIn.out).mono ?_
 clear c0 c1 c2 c3 c4 c5 c6 c7 c8 c9 c10 c11 c12 c13 c14 c15
 rintro e w1a ⟨a1, k1, rfl, hr, hba⟩
 go_wp2_with fail
 refine (zrt a1 _ k1 (J.nums s) w1a rfl hr.out).mono ?_
 rintro e w1b ⟨v, okk, rfl, hok, hown, hbb⟩
 have e1 : M.all (J.nums s) = some ((J.pt1 s).getD []) := J.pt1_yes' HM.out
 rw [e1] at hok hown
 simp only [Option.isSome_some, Option.getD_some] at hok hown
 subst hok
 clear e1
 obtain ⟨b0, hbx0⟩ : ∃ b, (J.pt1 s).getD [] = b := ⟨_, rfl⟩
 have HX0 := Zh hbx0
 have hwf0 : ∀ c ∈ b0, (Lit.int .u8 c).wf = true := by rw [<- hbx0]; exact zsn _
 have hlen0 : b0.length <= 400 := by rw [<- hbx0]; have := J.parts_len HM.out; omega
 rw [hbx0] at hown
 clear hbx0
 obtain ⟨p0, q0, rfl, hrow, hnil, hup⟩ := J.part_of hown hwf0
 have hbv : Below w1.heap.size w1 w1b := hba.trans (hbb.mono hba.size)
 have hfr : J.Fresh W.heap.size z (p0, q0, b0) w1 w1b := ⟨hrow, hnil, fun q hq => Nat.le_trans hba.size (hup q hq), hwz, hz1, hlen0⟩
 have hya := HY.out z [] (p0, q0, b0) w1 w1b HQ1.out hbv hfr (by simp)
 have KZv := KZ1.out.below hbv KZ1.out.lt
 have KBv := KB1.out.below hbv KB1.out.lt
 clear hfr hrow hnil hup hown HIn hr hwf0
 go_wp2_with fail
 refine (znt l z p0 b0.length q0 w1b KZv (fun V' => Q z ([] ++ [(p0, q0, b0)]) V' /\ J.KpT H Bs z w1b V') hya).mono ?_
 clear hya
 rintro e w2 ⟨rfl, hq, hkp⟩
 have HQ2 : Hid (Q z [(p0, q0, b0)] w2) := Zh hq
 have KB2 : Hid (Blok w2 Bs 32 #[.int .i64 s.d.b, .int .i64 s.d.k, .int .i64 s.d.c, .int .i64 s.d.j, .int .i64 s.d.lo, .int .i64 s.d.hi, .int .i64 s.d.dy, .int .i64 s.d.bl, .int .i64 s.p.q, .int .i64 s.p.i, .int .i64 s.p.h, .bool s.p.pair, .int .i64 s.now, .slice ap np cp, .slice al nl cl, .slice ah nh ch]) := Zh (hkp.2.1.trans KBv)
 have KZ2 : Hid (Blok w2 z 87 #[.func (.yield l) #[] #[]]) := Zh (hkp.2.2 _ _ _ KZv)
 have HB2 : Hid (Below H W w2) := Zh ((HB1.out.trans (hbv.mono (Nat.le_trans hHW HB1.out.size))).trans hkp.1)
 have hz2 : z < w2.heap.size := KZ2.out.lt
 clear hq hkp KZv KBv hbv hba hbb HQ1 KB1 KZ1 HB1 hz1
 have c14 := Zv KB2.out 14 (.slice al nl cl)
 have HIn : Hid (Y.SIn w2 ⟨ap, np, cp, al, nl, cl, ah, nh, ch⟩ s) := Zh (HI.out.below ((HW0.out.trans HB2.out).mono hH))
 go_wp2_with fail
 refine (zpv 109 (enters_of Tryz.func109 (by kernel_rfl) rfl) J.lN al nl cl s.l (fun x hx V => zqe x (by have := J.ls_in HM.out hx; exact ⟨this.1, this.2.1, this.2.2.1⟩) V) (fun x hx => by have := J.ls_in HM.out hx; unfold J.lN; exact WalkArith.wf_i64 (by omega)) w2 HIn.out.l (by omega)).mono ?_
 clear c14
 rintro e w2a ⟨a1, k1, rfl, hr, hba⟩
 go_wp2_with fail
 refine (zqk a1 _ k1 (s.l.map J.lN) 10 w2a (by rw [List.length_map]; exact HIn.out.l.1) hr.out).mono ?_
 rintro e w2b ⟨v, okk, rfl, hok, hown, hbb⟩
 have e1 : K.pack (s.l.map J.lN) 10 = some ((J.pt2 s).getD []) := J.pt2_yes HM.out
 rw [e1] at hok hown
 simp only [Option.isSome_some, Option.getD_some] at hok hown
 subst hok
 clear e1
 obtain ⟨b1, hbx1⟩ : ∃ b, (J.pt2 s).getD [] = b := ⟨_, rfl⟩
 have HX1 := Zh hbx1
 have hwf1 : ∀ c ∈ b1, (Lit.int .u8 c).wf = true := by rw [<- hbx1]; exact K.pack_wf _ _
 have hlen1 : b1.length <= 400 := by rw [<- hbx1]; have := J.parts_len HM.out; omega
 rw [hbx1] at hown
 clear hbx1
 obtain ⟨p1, q1, rfl, hrow, hnil, hup⟩ := J.part_of hown hwf1
 have hbv : Below w2.heap.size w2 w2b := hba.trans (hbb.mono hba.size)
 have hfr : J.Fresh W.heap.size z (p1, q1, b1) w2 w2b := ⟨hrow, hnil, fun q hq => Nat.le_trans hba.size (hup q hq), hwz, hz2, hlen1⟩
 have hya := HY.out z [(p0, q0, b0)] (p1, q1, b1) w2 w2b HQ2.out hbv hfr (by simp)
 have KZv := KZ2.out.below hbv KZ2.out.lt
 have KBv := KB2.out.below hbv KB2.out.lt
 clear hfr hrow hnil hup hown HIn hr hwf1
 go_wp2_with fail
 refine (znt l z p1 b1.length q1 w2b KZv (fun V' => Q z ([(p0, q0, b0)] ++ [(p1, q1, b1)]) V' /\ J.KpT H Bs z w2b V') hya).mono ?_
 clear hya
 rintro e w3 ⟨rfl, hq, hkp⟩
 have HQ3 : Hid (Q z [(p0, q0, b0), (p1, q1, b1)] w3) := Zh hq
 have KB3 : Hid (Blok w3 Bs 32 #[.int .i64 s.d.b, .int .i64 s.d.k, .int .i64 s.d.c, .int .i64 s.d.j, .int .i64 s.d.lo, .int .i64 s.d.hi, .int .i64 s.d.dy, .int .i64 s.d.bl, .int .i64 s.p.q, .int .i64 s.p.i, .int .i64 s.p.h, .bool s.p.pair, .int .i64 s.now, .slice ap np cp, .slice al nl cl, .slice ah nh ch]) := Zh (hkp.2.1.trans KBv)
 have KZ3 : Hid (Blok w3 z 87 #[.func (.yield l) #[] #[]]) := Zh (hkp.2.2 _ _ _ KZv)
 have HB3 : Hid (Below H W w3) := Zh ((HB2.out.trans (hbv.mono (Nat.le_trans hHW HB2.out.size))).trans hkp.1)
 have hz3 : z < w3.heap.size := KZ3.out.lt
 clear hq hkp KZv KBv hbv hba hbb HQ2 KB2 KZ2 HB2 hz2
 have c14 := Zv KB3.out 14 (.slice al nl cl)
 have HIn : Hid (Y.SIn w3 ⟨ap, np, cp, al, nl, cl, ah, nh, ch⟩ s) := Zh (HI.out.below ((HW0.out.trans HB3.out).mono hH))
 go_wp2_with fail
 refine (zpv 111 (enters_of Tryz.func111 (by kernel_rfl) rfl) L.Ls.f al nl cl s.l (fun x _ V => zry x V) (fun x hx => by have := J.ls_in HM.out hx; exact WalkArith.wf_i64 (by omega)) w3 HIn.out.l (by omega)).mono ?_
 clear c14
 rintro e w3a ⟨a1, k1, rfl, hr, hba⟩
 go_wp2_with fail
 refine (zpq a1 _ k1 (s.l.map L.Ls.f) w3a (by rw [List.length_map]; exact HIn.out.l.1) hr.out).mono ?_
 rintro e w3b ⟨v, okk, rfl, hok, hown, hbb⟩
 have e1 : Z.steps (s.l.map L.Ls.f) = some ((J.pt3 s).getD []) := J.pt3_yes HM.out
 rw [e1] at hok hown
 simp only [Option.isSome_some, Option.getD_some] at hok hown
 subst hok
 clear e1
 obtain ⟨b2, hbx2⟩ : ∃ b, (J.pt3 s).getD [] = b := ⟨_, rfl⟩
 have HX2 := Zh hbx2
 have hwf2 : ∀ c ∈ b2, (Lit.int .u8 c).wf = true := by rw [<- hbx2]; exact Z.steps_wf _
 have hlen2 : b2.length <= 400 := by rw [<- hbx2]; have := J.parts_len HM.out; omega
 rw [hbx2] at hown
 clear hbx2
 obtain ⟨p2, q2, rfl, hrow, hnil, hup⟩ := J.part_of hown hwf2
 have hbv : Below w3.heap.size w3 w3b := hba.trans (hbb.mono hba.size)
 have hfr : J.Fresh W.heap.size z (p2, q2, b2) w3 w3b := ⟨hrow, hnil, fun q hq => Nat.le_trans hba.size (hup q hq), hwz, hz3, hlen2⟩
 have hya := HY.out z [(p0, q0, b0), (p1, q1, b1)] (p2, q2, b2) w3 w3b HQ3.out hbv hfr (by simp)
 have KZv := KZ3.out.below hbv KZ3.out.lt
 have KBv := KB3.out.below hbv KB3.out.lt
 clear hfr hrow hnil hup hown HIn hr hwf2
 go_wp2_with fail
 refine (znt l z p2 b2.length q2 w3b KZv (fun V' => Q z ([(p0, q0, b0), (p1, q1, b1)] ++ [(p2, q2, b2)]) V' /\ J.KpT H Bs z w3b V') hya).mono ?_
 clear hya
 rintro e w4 ⟨rfl, hq, hkp⟩
 have HQ4 : Hid (Q z [(p0, q0, b0), (p1, q1, b1), (p2, q2, b2)] w4) := Zh hq
 have KB4 : Hid (Blok w4 Bs 32 #[.int .i64 s.d.b, .int .i64 s.d.k, .int .i64 s.d.c, .int .i64 s.d.j, .int .i64 s.d.lo, .int .i64 s.d.hi, .int .i64 s.d.dy, .int .i64 s.d.bl, .int .i64 s.p.q, .int .i64 s.p.i, .int .i64 s.p.h, .bool s.p.pair, .int .i64 s.now, .slice ap np cp, .slice al nl cl, .slice ah nh ch]) := Zh (hkp.2.1.trans KBv)
 have KZ4 : Hid (Blok w4 z 87 #[.func (.yield l) #[] #[]]) := Zh (hkp.2.2 _ _ _ KZv)
 have HB4 : Hid (Below H W w4) := Zh ((HB3.out.trans (hbv.mono (Nat.le_trans hHW HB3.out.size))).trans hkp.1)
 have hz4 : z < w4.heap.size := KZ4.out.lt
 clear hq hkp KZv KBv hbv hba hbb HQ3 KB3 KZ3 HB3 hz3
 have c15 := Zv KB4.out 15 (.slice ah nh ch)
 have HIn : Hid (Y.SIn w4 ⟨ap, np, cp, al, nl, cl, ah, nh, ch⟩ s) := Zh (HI.out.below ((HW0.out.trans HB4.out).mono hH))
 go_wp2_with fail
 refine (zpw 113 (enters_of Tryz.func113 (by kernel_rfl) rfl) J.hN ah nh ch s.h (fun x hx V => zrx x (by have := J.hd_in HM.out hx; exact ⟨this.1, this.2.1⟩) V) (fun x hx => by have := J.hd_in HM.out hx; unfold J.hN; exact WalkArith.wf_i64 (by omega)) w4 HIn.out.h (by omega)).mono ?_
 clear c15
 rintro e w4a ⟨a1, k1, rfl, hr, hba⟩
 go_wp2_with fail
 refine (zqk a1 _ k1 (s.h.map J.hN) 5 w4a (by rw [List.length_map]; exact HIn.out.h.1) hr.out).mono ?_
 rintro e w4b ⟨v, okk, rfl, hok, hown, hbb⟩
 have e1 : K.pack (s.h.map J.hN) 5 = some ((J.pt4 s).getD []) := J.pt4_yes HM.out
 rw [e1] at hok hown
 simp only [Option.isSome_some, Option.getD_some] at hok hown
 subst hok
 clear e1
 obtain ⟨b3, hbx3⟩ : ∃ b, (J.pt4 s).getD [] = b := ⟨_, rfl⟩
 have HX3 := Zh hbx3
 have hwf3 : ∀ c ∈ b3, (Lit.int .u8 c).wf = true := by rw [<- hbx3]; exact K.pack_wf _ _
 have hlen3 : b3.length <= 400 := by rw [<- hbx3]; have := J.parts_len HM.out; omega
 rw [hbx3] at hown
 clear hbx3
 obtain ⟨p3, q3, rfl, hrow, hnil, hup⟩ := J.part_of hown hwf3
 have hbv : Below w4.heap.size w4 w4b := hba.trans (hbb.mono hba.size)
 have hfr : J.Fresh W.heap.size z (p3, q3, b3) w4 w4b := ⟨hrow, hnil, fun q hq => Nat.le_trans hba.size (hup q hq), hwz, hz4, hlen3⟩
 have hya := HY.out z [(p0, q0, b0), (p1, q1, b1), (p2, q2, b2)] (p3, q3, b3) w4 w4b HQ4.out hbv hfr (by simp)
 have KZv := KZ4.out.below hbv KZ4.out.lt
 have KBv := KB4.out.below hbv KB4.out.lt
 clear hfr hrow hnil hup hown HIn hr hwf3
 go_wp2_with fail
 refine (znt l z p3 b3.length q3 w4b KZv (fun V' => Q z ([(p0, q0, b0), (p1, q1, b1), (p2, q2, b2)] ++ [(p3, q3, b3)]) V' /\ J.KpT H Bs z w4b V') hya).mono ?_
 clear hya
 rintro e w5 ⟨rfl, hq, hkp⟩
 have HQ5 : Hid (Q z [(p0, q0, b0), (p1, q1, b1), (p2, q2, b2), (p3, q3, b3)] w5) := Zh hq
 have KB5 : Hid (Blok w5 Bs 32 #[.int .i64 s.d.b, .int .i64 s.d.k, .int .i64 s.d.c, .int .i64 s.d.j, .int .i64 s.d.lo, .int .i64 s.d.hi, .int .i64 s.d.dy, .int .i64 s.d.bl, .int .i64 s.p.q, .int .i64 s.p.i, .int .i64 s.p.h, .bool s.p.pair, .int .i64 s.now, .slice ap np cp, .slice al nl cl, .slice ah nh ch]) := Zh (hkp.2.1.trans KBv)
 have KZ5 : Hid (Blok w5 z 87 #[.func (.yield l) #[] #[]]) := Zh (hkp.2.2 _ _ _ KZv)
 have HB5 : Hid (Below H W w5) := Zh ((HB4.out.trans (hbv.mono (Nat.le_trans hHW HB4.out.size))).trans hkp.1)
 have hz5 : z < w5.heap.size := KZ5.out.lt
 clear hq hkp KZv KBv hbv hba hbb HQ4 KB4 KZ4 HB4 hz4
 have c15 := Zv KB5.out 15 (.slice ah nh ch)
 have HIn : Hid (Y.SIn w5 ⟨ap, np, cp, al, nl, cl, ah, nh, ch⟩ s) := Zh (HI.out.below ((HW0.out.trans HB5.out).mono hH))
 go_wp2_with fail
 refine (zpw 114 (enters_of Tryz.func114 (by kernel_rfl) rfl) L.T3.x ah nh ch s.h (fun x _ V => zrz x V) (fun x hx => by have := J.hd_in HM.out hx; exact WalkArith.wf_i64 (by omega)) w5 HIn.out.h (by omega)).mono ?_
 clear c15
 rintro e w5a ⟨a1, k1, rfl, hr, hba⟩
 go_wp2_with fail
 refine (zpq a1 _ k1 (s.h.map L.T3.x) w5a (by rw [List.length_map]; exact HIn.out.h.1) hr.out).mono ?_
 rintro e w5b ⟨v, okk, rfl, hok, hown, hbb⟩
 have e1 : Z.steps (s.h.map L.T3.x) = some ((J.pt5 s).getD []) := J.pt5_yes HM.out
 rw [e1] at hok hown
 simp only [Option.isSome_some, Option.getD_some] at hok hown
 subst hok
 clear e1
 obtain ⟨b4, hbx4⟩ : ∃ b, (J.pt5 s).getD [] = b := ⟨_, rfl⟩
 have HX4 := Zh hbx4
 have hwf4 : ∀ c ∈ b4, (Lit.int .u8 c).wf = true := by rw [<- hbx4]; exact Z.steps_wf _
 have hlen4 : b4.length <= 400 := by rw [<- hbx4]; have := J.parts_len HM.out; omega
 rw [hbx4] at hown
 clear hbx4
 obtain ⟨p4, q4, rfl, hrow, hnil, hup⟩ := J.part_of hown hwf4
 have hbv : Below w5.heap.size w5 w5b := hba.trans (hbb.mono hba.size)
 have hfr : J.Fresh W.heap.size z (p4, q4, b4) w5 w5b := ⟨hrow, hnil, fun q hq => Nat.le_trans hba.size (hup q hq), hwz, hz5, hlen4⟩
 have hya := HY.out z [(p0, q0, b0), (p1, q1, b1), (p2, q2, b2), (p3, q3, b3)] (p4, q4, b4) w5 w5b HQ5.out hbv hfr (by simp)
 have KZv := KZ5.out.below hbv KZ5.out.lt
 have KBv := KB5.out.below hbv KB5.out.lt
 clear hfr hrow hnil hup hown HIn hr hwf4
 go_wp2_with fail
 refine (znt l z p4 b4.length q4 w5b KZv (fun V' => Q z ([(p0, q0, b0), (p1, q1, b1), (p2, q2, b2), (p3, q3, b3)] ++ [(p4, q4, b4)]) V' /\ J.KpT H Bs z w5b V') hya).mono ?_
 clear hya
 rintro e w6 ⟨rfl, hq, hkp⟩
 have HQ6 : Hid (Q z [(p0, q0, b0), (p1, q1, b1), (p2, q2, b2), (p3, q3, b3), (p4, q4, b4)] w6) := Zh hq
 have KB6 : Hid (Blok w6 Bs 32 #[.int .i64 s.d.b, .int .i64 s.d.k, .int .i64 s.d.c, .int .i64 s.d.j, .int .i64 s.d.lo, .int .i64 s.d.hi, .int .i64 s.d.dy, .int .i64 s.d.bl, .int .i64 s.p.q, .int .i64 s.p.i, .int .i64 s.p.h, .bool s.p.pair, .int .i64 s.now, .slice ap np cp, .slice al nl cl, .slice ah nh ch]) := Zh (hkp.2.1.trans KBv)
 have KZ6 : Hid (Blok w6 z 87 #[.func (.yield l) #[] #[]]) := Zh (hkp.2.2 _ _ _ KZv)
 have HB6 : Hid (Below H W w6) := Zh ((HB5.out.trans (hbv.mono (Nat.le_trans hHW HB5.out.size))).trans hkp.1)
 have hz6 : z < w6.heap.size := KZ6.out.lt
 clear hq hkp KZv KBv hbv hba hbb HQ5 KB5 KZ5 HB5 hz5
 go_wp2
 go_end0
 exact ⟨⟨_, rfl⟩, z, [(p0, q0, b0), (p1, q1, b1), (p2, q2, b2), (p3, q3, b3), (p4, q4, b4)], by unfold J.parts; rw [HX0.out, HX1.out, HX2.out, HX3.out, HX4.out]; rfl, HQ6.out⟩
end Go.Proofs.YtijkbflimbffmaaGreat
