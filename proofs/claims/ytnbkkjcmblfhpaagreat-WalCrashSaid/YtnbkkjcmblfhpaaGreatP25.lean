import Derived.Test.YtnbkkjcmblfhpaaGreatP24
import Derived.Test.YtnbkkjcmblfhpaaGreatP21
import Derived.Test.YtnbkkjcmblfhpaaGreatP22
namespace Go.Proofs.YtnbkkjcmblfhpaaGreat
set_option maxHeartbeats 1000000
set_option maxRecDepth 100000
open Go.RowKit
theorem zw7 (r : R.T) (bb : List Int) (a : Option Addr) (n cap : Nat) (h : R.ok r) (hbb : R.bytes r = bb) (w : World) (hl : r.2.length = n) (hr : zfv .u8 w a cap r.2) (hn : a = none -> n = 0 /\ cap = 0) :
  Calls Tryz.prog 39 #[.agg #[.int .i64 r.1, .slice a n cap]] w fun e w' => ∃ b m c, e = .returned (.tuple #[.slice b m c, .bool true]) /\ Hid (bb.length = m) /\ Hid (zfv .u8 w' b c bb) /\ Hid (b = none -> m = 0 /\ c = 0) /\ Below w.heap.size w w' := by
 obtain ⟨k, B⟩ := r
 refine (zvi k a n cap B w hl hr hn).mono ?_
 rintro e w' ⟨b, c, m, he, h1, h2, h3, hb⟩
 subst hbb
 have hp : R.put (k, B) = some (R.bytes (k, B)) := by unfold R.put; rw [if_pos h]
 rw [hp] at he h1 h2
 exact ⟨b, m, c, he, h1, h2, h3, hb⟩
namespace G
theorem zm4 {d : D.T} {s : Y.St} (h : (J.put s).isSome = false) : new d s = (zw, 1) := by unfold new; rw [h]; rfl
theorem new_err {d x : D.T} {s : Y.St} {er : Int} (h : (J.put s).isSome = true) (hs : steps (next d) (recS s) 0 d = (x, er)) (he : er ≠ 0) : new d s = (zw, er) := by
 unfold new; rw [h, if_pos rfl, hs]; simp only [if_neg he]
theorem new_ok {d x : D.T} {s : Y.St} (h : (J.put s).isSome = true) (hs : steps (next d) (recS s) 0 d = (x, 0)) : new d s = ((x, next d, s.now), 0) := by
 unfold new; rw [h, if_pos rfl, hs]; rfl
theorem row_ne {k : IntKind} {w : World} {a : Option Addr} {cap B : Nat} {L : List Int} (h : zfv k w a cap L) (h0 : L ≠ []) (hB : w.heap.size <= B) : ∀ x, a = some x -> x.block ≠ B := by
 rintro x rfl e
 rcases h.2.2 with h1 | ⟨b, off, ha, hlt, _⟩
 ·exact h0 h1
 ·simp only [Option.some.injEq] at ha; rw [ha] at e; simp only at e; omega
theorem fv3 {w : World} {F gb : Nat} (h : Blok w F 89 #[fv gb 0, fv gb 1, fv gb 2]) : ∀ i, i < 3 -> w.cell? ⟨F, i, none⟩ = some (fv gb (0 + i)) := by
 intro i hi
 obtain rfl | rfl | rfl : i = 0 \/ i = 1 \/ i = 2 := by omega
 ·exact h.cell 0
 ·exact h.cell 1
 ·exact h.cell 2
theorem fv2 {w : World} {F gb : Nat} (h : Blok w F 89 #[fv gb 1, fv gb 2]) : ∀ i, i < 2 -> w.cell? ⟨F, i, none⟩ = some (fv gb (1 + i)) := by
 intro i hi
 obtain rfl | rfl : i = 0 \/ i = 1 := by omega
 ·exact h.cell 0
 ·exact h.cell 1
theorem recS_ok (s : Y.St) : R.ok (1, (J.put s).getD []) := ⟨Int.le_of_lt Int.zero_lt_one, by show (1 : Int) <= 255; decide, Nat.le_trans J.put_bd (by decide)⟩
end G
namespace G
theorem meetB {w wc : World} {T : TypeId} (cs : Array Value) (hb : Below w.heap.size w wc) : Blok (wc.alloc (.cells cs T)) wc.heap.size T cs /\ w.heap.size <= wc.heap.size /\ Below w.heap.size w (wc.alloc (.cells cs T)) :=
 ⟨Blok.new _ _ _, hb.size, hb.alloc hb.size _⟩
theorem meetK {w wc : World} {T : TypeId} (z : Array Value) (hb : Below ((World.drew w).alloc (.cells z T)).heap.size ((World.drew w).alloc (.cells z T)) wc) : Blok wc w.heap.size T z := by
 have kz : Blok ((World.drew w).alloc (.cells z T)) w.heap.size T z := Blok.new (World.drew w) _ _
 exact kz.below hb kz.lt
theorem meetA {w wc : World} {T : TypeId} (z cs : Array Value) (hb : Below ((World.drew w).alloc (.cells z T)).heap.size ((World.drew w).alloc (.cells z T)) wc) : Blok (wc.setRow w.heap.size cs) w.heap.size T cs /\ w.heap.size <= w.heap.size /\ Below w.heap.size w (wc.setRow w.heap.size cs) := by
 have hd : Below w.heap.size w ((World.drew w).alloc (.cells z T)) := (zaa w).alloc (zaa w).size _
 exact ⟨(meetK z hb).put _, Nat.le_refl _, (hd.trans (hb.mono hd.size)).grown (zbr _ _ _) (hd.trans (hb.mono hd.size)).size (fun q hq => by cases hq; exact Nat.le_refl _)⟩
end G
theorem G.new_any (k : Int) (a : Option Addr) (n c : Nat) (xs : List FP) (s : Y.St) (ap : Option Addr) (np cp : Nat) (al : Option Addr) (nl cl : Nat) (ah : Option Addr) (nh ch : Nat) (w : World) (hd : zf0 w a n c xs) (hs : D.small (FP.files xs)) (hi : Y.SIn w ⟨ap, np, cp, al, nl, cl, ah, nh, ch⟩ s) (hf : Y.Fits ⟨ap, np, cp, al, nl, cl, ah, nh, ch⟩ s) :
  Calls Tryz.prog 13 #[.agg #[.int .i64 k, .slice a n c], .agg #[.int .i64 s.d.b, .int .i64 s.d.k, .int .i64 s.d.c, .int .i64 s.d.j, .int .i64 s.d.lo, .int .i64 s.d.hi, .int .i64 s.d.dy, .int .i64 s.d.bl, .int .i64 s.p.q, .int .i64 s.p.i, .int .i64 s.p.h, .bool s.p.pair, .int .i64 s.now, .slice ap np cp, .slice al nl cl, .slice ah nh ch]] w (G.RetX (G.new (k, FP.files xs) s) w) := by
 have HB0 := Zh (Below.refl w.heap.size w)
 have HI0 := Zh (hi)
 have HD0 := Zh (hd)
 have HFT := Zh hf
 have HSM := Zh hs
 clear hi hd hf hs
 obtain ⟨w1, hw1, hb, hk⟩ := Zn w 24 #[.int .i64 k, .slice a n c]
 replace HI0 := Zh (HI0.out.below hb)
 replace HD0 := Zh (HD0.out.below hb)
 have HB1 := Zt HB0 hb
 have KD1 := Zh hk
 clear hb hk HB0
 obtain ⟨w2, hw2, hb, hk⟩ := Zn w1 37 #[.int .i64 s.d.b, .int .i64 s.d.k, .int .i64 s.d.c, .int .i64 s.d.j, .int .i64 s.d.lo, .int .i64 s.d.hi, .int .i64 s.d.dy, .int .i64 s.d.bl, .int .i64 s.p.q, .int .i64 s.p.i, .int .i64 s.p.h, .bool s.p.pair, .int .i64 s.now, .slice ap np cp, .slice al nl cl, .slice ah nh ch]
 replace HI0 := Zh (HI0.out.below hb)
 replace HD0 := Zh (HD0.out.below hb)
 replace KD1 := Zk KD1 hb
 have HB2 := Zt HB1 hb
 have KS2 := Zh hk
 clear hb hk HB1
 obtain ⟨w3, hw3, hb, hk⟩ := Zn w2 26 #[.int .i64 0, .slice none 0 0, .int .i64 0, .int .i64 0]
 replace HI0 := Zh (HI0.out.below hb)
 replace HD0 := Zh (HD0.out.below hb)
 replace KD1 := Zk KD1 hb
 replace KS2 := Zk KS2 hb
 have HB3 := Zt HB2 hb
 have KR3 := Zh hk
 clear hb hk HB2
 have HS3 : Hid (w3.heap.size = w2.heap.size + 1 /\ w2.heap.size = w1.heap.size + 1 /\ w1.heap.size = w.heap.size + 1) := Zh ⟨by rw [<- hw3]; simp, by rw [<- hw2]; simp, by rw [<- hw1]; simp⟩
 obtain ⟨bd, hbd⟩ : ∃ b, (J.put s).getD [] = b := ⟨_, rfl⟩
 obtain ⟨iv, hiv⟩ : ∃ b, (J.put s).isSome = b := ⟨_, rfl⟩
 obtain ⟨bb, hbb⟩ : ∃ b, R.bytes (1, bd) = b := ⟨_, rfl⟩
 have HBD := Zh hbd
 have HIV := Zh hiv
 have HBB := Zh hbb
 have HOK : Hid (R.ok (1, bd)) := Zh (by rw [<- hbd]; exact G.recS_ok s)
 have HBL : Hid (6 <= bb.length /\ bb.length <= 1007) := Zh (by rw [<- hbb]; exact R.bytes_big HOK.out)
 clear hbd hiv hbb
 go_enter Tryz.func13, Tryz.ntmps13
 have s_ := KS2
 have y0 := Zv KS2.out 0 (.int .i64 s.d.b)
 have y1 := Zv KS2.out 1 (.int .i64 s.d.k)
 have y2 := Zv KS2.out 2 (.int .i64 s.d.c)
 have y3 := Zv KS2.out 3 (.int .i64 s.d.j)
 have y4 := Zv KS2.out 4 (.int .i64 s.d.lo)
 have y5 := Zv KS2.out 5 (.int .i64 s.d.hi)
 have y6 := Zv KS2.out 6 (.int .i64 s.d.dy)
 have y7 := Zv KS2.out 7 (.int .i64 s.d.bl)
 have y8 := Zv KS2.out 8 (.int .i64 s.p.q)
 have y9 := Zv KS2.out 9 (.int .i64 s.p.i)
 have y10 := Zv KS2.out 10 (.int .i64 s.p.h)
 have y11 := Zv KS2.out 11 (.bool s.p.pair)
 have y12 := Zv KS2.out 12 (.int .i64 s.now)
 have y13 := Zv KS2.out 13 (.slice ap np cp)
 have y14 := Zv KS2.out 14 (.slice al nl cl)
 have y15 := Zv KS2.out 15 (.slice ah nh ch)
 go_wp2_with fail
 try rw [hw1]
 try rw [hw2]
 try rw [hw3]
 refine (zno s ⟨ap, np, cp, al, nl, cl, ah, nh, ch⟩ bd iv HBD.out HIV.out w3 HI0.out HFT.out).mono ?_
 rintro e w4 ⟨b1, c1, rfl, hrow, hb, hbz⟩
 replace HI0 := Zh (HI0.out.below hb)
 replace HD0 := Zh (HD0.out.below hb)
 replace KD1 := Zk KD1 hb
 replace KS2 := Zk KS2 hb
 have KR4 := Zk KR3 hb
 have HB4 := Zt HB3 hb
 clear hb KR3 HB3
 have HW4 := hrow
 clear hrow hw1 hw2 hw3 s_ y0 y1 y2 y3 y4 y5 y6 y7 y8 y9 y10 y11 y12 y13 y14 y15
 go_wp2_with fail
 refine (zw7 (1, bd) bb b1 bd.length c1 HOK.out HBB.out w4 rfl HW4.out hbz).mono ?_
 rintro e w5 ⟨b2, m2, c2, rfl, hbl, hrow, hbz2, hb⟩
 replace HI0 := Zh (HI0.out.below hb)
 replace HD0 := Zh (HD0.out.below hb)
 replace KD1 := Zk KD1 hb
 replace KS2 := Zk KS2 hb
 have KR5 := Zk KR4 hb
 replace HW4 := Zh (HW4.out.below hb)
 have HB5 := Zt HB4 hb
 clear hb KR4 HB4
 have HX5 := hrow
 clear hrow hbz
 clear HW4
 have HQ : Hid (w.heap.size <= w2.heap.size) := Zh (by have := HS3.out; omega)
 cases iv with
 | false =>
  obtain ⟨w6, hp6⟩ : ∃ W, w5.setRow (w2.heap.size) #[.int .i64 0, .slice none 0 0, .int .i64 0, .int .i64 0] = W := ⟨_, rfl⟩
  have hg6 : w5.grownBy w6 (some (w2.heap.size)) := by rw [<- hp6]; exact zbr _ _ _
  have HP6 := Zh hp6
  have KR6 : Hid (Blok w6 (w2.heap.size) 26 #[.int .i64 0, .slice none 0 0, .int .i64 0, .int .i64 0]) := Zh (by rw [<- hp6]; exact KR5.out.put _)
  have HB6 := Zh (HB5.out.grown hg6 HB5.out.size (fun q hq => by cases hq; exact HQ.out))
  clear hp6 hg6 HI0 HD0 KD1 KS2 HX5 HB5
  go_wp2_with (first | (refine Zw KR5.out HP6.out ?_))
  refine bodyPost_ret (G.ret_wal2 (v := .int .i64 1) rfl w2.heap.size (by kernel_rfl) (by kernel_rfl) KR6.out) rfl ?_
  rw [G.zm4 HIV.out]
  exact ⟨none, 0, 0, [], rfl, Zh (zf0.empty _), Zh rfl, Zh (fun b _ => dFar.nil b none), HB6.out⟩
 | true =>
  obtain ⟨z, hz⟩ : ∃ z, G.next (k, FP.files xs) = z := ⟨_, rfl⟩
  have HZ := Zh hz
  obtain ⟨l, hl⟩ : ∃ l, G.last (k, FP.files xs) = l := ⟨_, rfl⟩
  have HL := Zh hl
  have HZL : Hid (IntKind.i64.wrap (l + 1) = z) := Zh (by rw [<- hz, <- hl]; rfl)
  clear hz hl
  have HXS := HX5
  have KSl := Zh KS2.out.lt
  have KRl := Zh KR5.out.lt
  have HBs := HB5
  go_upto_region 5 with fail
  go_cut [10] from 30 to 52 (fun sp wx => ∃ (gb : Nat), Value.pointer (some ⟨gb, 0, none⟩) = sp /\ Hid (Blok wx gb 87 #[.int .i64 k, .slice a n c, .int .i64 z, .slice b2 m2 c2]) /\ Hid (w5.heap.size <= gb) /\ Hid (Below w5.heap.size w5 wx))
  case first =>
   skip
   refine Zd (fun w' => Below w5.heap.size w5 w') (zaa w5) fun RS0 => ?_
   refine Zl 0 (.agg #[.int .i64 k, .slice a n c]) rfl (fun w9 hS => by
      have q := KD1.out.below hS KD1.out.lt
      have y0 := Zv q 0 (.int .i64 k)
      have y1 := Zv q 1 (.slice a n c)
      go_simp) RS0 ?_
   refine Zl 1 (.agg #[.int .i64 k, .slice a n c]) rfl (fun w9 hS => by
      have q := KD1.out.below hS KD1.out.lt
      have y0 := Zv q 0 (.int .i64 k)
      have y1 := Zv q 1 (.slice a n c)
      go_simp) RS0 ?_
   refine tk 4 (.slice b2 m2 c2) RS0 ?_
   refine za8 (i := 2) (j := 6) (by kernel_rfl) ?_ ?_
   ·skip
    refine zbo (f := 40) (args := #[.agg #[.int .i64 k, .slice a n c]]) rfl (by kernel_rfl) (by kernel_rfl) (zwr k a n c xs _ (HD0.out.below (zaa w5))) ?_
    rintro e wc ⟨rfl, hb⟩
    rw [HL.out]
    refine Zu (Zr RS0 hb) fun RS1 => ?_
    refine wpAnyH_take (i := 3) (v := .int .i64 z) rfl (by kernel_rfl) (by kernel_rfl) (by kernel_rfl) (fun _ _ _ h => h) (.inl ⟨by kernel_rfl, fun w9 hS => by rw [<- HZL.out]; kernel_rfl⟩) RS1 ?_
    refine tk 5 (.agg #[.int .i64 k, .slice a n c, .int .i64 z, .slice b2 m2 c2]) RS1 ?_
    have RA : (fun w' => Below w5.heap.size w5 w') (wc.alloc (.cells #[.int .i64 0, .slice none 0 0, .int .i64 0, .slice none 0 0] 87)) := Below.alloc RS1 (Below.size RS1) _
    refine zaf (i := 6) (by kernel_rfl) (zam (v := .pointer (some ⟨wc.heap.size, 0, none⟩)) (w' := wc.alloc (.cells #[.int .i64 0, .slice none 0 0, .int .i64 0, .slice none 0 0] 87)) rfl (by kernel_rfl) (by kernel_rfl) ⟨RA, ?_⟩)
    obtain ⟨wb, hwb⟩ : ∃ W, (wc.alloc (.cells #[.int .i64 0, .slice none 0 0, .int .i64 0, .slice none 0 0] 87)).setRow wc.heap.size #[.int .i64 k, .slice a n c, .int .i64 z, .slice b2 m2 c2] = W := ⟨_, rfl⟩
    have hM := G.meetB (T := 87) #[.int .i64 k, .slice a n c, .int .i64 z, .slice b2 m2 c2] RS1
    rw [<- World.setRow_alloc_new wc #[.int .i64 0, .slice none 0 0, .int .i64 0, .slice none 0 0] #[.int .i64 k, .slice a n c, .int .i64 z, .slice b2 m2 c2] 87, hwb] at hM
    refine zaf (i := 7) (by kernel_rfl) (zah (w' := wb) rfl (by kernel_rfl) (by rw [<- hwb]; exact zm0 (Blok.new wc _ _) rfl (by kernel_rfl) (by kernel_rfl) (by kernel_rfl) rfl (by kernel_rfl)) ⟨hM.2.2, ?_⟩)
    refine wpAnyH_done (by kernel_rfl) ?_ _
    go_wp2
    go_meet
    exact ⟨wc.heap.size, rfl, Zh hM.1, Zh hM.2.1, Zh hM.2.2⟩
   ·skip
    have RA : (fun w' => Below w5.heap.size w5 w') ((World.drew w5).alloc (.cells #[.int .i64 0, .slice none 0 0, .int .i64 0, .slice none 0 0] 87)) := Below.alloc RS0 (Below.size RS0) _
    refine zam (v := .pointer (some ⟨w5.heap.size, 0, none⟩)) (w' := ((World.drew w5).alloc (.cells #[.int .i64 0, .slice none 0 0, .int .i64 0, .slice none 0 0] 87))) rfl (by kernel_rfl) (by kernel_rfl) ⟨RA, ?_⟩
    refine Zc 2 40 #[.agg #[.int .i64 k, .slice a n c]] (zwr k a n c xs _ (HD0.out.below RA)) ?_
    rintro e wc ⟨rfl, hb⟩
    rw [HL.out]
    refine Zu (Zr RA hb) fun RS1 => ?_
    refine wpAnyH_take (i := 3) (v := .int .i64 z) rfl (by kernel_rfl) (by kernel_rfl) (by kernel_rfl) (fun _ _ _ h => h) (.inl ⟨by kernel_rfl, fun w9 hS => by rw [<- HZL.out]; kernel_rfl⟩) RS1 ?_
    refine tk 5 (.agg #[.int .i64 k, .slice a n c, .int .i64 z, .slice b2 m2 c2]) RS1 ?_
    obtain ⟨wb, hwb⟩ : ∃ W, wc.setRow w5.heap.size #[.int .i64 k, .slice a n c, .int .i64 z, .slice b2 m2 c2] = W := ⟨_, rfl⟩
    have hM := G.meetA (T := 87) #[.int .i64 0, .slice none 0 0, .int .i64 0, .slice none 0 0] #[.int .i64 k, .slice a n c, .int .i64 z, .slice b2 m2 c2] hb
    rw [hwb] at hM
    refine zaf (i := 7) (by kernel_rfl) (zah (w' := wb) rfl (by kernel_rfl) (by rw [<- hwb]; exact zm0 (G.meetK #[.int .i64 0, .slice none 0 0, .int .i64 0, .slice none 0 0] hb) rfl (by kernel_rfl) (by kernel_rfl) (by kernel_rfl) rfl (by kernel_rfl)) ⟨hM.2.2, ?_⟩)
    refine wpAnyH_done (by kernel_rfl) ?_ _
    go_wp2
    go_meet
    exact ⟨w5.heap.size, rfl, Zh hM.1, Zh hM.2.1, Zh hM.2.2⟩
  case rest =>
  obtain ⟨g6, rfl, KP6, hg6, hbc⟩ := hcut
  obtain ⟨w6, hwm⟩ : ∃ W, W = wc := ⟨_, rfl⟩
  subst hwm
  have hb := hbc.out
  replace HI0 := Zh (HI0.out.below hb)
  replace HD0 := Zh (HD0.out.below hb)
  replace KD1 := Zk KD1 hb
  replace KS2 := Zk KS2 hb
  have KR6 := Zk KR5 hb
  replace HX5 := Zh (HX5.out.below hb)
  have HB6 := Zt HB5 hb
  clear hb hbc KR5 HB5
  have HGB : Hid (w.heap.size <= g6 /\ w1.heap.size < g6 /\ w2.heap.size < g6 /\ (∀ x, b2 = some x -> x.block ≠ g6) /\ True) := Zh ⟨Nat.le_trans HBs.out.size hg6.out, Nat.lt_of_lt_of_le KSl.out hg6.out, Nat.lt_of_lt_of_le KRl.out hg6.out, G.row_ne HXS.out (fun h => by have := HBL.out.1; rw [h] at this; simp at this) hg6.out, trivial⟩
  clear hg6 HXS KSl KRl HBs
  have HPL := Zh KP6.out.lt
  obtain ⟨w7, hw7, hb, hk⟩ := Zn w6 89 #[.func (.func 42) #[.pointer (some ⟨g6, 0, none⟩)] #[], .func (.func 43) #[.pointer (some ⟨g6, 0, none⟩)] #[], .func (.func 44) #[.pointer (some ⟨g6, 0, none⟩)] #[]]
  replace HI0 := Zh (HI0.out.below hb)
  replace HD0 := Zh (HD0.out.below hb)
  replace KD1 := Zk KD1 hb
  replace KS2 := Zk KS2 hb
  have KR7 := Zk KR6 hb
  replace HX5 := Zh (HX5.out.below hb)
  replace KP6 := Zk KP6 hb
  have HB7 := Zt HB6 hb
  have KF7 := Zh hk
  clear hb hk KR6 HB6
  obtain ⟨⟨⟨k2, f2⟩, er⟩, hst⟩ : ∃ x, G.steps z bb 0 (k, FP.files xs) = x := ⟨_, rfl⟩
  have HST := Zh hst
  have HST2 : Hid (G.steps (G.next (k, FP.files xs)) (G.recS s) 0 (k, FP.files xs) = ((k2, f2), er)) := Zh (by rw [HZ.out]; unfold G.recS; rw [HBD.out, HBB.out]; exact hst)
  clear hst
  go_wp2_with fail
  try rw [hw7]
  refine (zxq g6 w6.heap.size 0 3 rfl (by decide) k a n c z b2 m2 c2 bb xs ((k2, f2), er) w7 KP6.out HD0.out HSM.out hbl.out HX5.out hbz2.out HGB.out.2.2.2.1 ⟨KF7.out.lt, fun e => by have := HPL.out; omega⟩ (G.fv3 KF7.out) HST.out).mono ?_
  rintro e w8 ⟨a2, n2, c2, ys, rfl, KP8, HDD8, HFF, HXX, hg⟩
  have KS8 := Zh (KS2.out.grown hg (fun e => by have := HGB.out.2.1; simp only [Option.some.injEq] at e; omega))
  have KR8 := Zh (KR7.out.grown hg (fun e => by have := HGB.out.2.2.1; simp only [Option.some.injEq] at e; omega))
  have HB8 := Zh (HB7.out.grown hg HB7.out.size (fun q hq => by cases hq; exact HGB.out.1))
  have HWW : Hid (w2.heap.size < w7.heap.size /\ w.heap.size <= w7.heap.size) := Zh ⟨KR7.out.lt, HB7.out.size⟩
  clear hg HI0 HD0 KD1 KS2 KR7 HX5 KP6 KF7 HB7 hw7
  by_cases he : er = 0
  rotate_left
  ·have e1 : (er != 0) = true := by simpa using he
   obtain ⟨w9, hp9⟩ : ∃ W, w8.setRow (w2.heap.size) #[.int .i64 0, .slice none 0 0, .int .i64 0, .int .i64 0] = W := ⟨_, rfl⟩
   have hg9 : w8.grownBy w9 (some (w2.heap.size)) := by rw [<- hp9]; exact zbr _ _ _
   have HP9 := Zh hp9
   have KR9 : Hid (Blok w9 (w2.heap.size) 26 #[.int .i64 0, .slice none 0 0, .int .i64 0, .int .i64 0]) := Zh (by rw [<- hp9]; exact KR8.out.put _)
   have HB9 := Zh (HB8.out.grown hg9 HB8.out.size (fun q hq => by cases hq; exact HQ.out))
   clear hp9 hg9 KS8 KP8 HDD8 HB8
   go_wp2_with (first | (refine Zw KR8.out HP9.out ?_))
   refine bodyPost_ret (G.ret_wal2 (v := .int .i64 er) rfl w2.heap.size (by kernel_rfl) (by kernel_rfl) KR9.out) rfl ?_
   rw [G.new_err HIV.out HST2.out he]
   exact ⟨none, 0, 0, [], rfl, Zh (zf0.empty _), Zh rfl, Zh (fun b _ => dFar.nil b none), HB9.out⟩
  subst he
  have e1 : ((0 : Int) != 0) = false := rfl
  obtain ⟨p0, p1, p2, p3⟩ := G.pk KP8.out
  have y12 := Zv KS8.out 12 (.int .i64 s.now)
  obtain ⟨w9, hp9⟩ : ∃ W, w8.setRow (w2.heap.size) #[.int .i64 k2, .slice a2 n2 c2, .int .i64 z, .int .i64 s.now] = W := ⟨_, rfl⟩
  have hg9 : w8.grownBy w9 (some (w2.heap.size)) := by rw [<- hp9]; exact zbr _ _ _
  have HP9 := Zh hp9
  have KR9 : Hid (Blok w9 (w2.heap.size) 26 #[.int .i64 k2, .slice a2 n2 c2, .int .i64 z, .int .i64 s.now]) := Zh (by rw [<- hp9]; exact KR8.out.put _)
  have HDD9 := Zh (G.disk_grown HDD8.out (HXX.out _ HWW.out.1) hg9)
  have HB9 := Zh (HB8.out.grown hg9 HB8.out.size (fun q hq => by cases hq; exact HQ.out))
  clear hp9 hg9 KS8 KP8 HDD8 HB8
  go_wp2_with (first | (refine Zw KR8.out HP9.out ?_))
  refine bodyPost_ret (G.ret_wal2 (v := .int .i64 0) rfl w2.heap.size (by kernel_rfl) (by kernel_rfl) KR9.out) rfl ?_
  rw [G.new_ok HIV.out HST2.out, HZ.out]
  exact ⟨a2, n2, c2, ys, rfl, HDD9, HFF, Zh (fun b hb => HXX.out b (Nat.lt_of_lt_of_le hb HWW.out.2)), HB9.out⟩
end Go.Proofs.YtnbkkjcmblfhpaaGreat
namespace Go.Proofs.YtnbkkjcmblfhpaaGreat
namespace G
open D
theorem last_snoc (k : Int) (l : List F) (f : F) : last (k, l ++ [f]) = f.1 := by unfold last; simp
theorem snoc_of {l : List F} (h : l ≠ []) : ∃ m f, l = m ++ [f] := ⟨l.dropLast, l.getLast h, (List.dropLast_concat_getLast h).symm⟩
theorem below_last {d : D.T} (hm : D.may d) : ∀ f ∈ d.2, f.1 <= last d := by
 obtain ⟨k, l⟩ := d
 intro f hf
 by_cases h0 : l = []
 ·subst h0; cases hf
 obtain ⟨m, g, rfl⟩ := snoc_of h0
 rw [last_snoc]
 rcases List.mem_append.1 hf with h | h
 ·exact Int.le_of_lt ((List.pairwise_append.1 hm.2.2.1).2.2 f h g (by simp))
 ·simp only [List.mem_singleton] at h; rw [h]; exact Int.le_refl _
theorem last_range {d : D.T} (hm : D.may d) : 0 <= last d /\ last d <= 1073741824 := by
 obtain ⟨k, l⟩ := d
 by_cases h0 : l = []
 ·subst h0; exact ⟨Int.le_refl _, by show (0 : Int) <= _; decide⟩
 obtain ⟨m, g, rfl⟩ := snoc_of h0
 rw [last_snoc]
 have := hm.2.1 g (by simp)
 exact ⟨by have := this.1; omega, this.2.1⟩
theorem next_may {d : D.T} (hm : D.may d) : next d = last d + 1 := by
 have := last_range hm
 unfold next
 rw [IntKind.wrap_i64]; omega
theorem idx_last {l : List F} {f : F} (h : sorted (l ++ [f])) : idx (l ++ [f]) f.1 = some l.length := by
 unfold idx
 rw [List.findIdx?_append]
 have h1 : l.findIdx? (fun g => decide (g.1 = f.1)) = none := by
  rw [List.findIdx?_eq_none_iff]
  intro g hg
  have := (List.pairwise_append.1 h).2.2 g hg f (by simp)
  simp; omega
 rw [h1]
 simp
theorem getD_last (l : List F) (f : F) : (l ++ [f]).getD l.length nof = f := by simp
theorem set_last (l : List F) (f g : F) : (l ++ [f]).set l.length g = l ++ [g] := by simp
theorem make_last {d : D.T} {no : Int} (hm : D.may d) (h1 : 1 <= no /\ no <= 1073741824) (hlt : ∀ f ∈ d.2, f.1 < no) : D.make d no = if d.2.length = 12 then (d, 9) else ((d.1, d.2 ++ [(no, [], 0)]), 0) := by
 unfold D.make
 rw [if_pos ⟨hm, h1⟩]
 have hi : idx d.2 no = none := by
  unfold idx
  rw [List.findIdx?_eq_none_iff]
  intro g hg
  have := hlt g hg
  simp; omega
 rw [hi, List.filter_eq_self.2 (fun f hf => by simpa using hlt f hf), List.filter_eq_nil_iff.2 (fun f hf => by have := hlt f hf; simp; omega)]
 rfl
theorem write_last {k : Int} {l : List F} {f : F} (b : List Int) (hm : D.may (k, l ++ [f])) : D.write (k, l ++ [f]) f.1 b = if k < ((used (l ++ [f]) + b.length : Nat) : Int) then ((k, l ++ [f]), 9) else ((k, l ++ [(f.1, f.2.1 ++ b, f.2.2)]), 0) := by
 have hi := idx_last hm.2.2.1
 by_cases hc : k < ((used (l ++ [f]) + b.length : Nat) : Int)
 ·rw [if_pos hc]
  exact upd_err (d := (k, l ++ [f])) hm hi (getD_last l f) (if_pos hc) (by decide)
 ·rw [if_neg hc]
  have := upd_ok (d := (k, l ++ [f])) (g := fun f' => if k < ((used (l ++ [f]) + b.length : Nat) : Int) then (9, f') else (0, f'.1, f'.2.1 ++ b, f'.2.2)) hm hi (getD_last l f) (if_neg hc)
  rw [set_last] at this
  exact this
theorem sync_last {k : Int} {l : List F} {f : F} (hm : D.may (k, l ++ [f])) : D.sync (k, l ++ [f]) f.1 = ((k, l ++ [(f.1, f.2.1, (f.2.1.length : Int))]), 0) := by
 have := upd_ok (d := (k, l ++ [f])) (g := fun f' => (0, f'.1, f'.2.1, (f'.2.1.length : Int))) hm (idx_last hm.2.2.1) (getD_last l f) rfl
 rw [set_last] at this
 exact this
theorem steps1_eq {k : Int} {l : List F} {f : F} (b : List Int) (hm : D.may (k, l ++ [f])) : steps f.1 b 1 (k, l ++ [f]) = if k < ((used (l ++ [f]) + b.length : Nat) : Int) then ((k, l ++ [f]), 9) else ((k, l ++ [(f.1, f.2.1 ++ b, ((f.2.1 ++ b).length : Int))]), 0) := by
 have hw := write_last b hm
 have hm2 : D.may (D.write (k, l ++ [f]) f.1 b).1 := (D.op_may 1 f.1 0 b [] _).2 hm
 simp only [steps]
 by_cases hc : k < ((used (l ++ [f]) + b.length : Nat) : Int)
 ·rw [if_pos hc] at hw ⊢
  rw [hw]; rfl
 ·rw [if_neg hc] at hw ⊢
  rw [hw] at hm2 ⊢
  exact sync_last (f := (f.1, f.2.1 ++ b, f.2.2)) hm2
theorem used_snoc (l : List F) (no s : Int) : used (l ++ [(no, [], s)]) = used l := by rw [used_append]; simp [used]
theorem steps0_eq (d : D.T) (b : List Int) : steps (next d) b 0 d = if D.may d /\ last d < 1073741824 then (if d.2.length = 12 then (d, 9) else if d.1 < ((used d.2 + b.length : Nat) : Int) then ((d.1, d.2 ++ [(last d + 1, [], 0)]), 9) else ((d.1, d.2 ++ [(last d + 1, b, (b.length : Int))]), 0)) else (d, 1) := by
 by_cases hm : D.may d
 ·rw [next_may hm]
  by_cases hl : last d < 1073741824
  ·rw [if_pos ⟨hm, hl⟩]
   have hr := last_range hm
   have hk := make_last (no := last d + 1) hm ⟨by omega, by omega⟩ (fun f hf => by have := below_last hm f hf; omega)
   have hm2 : D.may (D.make d (last d + 1)).1 := (D.op_may 0 (last d + 1) 0 [] [] _).2 hm
   have e : steps (last d + 1) b 0 d = if (D.make d (last d + 1)).2 = 0 then steps (last d + 1) b 1 (D.make d (last d + 1)).1 else D.make d (last d + 1) := rfl
   rw [e]
   by_cases h12 : d.2.length = 12
   ·rw [if_pos h12] at hk ⊢
    rw [hk]; rfl
   ·rw [if_neg h12] at hk ⊢
    rw [hk] at hm2 ⊢
    rw [if_pos rfl]
    have := steps1_eq (f := (last d + 1, [], 0)) b hm2
    rw [used_snoc, List.nil_append] at this
    exact this
  ·rw [if_neg (fun h => hl h.2)]
   have e : D.make d (last d + 1) = (d, 1) := by unfold D.make; rw [if_neg (fun h => hl (by have := h.2.2; omega))]
   simp only [steps]
   rw [e]; rfl
 ·rw [if_neg (fun h => hm h.1)]
  have e : D.make d (next d) = (d, 1) := by unfold D.make; rw [if_neg (fun h => hm h.1)]
  simp only [steps]
  rw [e]; rfl
theorem recS_eq {s : Y.St} {b : List Int} (h : J.put s = some b) : recS s = R.bytes (1, b) /\ R.ok (1, b) := by
 have h1 : (J.put s).getD [] = b := by rw [h]; rfl
 have h2 := recS_ok s
 unfold recS
 rw [h1] at h2 ⊢
 exact ⟨rfl, h2⟩
theorem first_rec {s : Y.St} {b : List Int} (h : J.put s = some b) (K : List Int) : firstL (recS s ++ K) = (s, ((recS s).length : Int), true) := by
 obtain ⟨h1, h2⟩ := recS_eq h
 have hg : R.get (recS s ++ K) 0 = (0, (1, b), ((recS s).length : Int)) := by
  have := R.get_ok (L := recS s ++ K) (p := 0) (r := (1, b)) (s := (recS s).length) (Nat.zero_le _) (by rw [List.drop_zero, h1]; exact R.head_bytes h2 K)
  simpa using this
 have hr := J.read_some.2 h
 have := first_yes hg (t := s) (v := true) (by rw [hr]; rfl) (by rw [hr]; rfl)
 simpa using this
end G
end Go.Proofs.YtnbkkjcmblfhpaaGreat
namespace Go.Proofs.YtnbkkjcmblfhpaaGreat
set_option maxHeartbeats 400000
set_option maxRecDepth 100000
open Go.RowKit
theorem zul {P : Prop} {w : World} (u v : Obj) (h : Below w.heap.size w ((w.alloc u).alloc v) -> P) : P := h (((Below.refl _ w).alloc (Nat.le_refl _) u).alloc (by simp) v)
theorem zw8 (no : Int) (a : Option Addr) (n c : Nat) (B : List Int) (s : Int) (no' : Int) (a' : Option Addr) (n' c' : Nat) (B' : List Int) (s' : Int) (b : Bool) (w : World) (hx : FP.ok w ⟨no, a, n, c, B, s⟩) (hy : FP.ok w ⟨no', a', n', c', B', s'⟩) (hb : decide (((no, B, s) : D.F) = (no', B', s')) = b) :
  Calls Tryz.prog 74 #[.agg #[.int .i64 no, .slice a n c, .int .i64 s], .agg #[.int .i64 no', .slice a' n' c', .int .i64 s']] w fun e w' => e = .returned (.bool b) /\ Below w.heap.size w w' := by
 have HX := Zh hx
 have HY := Zh hy
 have HB := Zh hb
 clear hx hy hb
 by_cases h1 : no = no'
 ·by_cases h2 : s = s'
  ·have HB2 : Hid (decide (B = B') = b) := Zh (by rw [<- HB.out]; simp [h1, h2])
   subst h1 h2
   go_enter Tryz.func74, Tryz.ntmps74
   go_wp2_with fail
   refine zul (w := w) _ _ (fun hb => (zpz a a' n n' c c' B B' _ HX.out.1 HY.out.1 (HX.out.2.1.below hb) (HY.out.2.1.below hb)).mono ?_)
   rintro e w1 ⟨rfl, hb1⟩
   rw [HB2.out]
   have W1 := Zh (hb.trans (hb1.mono hb.size))
   clear hb1
   go_wp2
   go_ret
   exact ⟨rfl, W1.out⟩
  ·have HB2 : Hid (b = false) := Zh (by rw [<- HB.out]; simp [h2])
   have e1 : (s == s') = false := by simpa using h2
   subst h1
   clear h2
   go_enter Tryz.func74, Tryz.ntmps74
   go_wp2
   go_ret
   exact ⟨by rw [HB2.out]; rfl, zul (w := w) _ _ (fun hb => hb)⟩
 ·have HB2 : Hid (b = false) := Zh (by rw [<- HB.out]; simp [h1])
  have e1 : (no == no') = false := by simpa using h1
  clear h1
  go_enter Tryz.func74, Tryz.ntmps74
  go_wp2
  go_ret
  exact ⟨by rw [HB2.out]; rfl, zul (w := w) _ _ (fun hb => hb)⟩
theorem zw9 {xs ys : List FP} {k : Nat} {x y : FP} (hx : xs[k]? = some x) (hy : ys[k]? = some y) (h : FP.files (xs.take k) = FP.files (ys.take k)) (he : decide (FP.file x = FP.file y) = true) : FP.files (xs.take (k + 1)) = FP.files (ys.take (k + 1)) := by
 obtain ⟨h1, h2⟩ := List.getElem?_eq_some_iff.1 hx
 obtain ⟨h3, h4⟩ := List.getElem?_eq_some_iff.1 hy
 rw [List.take_succ_eq_append_getElem h1, List.take_succ_eq_append_getElem h3, h2, h4]
 simp only [FP.files, List.map_append] at h ⊢
 rw [h]
 simp [of_decide_eq_true he]
theorem zxr {xs ys : List FP} {k : Nat} {x y : FP} (hx : xs[k]? = some x) (hy : ys[k]? = some y) (he : decide (FP.file x = FP.file y) = false) : decide (FP.files xs = FP.files ys) = false := by
 refine decide_eq_false fun h => of_decide_eq_false he ?_
 have h1 : (FP.files xs)[k]? = some (FP.file x) := by simp [FP.files, hx]
 have h2 : (FP.files ys)[k]? = some (FP.file y) := by simp [FP.files, hy]
 rw [h, h2] at h1
 simpa using h1.symm
theorem zxa (a a' : Option Addr) (n m c c' : Nat) (xs ys : List FP) (b : Bool) (w : World) (hx : zf0 w a n c xs) (hy : zf0 w a' m c' ys) (hb : decide (FP.files xs = FP.files ys) = b) :
  Calls Tryz.prog 73 #[.slice a n c, .slice a' m c', .func (.func 74) #[] #[]] w fun e w' => e = .returned (.bool b) /\ Below w.heap.size w w' := by
 have HX := Zh hx
 have HY := Zh hy
 have HB := Zh hb
 by_cases hnm : n = m
 ·subst hnm
  have hcap := hx.caps
  have hcap' := hy.caps
  have hml : maxLen <= 9223372036854775807 := by decide
  clear hx hy hb
  go_enter Tryz.func73, Tryz.ntmps73
  go_wp2_with fail
  go_loopg [17] n (fun g i wr => ∃ k : Nat, i = .int .i64 k /\ k + g = n /\ Hid (FP.files (xs.take k) = FP.files (ys.take k)) /\ Below w.heap.size w wr)
  case atStart => exact ⟨0, rfl, by omega, Zh (by simp), Below.refl _ _⟩
  case round =>
   obtain ⟨k, rfl, hkn, HT, hB⟩ := hrel
   by_cases hlt : k < n
   ·obtain ⟨b1, o1, no1, a1, n1, c1, B1, s1, rfl, hb1, hx, p0, p1, p2, hok⟩ := ((HX.out.below hB).2.1).at (i := k) (by rw [HX.out.1]; exact hlt)
    obtain ⟨b2, o2, no2, a2, n2, c2, B2, s2, rfl, hb2, hy, q0, q1, q2, hok2⟩ := ((HY.out.below hB).2.1).at (i := k) (by rw [HY.out.1]; exact hlt)
    have HX1 := Zh hx
    have HY1 := Zh hy
    have HO1 := Zh hok
    have HO2 := Zh hok2
    clear hx hy hok hok2
    have hf := zud wr no1 a1 n1 c1 s1
    have r0 : ∀ o, (wr.alloc o).cell? ⟨b2, o2 + k * 3, none⟩ = some (.int .i64 no2) := fun o => (((Below.refl _ wr).alloc (Nat.le_refl _) o).cell (p := ⟨b2, o2 + k * 3, none⟩) hb2).trans q0
    have r1 : ∀ o, (wr.alloc o).cell? ⟨b2, o2 + k * 3 + 1, none⟩ = some (.slice a2 n2 c2) := fun o => (((Below.refl _ wr).alloc (Nat.le_refl _) o).cell (p := ⟨b2, o2 + k * 3 + 1, none⟩) hb2).trans q1
    have r2 : ∀ o, (wr.alloc o).cell? ⟨b2, o2 + k * 3 + 2, none⟩ = some (.int .i64 s2) := fun o => (((Below.refl _ wr).alloc (Nat.le_refl _) o).cell (p := ⟨b2, o2 + k * 3 + 2, none⟩) hb2).trans q2
    obtain ⟨d, hd⟩ : ∃ d, decide (((no1, B1, s1) : D.F) = (no2, B2, s2)) = d := ⟨_, rfl⟩
    have HDD := Zh hd
    clear hd
    go_wp2_with fail
    refine zul (w := wr) _ _ (fun hb => (zw8 no1 a1 n1 c1 B1 s1 no2 a2 n2 c2 B2 s2 d _ (HO1.out.below hb) (HO2.out.below hb) HDD.out).mono ?_)
    rintro e w4 ⟨rfl, hb4⟩
    have W4 := Zh (hB.trans ((hb.trans (hb4.mono hb.size)).mono hB.size))
    clear hb4 hb r0 r1 r2 p0 p1 p2 q0 q1 q2
    cases d with
    | false =>
     have HC := Zh (zxr HX1.out HY1.out HDD.out)
     go_wp2
     go_ret
     exact ⟨by rw [<- HB.out, HC.out]; rfl, W4.out⟩
    | true =>
     have HC := Zh (zw9 HX1.out HY1.out HT.out HDD.out)
     go_wp2
     go_roundg (n - (k + 1))
     case rel => exact ⟨k + 1, by go_num, by omega, HC, W4.out⟩
     case measure => omega
   ·have HE : Hid (b = true) := Zh (by
     rw [<- HB.out]
     have := HT.out
     rw [List.take_of_length_le (by rw [HX.out.1]; omega), List.take_of_length_le (by rw [HY.out.1]; omega)] at this
     exact decide_eq_true this)
    have hd : decide (k < n) = false := by simp; omega
    go_wp2
    go_ret
    exact ⟨by rw [HE.out]; rfl, hB⟩
 ·have HB2 : Hid (b = false) := Zh (by
   rw [<- HB.out]
   refine decide_eq_false fun h => hnm ?_
   have h1 := congrArg List.length h
   rw [FP.files_len, FP.files_len, HX.out.1, HY.out.1] at h1
   exact h1)
  have hd : ((n : Int) != m) = true := by simp; omega
  clear hx hy hnm hb
  go_enter Tryz.func73, Tryz.ntmps73
  go_wp2
  go_ret
  exact ⟨by rw [HB2.out]; rfl, Below.refl _ _⟩
theorem zuz (k : Int) (a : Option Addr) (n c : Nat) (xs : List FP) (k' : Int) (a' : Option Addr) (n' c' : Nat) (ys : List FP) (b : Bool) (w : World) (hx : zf0 w a n c xs) (hy : zf0 w a' n' c' ys) (hb : decide (((k, FP.files xs) : D.T) = (k', FP.files ys)) = b) :
  Calls Tryz.prog 33 #[.agg #[.int .i64 k, .slice a n c], .agg #[.int .i64 k', .slice a' n' c']] w fun e w' => e = .returned (.bool b) /\ Below w.heap.size w w' := by
 have HX := Zh hx
 have HY := Zh hy
 have HB := Zh hb
 clear hx hy hb
 by_cases h1 : k = k'
 ·have HB2 : Hid (decide (FP.files xs = FP.files ys) = b) := Zh (by rw [<- HB.out]; simp [h1])
  subst h1
  go_enter Tryz.func33, Tryz.ntmps33
  go_wp2_with fail
  refine zul (w := w) _ _ (fun hb => (zxa a a' n n' c c' xs ys b _ (HX.out.below hb) (HY.out.below hb) HB2.out).mono ?_)
  rintro e w1 ⟨rfl, hb1⟩
  have W1 := Zh (hb.trans (hb1.mono hb.size))
  clear hb1
  go_wp2
  go_ret
  exact ⟨rfl, W1.out⟩
 ·have HB2 : Hid (b = false) := Zh (by rw [<- HB.out]; simp [h1])
  have e1 : (k == k') = false := by simpa using h1
  clear h1
  go_enter Tryz.func33, Tryz.ntmps33
  go_wp2
  go_ret
  exact ⟨by rw [HB2.out]; rfl, zul (w := w) _ _ (fun hb => hb)⟩
end Go.Proofs.YtnbkkjcmblfhpaaGreat
