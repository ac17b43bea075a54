import Derived.Test.YtijkbflimbffmaaGreatP17
import Derived.Test.YtijkbflimbffmaaGreatP6
namespace Go.Proofs.YtijkbflimbffmaaGreat
set_option maxHeartbeats 400000
set_option maxRecDepth 100000
open Go.RowKit
theorem zr0 (s : Y.St) (A : Y.A9) (hm : Y.May s) (w : World) (h : Y.SIn w A s) :
  Calls Tryz.prog 106 #[Y.val s A] w fun e w' => ∃ a c, e = .returned (.slice a (J.nums s).length c) /\ Hid (zfv .i64 w' a c (J.nums s)) /\ Below w.heap.size w w' := by
 obtain ⟨i0, hi, hz0, hz1, hz2⟩ := info_parts zl3
 obtain ⟨ap, np, cp, al, nl, cl, ah, nh, ch⟩ := A
 have hll : s.l.length = nl := h.l.1
 have hlh : s.h.length = nh := h.h.1
 have hlp : s.ps.length = np := h.p.1
 have hp3 := hm.2.2.1.2.2.1
 have HBD := Zh (J.nums_isn hm)
 have hbl := J.held_len hm
 have hbm := hm.2.2.2.2.1
 have HB0 := Zh (Below.refl w.heap.size w)
 have HI := Zh h
 clear h hm
 obtain ⟨pp, hpp⟩ : ∃ b, s.p.pair = b := ⟨_, rfl⟩
 have HPP := Zh hpp
 unfold Y.val
 obtain ⟨w1, hw1, hb, hk⟩ := Zn w 32 #[.int .i64 s.d.b, .int .i64 s.d.k, .int .i64 s.d.c, .int .i64 s.d.j, .int .i64 s.d.lo, .int .i64 s.d.hi, .int .i64 s.d.dy, .int .i64 s.d.bl, .int .i64 s.p.q, .int .i64 s.p.i, .int .i64 s.p.h, .bool s.p.pair, .int .i64 s.now, .slice ap np cp, .slice al nl cl, .slice ah nh ch]
 replace HB0 := Zt HB0 hb
 have KS1 := Zh hk
 clear hb hk
 obtain ⟨c0, c1, c2, c3, c4, c5, c6, c7, c8, c9, c10, c11, c12, c13, c14, c15⟩ := Y.cs16 KS1.out
 rw [hpp] at c11
 clear hpp
 go_enter Tryz.func106, Tryz.ntmps106
 obtain ⟨w2, hw2⟩ : ∃ W, w1.alloc (.cells #[.int .i64 s.d.b, .int .i64 s.d.k, .int .i64 s.d.c, .int .i64 s.d.j, .int .i64 s.d.lo, .int .i64 s.d.hi, .int .i64 s.d.dy, .int .i64 s.d.bl, .int .i64 s.p.q, .int .i64 s.p.i, .int .i64 s.p.h, .int .i64 0, .int .i64 s.now, .int .i64 nl, .int .i64 nh] 3) = W := ⟨_, rfl⟩
 have hb2 : Below w1.heap.size w1 w2 := by rw [<- hw2]; exact (Below.refl _ w1).alloc (Nat.le_refl _) _
 have KN2 : Hid (Blok w2 w1.heap.size 3 #[.int .i64 s.d.b, .int .i64 s.d.k, .int .i64 s.d.c, .int .i64 s.d.j, .int .i64 s.d.lo, .int .i64 s.d.hi, .int .i64 s.d.dy, .int .i64 s.d.bl, .int .i64 s.p.q, .int .i64 s.p.i, .int .i64 s.p.h, .int .i64 0, .int .i64 s.now, .int .i64 nl, .int .i64 nh]) := Zh (by rw [<- hw2]; exact Blok.new w1 _ _)
 replace KS1 := Zk KS1 hb2
 replace HB0 := Zt HB0 hb2
 have hw1s : w1.heap.size = w.heap.size + 1 := by rw [<- hw1]; simp
 have HI2 := Zh (HI.out.below HB0.out)
 clear hb2
 rw [hw1s] at KN2
 have n11 := KN2.out.cell 11
 have n11' : w2.cell? ⟨w.heap.size + 1, 11, none⟩ = some (.int .i64 0) := n11
 clear n11
 have f11 := KN2.out.frozen 11
 have k11 : w2.cell? ⟨w.heap.size, 11, none⟩ = some (.bool pp) := by rw [<- HPP.out]; exact KS1.out.cell 11
 have k13 := Zv KS1.out 13 (.slice ap np cp)
 obtain ⟨w3, hw3⟩ : ∃ W, w2.setCell ⟨w.heap.size + 1, 11, none⟩ (.int .i64 1) = W := ⟨_, rfl⟩
 have g3 : w2.grownBy w3 (some (w.heap.size + 1)) := by rw [<- hw3]; exact grown_set _ _ _ _
 have KN3 : Hid (Blok w3 (w.heap.size + 1) 3 #[.int .i64 s.d.b, .int .i64 s.d.k, .int .i64 s.d.c, .int .i64 s.d.j, .int .i64 s.d.lo, .int .i64 s.d.hi, .int .i64 s.d.dy, .int .i64 s.d.bl, .int .i64 s.p.q, .int .i64 s.p.i, .int .i64 s.p.h, .int .i64 1, .int .i64 s.now, .int .i64 nl, .int .i64 nh]) := Zh (by rw [<- hw3]; have := KN2.out.set 11 (.int .i64 1); simpa using this)
 have KS3 := Zh (KS1.out.grown g3 (by simp))
 have HB3 := Zh (HB0.out.grown g3 HB0.out.size (fun q hq => by cases hq; omega))
 have HI3 : Hid (Y.SIn w3 ⟨ap, np, cp, al, nl, cl, ah, nh, ch⟩ s) := Zh (HI.out.below HB3.out)
 have q13 : (w2.setCell ⟨w.heap.size + 1, 11, none⟩ (.int .i64 1)).cell? ⟨w.heap.size, 13, none⟩ = some (.slice ap np cp) := by rw [hw3]; exact KS3.out.cell 13
 have HW3 := Zh hw3
 clear g3 hw3
 have key : ∀ (W : World), Hid (Blok W (w.heap.size + 1) 3 ((J.nums15 s).map (Value.int .i64)).toArray) -> Hid (W.ownsRow w.heap.size 3 1 (.slice (some ⟨w.heap.size + 1, 0, none⟩) 15 15) 15 ((J.nums15 s).map (Value.int .i64))) := fun W hk => Zh (hk.out.own (by omega) rfl (by decide) (by decide) rfl)
 cases pp with
 | false =>
  go_wp2_with fail
  have KP2 : Hid (Blok w2 (w.heap.size + 1) 3 ((J.nums15 s).map (Value.int .i64)).toArray) := by
   have e : (J.nums15 s).map (Value.int .i64) = [.int .i64 s.d.b, .int .i64 s.d.k, .int .i64 s.d.c, .int .i64 s.d.j, .int .i64 s.d.lo, .int .i64 s.d.hi, .int .i64 s.d.dy, .int .i64 s.d.bl, .int .i64 s.p.q, .int .i64 s.p.i, .int .i64 s.p.h, .int .i64 0, .int .i64 s.now, .int .i64 nl, .int .i64 nh] := by unfold J.nums15 J.b1; rw [HPP.out, hll, hlh]; rfl
   rw [e]; exact KN2
  have HR := key _ KP2
  clear key q13 k11 k13 n11' f11 HW3 KN3 KS3 HB3 HI3 KN2
  go_loopw [3, 60] (fun v i wr => ∃ (k g1 c1 : Nat), v = .slice (some ⟨g1, 0, none⟩) (15 + 3 * k) c1 /\ i = .int .i64 k /\ k <= np /\ Hid (wr.ownsRow w.heap.size 3 1 (.slice (some ⟨g1, 0, none⟩) (15 + 3 * k) c1) (15 + 3 * k) ((J.nums15 s ++ J.plN (s.ps.take k)).map (Value.int .i64))) /\ Hid (Below w.heap.size w wr)) (fun _ i _ => np - (intOf i).toNat)
  case atStart => exact ⟨0, w.heap.size + 1, 15, rfl, rfl, by omega, by simpa [J.plN] using HR, HB0⟩
  case round =>
   obtain ⟨k, g1, c1, rfl, rfl, hkn, HRr, HBr⟩ := hrel
   have hbs := HBr.out.size
   by_cases hlt : k < np
   ·have d1 : decide ((k : Int) < np) = true := by simp; omega
    obtain ⟨bb, off, x, rfl, hxb, hx, p0, p1, p2⟩ := ((HI.out.p : QIn w ap np cp s.ps).below HBr.out).at hlt
    have i0' : (0 : Int) <= k := by omega
    have i1 : (k : Int) < np := by omega
    have HX := Zh hx
    clear hx
    obtain ⟨w5, hw5, hb5, hk5⟩ := Zn wr 111 #[.int .i64 x.f, .int .i64 x.n, .int .i64 x.s]
    have HB5 := Zt HBr hb5
    have HR5 := Zh (zab HRr.out hb5)
    have x0 := Zv hk5 0 (.int .i64 x.f)
    have x1 := Zv hk5 1 (.int .i64 x.n)
    have x2 := Zv hk5 2 (.int .i64 x.s)
    have hs5 := HB5.out.size
    clear hb5 hk5
    obtain ⟨w6, hw6, hb6, hk6⟩ := Zn w5 3 #[.int .i64 x.f, .int .i64 x.n, .int .i64 x.s]
    have HB6 := Zt HB5 hb6
    have HR6 := Zh (zab HR5.out hb6)
    have hs6 := HB6.out.size
    have K6 := Zh hk6
    clear hb6 hk6
    go_wp2_with (at_builtin; refine wpList_append_lies _ rfl _ _ 75 rfl w.heap.size 3 i0 (.int .i64 0) 1 8 Tryz.underlying75 hi hz0 hz1 hz2 rfl (by decide) _ _ _ rfl HR6.out ⟨w5.heap.size, 0, none⟩ 3 3 [.int .i64 x.f, .int .i64 x.n, .int .i64 x.s] rfl rfl (fun j u hj => J.news_at K6.out j u hj) (by simp [Value.oneCell']) (by decide) (by unfold maxLen; omega) (by omega) (by omega) _ rfl ?_; intro g2 cap2 w7 hown7 hgrow7 hat7 hlt7)
    have HB7 : Hid (Below w.heap.size w w7) := Zh (HB6.out.grown hgrow7 hs6 (fun q hq => (HR6.out.lt q hq).1))
    have HR7 : Hid (w7.ownsRow w.heap.size 3 1 (.slice (some ⟨g2, 0, none⟩) (15 + 3 * (k + 1)) cap2) (15 + 3 * (k + 1)) ((J.nums15 s ++ J.plN (s.ps.take (k + 1))).map (Value.int .i64))) := Zh (by
     have e : J.plN (s.ps.take (k + 1)) = J.plN (s.ps.take k) ++ [x.f, x.n, x.s] := by rw [List.take_add_one, HX.out]; exact J.plN_snoc _ _
     rw [e, <- List.append_assoc, List.map_append]; exact hown7)
    clear hown7 hgrow7 hat7 hlt7
    go_roundw
    case rel => exact ⟨k + 1, g2, cap2, rfl, by simp, by omega, HR7, HB7⟩
    case measure => simp [intOf]; omega
   ·have d1 : decide ((k : Int) < np) = false := by simp; omega
    obtain rfl : np = k := by omega
    go_wp2
    go_ret
    have hR := HRr.out
    rw [List.take_of_length_le (by omega)] at hR
    have e : (J.nums s).length = 15 + 3 * np := by rw [J.nums_len, hlp]
    rw [e]
    exact ⟨_, c1, rfl, Zh (zn3 hR (fun n hn => zqj (HBD.out n hn))), HBr.out⟩
 | true =>
  go_wp2_with fail
  rw [HW3.out]
  have KP3 : Hid (Blok w3 (w.heap.size + 1) 3 ((J.nums15 s).map (Value.int .i64)).toArray) := by
   have e : (J.nums15 s).map (Value.int .i64) = [.int .i64 s.d.b, .int .i64 s.d.k, .int .i64 s.d.c, .int .i64 s.d.j, .int .i64 s.d.lo, .int .i64 s.d.hi, .int .i64 s.d.dy, .int .i64 s.d.bl, .int .i64 s.p.q, .int .i64 s.p.i, .int .i64 s.p.h, .int .i64 1, .int .i64 s.now, .int .i64 nl, .int .i64 nh] := by unfold J.nums15 J.b1; rw [HPP.out, hll, hlh]; rfl
   rw [e]; exact KN3
  have HR := key _ KP3
  clear key q13 k11 k13 n11' f11 HW3  KN2 KN3 KS1 HB0 HI2
  go_loopw [3, 60] (fun v i wr => ∃ (k g1 c1 : Nat), v = .slice (some ⟨g1, 0, none⟩) (15 + 3 * k) c1 /\ i = .int .i64 k /\ k <= np /\ Hid (wr.ownsRow w.heap.size 3 1 (.slice (some ⟨g1, 0, none⟩) (15 + 3 * k) c1) (15 + 3 * k) ((J.nums15 s ++ J.plN (s.ps.take k)).map (Value.int .i64))) /\ Hid (Below w.heap.size w wr)) (fun _ i _ => np - (intOf i).toNat)
  case atStart => exact ⟨0, w.heap.size + 1, 15, rfl, rfl, by omega, by simpa [J.plN] using HR, HB3⟩
  case round =>
   obtain ⟨k, g1, c1, rfl, rfl, hkn, HRr, HBr⟩ := hrel
   have hbs := HBr.out.size
   by_cases hlt : k < np
   ·have d1 : decide ((k : Int) < np) = true := by simp; omega
    obtain ⟨bb, off, x, rfl, hxb, hx, p0, p1, p2⟩ := ((HI.out.p : QIn w ap np cp s.ps).below HBr.out).at hlt
    have i0' : (0 : Int) <= k := by omega
    have i1 : (k : Int) < np := by omega
    have HX := Zh hx
    clear hx
    obtain ⟨w5, hw5, hb5, hk5⟩ := Zn wr 111 #[.int .i64 x.f, .int .i64 x.n, .int .i64 x.s]
    have HB5 := Zt HBr hb5
    have HR5 := Zh (zab HRr.out hb5)
    have x0 := Zv hk5 0 (.int .i64 x.f)
    have x1 := Zv hk5 1 (.int .i64 x.n)
    have x2 := Zv hk5 2 (.int .i64 x.s)
    have hs5 := HB5.out.size
    clear hb5 hk5
    obtain ⟨w6, hw6, hb6, hk6⟩ := Zn w5 3 #[.int .i64 x.f, .int .i64 x.n, .int .i64 x.s]
    have HB6 := Zt HB5 hb6
    have HR6 := Zh (zab HR5.out hb6)
    have hs6 := HB6.out.size
    have K6 := Zh hk6
    clear hb6 hk6
    go_wp2_with (at_builtin; refine wpList_append_lies _ rfl _ _ 75 rfl w.heap.size 3 i0 (.int .i64 0) 1 8 Tryz.underlying75 hi hz0 hz1 hz2 rfl (by decide) _ _ _ rfl HR6.out ⟨w5.heap.size, 0, none⟩ 3 3 [.int .i64 x.f, .int .i64 x.n, .int .i64 x.s] rfl rfl (fun j u hj => J.news_at K6.out j u hj) (by simp [Value.oneCell']) (by decide) (by unfold maxLen; omega) (by omega) (by omega) _ rfl ?_; intro g2 cap2 w7 hown7 hgrow7 hat7 hlt7)
    have HB7 : Hid (Below w.heap.size w w7) := Zh (HB6.out.grown hgrow7 hs6 (fun q hq => (HR6.out.lt q hq).1))
    have HR7 : Hid (w7.ownsRow w.heap.size 3 1 (.slice (some ⟨g2, 0, none⟩) (15 + 3 * (k + 1)) cap2) (15 + 3 * (k + 1)) ((J.nums15 s ++ J.plN (s.ps.take (k + 1))).map (Value.int .i64))) := Zh (by
     have e : J.plN (s.ps.take (k + 1)) = J.plN (s.ps.take k) ++ [x.f, x.n, x.s] := by rw [List.take_add_one, HX.out]; exact J.plN_snoc _ _
     rw [e, <- List.append_assoc, List.map_append]; exact hown7)
    clear hown7 hgrow7 hat7 hlt7
    go_roundw
    case rel => exact ⟨k + 1, g2, cap2, rfl, by simp, by omega, HR7, HB7⟩
    case measure => simp [intOf]; omega
   ·have d1 : decide ((k : Int) < np) = false := by simp; omega
    obtain rfl : np = k := by omega
    go_wp2
    go_ret
    have hR := HRr.out
    rw [List.take_of_length_le (by omega)] at hR
    have e : (J.nums s).length = 15 + 3 * np := by rw [J.nums_len, hlp]
    rw [e]
    exact ⟨_, c1, rfl, Zh (zn3 hR (fun n hn => zqj (HBD.out n hn))), HBr.out⟩
end Go.Proofs.YtijkbflimbffmaaGreat
