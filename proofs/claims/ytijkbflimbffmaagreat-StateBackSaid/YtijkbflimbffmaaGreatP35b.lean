import Derived.Test.YtijkbflimbffmaaGreatP17
namespace Go.Proofs.YtijkbflimbffmaaGreat
set_option maxHeartbeats 200000
set_option maxRecDepth 100000
open Go.RowKit
theorem znx (b : Nat) (s : Y.St) (A : Y.A9) (a : Option Addr) (n c : Nat) (l : List O.Pl) (er : Int) (w : World) (h : J.WIn w b s A) (hl : QIn w a n c l) (ho : Y.OffL b a l) :
  Calls Tryz.prog 92 #[.pointer (some ⟨b, 0, none⟩), .slice a n c, .int .i64 er] w fun r w' => r = .returned (.bool (decide (er = 0))) /\ Hid (J.WIn w' b { s with ps := l } { A with ap := a, np := n, cp := c }) /\ w.grownBy w' (some b) := by
 obtain ⟨ap, np, cp, al, nl, cl, ah, nh, ch⟩ := A
 have HS := Zh h
 have c13 := Zv h.k 13 (.slice ap np cp)
 have f13 := h.k.frozen 13
 obtain ⟨hw, kw⟩ := h.ps hl ho
 have HW := Zh hw
 have HG := Zh kw
 clear h hl ho hw kw
 obtain ⟨v, hv⟩ : ∃ v, decide (er = 0) = v := ⟨_, rfl⟩
 have hv2 : (er == 0) = v := by rw [<- hv]; rfl
 rw [hv]
 clear hv
 go_enter Tryz.func92, Tryz.ntmps92
 go_wp2
 go_ret
 exact ⟨rfl, HW, HG.out⟩
theorem zqh (b : Nat) (s : Y.St) (A : Y.A9) (e : Y.Ev) (w : World) (h : J.WIn w b s A) :
  Calls Tryz.prog 97 #[.pointer (some ⟨b, 0, none⟩), Y.eval e] w fun r w' => r = .returned (.bool true) /\ Hid (J.WIn w' b { s with p := e.p } A) /\ w.grownBy w' (some b) := by
 obtain ⟨ap, np, cp, al, nl, cl, ah, nh, ch⟩ := A
 have HS := Zh h
 have hbw : b < w.heap.size := h.k.lt
 clear h
 unfold Y.eval
 have HB0 := Zh (Below.refl w.heap.size w)
 have HS0 := HS
 obtain ⟨w1, hw1, hb, hk⟩ := Zn w 34 #[.int .i64 e.k, .int .i64 e.t, .int .i64 e.a, .int .i64 e.b, .int .i64 e.c, .int .i64 e.p.q, .int .i64 e.p.i, .int .i64 e.p.h, .bool e.p.pair]
 replace HS0 := Zh (HS0.out.below hb)
 replace HB0 := Zt HB0 hb
 have KE1 := Zh hk
 clear hb hk
 obtain ⟨r0, r1, r2, r3, r4, r5, r6, r7, r8⟩ := J.ce9 KE1.out
 have c8 := Zv HS0.out.k 8 (.int .i64 s.p.q)
 have f8 := HS0.out.k.frozen 8
 have c9 := Zv HS0.out.k 9 (.int .i64 s.p.i)
 have f9 := HS0.out.k.frozen 9
 have c10 := Zv HS0.out.k 10 (.int .i64 s.p.h)
 have f10 := HS0.out.k.frozen 10
 have c11 := Zv HS0.out.k 11 (.bool s.p.pair)
 have f11 := HS0.out.k.frozen 11
 obtain ⟨hw, kw⟩ := HS0.out.po e.p
 have HW := Zh hw
 have HG := Zh ((zbx (L.below_none HB0.out)).trans kw)
 clear hw kw
 go_enter Tryz.func97, Tryz.ntmps97
 go_wp2_with fail
 try rw [hw1]
 clear hw1
 go_wp2
 go_ret
 exact ⟨rfl, HW, HG.out⟩
end Go.Proofs.YtijkbflimbffmaaGreat
