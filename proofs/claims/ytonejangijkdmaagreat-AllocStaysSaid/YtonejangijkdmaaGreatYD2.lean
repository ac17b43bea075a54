import Derived.Test.YtonejangijkdmaaGreatYD1
import Derived.Recover
import Derived.Defers
namespace Go.Proofs.YtonejangijkdmaaGreat
set_option maxHeartbeats 4000000
set_option maxRecDepth 100000
open Go.RowKit
theorem zk0 {fn : Func} {p : Tmp} (h : fn.results = #[.cell p 86]) {tmps : Array Value} {V : World} (g : Nat) (hp : tmps.getD p undef = .pointer (some ⟨g, 0, none⟩)) (hg : Blok V g 86 #[.func (.func 81) #[] #[], .func (.func 82) #[] #[], .func (.func 83) #[] #[], .func (.func 84) #[] #[], .func (.func 85) #[] #[], .func (.func 86) #[] #[], .func (.func 87) #[] #[], .func (.func 88) #[] #[], .func (.func 89) #[] #[]]) :
  (results fn tmps).run Tryz.prog V = .ok (.agg #[.func (.func 81) #[] #[], .func (.func 82) #[] #[], .func (.func 83) #[] #[], .func (.func 84) #[] #[], .func (.func 85) #[] #[], .func (.func 86) #[] #[], .func (.func 87) #[] #[], .func (.func 88) #[] #[], .func (.func 89) #[] #[]]) V := by
 have hp' : tmps[p]?.getD undef = .pointer (some ⟨g, 0, none⟩) := by simpa using hp
 have hl := run_loadVar_row (P := Tryz.prog) V g 86 86 #[.func (.func 81) #[] #[], .func (.func 82) #[] #[], .func (.func 83) #[] #[], .func (.func 84) #[] #[], .func (.func 85) #[] #[], .func (.func 86) #[] #[], .func (.func 87) #[] #[], .func (.func 88) #[] #[], .func (.func 89) #[] #[]] (0, 0) _ hg Tryz.underlying86 rfl (by kernel_rfl)
 simp [results, h, hp', asAddr, hl]
theorem zg4 (w : World) : Calls Tryz.prog 40 #[] w fun e w' => e = .returned (.agg #[.func (.func 81) #[] #[], .func (.func 82) #[] #[], .func (.func 83) #[] #[], .func (.func 84) #[] #[], .func (.func 85) #[] #[], .func (.func 86) #[] #[], .func (.func 87) #[] #[], .func (.func 88) #[] #[], .func (.func 89) #[] #[]]) /\ Below w.heap.size w w' := by
 have KN := Blok.new w 86 #[.nilFunc, .nilFunc, .nilFunc, .nilFunc, .nilFunc, .nilFunc, .nilFunc, .nilFunc, .nilFunc]
 have KF := Zh (Blok.new w 86 #[.func (.func 81) #[] #[], .func (.func 82) #[] #[], .func (.func 83) #[] #[], .func (.func 84) #[] #[], .func (.func 85) #[] #[], .func (.func 86) #[] #[], .func (.func 87) #[] #[], .func (.func 88) #[] #[], .func (.func 89) #[] #[]])
 have n0 : (w.alloc (.cells #[.nilFunc, .nilFunc, .nilFunc, .nilFunc, .nilFunc, .nilFunc, .nilFunc, .nilFunc, .nilFunc] 86)).cell? ⟨w.heap.size, 0, none⟩ = some (.nilFunc) := KN.cell 0
 have nf0 := KN.frozen 0
 have n1 : (w.alloc (.cells #[.nilFunc, .nilFunc, .nilFunc, .nilFunc, .nilFunc, .nilFunc, .nilFunc, .nilFunc, .nilFunc] 86)).cell? ⟨w.heap.size, 1, none⟩ = some (.nilFunc) := KN.cell 1
 have nf1 := KN.frozen 1
 have n2 : (w.alloc (.cells #[.nilFunc, .nilFunc, .nilFunc, .nilFunc, .nilFunc, .nilFunc, .nilFunc, .nilFunc, .nilFunc] 86)).cell? ⟨w.heap.size, 2, none⟩ = some (.nilFunc) := KN.cell 2
 have nf2 := KN.frozen 2
 have n3 : (w.alloc (.cells #[.nilFunc, .nilFunc, .nilFunc, .nilFunc, .nilFunc, .nilFunc, .nilFunc, .nilFunc, .nilFunc] 86)).cell? ⟨w.heap.size, 3, none⟩ = some (.nilFunc) := KN.cell 3
 have nf3 := KN.frozen 3
 have n4 : (w.alloc (.cells #[.nilFunc, .nilFunc, .nilFunc, .nilFunc, .nilFunc, .nilFunc, .nilFunc, .nilFunc, .nilFunc] 86)).cell? ⟨w.heap.size, 4, none⟩ = some (.nilFunc) := KN.cell 4
 have nf4 := KN.frozen 4
 have n5 : (w.alloc (.cells #[.nilFunc, .nilFunc, .nilFunc, .nilFunc, .nilFunc, .nilFunc, .nilFunc, .nilFunc, .nilFunc] 86)).cell? ⟨w.heap.size, 5, none⟩ = some (.nilFunc) := KN.cell 5
 have nf5 := KN.frozen 5
 have n6 : (w.alloc (.cells #[.nilFunc, .nilFunc, .nilFunc, .nilFunc, .nilFunc, .nilFunc, .nilFunc, .nilFunc, .nilFunc] 86)).cell? ⟨w.heap.size, 6, none⟩ = some (.nilFunc) := KN.cell 6
 have nf6 := KN.frozen 6
 have n7 : (w.alloc (.cells #[.nilFunc, .nilFunc, .nilFunc, .nilFunc, .nilFunc, .nilFunc, .nilFunc, .nilFunc, .nilFunc] 86)).cell? ⟨w.heap.size, 7, none⟩ = some (.nilFunc) := KN.cell 7
 have nf7 := KN.frozen 7
 have n8 : (w.alloc (.cells #[.nilFunc, .nilFunc, .nilFunc, .nilFunc, .nilFunc, .nilFunc, .nilFunc, .nilFunc, .nilFunc] 86)).cell? ⟨w.heap.size, 8, none⟩ = some (.nilFunc) := KN.cell 8
 have nf8 := KN.frozen 8
 have HB := Zh ((Below.refl _ w).alloc (Nat.le_refl _) (.cells #[.func (.func 81) #[] #[], .func (.func 82) #[] #[], .func (.func 83) #[] #[], .func (.func 84) #[] #[], .func (.func 85) #[] #[], .func (.func 86) #[] #[], .func (.func 87) #[] #[], .func (.func 88) #[] #[], .func (.func 89) #[] #[]] 86))
 have hst : ∀ (a : Addr) (f : Fn) (x y : Array Value) (w : World), Sem.run Tryz.prog (store a (.func f x y)) w = stored Tryz.prog w a (.func f x y) .plain := fun a f x y w => run_store Tryz.prog w a _ _ rfl
 go_enter Tryz.func40, Tryz.ntmps40
 go_wp2
 refine bodyPost_ret (zk0 rfl w.heap.size (by kernel_rfl) KF.out) rfl ?_
 exact ⟨rfl, HB.out⟩
theorem zk1 (a b c d : Nat) (w : World) :
  CallsD Tryz.prog 37 #[.pointer (some ⟨a, 0, none⟩), .pointer (some ⟨b, 0, none⟩), .pointer (some ⟨c, 0, none⟩), .pointer (some ⟨d, 0, none⟩)] .returning w fun e u' w' => e = .returned (.tuple #[]) /\ u' = .returning /\ w' = w := by
 have hta : ∀ w, Sem.run Tryz.prog (Instr.typeAssert Value.nilIface 20 38 true) w = .ok (.tuple #[.int .i64 0, .bool false]) w := fun _ => by kernel_rfl
 refine callsD_of_wpS Tryz.func37 rfl fun c₀ cs hu => ?_
 apply wpS_seq
 apply wpS_region
 simp [wpOpsS, go_sem, recoverD, hu, Tryz.ntmps37, Exit.thenS, hta]
 apply wpS_seq
 apply wpS_region
 simp [wpOpsS, go_sem, Exit.thenS]
 refine wpS_cond (t := false) (by simp [Act.eval]) ?_
 simp only [Bool.false_eq_true, if_false]
 refine wpS_of_wp (wp_skip ?_)
 cases c₀
 simp_all [bodyPostS, results, Tryz.results37]
theorem zk2 (er : Int) (s : Y.St) (b1 b2 b3 : Option Addr) (m1 d1 m2 d2 m3 d3 : Nat) (b c d : Nat) (w w1 w2 : World) (_hab : True) (hbc : b < c) (hcd : c < d) (hdw : d < w.heap.size)
  (HO : Y.OwnR w1 w.heap.size s ⟨b1, m1, d1, b2, m2, d2, b3, m3, d3⟩) (hb : Below w.heap.size w w1) (KY : Blok w2 b 32 #[.int .i64 s.d.b, .int .i64 s.d.k, .int .i64 s.d.c, .int .i64 s.d.j, .int .i64 s.d.lo, .int .i64 s.d.hi, .int .i64 s.d.dy, .int .i64 s.d.bl, .int .i64 s.p.q, .int .i64 s.p.i, .int .i64 s.p.h, .bool s.p.pair, .int .i64 s.now, .slice b1 m1 d1, .slice b2 m2 d2, .slice b3 m3 d3]) (GY : w1.grownBy w2 (some b)) (KC : Blok w1 c 37 #[.slice none 0 0]) (KD : Blok w1 d 40 #[.int .i64 0, .int .i64 0, .int .i64 0]) :
  Y.OwnR ((((w2.setCell ⟨c, 0, none⟩ (.slice none 0 0)).setCell ⟨d, 0, none⟩ (.int .i64 er)).setCell ⟨d, 1, none⟩ (.int .i64 0)).setCell ⟨d, 2, none⟩ (.int .i64 0)) w.heap.size s ⟨b1, m1, d1, b2, m2, d2, b3, m3, d3⟩ /\
  Blok ((((w2.setCell ⟨c, 0, none⟩ (.slice none 0 0)).setCell ⟨d, 0, none⟩ (.int .i64 er)).setCell ⟨d, 1, none⟩ (.int .i64 0)).setCell ⟨d, 2, none⟩ (.int .i64 0)) b 32 #[.int .i64 s.d.b, .int .i64 s.d.k, .int .i64 s.d.c, .int .i64 s.d.j, .int .i64 s.d.lo, .int .i64 s.d.hi, .int .i64 s.d.dy, .int .i64 s.d.bl, .int .i64 s.p.q, .int .i64 s.p.i, .int .i64 s.p.h, .bool s.p.pair, .int .i64 s.now, .slice b1 m1 d1, .slice b2 m2 d2, .slice b3 m3 d3] /\
  Blok ((((w2.setCell ⟨c, 0, none⟩ (.slice none 0 0)).setCell ⟨d, 0, none⟩ (.int .i64 er)).setCell ⟨d, 1, none⟩ (.int .i64 0)).setCell ⟨d, 2, none⟩ (.int .i64 0)) c 37 #[.slice none 0 0] /\
  Blok ((((w2.setCell ⟨c, 0, none⟩ (.slice none 0 0)).setCell ⟨d, 0, none⟩ (.int .i64 er)).setCell ⟨d, 1, none⟩ (.int .i64 0)).setCell ⟨d, 2, none⟩ (.int .i64 0)) d 40 #[.int .i64 er, .int .i64 0, .int .i64 0] /\
  Below b w ((((w2.setCell ⟨c, 0, none⟩ (.slice none 0 0)).setCell ⟨d, 0, none⟩ (.int .i64 er)).setCell ⟨d, 1, none⟩ (.int .i64 0)).setCell ⟨d, 2, none⟩ (.int .i64 0)) := by
 have g1 := grown_set w2 c 0 (.slice none 0 0)
 have g2 := ((grown_set (w2.setCell ⟨c, 0, none⟩ (.slice none 0 0)) d 0 (.int .i64 er)).trans (grown_set _ d 1 (.int .i64 0))).trans (grown_set _ d 2 (.int .i64 0))
 refine ⟨(((HO.far GY (by omega)).far g1 (by omega)).far g2 (by omega)), (KY.grown g1 (by simp; omega)).grown g2 (by simp; omega), ?_, ?_, ?_⟩
 ·have := (KC.grown GY (by simp; omega)).set 0 (.slice none 0 0)
  exact (by simpa using this : Blok (w2.setCell ⟨c, 0, none⟩ (.slice none 0 0)) c 37 #[.slice none 0 0]).grown g2 (by simp; omega)
 ·have := ((((KD.grown GY (by simp; omega)).grown g1 (by simp; omega)).set 0 (.int .i64 er)).set 1 (.int .i64 0)).set 2 (.int .i64 0)
  simpa using this
 ·exact (((hb.mono (by omega)).grown GY (by have := hb.size; omega) (fun q hq => by cases hq; omega)).grown g1 (by have := hb.size; have := GY.size; omega) (fun q hq => by cases hq; omega)).grown g2 (by have := hb.size; have := GY.size; simp; omega) (fun q hq => by cases hq; omega)
theorem ze4 (er : Int) (s : Y.St) (A : Y.A9) (a b c d : Nat) (w : World) (h : Y.SIn w A s) (hn : A.np <= 1000 /\ A.nl <= 1000 /\ A.nh <= 1000) (KS : Blok w a 32 #[.int .i64 s.d.b, .int .i64 s.d.k, .int .i64 s.d.c, .int .i64 s.d.j, .int .i64 s.d.lo, .int .i64 s.d.hi, .int .i64 s.d.dy, .int .i64 s.d.bl, .int .i64 s.p.q, .int .i64 s.p.i, .int .i64 s.p.h, .bool s.p.pair, .int .i64 s.now, .slice A.ap A.np A.cp, .slice A.al A.nl A.cl, .slice A.ah A.nh A.ch]) (KB : Blok w b 32 #[.int .i64 0, .int .i64 0, .int .i64 0, .int .i64 0, .int .i64 0, .int .i64 0, .int .i64 0, .int .i64 0, .int .i64 0, .int .i64 0, .int .i64 0, .bool false, .int .i64 0, .slice none 0 0, .slice none 0 0, .slice none 0 0]) (KC : Blok w c 37 #[.slice none 0 0]) (KD : Blok w d 40 #[.int .i64 0, .int .i64 0, .int .i64 0]) (hlt : True /\ b < c /\ c < d) :
  CallsD Tryz.prog 37 #[.pointer (some ⟨a, 0, none⟩), .pointer (some ⟨b, 0, none⟩), .pointer (some ⟨c, 0, none⟩), .pointer (some ⟨d, 0, none⟩)] (.panicking (Y.pan er)) w fun e u' w' => e = .returned (.tuple #[]) /\ u' = .panicking [{ v := .iface 38 (.int .i64 er), recovered := true }] /\ ∃ b1 m1 d1 b2 m2 d2 b3 m3 d3, Y.OwnR w' w.heap.size s ⟨b1, m1, d1, b2, m2, d2, b3, m3, d3⟩ /\ Blok w' b 32 #[.int .i64 s.d.b, .int .i64 s.d.k, .int .i64 s.d.c, .int .i64 s.d.j, .int .i64 s.d.lo, .int .i64 s.d.hi, .int .i64 s.d.dy, .int .i64 s.d.bl, .int .i64 s.p.q, .int .i64 s.p.i, .int .i64 s.p.h, .bool s.p.pair, .int .i64 s.now, .slice b1 m1 d1, .slice b2 m2 d2, .slice b3 m3 d3] /\ Blok w' c 37 #[.slice none 0 0] /\ Blok w' d 40 #[.int .i64 er, .int .i64 0, .int .i64 0] /\ Below b w w' := by
 obtain ⟨ap, np, cp, al, nl, cl, ah, nh, ch⟩ := A
 obtain ⟨hab, hbc, hcd⟩ := hlt
 have HKS := Zh KS
 have HKB := Zh KB
 have HKC := Zh KC
 have HKD := Zh KD
 have hdw : d < w.heap.size := KD.lt
 have c0 := Y.cs16 HKS.out
 have co := zfr s ⟨ap, np, cp, al, nl, cl, ah, nh, ch⟩ w h hn
 unfold Y.val at co
 clear KS KB KC KD h hn
 unfold Y.pan
 have hta : ∀ w, Sem.run Tryz.prog (Instr.typeAssert (.iface 38 (.int .i64 er)) 20 38 true) w = .ok (.tuple #[.int .i64 er, .bool true]) w := fun _ => by kernel_rfl
 refine callsD_of_wpS Tryz.func37 rfl fun c₀ cs hu => ?_
 apply wpS_seq
 apply wpS_region
 simp [wpOpsS, go_sem, recoverD, hu, Tryz.ntmps37, Exit.thenS, hta]
 apply wpS_seq
 apply wpS_region
 simp [wpOpsS, go_sem, Exit.thenS]
 refine wpS_cond (t := true) (by simp [Act.eval]) ?_
 simp only [if_true]
 refine wpS_of_wp ?_
 go_wp2_with fail
 refine co.mono ?_
 clear c0 co hta
 rintro e w1 ⟨⟨b1, m1, d1, b2, m2, d2, b3, m3, d3⟩, rfl, HO, hb⟩
 have HB := Zh hb
 have KB1 := Zk HKB hb
 have KC1 := Zk HKC hb
 have KD1 := Zk HKD hb
 dsimp only
 have z0 := Zv KB1.out 0 (.int .i64 0)
 have zf0 := KB1.out.frozen 0
 have z1 := Zv KB1.out 1 (.int .i64 0)
 have zf1 := KB1.out.frozen 1
 have z2 := Zv KB1.out 2 (.int .i64 0)
 have zf2 := KB1.out.frozen 2
 have z3 := Zv KB1.out 3 (.int .i64 0)
 have zf3 := KB1.out.frozen 3
 have z4 := Zv KB1.out 4 (.int .i64 0)
 have zf4 := KB1.out.frozen 4
 have z5 := Zv KB1.out 5 (.int .i64 0)
 have zf5 := KB1.out.frozen 5
 have z6 := Zv KB1.out 6 (.int .i64 0)
 have zf6 := KB1.out.frozen 6
 have z7 := Zv KB1.out 7 (.int .i64 0)
 have zf7 := KB1.out.frozen 7
 have z8 := Zv KB1.out 8 (.int .i64 0)
 have zf8 := KB1.out.frozen 8
 have z9 := Zv KB1.out 9 (.int .i64 0)
 have zf9 := KB1.out.frozen 9
 have z10 := Zv KB1.out 10 (.int .i64 0)
 have zf10 := KB1.out.frozen 10
 have z11 := Zv KB1.out 11 (.bool false)
 have zf11 := KB1.out.frozen 11
 have z12 := Zv KB1.out 12 (.int .i64 0)
 have zf12 := KB1.out.frozen 12
 have z13 := Zv KB1.out 13 (.slice none 0 0)
 have zf13 := KB1.out.frozen 13
 have z14 := Zv KB1.out 14 (.slice none 0 0)
 have zf14 := KB1.out.frozen 14
 have z15 := Zv KB1.out 15 (.slice none 0 0)
 have zf15 := KB1.out.frozen 15
 have y0 := Zv KC1.out 0 (.slice none 0 0)
 have yf0 := KC1.out.frozen 0
 have x0 := Zv KD1.out 0 (.int .i64 0)
 have xf0 := KD1.out.frozen 0
 have x1 := Zv KD1.out 1 (.int .i64 0)
 have xf1 := KD1.out.frozen 1
 have x2 := Zv KD1.out 2 (.int .i64 0)
 have xf2 := KD1.out.frozen 2
 obtain ⟨KY, GY⟩ := Y.set16 KB1.out s b1 m1 d1 b2 m2 d2 b3 m3 d3
 have HF := zk2 er s b1 b2 b3 m1 d1 m2 d2 m3 d3 b c d w w1 _ hab hbc hcd hdw HO.out HB.out KY GY KC1.out KD1.out
 obtain ⟨w9, hw9⟩ : ∃ W, (((((((((((((((((((w1.setCell ⟨b, 0, none⟩ (.int .i64 s.d.b)).setCell ⟨b, 1, none⟩ (.int .i64 s.d.k)).setCell ⟨b, 2, none⟩ (.int .i64 s.d.c)).setCell ⟨b, 3, none⟩ (.int .i64 s.d.j)).setCell ⟨b, 4, none⟩ (.int .i64 s.d.lo)).setCell ⟨b, 5, none⟩ (.int .i64 s.d.hi)).setCell ⟨b, 6, none⟩ (.int .i64 s.d.dy)).setCell ⟨b, 7, none⟩ (.int .i64 s.d.bl)).setCell ⟨b, 8, none⟩ (.int .i64 s.p.q)).setCell ⟨b, 9, none⟩ (.int .i64 s.p.i)).setCell ⟨b, 10, none⟩ (.int .i64 s.p.h)).setCell ⟨b, 11, none⟩ (.bool s.p.pair)).setCell ⟨b, 12, none⟩ (.int .i64 s.now)).setCell ⟨b, 13, none⟩ (.slice b1 m1 d1)).setCell ⟨b, 14, none⟩ (.slice b2 m2 d2)).setCell ⟨b, 15, none⟩ (.slice b3 m3 d3)).setCell ⟨c, 0, none⟩ (.slice none 0 0)).setCell ⟨d, 0, none⟩ (.int .i64 er)).setCell ⟨d, 1, none⟩ (.int .i64 0)).setCell ⟨d, 2, none⟩ (.int .i64 0) = W := ⟨_, rfl⟩
 rw [hw9] at HF
 have HF9 := Zh HF
 have HW9 := Zh hw9
 clear HF hw9 KY GY
 go_wp2
 rw [HW9.out]
 obtain ⟨f1, f2, f3, f4, f5⟩ := HF9.out
 clear HF9 HW9 HB KB1 KC1 KD1 HO HKS HKB HKC HKD hb z0 zf0 z1 zf1 z2 zf2 z3 zf3 z4 zf4 z5 zf5 z6 zf6 z7 zf7 z8 zf8 z9 zf9 z10 zf10 z11 zf11 z12 zf12 z13 zf13 z14 zf14 z15 zf15 y0 yf0 x0 x1 x2 xf0 xf1 xf2
 cases c₀
 simp [bodyPostS, results, Tryz.results37]
 exact ⟨b1, m1, d1, b2, m2, d2, b3, m3, d3, f1, f2, f3, f4, f5⟩
end Go.Proofs.YtonejangijkdmaaGreat
