import Derived.Shelf.Lay
import Derived.Test.YtonejangijkdmaaGreatSB
import Derived.Deep.CutRange
set_option maxHeartbeats 2000000
set_option maxRecDepth 100000
namespace Go.Proofs
open Go.Shelf Go.RowKit Go.Lib Go.Sort
shelf_lay LaysGg.n6 Ggs 6 at Tryz as Tryz.srt6
end Go.Proofs
namespace Go.Proofs.YtonejangijkdmaaGreat
open Go.Shelf Go.RowKit Go.Lib Go.Sort
theorem zds (w : World) (row : Option Nat) : ∀ n, w.grownBy (w.drewN n) row
 | 0 => World.grownBy.refl _ _
 | n + 1 => by
  have := zds w row n
  exact ⟨this.os, this.tape, this.output, this.size, this.block⟩
theorem zkk (b X : Nat) (w : World) (hX : X < 18446744073709551616) (hc : w.cell? ⟨b, 0, none⟩ = some (.int .u64 X)) (hf : w.frozen? ⟨b, 0, none⟩ = false) :
  Calls Tryz.prog 263 #[.pointer (some ⟨b, 0, none⟩)] w fun e w' => e = .returned (.int .u64 (xorNextN X : Nat)) /\ w' = (w.setCell ⟨b, 0, none⟩ (.int .u64 (xorNextN X : Nat))).drewN 3 :=
 Any.xorshift_Next { Tryz.srt6 with } b 0 X hX w hc hf
theorem zi3 (n : Nat) (w : World) (hn : n < 4611686018427387904) :
  Calls Tryz.prog 262 #[.int .i64 n] w fun e w' => e = .returned (.int .u64 ((1 <<< bitsLen n : Nat) : Int)) /\ w' = w :=
 Any.nextPowerOfTwo { Tryz.srt6 with } n hn w
open Go.RowKit Go.Sort
variable {α : Type} [Inhabited α] {lt : α -> α -> Bool} {l : Nat} {la lb : Array Value} {s : Nat} {sb : Array Value} {g n : Nat} {Sw : Array α -> World -> Prop}
def brk (a len m : Nat) : Nat -> Nat -> UInt64 × Array α -> Array α
 | 0, _, st => st.2
 | k + 1, i, st => brk a len m k (i + 1) (breakStep a len m st i)
theorem zkl {a b L q M : Nat} {d : Array α} (hL : b - a = L) (h8 : 8 <= L) (hq : L / 4 = q) (hM : 1 <<< bitsLen L = M) : breakPatterns d a b = brk a L M 3 (a + q * 2 - 1) (UInt64.ofNat L, d) := by
 unfold breakPatterns
 simp only [hL, hq, hM]
 rw [if_pos h8]
 rfl
def oth (L M X : Nat) : Nat := if X &&& (M - 1) ≥ L then (X &&& (M - 1)) - L else X &&& (M - 1)
theorem zg0 {a L M k i : Nat} {R : UInt64} {d : Array α} : brk a L M (k + 1) i (R, d) = brk a L M k (i + 1) (xorNext R, swp d i (a + oth L M (xorNextN R.toNat))) := by
 show brk a L M k (i + 1) (breakStep a L M (R, d) i) = _
 unfold breakStep oth
 simp only [xorNext_toNat]
theorem zi4 (S : SortBy lt l la lb s sb g n Sw) (a b : Nat) (d : Array α) (w : World) (hab : a + 12 < b) (hb : b <= n) (h : Sw d w) :
  Calls Tryz.prog 247 #[.agg #[.func (.func l) la lb, .func (.func s) #[] sb], .int .i64 a, .int .i64 b] w fun e w' => e = .returned (.tuple #[]) /\ Hid (Sw (breakPatterns d a b) w') /\ Hid (w.grownBy w' (some g)) := by
 have BX : Hid (Blok (w.alloc (.cells #[.func (.func l) la lb, .func (.func s) #[] sb] 228)) w.heap.size 228 #[.func (.func l) la lb, .func (.func s) #[] sb]) := Zh (Blok.new _ _ _)
 have GX : Hid (w.grownBy (w.alloc (.cells #[.func (.func l) la lb, .func (.func s) #[] sb] 228)) none) := Zh (World.grownBy_alloc _ _ _)
 have hsz : (w.alloc (.cells #[.func (.func l) la lb, .func (.func s) #[] sb] 228)).heap.size = w.heap.size + 1 := by simp
 obtain ⟨L, hL⟩ : ∃ L, b = a + L := ⟨b - a, by omega⟩
 obtain ⟨q, hq⟩ : ∃ q, L / 4 = q := ⟨_, rfl⟩
 obtain ⟨M, hM⟩ : ∃ M, 1 <<< bitsLen L = M := ⟨_, rfl⟩
 have hm := S.most
 have hMp : M = 2 ^ bitsLen L := by rw [<- hM, Nat.shiftLeft_eq, Nat.one_mul]
 have hM0 : 0 < M := by rw [hMp]; exact Nat.two_pow_pos _
 have hM2 : M <= 2 * L := by rw [hMp]; exact two_pow_bitsLen_le (by omega)
 obtain ⟨w1, hw1⟩ : ∃ w1, (w.alloc (.cells #[.func (.func l) la lb, .func (.func s) #[] sb] 228)).alloc (.cells #[.int .u64 (L : Nat)] 261) = w1 := ⟨_, rfl⟩
 have G1 : Hid (w.grownBy w1 (some g)) := Zh (by rw [<- hw1]; exact (zac GX.out).trans (World.grownBy_alloc _ _ _))
 have B1 : Hid (Blok w1 w.heap.size 228 #[.func (.func l) la lb, .func (.func s) #[] sb]) := Zh (by rw [<- hw1]; exact BX.out.alloc _)
 have P1 : Hid (Blok w1 (w.heap.size + 1) 261 #[.int .u64 (((UInt64.ofNat L).toNat : Nat) : Int)]) := Zh (by
  rw [<- hw1, <- hsz, show (UInt64.ofNat L).toNat = L by rw [UInt64.toNat_ofNat']; exact Nat.mod_eq_of_lt (by omega)]; exact Blok.new _ _ _)
 have H1 : Hid (Sw d w1) := Zh (by rw [<- hw1]; exact S.keep (S.keep h GX.out (by simp)) (World.grownBy_alloc _ _ none) (by simp))
 have hgw := S.inb h
 have SS := Zh S
 have hg : w.heap.size + 1 ≠ g := by omega
 have hLi : (b : Int) - (a : Int) = (L : Int) := by omega
 have hqi : (L : Int) / 4 = (q : Int) := by omega
 have HR : Hid (brk a L M 3 (a + q * 2 - 1) (UInt64.ofNat L, d) = breakPatterns d a b) := Zh (zkl (by omega) (by omega) hq hM).symm
 have d8 : decide ((8 : Int) <= (L : Int)) = true := by simp; omega
 have hq1 : 2 <= q := by omega
 have hq2 : q * 2 + 1 < L := by omega
 have hbL : a + L <= n := by omega
 have wL : IntKind.u64.wrap (L : Int) = L := by simp [IntKind.wrap, IntKind.bits, IntKind.signed]; omega
 have hp := zi3 L w1 (by omega)
 rw [hM] at hp
 have HL := Zh hL
 have HQ := Zh hq
 have HMp := Zh hMp
 clear h S hL hq hM hMp GX BX hsz
 have hL8 : 8 <= L := by omega
 go_enter Tryz.func247, Tryz.ntmps247
 go_wp2_with fail
 refine hp.mono ?_
 rintro e w2 ⟨rfl, rfl⟩
 clear hp
 go_wp2_with fail
 go_loopw [9] (fun i wr => ∃ (t : Nat) (R : UInt64) (dk : Array α), i = .int .i64 ((a + q * 2 - 1 + t : Nat) : Int) /\ t <= 3 /\ Hid (brk a L M (3 - t) (a + q * 2 - 1 + t) (R, dk) = breakPatterns d a b) /\ Hid (Sw dk wr) /\ Hid (Blok wr (w.heap.size + 1) 261 #[.int .u64 ((R.toNat : Nat) : Int)]) /\ Hid (Blok wr w.heap.size 228 #[.func (.func l) la lb, .func (.func s) #[] sb]) /\ Hid (w.grownBy wr (some g))) (fun i _ => (a + q * 2 + 2 - intOf i).toNat)
 case atStart => exact ⟨0, UInt64.ofNat L, d, by go_num, by omega, HR, H1, P1, B1, G1⟩
 case round =>
  obtain ⟨t, R, dk, rfl, ht3, HO, HS, HP, HB, HG⟩ := hrel
  obtain ⟨I, hI⟩ : ∃ I, I = a + q * 2 - 1 + t := ⟨_, rfl⟩
  rw [<- hI]
  have hIi : (I : Int) = a + q * 2 - 1 + t := by omega
  have hI2 : a + 1 <= I /\ I <= a + q * 2 + 2 := by omega
  have HI := Zh hI
  have HIi := Zh hIi
  clear hIi hI
  by_cases hlt : t < 3
  ·have d1 : decide ((I : Int) <= a + q * 2 + 1) = true := by have := HIi.out; simp; omega
   have hX : R.toNat < 18446744073709551616 := R.toNat_lt
   obtain ⟨X, hXx⟩ : ∃ X, xorNextN R.toNat = X := ⟨_, rfl⟩
   have hX2 : X < 18446744073709551616 := by rw [<- hXx]; exact xorNextN_lt _ hX
   have hn := zkk (w.heap.size + 1) R.toNat wr hX (HP.out.cell 0) (HP.out.frozen 0)
   rw [hXx] at hn
   obtain ⟨w3, hw3⟩ : ∃ w3, (wr.setCell ⟨w.heap.size + 1, 0, none⟩ (.int .u64 (X : Nat))).drewN 3 = w3 := ⟨_, rfl⟩
   rw [hw3] at hn
   have g3 : wr.grownBy w3 (some (w.heap.size + 1)) := by rw [<- hw3]; exact (zae _ _ _ _).trans (zds _ _ _)
   have HS3 := Zh (SS.out.keep HS.out g3 (by simpa using Ne.symm hg))
   have HB3 := Zh (HB.out.grown g3 (by simp))
   have HP3 : Hid (Blok w3 (w.heap.size + 1) 261 #[.int .u64 (X : Nat)]) := Zh (by rw [<- hw3]; simpa using (HP.out.set 0 (.int .u64 (X : Nat))).drewN 3)
   have HG3 : Hid (w.grownBy w3 (some g)) := Zh (HG.out.andThen g3 (fun j hj => .inl (by cases hj; exact Nat.le_succ _)))
   have HX := Zh hXx
   clear g3 hw3 hXx hX
   have c0 := HB3.out.at0
   have c1 := HB3.out.at1
   obtain ⟨O, hO⟩ : ∃ O, X &&& (M - 1) = O := ⟨_, rfl⟩
   have hOM : O <= M - 1 := by rw [<- hO]; exact Nat.and_le_right
   have eAnd : bits .and .u64 (X : Int) ((M : Int) - 1) = (O : Int) := by
    rw [show ((M : Int) - 1) = ((M - 1 : Nat) : Int) by omega, bits_and_u64_nat _ _ hX2 (by omega), hO]
   have HOO : Hid (∀ o, o = (if O ≥ L then O - L else O) -> oth L M (xorNextN R.toNat) = o) := Zh (fun o ho => by unfold oth; rw [HX.out, hO, ho])
   clear hO
   by_cases hLO : L <= O
   ·have dO : decide ((L : Int) <= O) = true := by simp; omega
    obtain ⟨w5, hr, HS5, HG5⟩ := SS.out.swap I (a + (O - L)) HS3.out (by omega) (by omega)
    rw [show ((a + (O - L) : Nat) : Int) = (a : Int) + ((O : Int) - L) by omega] at hr
    have HS5 := Zh HS5
    have HG6 := Zh (HG3.out.trans HG5)
    have HB6 := Zh (HB3.out.grown HG5 (by simp; omega))
    have HP6 := Zh (HP3.out.grown HG5 (by simp; omega))
    clear HG5
    have HO6 : Hid (brk a L M (3 - (t + 1)) (a + q * 2 - 1 + (t + 1)) (xorNext R, swp dk I (a + (O - L))) = breakPatterns d a b) := Zh (by
     rw [<- HO.out, show 3 - t = (3 - (t + 1)) + 1 by omega, zg0, HOO.out (O - L) (by rw [if_pos hLO]), <- HI.out, show a + q * 2 - 1 + (t + 1) = I + 1 by have := HI.out; omega])
    go_wp2_with fail
    refine hn.mono ?_
    rintro e w4 ⟨rfl, rfl⟩
    clear hn
    go_wp2
    go_roundw
    case rel => exact ⟨t + 1, xorNext R, swp dk I (a + (O - L)), by have := HI.out; go_num, by omega, HO6, HS5, by rw [xorNext_toNat, HX.out]; exact HP6, HB6, HG6⟩
    case measure => have := HI.out; simp [intOf] <;> omega
   ·have dO : decide ((L : Int) <= O) = false := by simp; omega
    obtain ⟨w5, hr, HS5, HG5⟩ := SS.out.swap I (a + (O)) HS3.out (by omega) (by omega)
    rw [show ((a + (O) : Nat) : Int) = (a : Int) + (O : Int) by omega] at hr
    have HS5 := Zh HS5
    have HG6 := Zh (HG3.out.trans HG5)
    have HB6 := Zh (HB3.out.grown HG5 (by simp; omega))
    have HP6 := Zh (HP3.out.grown HG5 (by simp; omega))
    clear HG5
    have HO6 : Hid (brk a L M (3 - (t + 1)) (a + q * 2 - 1 + (t + 1)) (xorNext R, swp dk I (a + (O))) = breakPatterns d a b) := Zh (by
     rw [<- HO.out, show 3 - t = (3 - (t + 1)) + 1 by omega, zg0, HOO.out O (by rw [if_neg hLO]), <- HI.out, show a + q * 2 - 1 + (t + 1) = I + 1 by have := HI.out; omega])
    go_wp2_with fail
    refine hn.mono ?_
    rintro e w4 ⟨rfl, rfl⟩
    clear hn
    go_wp2
    go_roundw
    case rel => exact ⟨t + 1, xorNext R, swp dk I (a + (O)), by have := HI.out; go_num, by omega, HO6, HS5, by rw [xorNext_toNat, HX.out]; exact HP6, HB6, HG6⟩
    case measure => have := HI.out; simp [intOf] <;> omega
  ·have d1 : decide ((I : Int) <= a + q * 2 + 1) = false := by have := HIi.out; simp; omega
   have HE : Hid (dk = breakPatterns d a b) := Zh (by rw [<- HO.out, show 3 - t = 0 by omega]; rfl)
   go_wp2
   go_end0
   exact ⟨rfl, Zh (by rw [<- HE.out]; exact HS.out), HG⟩
open Go.RowKit Go.Sort
variable {α : Type} [Inhabited α] {lt : α -> α -> Bool} {l : Nat} {la lb : Array Value} {s : Nat} {sb : Array Value} {g n : Nat} {Sw : Array α -> World -> Prop}
theorem zi5 {a b lim : Nat} {wb wp : Bool} {d : Array α} (h : b - a <= 12) : pdq lt d a b lim wb wp = insertionSort lt d a b := by rw [pdq, if_pos h]
theorem zkm {a b : Nat} {wb wp : Bool} {d : Array α} (h : ¬ b - a <= 12) : pdq lt d a b 0 wb wp = heapSort lt d a b := by rw [pdq, if_neg h, if_pos rfl]
theorem zln {a b lim : Nat} {wb wp : Bool} {d d1 d2 d3 : Array α} {l1 c pv : Nat} {hn hn2 : Hint} {r : Bool} (h : ¬ b - a <= 12) (hl : ¬ lim = 0) (h1 : (if !wb then breakPatterns d a b else d) = d1) (hl1 : (if !wb then lim - 1 else lim) = l1) (hc : choosePivot lt d1 a b = (c, hn))
  (h2 : (if hn = .decreasing then reverseRange d1 a b else d1) = d2) (hp : (if hn = .decreasing then (b - 1) - (c - a) else c) = pv) (hh : (if hn = .decreasing then Hint.increasing else hn) = hn2) (hpi : (if wb && wp && hn2 = .increasing then partialInsertionSort lt d2 a b else (d2, false)) = (d3, r)) :
  pdq lt d a b lim wb wp = if r then d3 else
   if a > 0 && !lt d3[a - 1]! d3[pv]! then (if a < (partitionEqual lt d3 a b pv).1 /\ (partitionEqual lt d3 a b pv).1 <= b then pdq lt (partitionEqual lt d3 a b pv).2 (partitionEqual lt d3 a b pv).1 b l1 wb wp else (partitionEqual lt d3 a b pv).2)
   else if a <= (Sort.partition lt d3 a b pv).1 /\ (Sort.partition lt d3 a b pv).1 < b then
    (if (Sort.partition lt d3 a b pv).1 - a < b - (Sort.partition lt d3 a b pv).1 then
     pdq lt (pdq lt (Sort.partition lt d3 a b pv).2.2 a (Sort.partition lt d3 a b pv).1 l1 true true) ((Sort.partition lt d3 a b pv).1 + 1) b l1 (decide ((Sort.partition lt d3 a b pv).1 - a ≥ (b - a) / 8)) (Sort.partition lt d3 a b pv).2.1
    else pdq lt (pdq lt (Sort.partition lt d3 a b pv).2.2 ((Sort.partition lt d3 a b pv).1 + 1) b l1 true true) a (Sort.partition lt d3 a b pv).1 l1 (decide (b - (Sort.partition lt d3 a b pv).1 ≥ (b - a) / 8)) (Sort.partition lt d3 a b pv).2.1)
   else (Sort.partition lt d3 a b pv).2.2 := by
 rw [pdq, if_neg h, if_neg hl]
 simp only [h1, hl1, hc, h2, hp, hh, hpi, dite_eq_ite]
theorem zfd {a b pv : Nat} {d : Array α} (hp : a <= pv) (hpb : pv < b) (hb : b <= d.size) : a < (partitionEqual lt d a b pv).1 /\ (partitionEqual lt d a b pv).1 <= b := by
 have h := partEqLoop_spec (lt := lt) a b _ (a + 1) (b - 1) (swp d a pv) (Nat.le_refl _) (by omega) (by omega) (by omega) (by rw [size_swp]; exact hb) (fun t h1 h2 => by omega) (fun t h1 h2 => by omega)
 exact ⟨h.1, h.2.1⟩
theorem zkn (S : SortBy lt l la lb s sb g n Sw) (hO : SWO lt) (N : Nat)
  (ih : ∀ (a b lim : Nat) (d : Array α) (w : World), b - a < N -> a <= b -> b <= n -> lim <= 1000 -> Sw d w ->
   Calls Tryz.prog 218 #[.agg #[.func (.func l) la lb, .func (.func s) #[] sb], .int .i64 a, .int .i64 b, .int .i64 lim] w fun e w' => e = .returned (.tuple #[]) /\ Hid (Sw (pdq lt d a b lim true true) w') /\ Hid (w.grownBy w' (some g)))
  (a b lim : Nat) (d : Array α) (w : World) (hN : b - a <= N) (hab : a <= b) (hb : b <= n) (hlim : lim <= 1000) (h : Sw d w) :
  Calls Tryz.prog 218 #[.agg #[.func (.func l) la lb, .func (.func s) #[] sb], .int .i64 a, .int .i64 b, .int .i64 lim] w fun e w' => e = .returned (.tuple #[]) /\ Hid (Sw (pdq lt d a b lim true true) w') /\ Hid (w.grownBy w' (some g)) := by
 have BX : Hid (Blok (w.alloc (.cells #[.func (.func l) la lb, .func (.func s) #[] sb] 228)) w.heap.size 228 #[.func (.func l) la lb, .func (.func s) #[] sb]) := Zh (Blok.new _ _ _)
 have GX : Hid (w.grownBy (w.alloc (.cells #[.func (.func l) la lb, .func (.func s) #[] sb] 228)) none) := Zh (World.grownBy_alloc _ _ _)
 have H1 := Zh (S.keep h GX.out (by simp))
 have G1 := Zh (zac (row := some g) GX.out)
 have SS := Zh S
 have hm := S.most
 have hgw := S.inb h
 have eg := S.enters
 clear h S GX
 go_enter Tryz.func218, Tryz.ntmps218
 go_wp2_with fail
 go_loopg [1, 2, 3, 8, 9] (b - a) (fun gg s1 s2 s3 s8 s9 wr => ∃ (x y lm : Nat) (wb wp : Bool) (dk : Array α), s1 = .int .i64 x /\ s2 = .int .i64 y /\ s3 = .int .i64 lm /\ s8 = .bool wb /\ s9 = .bool wp /\ x <= y /\ y <= n /\ y - x <= gg /\ y - x <= N /\ lm <= 1000 /\ Hid (pdq lt dk x y lm wb wp = pdq lt d a b lim true true) /\ Hid (Sw dk wr) /\ Hid (Blok wr w.heap.size 228 #[.func (.func l) la lb, .func (.func s) #[] sb]) /\ Hid (w.grownBy wr (some g)))
 case atStart => exact ⟨a, b, lim, true, true, d, by go_num, by go_num, by go_num, rfl, rfl, by omega, by omega, by omega, by omega, by omega, Zh rfl, H1, BX, G1⟩
 case round =>
  obtain ⟨x, y, lm, wb, wp, dk, rfl, rfl, rfl, rfl, rfl, hxy, hyn, hyg, hyN, hlm, HO, HS, HB, HG⟩ := hrel
  obtain ⟨L, hL⟩ : ∃ L, y = x + L := ⟨y - x, by omega⟩
  have hLi : (y : Int) - (x : Int) = (L : Int) := by omega
  have HL := Zh hL
  have hxL : x + L <= n := by omega
  have hLe : x + L <= y := by omega
  have hLg : y <= x + L := by omega
  clear hL
  have c0 := HB.out.at0
  have c1 := HB.out.at1
  by_cases h12 : L <= 12
  ·have d12 : decide ((L : Int) <= 12) = true := by simp; omega
   have HE : Hid (insertionSort lt dk x y = pdq lt d a b lim true true) := Zh (by rw [<- HO.out, zi5 (by omega)])
   go_wp2_with fail
   refine (zkf SS.out x y dk wr hxy hyn HS.out).mono ?_
   rintro e w3 ⟨rfl, HS3, HG3⟩
   go_wp2
   refine bodyPost_ret (results_none rfl _ _ _) rfl ?_
   exact ⟨rfl, by rw [<- HE.out]; exact HS3, Zh (HG.out.trans HG3.out)⟩
  ·have d12 : decide ((L : Int) <= 12) = false := by simp; omega
   by_cases hl0 : lm = 0
   ·subst hl0
    have HE : Hid (heapSort lt dk x y = pdq lt d a b lim true true) := Zh (by rw [<- HO.out, zkm (by omega)])
    go_wp2_with fail
    refine (zkh SS.out x y dk wr (by omega) hyn HS.out).mono ?_
    rintro e w3 ⟨rfl, HS3, HG3⟩
    go_wp2
    refine bodyPost_ret (results_none rfl _ _ _) rfl ?_
    exact ⟨rfl, by rw [<- HE.out]; exact HS3, Zh (HG.out.trans HG3.out)⟩
   ·have dl0 : ((lm : Int) == 0) = false := by simp; omega
    obtain ⟨d1, hd1⟩ : ∃ d1, (if !wb then breakPatterns dk x y else dk) = d1 := ⟨_, rfl⟩
    obtain ⟨l1, hl1⟩ : ∃ l1, (if !wb then lm - 1 else lm) = l1 := ⟨_, rfl⟩
    obtain ⟨c, hn, hc⟩ : ∃ c hn, choosePivot lt d1 x y = (c, hn) := ⟨_, _, rfl⟩
    obtain ⟨d2, hd2⟩ : ∃ d2, (if hn = .decreasing then reverseRange d1 x y else d1) = d2 := ⟨_, rfl⟩
    obtain ⟨pv, hpv⟩ : ∃ pv, (if hn = .decreasing then (y - 1) - (c - x) else c) = pv := ⟨_, rfl⟩
    obtain ⟨hn2, hh2⟩ : ∃ h2, (if hn = .decreasing then Hint.increasing else hn) = h2 := ⟨_, rfl⟩
    obtain ⟨d3, r, hd3⟩ : ∃ d3 r, (if wb && wp && hn2 = .increasing then partialInsertionSort lt d2 x y else (d2, false)) = (d3, r) := ⟨_, _, rfl⟩
    have HP := Zh ((zln (lt := lt) (d := dk) (wp := wp) (by omega) hl0 hd1 hl1 hc hd2 hpv hh2 hd3).symm.trans HO.out)
    have hcr : x <= c /\ c < y := by have := choosePivot_holds lt d1 x y (by omega); rw [hc] at this; exact this
    have hpr : x <= pv /\ pv < y := by rw [<- hpv]; split <;> omega
    have hl1b : l1 <= 1000 := by rw [<- hl1]; split <;> omega
    have HD1 := Zh hd1
    have HL1 := Zh hl1
    have HC := Zh hc
    have HD2 := Zh hd2
    have HPV := Zh hpv
    have HH2 := Zh hh2
    have HD3 := Zh hd3
    clear hd1 hl1 hc hd2 hpv hh2 hd3 HO
    go_upto_if 35 with fail
    go_cut [3] from 19 to 129 (fun s3 wx => s3 = .int .i64 l1 /\ Hid (Sw d1 wx) /\ Hid (Blok wx w.heap.size 228 #[.func (.func l) la lb, .func (.func s) #[] sb]) /\ Hid (w.grownBy wx (some g)))
    case first =>
     cases wb with
     | true =>
      have HF : Hid (dk = d1 /\ lm = l1) := Zh ⟨HD1.out, HL1.out⟩
      obtain ⟨rfl, rfl⟩ := HF.out
      go_wp2
      go_meet
      exact ⟨rfl, HS, HB, HG⟩
     | false =>
      have HF : Hid (breakPatterns dk x y = d1 /\ lm - 1 = l1) := Zh ⟨HD1.out, HL1.out⟩
      obtain ⟨rfl, rfl⟩ := HF.out
      go_wp2_with fail
      refine (zi4 SS.out x y dk wr (by omega) hyn HS.out).mono ?_
      rintro e w3 ⟨rfl, HSw3, G0w3⟩
      have HBw3 := Zh (HB.out.grown G0w3.out (by simp; omega))
      have HGw3 := Zh (HG.out.trans G0w3.out)
      clear G0w3 c0 c1
      have c0 := HBw3.out.at0
      have c1 := HBw3.out.at1
      go_wp2
      go_meet
      exact ⟨by go_num, HSw3, HBw3, HGw3⟩
    case rest =>
    obtain ⟨rfl, HS4, HB4, HG4⟩ := hcut
    clear c0 c1
    have c0 := HB4.out.at0
    have c1 := HB4.out.at1
    go_wp2_with fail
    refine (zi2 SS.out x y c hn d1 wc (by omega) hyn HS4.out HC.out).mono ?_
    rintro e w5 ⟨rfl, HSw5, G0w5⟩
    have HBw5 := Zh (HB4.out.grown G0w5.out (by simp; omega))
    have HGw5 := Zh (HG4.out.trans G0w5.out)
    clear G0w5 c0 c1
    have c0 := HBw5.out.at0
    have c1 := HBw5.out.at1
    go_upto_if 50 with fail
    go_cut [11, 12] from 19 to 129 (fun s11 s12 wx => s11 = .int .i64 pv /\ s12 = .int .i64 (hintCode hn2) /\ Hid (Sw d2 wx) /\ Hid (Blok wx w.heap.size 228 #[.func (.func l) la lb, .func (.func s) #[] sb]) /\ Hid (w.grownBy wx (some g)))
    case first =>
     by_cases hdec : hn = .decreasing
     ·subst hdec
      have HF : Hid (reverseRange d1 x y = d2 /\ (y - 1) - (c - x) = pv /\ Hint.increasing = hn2) := Zh ⟨HD2.out, HPV.out, HH2.out⟩
      obtain ⟨rfl, hpv, rfl⟩ := HF.out
      have HPV2 := Zh hpv
      clear hpv
      have hcode : (hintCode Hint.decreasing == 2) = true := rfl
      go_wp2_with fail
      refine (zgg SS.out x y d1 w5 (by omega) hyn HSw5.out).mono ?_
      rintro e w6 ⟨rfl, HSw6, G0w6⟩
      have HBw6 := Zh (HBw5.out.grown G0w6.out (by simp; omega))
      have HGw6 := Zh (HGw5.out.trans G0w6.out)
      clear G0w6 c0 c1
      have c0 := HBw6.out.at0
      have c1 := HBw6.out.at1
      go_wp2
      go_meet
      exact ⟨by have := HPV2.out; go_num, rfl, HSw6, HBw6, HGw6⟩
     ·have HF : Hid (d1 = d2 /\ c = pv /\ hn = hn2) := Zh ⟨by have := HD2.out; rwa [if_neg hdec] at this, by have := HPV.out; rwa [if_neg hdec] at this, by have := HH2.out; rwa [if_neg hdec] at this⟩
      obtain ⟨rfl, rfl, rfl⟩ := HF.out
      have hcode : (hintCode hn == 2) = false := by cases hn <;> first | rfl | exact absurd rfl hdec
      go_wp2
      go_meet
      exact ⟨rfl, rfl, HSw5, HBw5, HGw5⟩
    case rest =>
    obtain ⟨rfl, rfl, HS6, HB6, HG6⟩ := hcut
    clear c0 c1
    have c0 := HB6.out.at0
    have c1 := HB6.out.at1
    obtain ⟨inc, hinc⟩ : ∃ inc, (hintCode hn2 == 1) = inc := ⟨_, rfl⟩
    have HI : Hid (decide (hn2 = .increasing) = inc) := Zh (by rw [<- hinc]; cases hn2 <;> rfl)
    obtain ⟨bb, hbb⟩ : ∃ bb, (wb && wp && inc) = bb := ⟨_, rfl⟩
    have HBB : Hid ((if bb then partialInsertionSort lt d2 x y else (d2, false)) = (d3, r)) := Zh (by rw [<- hbb, <- HI.out]; exact HD3.out)
    have HBS := Zh hbb
    clear hbb
    go_upto_region 16 with fail
    go_cut [68] from 19 to 129 (fun s68 wx => s68 = .bool bb /\ wx = wc)
    case first =>
     have hbs := HBS.out
     cases wb <;> cases wp <;> cases inc <;> (obtain rfl := hbs; go_wp2; go_meet; exact ⟨rfl, rfl⟩)
    case rest =>
    obtain ⟨rfl, rfl⟩ := hcut
    go_upto_if 68 with fail
    go_cut [11] from 19 to 129 (fun s11 wx => s11 = .int .i64 pv /\ Hid (r = false) /\ Hid (Sw d3 wx) /\ Hid (Blok wx w.heap.size 228 #[.func (.func l) la lb, .func (.func s) #[] sb]) /\ Hid (w.grownBy wx (some g)))
    case first =>
     cases bb with
     | true =>
      have HF : Hid (partialInsertionSort lt d2 x y = (d3, r)) := Zh HBB.out
      go_wp2_with fail
      refine (zed SS.out x y r d2 d3 wc (by omega) hyn HS6.out HF.out).mono ?_
      rintro e w7 ⟨rfl, HSw7, G0w7⟩
      have HBw7 := Zh (HB6.out.grown G0w7.out (by simp; omega))
      have HGw7 := Zh (HG6.out.trans G0w7.out)
      clear G0w7 c0 c1
      have c0 := HBw7.out.at0
      have c1 := HBw7.out.at1
      cases r with
      | true =>
       have HE : Hid (d3 = pdq lt d a b lim true true) := Zh HP.out
       go_wp2
       refine bodyPost_ret (results_none rfl _ _ _) rfl ?_
       exact ⟨rfl, by rw [<- HE.out]; exact HSw7, HGw7⟩
      | false =>
       go_wp2
       go_meet
       exact ⟨rfl, Zh (by trivial), HSw7, HBw7, HGw7⟩
     | false =>
      have HF : Hid (d2 = d3 /\ false = r) := Zh (by have h1 := HBB.out; rw [if_neg (by simp), Prod.mk.injEq] at h1; exact h1)
      obtain ⟨rfl, hrf⟩ := HF.out
      have HRF := Zh hrf.symm
      clear hrf
      go_wp2
      go_meet
      exact ⟨rfl, HRF, HS6, HB6, HG6⟩
    case rest =>
    obtain ⟨rfl, HR, HS8, HB8, HG8⟩ := hcut
    clear c0 c1
    have c0 := HB8.out.at0
    have c1 := HB8.out.at1
    obtain ⟨p, hp⟩ : ∃ p, lt d3[x - 1]! d3[pv]! = p := ⟨_, rfl⟩
    obtain ⟨ee, hee⟩ : ∃ ee, (decide (x > 0) && !p) = ee := ⟨_, rfl⟩
    have hsz3 := SS.out.size HS8.out
    obtain ⟨me, d4e, hpe⟩ : ∃ m dd, partitionEqual lt d3 x y pv = (m, dd) := ⟨_, _, rfl⟩
    obtain ⟨mid, ap, d4, hpt⟩ : ∃ m p dd, Sort.partition lt d3 x y pv = (m, p, dd) := ⟨_, _, _, rfl⟩
    have hre := zfd (lt := lt) (d := d3) hpr.1 hpr.2 (by omega)
    have hrp := partition_holds (lt := lt) hO d3 x y pv hpr.1 hpr.2 (by omega)
    rw [hpe] at hre
    rw [hpt] at hrp
    have hrm : x <= mid /\ mid < y := ⟨hrp.1, hrp.2.1⟩
    clear hrp
    simp only at hre
    have HQ : Hid ((if ee then pdq lt d4e me y l1 wb wp else if mid - x < y - mid then
      pdq lt (pdq lt d4 x mid l1 true true) (mid + 1) y l1 (decide (mid - x ≥ (y - x) / 8)) ap
     else pdq lt (pdq lt d4 (mid + 1) y l1 true true) x mid l1 (decide (y - mid ≥ (y - x) / 8)) ap) = pdq lt d a b lim true true) := Zh (by
     have h1 := HP.out
     rw [HR.out, hp, hee, hpe, hpt] at h1
     simp only [Bool.false_eq_true, if_false] at h1
     rw [if_pos hre, if_pos hrm] at h1
     exact h1)
    have HPE := Zh hpe
    have HPT := Zh hpt
    have HPL := Zh hp
    have HEE := Zh hee
    clear HP hp hee hpe hpt hsz3 HR
    go_upto_region 18 with fail
    go_cut [83] from 19 to 129 (fun s83 wx => s83 = .bool ee /\ Hid (Sw d3 wx) /\ Hid (Blok wx w.heap.size 228 #[.func (.func l) la lb, .func (.func s) #[] sb]) /\ Hid (w.grownBy wx (some g)))
    case first =>
     by_cases hx0 : 0 < x
     ·have dx0 : decide ((0 : Int) < (x : Int)) = true := by simp; omega
      have hl := SS.out.lesses (x - 1) pv HS8.out (by omega) (by omega) HPL.out
      rw [show ((x - 1 : Nat) : Int) = (x : Int) - 1 by omega] at hl
      have HE2 : Hid ((!p) = ee) := Zh (by rw [<- HEE.out, decide_eq_true hx0]; rfl)
      go_wp2_with fail
      refine hl.mono ?_
      rintro e w9 ⟨rfl, HS9, HG9⟩
      clear hl
      have HB9 := Zh (HB8.out.grown HG9.out (by simp))
      have HG10 := Zh (HG8.out.trans (zac HG9.out))
      go_wp2
      go_meet
      exact ⟨by rw [HE2.out], HS9, HB9, HG10⟩
     ·have dx0 : decide ((0 : Int) < (x : Int)) = false := by simp; omega
      have HE2 : Hid (false = ee) := Zh (by rw [<- HEE.out, decide_eq_false hx0]; rfl)
      go_wp2
      go_meet
      exact ⟨by rw [HE2.out], HS8, HB8, HG8⟩
    case rest =>
    obtain ⟨rfl, HS10, HB10, HG10⟩ := hcut
    clear c0 c1
    have c0 := HB10.out.at0
    have c1 := HB10.out.at1
    cases ee with
    | true =>
     have HQ2 : Hid (pdq lt d4e me y l1 wb wp = pdq lt d a b lim true true) := Zh HQ.out
     go_wp2_with fail
     refine (zhg SS.out x y pv me d3 d4e wc hpr.1 hpr.2 hyn HS10.out HPE.out).mono ?_
     rintro e w11 ⟨rfl, HSw11, G0w11⟩
     have HBw11 := Zh (HB10.out.grown G0w11.out (by simp; omega))
     have HGw11 := Zh (HG10.out.trans G0w11.out)
     clear G0w11 c0 c1
     have c0 := HBw11.out.at0
     have c1 := HBw11.out.at1
     go_wp2
     go_roundg (y - me)
     case measure => omega
     case rel => exact ⟨me, y, l1, wb, wp, d4e, rfl, rfl, rfl, rfl, rfl, by omega, by omega, by omega, by omega, by omega, HQ2, HSw11, HBw11, HGw11⟩
    | false =>
     go_wp2_with fail
     refine (zkj SS.out x y pv mid ap d3 d4 wc hpr.1 hpr.2 hyn HS10.out HPT.out).mono ?_
     rintro e w12 ⟨rfl, HSw12, G0w12⟩
     have HBw12 := Zh (HB10.out.grown G0w12.out (by simp; omega))
     have HGw12 := Zh (HG10.out.trans G0w12.out)
     clear G0w12 c0 c1
     have c0 := HBw12.out.at0
     have c1 := HBw12.out.at1
     obtain ⟨lf, hlf⟩ : ∃ lf, lf = mid - x := ⟨_, rfl⟩
     obtain ⟨rg, hrg⟩ : ∃ rg, rg = y - mid := ⟨_, rfl⟩
     obtain ⟨th, hth⟩ : ∃ th, th = L / 8 := ⟨_, rfl⟩
     have i1 : (mid : Int) - (x : Int) = (lf : Int) := by omega
     have i2 : (y : Int) - (mid : Int) = (rg : Int) := by omega
     have i3 : (L : Int) / 8 = (th : Int) := by omega
     have HLR : Hid (lf = mid - x /\ rg = y - mid /\ th = (y - x) / 8) := Zh ⟨hlf, hrg, by rw [hth, HL.out, Nat.add_sub_cancel_left]⟩
     clear hlf hrg hth
     by_cases hlr : lf < rg
     ·have dlr : decide (lf < rg) = true := by simp; omega
      have HQ2 : Hid (pdq lt (pdq lt d4 x mid l1 true true) (mid + 1) y l1 (decide ((th : Int) <= (lf : Int))) ap = pdq lt d a b lim true true) := Zh (by
       have h1 := HQ.out
       obtain ⟨e1, e2, e3⟩ := HLR.out
       rw [<- e1, <- e2, <- e3, if_neg (by simp), if_pos hlr] at h1
       rw [<- h1]
       congr 1
       exact decide_eq_decide.2 (by omega))
      go_wp2_with fail
      refine (ih x mid l1 d4 w12 (by omega) (by omega) (by omega) (by omega) HSw12.out).mono ?_
      rintro e w13 ⟨rfl, HSw13, G0w13⟩
      have HBw13 := Zh (HBw12.out.grown G0w13.out (by simp; omega))
      have HGw13 := Zh (HGw12.out.trans G0w13.out)
      clear G0w13 c0 c1
      have c0 := HBw13.out.at0
      have c1 := HBw13.out.at1
      go_wp2
      go_roundg (y - (mid + 1))
      case measure => omega
      case rel => exact ⟨mid + 1, y, l1, decide ((th : Int) <= (lf : Int)), ap, pdq lt d4 x mid l1 true true, by go_num, rfl, rfl, by simp, rfl, by omega, by omega, by omega, by omega, by omega, HQ2, HSw13, HBw13, HGw13⟩
     ·have dlr : decide (lf < rg) = false := by simp; omega
      have HQ2 : Hid (pdq lt (pdq lt d4 (mid + 1) y l1 true true) x mid l1 (decide ((th : Int) <= (rg : Int))) ap = pdq lt d a b lim true true) := Zh (by
       have h1 := HQ.out
       obtain ⟨e1, e2, e3⟩ := HLR.out
       rw [<- e1, <- e2, <- e3, if_neg (by simp), if_neg hlr] at h1
       rw [<- h1]
       congr 1
       exact decide_eq_decide.2 (by omega))
      have hih := ih (mid + 1) y l1 d4 w12 (by omega) (by omega) (by omega) (by omega) HSw12.out
      rw [show ((mid + 1 : Nat) : Int) = (mid : Int) + 1 by omega] at hih
      go_wp2_with fail
      refine (hih).mono ?_
      rintro e w14 ⟨rfl, HSw14, G0w14⟩
      have HBw14 := Zh (HBw12.out.grown G0w14.out (by simp; omega))
      have HGw14 := Zh (HGw12.out.trans G0w14.out)
      clear G0w14 c0 c1
      have c0 := HBw14.out.at0
      have c1 := HBw14.out.at1
      go_wp2
      go_roundg (mid - x)
      case measure => omega
      case rel => exact ⟨x, mid, l1, decide ((th : Int) <= (rg : Int)), ap, pdq lt d4 (mid + 1) y l1 true true, rfl, rfl, rfl, by simp, rfl, by omega, by omega, by omega, by omega, by omega, HQ2, HSw14, HBw14, HGw14⟩
theorem zi6 (S : SortBy lt l la lb s sb g n Sw) (hO : SWO lt) : ∀ (N a b lim : Nat) (d : Array α) (w : World), b - a < N -> a <= b -> b <= n -> lim <= 1000 -> Sw d w ->
  Calls Tryz.prog 218 #[.agg #[.func (.func l) la lb, .func (.func s) #[] sb], .int .i64 a, .int .i64 b, .int .i64 lim] w fun e w' => e = .returned (.tuple #[]) /\ Hid (Sw (pdq lt d a b lim true true) w') /\ Hid (w.grownBy w' (some g))
 | 0, _, _, _, _, _, h, _, _, _, _ => absurd h (Nat.not_lt_zero _)
 | N + 1, a, b, lim, d, w, h, h1, h2, h3, h4 => zkn S hO N (zi6 S hO N) a b lim d w (Nat.le_of_lt_succ h) h1 h2 h3 h4
end Go.Proofs.YtonejangijkdmaaGreat
