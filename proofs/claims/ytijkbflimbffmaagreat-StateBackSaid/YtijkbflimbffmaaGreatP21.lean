import Derived.RangeFuncNested
import Derived.Test.YtijkbflimbffmaaGreatP20
import Derived.Test.YtijkbflimbffmaaGreatP0
import Derived.Test.YtijkbflimbffmaaGreatP6
namespace Go.Proofs.YtijkbflimbffmaaGreat
set_option maxHeartbeats 1000000
set_option maxRecDepth 100000
open Go.RowKit
theorem Z.pl_snoc : ∀ (q : Int) (l : List Int) (n : Int), Z.pl q (l ++ [n]) = Z.pl q l ++ [Z.zig (n - l.getLastD q)]
 | q, [], n => by simp [Z.pl]
 | q, m :: l, n => by
  rw [List.cons_append, Z.pl, Z.pl, Z.pl_snoc m l n]
  simp [List.getLastD_eq_getLast?]
  cases h : l.getLast? <;> simp [List.getLast?_cons, h]
def StR (L : List Int) (N : Nat) (w wr : World) (k : Nat) : Prop :=
 (∀ n ∈ L.take k, Z.isl n) /\ Blok wr N 3 ((zns (Z.pl 0 (L.take k)) L.length).map (Value.int .i64)).toArray /\ Blok wr (N + 1) 3 #[.int .i64 ((L.take k).getLastD 0)] /\ Below N w wr
theorem zsg {l : List Int} (h : ∀ n ∈ l, Z.isl n) : Z.isl (l.getLastD 0) := by
 rw [List.getLastD_eq_getLast?]
 cases hl : l.getLast? with
 | none => simp [Z.isl]
 | some x => exact h x (List.mem_of_getLast? hl)
theorem StR.step {L : List Int} {N : Nat} {w wr w2 : World} {k : Nat} (h : StR L N w wr k) (hk : k < L.length) (hn : Z.isl (L.getD k 0)) (h2 : w2 = wr.setCell ⟨N + 1, 0, none⟩ (.int .i64 (L.getD k 0))) :
  StR L N w (w2.setCell ⟨N, k, none⟩ (.int .i64 (Z.zig (L.getD k 0 - (L.take k).getLastD 0)))) (k + 1) := by
 obtain ⟨h1, hb, hc, hB⟩ := h
 subst h2
 have hlen : (Z.pl 0 (L.take k)).length = k := by rw [Z.pl_len]; simp; omega
 refine ⟨?_, ?_, ?_, (hB.setCell (by simp) _).setCell (by simp) _⟩
 ·rw [take_snoc hk]
  intro n hm
  rcases List.mem_append.1 hm with hm | hm
  ·exact h1 n hm
  ·simp only [List.mem_singleton] at hm; rw [hm]; exact hn
 ·have h3 := (hb.far (p := ⟨N + 1, 0, none⟩) (by simp) (.int .i64 (L.getD k 0))).set k (.int .i64 (Z.zig (L.getD k 0 - (L.take k).getLastD 0)))
  have h4 := zo0 (xs := Z.pl 0 (L.take k)) (n := L.length) (by omega) .i64 (Z.zig (L.getD k 0 - (L.take k).getLastD 0))
  rw [hlen] at h4
  rw [h4] at h3
  rw [take_snoc hk, Z.pl_snoc]
  exact h3
 ·have h3 := (hc.set 0 (.int .i64 (L.getD k 0))).far (p := ⟨N, k, none⟩) (by simp) (.int .i64 (Z.zig (L.getD k 0 - (L.take k).getLastD 0)))
  rw [take_snoc hk]
  simpa using h3
def zoo (L : List Int) (w : World) (e : Ending) (w' : World) : Prop :=
 ∃ v ok, e = .returned (.tuple #[v, .bool ok]) /\ ok = (Z.steps L).isSome /\ w'.ownsRow w.heap.size 5 1 v ((Z.steps L).getD []).length (((Z.steps L).getD []).map (Value.int .u8)) /\ Below w.heap.size w w'
theorem zoo.no {L : List Int} {w w' : World} (h : Z.steps L = none) (hb : Below w.heap.size w w') : zoo L w (.returned (.tuple #[.slice none 0 0, .bool false])) w' := by
 refine ⟨_, _, rfl, ?_, ?_, hb⟩ <;> rw [h]
 ·rfl
 ·exact World.ownsRow_nil _ _ _ _
theorem zov (a : Option Addr) (len cap : Nat) (L : List Int) (w : World) (hl : L.length = len) (h : 400 < len) :
  Calls Tryz.prog 110 #[.slice a len cap] w (zoo L w) := by
 have hn := Zh (Z.steps_long (L := L) (by omega))
 have h' : decide (400 < (len : Int)) = true := by simp; omega
 clear hl
 go_enter Tryz.func110, Tryz.ntmps110
 go_wp2
 go_ret2
 exact .no hn.out (Below.refl _ _)
theorem zsh (a : Option Addr) (len cap : Nat) (L : List Int) (w : World) (hl : L.length = len) (h4 : len <= 400) (h : zfv .i64 w a cap L) :
  Calls Tryz.prog 110 #[.slice a len cap] w (zoo L w) := by
 obtain ⟨i0, hi, hz0, hz1, hz2⟩ := info_parts zl3
 have HL := Zh hl
 have HR := Zh h
 clear hl h
 have h4' : decide (400 < (len : Int)) = false := by simp; omega
 go_enter Tryz.func110, Tryz.ntmps110
 go_wp2_with (first
  | (at_make; refine wpList_make_row _ rfl _ _ 75 rfl 3 i0 (.int .i64 0) Tryz.underlying75 hi hz0 hz1 rfl .i64 .i64 len rfl rfl (by rw [hz2]; omega) (by omega) ?_)
  | (go_at_call 190; refine (zqa _).mono ?_; rintro e w' ⟨rfl, rfl⟩))
 go_loopw [16] (fun i wr => ∃ k : Nat, i = .int .i64 k /\ k <= len /\ Hid (StR L w.heap.size w wr k)) (fun i _ => len - (intOf i).toNat)
 case atStart =>
  refine ⟨0, rfl, by omega, Zh ⟨by simp, ?_, ?_, ?_⟩⟩
  ·have := (Blok.new w 3 (madeCells #[.int .i64 0] len)).alloc (.cells #[.int .i64 0] 3)
   rw [List.take_zero, Z.pl, zoy, HL.out, <- zoj]
   exact this
  ·have := Blok.new (w.alloc (.cells (madeCells #[.int .i64 0] len) 3)) 3 #[.int .i64 0]
   rw [World.size_alloc] at this
   exact this
  ·exact ((Below.refl _ w).alloc (Nat.le_refl _) _).alloc (by simp) _
 case round =>
  obtain ⟨k, rfl, hk, HS⟩ := hrel
  by_cases hlt : k < len
  ·have hkL : k < L.length := by rw [HL.out]; exact hlt
   obtain ⟨b, off, rfl, hb, hc⟩ := zl4 HR.out hkL
   obtain ⟨n, hn⟩ : ∃ n, L.getD k 0 = n := ⟨_, rfl⟩
   obtain ⟨p, hp⟩ : ∃ p, (L.take k).getLastD 0 = p := ⟨_, rfl⟩
   have hcell : wr.cell? ⟨b, off + k, none⟩ = some (.int .i64 n) := by rw [<- hn]; exact (HS.out.2.2.2.cell (p := ⟨b, off + k, none⟩) hb).trans hc
   have hmem : n ∈ L := by rw [<- hn]; simp [hkL]
   have hpi : Z.isl p := by rw [<- hp]; exact zsg HS.out.1
   have HN := Zh hn
   have HP := Zh hp
   have HM := Zh hmem
   have HPI := Zh hpi
   clear hn hp hmem hkL hc hpi
   by_cases hnum : Z.isl n
   ·have HI := Zh hnum
    clear hnum
    go_wp2_with (first
     | (go_at_call 191; refine (zo7 _ _ HI.out).mono ?_; rintro e w' ⟨rfl, rfl⟩)
     | (go_at_call 235; refine (zsf n p (w.heap.size + 1) _ HI.out HPI.out (by rw [<- HP.out]; exact HS.out.2.2.1)).mono ?_; rintro e w2 ⟨rfl, h2⟩; have g1 : w2.cell? ⟨w.heap.size, k, none⟩ = some (.int .i64 0) := (by rw [h2, (HS.out.2.1.far (p := ⟨w.heap.size + 1, 0, none⟩) (by simp) _).cell k]; exact zn2 (by rw [Z.pl_len]; simp; have := HL.out; omega) (by rw [HL.out]; exact hlt) .i64); have g2 : w2.frozen? ⟨w.heap.size, k, none⟩ = false := (by rw [h2]; exact (HS.out.2.1.far (p := ⟨w.heap.size + 1, 0, none⟩) (by simp) _).frozen k); have H2 := Zh h2; clear h2))
    go_roundw
    case rel => exact ⟨k + 1, by go_num, by omega, Zh (by have := HS.out.step (w2 := w2) (by rw [HL.out]; exact hlt) (by rw [HN.out]; exact HI.out) (by rw [HN.out]; exact H2.out); rw [HN.out, HP.out] at this; exact this)⟩
    case measure => simp [intOf]; omega
   ·have HNo := Zh (Z.steps_bad HM.out hnum)
    have HI := Zh hnum
    clear hnum
    go_wp2_with (go_at_call 191; refine (zpp _ _ HI.out).mono ?_; rintro e w' ⟨rfl, rfl⟩)
    go_ret2
    exact .no HNo.out HS.out.2.2.2
  ·have hkl : k = len := by omega
   have hrow : Hid (zfv .i64 wr (some ⟨w.heap.size, 0, none⟩) len (Z.pl 0 L)) := Zh (by
    have h1 := HS.out.2.1
    have h2 := HL.out
    rw [List.take_of_length_le (by omega), zoz (by rw [Z.pl_len]; omega)] at h1
    exact h1.row (fun n hn => zqj (Z.pl_isn 0 L (by unfold Z.isl; omega) (by have := HS.out.1; rwa [List.take_of_length_le (by omega)] at this) n hn)) (by rw [Z.pl_len]; omega) (by unfold maxLen; omega))
   have HA := Zh (Z.steps_all (L := L) (by rw [HL.out]; exact h4) (by have := HS.out.1; rwa [List.take_of_length_le (by rw [HL.out]; omega)] at this))
   have hd : decide (k < len) = false := by simp; omega
   clear hkl
   go_wp2_with (go_at_call 105; refine (zrt _ len len (Z.pl 0 L) _ (by rw [Z.pl_len]; exact HL.out) hrow.out).mono ?_; rintro e w2 ⟨v, ok, rfl, hok, ho, hb⟩; have HO := Zh hok; have HW := Zh ho; clear hok ho)
   go_ret2
   have hok := HO.out
   have ho := HW.out
   rw [HA.out] at hok ho
   have hs := HS.out.2.2.2
   exact ⟨v, ok, rfl, hok, zan ho hs.size, hs.trans (hb.mono hs.size)⟩
theorem zpq (a : Option Addr) (len cap : Nat) (L : List Int) (w : World) (hl : L.length = len) (h : zfv .i64 w a cap L) :
  Calls Tryz.prog 110 #[.slice a len cap] w (zoo L w) := by
 by_cases h4 : 400 < len
 ·exact zov a len cap L w hl h4
 ·exact zsh a len cap L w hl (by omega) h
theorem zqx (w : World) : Calls Tryz.prog 194 #[] w fun e w' => e = .returned (.func (.func 238) #[] #[.pointer (some ⟨w.heap.size, 0, none⟩)]) /\ w' = w.alloc (.cells #[.int .i64 0] 3) := by
 go_enter Tryz.func194, Tryz.ntmps194
 go_wp2
 go_ret
 exact ⟨rfl, rfl⟩
theorem zn8 (w : World) (r : Option Nat) : ∀ n, w.grownBy (w.drewN n) r
 | 0 => ⟨rfl, rfl, rfl, Nat.le_refl _, fun _ _ _ => rfl⟩
 | n + 1 => by have := zn8 w r n; exact ⟨this.os, this.tape, this.output, this.size, this.block⟩
def ztw (B : Nat) (k p : Int) (w : World) (e : Ending) (w' : World) : Prop :=
 ∃ q ok, e = .returned (.tuple #[.int .i64 q, .bool ok]) /\ ok = decide (Z.zig (Z.zag k) = k /\ Z.isl (p + Z.zag k)) /\ w.grownBy w' (some B) /\ (ok = true -> q = p + Z.zag k /\ Blok w' B 3 #[.int .i64 q])
theorem zrv (k p : Int) (B : Nat) (w : World) (hp : Z.isl p) (hb : Blok w B 3 #[.int .i64 p]) :
  Calls Tryz.prog 238 #[.int .i64 k, .pointer (some ⟨B, 0, none⟩)] w (ztw B k p w) := by
 obtain ⟨p0, p1⟩ := hp
 obtain ⟨s, hs⟩ : ∃ s, Z.zag k = s := ⟨_, rfl⟩
 have hsb := Z.zag_bd k
 rw [hs] at hsb
 obtain ⟨s0, s1⟩ := hsb
 have c0 := Zv hb 0 (.int .i64 p)
 have f0 : w.frozen? ⟨B, 0, none⟩ = false := hb.frozen 0
 have HB := Zh hb
 have HS := Zh hs
 clear hb hs
 by_cases hz : Z.zig s = k
 ·have d1 : (Z.zig s != k) = false := by simpa using hz
  have HZ := Zh hz
  clear hz
  go_enter Tryz.func238, Tryz.ntmps238
  go_wp2_with (first
   | (go_at_call 239; refine (zru _ _).mono ?_; rw [HS.out]; rintro e w' ⟨rfl, rfl⟩)
   | (go_at_call 236; refine (zp9 _ _).mono ?_; rintro e w' ⟨rfl, rfl⟩))
  go_quiet ((go_at_call 191; exact Calls.quiet_of_same ((zqw _ _).mono fun _ _ ⟨h1, h2⟩ => ⟨h1, h2.symm⟩)))
  go_wp2
  go_ret2
  exact ⟨_, _, rfl, by rw [HS.out]; simp [HZ.out], (grownBy_setCell' w B _).trans (zn8 _ _ _), fun _ => ⟨by rw [HS.out], (HB.out.set 0 _).drewN _⟩⟩
 ·have d1 : (Z.zig s != k) = true := by simpa using hz
  have HZ := Zh hz
  clear hz
  go_enter Tryz.func238, Tryz.ntmps238
  go_wp2_with (first
   | (go_at_call 239; refine (zru _ _).mono ?_; rw [HS.out]; rintro e w' ⟨rfl, rfl⟩)
   | (go_at_call 236; refine (zp9 _ _).mono ?_; rintro e w' ⟨rfl, rfl⟩))
  go_ret2
  exact ⟨0, false, rfl, (decide_eq_false (fun h => HZ.out (by have := h.1; rwa [HS.out] at this))).symm, ⟨rfl, rfl, rfl, Nat.le_refl _, fun _ _ _ => rfl⟩, fun h => by cases h⟩
def SmR (ps : List Int) (N : Nat) (w wr : World) (k : Nat) (xs : List Int) (p : Int) : Prop :=
 Z.un 0 ps = (Z.un p (ps.drop k)).map (fun l => xs ++ l) /\ xs.length = k /\ Z.isl p /\ (∀ n ∈ xs, Z.isl n) /\ Blok wr N 3 ((zns xs ps.length).map (Value.int .i64)).toArray /\ Blok wr (N + 1) 3 #[.int .i64 p] /\ Below N w wr
theorem SmR.bad {ps : List Int} {N : Nat} {w wr : World} {k : Nat} {xs : List Int} {p : Int} (h : SmR ps N w wr k xs p) (hk : k < ps.length) (hb : ¬ (Z.zig (Z.zag (ps.getD k 0)) = ps.getD k 0 /\ Z.isl (p + Z.zag (ps.getD k 0)))) : Z.un 0 ps = none := by
 rw [h.1, List.drop_eq_getElem_cons hk, Z.un, if_neg]
 ·rfl
 ·intro hh; apply hb; simpa [hk] using hh
theorem SmR.step {ps : List Int} {N : Nat} {w wr w2 : World} {k : Nat} {xs : List Int} {p q : Int} (h : SmR ps N w wr k xs p) (hk : k < ps.length) (hb : Z.zig (Z.zag (ps.getD k 0)) = ps.getD k 0 /\ Z.isl (p + Z.zag (ps.getD k 0))) (hq : q = p + Z.zag (ps.getD k 0))
  (hg : wr.grownBy w2 (some (N + 1))) (h2 : Blok w2 (N + 1) 3 #[.int .i64 q]) : SmR ps N w (w2.setCell ⟨N, k, none⟩ (.int .i64 q)) (k + 1) (xs ++ [q]) q := by
 obtain ⟨h1, hl, hp, hx, hB, hC, hW⟩ := h
 subst hq
 refine ⟨?_, by simp [hl], hb.2, ?_, ?_, h2.far (by simp) _, (hW.grown hg (Nat.le_of_lt hB.lt) (fun j e => by cases e; omega)).setCell (by simp) _⟩
 ·rw [h1, List.drop_eq_getElem_cons hk, Z.un]
  have e : ps[k] = ps.getD k 0 := by simp [hk]
  rw [e, if_pos hb, Option.map_map]
  congr 1
  funext l
  simp
 ·intro n hn
  rcases List.mem_append.1 hn with hn | hn
  ·exact hx n hn
  ·simp only [List.mem_singleton] at hn; rw [hn]; exact hb.2
 ·have h3 := (hB.grown hg (by simp)).set k (.int .i64 (p + Z.zag (ps.getD k 0)))
  have h4 := zo0 (xs := xs) (n := ps.length) (by omega) .i64 (p + Z.zag (ps.getD k 0))
  rw [hl] at h4
  rwa [h4] at h3
theorem SmR.done {ps : List Int} {N : Nat} {w wr : World} {k : Nat} {xs : List Int} {p : Int} (h : SmR ps N w wr k xs p) (hk : ps.length <= k) : Z.un 0 ps = some xs := by
 rw [h.1, List.drop_eq_nil_of_le hk, Z.un]; simp
def zpr (b : List Int) (w : World) (e : Ending) (w' : World) : Prop :=
 ∃ v ok, e = .returned (.tuple #[v, .bool ok]) /\ ok = (Z.sums b).isSome /\ w'.ownsRow w.heap.size 3 1 v ((Z.sums b).getD []).length (((Z.sums b).getD []).map (Value.int .i64)) /\ Below w.heap.size w w'
theorem zpr.no {b : List Int} {w w' : World} (h : Z.sums b = none) (hb : Below w.heap.size w w') : zpr b w (.returned (.tuple #[.slice none 0 0, .bool false])) w' := by
 refine ⟨_, _, rfl, ?_, ?_, hb⟩ <;> rw [h]
 ·rfl
 ·exact World.ownsRow_nil _ _ _ _
theorem zqy (a : Option Addr) (len cap : Nat) (L : List Int) (w : World) (hl : L.length = len) (h : zfv .u8 w a cap L) (hn : M.read L = none) : Calls Tryz.prog 123 #[.slice a len cap] w fun e w' =>
  ∃ a' cap' n', e = .returned (.tuple #[.slice a' n' cap', .bool false]) /\ Below w.heap.size w w' :=
 (zom a len cap L w hl h).mono fun e w' ⟨a', cap', n', he, _, _, hb⟩ => ⟨a', cap', n', by rw [he, hn]; rfl, hb⟩
theorem zqb (a : Option Addr) (len cap : Nat) (L ps : List Int) (w : World) (hl : L.length = len) (h : zfv .u8 w a cap L) (hn : M.read L = some ps) : Calls Tryz.prog 123 #[.slice a len cap] w fun e w' =>
  ∃ a' cap' n', e = .returned (.tuple #[.slice a' n' cap', .bool true]) /\ Hid (ps.length = n') /\ Hid (zfv .i64 w' a' cap' ps) /\ Below w.heap.size w w' :=
 (zom a len cap L w hl h).mono fun e w' ⟨a', cap', n', he, h1, h2, hb⟩ => ⟨a', cap', n', by rw [he, hn]; rfl, by rw [hn] at h1; exact h1, by rw [hn] at h2; exact h2, hb⟩
theorem zs9 (a : Option Addr) (len cap : Nat) (L : List Int) (w : World) (hl : L.length = len) (h : zfv .u8 w a cap L) (hn : M.read L = none) :
  Calls Tryz.prog 125 #[.slice a len cap] w (zpr L w) := by
 have HL := Zh hl
 have HR := Zh h
 have HN := Zh hn
 clear hl h hn
 go_enter Tryz.func125, Tryz.ntmps125
 go_wp2_with (go_at_call 123; refine (zqy a len cap L _ HL.out HR.out HN.out).mono ?_; rintro e w1 ⟨a', cap', n', rfl, hb⟩)
 go_ret2
 exact .no (by unfold Z.sums; rw [HN.out]; rfl) hb
theorem zta (a : Option Addr) (len cap : Nat) (L ps : List Int) (w : World) (hl : L.length = len) (h : zfv .u8 w a cap L) (hps : M.read L = some ps) :
  Calls Tryz.prog 125 #[.slice a len cap] w (zpr L w) := by
 obtain ⟨i0, hi, hz0, hz1, hz2⟩ := info_parts zl3
 have h4 := (znc.1 (read_some.1 hps)).1
 have HL := Zh hl
 have HR := Zh h
 have HPS := Zh hps
 have HU : Hid (Z.sums L = Z.un 0 ps) := Zh (by unfold Z.sums; rw [hps]; rfl)
 clear hl h hps
 go_enter Tryz.func125, Tryz.ntmps125
 go_wp2_with fail
 refine (zqb a len cap L ps _ HL.out HR.out HPS.out).mono ?_
 rintro e w1 ⟨a1, cap1, n1, rfl, HL1, HR1, hb1⟩
 have hn1 : n1 <= 400 := by rw [<- HL1.out]; exact h4
 have hs1 := hb1.size
 have HB1 := Zh hb1
 clear hb1 h4
 go_wp2_with (first
  | (at_make; refine wpList_make_row _ rfl _ _ 75 rfl 3 i0 (.int .i64 0) Tryz.underlying75 hi hz0 hz1 rfl .i64 .i64 n1 rfl rfl (by rw [hz2]; omega) (by omega) ?_)
  | (go_at_call 194; refine (zqx _).mono ?_; rintro e w' ⟨rfl, rfl⟩))
 go_loopw [22] (fun i wr => ∃ (k : Nat) (xs : List Int) (p : Int), i = .int .i64 k /\ k <= n1 /\ Hid (SmR ps w1.heap.size w1 wr k xs p)) (fun i _ => n1 - (intOf i).toNat)
 case atStart =>
  refine ⟨0, [], 0, rfl, by omega, Zh ⟨by simp, rfl, by unfold Z.isl; omega, by simp, ?_, ?_, ?_⟩⟩
  ·have := (Blok.new w1 3 (madeCells #[.int .i64 0] n1)).alloc (.cells #[.int .i64 0] 3)
   rw [zoy, HL1.out, <- zoj]
   exact this
  ·have := Blok.new (w1.alloc (.cells (madeCells #[.int .i64 0] n1) 3)) 3 #[.int .i64 0]
   rw [World.size_alloc] at this
   exact this
  ·exact ((Below.refl _ w1).alloc (Nat.le_refl _) _).alloc (by simp) _
 case round =>
  obtain ⟨k, xs, p, rfl, hk, HS⟩ := hrel
  by_cases hlt : k < n1
  ·have hkL : k < ps.length := by rw [HL1.out]; exact hlt
   obtain ⟨b, off, rfl, hb, hc⟩ := zl4 HR1.out hkL
   obtain ⟨n, hn⟩ : ∃ n, ps.getD k 0 = n := ⟨_, rfl⟩
   have hcell : wr.cell? ⟨b, off + k, none⟩ = some (.int .i64 n) := by rw [<- hn]; exact (HS.out.2.2.2.2.2.2.cell (p := ⟨b, off + k, none⟩) hb).trans hc
   have HN := Zh hn
   have HK := Zh hkL
   clear hn hkL hc
   by_cases hg : Z.zig (Z.zag n) = n /\ Z.isl (p + Z.zag n)
   ·have HG := Zh hg
    clear hg
    go_wp2_with (go_at_call 238; refine (zrv n p (w1.heap.size + 1) _ HS.out.2.2.1 HS.out.2.2.2.2.2.1).mono ?_; rintro e w2 ⟨q, ok, rfl, hok, hgr, hq⟩; obtain rfl : ok = true := (by rw [hok]; exact decide_eq_true HG.out); have HQ := Zh (hq rfl); have HGR := Zh hgr; have g1 : w2.cell? ⟨w1.heap.size, k, none⟩ = some (.int .i64 0) := (by rw [(HS.out.2.2.2.2.1.grown HGR.out (by simp)).cell k]; exact zn2 HS.out.2.1 HK.out .i64); have g2 : w2.frozen? ⟨w1.heap.size, k, none⟩ = false := (HS.out.2.2.2.2.1.grown HGR.out (by simp)).frozen k; clear hok hgr hq)
    go_roundw
    case rel => exact ⟨k + 1, xs ++ [q], q, by go_num, by omega, Zh (HS.out.step HK.out (by rw [HN.out]; exact HG.out) (by rw [HN.out]; exact HQ.out.1) HGR.out HQ.out.2)⟩
    case measure => simp [intOf]; omega
   ·have HNo := Zh (HS.out.bad HK.out (by rw [HN.out]; exact hg))
    have HG := Zh hg
    clear hg
    go_wp2_with (go_at_call 238; refine (zrv n p (w1.heap.size + 1) _ HS.out.2.2.1 HS.out.2.2.2.2.2.1).mono ?_; rintro e w2 ⟨q, ok, rfl, hok, hgr, hq⟩; obtain rfl : ok = false := (by rw [hok]; exact decide_eq_false HG.out); have HGR := Zh hgr; have g1 : w2.cell? ⟨w1.heap.size, k, none⟩ = some (.int .i64 0) := (by rw [(HS.out.2.2.2.2.1.grown HGR.out (by simp)).cell k]; exact zn2 HS.out.2.1 HK.out .i64); have g2 : w2.frozen? ⟨w1.heap.size, k, none⟩ = false := (HS.out.2.2.2.2.1.grown HGR.out (by simp)).frozen k; clear hok hgr hq)
    go_ret2
    exact .no (by rw [HU.out]; exact HNo.out) ((HB1.out.trans (HS.out.2.2.2.2.2.2.mono hs1)).trans (((Below.refl w.heap.size wr).grown HGR.out (by have := HS.out.2.2.2.2.1.lt; omega) (fun j e => by cases e; omega)).setCell (by simp; omega) _))
  ·have hkl : k = n1 := by omega
   have HD := Zh (HS.out.done (by rw [HL1.out]; omega))
   have hd : decide (k < n1) = false := by simp; omega
   clear hkl
   go_wp2
   go_ret2
   have hr := HS.out.2.2.2.2.1
   have hl : xs.length = n1 := by have := HS.out.2.1; omega
   rw [zoz (by rw [HL1.out]; omega)] at hr
   refine ⟨_, _, rfl, by rw [HU.out, HD.out]; rfl, ?_, HB1.out.trans (HS.out.2.2.2.2.2.2.mono hs1)⟩
   rw [HU.out, HD.out, Option.getD_some, hl]
   exact hr.own hs1 (by simpa using hl) (Nat.le_refl _) (by unfold maxLen; omega) (by simpa using hl)
theorem zqm (a : Option Addr) (len cap : Nat) (L : List Int) (w : World) (hl : L.length = len) (h : zfv .u8 w a cap L) :
  Calls Tryz.prog 125 #[.slice a len cap] w (zpr L w) := by
 cases hr : M.read L with
 | none => exact zs9 a len cap L w hl h hr
 | some ps => exact zta a len cap L ps w hl h hr
end Go.Proofs.YtijkbflimbffmaaGreat
namespace Go.Proofs.YtijkbflimbffmaaGreat
open Go.RowKit
namespace J
structure Kst (k : Nat) (st : Y.St) (N : List Int) : Prop where
 z : k = 0 -> st = s00
 n : 1 <= k -> 15 <= N.length /\ (∀ x ∈ N, M.isn x) /\ st.d = (stN N).d /\ st.p = (stN N).p /\ st.now = (stN N).now /\ st.ps = (stN N).ps
 l0 : k <= 1 -> st.l = []
 h0 : k <= 3 -> st.h = []
 f : st.ps.length <= 200 /\ st.l.length <= 400 /\ st.h.length <= 400 /\ O.Sm st.ps /\ st.d.b <= 9223372036854775807 /\ st.d.c <= 9223372036854775807
structure Agr (k : Nat) (s st : Y.St) (N : List Int) : Prop where
 n : 1 <= k -> N = nums s
 l2 : k = 2 -> st.l = s.l.map fun x => { x with f := 0 }
 l3 : 3 <= k -> st.l = s.l
 h4 : k = 4 -> st.h = s.h.map fun x => { x with x := 0 }
 h5 : 5 <= k -> st.h = s.h
theorem Kst.start : Kst 0 s00 [] := ⟨fun _ => rfl, fun h => by omega, fun _ => rfl, fun _ => rfl, by simp [s00, O.Sm]⟩
theorem Agr.start (s : Y.St) : Agr 0 s s00 [] := ⟨fun h => by omega, fun h => by omega, fun h => by omega, fun h => by omega, fun h => by omega⟩
theorem Kst.fits {w : World} {b H nn cn k : Nat} {st : Y.St} {A : Y.A9} {an : Option Addr} {N : List Int} (h : Kst k st N) (r : Rd w b H st A an nn cn N) : Y.Fits A st := by
 obtain ⟨h1, h2, h3, h4, h5, h6⟩ := h.f
 exact ⟨by rw [<- r.o.np]; omega, by rw [<- r.o.nl]; omega, by rw [<- r.o.nh]; omega, h4, h5, h6⟩
theorem plsOf_sm : ∀ {r : List Int}, (∀ x ∈ r, M.isn x) -> O.Sm (plsOf r)
 | f :: n :: s :: r, h => by
  intro x hx
  rw [plsOf, List.mem_cons] at hx
  rcases hx with rfl | hx
  ·have := (h f (by simp)).2; show f <= _; omega
  ·exact plsOf_sm (r := r) (fun y hy => h y (by simp [hy])) x hx
 | [], _ => by intro x hx; cases hx
 | [_], _ => by intro x hx; cases hx
 | [_, _], _ => by intro x hx; cases hx
theorem plsOf_le : ∀ r : List Int, 3 * (plsOf r).length <= r.length
 | f :: n :: s :: r => by have := plsOf_le r; rw [plsOf]; simp only [List.length_cons]; omega
 | [] => by simp [plsOf]
 | [_] => by simp [plsOf]
 | [_, _] => by simp [plsOf]
theorem nth_isn {N : List Int} (h : ∀ x ∈ N, M.isn x) (i : Nat) : 0 <= nth N i /\ nth N i <= 1099511627776 := by
 unfold nth
 by_cases hi : i < N.length
 ·have : N.getD i 0 = N[i] := by simp [hi]
  rw [this]; exact h _ (List.getElem_mem hi)
 ·have : N.getD i 0 = 0 := by simp [hi]
  rw [this]; omega
theorem step0 {N : List Int} (h : ∀ x ∈ N, M.isn x) (h15 : 15 <= N.length) (h4 : N.length <= 400) : Kst 1 (stN N) N := by
 have h1 := plsOf_le (N.drop 15)
 rw [List.length_drop] at h1
 refine ⟨fun h => by omega, fun _ => ⟨h15, h, rfl, rfl, rfl, rfl⟩, fun _ => rfl, fun _ => rfl, ?_, by simp [stN], by simp [stN], plsOf_sm (fun x hx => h x (List.mem_of_mem_drop hx)), ?_, ?_⟩
 ·show (plsOf (N.drop 15)).length <= 200; omega
 ·show nth N 0 <= _; have := nth_isn h 0; omega
 ·show nth N 2 <= _; have := nth_isn h 2; omega
theorem agr0 {s : Y.St} : Agr 1 s (stN (nums s)) (nums s) := ⟨fun _ => rfl, fun h => by omega, fun h => by omega, fun h => by omega, fun h => by omega⟩
theorem Kst.at13 {k : Nat} {st : Y.St} {N : List Int} (h : Kst k st N) (hk : 1 <= k) {i : Nat} (hi : i < 15) : ∃ n : Nat, N[i]? = some (n : Int) /\ nth N i = n := by
 obtain ⟨h1, h2, _⟩ := h.n hk
 have hl : i < N.length := by omega
 have := h2 _ (List.getElem_mem hl)
 refine ⟨N[i].toNat, ?_, ?_⟩
 ·rw [List.getElem?_eq_getElem hl, Int.toNat_of_nonneg this.1]
 ·unfold nth; rw [Int.toNat_of_nonneg this.1]; simp [hl]
theorem Kst.l {st : Y.St} {N : List Int} {l : List L.Ls} (h : Kst 1 st N) (hl : l.length <= 400) : Kst 2 { st with l := l } N :=
 ⟨fun h => by omega, fun _ => h.n (by omega), fun h => by omega, fun _ => h.h0 (by omega), h.f.1, hl, h.f.2.2.1, h.f.2.2.2.1, h.f.2.2.2.2⟩
theorem Kst.l' {st : Y.St} {N : List Int} {l : List L.Ls} (h : Kst 2 st N) (hl : l.length = st.l.length) : Kst 3 { st with l := l } N :=
 ⟨fun h => by omega, fun _ => h.n (by omega), fun h => by omega, fun _ => h.h0 (by omega), h.f.1, by show l.length <= 400; rw [hl]; exact h.f.2.1, h.f.2.2.1, h.f.2.2.2.1, h.f.2.2.2.2⟩
theorem Kst.h {st : Y.St} {N : List Int} {l : List L.T3} (h : Kst 3 st N) (hl : l.length <= 400) : Kst 4 { st with h := l } N :=
 ⟨fun h => by omega, fun _ => h.n (by omega), fun h => by omega, fun h => by omega, h.f.1, h.f.2.1, hl, h.f.2.2.2.1, h.f.2.2.2.2⟩
theorem Kst.h' {st : Y.St} {N : List Int} {l : List L.T3} (h : Kst 4 st N) (hl : l.length = st.h.length) : Kst 5 { st with h := l } N :=
 ⟨fun h => by omega, fun _ => h.n (by omega), fun h => by omega, fun h => by omega, h.f.1, h.f.2.1, by show l.length <= 400; rw [hl]; exact h.f.2.2.1, h.f.2.2.2.1, h.f.2.2.2.2⟩
theorem nums13 (s : Y.St) : nth (nums s) 13 = s.l.length /\ nth (nums s) 14 = s.h.length /\ nth (nums s) 12 = s.now := ⟨rfl, rfl, rfl⟩
theorem mkL_lN {x : L.Ls} {now : Int} (h : (0 <= x.s /\ x.s < 32) /\ (0 <= x.a /\ x.a < 4) /\ (0 <= x.b /\ x.b < 8)) (ht : x.t = now) : mkL now (lN x) = { x with f := 0 } := by
 obtain ⟨s, a, b, f, t⟩ := x
 dsimp only at h ht
 subst ht
 unfold mkL lN
 dsimp only
 congr 1 <;> omega
theorem mkH_hN {x : L.T3} (h : (0 <= x.a /\ x.a < 4) /\ (0 <= x.b /\ x.b < 8)) : mkH (hN x) = { x with x := 0 } := by
 obtain ⟨a, b, t⟩ := x
 dsimp only at h
 unfold mkH hN
 dsimp only
 congr 1 <;> omega
theorem agr1 {s st : Y.St} {N P : List Int} (h : Agr 1 s st N) (hk : ok s) (hn : st.now = nth N 12) (hP : P = (pt2 s).getD []) {n : Nat} (hn13 : nth N 13 = n) : (K.unpack P n 10).isSome = true /\ Agr 2 s { st with l := ((K.unpack P n 10).getD []).map (mkL st.now) } N := by
 have hN := h.n (Nat.le_refl _)
 have e1 := pt2_yes hk.1
 rw [<- hP] at e1
 have hnl : s.l.length = n := by rw [hN, (nums13 s).1] at hn13; exact_mod_cast hn13
 have hu : K.unpack P n 10 = some (s.l.map lN) := (K.unpack_some (show K.isd 256 P by have h0 := K.pack_byte (L := s.l.map lN) (w := 10); rw [show K.pack (s.l.map lN) 10 = some P from e1] at h0; exact h0)).2 ⟨e1, by rw [List.length_map, hnl]⟩
 rw [hu]
 refine ⟨rfl, fun _ => hN, fun _ => ?_, fun h => by omega, fun h => by omega, fun h => by omega⟩
 show ((s.l.map lN).map (mkL st.now)) = _
 rw [List.map_map]
 refine List.map_congr_left fun x hx => ?_
 obtain ⟨i1, i2, i3, _⟩ := ls_in hk.1 hx
 exact mkL_lN ⟨i1, i2, i3⟩ (by rw [hk.2 x hx, hn, hN, (nums13 s).2.2])
theorem agr3 {s st : Y.St} {N P : List Int} (h : Agr 3 s st N) (hk : ok s) (hP : P = (pt4 s).getD []) {n : Nat} (hn14 : nth N 14 = n) : (K.unpack P n 5).isSome = true /\ Agr 4 s { st with h := ((K.unpack P n 5).getD []).map mkH } N := by
 have hN := h.n (by omega)
 have e1 := pt4_yes hk.1
 rw [<- hP] at e1
 have hnl : s.h.length = n := by rw [hN, (nums13 s).2.1] at hn14; exact_mod_cast hn14
 have hu : K.unpack P n 5 = some (s.h.map J.hN) := (K.unpack_some (show K.isd 256 P by have h0 := K.pack_byte (L := (s.h.map J.hN)) (w := 5); rw [show K.pack (s.h.map J.hN) 5 = some P from e1] at h0; exact h0)).2 ⟨e1, by rw [List.length_map, hnl]⟩
 rw [hu]
 refine ⟨rfl, fun _ => hN, fun h => by omega, fun _ => h.l3 (by omega), fun _ => ?_, fun h => by omega⟩
 show ((s.h.map J.hN).map mkH) = _
 rw [List.map_map]
 refine List.map_congr_left fun x hx => ?_
 obtain ⟨i1, i2, _⟩ := hd_in hk.1 hx
 exact mkH_hN ⟨i1, i2⟩
theorem agr2 {s st : Y.St} {N P : List Int} (h : Agr 2 s st N) (hk : ok s) (hP : P = (pt3 s).getD []) : Z.sums P = some (s.l.map fun x => x.f) /\ (s.l.map fun x => x.f).length = st.l.length /\ Agr 3 s { st with l := fm st.l (s.l.map fun x => x.f) st.l.length } N := by
 have e1 := pt3_yes hk.1
 rw [<- hP] at e1
 have hl := h.l2 rfl
 have hlen : st.l.length = s.l.length := by rw [hl, List.length_map]
 refine ⟨Z.sums_some.2 e1, by rw [List.length_map, hlen], fun _ => h.n (by omega), fun h => by omega, fun _ => ?_, fun h => by omega, fun h => by omega⟩
 show fm st.l _ st.l.length = s.l
 rw [hlen]
 exact fm_all hl
theorem agr4 {s st : Y.St} {N P : List Int} (h : Agr 4 s st N) (hk : ok s) (hP : P = (pt5 s).getD []) : Z.sums P = some (s.h.map fun x => x.x) /\ (s.h.map fun x => x.x).length = st.h.length /\ Agr 5 s { st with h := hm st.h (s.h.map fun x => x.x) st.h.length } N := by
 have e1 := pt5_yes hk.1
 rw [<- hP] at e1
 have hl := h.h4 rfl
 have hlen : st.h.length = s.h.length := by rw [hl, List.length_map]
 refine ⟨Z.sums_some.2 e1, by rw [List.length_map, hlen], fun _ => h.n (by omega), fun h => by omega, fun _ => h.l3 (by omega), fun h => by omega, fun _ => ?_⟩
 show hm st.h _ st.h.length = s.h
 rw [hlen]
 exact hm_all hl
theorem agr_end {s st : Y.St} {N : List Int} {k : Nat} (h5 : 5 <= k) (hk : Kst k st N) (h : Agr k s st N) : st = s := by
 obtain ⟨_, _, h1, h2, h3, h4⟩ := hk.n (by omega)
 have h5' := h.l3 (by omega)
 have h6 := h.h5 h5
 rw [h.n (by omega), stN_nums] at h1 h2 h3 h4
 obtain ⟨d, p, now, ps, l, hh⟩ := st
 dsimp only at h1 h2 h3 h4 h5' h6
 rw [h1, h2, h3, h4, h5', h6]
end J
end Go.Proofs.YtijkbflimbffmaaGreat
namespace Go.Proofs.YtijkbflimbffmaaGreat
open Go.RowKit
def zqn {α : Type} (F : Fence) (n : Nat) (P : Program) (g : Nat) (lb : Array Value) (encs : α -> Array Value) (G : List α -> α -> Prop) (Kp : World -> World -> Prop) (S : List α -> Prop) (w : World) : Prop :=
 ∀ (l : Nat) (J Jx : List α -> World -> Prop) (W : World), Below w.heap.size w W -> AbidesFrom W.heap.size J -> AbidesFrom W.heap.size Jx ->
  (∀ pre x W1, J pre W1 -> G pre x -> YieldAt F (n - 1) P l (encs x) W1 fun e W' => (e = .returned (.bool true) /\ J (pre ++ [x]) W' /\ Kp W1 W') \/ (e = .returned (.bool false) /\ Jx (pre ++ [x]) W')) ->
  J [] W -> CallsIn F n P g (#[.func (.yield l) #[] #[]] ++ lb) W fun e W' => (∃ v, e = .returned v) /\ ((∃ xs, S xs /\ J xs W') \/ (∃ pre, Jx pre W'))
def zpg (D : Nat) (r : LoopState -> Option Code -> Loop) (st : LoopState) (c : Option Code) (W : World) : Prop := W.heap[D + 1]? = some (.loop (r st c)) /\ W.heap[D]? = some (.deferred (some []))
theorem zpg.from {D : Nat} {r : LoopState -> Option Code -> Loop} {st : LoopState} {c : Option Code} {W W' : World} (h : zpg D r st c W) (hk : KeepsFrom D W W') : zpg D r st c W' := ⟨hk.same _ _ (by omega) h.1 rfl, hk.same _ _ (Nat.le_refl _) h.2 rfl⟩
theorem zpg.turn {D : Nat} {r : LoopState -> Option Code -> Loop} {st : LoopState} {c : Option Code} {W : World} (h : zpg D r st c W) (st' : LoopState) (c' : Option Code) : zpg D r st' c' (W.putObj (D + 1) (.loop (r st' c'))) :=
 ⟨World.putObj_heap_same (Array.getElem?_eq_some_iff.1 h.1).1, (World.putObj_heap_other (by omega)).trans h.2⟩
def ztp {α : Type} (H : Nat) (Kp : World -> World -> Prop) (I : List α -> World -> Prop) (Ix : Code -> List α -> World -> Prop) (xs : List α) (W : World) : Exit -> Act -> World -> Prop
 | .normal, _, W' => KeepsFrom H W W' /\ Kp W W' /\ I xs W'
 | .exit i, _, W' => KeepsFrom H W W' /\ Ix (.exit i) xs W'
 | _, _, _ => False
theorem zop {F : Fence} {n : Nat} {P : Program} {α : Type} {g : Operand} {ps : Array Tmp} {assign body : Code} {Q : Exit -> Act -> World -> Prop} {a : Act} {w : World}
  (hro : F.round = none) (h1 : 1 <= n) {gf : Nat} {lb : Array Value} (hg : a.eval g = .func (.func gf) #[] lb) (hFg : F.fn gf) (eg : ∀ args w, (callFunc gf args).run P w = .ok (.enter gf args) w)
  {encs : α -> Array Value} {G : List α -> α -> Prop} {Kp : World -> World -> Prop} {S : List α -> Prop} {w0 : World} (hseq : zqn F (n - 1) P gf lb encs G Kp S w0) (hb0 : Below w0.heap.size w0 w) (hps : ∀ x, (encs x).size = ps.size)
  (hKt : ∀ {X Y Z : World}, Kp X Y -> Kp Y Z -> Kp X Z) (hKb : ∀ (W : World) (l : Nat) (o o' : Obj), w.heap.size <= l -> W.heap[l]? = some o -> o.isCells = false -> o.isWalk = false -> Kp W (W.putObj l o'))
  (I : List α -> World -> Prop) (Ix : Code -> List α -> World -> Prop) (hI : OwnFrom w.heap.size I) (hIx : ∀ c, OwnFrom w.heap.size (Ix c)) (h0 : I [] w) (a₁ : α -> Act)
  (hassign : ∀ (l : Nat) (x : α) (W : World) (K : Act -> World -> Prop), K (a₁ x) W ->
   assign.wpIn (F.inRound l) (n - 1 - 1) P (Exit.then K (fun _ _ _ => False)) { tmps := (ps.zip (encs x)).foldl (fun t (p, v) => t.setIfInBounds p v) a.tmps, defers := [] } W)
  (hbody : ∀ (l : Nat) (pre : List α) (x : α) (W : World), I pre W -> G pre x -> body.wpIn (F.inRound l) (n - 1 - 1) P (ztp w.heap.size Kp I Ix (pre ++ [x]) W) (a₁ x) W)
  (hdone : ∀ (D : Nat) (xs : List α) (W : World), w.heap.size <= D -> S xs -> I xs W -> W.heap[D]? = some (.deferred (some [])) -> Q .normal { a with defers := { target := .collected D, args := #[] } :: a.defers } W)
  (hstop : ∀ (D : Nat) (c : Code) (pre : List α) (W : World), w.heap.size <= D -> Ix c pre W -> W.heap[D]? = some (.deferred (some [])) -> c.wpIn F n P Q { a with defers := { target := .collected D, args := #[] } :: a.defers } W) :
  (Code.rangeFunc g ps assign body).wpIn F n P Q a w := by
 refine wpIn_rangeFunc fun fn hfn => ?_
 rw [hro]
 obtain ⟨D, hD⟩ : ∃ D, D = w.heap.size := ⟨_, rfl⟩
 obtain ⟨r, hr⟩ : ∃ r : LoopState -> Option Code -> Loop, r = fun st c => { state := st, pending := c, fn, tmps := a.tmps, params := ps, assign, body, defers := D } := ⟨_, rfl⟩
 have hkept : zpg D r .ready none ((w.alloc (.deferred (some []))).alloc (.loop (r .ready none))) := by
  have e1 := World.alloc_heap_new (w.alloc (.deferred (some []))) (.loop (r .ready none))
  have e2 := World.alloc_heap_new w (.deferred (some []))
  rw [World.size_alloc, <- hD] at e1
  rw [<- hD] at e2
  exact ⟨e1, (Below.heap_alloc _ _ _ (by simp; omega)).trans e2⟩
 have hbel : Below w.heap.size w ((w.alloc (.deferred (some []))).alloc (.loop (r .ready none))) := ((Below.refl _ w).alloc (Nat.le_refl _) _).alloc (by simp) _
 have hinv : I [] ((w.alloc (.deferred (some []))).alloc (.loop (r .ready none))) := hI.alloc _ (hI.alloc _ h0)
 have hent : (Instr.enterLoop fn a.tmps ps assign body none).run P w = .ok (D + 1, [{ target := .collected D, args := #[] }]) ((w.alloc (.deferred (some []))).alloc (.loop (r .ready none))) := by
  rw [hr, hD]; exact run_enterLoop_outer _ _ _ _ _
 have hsz : w.heap.size <= ((w.alloc (.deferred (some []))).alloc (.loop (r .ready none))).heap.size /\ D + 1 < ((w.alloc (.deferred (some []))).alloc (.loop (r .ready none))).heap.size := by simp; omega
 generalize (w.alloc (.deferred (some []))).alloc (.loop (r .ready none)) = W1 at hkept hbel hinv hent hsz
 have hw : ∀ {X Y : World} {row : Option Nat}, (∀ k, row = some k -> W1.heap.size <= k /\ ∃ o : Obj, X.heap[k]? = some o /\ o.isWalk = true) -> ∀ k, row = some k -> w.heap.size <= k /\ ∃ o : Obj, X.heap[k]? = some o /\ o.isCells = false := fun hrow k e => by
  obtain ⟨hk, o, ho, hoo⟩ := hrow k e
  exact ⟨by omega, o, ho, Obj.not_cells_of_walk hoo⟩
 refine ⟨D + 1, _, W1, { target := .fn (.func gf) lb, args := #[.func (.yield (D + 1)) #[] #[]] }, W1, gf, #[.func (.yield (D + 1)) #[] #[]] ++ lb, W1, hent, ?_, ?_, ?_, fun _ => h1, ?_⟩
 ·simp only [resolve, hg]
  simp [go_sem]
 ·intro f' hf'
  simp [Target.leads] at hf'
  exact hf' ▸ hFg
 ·simp [invoke, go_sem, eg]
 ·refine (hseq (D + 1) (fun pre W => I pre W /\ zpg D r .ready none W) (fun pre W => ∃ c, Ix c pre W /\ zpg D r .done (some c) W) W1 (hb0.trans (hbel.mono hb0.size))
   (fun s X Y row hs hgr hrow => ⟨hI s X Y row hs.1 hgr (hw (Y := Y) hrow), (grownBy_keeps hgr (fun k e => (hrow k e).2) hs.2.1 rfl).trans hs.2.1, (grownBy_keeps hgr (fun k e => (hrow k e).2) hs.2.2 rfl).trans hs.2.2⟩)
   (fun s X Y row hs hgr hrow => by
    obtain ⟨c, hc, hl, hd⟩ := hs
    exact ⟨c, hIx c s X Y row hc hgr (hw (Y := Y) hrow), (grownBy_keeps hgr (fun k e => (hrow k e).2) hl rfl).trans hl, (grownBy_keeps hgr (fun k e => (hrow k e).2) hd rfl).trans hd⟩)
   ?_ ⟨hinv, hkept⟩).mono ?_
  ·rintro pre x V ⟨hi, hk⟩ hG
   have hy := run_yield (P := P) (args := encs x) hk.1 (by rw [hr]; exact hps x)
   rw [hr] at hy
   refine ⟨fn, _, assign, body, hy, roundIn_of_wpIn hfn (hassign _ x V _ ?_)⟩
   refine ⟨V.putObj (D + 1) (.loop (r .busy none)), by have := run_beginRound (P := P) hk.1 (by rw [hr]); rw [hr] at this ⊢; exact this, ?_⟩
   have hk2 := hk.turn .busy none
   refine wpIn_mono (hbody _ pre x _ (hI.putObj _ hi (by omega) hk.1 rfl) hG) ?_
   rintro e a3 V3 he
   cases e with
   | normal =>
    obtain ⟨hkf3, hkp3, hi3⟩ := he
    have hk3 := hk2.from (show KeepsFrom D _ V3 by have h := hkf3; rwa [<- hD] at h)
    refine ⟨.bool true, V3.putObj (D + 1) (.loop (r .ready none)), by have := run_endRound (P := P) none hk3.1; rw [hr] at this ⊢; exact this, .inl ⟨rfl, ⟨hI.putObj _ hi3 (by omega) hk3.1 rfl, hk3.turn .ready none⟩, ?_⟩⟩
    exact hKt (hKt (hKb _ _ _ _ (by omega) hk.1 rfl rfl) hkp3) (hKb _ _ _ _ (by omega) hk3.1 rfl rfl)
   | exit i =>
    obtain ⟨hkf3, hi3⟩ := he
    have hk3 := hk2.from (show KeepsFrom D _ V3 by have h := hkf3; rwa [<- hD] at h)
    refine ⟨.bool false, V3.putObj (D + 1) (.loop (r .done (some (.exit i)))), by have := run_endRound (P := P) (some (.exit i)) hk3.1; rw [hr] at this ⊢; exact this, .inr ⟨rfl, .exit i, (hIx _).putObj _ hi3 (by omega) hk3.1 rfl, hk3.turn .done (some (.exit i))⟩⟩
   | ret => exact he.elim
   | goto t => exact he.elim
   | panic c => exact he.elim
   | outgrown => exact he.elim
  ·rintro e V ⟨⟨v, rfl⟩, (⟨xs, hS, hi, hk⟩ | ⟨pre, c, hi, hk⟩)⟩
   ·refine ⟨none, _, by have := run_endLoop (P := P) hk.1 (by rw [hr]; simp); rw [hr] at this; exact this, ?_⟩
    exact hdone D xs _ (by omega) hS (hI.putObj _ hi (by omega) hk.1 rfl) ((World.putObj_heap_other (by omega)).trans hk.2)
   ·refine ⟨some c, _, by have := run_endLoop (P := P) hk.1 (by rw [hr]; simp); rw [hr] at this; exact this, ?_⟩
    exact hstop D c pre _ (by omega) ((hIx c).putObj _ hi (by omega) hk.1 rfl) ((World.putObj_heap_other (by omega)).trans hk.2)
end Go.Proofs.YtijkbflimbffmaaGreat
namespace Go.Proofs.YtijkbflimbffmaaGreat
set_option maxRecDepth 100000
open Go.RowKit
namespace J
def Cut (b : List Int) (P : List (List Int)) (p : Nat) : Prop := p <= b.length /\ (∀ x ∈ P, M.isn (x.length : Int)) /\ b.take p = P.flatMap one
theorem Cut.start (b : List Int) : Cut b [] 0 := ⟨Nat.zero_le _, by simp, by simp⟩
theorem Cut.step {b : List Int} {P : List (List Int)} {p e : Nat} {m : Int} (hb : ∀ c ∈ b, 0 <= c /\ c <= 255) (h : Cut b P p) (hh : M.head (b.drop p) = some (m, e)) (hm : m <= (b.length : Int) - ((p : Int) + e)) :
  0 <= m /\ 0 < e /\ p + e + m.toNat <= b.length /\ ((b.take (p + e + m.toNat)).drop (p + e)).length = m.toNat /\ Cut b (P ++ [(b.take (p + e + m.toNat)).drop (p + e)]) (p + e + m.toNat) := by
 obtain ⟨hn, ht, hl, hle, h0⟩ := zoc (fun c hc => hb c (List.mem_of_mem_drop hc)) hh
 obtain ⟨h1, h2, h3⟩ := h
 have hn0 := hn.1
 have hL : ((b.take (p + e + m.toNat)).drop (p + e)).length = m.toNat := by simp; omega
 refine ⟨hn0, h0, by omega, hL, by omega, fun x hx => ?_, ?_⟩
 ·rcases List.mem_append.1 hx with hx | hx
  ·exact h2 x hx
  ·simp only [List.mem_singleton] at hx
   rw [hx, hL, Int.toNat_of_nonneg hn0]; exact hn
 ·rw [List.flatMap_append, <- h3]
  simp only [List.flatMap_cons, List.flatMap_nil, List.append_nil, one]
  rw [hL, Int.toNat_of_nonneg hn0, <- ht, List.drop_take, show p + e + m.toNat - (p + e) = m.toNat by omega, List.take_add (i := p + e), List.take_add (i := p), List.append_assoc]
theorem pre_of : ∀ (P Q : List (List Int)) (r : List Int), (∀ b ∈ P, M.isn (b.length : Int)) -> (∀ b ∈ Q, M.isn (b.length : Int)) -> P.flatMap one ++ r = Q.flatMap one -> ∃ T, Q = P ++ T /\ r = T.flatMap one
 | [], Q, r, _, _, h => ⟨Q, rfl, by simpa using h⟩
 | x :: P, [], r, hP, _, h => by
  have hx := zok (hP x (by simp))
  have := congrArg List.length h
  simp only [List.flatMap_cons, List.flatMap_nil, List.length_append, List.length_nil, one] at this
  omega
 | x :: P, y :: Q, r, hP, hQ, h => by
  simp only [List.flatMap_cons, List.append_assoc] at h
  obtain ⟨rfl, h2⟩ := one_append (hP x (by simp)) (hQ y (by simp)) h
  obtain ⟨T, rfl, h3⟩ := pre_of P Q r (fun b hb => hP b (by simp [hb])) (fun b hb => hQ b (by simp [hb])) h2
  exact ⟨T, rfl, h3⟩
theorem Cut.pre {b : List Int} {P : List (List Int)} {p : Nat} {s : Y.St} (h : Cut b P p) (hs : put s = some b) : ∃ T, parts s = P ++ T /\ b.drop p = T.flatMap one := by
 obtain ⟨hk, hb⟩ := zc7.1 hs
 obtain ⟨h1, h2, h3⟩ := h
 exact pre_of P (parts s) (b.drop p) h2 (parts_isn hk.1) (by rw [<- h3, List.take_append_drop, hb]; rfl)
theorem Cut.len {b : List Int} {P : List (List Int)} {p : Nat} (h : Cut b P p) : P.length <= p := by
 obtain ⟨h1, h2, h3⟩ := h
 have e : ∀ P : List (List Int), (∀ x ∈ P, M.isn (x.length : Int)) -> P.length <= (P.flatMap one).length := by
  intro P
  induction P with
  | nil => simp
  | cons x P ih =>
   intro h
   have := ih (fun y hy => h y (by simp [hy]))
   have := zok (h x (by simp))
   rw [List.flatMap_cons, List.length_append, List.length_cons]
   simp only [one, List.length_append]
   omega
 have := e P h2
 rw [<- h3, List.length_take] at this
 omega
def Ends (b : List Int) (p : Nat) : Prop := M.head (b.drop p) = none \/ ∃ (m : Int) (e : Nat), M.head (b.drop p) = some (m, e) /\ (b.length : Int) - ((p : Int) + e) < m
theorem Cut.ends {b : List Int} {P : List (List Int)} {p : Nat} {s : Y.St} (h : Cut b P p) (he : Ends b p) (hs : put s = some b) : parts s = P := by
 obtain ⟨T, h1, h2⟩ := h.pre hs
 cases T with
 | nil => simpa using h1
 | cons x T =>
  exfalso
  have hx : M.isn (x.length : Int) := parts_isn (zc7.1 hs).1.1 x (by rw [h1]; simp)
  have hh := one_head hx (T.flatMap one)
  rw [show one x ++ T.flatMap one = (x :: T).flatMap one by simp, <- h2] at hh
  rcases he with h3 | ⟨m, e, h3, h4⟩
  ·rw [h3] at hh; cases hh
  ·rw [h3] at hh
   simp only [Option.some.injEq, Prod.mk.injEq] at hh
   have := congrArg List.length h2
   simp only [List.length_drop, List.flatMap_cons, List.length_append, one] at this
   have := h.1
   omega
abbrev PK := Int × Option Addr × Nat × List Int
abbrev encK (x : PK) : Array Value := #[.int .i64 x.1, .slice x.2.1 x.2.2.2.length x.2.2.1]
def Tells (W0 : World) (b : List Int) (pre : List PK) (x : PK) : Prop :=
 x.1 = pre.length /\ zfv .u8 W0 x.2.1 x.2.2.1 x.2.2.2 /\ (x.2.1 = none -> x.2.2.2.length = 0 /\ x.2.2.1 = 0) /\ x.2.2.2.length <= b.length /\ ∀ s, put s = some b -> ∃ T, parts s = pre.map (fun y => y.2.2.2) ++ x.2.2.2 :: T
def Whole (b : List Int) (xs : List PK) : Prop := ∀ s, put s = some b -> parts s = xs.map fun y => y.2.2.2
theorem head_at (L : List Int) (p : Nat) : ∃ n q : Int, M.get L p = (n, q) /\ ((∃ e : Nat, M.head (L.drop p) = some (n, e) /\ q = (p : Int) + e) \/ (M.head (L.drop p) = none /\ q = -1)) := by
 cases hh : M.head (L.drop p) with
 | none => exact ⟨0, -1, get_none hh, .inr ⟨rfl, rfl⟩⟩
 | some r => exact ⟨r.1, (p : Int) + r.2, get_some hh, .inl ⟨r.2, rfl, rfl⟩⟩
end J
theorem ztb (a : Option Addr) {len cap l h m : Nat} (h1 : l <= h) (h2 : h <= m) (h3 : m <= cap) (w : World) :
  (Instr.sliceAt 36 (.slice a len cap) (some (.int .i64 (l : Int))) (some (.int .i64 (h : Int))) (some (.int .i64 (m : Int)))).run Tryz.prog w = .ok (.slice (sl a l m) (h - l) (m - l)) w := by
 rw [run_sliceAt_slice (w := w) (h := Tryz.underlying36), run_slice_lhm (w := w) (ht := Tryz.underlying36) (h0 := by omega) (h1 := by omega) (h2 := by omega) (h3 := by omega)]
 have hs : (sizeOf (Tryz.prog.elem 36)).run Tryz.prog w = .ok 1 w := by kernel_rfl
 rw [hs]
 simp [Result.andThen, sliced, sl]
end Go.Proofs.YtijkbflimbffmaaGreat
namespace Go.Proofs.YtijkbflimbffmaaGreat
set_option maxHeartbeats 1000000
set_option maxRecDepth 100000
open Go.RowKit
attribute [local go_sem] Oper.semAt_some
theorem zrw (n l Bn H : Nat) (hn : 3 <= n) (a : Option Addr) (len cap : Nat) (L : List Int) (h9 : len <= 90000) (hcap : len <= cap) (hlen : L.length = len) (QJ QX : List J.PK -> World -> Prop) (W W0 : World)
  (hY : ∀ pre x V, QJ pre V -> J.Tells W0 L pre x -> YieldAt Fence.wide (n - 1) Tryz.prog l (J.encK x) V fun e V' => (e = .returned (.bool true) /\ QJ (pre ++ [x]) V' /\ Kp H Bn V V') \/ (e = .returned (.bool false) /\ QX (pre ++ [x]) V'))
  (hBn : Boxed W Bn 36 (.slice a len cap)) (hH : W0.heap.size <= H) (hW0 : Below H W0 W) (hL : zfv .u8 W0 a cap L) (hN : a = none -> len = 0 /\ cap = 0) (h0 : QJ [] W) :
  CallsIn Fence.wide n Tryz.prog 121 #[.func (.yield l) #[] #[], .pointer (some ⟨Bn, 0, none⟩)] W fun e V => (∃ v, e = .returned v) /\ ((∃ xs, J.Whole L xs /\ QJ xs V) \/ (∃ pre, QX pre V)) := by
 have hf1 : Fence.wide.fn 121 := trivial
 have hf2 : Fence.wide.fn 122 := trivial
 have hro : Fence.wide.round = none := rfl
 have hby := Zh (zo9 hL.2.1)
 have HL := Zh hL
 have HE := Zh hlen
 have HN := Zh hN
 have HW0 := Zh hW0
 clear hL hlen hN hW0
 have hcell := hBn.cell
 have h1 : 1 <= n := by omega
 have h2 : 1 <= n - 1 := by omega
 refine callsIn_of_wp Tryz.func121 rfl hf1 ?_ hro
 simp only [Tryz.ntmps121, List.size_toArray, List.length_cons, List.length_nil, Nat.reduceAdd, Nat.reduceSub, Array.replicate_succ, Array.replicate_zero, List.push_toArray, List.append_toArray, List.nil_append, List.cons_append]
 gi_wp2_with fail
 gi_loopw [3, 4] (fun x y wr => ∃ (pre : List J.PK) (p : Nat), Hid (J.Cut L (pre.map fun y => y.2.2.2) p) /\ Hid (QJ pre wr) /\ Kp H Bn W wr /\ x = .int .i64 (p : Int) /\ y = .int .i64 (pre.length : Int)) (fun x _ _ => len + 1 - (intOf x).toNat)
 case atStart => exact ⟨[], 0, Zh (J.Cut.start _), Zh h0, Kp.r _ _ _, rfl, rfl⟩
 case round =>
  obtain ⟨pre, p, HP, HJ, hK, rfl, rfl⟩ := hrel
  have hcw : wr.cell? ⟨Bn, 0, none⟩ = some (.slice a len cap) := (World.cell?_of_block (w := W) (a := ⟨Bn, 0, none⟩) hK.2).trans hcell
  have HR3 : Hid (zfv .u8 wr a cap L) := Zh (HL.out.belowN hH (HW0.out.trans hK.1))
  obtain ⟨m, q, hg, hq⟩ := J.head_at L p
  have hpre : pre.length <= p := by have := HP.out.len; rwa [List.length_map] at this
  have hpl : p <= len := by have := HP.out.1; rw [HE.out] at this; exact this
  rcases hq with ⟨e, hh, rfl⟩ | ⟨hh, rfl⟩
  ·have hh0 := zoc (fun c hc => hby.out c (List.mem_of_mem_drop hc)) hh
   have he0 : 0 < e := hh0.2.2.2.2
   have hm0 : 0 <= m := hh0.1.1
   have hm1 : m <= 1099511627776 := hh0.1.2
   have hel : p + e <= len := by have := hh0.2.2.2.1; rw [List.length_drop, HE.out] at this; omega
   have hge : decide ((p : Int) + e < 0) = false := by simp; omega
   have HH := Zh hh
   have HG := Zh hg
   clear hg hh hh0
   by_cases hm : m <= (len : Int) - ((p : Int) + e)
   ·have hgt : decide ((len : Int) - ((p : Int) + e) < m) = false := by simp; omega
    obtain ⟨m, rfl⟩ : ∃ k : Nat, m = (k : Int) := ⟨m.toNat, by omega⟩
    obtain ⟨_, _, c3, c4, c5⟩ := HP.out.step hby.out HH.out (by rw [HE.out]; exact hm)
    simp only [Int.toNat_natCast] at c3 c4 c5
    obtain ⟨part, hpart⟩ : ∃ B, (L.take (p + e + m)).drop (p + e) = B := ⟨_, rfl⟩
    rw [hpart] at c4 c5
    have HC5 := Zh c5
    have hT : J.Tells W0 L pre ((pre.length : Int), sl a (p + e) (p + e + m), m, part) := ⟨rfl, by
     have := zo6 (l := p + e) (h := p + e + m) (m := p + e + m) HL.out (by omega) (by rw [HE.out]; omega) (Nat.le_refl _) (by unfold maxLen; omega)
     rw [hpart] at this
     simpa using this, fun h => by have := HN.out (zs6 h); dsimp only; omega, by dsimp only; rw [HE.out]; omega, fun s hs => by
     obtain ⟨T, h1, _⟩ := c5.pre hs
     exact ⟨T, by simpa using h1⟩⟩
    obtain ⟨fn, tmps, assign, body, hy, hR⟩ := hY pre _ wr HJ.out hT
    dsimp only [J.encK] at hy
    rw [c4] at hy
    have hs3 : ∀ w, (Instr.sliceAt 36 (.slice a len cap) (some (.int .i64 ((p : Int) + e))) (some (.int .i64 ((p : Int) + e + m))) (some (.int .i64 ((p : Int) + e + m)))).run Tryz.prog w = .ok (.slice (sl a (p + e) (p + e + m)) m m) w := fun w => by
     have := ztb a (len := len) (cap := cap) (l := p + e) (h := p + e + m) (m := p + e + m) (by omega) (Nat.le_refl _) (by omega) w
     simpa using this
    clear c5 hT hpart hm
    gi_wp2_with (gi_at_call 122; refine (callsIn_wide.2 (zn5 HG.out (zol a len cap _ L _ HE.out HR3.out))).mono ?_; rintro e' w' ⟨rfl, rfl⟩)
    refine hR.mono ?_
    rintro e3 W3 (⟨rfl, hJ3, hk3⟩ | ⟨rfl, hx3⟩)
    ·gi_wp2
     go_roundw
     case rel => exact ⟨pre ++ [((pre.length : Int), sl a (p + e) (p + e + m), m, part)], p + e + m, Zh (by simpa using HC5.out), Zh hJ3, hK.t hk3, by simp, by simp⟩
     case measure => simp [intOf]; omega
    ·gi_wp2
     refine bodyPost_ret (results_none rfl _ _ _) rfl ?_
     exact ⟨⟨_, rfl⟩, .inr ⟨_, hx3⟩⟩
   ·have hgt : decide ((len : Int) - ((p : Int) + e) < m) = true := by simp; omega
    gi_wp2_with (gi_at_call 122; refine (callsIn_wide.2 (zn5 HG.out (zol a len cap _ L _ HE.out HR3.out))).mono ?_; rintro e' w' ⟨rfl, rfl⟩)
    refine bodyPost_ret (results_none rfl _ _ _) rfl ?_
    exact ⟨⟨_, rfl⟩, .inl ⟨pre, fun s hs => HP.out.ends (.inr ⟨m, e, HH.out, by rw [HE.out]; omega⟩) hs, HJ.out⟩⟩
  ·have HG := Zh hg
   have HH := Zh hh
   clear hg hh
   gi_wp2_with (gi_at_call 122; refine (callsIn_wide.2 (zn5 HG.out (zol a len cap _ L _ HE.out HR3.out))).mono ?_; rintro e' w' ⟨rfl, rfl⟩)
   refine bodyPost_ret (results_none rfl _ _ _) rfl ?_
   exact ⟨⟨_, rfl⟩, .inl ⟨pre, fun s hs => HP.out.ends (.inl HH.out) hs, HJ.out⟩⟩
theorem zqc (n H Bn : Nat) (hn : 3 <= n) (a : Option Addr) (len cap : Nat) (L : List Int) (h9 : len <= 90000) (hcap : len <= cap) (hlen : L.length = len) (W0 w : World) (hBn : Boxed w Bn 36 (.slice a len cap)) (hH : W0.heap.size <= H) (hHw : H <= w.heap.size) (hW0 : Below H W0 w) (hL : zfv .u8 W0 a cap L) (hN : a = none -> len = 0 /\ cap = 0) :
  zqn Fence.wide n Tryz.prog 121 #[.pointer (some ⟨Bn, 0, none⟩)] J.encK (J.Tells W0 L) (Kp H Bn) (J.Whole L) w := fun l Q Qx W hW _ _ hY h0 =>
 zrw n l Bn H hn a len cap L h9 hcap hlen Q Qx W W0 hY ((hW.block Bn hBn.lt).trans hBn) hH (hW0.trans (hW.mono hHw)) hL hN h0
theorem zsi (n : Nat) (a : Option Addr) (len cap : Nat) (w : World) :
  CallsIn Fence.wide n Tryz.prog 46 #[.slice a len cap] w fun e w' => e = .returned (.func (.func 121) #[] #[.pointer (some ⟨w.heap.size, 0, none⟩)]) /\ w' = w.alloc (.cells #[.slice a len cap] 36) := by
 have hf20 : Fence.wide.fn 46 := trivial
 refine callsIn_of_wp Tryz.func46 rfl hf20 ?_ rfl
 simp only [Tryz.ntmps46, List.size_toArray, List.length_cons, List.length_nil, Nat.reduceAdd, Nat.reduceSub, Array.replicate_succ, Array.replicate_zero, List.push_toArray, List.append_toArray, List.nil_append, List.cons_append]
 gi_wp2
 go_ret
 exact ⟨rfl, rfl⟩
end Go.Proofs.YtijkbflimbffmaaGreat
