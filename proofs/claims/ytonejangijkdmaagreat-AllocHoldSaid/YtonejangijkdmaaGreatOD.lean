import Derived.Test.YtonejangijkdmaaGreatOC
import Derived.Lib.QuietBelow
namespace Go.Proofs.YtonejangijkdmaaGreat
set_option maxHeartbeats 1600000
set_option maxRecDepth 100000
open Go.RowKit
def QUp (H : Nat) (w : World) (a : Option Addr) (n c : Nat) (l : List O.Pl) : Prop := QIn w a n c l /\ ∀ q, a = some q -> H <= q.block
theorem QUp.le {H H' : Nat} {w : World} {a : Option Addr} {n c : Nat} {l : List O.Pl} (h : QUp H w a n c l) (hh : H' <= H) : QUp H' w a n c l := ⟨h.1, fun q hq => Nat.le_trans hh (h.2 q hq)⟩
theorem za2 (a : Option Addr) (n c : Nat) (l : List O.Pl) (w : World) (h : QIn w a n c l) (hn : n <= 800) :
  Calls Tryz.prog 79 #[.slice a n c] w fun e w' => ∃ a2 c2, e = .returned (.slice a2 n c2) /\ Hid (QUp w.heap.size w' a2 n c2 l) /\ Below w.heap.size w w' := by
 refine (zes a n c l w (by omega) h).mono ?_
 rintro e w' ⟨v, rfl, ho, hb⟩
 obtain ⟨a2, c2, rfl, ht⟩ := zbq ho.out h.1
 exact ⟨a2, c2, rfl, Zh ⟨ht, fun q hq => (ho.out.lt q.block (by rw [hq]; rfl)).1⟩, hb⟩
theorem zgw (a : Option Addr) (n c : Nat) (l : List O.Pl) (f n' : Int) (l2 : List O.Pl) (n2 : Nat) (w : World) (h : QIn w a n c l) (hn : n <= 800) (hl : l ++ [⟨f, n', 0⟩] = l2) (h2 : l2.length = n2) :
  Calls Tryz.prog 180 #[.slice a n c, .agg #[.int .i64 0, .int .i64 0, .int .i64 f, .int .i64 n']] w fun e w' => ∃ a2 c2, e = .returned (.slice a2 n2 c2) /\ Hid (QUp w.heap.size w' a2 n2 c2 l2) /\ Below w.heap.size w w' := by
 refine (zit a n c l 0 f n' w h (by omega)).mono ?_
 rintro e w' ⟨v, q, rfl, hq, ho, hb⟩
 rw [<- h.1, O.run0, hl] at hq ho
 obtain rfl : n2 = q := by rw [<- h2, hq]
 obtain ⟨a2, c2, rfl, ht⟩ := zbq ho.out h2
 exact ⟨a2, c2, rfl, Zh ⟨ht, fun q hq => (ho.out.lt q.block (by rw [hq]; rfl)).1⟩, hb⟩
theorem done0_is (a : Option Addr) (n c : Nat) (l : List O.Pl) (f n' : Int) (l2 : List O.Pl) (n2 : Nat) (w : World) (h : QIn w a n c l) (hn : n <= 800) (hl : l ++ [⟨f, n', 0⟩] = l2) (h2 : l2.length = n2) :
  Calls Tryz.prog 180 #[.slice a n c, .agg #[.int .i64 0, .int .i64 0, .int .i64 f, .int .i64 n']] w fun e w' => ∃ a2 c2, e = .returned (.slice a2 n2 c2) /\ Hid (QIn w' a2 n2 c2 l2) /\ Below w.heap.size w w' :=
 (zgw a n c l f n' l2 n2 w h hn hl h2).mono fun _ _ ⟨a2, c2, he, ht, hb⟩ => ⟨a2, c2, he, Zh ht.out.1, hb⟩
theorem zkd (a : Option Addr) (n c : Nat) (l : List O.Pl) (k : Int) (l2 : List O.Pl) (n2 : Nat) (w : World) (h : QIn w a n c l) (hn : n <= 800) (h0 : 0 <= k) (h1 : k < n) (hl : l.set k.toNat { O.at' l k with s := 1 } = l2) (h2 : l2.length = n2) :
  Calls Tryz.prog 180 #[.slice a n c, .agg #[.int .i64 1, .int .i64 k, .int .i64 0, .int .i64 0]] w fun e w' => ∃ a2 c2, e = .returned (.slice a2 n2 c2) /\ Hid (QUp w.heap.size w' a2 n2 c2 l2) /\ Below w.heap.size w w' := by
 refine (ziu a n c l k 0 0 w h (by omega)).mono ?_
 rintro e w' ⟨v, q, rfl, hq, ho, hb⟩
 rw [<- h.1, O.run1 0 h0 (by rw [h.1]; exact h1), hl] at hq ho
 obtain rfl : n2 = q := by rw [<- h2, hq]
 obtain ⟨a2, c2, rfl, ht⟩ := zbq ho.out h2
 exact ⟨a2, c2, rfl, Zh ⟨ht, fun q hq => (ho.out.lt q.block (by rw [hq]; rfl)).1⟩, hb⟩
theorem zke (a : Option Addr) (n c : Nat) (l : List O.Pl) (k n' : Int) (l2 : List O.Pl) (n2 : Nat) (w : World) (h : QIn w a n c l) (hn : n <= 800) (h0 : 0 <= k) (h1 : k < n) (hl : l.set k.toNat { O.at' l k with n := n' } = l2) (h2 : l2.length = n2) :
  Calls Tryz.prog 180 #[.slice a n c, .agg #[.int .i64 2, .int .i64 k, .int .i64 0, .int .i64 n']] w fun e w' => ∃ a2 c2, e = .returned (.slice a2 n2 c2) /\ Hid (QUp w.heap.size w' a2 n2 c2 l2) /\ Below w.heap.size w w' := by
 refine (ziv a n c l k 0 n' w h (by omega)).mono ?_
 rintro e w' ⟨v, q, rfl, hq, ho, hb⟩
 rw [<- h.1, O.run2 h0 (by rw [h.1]; exact h1), hl] at hq ho
 obtain rfl : n2 = q := by rw [<- h2, hq]
 obtain ⟨a2, c2, rfl, ht⟩ := zbq ho.out h2
 exact ⟨a2, c2, rfl, Zh ⟨ht, fun q hq => (ho.out.lt q.block (by rw [hq]; rfl)).1⟩, hb⟩
theorem zgx (a : Option Addr) (n c : Nat) (l : List O.Pl) (k : Int) (l2 : List O.Pl) (n2 : Nat) (w : World) (h : QIn w a n c l) (hn : n <= 800) (h0 : 0 <= k) (hl : l.eraseIdx k.toNat = l2) (h2 : l2.length = n2) :
  Calls Tryz.prog 180 #[.slice a n c, .agg #[.int .i64 3, .int .i64 k, .int .i64 0, .int .i64 0]] w fun e w' => ∃ a2 c2, e = .returned (.slice a2 n2 c2) /\ Hid (QUp w.heap.size w' a2 n2 c2 l2) /\ Below w.heap.size w w' := by
 refine (ziw a n c l k 0 0 w h (by omega)).mono ?_
 rintro e w' ⟨v, q, rfl, hq, ho, hb⟩
 rw [<- h.1, O.run3 0 h0, hl] at hq ho
 obtain rfl : n2 = q := by rw [<- h2, hq]
 obtain ⟨a2, c2, rfl, ht⟩ := zbq ho.out h2
 exact ⟨a2, c2, rfl, Zh ⟨ht, fun q hq => (ho.out.lt q.block (by rw [hq]; rfl)).1⟩, hb⟩
theorem zdd (a : Option Addr) (n c : Nat) (l : List O.Pl) (k : Int) (l2 : List O.Pl) (n2 : Nat) (w : World) (h : QIn w a n c l) (hn : n <= 800) (h0 : 0 <= k) (hl : l.eraseIdx k.toNat = l2) (h2 : l2.length = n2) :
  Calls Tryz.prog 180 #[.slice a n c, .agg #[.int .i64 3, .int .i64 k, .int .i64 0, .int .i64 0]] w fun e w' => ∃ a2 c2, e = .returned (.slice a2 n2 c2) /\ Hid (QIn w' a2 n2 c2 l2) /\ Below w.heap.size w w' :=
 (zgx a n c l k l2 n2 w h hn h0 hl h2).mono fun _ _ ⟨a2, c2, he, ht, hb⟩ => ⟨a2, c2, he, Zh ht.out.1, hb⟩
theorem zbl (a : Option Addr) (n c : Nat) (l : List O.Pl) (out k sk : Int) (w : World) (h : QIn w a n c l) (hn : n <= 800) (hz : O.Sm l) (hs : O.seek l out k = sk) :
  Calls Tryz.prog 181 #[.slice a n c, .int .i64 out, .int .i64 k] w fun e w' => e = .returned (.int .i64 sk) /\ Below w.heap.size w w' := by
 obtain ⟨pm, hpm⟩ : ∃ b, O.may l out = b := ⟨_, rfl⟩
 have c1 := zbi a n c l out pm hpm w h (by omega) hz
 have hl := h.1
 cases pm with
 | false =>
  have HE : Hid (sk = 1) := Zh (by rw [<- hs]; unfold O.seek; rw [if_pos hpm])
  clear h hz hs hpm
  go_enter Tryz.func181, Tryz.ntmps181
  go_wp2_with fail
  refine c1.mono ?_
  rintro e w2 ⟨rfl, hb2⟩
  go_wp2
  go_ret
  exact ⟨by rw [HE.out]; rfl, hb2⟩
 | true =>
  have hs2 : sk = if k < 0 \/ (n : Int) <= k then 5 else 0 := by rw [<- hs]; unfold O.seek; rw [if_neg (by rw [hpm]; decide), hl]
  clear h hz hs hpm hl
  go_enter Tryz.func181, Tryz.ntmps181
  go_wp2_with fail
  refine c1.mono ?_
  rintro e w2 ⟨rfl, hb2⟩
  by_cases h1 : k < 0
  ·have d1 : decide (k < 0) = true := by simpa using h1
   have HE : Hid (sk = 5) := Zh (by rw [hs2, if_pos (.inl h1)])
   clear hs2
   go_wp2
   go_ret
   exact ⟨by rw [HE.out]; rfl, hb2⟩
  ·have d1 : decide (k < 0) = false := by simpa using h1
   by_cases h2 : (n : Int) <= k
   ·have d2 : decide ((n : Int) <= k) = true := by simpa using h2
    have HE : Hid (sk = 5) := Zh (by rw [hs2, if_pos (.inr h2)])
    clear hs2
    go_wp2
    go_ret
    exact ⟨by rw [HE.out]; rfl, hb2⟩
   ·have d2 : decide ((n : Int) <= k) = false := by simpa using h2
    have HE : Hid (sk = 0) := Zh (by rw [hs2, if_neg (by omega)])
    clear hs2
    go_wp2
    go_ret
    exact ⟨by rw [HE.out]; rfl, hb2⟩
open Go.RowKit
theorem zk7 (a : Option Addr) (n c : Nat) (l : List O.Pl) (out f n' : Int) (l2 : List O.Pl) (n2 : Nat) (er : Int) (w : World) (h : QIn w a n c l) (hn : n <= 800) (hz : O.Sm l) (hf : f <= 9223372036854775807) (hs : O.add l out f n' = (l2, er)) (h2 : l2.length = n2) :
  Calls Tryz.prog 144 #[.slice a n c, .int .i64 out, .int .i64 f, .int .i64 n'] w fun e w' => ∃ a2 c2, e = .returned (.tuple #[.slice a2 n2 c2, .int .i64 er]) /\ Hid (QUp w.heap.size w' a2 n2 c2 l2) /\ Below w.heap.size w w' := by
 have HT := Zh h
 have hl := h.1
 have HB0 := Zh (Below.refl w.heap.size w)
 obtain ⟨pm, hpm⟩ : ∃ b, O.may l out = b := ⟨_, rfl⟩
 obtain ⟨pb, hpb⟩ : ∃ b, O.below ⟨f, n', 0⟩ out = b := ⟨_, rfl⟩
 have HM := Zh hpm
 have HP := Zh hpb
 have HZ := Zh hz
 clear h hz
 by_cases hp1 : pm = false
 ·subst hp1
  have hs3 : (l, (1 : Int)) = (l2, er) := by rw [<- hs]; unfold O.add; rw [if_pos (.inl hpm)]
  obtain ⟨rfl, rfl⟩ := Prod.mk.inj hs3
  obtain rfl : n = n2 := by rw [<- h2, HT.out.1]
  clear hs hs3 h2
  clear hpm hpb hl
  go_enter Tryz.func144, Tryz.ntmps144
  have hb := O.box_below w ⟨f, n', 0⟩
  have hk := O.box_is w ⟨f, n', 0⟩
  dsimp only [O.box] at hb hk
  have HBT := Zh hb
  have HKT := Zh hk
  clear hb hk
  go_wp2_with fail
  obtain ⟨w1, hw1⟩ : ∃ W, w.alloc (.cells #[.int .i64 f, .int .i64 n', .int .i64 0] 100) = W := ⟨_, rfl⟩
  have hb := HBT.out
  have hk := HKT.out
  rw [hw1] at hb hk ⊢
  clear hw1 HBT HKT
  have HKp1 := Zh hk
  clear hk
  have HB1 := Zt HB0 hb
  clear hb
  have pf0 := HKp1.out.b0
  have pf1 := HKp1.out.b1
  have pf2 := HKp1.out.b2
  skip
  refine (zbi a n c l out false HM.out w1 (HT.out.below HB1.out) (by omega) HZ.out).mono ?_
  clear pf0 pf1 pf2
  rintro e w2 ⟨rfl, hb⟩
  have HKp2 := Zh (HKp1.out.on hb)
  have HB2 := Zt HB1 hb
  clear hb
  have pf0 := HKp2.out.b0
  have pf1 := HKp2.out.b1
  have pf2 := HKp2.out.b2
  go_wp2_with fail
  refine (za2 a n c l w2 (HT.out.below HB2.out) hn).mono ?_
  clear pf0 pf1 pf2
  rintro e w3 ⟨a3, c3, rfl, ht3, hb⟩
  have HKp3 := Zh (HKp2.out.on hb)
  have HB3 := Zt HB2 hb
  clear hb
  have pf0 := HKp3.out.b0
  have pf1 := HKp3.out.b1
  have pf2 := HKp3.out.b2
  go_wp2
  go_ret2
  exact ⟨a3, c3, rfl, Zh (ht3.out.le (Below.size HB2.out)), HB3.out⟩
 ·obtain rfl : pm = true := by simpa using hp1
  have hmay := O.may_iff.1 hpm
  have hout : 0 <= out /\ out <= 4 := ⟨hmay.1, hmay.2.1⟩
  clear hp1 hmay
  by_cases hp2 : pb = false
  ·subst hp2
   have hs3 : (l, (1 : Int)) = (l2, er) := by rw [<- hs]; unfold O.add; rw [if_pos (.inr hpb)]
   obtain ⟨rfl, rfl⟩ := Prod.mk.inj hs3
   obtain rfl : n = n2 := by rw [<- h2, HT.out.1]
   clear hs hs3 h2
   clear hpm hpb hl
   go_enter Tryz.func144, Tryz.ntmps144
   have hb := O.box_below w ⟨f, n', 0⟩
   have hk := O.box_is w ⟨f, n', 0⟩
   dsimp only [O.box] at hb hk
   have HBT := Zh hb
   have HKT := Zh hk
   clear hb hk
   go_wp2_with fail
   obtain ⟨w1, hw1⟩ : ∃ W, w.alloc (.cells #[.int .i64 f, .int .i64 n', .int .i64 0] 100) = W := ⟨_, rfl⟩
   have hb := HBT.out
   have hk := HKT.out
   rw [hw1] at hb hk ⊢
   clear hw1 HBT HKT
   have HKp1 := Zh hk
   clear hk
   have HB1 := Zt HB0 hb
   clear hb
   have pf0 := HKp1.out.b0
   have pf1 := HKp1.out.b1
   have pf2 := HKp1.out.b2
   skip
   refine (zbi a n c l out true HM.out w1 (HT.out.below HB1.out) (by omega) HZ.out).mono ?_
   clear pf0 pf1 pf2
   rintro e w2 ⟨rfl, hb⟩
   have HKp2 := Zh (HKp1.out.on hb)
   have HB2 := Zt HB1 hb
   clear hb
   have pf0 := HKp2.out.b0
   have pf1 := HKp2.out.b1
   have pf2 := HKp2.out.b2
   go_wp2_with fail
   refine (za1 (⟨f, n', 0⟩ : O.Pl) out false w2 HP.out hout hf).mono ?_
   clear pf0 pf1 pf2
   rintro e w3 ⟨rfl, hb⟩
   have HKp3 := Zh (HKp2.out.on hb)
   have HB3 := Zt HB2 hb
   clear hb
   have pf0 := HKp3.out.b0
   have pf1 := HKp3.out.b1
   have pf2 := HKp3.out.b2
   go_wp2_with fail
   refine (za2 a n c l w3 (HT.out.below HB3.out) hn).mono ?_
   clear pf0 pf1 pf2
   rintro e w4 ⟨a3, c3, rfl, ht3, hb⟩
   have HKp4 := Zh (HKp3.out.on hb)
   have HB4 := Zt HB3 hb
   clear hb
   have pf0 := HKp4.out.b0
   have pf1 := HKp4.out.b1
   have pf2 := HKp4.out.b2
   go_wp2
   go_ret2
   exact ⟨a3, c3, rfl, Zh (ht3.out.le (Below.size HB3.out)), HB4.out⟩
  ·obtain rfl : pb = true := by simpa using hp2
   clear hp2
   obtain ⟨u, hu⟩ : ∃ u, l.any (O.hit ⟨f, n', 0⟩) = u := ⟨_, rfl⟩
   have HI := Zh hu
   have hif : ¬ (O.may l out = false \/ O.below ⟨f, n', 0⟩ out = false) := by rw [hpm, hpb]; simp
   by_cases hp3 : u = true
   ·subst hp3
    have hs3 : (l, (11 : Int)) = (l2, er) := by rw [<- hs]; unfold O.add; rw [if_neg hif, if_pos hu]
    obtain ⟨rfl, rfl⟩ := Prod.mk.inj hs3
    obtain rfl : n = n2 := by rw [<- h2, HT.out.1]
    clear hs hs3 h2
    clear hpm hpb hl hu hif
    go_enter Tryz.func144, Tryz.ntmps144
    have hb := O.box_below w ⟨f, n', 0⟩
    have hk := O.box_is w ⟨f, n', 0⟩
    dsimp only [O.box] at hb hk
    have HBT := Zh hb
    have HKT := Zh hk
    clear hb hk
    go_wp2_with fail
    obtain ⟨w1, hw1⟩ : ∃ W, w.alloc (.cells #[.int .i64 f, .int .i64 n', .int .i64 0] 100) = W := ⟨_, rfl⟩
    have hb := HBT.out
    have hk := HKT.out
    rw [hw1] at hb hk ⊢
    clear hw1 HBT HKT
    have HKp1 := Zh hk
    clear hk
    have HB1 := Zt HB0 hb
    clear hb
    have pf0 := HKp1.out.b0
    have pf1 := HKp1.out.b1
    have pf2 := HKp1.out.b2
    skip
    refine (zbi a n c l out true HM.out w1 (HT.out.below HB1.out) (by omega) HZ.out).mono ?_
    clear pf0 pf1 pf2
    rintro e w2 ⟨rfl, hb⟩
    have HKp2 := Zh (HKp1.out.on hb)
    have HB2 := Zt HB1 hb
    clear hb
    have pf0 := HKp2.out.b0
    have pf1 := HKp2.out.b1
    have pf2 := HKp2.out.b2
    go_wp2_with fail
    refine (za1 (⟨f, n', 0⟩ : O.Pl) out true w2 HP.out hout hf).mono ?_
    clear pf0 pf1 pf2
    rintro e w3 ⟨rfl, hb⟩
    have HKp3 := Zh (HKp2.out.on hb)
    have HB3 := Zt HB2 hb
    clear hb
    have pf0 := HKp3.out.b0
    have pf1 := HKp3.out.b1
    have pf2 := HKp3.out.b2
    go_wp2_with fail
    refine (za7 (⟨f, n', 0⟩ : O.Pl) w3).mono ?_
    clear pf0 pf1 pf2
    rintro e w4 ⟨bx, rfl, HX, hb⟩
    have HKp4 := Zh (HKp3.out.on hb)
    have HB4 := Zt HB3 hb
    clear hb
    have pf0 := HKp4.out.b0
    have pf1 := HKp4.out.b1
    have pf2 := HKp4.out.b2
    unfold O.clo
    go_wp2_with fail
    refine (zbu a n c l ⟨f, n', 0⟩ bx true HI.out w4 (HT.out.below HB4.out) HX.out (by omega)).mono ?_
    clear pf0 pf1 pf2
    rintro e w5 ⟨rfl, hb⟩
    have HKp5 := Zh (HKp4.out.on hb)
    have HB5 := Zt HB4 hb
    clear hb
    have pf0 := HKp5.out.b0
    have pf1 := HKp5.out.b1
    have pf2 := HKp5.out.b2
    go_wp2_with fail
    refine (za2 a n c l w5 (HT.out.below HB5.out) hn).mono ?_
    clear pf0 pf1 pf2
    rintro e w6 ⟨a3, c3, rfl, ht3, hb⟩
    have HKp6 := Zh (HKp5.out.on hb)
    have HB6 := Zt HB5 hb
    clear hb
    have pf0 := HKp6.out.b0
    have pf1 := HKp6.out.b1
    have pf2 := HKp6.out.b2
    go_wp2
    go_ret2
    exact ⟨a3, c3, rfl, Zh (ht3.out.le (Below.size HB5.out)), HB6.out⟩
   ·obtain rfl : u = false := by simpa using hp3
    clear hp3
    by_cases hp4 : n = 3
    ·have e3 : ((n : Int) == 3) = true := by rw [hp4]; rfl
     have hs3 : (l, (9 : Int)) = (l2, er) := by rw [<- hs]; unfold O.add; rw [if_neg hif, if_neg (by rw [show (l.any fun q => O.hit ⟨f, n', 0⟩ q) = false from hu]; decide), if_pos (by rw [hl]; exact hp4)]
     obtain ⟨rfl, rfl⟩ := Prod.mk.inj hs3
     obtain rfl : n = n2 := by rw [<- h2, HT.out.1]
     clear hs hs3 h2
     clear hpm hpb hl hu hif hp4
     go_enter Tryz.func144, Tryz.ntmps144
     have hb := O.box_below w ⟨f, n', 0⟩
     have hk := O.box_is w ⟨f, n', 0⟩
     dsimp only [O.box] at hb hk
     have HBT := Zh hb
     have HKT := Zh hk
     clear hb hk
     go_wp2_with fail
     obtain ⟨w1, hw1⟩ : ∃ W, w.alloc (.cells #[.int .i64 f, .int .i64 n', .int .i64 0] 100) = W := ⟨_, rfl⟩
     have hb := HBT.out
     have hk := HKT.out
     rw [hw1] at hb hk ⊢
     clear hw1 HBT HKT
     have HKp1 := Zh hk
     clear hk
     have HB1 := Zt HB0 hb
     clear hb
     have pf0 := HKp1.out.b0
     have pf1 := HKp1.out.b1
     have pf2 := HKp1.out.b2
     skip
     refine (zbi a n c l out true HM.out w1 (HT.out.below HB1.out) (by omega) HZ.out).mono ?_
     clear pf0 pf1 pf2
     rintro e w2 ⟨rfl, hb⟩
     have HKp2 := Zh (HKp1.out.on hb)
     have HB2 := Zt HB1 hb
     clear hb
     have pf0 := HKp2.out.b0
     have pf1 := HKp2.out.b1
     have pf2 := HKp2.out.b2
     go_wp2_with fail
     refine (za1 (⟨f, n', 0⟩ : O.Pl) out true w2 HP.out hout hf).mono ?_
     clear pf0 pf1 pf2
     rintro e w3 ⟨rfl, hb⟩
     have HKp3 := Zh (HKp2.out.on hb)
     have HB3 := Zt HB2 hb
     clear hb
     have pf0 := HKp3.out.b0
     have pf1 := HKp3.out.b1
     have pf2 := HKp3.out.b2
     go_wp2_with fail
     refine (za7 (⟨f, n', 0⟩ : O.Pl) w3).mono ?_
     clear pf0 pf1 pf2
     rintro e w4 ⟨bx, rfl, HX, hb⟩
     have HKp4 := Zh (HKp3.out.on hb)
     have HB4 := Zt HB3 hb
     clear hb
     have pf0 := HKp4.out.b0
     have pf1 := HKp4.out.b1
     have pf2 := HKp4.out.b2
     unfold O.clo
     go_wp2_with fail
     refine (zbu a n c l ⟨f, n', 0⟩ bx false HI.out w4 (HT.out.below HB4.out) HX.out (by omega)).mono ?_
     clear pf0 pf1 pf2
     rintro e w5 ⟨rfl, hb⟩
     have HKp5 := Zh (HKp4.out.on hb)
     have HB5 := Zt HB4 hb
     clear hb
     have pf0 := HKp5.out.b0
     have pf1 := HKp5.out.b1
     have pf2 := HKp5.out.b2
     go_wp2_with fail
     refine (za2 a n c l w5 (HT.out.below HB5.out) hn).mono ?_
     clear pf0 pf1 pf2
     rintro e w6 ⟨a3, c3, rfl, ht3, hb⟩
     have HKp6 := Zh (HKp5.out.on hb)
     have HB6 := Zt HB5 hb
     clear hb
     have pf0 := HKp6.out.b0
     have pf1 := HKp6.out.b1
     have pf2 := HKp6.out.b2
     go_wp2
     go_ret2
     exact ⟨a3, c3, rfl, Zh (ht3.out.le (Below.size HB5.out)), HB6.out⟩
    ·have e3 : ((n : Int) == 3) = false := by simp; omega
     have hs3 : l ++ [⟨f, n', 0⟩] = l2 /\ (0 : Int) = er := by
      have : (l ++ [⟨f, n', 0⟩], (0 : Int)) = (l2, er) := by rw [<- hs]; unfold O.add; rw [if_neg hif, if_neg (by rw [show (l.any fun q => O.hit ⟨f, n', 0⟩ q) = false from hu]; decide), if_neg (by rw [hl]; exact hp4)]
      exact Prod.mk.inj this
     obtain ⟨hl2, rfl⟩ := hs3
     have HL2 := Zh hl2
     have H2 := Zh h2
     clear hl2 hs h2 hpm hpb hl hu hif hp4
     go_enter Tryz.func144, Tryz.ntmps144
     have hb := O.box_below w ⟨f, n', 0⟩
     have hk := O.box_is w ⟨f, n', 0⟩
     dsimp only [O.box] at hb hk
     have HBT := Zh hb
     have HKT := Zh hk
     clear hb hk
     go_wp2_with fail
     obtain ⟨w1, hw1⟩ : ∃ W, w.alloc (.cells #[.int .i64 f, .int .i64 n', .int .i64 0] 100) = W := ⟨_, rfl⟩
     have hb := HBT.out
     have hk := HKT.out
     rw [hw1] at hb hk ⊢
     clear hw1 HBT HKT
     have HKp1 := Zh hk
     clear hk
     have HB1 := Zt HB0 hb
     clear hb
     have pf0 := HKp1.out.b0
     have pf1 := HKp1.out.b1
     have pf2 := HKp1.out.b2
     skip
     refine (zbi a n c l out true HM.out w1 (HT.out.below HB1.out) (by omega) HZ.out).mono ?_
     clear pf0 pf1 pf2
     rintro e w2 ⟨rfl, hb⟩
     have HKp2 := Zh (HKp1.out.on hb)
     have HB2 := Zt HB1 hb
     clear hb
     have pf0 := HKp2.out.b0
     have pf1 := HKp2.out.b1
     have pf2 := HKp2.out.b2
     go_wp2_with fail
     refine (za1 (⟨f, n', 0⟩ : O.Pl) out true w2 HP.out hout hf).mono ?_
     clear pf0 pf1 pf2
     rintro e w3 ⟨rfl, hb⟩
     have HKp3 := Zh (HKp2.out.on hb)
     have HB3 := Zt HB2 hb
     clear hb
     have pf0 := HKp3.out.b0
     have pf1 := HKp3.out.b1
     have pf2 := HKp3.out.b2
     go_wp2_with fail
     refine (za7 (⟨f, n', 0⟩ : O.Pl) w3).mono ?_
     clear pf0 pf1 pf2
     rintro e w4 ⟨bx, rfl, HX, hb⟩
     have HKp4 := Zh (HKp3.out.on hb)
     have HB4 := Zt HB3 hb
     clear hb
     have pf0 := HKp4.out.b0
     have pf1 := HKp4.out.b1
     have pf2 := HKp4.out.b2
     unfold O.clo
     go_wp2_with fail
     refine (zbu a n c l ⟨f, n', 0⟩ bx false HI.out w4 (HT.out.below HB4.out) HX.out (by omega)).mono ?_
     clear pf0 pf1 pf2
     rintro e w5 ⟨rfl, hb⟩
     have HKp5 := Zh (HKp4.out.on hb)
     have HB5 := Zt HB4 hb
     clear hb
     have pf0 := HKp5.out.b0
     have pf1 := HKp5.out.b1
     have pf2 := HKp5.out.b2
     go_wp2_with fail
     refine (zgw a n c l f n' l2 n2 w5 (HT.out.below HB5.out) hn HL2.out H2.out).mono ?_
     clear pf0 pf1 pf2
     rintro e w6 ⟨a3, c3, rfl, ht3, hb⟩
     have HKp6 := Zh (HKp5.out.on hb)
     have HB6 := Zt HB5 hb
     clear hb
     have pf0 := HKp6.out.b0
     have pf1 := HKp6.out.b1
     have pf2 := HKp6.out.b2
     go_wp2
     go_ret2
     exact ⟨a3, c3, rfl, Zh (ht3.out.le (Below.size HB5.out)), HB6.out⟩
open Go.RowKit
theorem zgy (a : Option Addr) (n c : Nat) (l : List O.Pl) (out k : Int) (l2 : List O.Pl) (n2 : Nat) (er : Int) (w : World) (h : QIn w a n c l) (hn : n <= 800) (hz : O.Sm l) (hs : O.drain l out k = (l2, er)) (h2 : l2.length = n2) :
  Calls Tryz.prog 146 #[.slice a n c, .int .i64 out, .int .i64 k] w fun e w' => ∃ a2 c2, e = .returned (.tuple #[.slice a2 n2 c2, .int .i64 er]) /\ Hid (QUp w.heap.size w' a2 n2 c2 l2) /\ Below w.heap.size w w' := by
 have HT := Zh h
 have hl := h.1
 have HB0 := Zh (Below.refl w.heap.size w)
 have HZ := Zh hz
 obtain ⟨sk, hsk⟩ : ∃ s, O.seek l out k = s := ⟨_, rfl⟩
 have HSK := Zh hsk
 clear h hz
 by_cases hp1 : sk = 0
 ·subst hp1
  have hsk' := O.seek_ok.1 hsk
  obtain ⟨m, rfl⟩ : ∃ m : Nat, k = m := ⟨k.toNat, by omega⟩
  have hm : m < n := by omega
  have hx := List.getElem?_eq_getElem (show m < l.length by omega)
  obtain ⟨x, hxl⟩ : ∃ x, l[m]'(by omega) = x := ⟨_, rfl⟩
  rw [hxl] at hx
  have hat := O.at_some hx
  have HX := Zh hx
  have m0 : (0 : Int) <= m := by omega
  have m1 : (m : Int) < n := by omega
  have hs1 := O.drain_yes hsk
  rw [hs, hat] at hs1
  clear hsk' hxl hx hs
  by_cases hp2 : x.s = 1
  ·have e1 : (x.s == 1) = true := by rw [hp2]; rfl
   rw [if_pos hp2] at hs1
   obtain ⟨rfl, rfl⟩ := Prod.mk.inj hs1.symm
   obtain rfl : n = n2 := by rw [<- h2, hl]
   clear hs1 h2 hl hat hp2 hsk
   go_enter Tryz.func146, Tryz.ntmps146
   go_wp2_with fail
   refine (zbl a n c l out m 0 w (HT.out.below HB0.out) hn HZ.out HSK.out).mono ?_
   rintro e w1 ⟨rfl, hb⟩
   have HB1 := Zt HB0 hb
   clear hb
   obtain ⟨b, off, y, hay, hbl, hxy, p0, p1, p2⟩ := (HT.out.below HB1.out).at hm
   obtain rfl : x = y := by have := HX.out; rw [hxy] at this; exact (Option.some.inj this).symm
   cases hay
   clear hxy hbl
   go_wp2_with fail
   refine (za2 (some ⟨b, off, none⟩) n c l w1 (HT.out.below HB1.out) hn).mono ?_
   clear p0 p1 p2
   rintro e w2 ⟨a3, c3, rfl, ht3, hb⟩
   have HB2 := Zt HB1 hb
   clear hb
   go_wp2
   go_ret2
   exact ⟨a3, c3, rfl, Zh (ht3.out.le (Below.size HB1.out)), HB2.out⟩
  ·have e1 : (x.s == 1) = false := by simpa using hp2
   rw [if_neg hp2] at hs1
   obtain ⟨hl2, rfl⟩ := Prod.mk.inj hs1.symm
   have HL2 : Hid (l.set ((m : Int).toNat) { O.at' l (m : Int) with s := 1 } = l2) := Zh (by rw [hat]; exact hl2)
   have H2 := Zh h2
   clear hs1 h2 hl hat hp2 hsk hl2
   go_enter Tryz.func146, Tryz.ntmps146
   go_wp2_with fail
   refine (zbl a n c l out m 0 w (HT.out.below HB0.out) hn HZ.out HSK.out).mono ?_
   rintro e w1 ⟨rfl, hb⟩
   have HB1 := Zt HB0 hb
   clear hb
   obtain ⟨b, off, y, hay, hbl, hxy, p0, p1, p2⟩ := (HT.out.below HB1.out).at hm
   obtain rfl : x = y := by have := HX.out; rw [hxy] at this; exact (Option.some.inj this).symm
   cases hay
   clear hxy hbl
   go_wp2_with fail
   refine (zkd (some ⟨b, off, none⟩) n c l m l2 n2 w1 (HT.out.below HB1.out) hn m0 m1 HL2.out H2.out).mono ?_
   clear p0 p1 p2
   rintro e w2 ⟨a3, c3, rfl, ht3, hb⟩
   have HB2 := Zt HB1 hb
   clear hb
   go_wp2
   go_ret2
   exact ⟨a3, c3, rfl, Zh (ht3.out.le (Below.size HB1.out)), HB2.out⟩
 ·have e1 : (sk != 0) = true := by simpa using hp1
  have hs1 := O.drain_no (l := l) (out := out) (k := k) (by rw [hsk]; exact hp1)
  rw [hs, hsk] at hs1
  obtain ⟨rfl, rfl⟩ := Prod.mk.inj hs1.symm
  obtain rfl : n = n2 := by rw [<- h2, hl]
  clear hs hs1 h2 hl hsk hp1
  go_enter Tryz.func146, Tryz.ntmps146
  go_wp2_with fail
  refine (zbl a n c l out k sk w (HT.out.below HB0.out) hn HZ.out HSK.out).mono ?_
  rintro e w1 ⟨rfl, hb⟩
  have HB1 := Zt HB0 hb
  clear hb
  go_wp2_with fail
  refine (za2 a n c l w1 (HT.out.below HB1.out) hn).mono ?_
  rintro e w2 ⟨a3, c3, rfl, ht3, hb⟩
  have HB2 := Zt HB1 hb
  clear hb
  go_wp2
  go_ret2
  exact ⟨a3, c3, rfl, Zh (ht3.out.le (Below.size HB1.out)), HB2.out⟩
open Go.RowKit
theorem zix (a : Option Addr) (n c : Nat) (l : List O.Pl) (out k n' : Int) (ab : Option Addr) (nb cb : Nat) (bs : List Int) (l2 : List O.Pl) (n2 : Nat) (er : Int) (w : World) (h : QIn w a n c l) (hn : n <= 800) (hz : O.Sm l) (hu : BIn w ab nb cb bs) (hnb : nb <= 1000000) (hs : O.size l out k n' bs = (l2, er)) (h2 : l2.length = n2) :
  Calls Tryz.prog 147 #[.slice a n c, .int .i64 out, .int .i64 k, .int .i64 n', .slice ab nb cb] w fun e w' => ∃ a2 c2, e = .returned (.tuple #[.slice a2 n2 c2, .int .i64 er]) /\ Hid (QUp w.heap.size w' a2 n2 c2 l2) /\ Below w.heap.size w w' := by
 have HT := Zh h
 have hl := h.1
 have HB0 := Zh (Below.refl w.heap.size w)
 have HU := Zh hu
 have HZ := Zh hz
 obtain ⟨sk, hsk⟩ : ∃ s, O.seek l out k = s := ⟨_, rfl⟩
 have HSK := Zh hsk
 clear h hz hu
 by_cases hp1 : sk = 0
 ·subst hp1
  have hsk' := O.seek_ok.1 hsk
  have hmay := O.may_iff.1 hsk'.1
  have hout : 0 <= out /\ out <= 4 := ⟨hmay.1, hmay.2.1⟩
  obtain ⟨m, rfl⟩ : ∃ m : Nat, k = m := ⟨k.toNat, by omega⟩
  have hm : m < n := by omega
  have hx := List.getElem?_eq_getElem (show m < l.length by omega)
  obtain ⟨x, hxl⟩ : ∃ x, l[m]'(by omega) = x := ⟨_, rfl⟩
  rw [hxl] at hx
  have hat := O.at_some hx
  have HX := Zh hx
  have m0 : (0 : Int) <= m := by omega
  have m1 : (m : Int) < n := by omega
  have hs1 := O.size_yes (n := n') (busy := bs) hsk
  rw [hs, hat] at hs1
  have hxf : x.f <= 9223372036854775807 := HZ.out x (List.mem_of_getElem? hx)
  have H3 : Hid (l.eraseIdx ((m : Int).toNat) = l.eraseIdx m) := Zh rfl
  obtain ⟨l3, hl3⟩ : ∃ l3, l.eraseIdx ((m : Int).toNat) = l3 := ⟨_, rfl⟩
  obtain ⟨n3, hn3⟩ : ∃ n3, l3.length = n3 := ⟨_, rfl⟩
  have hn3' : n3 <= 800 := by have := List.length_eraseIdx_le l ((m : Int).toNat); rw [hl3, hn3] at this; omega
  have HL3 := Zh hl3
  have HN3 := Zh hn3
  rw [hl3] at hs1
  obtain ⟨u1, hu1⟩ : ∃ u, O.below { x with n := n' } out = u := ⟨_, rfl⟩
  obtain ⟨u2, hu2⟩ : ∃ u, (l3.any fun q => O.hit { x with n := n' } q) = u := ⟨_, rfl⟩
  obtain ⟨u3, hu3⟩ : ∃ u, O.loses x { x with n := n' } bs = u := ⟨_, rfl⟩
  rw [hu1, hu2, hu3] at hs1
  have HBE : Hid (O.below ⟨x.f, n', 0⟩ out = u1) := Zh hu1
  have HHI : Hid (l3.any (O.hit ⟨x.f, n', 0⟩) = u2) := Zh hu2
  have HLO : Hid (O.loses x ⟨x.f, n', 0⟩ bs = u3) := Zh hu3
  have HAT := Zh hat
  clear hsk' hmay hxl hx hs hat hu1 hu2 hu3 hl3 hn3
  by_cases hp2 : u1 = false
  ·subst hp2
   rw [if_pos rfl] at hs1
   obtain ⟨rfl, rfl⟩ := Prod.mk.inj hs1.symm
   obtain rfl : n = n2 := by rw [<- h2, hl]
   clear hs1 h2 hl hsk
   go_enter Tryz.func147, Tryz.ntmps147
   go_wp2_with fail
   refine (zbl a n c l out m 0 w (HT.out.below HB0.out) hn HZ.out HSK.out).mono ?_
   rintro e w1 ⟨rfl, hb⟩
   have HB1 := Zt HB0 hb
   clear hb
   obtain ⟨b, off, y, hay, hbl, hxy, p0, p1, p2⟩ := (HT.out.below HB1.out).at hm
   obtain rfl : x = y := by have := HX.out; rw [hxy] at this; exact (Option.some.inj this).symm
   cases hay
   clear hxy hbl
   have hb := O.box_below w1 ⟨x.f, n', 0⟩
   have hk := O.box_is w1 ⟨x.f, n', 0⟩
   dsimp only [O.box] at hb hk
   have HBT := Zh hb
   have HKT := Zh hk
   clear hb hk
   go_wp2_with fail
   obtain ⟨w2, hw2⟩ : ∃ W, w1.alloc (.cells #[.int .i64 x.f, .int .i64 n', .int .i64 0] 100) = W := ⟨_, rfl⟩
   have hb := HBT.out
   have hk := HKT.out
   rw [hw2] at hb hk ⊢
   clear hw2 HBT HKT
   clear p0 p1 p2
   have HKp2 := Zh hk
   clear hk
   have HB2 := Zt HB1 hb
   clear hb
   have pf0 := HKp2.out.b0
   have pf1 := HKp2.out.b1
   have pf2 := HKp2.out.b2
   skip
   refine (zdd (some ⟨b, off, none⟩) n c l m l3 n3 w2 (HT.out.below HB2.out) hn m0 HL3.out HN3.out).mono ?_
   clear pf0 pf1 pf2
   rintro e w3 ⟨a3, c3, rfl, hto, hb⟩
   have HKp3 := Zh (HKp2.out.on hb)
   have HB3 := Zt HB2 hb
   clear hb
   have pf0 := HKp3.out.b0
   have pf1 := HKp3.out.b1
   have pf2 := HKp3.out.b2
   have HLo3 := hto
   clear hto
   go_wp2_with fail
   refine (za1 (⟨x.f, n', 0⟩ : O.Pl) out false w3 HBE.out hout hxf).mono ?_
   clear pf0 pf1 pf2
   rintro e w4 ⟨rfl, hb⟩
   have HKp4 := Zh (HKp3.out.on hb)
   have HLo4 := Zh (HLo3.out.below hb)
   have HB4 := Zt HB3 hb
   clear hb
   have pf0 := HKp4.out.b0
   have pf1 := HKp4.out.b1
   have pf2 := HKp4.out.b2
   go_wp2_with fail
   refine (za2 (some ⟨b, off, none⟩) n c l w4 (HT.out.below HB4.out) hn).mono ?_
   clear pf0 pf1 pf2
   rintro e w5 ⟨a3, c3, rfl, ht3, hb⟩
   have HKp5 := Zh (HKp4.out.on hb)
   have HLo5 := Zh (HLo4.out.below hb)
   have HB5 := Zt HB4 hb
   clear hb
   have pf0 := HKp5.out.b0
   have pf1 := HKp5.out.b1
   have pf2 := HKp5.out.b2
   go_wp2
   go_ret2
   exact ⟨a3, c3, rfl, Zh (ht3.out.le (Below.size HB4.out)), HB5.out⟩
  ·obtain rfl : u1 = true := by simpa using hp2
   rw [if_neg (by decide)] at hs1
   clear hp2
   by_cases hp3 : u2 = true
   ·subst hp3
    rw [if_pos rfl] at hs1
    obtain ⟨rfl, rfl⟩ := Prod.mk.inj hs1.symm
    obtain rfl : n = n2 := by rw [<- h2, hl]
    clear hs1 h2 hl hsk
    go_enter Tryz.func147, Tryz.ntmps147
    go_wp2_with fail
    refine (zbl a n c l out m 0 w (HT.out.below HB0.out) hn HZ.out HSK.out).mono ?_
    rintro e w1 ⟨rfl, hb⟩
    have HB1 := Zt HB0 hb
    clear hb
    obtain ⟨b, off, y, hay, hbl, hxy, p0, p1, p2⟩ := (HT.out.below HB1.out).at hm
    obtain rfl : x = y := by have := HX.out; rw [hxy] at this; exact (Option.some.inj this).symm
    cases hay
    clear hxy hbl
    have hb := O.box_below w1 ⟨x.f, n', 0⟩
    have hk := O.box_is w1 ⟨x.f, n', 0⟩
    dsimp only [O.box] at hb hk
    have HBT := Zh hb
    have HKT := Zh hk
    clear hb hk
    go_wp2_with fail
    obtain ⟨w2, hw2⟩ : ∃ W, w1.alloc (.cells #[.int .i64 x.f, .int .i64 n', .int .i64 0] 100) = W := ⟨_, rfl⟩
    have hb := HBT.out
    have hk := HKT.out
    rw [hw2] at hb hk ⊢
    clear hw2 HBT HKT
    clear p0 p1 p2
    have HKp2 := Zh hk
    clear hk
    have HB2 := Zt HB1 hb
    clear hb
    have pf0 := HKp2.out.b0
    have pf1 := HKp2.out.b1
    have pf2 := HKp2.out.b2
    skip
    refine (zdd (some ⟨b, off, none⟩) n c l m l3 n3 w2 (HT.out.below HB2.out) hn m0 HL3.out HN3.out).mono ?_
    clear pf0 pf1 pf2
    rintro e w3 ⟨a3, c3, rfl, hto, hb⟩
    have HKp3 := Zh (HKp2.out.on hb)
    have HB3 := Zt HB2 hb
    clear hb
    have pf0 := HKp3.out.b0
    have pf1 := HKp3.out.b1
    have pf2 := HKp3.out.b2
    have HLo3 := hto
    clear hto
    go_wp2_with fail
    refine (za1 (⟨x.f, n', 0⟩ : O.Pl) out true w3 HBE.out hout hxf).mono ?_
    clear pf0 pf1 pf2
    rintro e w4 ⟨rfl, hb⟩
    have HKp4 := Zh (HKp3.out.on hb)
    have HLo4 := Zh (HLo3.out.below hb)
    have HB4 := Zt HB3 hb
    clear hb
    have pf0 := HKp4.out.b0
    have pf1 := HKp4.out.b1
    have pf2 := HKp4.out.b2
    go_wp2_with fail
    refine (za7 (⟨x.f, n', 0⟩ : O.Pl) w4).mono ?_
    clear pf0 pf1 pf2
    rintro e w5 ⟨bx, rfl, HXB, hb⟩
    have HKp5 := Zh (HKp4.out.on hb)
    have HLo5 := Zh (HLo4.out.below hb)
    have HB5 := Zt HB4 hb
    clear hb
    have pf0 := HKp5.out.b0
    have pf1 := HKp5.out.b1
    have pf2 := HKp5.out.b2
    unfold O.clo
    go_wp2_with fail
    refine (zbu a3 n3 c3 l3 ⟨x.f, n', 0⟩ bx true HHI.out w5 HLo5.out HXB.out (by omega)).mono ?_
    clear pf0 pf1 pf2
    rintro e w6 ⟨rfl, hb⟩
    have HKp6 := Zh (HKp5.out.on hb)
    have HLo6 := Zh (HLo5.out.below hb)
    have HB6 := Zt HB5 hb
    clear hb
    have pf0 := HKp6.out.b0
    have pf1 := HKp6.out.b1
    have pf2 := HKp6.out.b2
    go_wp2_with fail
    refine (za2 (some ⟨b, off, none⟩) n c l w6 (HT.out.below HB6.out) hn).mono ?_
    clear pf0 pf1 pf2
    rintro e w7 ⟨a3, c3, rfl, ht3, hb⟩
    have HKp7 := Zh (HKp6.out.on hb)
    have HLo7 := Zh (HLo6.out.below hb)
    have HB7 := Zt HB6 hb
    clear hb
    have pf0 := HKp7.out.b0
    have pf1 := HKp7.out.b1
    have pf2 := HKp7.out.b2
    go_wp2
    go_ret2
    exact ⟨a3, c3, rfl, Zh (ht3.out.le (Below.size HB6.out)), HB7.out⟩
   ·obtain rfl : u2 = false := by simpa using hp3
    rw [if_neg (by decide)] at hs1
    clear hp3
    by_cases hp4 : u3 = true
    ·subst hp4
     rw [if_pos rfl] at hs1
     obtain ⟨rfl, rfl⟩ := Prod.mk.inj hs1.symm
     obtain rfl : n = n2 := by rw [<- h2, hl]
     clear hs1 h2 hl hsk
     go_enter Tryz.func147, Tryz.ntmps147
     go_wp2_with fail
     refine (zbl a n c l out m 0 w (HT.out.below HB0.out) hn HZ.out HSK.out).mono ?_
     rintro e w1 ⟨rfl, hb⟩
     have HB1 := Zt HB0 hb
     clear hb
     obtain ⟨b, off, y, hay, hbl, hxy, p0, p1, p2⟩ := (HT.out.below HB1.out).at hm
     obtain rfl : x = y := by have := HX.out; rw [hxy] at this; exact (Option.some.inj this).symm
     cases hay
     clear hxy hbl
     have hb := O.box_below w1 ⟨x.f, n', 0⟩
     have hk := O.box_is w1 ⟨x.f, n', 0⟩
     dsimp only [O.box] at hb hk
     have HBT := Zh hb
     have HKT := Zh hk
     clear hb hk
     go_wp2_with fail
     obtain ⟨w2, hw2⟩ : ∃ W, w1.alloc (.cells #[.int .i64 x.f, .int .i64 n', .int .i64 0] 100) = W := ⟨_, rfl⟩
     have hb := HBT.out
     have hk := HKT.out
     rw [hw2] at hb hk ⊢
     clear hw2 HBT HKT
     clear p0 p1 p2
     have HKp2 := Zh hk
     clear hk
     have HB2 := Zt HB1 hb
     clear hb
     have pf0 := HKp2.out.b0
     have pf1 := HKp2.out.b1
     have pf2 := HKp2.out.b2
     skip
     refine (zdd (some ⟨b, off, none⟩) n c l m l3 n3 w2 (HT.out.below HB2.out) hn m0 HL3.out HN3.out).mono ?_
     clear pf0 pf1 pf2
     rintro e w3 ⟨a3, c3, rfl, hto, hb⟩
     have HKp3 := Zh (HKp2.out.on hb)
     have HB3 := Zt HB2 hb
     clear hb
     have pf0 := HKp3.out.b0
     have pf1 := HKp3.out.b1
     have pf2 := HKp3.out.b2
     have HLo3 := hto
     clear hto
     go_wp2_with fail
     refine (za1 (⟨x.f, n', 0⟩ : O.Pl) out true w3 HBE.out hout hxf).mono ?_
     clear pf0 pf1 pf2
     rintro e w4 ⟨rfl, hb⟩
     have HKp4 := Zh (HKp3.out.on hb)
     have HLo4 := Zh (HLo3.out.below hb)
     have HB4 := Zt HB3 hb
     clear hb
     have pf0 := HKp4.out.b0
     have pf1 := HKp4.out.b1
     have pf2 := HKp4.out.b2
     go_wp2_with fail
     refine (za7 (⟨x.f, n', 0⟩ : O.Pl) w4).mono ?_
     clear pf0 pf1 pf2
     rintro e w5 ⟨bx, rfl, HXB, hb⟩
     have HKp5 := Zh (HKp4.out.on hb)
     have HLo5 := Zh (HLo4.out.below hb)
     have HB5 := Zt HB4 hb
     clear hb
     have pf0 := HKp5.out.b0
     have pf1 := HKp5.out.b1
     have pf2 := HKp5.out.b2
     unfold O.clo
     go_wp2_with fail
     refine (zbu a3 n3 c3 l3 ⟨x.f, n', 0⟩ bx false HHI.out w5 HLo5.out HXB.out (by omega)).mono ?_
     clear pf0 pf1 pf2
     rintro e w6 ⟨rfl, hb⟩
     have HKp6 := Zh (HKp5.out.on hb)
     have HLo6 := Zh (HLo5.out.below hb)
     have HB6 := Zt HB5 hb
     clear hb
     have pf0 := HKp6.out.b0
     have pf1 := HKp6.out.b1
     have pf2 := HKp6.out.b2
     obtain ⟨b2, off2, y, hay, hbl, hxy, p0, p1, p2⟩ := (HT.out.below HB6.out).at hm
     obtain rfl : x = y := by have := HX.out; rw [hxy] at this; exact (Option.some.inj this).symm
     cases hay
     clear hxy hbl
     clear pf0 pf1 pf2
     have cp0 := fun d os => cell_regrown p0 d os
     have cp1 := fun d os => cell_regrown p1 d os
     have cp2 := fun d os => cell_regrown p2 d os
     have q0 := HKp6.out.b0
     have cq0 := fun d os => cell_regrown q0 d os
     have q1 := HKp6.out.b1
     have cq1 := fun d os => cell_regrown q1 d os
     have q2 := HKp6.out.b2
     have cq2 := fun d os => cell_regrown q2 d os
     have c1 := fun d os => zcs x ⟨x.f, n', 0⟩ ab nb cb bs true HLO.out (Go.Sort.grow (redrawn w6 d) os) ((HU.out.below HB6.out).below (below_regrown w6 d os)) hnb
     unfold O.val at c1
     go_wp2_with fail
     refine wp_region_quiet_below (by kernel_rfl) (by kernel_rfl) ?_
     repeat (go_big_quiet_step (with_reducible exact Calls.regrown_of (c1 _ _)))
     refine wpQuiet_nil ?_
     intro _ hw'
     obtain ⟨⟨dq, osq⟩, hw''⟩ := hw'
     subst hw''
     clear p0 p1 p2 cp0 cp1 cp2 q0 q1 q2 cq0 cq1 cq2 c1
     obtain ⟨w7, hw7⟩ : ∃ W, Go.Sort.grow (redrawn w6 dq) osq = W := ⟨_, rfl⟩
     have hb : Below w6.heap.size w6 w7 := by rw [<- hw7]; exact below_regrown _ _ _
     rw [hw7]
     clear hw7
     have HB7 := Zt HB6 hb
     clear hb
     go_wp2_with fail
     refine (za2 (some ⟨b, off, none⟩) n c l w7 (HT.out.below HB7.out) hn).mono ?_
     rintro e w8 ⟨a3, c3, rfl, ht3, hb⟩
     have HB8 := Zt HB7 hb
     clear hb
     go_wp2
     go_ret2
     exact ⟨a3, c3, rfl, Zh (ht3.out.le (Below.size HB7.out)), HB8.out⟩
    ·obtain rfl : u3 = false := by simpa using hp4
     rw [if_neg (by decide)] at hs1
     obtain ⟨hl2, rfl⟩ := Prod.mk.inj hs1.symm
     have HL2 : Hid (l.set ((m : Int).toNat) { O.at' l (m : Int) with n := n' } = l2) := Zh (by rw [HAT.out]; exact hl2)
     have H2 := Zh h2
     clear hs1 h2 hl hl2 hp4 hsk
     go_enter Tryz.func147, Tryz.ntmps147
     go_wp2_with fail
     refine (zbl a n c l out m 0 w (HT.out.below HB0.out) hn HZ.out HSK.out).mono ?_
     rintro e w1 ⟨rfl, hb⟩
     have HB1 := Zt HB0 hb
     clear hb
     obtain ⟨b, off, y, hay, hbl, hxy, p0, p1, p2⟩ := (HT.out.below HB1.out).at hm
     obtain rfl : x = y := by have := HX.out; rw [hxy] at this; exact (Option.some.inj this).symm
     cases hay
     clear hxy hbl
     have hb := O.box_below w1 ⟨x.f, n', 0⟩
     have hk := O.box_is w1 ⟨x.f, n', 0⟩
     dsimp only [O.box] at hb hk
     have HBT := Zh hb
     have HKT := Zh hk
     clear hb hk
     go_wp2_with fail
     obtain ⟨w2, hw2⟩ : ∃ W, w1.alloc (.cells #[.int .i64 x.f, .int .i64 n', .int .i64 0] 100) = W := ⟨_, rfl⟩
     have hb := HBT.out
     have hk := HKT.out
     rw [hw2] at hb hk ⊢
     clear hw2 HBT HKT
     clear p0 p1 p2
     have HKp2 := Zh hk
     clear hk
     have HB2 := Zt HB1 hb
     clear hb
     have pf0 := HKp2.out.b0
     have pf1 := HKp2.out.b1
     have pf2 := HKp2.out.b2
     skip
     refine (zdd (some ⟨b, off, none⟩) n c l m l3 n3 w2 (HT.out.below HB2.out) hn m0 HL3.out HN3.out).mono ?_
     clear pf0 pf1 pf2
     rintro e w3 ⟨a3, c3, rfl, hto, hb⟩
     have HKp3 := Zh (HKp2.out.on hb)
     have HB3 := Zt HB2 hb
     clear hb
     have pf0 := HKp3.out.b0
     have pf1 := HKp3.out.b1
     have pf2 := HKp3.out.b2
     have HLo3 := hto
     clear hto
     go_wp2_with fail
     refine (za1 (⟨x.f, n', 0⟩ : O.Pl) out true w3 HBE.out hout hxf).mono ?_
     clear pf0 pf1 pf2
     rintro e w4 ⟨rfl, hb⟩
     have HKp4 := Zh (HKp3.out.on hb)
     have HLo4 := Zh (HLo3.out.below hb)
     have HB4 := Zt HB3 hb
     clear hb
     have pf0 := HKp4.out.b0
     have pf1 := HKp4.out.b1
     have pf2 := HKp4.out.b2
     go_wp2_with fail
     refine (za7 (⟨x.f, n', 0⟩ : O.Pl) w4).mono ?_
     clear pf0 pf1 pf2
     rintro e w5 ⟨bx, rfl, HXB, hb⟩
     have HKp5 := Zh (HKp4.out.on hb)
     have HLo5 := Zh (HLo4.out.below hb)
     have HB5 := Zt HB4 hb
     clear hb
     have pf0 := HKp5.out.b0
     have pf1 := HKp5.out.b1
     have pf2 := HKp5.out.b2
     unfold O.clo
     go_wp2_with fail
     refine (zbu a3 n3 c3 l3 ⟨x.f, n', 0⟩ bx false HHI.out w5 HLo5.out HXB.out (by omega)).mono ?_
     clear pf0 pf1 pf2
     rintro e w6 ⟨rfl, hb⟩
     have HKp6 := Zh (HKp5.out.on hb)
     have HLo6 := Zh (HLo5.out.below hb)
     have HB6 := Zt HB5 hb
     clear hb
     have pf0 := HKp6.out.b0
     have pf1 := HKp6.out.b1
     have pf2 := HKp6.out.b2
     obtain ⟨b2, off2, y, hay, hbl, hxy, p0, p1, p2⟩ := (HT.out.below HB6.out).at hm
     obtain rfl : x = y := by have := HX.out; rw [hxy] at this; exact (Option.some.inj this).symm
     cases hay
     clear hxy hbl
     clear pf0 pf1 pf2
     have cp0 := fun d os => cell_regrown p0 d os
     have cp1 := fun d os => cell_regrown p1 d os
     have cp2 := fun d os => cell_regrown p2 d os
     have q0 := HKp6.out.b0
     have cq0 := fun d os => cell_regrown q0 d os
     have q1 := HKp6.out.b1
     have cq1 := fun d os => cell_regrown q1 d os
     have q2 := HKp6.out.b2
     have cq2 := fun d os => cell_regrown q2 d os
     have c1 := fun d os => zcs x ⟨x.f, n', 0⟩ ab nb cb bs false HLO.out (Go.Sort.grow (redrawn w6 d) os) ((HU.out.below HB6.out).below (below_regrown w6 d os)) hnb
     unfold O.val at c1
     go_wp2_with fail
     refine wp_region_quiet_below (by kernel_rfl) (by kernel_rfl) ?_
     repeat (go_big_quiet_step (with_reducible exact Calls.regrown_of (c1 _ _)))
     refine wpQuiet_nil ?_
     intro _ hw'
     obtain ⟨⟨dq, osq⟩, hw''⟩ := hw'
     subst hw''
     clear p0 p1 p2 cp0 cp1 cp2 q0 q1 q2 cq0 cq1 cq2 c1
     obtain ⟨w7, hw7⟩ : ∃ W, Go.Sort.grow (redrawn w6 dq) osq = W := ⟨_, rfl⟩
     have hb : Below w6.heap.size w6 w7 := by rw [<- hw7]; exact below_regrown _ _ _
     rw [hw7]
     clear hw7
     have HB7 := Zt HB6 hb
     clear hb
     go_wp2_with fail
     refine (zke (some ⟨b, off, none⟩) n c l m n' l2 n2 w7 (HT.out.below HB7.out) hn m0 m1 HL2.out H2.out).mono ?_
     rintro e w8 ⟨a3, c3, rfl, ht3, hb⟩
     have HB8 := Zt HB7 hb
     clear hb
     go_wp2
     go_ret2
     exact ⟨a3, c3, rfl, Zh (ht3.out.le (Below.size HB7.out)), HB8.out⟩
 ·have e1 : (sk != 0) = true := by simpa using hp1
  have hs1 := O.size_no (l := l) (out := out) (k := k) (n := n') (busy := bs) (by rw [hsk]; exact hp1)
  rw [hs, hsk] at hs1
  obtain ⟨rfl, rfl⟩ := Prod.mk.inj hs1.symm
  obtain rfl : n = n2 := by rw [<- h2, hl]
  clear hs hs1 h2 hl hsk hp1
  go_enter Tryz.func147, Tryz.ntmps147
  go_wp2_with fail
  refine (zbl a n c l out k sk w (HT.out.below HB0.out) hn HZ.out HSK.out).mono ?_
  rintro e w1 ⟨rfl, hb⟩
  have HB1 := Zt HB0 hb
  clear hb
  go_wp2_with fail
  refine (za2 a n c l w1 (HT.out.below HB1.out) hn).mono ?_
  rintro e w2 ⟨a3, c3, rfl, ht3, hb⟩
  have HB2 := Zt HB1 hb
  clear hb
  go_wp2
  go_ret2
  exact ⟨a3, c3, rfl, Zh (ht3.out.le (Below.size HB1.out)), HB2.out⟩
open Go.RowKit
theorem ziy (a : Option Addr) (n c : Nat) (l : List O.Pl) (out k : Int) (ab : Option Addr) (nb cb : Nat) (bs : List Int) (l2 : List O.Pl) (n2 : Nat) (er : Int) (w : World) (h : QIn w a n c l) (hn : n <= 800) (hz : O.Sm l) (hu : BIn w ab nb cb bs) (hnb : nb <= 1000000) (hs : O.gone l out k bs = (l2, er)) (h2 : l2.length = n2) :
  Calls Tryz.prog 149 #[.slice a n c, .int .i64 out, .int .i64 k, .slice ab nb cb] w fun e w' => ∃ a2 c2, e = .returned (.tuple #[.slice a2 n2 c2, .int .i64 er]) /\ Hid (QUp w.heap.size w' a2 n2 c2 l2) /\ Below w.heap.size w w' := by
 have HT := Zh h
 have hl := h.1
 have HB0 := Zh (Below.refl w.heap.size w)
 have HU := Zh hu
 have HZ := Zh hz
 obtain ⟨sk, hsk⟩ : ∃ s, O.seek l out k = s := ⟨_, rfl⟩
 have HSK := Zh hsk
 clear h hz hu
 by_cases hp1 : sk = 0
 ·subst hp1
  have hsk' := O.seek_ok.1 hsk
  have hmay := O.may_iff.1 hsk'.1
  have hout : 0 <= out /\ out <= 4 := ⟨hmay.1, hmay.2.1⟩
  obtain ⟨m, rfl⟩ : ∃ m : Nat, k = m := ⟨k.toNat, by omega⟩
  have hm : m < n := by omega
  have hx := List.getElem?_eq_getElem (show m < l.length by omega)
  obtain ⟨x, hxl⟩ : ∃ x, l[m]'(by omega) = x := ⟨_, rfl⟩
  rw [hxl] at hx
  have hat := O.at_some hx
  have HX := Zh hx
  have m0 : (0 : Int) <= m := by omega
  have m1 : (m : Int) < n := by omega
  have hs1 := O.gone_yes (busy := bs) hsk
  rw [hs, hat] at hs1
  clear hsk' hmay hout hxl hx hs hat
  obtain ⟨u, hu⟩ : ∃ u, O.loses x O.zp bs = u := ⟨_, rfl⟩
  have HLO := Zh hu
  by_cases hp2 : x.s = 0
  ·have e1 : (x.s == 0) = true := by rw [hp2]; rfl
   rw [if_pos (.inl hp2)] at hs1
   obtain ⟨rfl, rfl⟩ := Prod.mk.inj hs1.symm
   obtain rfl : n = n2 := by rw [<- h2, hl]
   clear hs1 h2 hl hp2 hsk hu
   go_enter Tryz.func149, Tryz.ntmps149
   go_wp2_with fail
   refine (zbl a n c l out m 0 w (HT.out.below HB0.out) hn HZ.out HSK.out).mono ?_
   rintro e w1 ⟨rfl, hb⟩
   have HB1 := Zt HB0 hb
   clear hb
   obtain ⟨b, off, y, hay, hbl, hxy, p0, p1, p2⟩ := (HT.out.below HB1.out).at hm
   obtain rfl : x = y := by have := HX.out; rw [hxy] at this; exact (Option.some.inj this).symm
   cases hay
   clear hxy hbl
   go_wp2_with fail
   refine (za2 (some ⟨b, off, none⟩) n c l w1 (HT.out.below HB1.out) hn).mono ?_
   clear p0 p1 p2
   rintro e w2 ⟨a3, c3, rfl, ht3, hb⟩
   have HB2 := Zt HB1 hb
   clear hb
   go_wp2
   go_ret2
   exact ⟨a3, c3, rfl, Zh (ht3.out.le (Below.size HB1.out)), HB2.out⟩
  ·have e1 : (x.s == 0) = false := by simpa using hp2
   by_cases hp3 : u = true
   ·subst hp3
    rw [if_pos (.inr hu)] at hs1
    obtain ⟨rfl, rfl⟩ := Prod.mk.inj hs1.symm
    obtain rfl : n = n2 := by rw [<- h2, hl]
    clear hs1 h2 hl hp2 hsk hu
    go_enter Tryz.func149, Tryz.ntmps149
    go_wp2_with fail
    refine (zbl a n c l out m 0 w (HT.out.below HB0.out) hn HZ.out HSK.out).mono ?_
    rintro e w1 ⟨rfl, hb⟩
    have HB1 := Zt HB0 hb
    clear hb
    obtain ⟨b, off, y, hay, hbl, hxy, p0, p1, p2⟩ := (HT.out.below HB1.out).at hm
    obtain rfl : x = y := by have := HX.out; rw [hxy] at this; exact (Option.some.inj this).symm
    cases hay
    clear hxy hbl
    go_wp2_with fail
    refine (zcs x O.zp ab nb cb bs true HLO.out w1 (HU.out.below HB1.out) hnb).mono ?_
    clear p0 p1 p2
    rintro e w2 ⟨rfl, hb⟩
    have HB2 := Zt HB1 hb
    clear hb
    go_wp2_with fail
    refine (za2 (some ⟨b, off, none⟩) n c l w2 (HT.out.below HB2.out) hn).mono ?_
    rintro e w3 ⟨a3, c3, rfl, ht3, hb⟩
    have HB3 := Zt HB2 hb
    clear hb
    go_wp2
    go_ret2
    exact ⟨a3, c3, rfl, Zh (ht3.out.le (Below.size HB2.out)), HB3.out⟩
   ·obtain rfl : u = false := by simpa using hp3
    rw [if_neg (by rw [hu]; simp [hp2])] at hs1
    obtain ⟨hl2, rfl⟩ := Prod.mk.inj hs1.symm
    have HL2 := Zh hl2
    have H2 := Zh h2
    clear hs1 h2 hl hp2 hsk hl2 hu hp3
    go_enter Tryz.func149, Tryz.ntmps149
    go_wp2_with fail
    refine (zbl a n c l out m 0 w (HT.out.below HB0.out) hn HZ.out HSK.out).mono ?_
    rintro e w1 ⟨rfl, hb⟩
    have HB1 := Zt HB0 hb
    clear hb
    obtain ⟨b, off, y, hay, hbl, hxy, p0, p1, p2⟩ := (HT.out.below HB1.out).at hm
    obtain rfl : x = y := by have := HX.out; rw [hxy] at this; exact (Option.some.inj this).symm
    cases hay
    clear hxy hbl
    go_wp2_with fail
    refine (zcs x O.zp ab nb cb bs false HLO.out w1 (HU.out.below HB1.out) hnb).mono ?_
    clear p0 p1 p2
    rintro e w2 ⟨rfl, hb⟩
    have HB2 := Zt HB1 hb
    clear hb
    go_wp2_with fail
    refine (zgx (some ⟨b, off, none⟩) n c l m l2 n2 w2 (HT.out.below HB2.out) hn m0 HL2.out H2.out).mono ?_
    rintro e w3 ⟨a3, c3, rfl, ht3, hb⟩
    have HB3 := Zt HB2 hb
    clear hb
    go_wp2
    go_ret2
    exact ⟨a3, c3, rfl, Zh (ht3.out.le (Below.size HB2.out)), HB3.out⟩
 ·have e1 : (sk != 0) = true := by simpa using hp1
  have hs1 := O.gone_no (l := l) (out := out) (k := k) (busy := bs) (by rw [hsk]; exact hp1)
  rw [hs, hsk] at hs1
  obtain ⟨rfl, rfl⟩ := Prod.mk.inj hs1.symm
  obtain rfl : n = n2 := by rw [<- h2, hl]
  clear hs hs1 h2 hl hsk hp1
  go_enter Tryz.func149, Tryz.ntmps149
  go_wp2_with fail
  refine (zbl a n c l out k sk w (HT.out.below HB0.out) hn HZ.out HSK.out).mono ?_
  rintro e w1 ⟨rfl, hb⟩
  have HB1 := Zt HB0 hb
  clear hb
  go_wp2_with fail
  refine (za2 a n c l w1 (HT.out.below HB1.out) hn).mono ?_
  rintro e w2 ⟨a3, c3, rfl, ht3, hb⟩
  have HB2 := Zt HB1 hb
  clear hb
  go_wp2
  go_ret2
  exact ⟨a3, c3, rfl, Zh (ht3.out.le (Below.size HB1.out)), HB2.out⟩
namespace O
theorem drop1 {l : List Pl} {q : Pl} {m : Nat} (h : q ∈ l.eraseIdx m) : ∃ i, i ≠ m /\ l[i]? = some q := by
 obtain ⟨i, hi, hne, rfl⟩ := List.mem_eraseIdx_iff_getElem.1 h
 exact ⟨i, hne, List.getElem?_eq_getElem hi⟩
theorem hit_s (p q : Pl) (s : Int) : hit { p with s := s } q = hit p q := rfl
theorem apart_at {l : List Pl} {i j : Nat} {p q : Pl} (h : Apart l) (hi : l[i]? = some p) (hj : l[j]? = some q) (hne : i ≠ j) : hit p q = false := by
 obtain ⟨a, rfl⟩ := List.getElem?_eq_some_iff.1 hi
 obtain ⟨b, rfl⟩ := List.getElem?_eq_some_iff.1 hj
 rcases Nat.lt_or_gt_of_ne hne with hlt | hlt
 ·rw [hit_comm]; exact List.pairwise_iff_getElem.1 h i j a b hlt
 ·exact List.pairwise_iff_getElem.1 h j i b a hlt
theorem may_fits {l : List Pl} {out : Int} {i : Nat} {p : Pl} (h : May l out) (hi : l[i]? = some p) : fits p out = true := h.2.2.2.1 p (List.mem_of_getElem? hi)
theorem may_set {l : List Pl} {out : Int} {m : Nat} {y : Pl} (h : May l out) (hy : fits y out = true) (hh : ∀ q ∈ l.eraseIdx m, hit y q = false) : May (l.set m y) out := by
 refine ⟨h.1, h.2.1, by rw [List.length_set]; exact h.2.2.1, fun p hp => ?_, ?_⟩
 ·rcases List.mem_or_eq_of_mem_set hp with hp | rfl
  ·exact h.2.2.2.1 p hp
  ·exact hy
 ·refine List.pairwise_iff_getElem.2 fun i j hi hj hij => ?_
  rw [List.length_set] at hi hj
  have him : i ≠ m -> l[i] ∈ l.eraseIdx m := fun e => List.mem_eraseIdx_iff_getElem.2 ⟨i, hi, e, rfl⟩
  have hjm : j ≠ m -> l[j] ∈ l.eraseIdx m := fun e => List.mem_eraseIdx_iff_getElem.2 ⟨j, hj, e, rfl⟩
  rw [List.getElem_set, List.getElem_set]
  by_cases h1 : m = i
  ·subst h1
   rw [if_pos rfl, if_neg (by omega), hit_comm]; exact hh _ (hjm (by omega))
  ·rw [if_neg h1]
   by_cases h2 : m = j
   ·subst h2; rw [if_pos rfl]; exact hh _ (him (by omega))
   ·rw [if_neg h2]; exact List.pairwise_iff_getElem.1 h.2.2.2.2 i j hi hj hij
theorem may_erase {l : List Pl} {out : Int} (h : May l out) (m : Nat) : May (l.eraseIdx m) out :=
 ⟨h.1, h.2.1, Nat.le_trans (List.length_eraseIdx_le _ _) h.2.2.1, fun p hp => h.2.2.2.1 p (List.mem_of_mem_eraseIdx hp), h.2.2.2.2.sublist (List.eraseIdx_sublist _ _)⟩
theorem may_snoc {l : List Pl} {out : Int} {p : Pl} (h : May l out) (hp : fits p out = true) (hh : l.any (fun q => hit p q) = false) (h3 : l.length ≠ 3) : May (l ++ [p]) out := by
 refine ⟨h.1, h.2.1, by rw [List.length_append]; have := h.2.2.1; simp; omega, fun q hq => ?_, ?_⟩
 ·rcases List.mem_append.1 hq with hq | hq
  ·exact h.2.2.2.1 q hq
  ·rw [List.mem_singleton.1 hq]; exact hp
 ·refine List.pairwise_append.2 ⟨h.2.2.2.2, List.pairwise_singleton _ _, fun q hq r hr => ?_⟩
  rw [List.mem_singleton.1 hr]
  have := List.any_eq_false.1 hh q hq
  simpa using this
theorem add_cases (l : List Pl) (out f n : Int) : (∃ e, add l out f n = (l, e) /\ e ≠ 0 /\ (may l out = false -> e = 1)) \/ (add l out f n = (l ++ [⟨f, n, 0⟩], 0) /\ May l out /\ below ⟨f, n, 0⟩ out = true /\ May (l ++ [⟨f, n, 0⟩]) out) := by
 unfold add
 by_cases h1 : may l out = false \/ below ⟨f, n, 0⟩ out = false
 ·rw [if_pos h1]; exact .inl ⟨1, rfl, by decide, fun _ => rfl⟩
 ·rw [if_neg h1]
  have hm : May l out := may_iff.1 (by cases h : may l out <;> simp [h] at h1 ⊢)
  have hb : below ⟨f, n, 0⟩ out = true := by cases h : below ⟨f, n, 0⟩ out <;> simp [h] at h1 ⊢
  have hn : ∀ e : Int, may l out = false -> e = 1 := fun e h => absurd (Or.inl h) h1
  by_cases h2 : (l.any fun q => hit ⟨f, n, 0⟩ q) = true
  ·rw [if_pos h2]; exact .inl ⟨11, rfl, by decide, hn _⟩
  ·rw [if_neg h2]
   by_cases h3 : l.length = 3
   ·rw [if_pos h3]; exact .inl ⟨9, rfl, by decide, hn _⟩
   ·rw [if_neg h3]
    exact .inr ⟨rfl, hm, hb, may_snoc hm (by rw [fits_zero]; exact hb) (by simpa using h2) h3⟩
theorem drain_cases (l : List Pl) (out k : Int) : (∃ e, drain l out k = (l, e) /\ e ≠ 0) \/ (∃ (m : Nat) (x : Pl), k = m /\ m < l.length /\ l[m]? = some x /\ x.s = 0 /\ drain l out k = (l.set m { x with s := 1 }, 0) /\ May l out /\ May (l.set m { x with s := 1 }) out) := by
 by_cases hs : seek l out k = 0
 ·obtain ⟨h1, h2, h3⟩ := seek_ok.1 hs
  have hm := may_iff.1 h1
  obtain ⟨m, rfl⟩ : ∃ m : Nat, k = m := ⟨k.toNat, by omega⟩
  have hml : m < l.length := by omega
  have hx := List.getElem?_eq_getElem hml
  rw [drain_yes hs, at_some hx]
  have hsm := may_small hm (List.mem_of_getElem? hx)
  by_cases h4 : l[m].s = 1
  ·rw [if_pos h4]; exact .inl ⟨11, rfl, by decide⟩
  ·rw [if_neg h4]
   refine .inr ⟨m, l[m], rfl, hml, hx, by omega, by rw [Int.toNat_natCast], hm, may_set hm ?_ fun q hq => ?_⟩
   ·have := fits_iff.1 (may_fits hm hx)
    exact fits_iff.2 ⟨this.1, this.2.1, this.2.2.1, by show (0 : Int) <= 1; omega, by show (1 : Int) < 2; omega⟩
   ·obtain ⟨i, hi, hq⟩ := drop1 hq
    rw [hit_s]; exact apart_at hm.2.2.2.2 hx hq (Ne.symm hi)
 ·exact .inl ⟨_, drain_no hs, hs⟩
theorem size_cases (l : List Pl) (out k n : Int) (busy : List Int) : (∃ e, size l out k n busy = (l, e) /\ e ≠ 0) \/ (∃ (m : Nat) (x : Pl), k = m /\ m < l.length /\ l[m]? = some x /\ size l out k n busy = (l.set m { x with n := n }, 0) /\ (∀ y ∈ busy, has x y = true -> has { x with n := n } y = true) /\ May l out /\ May (l.set m { x with n := n }) out) := by
 by_cases hs : seek l out k = 0
 ·obtain ⟨h1, h2, h3⟩ := seek_ok.1 hs
  have hm := may_iff.1 h1
  obtain ⟨m, rfl⟩ : ∃ m : Nat, k = m := ⟨k.toNat, by omega⟩
  have hml : m < l.length := by omega
  have hx := List.getElem?_eq_getElem hml
  rw [size_yes hs, at_some hx, Int.toNat_natCast]
  by_cases h4 : below { l[m] with n := n } out = false
  ·rw [if_pos h4]; exact .inl ⟨1, rfl, by decide⟩
  ·rw [if_neg h4]
   by_cases h5 : ((l.eraseIdx m).any fun q => hit { l[m] with n := n } q) = true
   ·rw [if_pos h5]; exact .inl ⟨11, rfl, by decide⟩
   ·rw [if_neg h5]
    by_cases h6 : loses l[m] { l[m] with n := n } busy = true
    ·rw [if_pos h6]; exact .inl ⟨12, rfl, by decide⟩
    ·rw [if_neg h6]
     refine .inr ⟨m, l[m], rfl, hml, hx, rfl, fun y hy hyx => ?_, hm, may_set hm ?_ fun q hq => ?_⟩
     ·have h7 : loses l[m] { l[m] with n := n } busy = false := by simpa using h6
      have := List.any_eq_false.1 h7 y hy
      rw [hyx] at this
      simpa using this
     ·rw [fits_n (may_small hm (List.mem_of_getElem? hx))]; simpa using h4
     ·have := List.any_eq_false.1 (by simpa using h5 : ((l.eraseIdx m).any fun q => hit { l[m] with n := n } q) = false) q hq
      simpa using this
 ·exact .inl ⟨_, size_no hs, hs⟩
theorem gone_cases (l : List Pl) (out k : Int) (busy : List Int) : (∃ e, gone l out k busy = (l, e) /\ e ≠ 0 /\ (may l out = false -> e = 1)) \/ (∃ (m : Nat) (x : Pl), k = m /\ m < l.length /\ l[m]? = some x /\ x.s = 1 /\ gone l out k busy = (l.eraseIdx m, 0) /\ (∀ y ∈ busy, has x y = false) /\ May l out /\ May (l.eraseIdx m) out) := by
 by_cases hs : seek l out k = 0
 ·obtain ⟨h1, h2, h3⟩ := seek_ok.1 hs
  have hm := may_iff.1 h1
  obtain ⟨m, rfl⟩ : ∃ m : Nat, k = m := ⟨k.toNat, by omega⟩
  have hml : m < l.length := by omega
  have hx := List.getElem?_eq_getElem hml
  rw [gone_yes hs, at_some hx, Int.toNat_natCast]
  have hsm := may_small hm (List.mem_of_getElem? hx)
  by_cases h4 : l[m].s = 0 \/ loses l[m] zp busy = true
  ·rw [if_pos h4]; exact .inl ⟨12, rfl, by decide, fun h => by rw [h1] at h; cases h⟩
  ·rw [if_neg h4]
   refine .inr ⟨m, l[m], rfl, hml, hx, by omega, rfl, fun y hy => ?_, hm, may_erase hm m⟩
   have h5 : loses l[m] zp busy = false := by
    have := fun h => h4 (.inr h); simpa using this
   rw [loses_zp] at h5
   have := List.any_eq_false.1 h5 y hy
   simpa using this
 ·refine .inl ⟨_, gone_no hs, hs, fun h => ?_⟩
  unfold seek; rw [if_pos h]
end O
end Go.Proofs.YtonejangijkdmaaGreat
