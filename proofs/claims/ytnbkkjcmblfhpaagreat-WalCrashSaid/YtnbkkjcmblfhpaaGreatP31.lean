import Derived.Test.YtnbkkjcmblfhpaaGreatP21
import Derived.Test.YtnbkkjcmblfhpaaGreatP26
namespace Go.Proofs.YtnbkkjcmblfhpaaGreat
set_option maxHeartbeats 400000
set_option maxRecDepth 100000
open Go.RowKit
def D.few (l : List D.F) : Prop := l.length <= 14 /\ ∀ f ∈ l, f.2.1.length <= 3000
instance (l : List D.F) : Decidable (D.few l) := inferInstanceAs (Decidable (_ /\ _))
theorem D.few.small {l : List D.F} (h : D.few l) : D.small l := ⟨h.1, fun f hf => Nat.le_trans (h.2 f hf) (by decide)⟩
theorem zyh (k : Int) (a : Option Addr) (n c : Nat) (xs : List FP) (b : Bool) (w : World) (hd : zf0 w a n c xs) (hb : decide (D.few (FP.files xs)) = b) :
  Calls Tryz.prog 36 #[.agg #[.int .i64 k, .slice a n c]] w fun e w' => e = .returned (.bool b) /\ Below w.heap.size w w' := by
 have HBX := Zh (zf2 w k a n c)
 have HD := Zh hd
 have HB := Zh hb
 have hcap := hd.caps
 have hml : maxLen <= 9223372036854775807 := by decide
 have KB := Zh (zt2 w k a n c)
 clear hd hb
 go_enter Tryz.func36, Tryz.ntmps36
 go_wp2_with fail
 go_loopg [3] n (fun g i wr => ∃ j : Nat, i = .int .i64 j /\ j + g = n /\ Hid (∀ x ∈ xs.take j, x.B.length <= 3000) /\ Hid (Blok wr w.heap.size 24 #[.int .i64 k, .slice a n c]) /\ Below w.heap.size w wr)
 case atStart => exact ⟨0, rfl, by omega, Zh (by simp), KB, HBX.out⟩
 case round =>
  obtain ⟨j, rfl, hjn, HT, KW, hB⟩ := hrel
  have k0 := dk0 KW.out
  have k1 := dk1 KW.out
  by_cases hlt : j < n
  ·obtain ⟨b1, o1, no1, a1, n1, c1, B1, s1, rfl, hb1, hx, p0, p1, p2, hok⟩ := ((HD.out.below hB).2.1).at (i := j) (by rw [HD.out.1]; exact hlt)
   have HX := Zh hx
   have h1n : B1.length = n1 := hok.1
   have HN := Zh h1n
   clear hx hok h1n
   by_cases h3 : 3000 < n1
   ·have d2 : decide ((3000 : Int) < (n1 : Int)) = true := by simp; omega
    have HF : Hid (b = false) := Zh (by
     rw [<- HB.out]
     refine decide_eq_false fun h => ?_
     have h1 := h.2 _ (List.mem_map.2 ⟨_, List.mem_of_getElem? HX.out, rfl⟩)
     have h2 := HN.out
     simp only [FP.file] at h1
     omega)
    clear h3
    go_wp2
    go_ret
    exact ⟨by rw [HF.out]; rfl, hB⟩
   ·have d2 : decide ((3000 : Int) < (n1 : Int)) = false := by simp; omega
    have HC : Hid (∀ x ∈ xs.take (j + 1), x.B.length <= 3000) := Zh (by
     obtain ⟨g1, g2⟩ := List.getElem?_eq_some_iff.1 HX.out
     rw [List.take_succ_eq_append_getElem g1, g2]
     intro x hx
     rcases List.mem_append.1 hx with hx | hx
     ·exact HT.out x hx
     ·simp only [List.mem_singleton] at hx
      rw [hx]
      have h2 := HN.out
      simp only
      omega)
    clear h3
    go_wp2
    go_roundg (n - (j + 1))
    case rel => exact ⟨j + 1, by go_num, by omega, HC, KW, hB⟩
    case measure => omega
  ·have hd : decide (j < n) = false := by simp; omega
   have HF : Hid (b = decide ((n : Int) <= 14)) := Zh (by
    rw [<- HB.out, Bool.eq_iff_iff, decide_eq_true_iff, decide_eq_true_iff]
    have h1 := HT.out
    rw [List.take_of_length_le (by rw [HD.out.1]; omega)] at h1
    unfold D.few
    rw [FP.files_len, HD.out.1]
    refine ⟨fun h => by omega, fun h => ⟨by omega, fun f hf => ?_⟩⟩
    obtain ⟨x, hx, rfl⟩ := List.mem_map.1 hf
    exact h1 x hx)
   go_wp2
   go_ret
   exact ⟨by rw [HF.out]; rfl, hB⟩
end Go.Proofs.YtnbkkjcmblfhpaaGreat
namespace Go.Proofs.YtnbkkjcmblfhpaaGreat
set_option maxRecDepth 100000
open Go.RowKit
theorem G.few_any (k : Int) (a : Option Addr) (n c : Nat) (wn wt : Int) (xs : List FP) (v : Bool) (w : World) (hd : zf0 w a n c xs) (hv : decide (D.few (FP.files xs)) = v) :
  Calls Tryz.prog 11 #[.agg #[.int .i64 k, .slice a n c, .int .i64 wn, .int .i64 wt]] w fun e w' => e = .returned (.bool v) /\ Below w.heap.size w w' := by
 have HB0 := Zh (Below.refl w.heap.size w)
 have HD0 := Zh hd
 have HV := Zh hv
 clear hd hv
 obtain ⟨w1, hw1, hb, hk⟩ := Zn w 26 #[.int .i64 k, .slice a n c, .int .i64 wn, .int .i64 wt]
 replace HD0 := Zh (HD0.out.below hb)
 replace HB0 := Zt HB0 hb
 have KW1 := Zh hk
 clear hb hk
 obtain ⟨x0, x1, x2, x3⟩ := G.pk KW1.out
 go_enter Tryz.func11, Tryz.ntmps11
 go_wp2_with fail
 try rw [hw1]
 refine (zyh k a n c xs v w1 HD0.out HV.out).mono ?_
 rintro e w2 ⟨rfl, hb⟩
 replace HD0 := Zh (HD0.out.below hb)
 replace KW1 := Zk KW1 hb
 replace HB0 := Zt HB0 hb
 clear hb
 go_wp2
 go_ret
 exact ⟨rfl, HB0.out⟩
end Go.Proofs.YtnbkkjcmblfhpaaGreat
