/-
  Walks of moorings/mooringslaw06.Few, small, Do, at every disk and whatever is done.
-/
import Derived.Test.YtcabhibbajkpkaaDMake
import Derived.Test.YtcabhibbajkpkaaDWrite
import Derived.Test.YtcabhibbajkpkaaDCut
import Derived.Test.YtcabhibbajkpkaaDCrash
import Derived.Test.YtcabhibbajkpkaaDSame
namespace Go.Proofs.Ytcabhibbajkpkaa
open Go.RowKit

def D.few (l : List D.F) : Prop := l.length ≤ 14 ∧ ∀ f ∈ l, f.2.1.length ≤ 3000
instance (l : List D.F) : Decidable (D.few l) := inferInstanceAs (Decidable (_ ∧ _))
theorem D.few.small {l : List D.F} (h : D.few l) : D.small l := ⟨h.1, fun f hf => Nat.le_trans (h.2 f hf) (by decide)⟩

set_option maxRecDepth 100000 in
set_option maxHeartbeats 400000 in
theorem few_any (k : Int) (a : Option Addr) (n c : Nat) (xs : List FP) (b : Bool) (w : World) (hd : DiskIn w a n c xs) (hb : decide (D.few (FP.files xs)) = b) :
    Calls Try.prog 11 #[.agg #[.int .i64 k, .slice a n c]] w fun e w' => e = .returned (.bool b) ∧ Below w.heap.size w w' := by
  have HBX := Lib.hid (dbox_below w k a n c)
  have HD := Lib.hid hd
  have HB := Lib.hid hb
  have hcap := hd.caps
  have hml : maxLen ≤ 9223372036854775807 := by decide
  have KB := Lib.hid (dbox_blok w k a n c)
  clear hd hb
  go_enter Try.func11, Try.ntmps11
  go_wp2_with fail
  go_loopg [3] n (fun g i wr => ∃ j : Nat, i = .int .i64 j ∧ j + g = n ∧ Hid (∀ x ∈ xs.take j, x.B.length ≤ 3000) ∧ Hid (Blok wr w.heap.size 24 #[.int .i64 k, .slice a n c]) ∧ Below w.heap.size w wr)
  case atStart => exact ⟨0, rfl, by omega, Lib.hid (by simp), KB, HBX.out⟩
  case round =>
    obtain ⟨j, rfl, hjn, HT, KW, hB⟩ := hrel
    have k0 := dk0 KW.out
    have k1 := dk1 KW.out
    by_cases hlt : j < n
    · obtain ⟨b1, o1, no1, a1, n1, c1, B1, s1, rfl, hb1, hx, p0, p1, p2, hok⟩ := ((HD.out.below hB).2.1).at (i := j) (by rw [HD.out.1]; exact hlt)
      have HX := Lib.hid hx
      have h1n : B1.length = n1 := hok.1
      have HN := Lib.hid h1n
      clear hx hok h1n
      by_cases h3 : 3000 < n1
      · have d2 : decide ((3000 : Int) < (n1 : Int)) = true := by simp; omega
        have HF : Hid (b = false) := Lib.hid (by
          rw [← HB.out]
          refine decide_eq_false fun h => ?_
          have h1 := h.2 _ (List.mem_map.2 ⟨_, List.mem_of_getElem? HX.out, rfl⟩)
          have h2 := HN.out
          simp only [FP.file] at h1
          omega)
        clear h3
        go_wp2
        go_ret
        exact ⟨by rw [HF.out]; rfl, hB⟩
      · have d2 : decide ((3000 : Int) < (n1 : Int)) = false := by simp; omega
        have HC : Hid (∀ x ∈ xs.take (j + 1), x.B.length ≤ 3000) := Lib.hid (by
          obtain ⟨g1, g2⟩ := List.getElem?_eq_some_iff.1 HX.out
          rw [List.take_succ_eq_append_getElem g1, g2]
          intro x hx
          rcases List.mem_append.1 hx with hx | hx
          · exact HT.out x hx
          · simp only [List.mem_singleton] at hx
            rw [hx]
            have h2 := HN.out
            simp only
            omega)
        clear h3
        go_wp2
        go_roundg (n - (j + 1))
        case rel => exact ⟨j + 1, by go_num, by omega, HC, KW, hB⟩
        case measure => omega
    · have hd : decide (j < n) = false := by simp; omega
      have HF : Hid (b = decide ((n : Int) ≤ 14)) := Lib.hid (by
        rw [← HB.out, Bool.eq_iff_iff, decide_eq_true_iff, decide_eq_true_iff]
        have h1 := HT.out
        rw [List.take_of_length_le (by rw [HD.out.1]; omega)] at h1
        unfold D.few
        rw [FP.files_len, HD.out.1]
        refine ⟨fun h => by omega, fun h => ⟨by omega, fun f hf => ?_⟩⟩
        obtain ⟨x, hx, rfl⟩ := List.mem_map.1 hf
        exact h1 x hx)
      go_wp2
      go_ret
      exact ⟨by rw [HF.out]; rfl, hB⟩

/-- What is done, where it lies: bytes, and picks. -/
def OpIn (w : World) (ad : Option Addr) (nd cd : Nat) (bd : List Int) (ap : Option Addr) (np cp : Nat) (ps : List Int) : Prop :=
  (bd.length = nd ∧ RowIn .u8 w ad cd bd ∧ (ad = none → nd = 0 ∧ cd = 0)) ∧ (ps.length = np ∧ RowIn .i64 w ap cp ps)
theorem OpIn.below {w w' : World} {ad : Option Addr} {nd cd : Nat} {bd : List Int} {ap : Option Addr} {np cp : Nat} {ps : List Int} (h : OpIn w ad nd cd bd ap np cp ps) (hb : Below w.heap.size w w') : OpIn w' ad nd cd bd ap np cp ps :=
  ⟨⟨h.1.1, h.1.2.1.below hb, h.1.2.2⟩, h.2.1, h.2.2.below hb⟩

theorem smallOp_any (ok on oN : Int) (ad : Option Addr) (nd cd : Nat) (ap : Option Addr) (np cp : Nat) (b : Bool) (w : World) (hb : decide (nd ≤ 3000 ∧ np ≤ 60) = b) :
    Calls Try.prog 12 #[.agg #[.int .i64 ok, .int .i64 on, .int .i64 oN, .slice ad nd cd, .slice ap np cp]] w fun e w' => e = .returned (.bool b) ∧ Below w.heap.size w w' := by
  have HB := Lib.hid hb
  clear hb
  have hb : Below w.heap.size w (w.alloc (.cells #[.int .i64 ok, .int .i64 on, .int .i64 oN, .slice ad nd cd, .slice ap np cp] 28)) := (Below.refl _ w).alloc (Nat.le_refl _) _
  have HBX := Lib.hid hb
  clear hb
  by_cases h1 : nd ≤ 3000
  · have HF : Hid (b = decide ((np : Int) ≤ 60)) := Lib.hid (by rw [← HB.out, Bool.eq_iff_iff, decide_eq_true_iff, decide_eq_true_iff]; omega)
    have d1 : decide ((nd : Int) ≤ 3000) = true := by simp; omega
    go_enter Try.func12, Try.ntmps12
    go_wp2
    go_ret
    exact ⟨by rw [HF.out]; rfl, HBX.out⟩
  · have HF : Hid (b = false) := Lib.hid (by rw [← HB.out]; exact decide_eq_false (fun h => h1 h.1))
    have d1 : decide ((nd : Int) ≤ 3000) = false := by simp; omega
    clear h1
    go_enter Try.func12, Try.ntmps12
    go_wp2
    go_ret
    exact ⟨by rw [HF.out]; rfl, HBX.out⟩

/-- The worlds behind the boxes of Do. -/
def obox (w : World) (ok on oN : Int) (ad : Option Addr) (nd cd : Nat) (ap : Option Addr) (np cp : Nat) : World := w.alloc (.cells #[.int .i64 ok, .int .i64 on, .int .i64 oN, .slice ad nd cd, .slice ap np cp] 28)
theorem obox_below (w : World) (ok on oN : Int) (ad : Option Addr) (nd cd : Nat) (ap : Option Addr) (np cp : Nat) : Below w.heap.size w (obox w ok on oN ad nd cd ap np cp) := (Below.refl _ w).alloc (Nat.le_refl _) _
theorem obox_size (w : World) (ok on oN : Int) (ad : Option Addr) (nd cd : Nat) (ap : Option Addr) (np cp : Nat) : (obox w ok on oN ad nd cd ap np cp).heap.size = w.heap.size + 1 := by simp [obox]
theorem obox_blok (w : World) (ok on oN : Int) (ad : Option Addr) (nd cd : Nat) (ap : Option Addr) (np cp : Nat) : Blok (obox w ok on oN ad nd cd ap np cp) w.heap.size 28 #[.int .i64 ok, .int .i64 on, .int .i64 oN, .slice ad nd cd, .slice ap np cp] := Blok.new w _ _
def dow (w : World) (k : Int) (a : Option Addr) (n c : Nat) (ok on oN : Int) (ad : Option Addr) (nd cd : Nat) (ap : Option Addr) (np cp : Nat) : World := dbox (dbox (obox (dbox w k a n c) ok on oN ad nd cd ap np cp) 0 none 0 0) k a n c
section
variable (w : World) (k : Int) (a : Option Addr) (n c : Nat) (ok on oN : Int) (ad : Option Addr) (nd cd : Nat) (ap : Option Addr) (np cp : Nat)
theorem dow_size : (dow w k a n c ok on oN ad nd cd ap np cp).heap.size = w.heap.size + 4 := by simp [dow, dbox, obox]
theorem dow_below : Below w.heap.size w (dow w k a n c ok on oN ad nd cd ap np cp) := by
  have h1 := dbox_below w k a n c
  have h2 := h1.trans ((obox_below _ ok on oN ad nd cd ap np cp).mono h1.size)
  have h3 := h2.trans ((dbox_below _ 0 none 0 0).mono h2.size)
  exact h3.trans ((dbox_below _ k a n c).mono h3.size)
theorem dow_d : Blok (dow w k a n c ok on oN ad nd cd ap np cp) w.heap.size 24 #[.int .i64 k, .slice a n c] := (((dbox_blok w k a n c).alloc _).alloc _).alloc _
theorem dow_o : Blok (dow w k a n c ok on oN ad nd cd ap np cp) (w.heap.size + 1) 28 #[.int .i64 ok, .int .i64 on, .int .i64 oN, .slice ad nd cd, .slice ap np cp] := by
  have h := ((obox_blok (dbox w k a n c) ok on oN ad nd cd ap np cp).alloc (.cells #[.int .i64 0, .slice none 0 0] 24)).alloc (.cells #[.int .i64 k, .slice a n c] 24)
  rwa [dbox_size] at h
theorem dow_r : Blok (dow w k a n c ok on oN ad nd cd ap np cp) (w.heap.size + 2) 24 #[.int .i64 0, .slice none 0 0] := by
  have h := (dbox_blok (obox (dbox w k a n c) ok on oN ad nd cd ap np cp) 0 none 0 0).alloc (.cells #[.int .i64 k, .slice a n c] 24)
  rwa [obox_size, dbox_size] at h
theorem dow_x : Blok (dow w k a n c ok on oN ad nd cd ap np cp) (w.heap.size + 3) 24 #[.int .i64 k, .slice a n c] := by
  have h := dbox_blok (dbox (obox (dbox w k a n c) ok on oN ad nd cd ap np cp) 0 none 0 0) k a n c
  rwa [dbox_size, obox_size, dbox_size] at h
end
theorem ok0 {w : World} {g : Nat} {x y z u v : Value} (h : Blok w g 28 #[x, y, z, u, v]) : w.cell? ⟨g, 0, none⟩ = some x := h.cell 0
theorem ok1 {w : World} {g : Nat} {x y z u v : Value} (h : Blok w g 28 #[x, y, z, u, v]) : w.cell? ⟨g, 1, none⟩ = some y := h.cell 1
theorem ok2 {w : World} {g : Nat} {x y z u v : Value} (h : Blok w g 28 #[x, y, z, u, v]) : w.cell? ⟨g, 2, none⟩ = some z := h.cell 2
theorem ok3 {w : World} {g : Nat} {x y z u v : Value} (h : Blok w g 28 #[x, y, z, u, v]) : w.cell? ⟨g, 3, none⟩ = some u := h.cell 3
theorem ok4 {w : World} {g : Nat} {x y z u v : Value} (h : Blok w g 28 #[x, y, z, u, v]) : w.cell? ⟨g, 4, none⟩ = some v := h.cell 4

end Go.Proofs.Ytcabhibbajkpkaa
