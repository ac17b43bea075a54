import Derived.Test.YtijkbflimbffmaaGreatP0
namespace Go.Proofs.YtijkbflimbffmaaGreat
set_option maxHeartbeats 1000000
set_option maxRecDepth 100000
open Go.RowKit
def zph (L K : List Int) (w : World) (e : Ending) (w' : World) : Prop := e = .returned (.bool (decide (L = K))) /\ Below w.heap.size w w'
theorem zq4 (a a' : Option Addr) (n m cap cap' : Nat) (L K : List Int) (w : World) (hl : L.length = n) (hk : K.length = m) (h : n ≠ m) :
  Calls Tryz.prog 52 #[.slice a n cap, .slice a' m cap'] w (zph L K w) := by
 have HD := Zh (decide_eq_false (fun e : L = K => h (by rw [<- hl, <- hk, e])))
 have hd : ((n : Int) != m) = true := by simp; omega
 clear h hl hk
 go_enter Tryz.func52, Tryz.ntmps52
 go_wp2
 go_ret
 exact ⟨by rw [HD.out]; rfl, Below.refl _ _⟩
theorem zos (a a' : Option Addr) (cap cap' : Nat) (w : World) :
  Calls Tryz.prog 52 #[.slice a 0 cap, .slice a' 0 cap'] w (zph [] [] w) := by
 go_enter Tryz.func52, Tryz.ntmps52
 go_wp2
 refine wp_loop_rounds 1 ?_
 rw [rounds_succ]
 go_wp2
 go_ret
 exact ⟨rfl, Below.refl _ _⟩
theorem zpy {L K : List Int} {k : Nat} {x y : Int} (hx : L.getD k 0 = x) (hy : K.getD k 0 = y) (h : (x != y) = true) : decide (L = K) = false := by
 refine decide_eq_false fun e => ?_
 rw [<- hx, <- hy, e] at h
 simp at h
theorem zq5 {L K : List Int} {k : Nat} {x y : Int} (hl : k < L.length) (hk : k < K.length) (h : L.take k = K.take k) (hx : L.getD k 0 = x) (hy : K.getD k 0 = y) (he : (x != y) = false) : L.take (k + 1) = K.take (k + 1) := by
 rw [List.take_succ_eq_append_getElem hl, List.take_succ_eq_append_getElem hk, h]
 simp [hl] at hx
 simp [hk] at hy
 simp at he
 rw [hx, hy, he]
theorem zq6 {L K : List Int} {k : Nat} (hl : L.length <= k) (hk : K.length <= k) (h : L.take k = K.take k) : decide (L = K) = true := by
 rw [List.take_of_length_le hl, List.take_of_length_le hk] at h
 exact decide_eq_true h
theorem zsk (b off b' off' n cap cap' : Nat) (L K : List Int) (w : World) (hl : L.length = n) (hk : K.length = n) (hm : n <= 9223372036854775807) (hb : b < w.heap.size) (hb' : b' < w.heap.size)
  (hc : ∀ i, i < L.length -> w.cell? ⟨b, off + i, none⟩ = some (.int .u8 (L.getD i 0))) (hc' : ∀ i, i < K.length -> w.cell? ⟨b', off' + i, none⟩ = some (.int .u8 (K.getD i 0))) :
  Calls Tryz.prog 52 #[.slice (some ⟨b, off, none⟩) n cap, .slice (some ⟨b', off', none⟩) n cap'] w (zph L K w) := by
 have HL := Zh hl
 have HK := Zh hk
 clear hl hk
 go_enter Tryz.func52, Tryz.ntmps52
 go_wp2
 go_loopw [13] (fun i wr => ∃ k : Nat, i = .int .i64 k /\ k <= n /\ Hid (L.take k = K.take k) /\ Below w.heap.size w wr) (fun i _ => n - (intOf i).toNat)
 case atStart => exact ⟨0, rfl, by omega, Zh (by simp), Below.refl _ _⟩
 case round =>
  obtain ⟨k, rfl, hkn, HT, hB⟩ := hrel
  by_cases hlt : k < n
  ·obtain ⟨x, hx⟩ : ∃ x, L.getD k 0 = x := ⟨_, rfl⟩
   obtain ⟨y, hy⟩ : ∃ y, K.getD k 0 = y := ⟨_, rfl⟩
   have c1 : wr.cell? ⟨b, off + k, none⟩ = some (.int .u8 x) := by rw [<- hx]; exact (hB.cell (p := ⟨b, off + k, none⟩) hb).trans (hc k (by rw [HL.out]; exact hlt))
   have c2 : wr.cell? ⟨b', off' + k, none⟩ = some (.int .u8 y) := by rw [<- hy]; exact (hB.cell (p := ⟨b', off' + k, none⟩) hb').trans (hc' k (by rw [HK.out]; exact hlt))
   have HX := Zh hx
   have HY := Zh hy
   clear hx hy hc hc'
   have hi0 : (0 : Int) <= (k : Int) := by omega
   have hi1 : (k : Int) < (n : Int) := by omega
   go_wp2
   go_quiet (fail)
   go_wp2
   ·have hne : (x != y) = true := by assumption
    go_ret
    exact ⟨by rw [zpy HX.out HY.out hne]; rfl, (hB.trans (zad _ _ _))⟩
   ·have heq : (x != y) = false := by assumption
    go_roundw
    case rel => exact ⟨k + 1, by go_num, by omega, Zh (zq5 (by rw [HL.out]; exact hlt) (by rw [HK.out]; exact hlt) HT.out HX.out HY.out heq), hB.trans (zad _ _ _)⟩
    case measure => simp [intOf]; omega
  ·have HE := Zh (zq6 (by rw [HL.out]; omega) (by rw [HK.out]; omega) HT.out)
   have hd : decide (k < n) = false := by simp; omega
   clear hc hc'
   go_wp2
   go_ret
   exact ⟨by rw [HE.out]; rfl, hB⟩
theorem zpz (a a' : Option Addr) (n m cap cap' : Nat) (L K : List Int) (w : World) (hl : L.length = n) (hk : K.length = m) (h : zfv .u8 w a cap L) (h' : zfv .u8 w a' cap' K) :
  Calls Tryz.prog 52 #[.slice a n cap, .slice a' m cap'] w (zph L K w) := by
 by_cases hnm : n = m
 ·subst hnm
  rcases h.2.2 with rfl | ⟨b, off, rfl, hb, hc⟩
  ·obtain rfl : n = 0 := by simpa using hl.symm
   obtain rfl : K = [] := List.eq_nil_of_length_eq_zero hk
   exact zos a a' cap cap' w
  ·rcases h'.2.2 with rfl | ⟨b', off', rfl, hb', hc'⟩
   ·obtain rfl : n = 0 := by simpa using hk.symm
    obtain rfl : L = [] := List.eq_nil_of_length_eq_zero hl
    exact zos _ _ cap cap' w
   ·exact zsk b off b' off' n cap cap' L K w hl hk (by have := h.1; unfold maxLen at this; omega) hb hb' hc hc'
 ·exact zq4 a a' n m cap cap' L K w hl hk hnm
end Go.Proofs.YtijkbflimbffmaaGreat
