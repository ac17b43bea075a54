/-
  lease.Find, lease.Clean.
-/
import Derived.Test.YtbnhaoimdponkaaLPick
namespace Go.Proofs.Ytbnhaoimdponkaa
open Go.RowKit

theorem enters_had : Enters Try.prog 54 := enters_of Try.func54 (by kernel_rfl) rfl
theorem enters_kept : Enters Try.prog 62 := enters_of Try.func62 (by kernel_rfl) rfl
set_option maxHeartbeats 400000 in
theorem find_any (a : Option Addr) (n c : Nat) (l : List L.Ls) (at' blk r : Int) (hr : L.find l at' blk = r) (w : World) (h : RIn w a n c l) (hn : n ≤ 1000) :
    Calls Try.prog 17 #[.slice a n c, .int .i64 at', .int .i64 blk] w fun e w' => e = .returned (.int .i64 r) ∧ Below w.heap.size w w' := by
  obtain ⟨W0, hW0⟩ : ∃ W, w.alloc (.cells #[.int .i64 at', .int .i64 blk] 60) = W := ⟨_, rfl⟩
  have B0 : Below w.heap.size w W0 := by rw [← hW0]; exact (Below.refl _ w).alloc (Nat.le_refl _) _
  have K0 : Blok W0 w.heap.size 60 #[.int .i64 at', .int .i64 blk] := by rw [← hW0]; exact Blok.new w _ _
  have cl := leases_is a n c l W0 (h.below B0) hn
  have HR := Lib.hid hr
  clear h hr
  go_enter Try.func17, Try.ntmps17
  go_wp2_with fail
  refine cl.mono ?_
  rintro e w2 ⟨a2, c2, rfl, hr2, hb2, -⟩
  have HB2 := Lib.hid (B0.trans (hb2.mono B0.size))
  have K2 : Blok w2 w.heap.size 60 #[.int .i64 at', .int .i64 blk] := K0.below hb2 K0.lt
  have cp := had_any (w2.heap.size + 2) a2 n c2 (l.map L.had) 37 (enters_of Try.func37 (by kernel_rfl) rfl) #[.pointer (some ⟨w.heap.size, 0, none⟩)] _ w2 hr2.out (find1 w.heap.size at' blk w2 K2 w2.heap.size (w2.heap.size + 2) K2.lt (by have := K2.lt; omega)) ⟨by omega, by omega⟩ (hr2.out.off (by omega))
  clear cl hW0 B0 K0 hb2 K2
  go_wp2_with fail
  refine cp.mono ?_
  rintro e w3 ⟨bl, rfl, hG, hb3, hs3⟩
  have HB3 := Lib.hid (HB2.out.trans (hb3.mono HB2.out.size))
  have cf := lfirst_any 54 enters_had bl _ _ _ _ (-1) r w3 hG (by omega) (by rw [L.hd_pl]; exact HR.out)
  clear cp hG hb3
  go_wp2_with fail
  refine cf.mono ?_
  rintro e w4 ⟨rfl, hb4⟩
  have HB4 := Lib.hid (HB3.out.trans (hb4.mono HB3.out.size))
  clear cf hb4
  go_wp2
  go_ret
  exact ⟨rfl, HB4.out⟩

theorem L.picks_pl {α : Type} (p : α → Bool) (l : List α) : L.picks l (L.pl p l) = l.filter p := L.pl_map p l
theorem picked_any (a : Option Addr) (m c : Nat) (l k : List L.T3) (F : FuncId) (hE : Enters Try.prog F) (lb : Array Value) (H X : Nat) (p : L.T3 → Bool) (hk : l.filter p = k) (w : World) (h : RIn w a m c l) (hG : Gives F lb H X l.length (L.pl p l) w) (hH : H ≤ w.heap.size) (hm : m ≤ 1000) :
    Calls Try.prog 48 #[.slice a m c, .func (.func F) #[] lb] w fun e w' => ∃ v, e = .returned v ∧ Hid (w'.ownsRow w.heap.size 45 3 v k.length (L.flat k)) ∧ Below w.heap.size w w' :=
  ((callsIn_wide (n := 6)).1 (picked_in 6 (by omega) a m c l F hE lb H X _ w h hG hH hm)).mono fun e w' ⟨v, he, ho, hb⟩ => by
    refine ⟨v, he, Lib.hid ?_, hb⟩
    rw [← L.picks_len, L.picks_pl, hk] at ho
    exact ho
set_option maxHeartbeats 400000 in
theorem clean_run (a : Option Addr) (n c : Nat) (l k : List L.T3) (now : Int) (hk : L.clean l now = k) (w : World) (h : RIn w a n c l) (hn : n ≤ 1000) :
    Calls Try.prog 26 #[.slice a n c, .int .i64 now] w fun e w' => ∃ v, e = .returned v ∧ Hid (w'.ownsRow w.heap.size 45 3 v k.length (L.flat k)) ∧ Below w.heap.size w w' := by
  obtain ⟨W0, hW0⟩ : ∃ W, w.alloc (.cells #[.int .i64 now] 3) = W := ⟨_, rfl⟩
  have B0 : Below w.heap.size w W0 := by rw [← hW0]; exact (Below.refl _ w).alloc (Nat.le_refl _) _
  have K0 : Blok W0 w.heap.size 3 #[.int .i64 now] := by rw [← hW0]; exact Blok.new w _ _
  have cl := helds_is a n c l W0 (h.below B0) hn
  have HR := Lib.hid hk
  have HT := Lib.hid h
  clear h hk
  go_enter Try.func26, Try.ntmps26
  go_wp2_with fail
  refine cl.mono ?_
  rintro e w2 ⟨a2, c2, rfl, hr2, hb2, -⟩
  have HB2 := Lib.hid (B0.trans (hb2.mono B0.size))
  have K2 : Blok w2 w.heap.size 3 #[.int .i64 now] := K0.below hb2 K0.lt
  have cp := kept_any (w2.heap.size + 2) a2 n c2 l 53 (enters_of Try.func53 (by kernel_rfl) rfl) #[.pointer (some ⟨w.heap.size, 0, none⟩)] _ w2 hr2.out (clean1 w.heap.size now w2 K2 w2.heap.size (w2.heap.size + 2) K2.lt (by have := K2.lt; omega)) ⟨by omega, by omega⟩ (hr2.out.off (by omega))
  clear cl hW0 B0 K0 hb2 K2
  go_wp2_with fail
  refine cp.mono ?_
  rintro e w3 ⟨bl, rfl, hG, hb3, hs3⟩
  have HB3 := Lib.hid (HB2.out.trans (hb3.mono HB2.out.size))
  have cf := picked_any a n c l k 62 enters_kept bl _ _ _ HR.out w3 (HT.out.below HB3.out) hG (by omega) hn
  clear cp hG hb3
  go_wp2_with fail
  refine cf.mono ?_
  rintro e w4 ⟨v, rfl, ho, hb4⟩
  have HB4 := Lib.hid (HB3.out.trans (hb4.mono HB3.out.size))
  have HO : Hid (w4.ownsRow w.heap.size 45 3 v k.length (L.flat k)) := Lib.hid (ownsRow_base ho.out HB3.out.size)
  clear cf hb4 ho
  go_wp2
  go_ret
  exact ⟨_, rfl, HO, HB4.out⟩
theorem clean_any (a : Option Addr) (n c : Nat) (l k : List L.T3) (n2 : Nat) (now : Int) (hk : L.clean l now = k) (hn2 : k.length = n2) (w : World) (h : RIn w a n c l) (hn : n ≤ 1000) :
    Calls Try.prog 26 #[.slice a n c, .int .i64 now] w fun e w' => ∃ a2 c2, e = .returned (.slice a2 n2 c2) ∧ Hid (RIn w' a2 n2 c2 k) ∧ Below w.heap.size w w' :=
  (clean_run a n c l k now hk w h hn).mono fun e w' ⟨v, he, ho, hb⟩ => by
    rw [hn2] at ho
    obtain ⟨a2, c2, rfl, ht⟩ := own_t3 ho.out hn2
    exact ⟨a2, c2, he, Lib.hid ht, hb⟩
end Go.Proofs.Ytbnhaoimdponkaa
