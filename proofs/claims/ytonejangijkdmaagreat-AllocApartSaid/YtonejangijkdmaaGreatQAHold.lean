
import Derived.Test.YtonejangijkdmaaGreatQI
import Derived.Test.YtonejangijkdmaaGreatYX
import Derived.Test.YtonejangijkdmaaGreatQYTwice
namespace Go.Proofs.YtonejangijkdmaaGreat
namespace Y
theorem apart {s : St} (hm : May s) {i k : Nat} {x y : L.Ls} (hx : s.l[i]? = some x) (hy : s.l[k]? = some y) (hne : i ≠ k) (ha : E.blkA s.d x.a x.b = E.blkA s.d y.a y.b) : E.blkT s.d x.a x.b < E.blkF s.d y.a y.b \/ E.blkT s.d y.a y.b < E.blkF s.d x.a x.b := by
 have hs := hm.2.2.2.2.2.1
 obtain ⟨hfx, _, _, a4, a5, a6, _⟩ := E.blk_in (hm.2.2.2.2.2.2.1 x (List.mem_of_getElem? hx)).2.1
 obtain ⟨_, _, _, b4, b5, b6, _⟩ := E.blk_in (hm.2.2.2.2.2.2.1 y (List.mem_of_getElem? hy)).2.1
 rw [a4, b4] at ha
 have hbl := hfx.bl
 obtain ⟨hi, ei⟩ := List.getElem?_eq_some_iff.1 hx
 obtain ⟨hk, ek⟩ := List.getElem?_eq_some_iff.1 hy
 have hlt : x.b < y.b \/ y.b < x.b := by
  rcases Nat.lt_or_gt_of_ne hne with h | h
  ·have := List.pairwise_iff_getElem.1 hs i k hi hk h
   rw [ei, ek] at this
   unfold L.Lt at this; omega
  ·have := List.pairwise_iff_getElem.1 hs k i hk hi h
   rw [ei, ek] at this
   unfold L.Lt at this; omega
 rcases hlt with h | h
 ·have := Int.mul_le_mul_of_nonneg_right (show x.b + 1 <= y.b by omega) (show 0 <= s.d.bl by omega)
  rw [Int.add_mul, Int.one_mul] at this
  omega
 ·have := Int.mul_le_mul_of_nonneg_right (show y.b + 1 <= x.b by omega) (show 0 <= s.d.bl by omega)
  rw [Int.add_mul, Int.one_mul] at this
  omega
theorem apart_base {s : St} (hm : May s) {i : Nat} {x : L.Ls} {sub : Int} (hx : s.l[i]? = some x) (hb : E.baseB s.d sub = true) : E.baseT s.d sub < E.blkF s.d x.a x.b := by
 obtain ⟨_, _, _, _, _, _, a7, _⟩ := E.blk_in (hm.2.2.2.2.2.2.1 x (List.mem_of_getElem? hx)).2.1
 obtain ⟨_, _, _, _, _, _, _, _, b9, _⟩ := E.base_in hb
 omega
theorem lies {s : St} (hm : May s) {i : Nat} {x : L.Ls} (hx : s.l[i]? = some x) : E.blkB s.d x.a x.b = true /\ s.d.lo <= E.blkF s.d x.a x.b /\ E.blkT s.d x.a x.b <= s.d.hi /\ 0 <= O.of s.ps (E.blkA s.d x.a x.b) := by
 have hk := hm.2.2.2.2.2.2.1 x (List.mem_of_getElem? hx)
 obtain ⟨hf, _, _, a4, a5, a6, a7, a8, a9, _⟩ := E.blk_in hk.2.1
 have := hf.lo
 have := hf.dy
 exact ⟨hk.2.1, by omega, a9, by rw [a4]; exact hk.2.2.1⟩
end Y
end Go.Proofs.YtonejangijkdmaaGreat
