/-
  What the walks of stage 6's laws share.
-/
import Derived.Test.YtcabhibbajkpkaaDAwake
import Derived.Test.YtcabhibbajkpkaaDDo
import Derived.Test.YtcabhibbajkpkaaDLaws
namespace Go.Proofs.Ytcabhibbajkpkaa
open Go.RowKit

theorem law2_o (w : World) (k : Int) (a : Option Addr) (n c : Nat) (ok on oN : Int) (ad : Option Addr) (nd cd : Nat) (ap : Option Addr) (np cp : Nat) : Blok (obox (dbox w k a n c) ok on oN ad nd cd ap np cp) (w.heap.size + 1) 28 #[.int .i64 ok, .int .i64 on, .int .i64 oN, .slice ad nd cd, .slice ap np cp] := by
  have h := obox_blok (dbox w k a n c) ok on oN ad nd cd ap np cp
  rwa [dbox_size] at h
theorem law2_d (w : World) (k : Int) (a : Option Addr) (n c : Nat) (ok on oN : Int) (ad : Option Addr) (nd cd : Nat) (ap : Option Addr) (np cp : Nat) : Blok (obox (dbox w k a n c) ok on oN ad nd cd ap np cp) w.heap.size 24 #[.int .i64 k, .slice a n c] := (dbox_blok w k a n c).alloc _
theorem law2_below (w : World) (k : Int) (a : Option Addr) (n c : Nat) (ok on oN : Int) (ad : Option Addr) (nd cd : Nat) (ap : Option Addr) (np cp : Nat) : Below w.heap.size w (obox (dbox w k a n c) ok on oN ad nd cd ap np cp) := (dbox_below w k a n c).trans ((obox_below _ ok on oN ad nd cd ap np cp).mono (dbox_below w k a n c).size)
theorem D.op_cap (k no n : Int) (b ps : List Int) (d : D.T) : (D.op k no n b ps d).1.1 = d.1 := by
  unfold D.op
  split
  · exact D.make_cap d no
  · split
    · exact D.write_cap d no b
    · split
      · exact D.sync_cap d no
      · split
        · exact D.cut_cap d no n
        · split
          · exact D.drop_cap d no
          · exact D.crash_cap d ps
end Go.Proofs.Ytcabhibbajkpkaa
