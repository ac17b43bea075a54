import Derived.Deep.RegionWith
import Derived.Test.YtnbkkjcmblfhpaaGreatP21
import Derived.Test.YtnbkkjcmblfhpaaGreatP22
namespace Go.Proofs.YtnbkkjcmblfhpaaGreat
set_option maxHeartbeats 1000000
set_option maxRecDepth 100000
open Go.RowKit
theorem zyd (B : Nat) (k : Int) (a : Option Addr) (n c : Nat) (no : Int) (ab : Option Addr) (mb cb : Nat) (bb : List Int) (xs : List FP) (w : World) (hk : Blok w B 87 #[.int .i64 k, .slice a n c, .int .i64 no, .slice ab mb cb]) (hd : zf0 w a n c xs) (hs : D.small (FP.files xs)) (hbl : bb.length = mb) (hbr : zfv .u8 w ab cb bb) (hbz : ab = none -> mb = 0 /\ cb = 0) :
  Calls Tryz.prog 42 #[.pointer (some ⟨B, 0, none⟩)] w (G.RetP B no (.slice ab mb cb) (D.make (k, FP.files xs) no) w) := by
 have HK := Zh hk
 have HD := Zh hd
 have HS := Zh hs
 have HR := Zh (And.intro hbl (And.intro hbr hbz))
 obtain ⟨x0, x1, x2, x3⟩ := G.pk (hk.below (zaa w) hk.lt)
 clear hk hd hs hbl hbr hbz
 go_enter Tryz.func42, Tryz.ntmps42
 go_wp2_with fail
 go_region_with (go_at_call 85; refine (zyc k a n c no xs _ (HD.out.below (zaa w)) HS.out).mono ?_; rintro e w1 ⟨a1, n1, c1, ys, rfl, HD1, HF1, HX1, hb1⟩; have hb := (zaa w).trans hb1; have KB := Zh (HK.out.below hb HK.out.lt); clear hb1; obtain ⟨y0, y1, y2, y3⟩ := G.pk KB.out; have f0 := KB.out.frozen 0; have f1 := KB.out.frozen 1; have HB1 := Zh hb; clear hb x0 x1 x2 x3)
 all_goals (
  have HBl := Zh HK.out.lt
  have KB2 := Zh (G.put2 KB.out (.int .i64 (D.make (k, FP.files xs) no).1.1) (.slice a1 n1 c1))
  have HD2 := Zh (G.set_far HD1.out (HX1.out B HBl.out trivial) (.int .i64 (D.make (k, FP.files xs) no).1.1) (.slice a1 n1 c1))
  have HG2 := Zh ((zbx (L.below_none HB1.out) : w.grownBy w1 (some B)).trans (G.put2_grown (.int .i64 (D.make (k, FP.files xs) no).1.1) (.slice a1 n1 c1)))
  clear y0 y1 y2 y3 f0 f1
  go_wp2
  go_ret
  exact ⟨a1, n1, c1, ys, rfl, KB2, HD2, HF1, Zh (fun b hb => HX1.out b hb trivial), HG2.out⟩)
theorem zxp (B : Nat) (k : Int) (a : Option Addr) (n c : Nat) (no : Int) (ab : Option Addr) (mb cb : Nat) (bb : List Int) (xs : List FP) (w : World) (hk : Blok w B 87 #[.int .i64 k, .slice a n c, .int .i64 no, .slice ab mb cb]) (hd : zf0 w a n c xs) (hs : D.small (FP.files xs)) (hbl : bb.length = mb) (hbr : zfv .u8 w ab cb bb) (hbz : ab = none -> mb = 0 /\ cb = 0) :
  Calls Tryz.prog 43 #[.pointer (some ⟨B, 0, none⟩)] w (G.RetP B no (.slice ab mb cb) (D.write (k, FP.files xs) no bb) w) := by
 have HK := Zh hk
 have HD := Zh hd
 have HS := Zh hs
 have HR := Zh (And.intro hbl (And.intro hbr hbz))
 obtain ⟨x0, x1, x2, x3⟩ := G.pk (hk.below (zaa w) hk.lt)
 clear hk hd hs hbl hbr hbz
 go_enter Tryz.func43, Tryz.ntmps43
 go_wp2_with fail
 go_region_with (go_at_call 86; refine (zxo k a n c no ab mb cb bb xs _ (HD.out.below (zaa w)) HS.out HR.out.1 (HR.out.2.1.below (zaa w)) HR.out.2.2).mono ?_; rintro e w1 ⟨a1, n1, c1, ys, rfl, HD1, HF1, HX1, hb1⟩; have hb := (zaa w).trans hb1; have KB := Zh (HK.out.below hb HK.out.lt); clear hb1; obtain ⟨y0, y1, y2, y3⟩ := G.pk KB.out; have f0 := KB.out.frozen 0; have f1 := KB.out.frozen 1; have HB1 := Zh hb; clear hb x0 x1 x2 x3)
 all_goals (
  have HBl := Zh HK.out.lt
  have KB2 := Zh (G.put2 KB.out (.int .i64 (D.write (k, FP.files xs) no bb).1.1) (.slice a1 n1 c1))
  have HD2 := Zh (G.set_far HD1.out (HX1.out B HBl.out trivial) (.int .i64 (D.write (k, FP.files xs) no bb).1.1) (.slice a1 n1 c1))
  have HG2 := Zh ((zbx (L.below_none HB1.out) : w.grownBy w1 (some B)).trans (G.put2_grown (.int .i64 (D.write (k, FP.files xs) no bb).1.1) (.slice a1 n1 c1)))
  clear y0 y1 y2 y3 f0 f1
  go_wp2
  go_ret
  exact ⟨a1, n1, c1, ys, rfl, KB2, HD2, HF1, Zh (fun b hb => HX1.out b hb trivial), HG2.out⟩)
theorem zye (B : Nat) (k : Int) (a : Option Addr) (n c : Nat) (no : Int) (ab : Option Addr) (mb cb : Nat) (bb : List Int) (xs : List FP) (w : World) (hk : Blok w B 87 #[.int .i64 k, .slice a n c, .int .i64 no, .slice ab mb cb]) (hd : zf0 w a n c xs) (hs : D.small (FP.files xs)) (hbl : bb.length = mb) (hbr : zfv .u8 w ab cb bb) (hbz : ab = none -> mb = 0 /\ cb = 0) :
  Calls Tryz.prog 44 #[.pointer (some ⟨B, 0, none⟩)] w (G.RetP B no (.slice ab mb cb) (D.sync (k, FP.files xs) no) w) := by
 have HK := Zh hk
 have HD := Zh hd
 have HS := Zh hs
 have HR := Zh (And.intro hbl (And.intro hbr hbz))
 obtain ⟨x0, x1, x2, x3⟩ := G.pk (hk.below (zaa w) hk.lt)
 clear hk hd hs hbl hbr hbz
 go_enter Tryz.func44, Tryz.ntmps44
 go_wp2_with fail
 go_region_with (go_at_call 87; refine (zyb k a n c no xs _ (HD.out.below (zaa w)) HS.out).mono ?_; rintro e w1 ⟨a1, n1, c1, ys, rfl, HD1, HF1, HX1, hb1⟩; have hb := (zaa w).trans hb1; have KB := Zh (HK.out.below hb HK.out.lt); clear hb1; obtain ⟨y0, y1, y2, y3⟩ := G.pk KB.out; have f0 := KB.out.frozen 0; have f1 := KB.out.frozen 1; have HB1 := Zh hb; clear hb x0 x1 x2 x3)
 all_goals (
  have HBl := Zh HK.out.lt
  have KB2 := Zh (G.put2 KB.out (.int .i64 (D.sync (k, FP.files xs) no).1.1) (.slice a1 n1 c1))
  have HD2 := Zh (G.set_far HD1.out (HX1.out B HBl.out trivial) (.int .i64 (D.sync (k, FP.files xs) no).1.1) (.slice a1 n1 c1))
  have HG2 := Zh ((zbx (L.below_none HB1.out) : w.grownBy w1 (some B)).trans (G.put2_grown (.int .i64 (D.sync (k, FP.files xs) no).1.1) (.slice a1 n1 c1)))
  clear y0 y1 y2 y3 f0 f1
  go_wp2
  go_ret
  exact ⟨a1, n1, c1, ys, rfl, KB2, HD2, HF1, Zh (fun b hb => HX1.out b hb trivial), HG2.out⟩)
end Go.Proofs.YtnbkkjcmblfhpaaGreat
