/-
  Walks of moorings/bitmap.turn, Take, Give, Has and New.
-/
import Derived.Test.YtbnhaoimdponkaaUBitOf
import Derived.Deep.RegionWith
import Derived.WalkMore
namespace Go.Proofs.Ytbnhaoimdponkaa
open Go.RowKit

/-- A result in a cell: a map, and what else there is. -/
theorem ret_used2 {fn : Func} {p u : Tmp} (h : fn.results = #[.cell p 42, .tmp u]) {tmps : Array Value} {w : World} (g : Nat) (a b : Int) {x : Value}
    (hp : tmps.getD p undef = .pointer (some ⟨g, 0, none⟩)) (hu : tmps.getD u undef = x) (hg : Blok w g 42 #[.int .i64 a, .int .i64 b]) :
    (results fn tmps).run Try.prog w = .ok (.tuple #[.agg #[.int .i64 a, .int .i64 b], x]) w := by
  have hp' : tmps[p]?.getD undef = .pointer (some ⟨g, 0, none⟩) := by simpa using hp
  have hu' : tmps[u]?.getD undef = x := by simpa using hu
  have hl := run_loadVar_row (P := Try.prog) w g 42 42 #[.int .i64 a, .int .i64 b] (0, 0) _ hg Try.underlying42 rfl (by kernel_rfl)
  simp [results, h, hp', hu', asAddr, hl, Result.andThen]
/-- A map stored into its own cell. -/
theorem fin_used {w W : World} (g : Nat) (hg : w.heap.size ≤ g) {u v : Value} (hk : Blok W g 42 #[u, v]) (hB : Below w.heap.size w W) (a b : Int) :
    Blok ((W.setCell ⟨g, 0, none⟩ (.int .i64 a)).setCell ⟨g, 1, none⟩ (.int .i64 b)) g 42 #[.int .i64 a, .int .i64 b] ∧
    Below w.heap.size w ((W.setCell ⟨g, 0, none⟩ (.int .i64 a)).setCell ⟨g, 1, none⟩ (.int .i64 b)) := by
  refine ⟨?_, (hB.setCell (p := ⟨g, 0, none⟩) hg _).setCell (p := ⟨g, 1, none⟩) hg _⟩
  have := (hk.set 0 (.int .i64 a)).set 1 (.int .i64 b)
  simpa using this

/-- Behind the boxes of a map and of a result. -/
def ubox2 (w : World) (n u : Int) : World := ubox (ubox w n u) 0 0
theorem ubox2_below (w : World) (n u : Int) : Below w.heap.size w (ubox2 w n u) := (ubox_below w n u).trans ((ubox_below _ 0 0).mono (ubox_below w n u).size)
theorem ubox2_u (w : World) (n u : Int) : Blok (ubox2 w n u) w.heap.size 42 #[.int .i64 n, .int .i64 u] := (ubox_blok w n u).alloc _
theorem ubox2_r (w : World) (n u : Int) : Blok (ubox2 w n u) (w.heap.size + 1) 42 #[.int .i64 0, .int .i64 0] := by
  have := ubox_blok (ubox w n u) 0 0
  rwa [ubox_size] at this

theorem U.at_facts {n u i x : Int} (h : U.at' n u i = x) (hx : 0 ≤ x) : U.may n u = true ∧ (∃ I : Nat, i = I ∧ (I : Int) < n ∧ I < 8 ∧ U.num (U.bit u I) = x) := by
  unfold U.at' at h
  split at h
  · rename_i hh
    simp at hh
    obtain ⟨⟨h1, h2⟩, h3⟩ := hh
    have := U.may_iff.1 h1
    refine ⟨h1, i.toNat, by omega, by omega, by omega, h⟩
  · omega

set_option maxHeartbeats 400000 in
theorem turn_no (n u i must : Int) (w : World) (h : U.at' n u i ≠ must) : Calls Try.prog 81 #[.agg #[.int .i64 n, .int .i64 u], .int .i64 i, .int .i64 must] w fun e w' => e = .returned (.tuple #[.agg #[.int .i64 n, .int .i64 u], .bool false]) ∧ Below w.heap.size w w' := by
  have HB := Lib.hid (ubox2_below w n u)
  have HU := Lib.hid (ubox2_u w n u)
  have HR := Lib.hid (ubox2_r w n u)
  obtain ⟨t, ht⟩ : ∃ t, U.at' n u i = t := ⟨_, rfl⟩
  have hc := bitOf_any n u i t (ubox2 w n u) ht
  have g : (t != must) = true := by rw [ht] at h; simpa using h
  clear h ht
  go_enter Try.func81, Try.ntmps81
  go_wp2_with fail
  refine hc.mono ?_
  rintro e w1 ⟨rfl, hb1⟩
  have hu := HU.out.below hb1 HU.out.lt
  have hs := HR.out.below hb1 HR.out.lt
  have c0 := u0 hu
  have c1 := u1 hu
  have d0 := u0 hs
  have d1 := u1 hs
  have f0 := hs.frozen 0
  have f1 := hs.frozen 1
  have HFP := Lib.hid (fin_used (w := w) (w.heap.size + 1) (by omega) hs (HB.out.trans (hb1.mono HB.out.size)) n u)
  clear hb1 hu hs
  go_wp2
  refine bodyPost_ret (ret_used2 rfl (w.heap.size + 1) n u (by kernel_rfl) rfl HFP.out.1) rfl ?_
  exact ⟨rfl, HFP.out.2⟩

set_option maxHeartbeats 400000 in
theorem turn_yes (n u must x : Int) (I : Nat) (w : World) (h : U.at' n u I = must) (hI : I < 8) (hx : bits .xor .i64 u (wrap64 (2 ^ I)) = x) : Calls Try.prog 81 #[.agg #[.int .i64 n, .int .i64 u], .int .i64 I, .int .i64 must] w fun e w' => e = .returned (.tuple #[.agg #[.int .i64 n, .int .i64 x], .bool true]) ∧ Below w.heap.size w w' := by
  have HB := Lib.hid (ubox2_below w n u)
  have HU := Lib.hid (ubox2_u w n u)
  have HR := Lib.hid (ubox2_r w n u)
  have hc := bitOf_any n u I must (ubox2 w n u) h
  have HX := Lib.hid hx
  clear h hx
  go_enter Try.func81, Try.ntmps81
  go_wp2_with fail
  refine hc.mono ?_
  rintro e w1 ⟨rfl, hb1⟩
  have hu := HU.out.below hb1 HU.out.lt
  have hs := HR.out.below hb1 HR.out.lt
  have c0 := u0 hu
  have c1 := u1 hu
  have f0 := hu.frozen 0
  have f1 := hu.frozen 1
  have HB1 := Lib.hid (HB.out.trans (hb1.mono HB.out.size))
  have HU1 := Lib.hid hu
  have HR1 := Lib.hid hs
  clear hb1 hu hs
  go_wp2_with fail
  go_region
  clear c0 c1 f0 f1
  rw [HX.out]
  obtain ⟨w2, hw2⟩ : ∃ w2, (w1.setCell ⟨w.heap.size, 1, none⟩ (.int .i64 x)).drew = w2 := ⟨_, rfl⟩
  have hu : Blok w2 w.heap.size 42 #[.int .i64 n, .int .i64 x] := by rw [← hw2]; have := (HU1.out.set 1 (.int .i64 x)).drew; simpa using this
  have hs : Blok w2 (w.heap.size + 1) 42 #[.int .i64 0, .int .i64 0] := by rw [← hw2]; exact (HR1.out.far (p := ⟨w.heap.size, 1, none⟩) (by simp) _).drew
  have hb : Below w.heap.size w w2 := by rw [← hw2]; exact (HB1.out.setCell (p := ⟨w.heap.size, 1, none⟩) (by simp) _).drew
  rw [hw2]
  have c0 := u0 hu
  have c1 := u1 hu
  have f0 := hs.frozen 0
  have f1 := hs.frozen 1
  have d0 := u0 hs
  have d1 := u1 hs
  have HFP := Lib.hid (fin_used (w := w) (w.heap.size + 1) (by omega) hs hb n x)
  clear hw2 hu hs hb
  go_wp2
  refine bodyPost_ret (ret_used2 rfl (w.heap.size + 1) n x (by kernel_rfl) rfl HFP.out.1) rfl ?_
  exact ⟨rfl, HFP.out.2⟩

theorem U.xor_all : ∀ v, v < 256 → ∀ i, i < 8 → bits .xor .i64 (v : Nat) (wrap64 (2 ^ i)) = if U.bit (v : Nat) i then (v : Int) - 2 ^ i else v + 2 ^ i := by decide +kernel
theorem U.xor_of {n u : Int} {i : Nat} (h : U.may n u = true) (hi : i < 8) : bits .xor .i64 u (wrap64 (2 ^ i)) = if U.bit u i then u - 2 ^ i else u + 2 ^ i := by
  obtain ⟨m, v, rfl, rfl, -, -, hv⟩ := U.may_cases h
  exact U.xor_all v hv i hi

/-- turn, at whatever map and block: from a bit that is 0, or 1. -/
theorem turnOff_any (n u i x : Int) (b : Bool) (w : World) (hb : U.off n u i = b) (hx : U.take n u i = x) : Calls Try.prog 81 #[.agg #[.int .i64 n, .int .i64 u], .int .i64 i, .int .i64 0] w fun e w' => e = .returned (.tuple #[.agg #[.int .i64 n, .int .i64 x], .bool b]) ∧ Below w.heap.size w w' := by
  unfold U.take at hx
  rw [hb] at hx
  cases b
  · have : U.at' n u i ≠ 0 := by unfold U.off at hb; simpa using hb
    subst hx
    exact turn_no n u i 0 w this
  · have h0 : U.at' n u i = 0 := by unfold U.off at hb; simpa using hb
    obtain ⟨hm, I, rfl, h1, h2, h3⟩ := U.at_facts h0 (by omega)
    refine turn_yes n u 0 x I w h0 h2 ?_
    rw [U.xor_of hm h2]
    have hbit : U.bit u I = false := by cases h : U.bit u I with | false => rfl | true => rw [h] at h3; simp [U.num] at h3
    rw [hbit, ← hx]; simp
theorem turnOn_any (n u i x : Int) (b : Bool) (w : World) (hb : U.has n u i = b) (hx : U.give n u i = x) : Calls Try.prog 81 #[.agg #[.int .i64 n, .int .i64 u], .int .i64 i, .int .i64 1] w fun e w' => e = .returned (.tuple #[.agg #[.int .i64 n, .int .i64 x], .bool b]) ∧ Below w.heap.size w w' := by
  unfold U.give at hx
  rw [hb] at hx
  cases b
  · have : U.at' n u i ≠ 1 := by unfold U.has at hb; simpa using hb
    subst hx
    exact turn_no n u i 1 w this
  · have h0 : U.at' n u i = 1 := by unfold U.has at hb; simpa using hb
    obtain ⟨hm, I, rfl, h1, h2, h3⟩ := U.at_facts h0 (by omega)
    refine turn_yes n u 1 x I w h0 h2 ?_
    rw [U.xor_of hm h2]
    have hbit : U.bit u I = true := by cases h : U.bit u I with | true => rfl | false => rw [h] at h3; simp [U.num] at h3
    rw [hbit, ← hx]; simp

set_option maxHeartbeats 400000 in
theorem take_any (n u i x : Int) (b : Bool) (w : World) (hb : U.off n u i = b) (hx : U.take n u i = x) : Calls Try.prog 58 #[.agg #[.int .i64 n, .int .i64 u], .int .i64 i] w fun e w' => e = .returned (.tuple #[.agg #[.int .i64 n, .int .i64 x], .bool b]) ∧ Below w.heap.size w w' := by
  have HB := Lib.hid (ubox2_below w n u)
  have HR := Lib.hid (ubox2_r w n u)
  have hc := turnOff_any n u i x b (ubox2 w n u) hb hx
  clear hb hx
  go_enter Try.func58, Try.ntmps58
  go_wp2_with fail
  refine hc.mono ?_
  rintro e w1 ⟨rfl, hb1⟩
  have hs := HR.out.below hb1 HR.out.lt
  have d0 := u0 hs
  have d1 := u1 hs
  have f0 := hs.frozen 0
  have f1 := hs.frozen 1
  have HFP := Lib.hid (fin_used (w := w) (w.heap.size + 1) (by omega) hs (HB.out.trans (hb1.mono HB.out.size)) n x)
  clear hb1 hs
  go_wp2
  refine bodyPost_ret (ret_used2 rfl (w.heap.size + 1) n x (by kernel_rfl) rfl HFP.out.1) rfl ?_
  exact ⟨rfl, HFP.out.2⟩

set_option maxHeartbeats 400000 in
theorem uhas_any (n u i : Int) (b : Bool) (w : World) (hb : U.has n u i = b) : Calls Try.prog 20 #[.agg #[.int .i64 n, .int .i64 u], .int .i64 i] w fun e w' => e = .returned (.bool b) ∧ Below w.heap.size w w' := by
  have HB := Lib.hid (ubox_below w n u)
  obtain ⟨t, ht⟩ : ∃ t, U.at' n u i = t := ⟨_, rfl⟩
  have hc := bitOf_any n u i t (ubox w n u) ht
  have g : (t == 1) = b := by rw [← hb]; unfold U.has; rw [ht]; rfl
  have HG := Lib.hid g
  clear hb ht g
  go_enter Try.func20, Try.ntmps20
  go_wp2_with fail
  refine hc.mono ?_
  rintro e w1 ⟨rfl, hb1⟩
  go_wp2
  go_ret
  exact ⟨by rw [← HG.out]; rfl, HB.out.trans (hb1.mono HB.out.size)⟩

def U.newN (n : Int) : Int := if U.may n 0 then n else 0
set_option maxHeartbeats 400000 in
theorem new_any (n x : Int) (b : Bool) (w : World) (hb : U.may n 0 = b) (hx : U.newN n = x) : Calls Try.prog 39 #[.int .i64 n] w fun e w' => e = .returned (.tuple #[.agg #[.int .i64 x, .int .i64 0], .bool b]) ∧ Below w.heap.size w w' := by
  obtain ⟨wb, hwb⟩ : ∃ wb, ubox (ubox w 0 0) n 0 = wb := ⟨_, rfl⟩
  have HB : Hid (Below w.heap.size w wb) := Lib.hid (by rw [← hwb]; exact (ubox_below w 0 0).trans ((ubox_below _ n 0).mono (ubox_below w 0 0).size))
  have HR : Hid (Blok wb w.heap.size 42 #[.int .i64 0, .int .i64 0]) := Lib.hid (by rw [← hwb]; exact (ubox_blok w 0 0).alloc _)
  have HU : Hid (Blok wb (w.heap.size + 1) 42 #[.int .i64 n, .int .i64 0]) := Lib.hid (by rw [← hwb]; have := ubox_blok (ubox w 0 0) n 0; rwa [ubox_size] at this)
  have hc := umay_any n 0 b wb hb
  have HW := Lib.hid hwb
  unfold U.newN at hx
  rw [hb] at hx
  clear hb hwb
  cases b
  · have HX : Hid (x = 0) := Lib.hid hx.symm
    clear hx
    go_enter Try.func39, Try.ntmps39
    go_wp2_with fail
    change Calls _ _ _ (ubox (ubox w 0 0) n 0) _
    rw [HW.out]
    refine hc.mono ?_
    rintro e w1 ⟨rfl, hb1⟩
    have hs := HR.out.below hb1 HR.out.lt
    have d0 := u0 hs
    have d1 := u1 hs
    have f0 := hs.frozen 0
    have f1 := hs.frozen 1
    have HFP := Lib.hid (fin_used (w := w) w.heap.size (by omega) hs (HB.out.trans (hb1.mono HB.out.size)) 0 0)
    clear hb1 hs
    go_wp2
    refine bodyPost_ret (ret_used2 rfl w.heap.size 0 0 (by kernel_rfl) rfl HFP.out.1) rfl ?_
    exact ⟨by rw [HX.out]; rfl, HFP.out.2⟩
  · have HX : Hid (x = n) := Lib.hid hx.symm
    clear hx
    go_enter Try.func39, Try.ntmps39
    go_wp2_with fail
    change Calls _ _ _ (ubox (ubox w 0 0) n 0) _
    rw [HW.out]
    refine hc.mono ?_
    rintro e w1 ⟨rfl, hb1⟩
    have hs := HR.out.below hb1 HR.out.lt
    have hu := HU.out.below hb1 HU.out.lt
    have c0 := u0 hu
    have c1 := u1 hu
    have d0 := u0 hs
    have d1 := u1 hs
    have f0 := hs.frozen 0
    have f1 := hs.frozen 1
    have HFP := Lib.hid (fin_used (w := w) w.heap.size (by omega) hs (HB.out.trans (hb1.mono HB.out.size)) n 0)
    clear hb1 hs hu
    go_wp2
    refine bodyPost_ret (ret_used2 rfl w.heap.size n 0 (by kernel_rfl) rfl HFP.out.1) rfl ?_
    exact ⟨by rw [HX.out]; rfl, HFP.out.2⟩
end Go.Proofs.Ytbnhaoimdponkaa
